import PyProof.Rows.All
import Wide.All
import OpenK.AllK
import Wide.FinOn
import PySem.Challenge.RW_seer_k01_divisor
set_option Elab.async false
set_option maxRecDepth 100000
/-! What all four laws share: a for over range(0, b, c) that keeps nothing from turn to turn, and the numbers that a cell draws. -/
namespace My
open PySem PySem.W PySem.Calls PyProof.Rows PySem.Spec
theorem size_step {b c : Int} (hc : 0 < c) (hb : 0 < b) : Builtin.Range.rangeSize 0 b c = (((b - 1) / c + 1).toNat : Int) := by
  have h0 : 0 ≤ (b - 1) / c := Int.ediv_nonneg (by omega) (by omega)
  unfold Builtin.Range.rangeSize
  rw [if_pos hc, if_pos hb, Int.sub_zero]
  omega
theorem small_step {b c : Int} (hc : 0 < c) (hb : 0 < b) (hc9 : c ≤ 1000) (hb9 : b ≤ 1000) : Builtin.Range.small 0 b c = true := by
  have h0 : 0 ≤ (b - 1) / c := Int.ediv_nonneg (by omega) (by omega)
  have h1 : (b - 1) / c ≤ b - 1 := Int.ediv_le_self _ (by omega)
  unfold Builtin.Range.small
  rw [size_step hc hb]
  simp only [Builtin.Range.rangeFitsLong, Bool.and_eq_true, Bool.or_eq_true, decide_eq_true_eq, beq_iff_eq]
  rw [if_pos hc]
  simp only [Bool.and_eq_true, decide_eq_true_eq]
  refine ⟨⟨⟨⟨?_, ?_⟩, ?_⟩, ?_⟩, Or.inr ?_⟩ <;> omega
theorem under_step {b c : Int} {i : Nat} (hc : 0 < c) (hb : 0 < b) (hi : i < ((b - 1) / c + 1).toNat) : 0 ≤ (i : Int) * c ∧ (i : Int) * c < b := by
  have h0 : 0 ≤ (b - 1) / c := Int.ediv_nonneg (by omega) (by omega)
  have h1 : (i : Int) ≤ (b - 1) / c := by omega
  have h2 := Int.mul_le_of_le_ediv hc h1
  have h3 : 0 ≤ (i : Int) * c := Int.mul_nonneg (by omega) (by omega)
  omega
section
variable {prog : Program} {w : World} {A : Around} {E : Value → Shared → Prop} {s : Shared} {env : Env} {h₀ : Heap} {x : Str} {body : List Stmt} {Q : Flow → Shared → Prop}
abbrev Same (news : List (Addr × Obj)) (x : Str) (stored : List Str) (m₀ : Str → Option Value) : (Str → Option Value) → List (Addr × Obj) → Prop :=
  KstS (σ := Unit) (fun _ => news) (fun _ => []) (fun _ => True) x stored m₀ (fun _ _ => True) []
theorem step_loop {r : Addr} {b c : Int} {t₀ u₀ v₀ : Tok} {m₀ : Str → Option Value} {news : List (Addr × Obj)} (stored : List Str) (hh : A.handled = none)
    (hr : IsRange s.heap r 0 b c t₀ u₀ v₀) (hc : 0 < c) (hc9 : c ≤ 1000) (hb : 0 < b) (hb9 : b ≤ 1000) (F : Fr h₀ env.locals s.heap m₀) (N : News h₀ env.locals s.heap news)
    (turn : ∀ (k : Int) (t : Tok) (u : Str → Option Value) (h : Heap) (tk : Nat) (own : List (Addr × Obj)), 0 ≤ k → k < b → OwnOff own (news.map (·.1)) →
      Fr h₀ env.locals h (fun y => if y = x then some (.int k t) else kstB (fun z => if stored.contains z then u z else m₀ z) [] y) → News h₀ env.locals h (news ++ own) →
      wpAny (model prog w) A (execs body env) (InvPostN h₀ env.locals (KstS (σ := Unit) (fun _ => news) (fun _ => []) (fun _ => True) x stored m₀ (fun _ _ => True) []) own (news.map (·.1)) { s with heap := h, toks := tk } Q) E { s with heap := h, toks := tk })
    (done : ∀ (u : Str → Option Value) (h : Heap) (tk : Nat), Fr h₀ env.locals h (fun y => if y = x then u y else kstB (fun z => if stored.contains z then u z else m₀ z) [] y) → News h₀ env.locals h news →
      Q .next { s with heap := h, toks := tk }) :
    wpAny (model prog w) A (pyIter (.ref r)) (fun it s₂ => LoopAtV prog w A h₀ env x body Q E it s₂) E s := by
  refine wpAny_pyIter_range hr (small_step hc hb hc9 hb9) ?_
  have W := Walks.range (prog := prog) (w := w) hh s.heap.objs.size 0 c ((b - 1) / c + 1).toNat
  have no : ∀ p ∈ news, p.1 ∉ [s.heap.objs.size] := fun p hp q => absurd (Heap.lt_size (N p hp).1) (by rw [List.mem_singleton.mp q]; exact Nat.lt_irrefl _)
  have st : IsRangeIter (s.heap.push { cls := .type "range_iterator", data := .fields #[rawInt 0, rawInt (Builtin.Range.rangeSize 0 b c), rawInt c] }) s.heap.objs.size (0 + ((0 : Nat) : Int) * c) ((((b - 1) / c + 1).toNat : Int) - ((0 : Nat) : Int)) c := by
    show IsRangeIter _ _ _ _ _
    rw [size_step hc hb]
    simpa using Heap.get?_push_size _ rfl
  refine loop_invN (fun _ m nx => Same news x stored m₀ m nx) W (fun q => absurd F.ns.lt (by rw [List.mem_singleton.mp q]; exact Nat.lt_irrefl _)) (fun q hq => by rw [List.mem_singleton.mp hq]; exact next_is_new F) no no st (F.push _)
    (fun p hp => ⟨Heap.get?_push_of_some _ (N p hp).1, (N p hp).2⟩) ⟨(), rfl, True.intro, List.forall_mem_nil _, fun _ _ _ _ => rfl, True.intro⟩ ?_ ?_
  · rintro i v m₁ nx h tk own hi ⟨t, rfl⟩ _ off ⟨_, rfl, _, k1, k2, _⟩ F₁ N₁
    have lim := under_step hc hb hi
    rw [Int.zero_add] at F₁
    exact turn _ t m₁ h tk own lim.1 lim.2 off (kst_fr k1 k2 F₁) N₁
  · rintro m₁ nx h tk ⟨_, rfl, _, k1, k2, _⟩ F₁ N₁
    exact done m₁ h tk (kst_frOut k1 k2 F₁) N₁
end
end My

set_option maxRecDepth 100000
namespace My
open PySem PySem.W PySem.Calls PyProof.Rows PySem.Spec
/-- a cell of the script has at most 2 ^ 20 bits -/
structure Cell (v : Int) : Prop where
  bits : Builtin.Int.intBits v ≤ 2 ^ 20
theorem bits_zero : Builtin.Int.intBits 0 ≤ 2 ^ 20 := by unfold Builtin.Int.intBits; simp
theorem cell_at {ns : List Int} (h : PyData.layable0 (.list (ns.map .int)) = true) (i : Int) : Cell (cellAt ns i 0) := by
  refine ⟨?_⟩
  rw [cellAt_def, List.getD_eq_getElem?_getD]
  cases e : ns[i.toNat]? with
  | none => exact bits_zero
  | some v => exact PyData.bits_item_of_ints h (List.mem_of_getElem? e)
section
variable {prog : Program} {w : World} {A : Around} {E : Value → Shared → Prop} {s : Shared} {x y : Int} {t u : Tok} {Q : Value → Shared → Prop}
theorem with_cell {ns : List Int} {i : Int} {f : Value} (hL : PyData.layable0 (.list (ns.map .int)) = true) (h : Cell (cellAt ns i 0) → wpAny (model prog w) A (call f [.int (cellAt ns i 0) t]) Q E s) :
    wpAny (model prog w) A (call f [.int (cellAt ns i 0) t]) Q E s := h (cell_at hL i)
theorem bits_fdiv {v : Int} (h : Cell v) : Builtin.Int.intBits (Int.fdiv v 5) ≤ 2 ^ 20 := by
  have hb := h.bits
  unfold Builtin.Int.intBits at hb ⊢
  rw [Int.fdiv_eq_ediv_of_nonneg v (by decide)]
  by_cases z : v / 5 = 0
  · simp [z]
  · have hv : v ≠ 0 := by omega
    rw [if_neg (by simpa using hv)] at hb
    rw [if_neg (by simpa using z)]
    have hn : (v / 5).natAbs ≤ v.natAbs := by omega
    have h1 : v.natAbs.log2 < 2 ^ 20 := by omega
    have h2 : v.natAbs < 2 ^ (2 ^ 20) := (Nat.log2_lt (by omega)).mp h1
    have h3 : (v / 5).natAbs.log2 < 2 ^ 20 := (Nat.log2_lt (by omega)).mpr (Nat.lt_of_le_of_lt hn h2)
    omega
/-- the wide product of a cell -/
@[irreducible] def wide (v : Int) : Int := Int.fdiv v 5 * 48271 ^ Int.toNat 14
theorem step_wide {v : Int} (hv : Cell v) (h : Q (.int (wide v) s.toks) { s with toks := s.toks + 1 }) :
    wpAny (model prog w) A (binaryOp .Mult (.int (Int.fdiv v 5) t) (.int (48271 ^ Int.toNat 14) u)) Q E s := by
  unfold wide at h
  exact PyProof.Rows.mul_int h (IntMulOk.of_bits (bits_fdiv hv) (Nat.le_trans (PyProof.Rows.intBits_le (k := 256) (by decide +kernel)) (by decide)))
@[irreducible] def T60 : Int := 10 ^ 60
@[irreducible] def T9 : Int := 10 ^ 9
theorem T60_eq : T60 = 1000000000000000000000000000000000000000000000000000000000000 := by unfold T60; decide +kernel
theorem T9_eq : T9 = 1000000000 := by unfold T9; decide +kernel
theorem step_pow60 (h : Q (.int T60 s.toks) { s with toks := s.toks + 1 }) : wpAny (model prog w) A (binaryOp .Pow (.int 10 t) (.int 60 u)) Q E s := by
  refine PyProof.Rows.pow_int_small (by decide) (by decide) (by decide) ?_
  unfold T60 at h
  exact h
theorem step_pow9 (h : Q (.int T9 s.toks) { s with toks := s.toks + 1 }) : wpAny (model prog w) A (binaryOp .Pow (.int 10 t) (.int 9 u)) Q E s := by
  refine PyProof.Rows.pow_int_small (by decide) (by decide) (by decide) ?_
  unfold T9 at h
  exact h
theorem step_two (h : Q (.int (2 * y) s.toks) { s with toks := s.toks + 1 }) : wpAny (model prog w) A (binaryOp .Mult (.int 2 t) (.int y u)) Q E s :=
  PyProof.Rows.mul_int h (PySem.IntMulOk.of_left (PySem.intBits_le_64 (by decide) (by decide)))
theorem step_mod60 (h : Q (.int (Int.fmod x (2 * T60 - 1)) s.toks) { s with toks := s.toks + 1 }) : wpAny (model prog w) A (binaryOp .Mod (.int x t) (.int (2 * T60 - 1) u)) Q E s :=
  PyProof.Rows.mod_int (by have := T60_eq; omega) h
theorem step_mod9 (h : Q (.int (Int.fmod x (2 * T9 + 1)) s.toks) { s with toks := s.toks + 1 }) : wpAny (model prog w) A (binaryOp .Mod (.int x t) (.int (2 * T9 + 1) u)) Q E s :=
  PyProof.Rows.mod_int (by have := T9_eq; omega) h
/-- the number that a cell draws -/
def numb (v : Int) : Int :=
  if Int.fmod v 5 = 0 then Int.fmod (wide v) 13 - 6
  else if Int.fmod v 5 = 1 then Int.fmod (wide v) 2001 - 1000
  else if Int.fmod v 5 = 2 then Int.fmod (wide v) (2 * T60 - 1) - (T60 - 1)
  else if Int.fmod v 5 = 3 then Int.fmod (wide v) (2 * T9 + 1) - T9
  else Int.fmod (wide v) 9
theorem numb_in (n : Int) : -T60 ≤ numb n ∧ numb n ≤ T60 := by
  unfold numb
  generalize wide n = w
  have e := T60_eq
  have e9 := T9_eq
  have a1 := Int.fmod_nonneg_of_pos w (show (0 : Int) < 13 by decide)
  have b1 := Int.fmod_lt_of_pos w (show (0 : Int) < 13 by decide)
  have a2 := Int.fmod_nonneg_of_pos w (show (0 : Int) < 2001 by decide)
  have b2 := Int.fmod_lt_of_pos w (show (0 : Int) < 2001 by decide)
  have a3 := Int.fmod_nonneg_of_pos w (show (0 : Int) < 2 * T60 - 1 by omega)
  have b3 := Int.fmod_lt_of_pos w (show (0 : Int) < 2 * T60 - 1 by omega)
  have a4 := Int.fmod_nonneg_of_pos w (show (0 : Int) < 2 * T9 + 1 by omega)
  have b4 := Int.fmod_lt_of_pos w (show (0 : Int) < 2 * T9 + 1 by omega)
  have a5 := Int.fmod_nonneg_of_pos w (show (0 : Int) < 9 by decide)
  have b5 := Int.fmod_lt_of_pos w (show (0 : Int) < 9 by decide)
  refine ⟨?_, ?_⟩ <;> (repeat' split) <;> omega
theorem numb_bits (n : Int) : Builtin.Int.intBits (numb n) ≤ 256 := by
  have h := numb_in n
  rw [T60_eq] at h
  refine PyProof.Rows.intBits_le ?_
  have p : (2 : Nat) ^ 256 = 115792089237316195423570985008687907853269984665640564039457584007913129639936 := by decide
  rw [p]
  omega
theorem numb_0 {v : Int} (h : Int.fmod v 5 = 0) : Int.fmod (wide v) 13 - 6 = numb v := by unfold numb; rw [if_pos h]
theorem numb_1 {v : Int} (h : Int.fmod v 5 = 1) : Int.fmod (wide v) 2001 - 1000 = numb v := by
  unfold numb; rw [if_neg (by omega), if_pos h]
theorem numb_2 {v : Int} (h : Int.fmod v 5 = 2) : Int.fmod (wide v) (2 * T60 - 1) - (T60 - 1) = numb v := by
  unfold numb; rw [if_neg (by omega), if_neg (by omega), if_pos h]
theorem numb_3 {v : Int} (h : Int.fmod v 5 = 3) : Int.fmod (wide v) (2 * T9 + 1) - T9 = numb v := by
  unfold numb; rw [if_neg (by omega), if_neg (by omega), if_neg (by omega), if_pos h]
theorem numb_4 {v : Int} (h0 : ¬ Int.fmod v 5 = 0) (h1 : ¬ Int.fmod v 5 = 1) (h2 : ¬ Int.fmod v 5 = 2) (h3 : ¬ Int.fmod v 5 = 3) : Int.fmod (wide v) 9 = numb v := by
  unfold numb; rw [if_neg h0, if_neg h1, if_neg h2, if_neg h3]
end
end My

set_option maxHeartbeats 4000000
namespace K01
/-- the greatest whole number that divides both, from 0 on -/
def G (a b : Int) : Int := (Int.gcd a b : Nat)
def ab (a : Int) : Int := if a < 0 then -a else a
theorem G_nonneg (a b : Int) : 0 ≤ G a b := Int.natCast_nonneg _
theorem G_zero {a b : Int} (h0 : 0 ≤ a) (h : b = 0) : G a b = a := by
  subst h
  unfold G
  rw [Int.gcd_zero_right]
  omega
theorem G_turn {a b : Int} (hb : 0 < b) : G b (Int.fmod a b) = G a b := by
  unfold G
  rw [Int.fmod_eq_emod_of_nonneg a (Int.le_of_lt hb)]
  have e : Int.gcd b (a % b) = Int.gcd b a := by
    rw [Int.emod_def, Int.sub_eq_add_neg, ← Int.mul_neg]
    exact Int.gcd_add_mul_left_right _ _ _
  rw [e, Int.gcd_comm]
theorem G_abs (a b : Int) : G (if a < 0 then -a else a) (if b < 0 then -b else b) = G a b := by
  unfold G
  split <;> split <;> simp [Int.gcd_neg, Int.neg_gcd]
theorem G_zz : G 0 0 = 0 := by unfold G; simp
theorem G_pos {a b : Int} (h : ¬ (a = 0 ∧ b = 0)) : 0 < G a b := by
  have h0 := G_nonneg a b
  have h1 : G a b ≠ 0 := by
    unfold G
    intro e
    have e' : Int.gcd a b = 0 := by omega
    exact h (Int.gcd_eq_zero_iff.mp e')
  omega
theorem fmod_of_dvd {d a : Int} (hd : 0 ≤ d) (h : d ∣ a) : Int.fmod a d = 0 := by
  rw [Int.fmod_eq_emod_of_nonneg a hd]
  exact Int.emod_eq_zero_of_dvd h
theorem one_fmod (a b : Int) : Int.fmod a (G a b) = 0 := fmod_of_dvd (G_nonneg a b) (Int.gcd_dvd_left a b)
theorem other_fmod (a b : Int) : Int.fmod b (G a b) = 0 := fmod_of_dvd (G_nonneg a b) (Int.gcd_dvd_right a b)
theorem third_dvd (x y c : Int) : c ∣ G (x * c) (y * c) := by
  unfold G
  exact Int.dvd_coe_gcd (Int.dvd_mul_left x c) (Int.dvd_mul_left y c)
theorem third_fmod (x y c : Int) : Int.fmod (G (x * c) (y * c)) c = 0 := by
  exact Int.fmod_eq_zero_of_dvd (third_dvd x y c)
end K01

open PySem PySem.W PyProof.Rows
namespace K01
open PySem PySem.W PyProof.Rows My
theorem G_fact (a b : Int) : 0 ≤ G a b ∧ (G a b = 0 → a = 0 ∧ b = 0) ∧ (a = 0 → b = 0 → G a b = 0) := by
  refine ⟨G_nonneg a b, fun h => ?_, fun h1 h2 => ?_⟩
  · by_cases c : a = 0 ∧ b = 0
    · exact c
    · have := G_pos c; omega
  · rw [h1, h2]; exact G_zz
theorem start (a b : Int) : (0 ≤ if a < 0 then -a else a) ∧ (0 ≤ if b < 0 then -b else b) ∧ G (if a < 0 then -a else a) (if b < 0 then -b else b) = G a b := by
  refine ⟨?_, ?_, G_abs a b⟩ <;> split <;> omega
theorem turn {a b l r : Int} (h : G l r = G a b) (l0 : 0 ≤ l) (r0 : 0 ≤ r) (hr : ¬ r = 0) : 0 ≤ r ∧ 0 ≤ Int.fmod l r ∧ G r (Int.fmod l r) = G a b :=
  ⟨r0, Int.fmod_nonneg_of_pos l (by omega), by rw [G_turn (by omega)]; exact h⟩
theorem less {l r : Int} (r0 : 0 ≤ r) (hr : ¬ r = 0) : (Int.fmod l r).toNat < r.toNat := by
  have := Int.fmod_lt_of_pos l (show 0 < r by omega)
  have := Int.fmod_nonneg_of_pos l (show 0 < r by omega)
  omega
theorem out {a b l r : Int} (h : G l r = G a b) (l0 : 0 ≤ l) (r0 : 0 ≤ r) (hr : r ≤ 0) : l = G a b := by
  rw [← h, G_zero l0 (by omega)]
theorem ne_a {x c : Int} (h : ¬ x * c = 0) : c ≠ 0 := fun e => h (by rw [e, Int.mul_zero])
section
variable {prog : Program} {w : World} {A : Around} {E : Value → Shared → Prop} {s : Shared} {a b x y c : Int} {t u : Tok} {Q : Value → Shared → Prop}
theorem step_prod (h : Q (.int (numb a * numb b) s.toks) { s with toks := s.toks + 1 }) : wpAny (model prog w) A (binaryOp .Mult (.int (numb a) t) (.int (numb b) u)) Q E s :=
  PyProof.Rows.mul_int h (IntMulOk.of_bits (Nat.le_trans (numb_bits a) (by decide)) (Nat.le_trans (numb_bits b) (by decide)))
theorem step_one (hg : G a b ≠ 0) (h : Q (.int 0 s.toks) { s with toks := s.toks + 1 }) : wpAny (model prog w) A (binaryOp .Mod (.int a t) (.int (G a b) u)) Q E s :=
  PyProof.Rows.mod_int hg (by rw [one_fmod]; exact h)
theorem step_other (hg : G a b ≠ 0) (h : Q (.int 0 s.toks) { s with toks := s.toks + 1 }) : wpAny (model prog w) A (binaryOp .Mod (.int b t) (.int (G a b) u)) Q E s :=
  PyProof.Rows.mod_int hg (by rw [other_fmod]; exact h)
theorem step_third (hc : c ≠ 0) (h : Q (.int 0 s.toks) { s with toks := s.toks + 1 }) : wpAny (model prog w) A (binaryOp .Mod (.int (G (x * c) (y * c)) t) (.int c u)) Q E s :=
  PyProof.Rows.mod_int hc (by rw [third_fmod]; exact h)
end
end K01
local macro_rules | `(tactic| walk_at "binaryOp Pow int int") => `(tactic| (k_here; first | with_reducible refine' My.step_pow60 ?_ | with_reducible refine' My.step_pow9 ?_))
local macro_rules | `(tactic| walk_at "binaryOp Mod int int") => `(tactic| (k_here; first | with_reducible refine' My.step_mod60 ?_ | with_reducible refine' My.step_mod9 ?_))
local macro_rules | `(tactic| walk_at "binaryOp Mod int int") => `(tactic| (k_here; first
  | ((with_reducible refine' K01.step_one ?k1 ?_); (case k1 => k_dflt omega))
  | ((with_reducible refine' K01.step_other ?k1 ?_); (case k1 => k_dflt omega))
  | ((with_reducible refine' K01.step_third ?k1 ?_); (case k1 => first | exact K01.ne_a (by assumption)))))
local macro_rules | `(tactic| walk_at "binaryOp Mult int int") => `(tactic| (k_here; with_reducible refine' My.step_two ?_))
local macro_rules | `(tactic| walk_at "binaryOp Mult int int") => `(tactic| (k_here; with_reducible refine' K01.step_prod ?_))
local macro_rules | `(tactic| walk_at "binaryOp Mult int int") => `(tactic| (k_here; (with_reducible refine' My.step_wide ?k1 ?_); (case k1 => assumption)))
local macro_rules | `(tactic| walk_at "InvEndN") => `(tactic| (k_dflt ksr_close))
set_option maxRecDepth 100000 in
set_option maxHeartbeats 8000000 in
open_top head for PySem.Challenge.rw_seer_k01_divisor
set_option maxRecDepth 100000 in
set_option maxHeartbeats 8000000 in
theorem PySem.Challenge.cw_seer_k01_divisor_holds : PySem.Challenge.rw_seer_k01_divisor.Holds :=
  head (by
    k_with "call ref" => (k_call_by "divisor" K01.G)
    k_with "call ref" => (k_call_by "_law_greatest" K01.G)
    k_with "call ref" => ((k_dflt (refine My.with_cell (by assumption) ?_)); intro hcell; (k_call_by "_law_number" My.numb (fun v => My.Cell v)))
    k_with "fact divisor" => exact K01.G_fact
    k_with "fact _law_greatest" => exact K01.G_fact
    k_with "tree" => (first | exact K01.out (by assumption) (by omega) (by omega) (by omega) | exact My.numb_0 (by assumption) | exact My.numb_1 (by assumption) | exact My.numb_2 (by assumption) | exact My.numb_3 (by assumption) | exact My.numb_4 (by assumption) (by assumption) (by assumption) (by assumption))
    k_with "state" => (first | exact K01.start _ _ | exact K01.turn (by assumption) (by omega) (by omega) (by omega))
    k_with "measure" => (first | exact K01.less (by omega) (by omega))
    k_with "exec While Compare cons nil" => (k_while_given ["one", "other"] (fun one other _ l r => 0 ≤ l ∧ 0 ≤ r ∧ K01.G l r = K01.G one other) (fun _ _ _ _ r => r.toNat) "left" "right")
    k_with "exec While Compare cons nil" => (k_while_given ["_law_one", "_law_other"] (fun one other _ l r => 0 ≤ l ∧ 0 ≤ r ∧ K01.G l r = K01.G one other) (fun _ _ _ _ r => r.toNat) "_law_left" "_law_right")
    k_with "pyIter ref" => ((with_reducible show wpAny _ _ (pyIter (Value.ref _)) (fun it s₂ => LoopAtV _ _ _ _ _ _ _ _ _ it s₂) _ _); k_here; (rename Fr _ _ _ _ => lF'); (rename News _ _ _ _ => lN'); (rename IsRange _ _ _ _ _ _ _ _ => rgX); (with_unfolding_all refine' My.step_loop [Str.ofString "_law_third", Str.ofString "_law_one", Str.ofString "_law_other", Str.ofString "_law_found"] (by rfl) rgX (by decide) (by decide) (by omega) (by omega) lF' lN' ?_ ?_); (all_goals (try clear lF' lN' rgX)); (rotate_left; (intro kU kH kTk kFr kNews; have kMark := kstMark; (try dsimp only [kstB] at kFr); (try dsimp only at kNews)); rotate_left; (intro kN kT kU kH kTk kOwn hk0 hkb kOff kFr kNews; have kMark := kstMark; (try dsimp only [kstB] at kFr); (try dsimp only at kNews); (try simp only [List.nil_append, List.cons_append, List.append_nil] at kNews); (try dsimp only at kOff); (try simp only [List.map_cons, List.map_nil] at kOff))); (all_goals (try k_fold)))
    w_strict k_go)
