import PyProof.Rows.All
import Wide.All
import OpenK.AllK
import Wide.FinOn
import PySem.Challenge.RW_seer_k03_stretches_together
import KE.KState
import KE.KCellOne
import PyProof.FitsBits
import KE.KCallBy
import PyProof.WalkInts
import KE.KLcTest
set_option Elab.async false
section
set_option maxRecDepth 100000
/-! What all four laws share: a for over range(0, b, c) that keeps nothing from turn to turn, and the numbers that a cell draws. -/
namespace My
open PySem PySem.W PySem.Calls PyProof.Rows PySem.Spec
theorem size_step {b c : Int} (hc : 0 < c) (hb : 0 < b) : Builtin.Range.rangeSize 0 b c = (((b - 1) / c + 1).toNat : Int) := by
  have h0 : 0 ≤ (b - 1) / c := Int.ediv_nonneg (by omega) (by omega)
  unfold Builtin.Range.rangeSize
  rw [if_pos hc, if_pos hb, Int.sub_zero]
  omega
theorem small_step {b c : Int} (hc : 0 < c) (hb : 0 < b) (hc9 : c ≤ 1000) (hb9 : b ≤ 1000) : Builtin.Range.small 0 b c = true := by
  have h0 : 0 ≤ (b - 1) / c := Int.ediv_nonneg (by omega) (by omega)
  have h1 : (b - 1) / c ≤ b - 1 := Int.ediv_le_self _ (by omega)
  unfold Builtin.Range.small
  rw [size_step hc hb]
  simp only [Builtin.Range.rangeFitsLong, Bool.and_eq_true, Bool.or_eq_true, decide_eq_true_eq, beq_iff_eq]
  rw [if_pos hc]
  simp only [Bool.and_eq_true, decide_eq_true_eq]
  refine ⟨⟨⟨⟨?_, ?_⟩, ?_⟩, ?_⟩, Or.inr ?_⟩ <;> omega
theorem under_step {b c : Int} {i : Nat} (hc : 0 < c) (hb : 0 < b) (hi : i < ((b - 1) / c + 1).toNat) : 0 ≤ (i : Int) * c ∧ (i : Int) * c < b := by
  have h0 : 0 ≤ (b - 1) / c := Int.ediv_nonneg (by omega) (by omega)
  have h1 : (i : Int) ≤ (b - 1) / c := by omega
  have h2 := Int.mul_le_of_le_ediv hc h1
  have h3 : 0 ≤ (i : Int) * c := Int.mul_nonneg (by omega) (by omega)
  omega
section
variable {prog : Program} {w : World} {A : Around} {E : Value → Shared → Prop} {s : Shared} {env : Env} {h₀ : Heap} {x : Str} {body : List Stmt} {Q : Flow → Shared → Prop}
abbrev Same (news : List (Addr × Obj)) (x : Str) (stored : List Str) (m₀ : Str → Option Value) : (Str → Option Value) → List (Addr × Obj) → Prop :=
  KstS (σ := Unit) (fun _ => news) (fun _ => []) (fun _ => True) x stored m₀ (fun _ _ => True) []
theorem step_loop {r : Addr} {b c : Int} {t₀ u₀ v₀ : Tok} {m₀ : Str → Option Value} {news : List (Addr × Obj)} (stored : List Str) (hh : A.handled = none)
    (hr : IsRange s.heap r 0 b c t₀ u₀ v₀) (hc : 0 < c) (hc9 : c ≤ 1000) (hb : 0 < b) (hb9 : b ≤ 1000) (F : Fr h₀ env.locals s.heap m₀) (N : News h₀ env.locals s.heap news)
    (turn : ∀ (k : Int) (t : Tok) (u : Str → Option Value) (h : Heap) (tk : Nat) (own : List (Addr × Obj)), 0 ≤ k → k < b → OwnOff own (news.map (·.1)) →
      Fr h₀ env.locals h (fun y => if y = x then some (.int k t) else kstB (fun z => if stored.contains z then u z else m₀ z) [] y) → News h₀ env.locals h (news ++ own) →
      wpAny (model prog w) A (execs body env) (InvPostN h₀ env.locals (KstS (σ := Unit) (fun _ => news) (fun _ => []) (fun _ => True) x stored m₀ (fun _ _ => True) []) own (news.map (·.1)) { s with heap := h, toks := tk } Q) E { s with heap := h, toks := tk })
    (done : ∀ (u : Str → Option Value) (h : Heap) (tk : Nat), Fr h₀ env.locals h (fun y => if y = x then u y else kstB (fun z => if stored.contains z then u z else m₀ z) [] y) → News h₀ env.locals h news →
      Q .next { s with heap := h, toks := tk }) :
    wpAny (model prog w) A (pyIter (.ref r)) (fun it s₂ => LoopAtV prog w A h₀ env x body Q E it s₂) E s := by
  refine wpAny_pyIter_range hr (small_step hc hb hc9 hb9) ?_
  have W := Walks.range (prog := prog) (w := w) hh s.heap.objs.size 0 c ((b - 1) / c + 1).toNat
  have no : ∀ p ∈ news, p.1 ∉ [s.heap.objs.size] := fun p hp q => absurd (Heap.lt_size (N p hp).1) (by rw [List.mem_singleton.mp q]; exact Nat.lt_irrefl _)
  have st : IsRangeIter (s.heap.push { cls := .type "range_iterator", data := .fields #[rawInt 0, rawInt (Builtin.Range.rangeSize 0 b c), rawInt c] }) s.heap.objs.size (0 + ((0 : Nat) : Int) * c) ((((b - 1) / c + 1).toNat : Int) - ((0 : Nat) : Int)) c := by
    show IsRangeIter _ _ _ _ _
    rw [size_step hc hb]
    simpa using Heap.get?_push_size _ rfl
  refine loop_invN (fun _ m nx => Same news x stored m₀ m nx) W (fun q => absurd F.ns.lt (by rw [List.mem_singleton.mp q]; exact Nat.lt_irrefl _)) (fun q hq => by rw [List.mem_singleton.mp hq]; exact next_is_new F) no no st (F.push _)
    (fun p hp => ⟨Heap.get?_push_of_some _ (N p hp).1, (N p hp).2⟩) ⟨(), rfl, True.intro, List.forall_mem_nil _, fun _ _ _ _ => rfl, True.intro⟩ ?_ ?_
  · rintro i v m₁ nx h tk own hi ⟨t, rfl⟩ _ off ⟨_, rfl, _, k1, k2, _⟩ F₁ N₁
    have lim := under_step hc hb hi
    rw [Int.zero_add] at F₁
    exact turn _ t m₁ h tk own lim.1 lim.2 off (kst_fr k1 k2 F₁) N₁
  · rintro m₁ nx h tk ⟨_, rfl, _, k1, k2, _⟩ F₁ N₁
    exact done m₁ h tk (kst_frOut k1 k2 F₁) N₁
end
end My
end
section
set_option maxRecDepth 100000
namespace My
open PySem PySem.W PySem.Calls PyProof.Rows PySem.Spec
/-- a cell of the script has at most 2 ^ 20 bits -/
structure Cell (v : Int) : Prop where
  bits : Builtin.Int.intBits v ≤ 2 ^ 20
theorem bits_zero : Builtin.Int.intBits 0 ≤ 2 ^ 20 := by unfold Builtin.Int.intBits; simp
theorem cell_at {ns : List Int} (h : PyData.layable0 (.list (ns.map .int)) = true) (i : Int) : Cell (cellAt ns i 0) := by
  refine ⟨?_⟩
  rw [cellAt_def, List.getD_eq_getElem?_getD]
  cases e : ns[i.toNat]? with
  | none => exact bits_zero
  | some v => exact PyData.bits_item_of_ints h (List.mem_of_getElem? e)
section
variable {prog : Program} {w : World} {A : Around} {E : Value → Shared → Prop} {s : Shared} {x y : Int} {t u : Tok} {Q : Value → Shared → Prop}
theorem with_cell {ns : List Int} {i : Int} {f : Value} (hL : PyData.layable0 (.list (ns.map .int)) = true) (h : Cell (cellAt ns i 0) → wpAny (model prog w) A (call f [.int (cellAt ns i 0) t]) Q E s) :
    wpAny (model prog w) A (call f [.int (cellAt ns i 0) t]) Q E s := h (cell_at hL i)
theorem bits_fdiv {v : Int} (h : Cell v) : Builtin.Int.intBits (Int.fdiv v 5) ≤ 2 ^ 20 := by
  have hb := h.bits
  unfold Builtin.Int.intBits at hb ⊢
  rw [Int.fdiv_eq_ediv_of_nonneg v (by decide)]
  by_cases z : v / 5 = 0
  · simp [z]
  · have hv : v ≠ 0 := by omega
    rw [if_neg (by simpa using hv)] at hb
    rw [if_neg (by simpa using z)]
    have hn : (v / 5).natAbs ≤ v.natAbs := by omega
    have h1 : v.natAbs.log2 < 2 ^ 20 := by omega
    have h2 : v.natAbs < 2 ^ (2 ^ 20) := (Nat.log2_lt (by omega)).mp h1
    have h3 : (v / 5).natAbs.log2 < 2 ^ 20 := (Nat.log2_lt (by omega)).mpr (Nat.lt_of_le_of_lt hn h2)
    omega
/-- the wide product of a cell -/
@[irreducible] def wide (v : Int) : Int := Int.fdiv v 5 * 48271 ^ Int.toNat 14
theorem step_wide {v : Int} (hv : Cell v) (h : Q (.int (wide v) s.toks) { s with toks := s.toks + 1 }) :
    wpAny (model prog w) A (binaryOp .Mult (.int (Int.fdiv v 5) t) (.int (48271 ^ Int.toNat 14) u)) Q E s := by
  unfold wide at h
  exact PyProof.Rows.mul_int h (IntMulOk.of_bits (bits_fdiv hv) (Nat.le_trans (PyProof.Rows.intBits_le (k := 256) (by decide +kernel)) (by decide)))
@[irreducible] def T60 : Int := 10 ^ 60
@[irreducible] def T9 : Int := 10 ^ 9
theorem T60_eq : T60 = 1000000000000000000000000000000000000000000000000000000000000 := by unfold T60; decide +kernel
theorem T9_eq : T9 = 1000000000 := by unfold T9; decide +kernel
theorem step_pow60 (h : Q (.int T60 s.toks) { s with toks := s.toks + 1 }) : wpAny (model prog w) A (binaryOp .Pow (.int 10 t) (.int 60 u)) Q E s := by
  refine PyProof.Rows.pow_int_small (by decide) (by decide) (by decide) ?_
  unfold T60 at h
  exact h
theorem step_pow9 (h : Q (.int T9 s.toks) { s with toks := s.toks + 1 }) : wpAny (model prog w) A (binaryOp .Pow (.int 10 t) (.int 9 u)) Q E s := by
  refine PyProof.Rows.pow_int_small (by decide) (by decide) (by decide) ?_
  unfold T9 at h
  exact h
theorem step_two (h : Q (.int (2 * y) s.toks) { s with toks := s.toks + 1 }) : wpAny (model prog w) A (binaryOp .Mult (.int 2 t) (.int y u)) Q E s :=
  PyProof.Rows.mul_int h (PySem.IntMulOk.of_left (PySem.intBits_le_64 (by decide) (by decide)))
theorem step_mod60 (h : Q (.int (Int.fmod x (2 * T60 - 1)) s.toks) { s with toks := s.toks + 1 }) : wpAny (model prog w) A (binaryOp .Mod (.int x t) (.int (2 * T60 - 1) u)) Q E s :=
  PyProof.Rows.mod_int (by have := T60_eq; omega) h
theorem step_mod9 (h : Q (.int (Int.fmod x (2 * T9 + 1)) s.toks) { s with toks := s.toks + 1 }) : wpAny (model prog w) A (binaryOp .Mod (.int x t) (.int (2 * T9 + 1) u)) Q E s :=
  PyProof.Rows.mod_int (by have := T9_eq; omega) h
/-- the number that a cell draws -/
def numb (v : Int) : Int :=
  if Int.fmod v 5 = 0 then Int.fmod (wide v) 13 - 6
  else if Int.fmod v 5 = 1 then Int.fmod (wide v) 2001 - 1000
  else if Int.fmod v 5 = 2 then Int.fmod (wide v) (2 * T60 - 1) - (T60 - 1)
  else if Int.fmod v 5 = 3 then Int.fmod (wide v) (2 * T9 + 1) - T9
  else Int.fmod (wide v) 9
theorem numb_in (n : Int) : -T60 ≤ numb n ∧ numb n ≤ T60 := by
  unfold numb
  generalize wide n = w
  have e := T60_eq
  have e9 := T9_eq
  have a1 := Int.fmod_nonneg_of_pos w (show (0 : Int) < 13 by decide)
  have b1 := Int.fmod_lt_of_pos w (show (0 : Int) < 13 by decide)
  have a2 := Int.fmod_nonneg_of_pos w (show (0 : Int) < 2001 by decide)
  have b2 := Int.fmod_lt_of_pos w (show (0 : Int) < 2001 by decide)
  have a3 := Int.fmod_nonneg_of_pos w (show (0 : Int) < 2 * T60 - 1 by omega)
  have b3 := Int.fmod_lt_of_pos w (show (0 : Int) < 2 * T60 - 1 by omega)
  have a4 := Int.fmod_nonneg_of_pos w (show (0 : Int) < 2 * T9 + 1 by omega)
  have b4 := Int.fmod_lt_of_pos w (show (0 : Int) < 2 * T9 + 1 by omega)
  have a5 := Int.fmod_nonneg_of_pos w (show (0 : Int) < 9 by decide)
  have b5 := Int.fmod_lt_of_pos w (show (0 : Int) < 9 by decide)
  refine ⟨?_, ?_⟩ <;> (repeat' split) <;> omega
theorem numb_bits (n : Int) : Builtin.Int.intBits (numb n) ≤ 256 := by
  have h := numb_in n
  rw [T60_eq] at h
  refine PyProof.Rows.intBits_le ?_
  have p : (2 : Nat) ^ 256 = 115792089237316195423570985008687907853269984665640564039457584007913129639936 := by decide
  rw [p]
  omega
theorem numb_0 {v : Int} (h : Int.fmod v 5 = 0) : Int.fmod (wide v) 13 - 6 = numb v := by unfold numb; rw [if_pos h]
theorem numb_1 {v : Int} (h : Int.fmod v 5 = 1) : Int.fmod (wide v) 2001 - 1000 = numb v := by
  unfold numb; rw [if_neg (by omega), if_pos h]
theorem numb_2 {v : Int} (h : Int.fmod v 5 = 2) : Int.fmod (wide v) (2 * T60 - 1) - (T60 - 1) = numb v := by
  unfold numb; rw [if_neg (by omega), if_neg (by omega), if_pos h]
theorem numb_3 {v : Int} (h : Int.fmod v 5 = 3) : Int.fmod (wide v) (2 * T9 + 1) - T9 = numb v := by
  unfold numb; rw [if_neg (by omega), if_neg (by omega), if_neg (by omega), if_pos h]
theorem numb_4 {v : Int} (h0 : ¬ Int.fmod v 5 = 0) (h1 : ¬ Int.fmod v 5 = 1) (h2 : ¬ Int.fmod v 5 = 2) (h3 : ¬ Int.fmod v 5 = 3) : Int.fmod (wide v) 9 = numb v := by
  unfold numb; rw [if_neg h0, if_neg h1, if_neg h2, if_neg h3]
end
end My
end
section
set_option maxRecDepth 100000
namespace My
open PySem PySem.W PySem.Calls PyProof.Rows PySem.Spec
/-- all that stood ahead of a call stands behind it, but what the call was lent -/
def Stay (lent : List (Addr × Obj)) (h h' : Heap) : Prop := ∀ b o, h.get? b = some o → b ∉ lent.map (·.1) → h'.get? b = some o
theorem stay_news {h₀ h h' : Heap} {L : Addr} {lent news : List (Addr × Obj)} (S : Stay lent h h') (N : News h₀ L h news) (N' : News h₀ L h' lent) (sub : ∀ p ∈ lent, h.get? p.1 = some p.2) : News h₀ L h' news := fun p hp => by
  obtain ⟨a, b, c⟩ := N p hp
  by_cases q : p.1 ∈ lent.map (·.1)
  · obtain ⟨r, hr, e⟩ := List.mem_map.mp q
    have x := sub r hr
    rw [e, a] at x
    have e2 : p = r := Prod.ext e.symm (Option.some.inj x)
    rw [e2]
    exact N' r hr
  · exact ⟨S _ _ a q, b, c⟩
section
variable {prog : Program} {w : World} {A A₀ : Around} {s : Shared} {base h₀ : Heap} {L : Addr} {m : Str → Option Value} {lent : List (Addr × Obj)} {K : Frag} {p : Program} {loose : List Str} {mean : ExcName → Option Value} {mg mb : Str → Option Value}
  {env : Env} {outer : List Env} {R : Result → Shared → Prop} {name qual : Str} {params : Arguments} {body : List Stmt} {scope : Scope} {dV kV doc pm cdv ct oc : Value} {an od : Option Addr} {osl : Array (Option Value)} {f : Addr} {args : Args} {binds : List (Str × Value)}
/-- a def is entered; its ledger holds what it is lent, the rest of the heap stays below it -/
theorem enter (B : Below A₀ base outer h₀) (F : Fr h₀ L s.heap m) (X₀ : K.In h₀) (N : News h₀ L s.heap lent) (T : Top p loose mean mg mb h₀) (hA : A.frames = some (env :: outer)) (hf : env.frame = some L) (hke : env.scope.kind = .function)
    (ho : K.lookup f = some ⟨oc, od, .func (fnOf name qual params body scope dV kV doc pm an cdv ct), osl⟩) (hcd : codeIn K cdv qual = true) (hroom : A.depth < recursionLimit)
    (hbind : BindsTo s (fnOf name qual params body scope dV kV doc pm an cdv ct) args binds) (hloc : ∀ y ∈ binds, scope.names.lookup y.1 = some .local)
    (h : ∀ g L' h₁, Stay lent s.heap g → Fr h₀ L g m → Fr g L' h₁ (fun y => binds.reverse.lookup y) → News g L' h₁ lent → Below A base (env :: outer) g → K.In g → Top p loose mean mg mb g →
      wpAny (model prog w) (A.deeper (envOf qual scope L' f cdv)) (execs body (envOf qual scope L' f cdv))
        (fun fl s' => LeaveK h₀ L m g R (match fl with | .ret v => v | _ => .none) s')
        (fun e s' => wpAny (model prog w) (A.deeper (envOf qual scope L' f cdv)) (leaving (envOf qual scope L' f cdv) e) (fun _ s'' => R (.error e) s'') (fun e' s'' => R (.error e') s'') s')
        { s with heap := h₁, toks := s.toks + binds.length })
    (hco : scope.isCoroutine = false) (hgen : scope.isGenerator = false) (hk : scope.kind = .function) (hcell : ∀ x ∈ scope.names, x.2 ≠ .cell) : codeAny (model prog w) A (.call (.ref f) args) R s := by
  obtain ⟨FG, BG, st, lv⟩ := groundX (R := R) B F N hA hf hke
  have X := X₀.keeps F.keep
  refine codeAny_call_def (fd := fnOf name qual params body scope dV kV doc pm an cdv ct) (body := body) (binds := binds) hroom (X _ _ ho) rfl (T.nolimit.keeps F.keep) (codeRec_of X hcd) rfl hbind hcell hloc (fun h₁ hns hk₁ => ?_) hco hgen hk
  refine wpAny_mono (h _ s.heap.objs.size h₁ (fun b o e nb => hideAll_get _ e nb) FG ⟨hns, fun b o e => hk₁ b o (of_hideAll _ e), Nat.le_of_eq (hideAll_size _ _)⟩ (fun q hq => ?_) BG (X₀.keeps st) (T.keeps st)) (fun fl s' hl => lv _ _ hl) fun _ _ y => y
  exact ⟨hk₁ _ _ (N q hq).1, Nat.ne_of_lt (Heap.lt_size (N q hq).1), hideAll_none _ (List.mem_map_of_mem hq)⟩
end
/-- what a def of the program's does at every call from a def that lends it the objects lent -/
abbrev Does (prog : Program) (w : World) (K : Frag) (p : Program) (loose : List Str) (mean : ExcName → Option Value) (mg mb : Str → Option Value) (room : Nat) (f : Addr) (lent : List (Addr × Obj)) (vs : List Value)
    (Ret : Heap → Addr → (Str → Option Value) → Shared → (Value → Shared → Prop) → (Value → Shared → Prop) → Prop) : Prop :=
  ∀ (dp un : Nat) (gd : Option (List Code)) (cn : Str) (cs : Scope) (a : Addr) (ccd : Value) (cl : List (Str × Addr)) (outer : List Env) (A₀ : Around) (base h₀ : Heap) (L : Addr) (m : Str → Option Value) (s : Shared) (Q E : Value → Shared → Prop),
    Below A₀ base outer h₀ → Fr h₀ L s.heap m → K.In h₀ → News h₀ L s.heap lent → Top p loose mean mg mb h₀ → cs.kind = .function → dp + room < recursionLimit → un + 10 * room < cLine → Ret h₀ L m s Q E →
      wpAny (model prog w) (ktrTop dp un gd cn cs L a ccd cl outer) (call (.ref f) vs) Q E s
/-- a value without objects of its own -/
abbrev Hands (r : Tok → Value) (lent : List (Addr × Obj)) : Heap → Addr → (Str → Option Value) → Shared → (Value → Shared → Prop) → (Value → Shared → Prop) → Prop := fun h₀ L m s Q _ =>
  ∀ (t : Tok) (h' : Heap) (tk' : Nat), Fr h₀ L h' m → News h₀ L h' lent → Stay lent s.heap h' → Q (r t) { s with heap := h', toks := tk' }
/-- a new object, told by P, at its address -/
abbrev Makes (P : Obj → Prop) (lent : List (Addr × Obj)) : Heap → Addr → (Str → Option Value) → Shared → (Value → Shared → Prop) → (Value → Shared → Prop) → Prop := fun h₀ L m s Q _ =>
  ∀ (r : Addr) (o : Obj) (h' : Heap) (tk' : Nat), P o → Fr h₀ L h' m → News h₀ L h' ((r, o) :: lent) → Stay lent s.heap h' → Q (.ref r) { s with heap := h', toks := tk' }
theorem stay_end {lent : List (Addr × Obj)} {h g h' : Heap} {L' : Addr} {m' : Str → Option Value} (S : Stay lent h g) (F : Fr g L' h' m') : Stay lent h h' := fun b o e nb => F.keep b o (S b o e nb)
section
variable {h₀ h' : Heap} {L : Addr} {m : Str → Option Value} {lent : List (Addr × Obj)} {s : Shared} {Q : Value → Shared → Prop} {t : Tok} {tk' : Nat}
theorem retI {x y : Int} (hret : ∀ (t : Tok) (h' : Heap) (tk' : Nat), Fr h₀ L h' m → News h₀ L h' lent → Stay lent s.heap h' → Q (.int x t) { s with heap := h', toks := tk' }) (e : y = x) (F : Fr h₀ L h' m) (N : News h₀ L h' lent) (S : Stay lent s.heap h') : Q (.int y t) { s with heap := h', toks := tk' } := by
  subst e
  exact hret t h' tk' F N S
theorem retB {x y : Bool} (hret : ∀ (t : Tok) (h' : Heap) (tk' : Nat), Fr h₀ L h' m → News h₀ L h' lent → Stay lent s.heap h' → Q (.bool x) { s with heap := h', toks := tk' }) (e : y = x) (F : Fr h₀ L h' m) (N : News h₀ L h' lent) (S : Stay lent s.heap h') : Q (.bool y) { s with heap := h', toks := tk' } := by
  subst e
  exact hret 0 h' tk' F N S
theorem retN (hret : ∀ (t : Tok) (h' : Heap) (tk' : Nat), Fr h₀ L h' m → News h₀ L h' lent → Stay lent s.heap h' → Q .none { s with heap := h', toks := tk' }) (F : Fr h₀ L h' m) (N : News h₀ L h' lent) (S : Stay lent s.heap h') : Q .none { s with heap := h', toks := tk' } :=
  hret 0 h' tk' F N S
end
/-- an end of a stretch: a number or none -/
inductive IsEnd : Value → Option Int → Prop where
  | none : IsEnd .none none
  | int {a : Int} {t : Tok} : IsEnd (.int a t) (some a)
def Crossed : Option Int → Option Int → Prop
  | some a, some b => b < a
  | _, _ => False
/-- whether a number lies between two ends -/
def hasB (lo hi : Option Int) (n : Int) : Bool := (match lo with | none => true | some a => decide (a ≤ n)) && (match hi with | none => true | some b => decide (n ≤ b))
abbrev tupO (its : Array Value) (k : Nat) : Obj := { cls := .type "tuple", data := .seq its k }
end My
end
section
set_option maxRecDepth 100000
namespace My
open PySem PySem.W PySem.Calls PyProof.Rows PySem.Spec
section
variable {prog : Program} {w : World} {A : Around} {E : Value → Shared → Prop} {s : Shared} {env : Env} {h₀ : Heap} {x : Str} {body : List Stmt} {Q : Flow → Shared → Prop}
/-- a for over a list of ints of the ledger that keeps nothing from turn to turn -/
theorem ints_loop {l : Addr} {vs : List Value} {ns : List Int} {nn : Nat} {m₀ : Str → Option Value} {news : List (Addr × Obj)} (stored : List Str) (hh : A.handled = none) (hl : (l, listOf vs.toArray nn) ∈ news) (hi : IntsAre vs ns)
    (F : Fr h₀ env.locals s.heap m₀) (N : News h₀ env.locals s.heap news)
    (turn : ∀ (k : Int) (t : Tok) (u : Str → Option Value) (h : Heap) (tk : Nat) (own : List (Addr × Obj)), OwnOff own (news.map (·.1)) →
      Fr h₀ env.locals h (fun y => if y = x then some (.int k t) else kstB (fun z => if stored.contains z then u z else m₀ z) [] y) → News h₀ env.locals h (news ++ own) →
      wpAny (model prog w) A (execs body env) (InvPostN h₀ env.locals (KstS (σ := Unit) (fun _ => news) (fun _ => []) (fun _ => True) x stored m₀ (fun _ _ => True) []) own (news.map (·.1)) { s with heap := h, toks := tk } Q) E { s with heap := h, toks := tk })
    (done : ∀ (u : Str → Option Value) (h : Heap) (tk : Nat), Fr h₀ env.locals h (fun y => if y = x then u y else kstB (fun z => if stored.contains z then u z else m₀ z) [] y) → News h₀ env.locals h news →
      Q .next { s with heap := h, toks := tk }) :
    wpAny (model prog w) A (pyIter (.ref l)) (fun it s₂ => LoopAtV prog w A h₀ env x body Q E it s₂) E s :=
  kst_listL (σ := Unit) (fun _ => news) (fun _ => []) (fun _ => True) stored (fun _ _ => True) () hh (fun _ => hl) hi F N True.intro (List.forall_mem_nil _) True.intro
    (fun _ _ _ n t u h tk own _ _ off _ _ F₁ N₁ => turn n t u h tk own off F₁ N₁) (fun _ u h tk _ _ F₁ N₁ => done u h tk F₁ N₁)
end
end My
end
section
set_option maxRecDepth 100000
namespace My
open PySem PySem.W PySem.Calls PyProof.Rows PySem.Spec
theorem room1 {dp r R : Nat} (h : dp + R < recursionLimit) (e : r + 1 ≤ R) : dp + 1 + r < recursionLimit := by omega
theorem units1 {un r R : Nat} (h : un + 10 * R < cLine) (e : r + 1 ≤ R) : un + 3 + 10 * r < cLine := by omega
theorem sub_one {q : Addr × Obj} {news : List (Addr × Obj)} (h : q ∈ news) : ∀ p ∈ [q], p ∈ news := fun _ hp => (List.mem_singleton.mp hp) ▸ h
theorem sub_two {q r : Addr × Obj} {news : List (Addr × Obj)} (h : q ∈ news) (h2 : r ∈ news) : ∀ p ∈ [q, r], p ∈ news := fun p hp => by
  rcases List.mem_cons.mp hp with e | e
  · exact e ▸ h
  · exact (List.mem_singleton.mp e) ▸ h2
section
variable {prog : Program} {w : World} {K : Frag} {p : Program} {loose : List Str} {mean : ExcName → Option Value} {mg mb : Str → Option Value} {room : Nat} {f : Addr} {vs : List Value} {news lent : List (Addr × Obj)}
  {dp un : Nat} {gd : Option (List Code)} {cn : Str} {cs : Scope} {a : Addr} {ccd : Value} {cl : List (Str × Addr)} {outer : List Env} {A₀ : Around} {base h₀ : Heap} {L : Addr} {m : Str → Option Value} {s : Shared} {Q E : Value → Shared → Prop}
/-- a call by what the def does: the whole ledger stays -/
theorem use_hands {r : Tok → Value} (D : Does prog w K p loose mean mg mb room f lent vs (Hands r lent)) (B : Below A₀ base outer h₀) (F : Fr h₀ L s.heap m) (X : K.In h₀) (N : News h₀ L s.heap news) (T : Top p loose mean mg mb h₀) (hk : cs.kind = .function)
    (hd : dp + room < recursionLimit) (hu : un + 10 * room < cLine) (sub : ∀ q ∈ lent, q ∈ news) (h : ∀ (t : Tok) (h' : Heap) (tk' : Nat), Fr h₀ L h' m → News h₀ L h' news → Q (r t) { s with heap := h', toks := tk' }) :
    wpAny (model prog w) (ktrTop dp un gd cn cs L a ccd cl outer) (call (.ref f) vs) Q E s :=
  D _ _ _ _ _ _ _ _ _ _ _ _ _ _ _ _ _ B F X (fun q hq => N q (sub q hq)) T hk hd hu fun t h' tk' F' N' S => h t h' tk' F' (stay_news S N N' fun q hq => (N q (sub q hq)).1)
end
section
variable {prog : Program} {w : World} {A : Around} {E : Value → Shared → Prop} {s : Shared} {x y : Int} {t u : Tok} {Q : Value → Shared → Prop}
/-- a draw's test: both ways at once -/
theorem eq_split (h1 : x = y → Q (.bool true) s) (h2 : ¬ x = y → Q (.bool false) s) : wpAny (model prog w) A (compareOp .Eq (.int x t) (.int y u)) Q E s := by
  refine PyProof.Rows.eq_int ?_
  by_cases e : x = y
  · have d : (x == y) = true := beq_iff_eq.mpr e
    rw [d]
    exact h1 e
  · have d : (x == y) = false := beq_eq_false_iff_ne.mpr e
    rw [d]
    exact h2 e
end
end My
end
section
set_option maxRecDepth 100000
namespace My
open PySem PySem.W PySem.Calls PyProof.Rows PySem.Spec
/-- a new object, told by P; its address is new -/
abbrev Lays (P : Obj → Prop) (lent : List (Addr × Obj)) : Heap → Addr → (Str → Option Value) → Shared → (Value → Shared → Prop) → (Value → Shared → Prop) → Prop := fun h₀ L m s Q _ =>
  ∀ (r : Addr) (o : Obj) (h' : Heap) (tk' : Nat), P o → Fr h₀ L h' m → News h₀ L h' ((r, o) :: lent) → Stay lent s.heap h' → s.heap.get? r = none → Q (.ref r) { s with heap := h', toks := tk' }
theorem lays_ret {h₀ h' g : Heap} {L L' : Addr} {m m' : Str → Option Value} {lent led : List (Addr × Obj)} {s : Shared} {Q : Value → Shared → Prop} {P : Obj → Prop} {r : Addr} {o : Obj} {tk' : Nat}
    (hret : ∀ (r : Addr) (o : Obj) (h' : Heap) (tk' : Nat), P o → Fr h₀ L h' m → News h₀ L h' ((r, o) :: lent) → Stay lent s.heap h' → s.heap.get? r = none → Q (.ref r) { s with heap := h', toks := tk' })
    (p : P o) (F : Fr h₀ L h' m) (S : Stay lent s.heap g) (F' : Fr g L' h' m') (N' : News g L' h' led) (sub : ∀ q ∈ (r, o) :: lent, q ∈ led) (ne : ∀ q ∈ lent, q.1 ≠ r) (F₀ : Fr h₀ L s.heap m) (N₀ : News h₀ L s.heap lent) : Q (.ref r) { s with heap := h', toks := tk' } := by
  have hr : s.heap.get? r = none := by
    cases e : s.heap.get? r with
    | none => rfl
    | some x =>
      have nb : r ∉ lent.map (·.1) := fun q => by
        obtain ⟨y, hy, e2⟩ := List.mem_map.mp q
        exact ne y hy e2
      have := S r x e nb
      rw [(N' _ (sub _ List.mem_cons_self)).2.2] at this
      cases this
  refine hret r o h' tk' p F (fun q hq => ?_) (stay_end S F') hr
  have a := (N' q (sub q hq)).1
  rcases List.mem_cons.mp hq with e | hl
  · subst e
    refine ⟨a, fun e => ?_, ?_⟩
    · obtain ⟨oL, _, _, hg, _⟩ := F₀.ns
      have e' : r = L := e
      rw [e', hg] at hr
      cases hr
    · cases e : h₀.get? r with
      | none => rfl
      | some x =>
        rw [F₀.keep r x e] at hr
        cases hr
  · exact ⟨a, (N₀ q hl).2.1, (N₀ q hl).2.2⟩
section
variable {prog : Program} {w : World} {K : Frag} {p : Program} {loose : List Str} {mean : ExcName → Option Value} {mg mb : Str → Option Value} {room : Nat} {f : Addr} {vs : List Value} {news lent : List (Addr × Obj)}
  {dp un : Nat} {gd : Option (List Code)} {cn : Str} {cs : Scope} {a : Addr} {ccd : Value} {cl : List (Str × Addr)} {outer : List Env} {A₀ : Around} {base h₀ : Heap} {L : Addr} {m : Str → Option Value} {s : Shared} {Q E : Value → Shared → Prop}
/-- a call that lays a new object -/
theorem use_lays {P : Obj → Prop} (D : Does prog w K p loose mean mg mb room f lent vs (Lays P lent)) (B : Below A₀ base outer h₀) (F : Fr h₀ L s.heap m) (X : K.In h₀) (N : News h₀ L s.heap news) (T : Top p loose mean mg mb h₀) (hk : cs.kind = .function)
    (hd : dp + room < recursionLimit) (hu : un + 10 * room < cLine) (sub : ∀ q ∈ lent, q ∈ news)
    (h : ∀ (r : Addr) (o : Obj) (h' : Heap) (tk' : Nat), P o → Fr h₀ L h' m → News h₀ L h' ((r, o) :: news) → (∀ q ∈ news, q.1 ≠ r) → Q (.ref r) { s with heap := h', toks := tk' }) :
    wpAny (model prog w) (ktrTop dp un gd cn cs L a ccd cl outer) (call (.ref f) vs) Q E s :=
  D _ _ _ _ _ _ _ _ _ _ _ _ _ _ _ _ _ B F X (fun q hq => N q (sub q hq)) T hk hd hu fun r o h' tk' hp F' N' S hr => by
    have NN := stay_news S N (fun q hq => N' q (List.mem_cons_of_mem _ hq)) fun q hq => (N q (sub q hq)).1
    refine h r o h' tk' hp F' (fun q hq => ?_) fun q hq e => ?_
    · rcases List.mem_cons.mp hq with e | hl
      · exact e ▸ N' _ List.mem_cons_self
      · exact NN q hl
    · have := (N q hq).1
      rw [e, hr] at this
      cases this
end
/-- a tuple of two ends -/
def IsPair (lo hi : Option Int) (o : Obj) : Prop := ∃ v1 v2 k, o = tupO #[v1, v2] k ∧ IsEnd v1 lo ∧ IsEnd v2 hi
theorem cell_fdiv {v k : Int} (hk : 0 < k) (h : Cell v) : Cell (Int.fdiv v k) := by
  refine ⟨?_⟩
  have hb := h.bits
  unfold Builtin.Int.intBits at hb ⊢
  rw [Int.fdiv_eq_ediv_of_nonneg v (Int.le_of_lt hk)]
  by_cases z : v / k = 0
  · simp [z]
  · have hv : v ≠ 0 := by
      intro e
      rw [e, Int.zero_ediv] at z
      exact z rfl
    rw [if_neg (by simpa using hv)] at hb
    rw [if_neg (by simpa using z)]
    have hn : (v / k).natAbs ≤ v.natAbs := by
      have h1 : (v / k).natAbs ≤ v.natAbs := by
        rcases Int.le_total 0 v with hv0 | hv0
        · have a := Int.ediv_nonneg hv0 (Int.le_of_lt hk)
          have b := Int.ediv_le_self k hv0
          omega
        · have a : v / k ≤ 0 := Int.ediv_nonpos_of_nonpos_of_neg hv0 hk
          have b : v ≤ v / k := by
            have c : v * k ≤ v := by
              have d := Int.mul_le_mul_of_nonpos_left hv0 (show (1 : Int) ≤ k by omega)
              omega
            exact (Int.le_ediv_iff_mul_le hk).mpr c
          omega
      exact h1
    have h1 : v.natAbs.log2 < 2 ^ 20 := by omega
    have h2 : v.natAbs < 2 ^ (2 ^ 20) := (Nat.log2_lt (by omega)).mp h1
    have h3 : (v / k).natAbs.log2 < 2 ^ 20 := (Nat.log2_lt (by omega)).mpr (Nat.lt_of_le_of_lt hn h2)
    omega
end My
namespace My
open PySem PySem.W PyProof.Rows
theorem sub_nil {led : List (Addr × Obj)} : ∀ q ∈ ([] : List (Addr × Obj)), q ∈ led := fun _ h => nomatch h
theorem sub_cons {a : Addr × Obj} {l led : List (Addr × Obj)} (h : a ∈ led) (hs : ∀ q ∈ l, q ∈ led) : ∀ q ∈ a :: l, q ∈ led := List.forall_mem_cons.mpr ⟨h, hs⟩
theorem ne_nil {r : Addr} : ∀ q ∈ ([] : List (Addr × Obj)), q.1 ≠ r := fun _ h => nomatch h
theorem ne_cons {b r : Addr} {o : Obj} {l : List (Addr × Obj)} (h : b ≠ r) (hs : ∀ q ∈ l, q.1 ≠ r) : ∀ q ∈ (b, o) :: l, q.1 ≠ r := List.forall_mem_cons.mpr ⟨h, hs⟩
theorem IsEnd.int' {a b : Int} {t : Nat} (h : a = b) : IsEnd (.int a t) (some b) := h ▸ IsEnd.int
def joinLo : Option Int → Option Int → Option Int
  | some a, some b => some (if b < a then b else a)
  | _, _ => none
def joinHi : Option Int → Option Int → Option Int
  | some a, some b => some (if b > a then b else a)
  | _, _ => none
end My
end
section
set_option maxRecDepth 100000
namespace My
open PySem PySem.W PySem.Calls PyProof.Rows PySem.Spec
/-- a statement behind which one name holds some int, and all else is as it was -/
def Cut (h₀ : Heap) (L : Addr) (m₀ : Str → Option Value) (x : Str) (news : List (Addr × Obj)) (s : Shared) (fl : Flow) (s' : Shared) : Prop :=
  fl = .next ∧ ∃ (k : Int) (t : Tok) (h : Heap) (tk : Nat), s' = { s with heap := h, toks := tk } ∧ Fr h₀ L h (fun y => if y = x then some (.int k t) else m₀ y) ∧ News h₀ L h news
structure CutMark : Prop where
theorem cut_exec {M : Model} {A : Around} {E : Value → Shared → Prop} {s : Shared} {env : Env} {h₀ : Heap} {L : Addr} {m₀ : Str → Option Value} {news : List (Addr × Obj)} {stmt : Stmt} {Q : Flow → Shared → Prop} (x : Str)
    (_F : Fr h₀ L s.heap m₀) (_N : News h₀ L s.heap news) (h : wpAny M A (exec stmt env) (fun fl s' => Cut h₀ L m₀ x news s fl s') E s)
    (k : ∀ (k : Int) (t : Tok) (h : Heap) (tk : Nat), Fr h₀ L h (fun y => if y = x then some (.int k t) else m₀ y) → News h₀ L h news → Q .next { s with heap := h, toks := tk }) : wpAny M A (exec stmt env) Q E s := by
  refine wpAny_mono h (fun fl s' c => ?_) fun _ _ e => e
  obtain ⟨rfl, i, t, h', tk, rfl, F', N'⟩ := c
  exact k i t h' tk F' N'
theorem fr_same {h₀ h : Heap} {L : Addr} {m₀ : Str → Option Value} {x : Str} {v : Value} (F : Fr h₀ L h m₀) (e : m₀ x = some v) : Fr h₀ L h (fun y => if y = x then some v else m₀ y) := by
  have em : (fun y => if y = x then some v else m₀ y) = m₀ := by
    funext y
    by_cases hy : y = x
    · rw [if_pos hy, hy, e]
    · rw [if_neg hy]
  rw [em]
  exact F
theorem cut_set {h₀ h : Heap} {L : Addr} {m₀ : Str → Option Value} {x : Str} {news : List (Addr × Obj)} {s : Shared} {k : Int} {t : Tok} {tk : Nat} (F : Fr h₀ L h (fun y => if y = x then some (.int k t) else m₀ y)) (N : News h₀ L h news) : Cut h₀ L m₀ x news s .next { s with heap := h, toks := tk } :=
  ⟨rfl, k, t, h, tk, rfl, F, N⟩
theorem cut_keep {h₀ h : Heap} {L : Addr} {m₀ : Str → Option Value} {x : Str} {news : List (Addr × Obj)} {s : Shared} {k : Int} {t : Tok} {tk : Nat} (F : Fr h₀ L h m₀) (N : News h₀ L h news) (e : m₀ x = some (.int k t)) : Cut h₀ L m₀ x news s .next { s with heap := h, toks := tk } :=
  cut_set (fr_same F e) N
end My
end
section
set_option maxRecDepth 100000
namespace My
/-- the greatest number of a rest that is not above top -/
@[irreducible] def underR (m r top : Int) : Int := top - Int.fmod (top - r) m
theorem underR_fact {m r top : Int} (hm : 0 < m) : underR m r top ≤ top ∧ top < underR m r top + m := by
  unfold underR
  have a := Int.fmod_nonneg_of_pos (top - r) hm
  have b := Int.fmod_lt_of_pos (top - r) hm
  omega
theorem underR_mod {m r top : Int} (hm : 0 < m) : Int.fmod (underR m r top - r) m = 0 := by
  unfold underR
  rw [Int.fmod_eq_emod_of_nonneg _ (Int.le_of_lt hm), Int.fmod_eq_emod_of_nonneg _ (Int.le_of_lt hm)]
  have e : top - (top - r) % m - r = (top - r) - (top - r) % m := by omega
  rw [e]
  have d := Int.emod_add_mul_ediv (top - r) m
  have e2 : (top - r) - (top - r) % m = m * ((top - r) / m) := by omega
  rw [e2]
  exact Int.mul_emod_right m _
/-- whether a number lies in a rest -/
def hasR (m r n : Int) : Bool := if m = 0 then n == r else Int.fmod (n - r) m == 0
theorem hasR_zero (r n : Int) : (n == r) = hasR 0 r n := by unfold hasR; rw [if_pos rfl]
theorem hasR_in {m r n : Int} (hm : ¬ m = 0) : (Int.fmod (n - r) m == 0) = hasR m r n := by unfold hasR; rw [if_neg hm]
theorem hasR_pos {m r n : Int} (hm : 0 < m) : (Int.fmod n m == Int.fmod r m) = hasR m r n := by
  rw [← hasR_in (by omega)]
  rw [Int.fmod_eq_emod_of_nonneg _ (Int.le_of_lt hm), Int.fmod_eq_emod_of_nonneg _ (Int.le_of_lt hm), Int.fmod_eq_emod_of_nonneg _ (Int.le_of_lt hm)]
  rw [Bool.eq_iff_iff, beq_iff_eq, beq_iff_eq]
  constructor
  · intro h
    exact Int.emod_eq_zero_of_dvd (Int.dvd_of_emod_eq_zero (Int.emod_eq_emod_iff_emod_sub_eq_zero.mp h))
  · intro h
    exact Int.emod_eq_emod_iff_emod_sub_eq_zero.mpr h
open PySem PySem.W PySem.Calls PyProof.Rows PySem.Spec
/-- a statement behind which one name holds some int that P tells, and all else is as it was -/
def CutP (h₀ : Heap) (L : Addr) (m₀ : Str → Option Value) (x : Str) (P : Int → Prop) (news : List (Addr × Obj)) (s : Shared) (fl : Flow) (s' : Shared) : Prop :=
  fl = .next ∧ ∃ (k : Int) (t : Tok) (h : Heap) (tk : Nat), s' = { s with heap := h, toks := tk } ∧ P k ∧ Fr h₀ L h (fun y => if y = x then some (.int k t) else m₀ y) ∧ News h₀ L h news
theorem cutp_exec {M : Model} {A : Around} {E : Value → Shared → Prop} {s : Shared} {env : Env} {h₀ : Heap} {L : Addr} {m₀ : Str → Option Value} {news : List (Addr × Obj)} {stmt : Stmt} {Q : Flow → Shared → Prop} (x : Str) (P : Int → Prop)
    (_F : Fr h₀ L s.heap m₀) (_N : News h₀ L s.heap news) (h : wpAny M A (exec stmt env) (fun fl s' => CutP h₀ L m₀ x P news s fl s') E s)
    (k : ∀ (k : Int) (t : Tok) (h : Heap) (tk : Nat), P k → Fr h₀ L h (fun y => if y = x then some (.int k t) else m₀ y) → News h₀ L h news → Q .next { s with heap := h, toks := tk }) : wpAny M A (exec stmt env) Q E s := by
  refine wpAny_mono h (fun fl s' c => ?_) fun _ _ e => e
  obtain ⟨rfl, i, t, h', tk, rfl, p, F', N'⟩ := c
  exact k i t h' tk p F' N'
theorem cutp_set {h₀ h : Heap} {L : Addr} {m₀ : Str → Option Value} {x : Str} {P : Int → Prop} {news : List (Addr × Obj)} {s : Shared} {k : Int} {t : Tok} {tk : Nat} (F : Fr h₀ L h (fun y => if y = x then some (.int k t) else m₀ y)) (N : News h₀ L h news) (p : P k) : CutP h₀ L m₀ x P news s .next { s with heap := h, toks := tk } :=
  ⟨rfl, k, t, h, tk, rfl, p, F, N⟩
theorem cutp_keep {h₀ h : Heap} {L : Addr} {m₀ : Str → Option Value} {x : Str} {P : Int → Prop} {news : List (Addr × Obj)} {s : Shared} {k : Int} {t : Tok} {tk : Nat} (F : Fr h₀ L h m₀) (N : News h₀ L h news) (e : m₀ x = some (.int k t)) (p : P k) : CutP h₀ L m₀ x P news s .next { s with heap := h, toks := tk } :=
  cutp_set (fr_same F e) N p
structure NN (k : Int) : Prop where
  le : 0 ≤ k
theorem NN.fmod {v : Int} : NN (Int.fmod v 4) := ⟨Int.fmod_nonneg_of_pos _ (by decide)⟩
structure Bits (k : Int) : Prop where
  le : Builtin.Int.intBits k ≤ 256
theorem Bits.numb {v : Int} : Bits (numb v) := ⟨numb_bits v⟩
theorem Bits.fmod {v : Int} : Bits (Int.fmod v 12 - 2) := by
  refine ⟨Nat.le_trans (PySem.intBits_le_64 ?_ ?_) (by decide)⟩
  · have := Int.fmod_nonneg_of_pos v (show (0 : Int) < 12 by decide)
    omega
  · have := Int.fmod_lt_of_pos v (show (0 : Int) < 12 by decide)
    omega
section
variable {prog : Program} {w : World} {A : Around} {E : Value → Shared → Prop} {s : Shared} {x y m r top : Int} {t u : Tok} {Q : Value → Shared → Prop}
theorem with_cell_div {ns : List Int} {i k : Int} {f : Value} (hL : PyData.layable0 (.list (ns.map .int)) = true) (hk : 0 < k) (h : Cell (Int.fdiv (cellAt ns i 0) k) → wpAny (model prog w) A (call f [.int (Int.fdiv (cellAt ns i 0) k) t]) Q E s) :
    wpAny (model prog w) A (call f [.int (Int.fdiv (cellAt ns i 0) k) t]) Q E s := h (cell_fdiv hk (cell_at hL i))
/-- a draw's test: both ways at once -/
theorem eq_split_mod {z c : Int} (h1 : Int.fmod z c = y → Q (.bool true) s) (h2 : ¬ Int.fmod z c = y → Q (.bool false) s) : wpAny (model prog w) A (compareOp .Eq (.int (Int.fmod z c) t) (.int y u)) Q E s := eq_split h1 h2
theorem lt_split_mod {z c : Int} (h1 : Int.fmod z c < y → Q (.bool true) s) (h2 : ¬ Int.fmod z c < y → Q (.bool false) s) : wpAny (model prog w) A (compareOp .Lt (.int (Int.fmod z c) t) (.int y u)) Q E s := by
  refine PyProof.Rows.lt_int ?_
  by_cases e : Int.fmod z c < y
  · have d : decide (Int.fmod z c < y) = true := decide_eq_true e
    rw [d]
    exact h1 e
  · have d : decide (Int.fmod z c < y) = false := decide_eq_false e
    rw [d]
    exact h2 e
theorem step_under (hm : 0 < m) (h : underR m r top ≤ top → top < underR m r top + m → Q (.int (underR m r top) s.toks) { s with toks := s.toks + 1 }) :
    wpAny (model prog w) A (binaryOp .Sub (.int top t) (.int (Int.fmod (top - r) m) u)) Q E s := by
  have f := underR_fact (r := r) (top := top) hm
  refine PyProof.Rows.sub_int ?_
  have e : top - Int.fmod (top - r) m = underR m r top := by unfold underR; rfl
  rw [e]
  exact h f.1 f.2
theorem step_under_mod (hm : 0 < m) (h : Q (.int 0 s.toks) { s with toks := s.toks + 1 }) :
    wpAny (model prog w) A (binaryOp .Mod (.int (underR m r top - r) t) (.int m u)) Q E s :=
  PyProof.Rows.mod_int (by omega) (by rw [underR_mod hm]; exact h)
theorem step_mul_bits {v : Int} (hm : Bits m) (h : Q (.int (numb v * m) s.toks) { s with toks := s.toks + 1 }) : wpAny (model prog w) A (binaryOp .Mult (.int (numb v) t) (.int m u)) Q E s :=
  PyProof.Rows.mul_int h (IntMulOk.of_bits (Nat.le_trans (numb_bits v) (by decide)) (Nat.le_trans hm.le (by decide)))
end
end My
end
section
set_option maxRecDepth 100000
namespace My
open PySem PySem.W PySem.Calls PyProof.Rows PySem.Spec
theorem hasR_of_dvd {m r n : Int} (h : m ∣ n - r) : hasR m r n = true := by
  unfold hasR
  by_cases z : m = 0
  · rw [if_pos z, beq_iff_eq]
    rw [z] at h
    have := Int.zero_dvd.mp h
    omega
  · rw [if_neg z, beq_iff_eq]
    exact Int.fmod_eq_zero_of_dvd h
theorem dvd_of_hasR {m r n : Int} (h : hasR m r n = true) : m ∣ n - r := by
  unfold hasR at h
  by_cases z : m = 0
  · rw [if_pos z, beq_iff_eq] at h
    rw [h, Int.sub_self]
    exact Int.dvd_zero m
  · rw [if_neg z, beq_iff_eq] at h
    exact Int.dvd_of_fmod_eq_zero h
def Gc (a b : Int) : Int := (Int.gcd a b : Nat)
theorem Gc_left (a b : Int) : Gc a b ∣ a := Int.gcd_dvd_left a b
theorem Gc_right (a b : Int) : Gc a b ∣ b := Int.gcd_dvd_right a b
theorem Gc_nonneg (a b : Int) : 0 ≤ Gc a b := Int.natCast_nonneg _
theorem Gc_pos {a b : Int} (h : 0 < b) : 0 < Gc a b := by
  have h0 := Gc_nonneg a b
  have h1 : Gc a b ≠ 0 := by
    unfold Gc
    intro e
    have e' : Int.gcd a b = 0 := by omega
    have := (Int.gcd_eq_zero_iff.mp e').2
    omega
  omega
theorem has_plus (m n r s j : Int) : hasR (Gc m n) (r + s) (r + j * m + s - j * n) = true := by
  apply hasR_of_dvd
  have e : r + j * m + s - j * n - (r + s) = j * m - j * n := by omega
  rw [e]
  exact Int.dvd_sub (Int.dvd_mul_of_dvd_right (Gc_left m n)) (Int.dvd_mul_of_dvd_right (Gc_right m n))
theorem has_times (m k r j q : Int) (hq : q = k ∨ q = -k) : hasR (m * q) (r * k) ((r + j * m) * k) = true := by
  apply hasR_of_dvd
  have e : (r + j * m) * k - r * k = j * (m * k) := by
    rw [Int.add_mul, Int.mul_assoc]
    omega
  rw [e]
  refine Int.dvd_mul_of_dvd_right ?_
  rcases hq with h | h
  · rw [h]
    exact Int.dvd_refl _
  · rw [h, Int.mul_neg, Int.neg_dvd]
    exact Int.dvd_refl _
theorem has_parted {m d r j : Int} (hd : 0 < d) (h : Int.fmod m d = 0) : hasR (Int.fdiv m d) (Int.fdiv r d) (Int.fdiv (r + j * m) d) = true := by
  apply hasR_of_dvd
  rw [Int.fdiv_eq_ediv_of_nonneg _ (Int.le_of_lt hd), Int.fdiv_eq_ediv_of_nonneg _ (Int.le_of_lt hd), Int.fdiv_eq_ediv_of_nonneg _ (Int.le_of_lt hd)]
  obtain ⟨c, rfl⟩ := Int.dvd_of_fmod_eq_zero h
  have e1 : d * c / d = c := Int.mul_ediv_cancel_left c (by omega)
  have e2 : (r + j * (d * c)) / d = r / d + j * c := by
    have e3 : j * (d * c) = d * (j * c) := by rw [Int.mul_left_comm]
    rw [e3]
    exact Int.add_mul_ediv_left r (j * c) (by omega)
  rw [e1, e2]
  have e4 : r / d + j * c - r / d = j * c := by omega
  rw [e4]
  exact Int.dvd_mul_left j c
theorem has_one (n : Int) : hasR 1 0 n = true := hasR_of_dvd (Int.one_dvd _)
theorem has_rested_d {m d r j : Int} (hd : 0 < d) (h : Gc m d = d) : hasR 0 (Int.fmod r d) (Int.fmod (r + j * m) d) = true := by
  apply hasR_of_dvd
  rw [Int.fmod_eq_emod_of_nonneg _ (Int.le_of_lt hd), Int.fmod_eq_emod_of_nonneg _ (Int.le_of_lt hd)]
  have hdm : d ∣ m := by
    have := Gc_left m d
    rw [h] at this
    exact this
  obtain ⟨c, rfl⟩ := hdm
  have e3 : j * (d * c) = d * (j * c) := by rw [Int.mul_left_comm]
  rw [e3, Int.add_mul_emod_self_left, Int.sub_self]
  exact Int.dvd_zero _
theorem has_rested {m d r j : Int} (hd : 0 < d) : hasR (Gc m d) r (Int.fmod (r + j * m) d) = true := by
  apply hasR_of_dvd
  rw [Int.fmod_eq_emod_of_nonneg _ (Int.le_of_lt hd), Int.emod_def]
  have e : r + j * m - d * ((r + j * m) / d) - r = j * m - d * ((r + j * m) / d) := by omega
  rw [e]
  exact Int.dvd_sub (Int.dvd_mul_of_dvd_right (Gc_left m d)) (Int.dvd_mul_of_dvd_left (Gc_right m d))
theorem has_loosened (m d r j k : Int) : hasR (Gc m d) r (r + j * m + j * k * d) = true := by
  apply hasR_of_dvd
  have e : r + j * m + j * k * d - r = j * m + j * k * d := by omega
  rw [e]
  exact Int.dvd_add (Int.dvd_mul_of_dvd_right (Gc_left m d)) (Int.dvd_mul_of_dvd_right (Gc_right m d))

theorem Gc_zz : Gc 0 0 = 0 := by unfold Gc; simp
theorem Gc_fact (a b : Int) : 0 ≤ Gc a b := Gc_nonneg a b
theorem Gc_zero {a b : Int} (h0 : 0 ≤ a) (h : b = 0) : Gc a b = a := by
  subst h
  unfold Gc
  rw [Int.gcd_zero_right]
  omega
theorem Gc_turn {a b : Int} (hb : 0 < b) : Gc b (Int.fmod a b) = Gc a b := by
  unfold Gc
  rw [Int.fmod_eq_emod_of_nonneg a (Int.le_of_lt hb)]
  have e : Int.gcd b (a % b) = Int.gcd b a := by
    rw [Int.emod_def, Int.sub_eq_add_neg, ← Int.mul_neg]
    exact Int.gcd_add_mul_left_right _ _ _
  rw [e, Int.gcd_comm]
theorem Gc_abs (a b : Int) : Gc (if a < 0 then -a else a) (if b < 0 then -b else b) = Gc a b := by
  unfold Gc
  split <;> split <;> simp [Int.gcd_neg, Int.neg_gcd]
theorem gc_start (a b : Int) : (0 ≤ if a < 0 then -a else a) ∧ (0 ≤ if b < 0 then -b else b) ∧ Gc (if a < 0 then -a else a) (if b < 0 then -b else b) = Gc a b := by
  refine ⟨?_, ?_, Gc_abs a b⟩ <;> split <;> omega
theorem gc_turn {a b l r : Int} (h : Gc l r = Gc a b) (l0 : 0 ≤ l) (r0 : 0 ≤ r) (hr : ¬ r = 0) : 0 ≤ r ∧ 0 ≤ Int.fmod l r ∧ Gc r (Int.fmod l r) = Gc a b :=
  ⟨r0, Int.fmod_nonneg_of_pos l (by omega), by rw [Gc_turn (by omega)]; exact h⟩
theorem gc_less {l r : Int} (r0 : 0 ≤ r) (hr : ¬ r = 0) : (Int.fmod l r).toNat < r.toNat := by
  have := Int.fmod_lt_of_pos l (show 0 < r by omega)
  have := Int.fmod_nonneg_of_pos l (show 0 < r by omega)
  omega
theorem gc_out {a b l r : Int} (h : Gc l r = Gc a b) (l0 : 0 ≤ l) (r0 : 0 ≤ r) (hr : r ≤ 0) : l = Gc a b := by
  rw [← h, Gc_zero l0 (by omega)]
/-- r brought to 0 to m - 1 -/
def bring (m r : Int) : Int := if m = 0 then r else Int.fmod r m
theorem bring_zero (r : Int) : r = bring 0 r := by unfold bring; rw [if_pos rfl]
theorem bring_pos {m r : Int} (h : ¬ m = 0) : Int.fmod r m = bring m r := by unfold bring; rw [if_neg h]
/-- a tuple of two numbers -/
def IsR (M R : Int) (o : Obj) : Prop := ∃ (m r : Int) (t1 t2 : Tok) (k : Nat), o = tupO #[.int m t1, .int r t2] k ∧ m = M ∧ r = R
theorem IsR.use {M R : Int} {o : Obj} (h : IsR M R o) : ∃ (t1 t2 : Tok) (k : Nat), o = tupO #[.int M t1, .int R t2] k := by
  obtain ⟨m, r, t1, t2, k, e, rfl, rfl⟩ := h
  exact ⟨t1, t2, k, e⟩
theorem IsR.mk' {M R m r : Int} {t1 t2 : Tok} {k : Nat} (h1 : m = M) (h2 : r = R) : IsR M R (tupO #[.int m t1, .int r t2] k) := ⟨m, r, t1, t2, k, rfl, h1, h2⟩
theorem ne_of {news : List (Addr × Obj)} {r b : Addr} {o : Obj} (h : ∀ q ∈ news, q.1 ≠ r) (hm : (b, o) ∈ news) : b ≠ r := h _ hm
theorem hasR_bring {m r n : Int} (hm : 0 ≤ m) : hasR m (bring m r) n = hasR m r n := by
  unfold bring hasR
  by_cases z : m = 0
  · rw [if_pos z, if_pos z, if_pos z]
  · rw [if_neg z, if_neg z, if_neg z]
    have h := hasR_pos (m := m) (r := Int.fmod r m) (n := n) (by omega)
    have h2 := hasR_pos (m := m) (r := r) (n := n) (by omega)
    rw [← hasR_in z] at h h2
    rw [← h, ← h2]
    have e : Int.fmod (Int.fmod r m) m = Int.fmod r m := Int.fmod_fmod r m
    rw [e]
theorem hasR_t {M R n : Int} (hm : 0 < M) : (Int.fmod n M == bring M R) = hasR M R n := by
  rw [← bring_pos (by omega)]
  exact hasR_pos hm
theorem hasR_z {R n : Int} : (n == bring 0 R) = hasR 0 R n := by
  rw [← bring_zero]
  exact hasR_zero R n
end My
end
section
set_option maxRecDepth 100000
namespace My
open PySem PySem.W PySem.Calls PyProof.Rows PySem.Spec
/-- whether a tuple (M, R) has a number -/
def hasT (M R n : Int) : Bool := if M = 0 then n == R else Int.fmod n M == R
theorem hasT_z {R n : Int} : (n == R) = hasT 0 R n := by unfold hasT; rw [if_pos rfl]
theorem hasT_p {M R n : Int} (h : ¬ M = 0) : (Int.fmod n M == R) = hasT M R n := by unfold hasT; rw [if_neg h]
theorem hasT_bring {M R n : Int} (hM : 0 ≤ M) : hasT M (bring M R) n = hasR M R n := by
  by_cases z : M = 0
  · subst z
    rw [← hasT_z, hasR_z]
  · rw [← hasT_p z, hasR_t (by omega)]
theorem ab_nonneg (k : Int) : 0 ≤ (if k < 0 then -k else k) := by split <;> omega
theorem ab_in {k B : Int} (h1 : -B ≤ k) (h2 : k ≤ B) : (if k < 0 then -k else k) ≤ B := by split <;> omega
theorem mul_ab_nonneg {m k : Int} (hm : 0 ≤ m) : 0 ≤ m * (if k < 0 then -k else k) := Int.mul_nonneg hm (ab_nonneg k)
theorem T_plus (m n r s j : Int) : hasT (Gc m n) (bring (Gc m n) (r + s)) (r + j * m + s - j * n) = true := by
  rw [hasT_bring (Gc_nonneg m n)]
  exact has_plus m n r s j
theorem T_times {m k r j : Int} (hm : 0 ≤ m) : hasT (m * (if k < 0 then -k else k)) (bring (m * (if k < 0 then -k else k)) (r * k)) ((r + j * m) * k) = true := by
  rw [hasT_bring (mul_ab_nonneg hm)]
  refine has_times m k r j _ ?_
  split
  · exact Or.inr rfl
  · exact Or.inl rfl
def partM (m d : Int) : Int := if Int.fmod m d = 0 then Int.fdiv m d else 1
def partR (m r d : Int) : Int := if Int.fmod m d = 0 then bring (Int.fdiv m d) (Int.fdiv r d) else 0
theorem partM_y {m d : Int} (h : Int.fmod m d = 0) : Int.fdiv m d = partM m d := by unfold partM; rw [if_pos h]
theorem partM_n {m d : Int} (h : ¬ Int.fmod m d = 0) : 1 = partM m d := by unfold partM; rw [if_neg h]
theorem partR_y {m r d : Int} (h : Int.fmod m d = 0) : bring (Int.fdiv m d) (Int.fdiv r d) = partR m r d := by unfold partR; rw [if_pos h]
theorem partR_n {m r d : Int} (h : ¬ Int.fmod m d = 0) : 0 = partR m r d := by unfold partR; rw [if_neg h]
theorem fdiv_nonneg' {m d : Int} (hm : 0 ≤ m) (hd : 0 < d) : 0 ≤ Int.fdiv m d := by
  rw [Int.fdiv_eq_ediv_of_nonneg _ (Int.le_of_lt hd)]
  exact Int.ediv_nonneg hm (Int.le_of_lt hd)
theorem partM_nonneg {m d : Int} (hm : 0 ≤ m) (hd : 0 < d) : 0 ≤ partM m d := by
  unfold partM
  split
  · exact fdiv_nonneg' hm hd
  · decide
theorem T_parted {m d r j : Int} (hm : 0 ≤ m) (hd : 0 < d) : hasT (partM m d) (partR m r d) (Int.fdiv (r + j * m) d) = true := by
  by_cases h : Int.fmod m d = 0
  · rw [← partM_y h, ← partR_y h, hasT_bring (fdiv_nonneg' hm hd)]
    exact has_parted hd h
  · rw [← partM_n h, ← partR_n h]
    have e : (0 : Int) = bring 1 0 := by decide
    rw [e, hasT_bring (by decide)]
    exact has_one _
def restedM (m d : Int) : Int := if Gc m d = d then 0 else Gc m d
def restedR (m r d : Int) : Int := if Gc m d = d then Int.fmod r d else bring (Gc m d) r
theorem restedM_y {m d : Int} (h : Gc m d = d) : 0 = restedM m d := by unfold restedM; rw [if_pos h]
theorem restedM_n {m d : Int} (h : ¬ Gc m d = d) : Gc m d = restedM m d := by unfold restedM; rw [if_neg h]
theorem restedR_y {m r d : Int} (h : Gc m d = d) : Int.fmod r d = restedR m r d := by unfold restedR; rw [if_pos h]
theorem restedR_n {m r d : Int} (h : ¬ Gc m d = d) : bring (Gc m d) r = restedR m r d := by unfold restedR; rw [if_neg h]
theorem restedR_l {m r d : Int} (hd : 0 < d) (h : ¬ Gc m d = d) : Int.fmod r (Gc m d) = restedR m r d := by
  rw [← restedR_n h]
  exact bring_pos (by have := Gc_pos (a := m) hd; omega)
theorem restedM_nonneg (m d : Int) : 0 ≤ restedM m d := by
  unfold restedM
  split
  · decide
  · exact Gc_nonneg m d
theorem T_rested {m d r j : Int} (hd : 0 < d) : hasT (restedM m d) (restedR m r d) (Int.fmod (r + j * m) d) = true := by
  by_cases h : Gc m d = d
  · rw [← restedM_y h, ← restedR_y h]
    have e : Int.fmod r d = bring 0 (Int.fmod r d) := bring_zero _
    rw [e, hasT_bring (by decide)]
    exact has_rested_d hd h
  · rw [← restedM_n h, ← restedR_n h, hasT_bring (Gc_nonneg m d)]
    exact has_rested hd
theorem T_loosened (m d r j k : Int) : hasT (Gc m d) (bring (Gc m d) r) (r + j * m + j * k * d) = true := by
  rw [hasT_bring (Gc_nonneg m d)]
  exact has_loosened m d r j k
theorem Gc_le {m d : Int} (hd : 0 < d) : Gc m d ≤ d := Int.le_of_dvd hd (Gc_right m d)
theorem bring_in {m r B : Int} (hm : 0 ≤ m) (hB : m ≤ B) (h1 : -B ≤ r) (h2 : r ≤ B) : -B ≤ bring m r ∧ bring m r ≤ B := by
  unfold bring
  split
  · exact ⟨h1, h2⟩
  · have a := Int.fmod_nonneg_of_pos r (show 0 < m by omega)
    have b := Int.fmod_lt_of_pos r (show 0 < m by omega)
    omega
/-- some int that P tells -/
abbrev TellsI (P : Int → Prop) (lent : List (Addr × Obj)) : Heap → Addr → (Str → Option Value) → Shared → (Value → Shared → Prop) → (Value → Shared → Prop) → Prop := fun h₀ L m s Q _ =>
  ∀ (x : Int) (t : Tok) (h' : Heap) (tk' : Nat), P x → Fr h₀ L h' m → News h₀ L h' lent → Stay lent s.heap h' → Q (.int x t) { s with heap := h', toks := tk' }
theorem tells_ret {h₀ h' : Heap} {L : Addr} {m : Str → Option Value} {lent : List (Addr × Obj)} {s : Shared} {Q : Value → Shared → Prop} {t : Tok} {tk' : Nat} {P : Int → Prop} {y : Int}
    (hret : ∀ (x : Int) (t : Tok) (h' : Heap) (tk' : Nat), P x → Fr h₀ L h' m → News h₀ L h' lent → Stay lent s.heap h' → Q (.int x t) { s with heap := h', toks := tk' }) (p : P y) (F : Fr h₀ L h' m) (N : News h₀ L h' lent) (S : Stay lent s.heap h') : Q (.int y t) { s with heap := h', toks := tk' } := hret y t h' tk' p F N S
/-- from 0 to 10 ** 60 -/
structure Up60 (x : Int) : Prop where
  lo : 0 ≤ x
  hi : x ≤ T60
theorem up_mod {m : Int} (m1 : m ≤ T60) : Up60 (Int.fmod m 13) := by
  have a := Int.fmod_nonneg_of_pos m (show (0 : Int) < 13 by decide)
  have b := Int.fmod_lt_of_pos m (show (0 : Int) < 13 by decide)
  have e := T60_eq
  exact ⟨a, by omega⟩
section
variable {prog : Program} {w : World} {K : Frag} {p : Program} {loose : List Str} {mean : ExcName → Option Value} {mg mb : Str → Option Value} {room : Nat} {f : Addr} {vs : List Value} {news lent : List (Addr × Obj)}
  {dp un : Nat} {gd : Option (List Code)} {cn : Str} {cs : Scope} {a : Addr} {ccd : Value} {cl : List (Str × Addr)} {outer : List Env} {A₀ : Around} {base h₀ : Heap} {L : Addr} {m : Str → Option Value} {s : Shared} {Q E : Value → Shared → Prop}
theorem use_tells {P : Int → Prop} (D : Does prog w K p loose mean mg mb room f lent vs (TellsI P lent)) (B : Below A₀ base outer h₀) (F : Fr h₀ L s.heap m) (X : K.In h₀) (N : News h₀ L s.heap news) (T : Top p loose mean mg mb h₀) (hk : cs.kind = .function)
    (hd : dp + room < recursionLimit) (hu : un + 10 * room < cLine) (sub : ∀ q ∈ lent, q ∈ news) (h : ∀ (x : Int) (t : Tok) (h' : Heap) (tk' : Nat), P x → Fr h₀ L h' m → News h₀ L h' news → Q (.int x t) { s with heap := h', toks := tk' }) :
    wpAny (model prog w) (ktrTop dp un gd cn cs L a ccd cl outer) (call (.ref f) vs) Q E s :=
  D _ _ _ _ _ _ _ _ _ _ _ _ _ _ _ _ _ B F X (fun q hq => N q (sub q hq)) T hk hd hu fun x t h' tk' p F' N' S => h x t h' tk' p F' (stay_news S N N' fun q hq => (N q (sub q hq)).1)
end
/-- a tuple of m and a number of at most sixty figures -/
def IsRB (M : Int) (o : Obj) : Prop := ∃ (r : Int) (t1 t2 : Tok) (k : Nat), o = tupO #[.int M t1, .int r t2] k ∧ -T60 ≤ r ∧ r ≤ T60
theorem IsR.rb {m r : Int} {o : Obj} (hm : 0 ≤ m) (hB : m ≤ T60) (h1 : -T60 ≤ r) (h2 : r ≤ T60) (h : IsR m (bring m r) o) : IsRB m o := by
  obtain ⟨t1, t2, k, e⟩ := h.use
  have b := bring_in hm hB h1 h2
  exact ⟨_, t1, t2, k, e, b.1, b.2⟩
section
variable {prog : Program} {w : World} {A : Around} {E : Value → Shared → Prop} {s : Shared} {x y : Int} {t u : Tok} {Q : Value → Shared → Prop}
theorem bits_mag (h1 : -(10 * T60) ≤ x) (h2 : x ≤ 10 * T60) : Builtin.Int.intBits x ≤ 256 := by
  rw [T60_eq] at h1 h2
  refine PyProof.Rows.intBits_le ?_
  have p : (2 : Nat) ^ 256 = 115792089237316195423570985008687907853269984665640564039457584007913129639936 := by decide
  rw [p]
  omega
theorem step_mul_mag (h1 : -(10 * T60) ≤ x) (h2 : x ≤ 10 * T60) (h3 : -(10 * T60) ≤ y) (h4 : y ≤ 10 * T60) (h : Q (.int (x * y) s.toks) { s with toks := s.toks + 1 }) : wpAny (model prog w) A (binaryOp .Mult (.int x t) (.int y u)) Q E s :=
  PyProof.Rows.mul_int h (IntMulOk.of_bits (Nat.le_trans (bits_mag h1 h2) (by decide)) (Nat.le_trans (bits_mag h3 h4) (by decide)))
end
end My
namespace My
open PySem PySem.W PySem.Calls PyProof.Rows PySem.Spec
/-- from 1 on, of at most sixty figures -/
structure D60 (x : Int) : Prop where
  lo : 0 < x
  hi : x ≤ T60 + 1
theorem D60.ab {v : Int} : D60 (1 + (if numb v < 0 then -numb v else numb v)) := by
  have a := numb_in v
  refine ⟨?_, ?_⟩ <;> split <;> omega
theorem D60.gc {m d : Int} (h : D60 d) : D60 (Gc m d) := ⟨Gc_pos h.lo, Int.le_trans (Gc_le h.lo) h.hi⟩
theorem D60.one : D60 1 := ⟨by decide, by have := T60_eq; omega⟩
theorem lays_mono {prog : Program} {w : World} {K : Frag} {p : Program} {loose : List Str} {mean : ExcName → Option Value} {mg mb : Str → Option Value} {room : Nat} {f : Addr} {lent : List (Addr × Obj)} {vs : List Value} {P P' : Obj → Prop}
    (d : Does prog w K p loose mean mg mb room f lent vs (Lays P lent)) (i : ∀ o, P o → P' o) : Does prog w K p loose mean mg mb room f lent vs (Lays P' lent) :=
  fun dp un gd cn cs a ccd cl outer A₀ base h₀ L m s Q E B F X N T hk hd hu hret => d dp un gd cn cs a ccd cl outer A₀ base h₀ L m s Q E B F X N T hk hd hu fun r o h' tk' hp => hret r o h' tk' (i o hp)
theorem hands_mono {prog : Program} {w : World} {K : Frag} {p : Program} {loose : List Str} {mean : ExcName → Option Value} {mg mb : Str → Option Value} {room : Nat} {f : Addr} {lent : List (Addr × Obj)} {vs : List Value} {r r' : Tok → Value}
    (d : Does prog w K p loose mean mg mb room f lent vs (Hands r lent)) (i : ∀ t, r t = r' t) : Does prog w K p loose mean mg mb room f lent vs (Hands r' lent) :=
  fun dp un gd cn cs a ccd cl outer A₀ base h₀ L m s Q E B F X N T hk hd hu hret => d dp un gd cn cs a ccd cl outer A₀ base h₀ L m s Q E B F X N T hk hd hu fun t h' tk' F' N' S => i t ▸ hret t h' tk' F' N' S
end My
namespace My
theorem mag_lo {x : Int} (h : -T60 ≤ x ∧ x ≤ T60) : -(10 * T60) ≤ x := by have := T60_eq; omega
theorem mag_hi {x : Int} (h : -T60 ≤ x ∧ x ≤ T60) : x ≤ 10 * T60 := by have := T60_eq; omega
theorem mag_ab_lo (x : Int) : -(10 * T60) ≤ (if x < 0 then -x else x) := by have := T60_eq; split <;> omega
theorem mag_ab_hi {x : Int} (h : -T60 ≤ x ∧ x ≤ T60) : (if x < 0 then -x else x) ≤ 10 * T60 := by have := T60_eq; split <;> omega
end My
namespace My
open PySem PySem.W PySem.Calls PyProof.Rows PySem.Spec
section
variable {prog : Program} {w : World} {A : Around} {E : Value → Shared → Prop} {s : Shared} {a b m d : Int} {t u : Tok} {Q : Value → Shared → Prop}
theorem step_fdiv_lt (hb : 0 < b) (hl : b.natAbs < 2 ^ 8000) (h : Q (.int (a.fdiv b) s.toks) { s with toks := s.toks + 1 }) : wpAny (model prog w) A (binaryOp .FloorDiv (.int a t) (.int b u)) Q E s :=
  PyProof.Rows.floordiv_int (by omega) h (Or.inl (PyProof.noPylong_of_log2 (Nat.lt_trans ((Nat.log2_lt (by omega)).mpr hl) (by decide))))
theorem step_fdiv_t (hb : 0 < b) (hB : b ≤ 10 * T60) (h : Q (.int (a.fdiv b) s.toks) { s with toks := s.toks + 1 }) : wpAny (model prog w) A (binaryOp .FloorDiv (.int a t) (.int b u)) Q E s := by
  refine step_fdiv_lt hb ?_ h
  have e := T60_eq
  have p : (2 : Nat) ^ 256 = 115792089237316195423570985008687907853269984665640564039457584007913129639936 := by decide
  have q : b.natAbs < 2 ^ 256 := by rw [p]; omega
  exact Nat.lt_of_lt_of_le q (Nat.pow_le_pow_right (by decide) (by decide))
theorem step_mod_gc (hd : 0 < d) (h : Q (.int (Int.fmod a (Gc m d)) s.toks) { s with toks := s.toks + 1 }) : wpAny (model prog w) A (binaryOp .Mod (.int a t) (.int (Gc m d) u)) Q E s :=
  PyProof.Rows.mod_int (by have := Gc_pos (a := m) hd; omega) h
end
end My
namespace My
theorem d_mag {d : Int} (h : d ≤ T60 + 1) : d ≤ 10 * T60 := by have := T60_eq; omega
end My
namespace My
theorem j_cases {j : Int} (h1 : -2 ≤ j) (h2 : j < 3) : j = -2 ∨ j = -1 ∨ j = 0 ∨ j = 1 ∨ j = 2 := by omega
theorem j_mag {j x r : Int} (h1 : -2 ≤ j) (h2 : j < 3) (x0 : -T60 ≤ x) (x1 : x ≤ T60) (r0 : -T60 ≤ r) (r1 : r ≤ T60) : -(10 * T60) ≤ r + j * x ∧ r + j * x ≤ 10 * T60 := by
  have e := T60_eq
  rcases j_cases h1 h2 with rfl | rfl | rfl | rfl | rfl <;> omega
theorem j_mag0 {j x : Int} (h1 : -2 ≤ j) (h2 : j < 3) (x0 : -T60 ≤ x) (x1 : x ≤ T60) : -(10 * T60) ≤ j * x ∧ j * x ≤ 10 * T60 := by
  have e := T60_eq
  rcases j_cases h1 h2 with rfl | rfl | rfl | rfl | rfl <;> omega
theorem j_small {j : Int} (h1 : -2 ≤ j) (h2 : j < 3) : -(10 * T60) ≤ j ∧ j ≤ 10 * T60 := by
  have e := T60_eq
  omega
theorem t_small {x : Int} (h1 : -T60 ≤ x) (h2 : x ≤ T60 + 1) : -(10 * T60) ≤ x ∧ x ≤ 10 * T60 := by
  have e := T60_eq
  omega
end My
namespace My
theorem D60.mxg {m d : Int} (h : D60 d) : D60 (if Gc m d > 1 then Gc m d else 1) := by
  have a := h.gc (m := m)
  split
  · exact a
  · exact D60.one
theorem D60.mxm {m : Int} (h : m ≤ T60) : D60 (if m > 1 then m else 1) := by
  split
  · exact ⟨by omega, by omega⟩
  · exact D60.one
end My
end
section
set_option maxRecDepth 100000
set_option maxHeartbeats 4000000
namespace My
open PySem
section
variable {prog : Program} {w : World} {A : Around} {R : Result → Shared → Prop} {I : Addr} {fp wr : List Addr} {n : Nat} {P : Nat → Value → Prop} {St : Nat → Heap → Prop}
/-- the rest of max's own loop with keywords kw: S holds the best item so far, twice -/
theorem mx_rest (W : Walks prog w A.in1 I fp wr n P St) (bt : Nat → Nat → Bool) (cmp : CmpOf prog w A.in1 .Gt P bt) (S : Addr) (off : S ∉ fp) (kw : List (Str × Value)) :
    ∀ (k j : Nat) (s : Shared) (best : Value) (c : Nat), n - (j + 1) = k → j + 1 ≤ n → St (j + 1) s.heap → P (argBest bt j) best → s.heap.get? S = some { cls := .type "list", dict := none, data := .seq #[best, best] c, slots := #[] } →
      (∀ v g tk, P (argBest bt (n - 1)) v → (∀ b o, b ∉ wr → b ≠ S → s.heap.get? b = some o → g.get? b = some o) → R (.ok (.ret v)) { s with heap := g, toks := tk }) →
      codeAny (model prog w) A (.builtin "max.loop" ⟨[.ref I, .none, .ref S], kw⟩) R s := by
  have offw : S ∉ wr := fun q => off (W.sub _ q)
  have nm : (toString "max" ++ toString ".loop" : String) = "max.loop" := by decide
  intro k
  induction k with
  | zero =>
    intro j s best c ek ej st pb at_S out
    have last : j + 1 = n := by omega
    refine codeAny_builtin F.entry_max_loop ?_; rw [Around.under_plainId F.plain_max_loop _]
    show wpAny _ A.in1 (seqItems? (.ref S) >>= _) _ _ s; refine wpAny_bind (wpAny_seqItems at_S rfl ?_)
    show wpAny _ A.in1 (tryCatch (pyNext (.ref I)) _ >>= _) _ _ s; refine wpAny_bind (wpAny_tryCatch (W.done s _ _ (last ▸ st) fun g tk keeps => ?_))
    have at_S' := keeps S _ offw at_S
    show wpAny _ A.in1 (updateSeq S (fun _ => #[]) >>= _) _ _ _
    refine wpAny_bind ?_; refine wpAny_updateSeq at_S' rfl (wpAny_bind (wpAny_letGo (wpAny_pure ?_)))
    exact out best _ tk (by rw [← last]; exact pb) fun b o bw bS e => (Heap.get?_update_other _ _ (Ne.symm bS)).trans (keeps b o bw e)
  | succ k ih =>
    intro j s best c ek ej st pb at_S out
    have more : j + 1 < n := by omega
    refine codeAny_builtin F.entry_max_loop ?_; rw [Around.under_plainId F.plain_max_loop _]
    show wpAny _ A.in1 (seqItems? (.ref S) >>= _) _ _ s; refine wpAny_bind (wpAny_seqItems at_S rfl ?_)
    show wpAny _ A.in1 (tryCatch (pyNext (.ref I)) _ >>= _) _ _ s; refine wpAny_bind (wpAny_tryCatch (W.item (j + 1) s _ _ more st fun v g tk pv st' keeps => ?_))
    have at_S' := keeps S _ offw at_S
    show wpAny _ A.in1 (tryCatch (holding [v, v] (richCompare .Gt v best >>= _)) _ >>= _) _ _ _; refine wpAny_bind (wpAny_tryCatch (wpAny_holding (wpAny_bind (cmp (j + 1) (argBest bt j) v best _ _ _ pv pb ?_))))
    refine wpAny_bind (wpAny_holding (wpAny_truthy_bool ?_)); refine wpAny_bind (wpAny_letGo (wpAny_pure ?_))
    cases hb : bt (j + 1) (argBest bt j) with
    | true =>
      simp only [if_true]; refine wpAny_bind ?_; refine wpAny_updateSeq at_S' rfl (wpAny_bind (wpAny_letGo ?_)); rw [nm]
      refine wpAny_pure ⟨plainId_quiet F.plain_max_loop _, ih (j + 1) _ v _ (by omega) more (W.frame _ _ _ st' fun b bf o e => ?_) (by simp only [argBest, hb, if_true]; exact pv) (Heap.get?_update_self _ at_S' rfl) fun v' g' tk' pv' keeps' => ?_⟩
      · exact (Heap.get?_update_other _ _ (fun q : S = b => off (by rw [q]; exact bf))).trans e
      · exact out v' g' tk' pv' fun b o bw bS e => keeps' b o bw bS ((Heap.get?_update_other _ _ (Ne.symm bS)).trans (keeps b o bw e))
    | false =>
      simp only [Bool.false_eq_true, if_false]; refine wpAny_bind (wpAny_letGo ?_); rw [nm]
      refine wpAny_pure ⟨plainId_quiet F.plain_max_loop _, ih (j + 1) _ best c (by omega) more st' (by simp only [argBest, hb, Bool.false_eq_true, if_false]; exact pb) at_S' fun v' g' tk' pv' keeps' => ?_⟩
      exact out v' g' tk' pv' fun b o bw bS e => keeps' b o bw bS (keeps b o bw e)
/-- its first turn, where there is an item -/
theorem mx_first (W : Walks prog w A.in1 I fp wr n P St) (bt : Nat → Nat → Bool) (cmp : CmpOf prog w A.in1 .Gt P bt) (S : Addr) (off : S ∉ fp) (kw : List (Str × Value)) (some_ : 0 < n) {s : Shared} {c : Nat} (st : St 0 s.heap)
    (at_S : s.heap.get? S = some { cls := .type "list", dict := none, data := .seq #[] c, slots := #[] })
    (out : ∀ v g tk, P (argBest bt (n - 1)) v → (∀ b o, b ∉ wr → b ≠ S → s.heap.get? b = some o → g.get? b = some o) → R (.ok (.ret v)) { s with heap := g, toks := tk }) :
    codeAny (model prog w) A (.builtin "max.loop" ⟨[.ref I, .none, .ref S], kw⟩) R s := by
  have offw : S ∉ wr := fun q => off (W.sub _ q)
  have nm : (toString "max" ++ toString ".loop" : String) = "max.loop" := by decide
  refine codeAny_builtin F.entry_max_loop ?_; rw [Around.under_plainId F.plain_max_loop _]
  show wpAny _ A.in1 (seqItems? (.ref S) >>= _) _ _ s; refine wpAny_bind (wpAny_seqItems at_S rfl ?_)
  show wpAny _ A.in1 (tryCatch (pyNext (.ref I)) _ >>= _) _ _ s; refine wpAny_bind (wpAny_tryCatch (W.item 0 s _ _ some_ st fun v g tk pv st' keeps => ?_))
  have at_S' := keeps S _ offw at_S
  show wpAny _ A.in1 (updateSeq S (fun _ => #[v, v]) >>= _) _ _ _
  refine wpAny_bind ?_; refine wpAny_updateSeq at_S' rfl ?_; rw [nm]
  refine wpAny_pure ⟨plainId_quiet F.plain_max_loop _, mx_rest W bt cmp S off kw _ 0 _ v _ rfl some_ (W.frame _ _ _ st' fun b bf o e => ?_) pv (Heap.get?_update_self _ at_S' rfl) fun v' g' tk' pv' keeps' => ?_⟩
  · exact (Heap.get?_update_other _ _ (fun q : S = b => off (by rw [q]; exact bf))).trans e
  · exact out v' g' tk' pv' fun b o bw bS e => keeps' b o bw bS ((Heap.get?_update_other _ _ (Ne.symm bS)).trans (keeps b o bw e))
/-- where there is none: the default -/
theorem mx_none (W : Walks prog w A.in1 I fp wr 0 P St) (S : Addr) (x : Str) (d : Value) (kw : List (Str × Value)) {s : Shared} {c : Nat} (st : St 0 s.heap)
    (at_S : s.heap.get? S = some { cls := .type "list", dict := none, data := .seq #[] c, slots := #[] })
    (out : ∀ g tk, (∀ b o, b ∉ wr → s.heap.get? b = some o → g.get? b = some o) → R (.ok (.ret d)) { s with heap := g, toks := tk }) :
    codeAny (model prog w) A (.builtin "max.loop" ⟨[.ref I, .none, .ref S], (x, d) :: kw⟩) R s := by
  refine codeAny_builtin F.entry_max_loop ?_; rw [Around.under_plainId F.plain_max_loop _]
  show wpAny _ A.in1 (seqItems? (.ref S) >>= _) _ _ s; refine wpAny_bind (wpAny_seqItems at_S rfl ?_)
  show wpAny _ A.in1 (tryCatch (pyNext (.ref I)) _ >>= _) _ _ s; refine wpAny_bind (wpAny_tryCatch (W.done s _ _ st fun g tk keeps => ?_))
  show wpAny _ A.in1 (rule _ >>= _) _ _ _
  exact wpAny_bind (wpAny_rule (wpAny_pure (out g tk keeps)))
end
section
variable {prog : Program} {w : World} {A : Around} {E : Value → Shared → Prop} {s : Shared}
/-- a call of a built-in with keywords, by its own tree -/
theorem kw_tree {id : String} {b : Builtin} {args : List Value} {kw : List (Str × Value)} {Q : Value → Shared → Prop} (e1 : builtinKind id = none) (e2 : plainId id = true) (e3 : entryFor table id = some b) (e4 : argsOk id ⟨args, kw⟩)
    (go : wpAny (model prog w) A.in1 (b ⟨args, kw⟩) (fun fin s' => match fin with
      | .done f => (match (Except.ok f : Result) with
        | .ok (.ret v) => Q v s'
        | .ok _ => False
        | .error e => E e s')
      | .again c' => c'.quiet = true ∧ codeAny (model prog w) A c' (fun r s' => match r with
        | .ok (.ret v) => Q v s'
        | .ok _ => False
        | .error e => E e s') s') E s) : wpAny (model prog w) A (call (.builtin id) args kw) Q E s := by
  refine wpAny_call (codeAny_call_builtin e2 e3 ?_)
  simp only [checkBuiltinCall, e1]
  cases sg : Manifest.signature? id with
  | none => exact wpAny_pure go
  | some sig =>
    have e5 : Bind.checkArgs id sig ⟨args, kw⟩ = pure () := by simpa only [argsOk, sg] using e4
    simp only [e5]
    exact wpAny_pure go
theorem mx_args (a d : Value) : argsOk "max" ⟨[a], [(Str.ofString "default", d)]⟩ := by unfold argsOk; kernel_rfl
theorem mx_walk {x d : Value} {Q : Value → Shared → Prop}
    (h : wpAny (model prog w) A.in1 (pyIter x) (fun it s₂ => ∃ I fp wr n P St bt, it = .ref I ∧ Walks prog w A.in1 I fp wr n P St ∧ St 0 s₂.heap ∧ (∀ b ∈ fp, b < s₂.heap.objs.size) ∧ CmpOf prog w A.in1 .Gt P bt ∧
      (n = 0 → ∀ g tk, (∀ b o, b ∉ wr → s₂.heap.get? b = some o → g.get? b = some o) → Q d { s₂ with heap := g, toks := tk }) ∧
      (0 < n → ∀ v g tk, P (argBest bt (n - 1)) v → (∀ b o, b ∉ wr → s₂.heap.get? b = some o → g.get? b = some o) → Q v { s₂ with heap := g, toks := tk })) E s) :
    wpAny (model prog w) A (call (.builtin "max") [x] [(Str.ofString "default", d)]) Q E s := by
  have nm : (toString "max" ++ toString ".loop" : String) = "max.loop" := by decide
  refine kw_tree F.kind_max F.plain_max F.entry_max (mx_args _ _) ?_
  show wpAny _ A.in1 (Builtin.Builtins.bindParams "max" ["key", "default"] 0 ⟨[], [(Str.ofString "default", d)]⟩ >>= _) _ _ s
  refine wpAny_bind (wpAny_of_eq (show Builtin.Builtins.bindParams "max" ["key", "default"] 0 ⟨[], [(Str.ofString "default", d)]⟩ = pure [none, some d] from rfl) ?_)
  refine wpAny_bind (wpAny_pure ?_)
  refine wpAny_bind (wpAny_mono h (fun it s₂ h₂ => ?_) fun _ _ e => e)
  obtain ⟨I, fp, wr, n, P, St, bt, rfl, W, st, below, cmp, q0, q1⟩ := h₂
  refine wpAny_bind (wpAny_newObj_type ?_)
  have off : s₂.heap.objs.size ∉ fp := fun hm => Nat.lt_irrefl _ (below _ hm)
  rw [nm]
  by_cases z : n = 0
  · subst z
    exact wpAny_pure ⟨plainId_quiet F.plain_max_loop _, mx_none W _ _ d [] (W.frame _ _ _ st fun b _ o e => Heap.get?_push_of_some _ e) (Heap.get?_push_size _ rfl) fun g tk keeps => q0 rfl g tk fun b o bw e => keeps b o bw (Heap.get?_push_of_some _ e)⟩
  · refine wpAny_pure ⟨plainId_quiet F.plain_max_loop _, mx_first W bt cmp _ off _ (Nat.pos_of_ne_zero z) (W.frame _ _ _ st fun b _ o e => Heap.get?_push_of_some _ e) (Heap.get?_push_size _ rfl) fun v g tk pv keeps => ?_⟩
    exact q1 (Nat.pos_of_ne_zero z) v g tk pv fun b o bw e => keeps b o bw (Nat.ne_of_lt (Heap.lt_size e)) (Heap.get?_push_of_some _ e)
end
section
variable {prog : Program} {w : World} {A : Around} {R : Result → Shared → Prop} {I : Addr} {fp wr : List Addr} {n : Nat} {P : Nat → Value → Prop} {St : Nat → Heap → Prop}
/-- the rest of min's own loop with keywords kw: S holds the best item so far, twice -/
theorem mn_rest (W : Walks prog w A.in1 I fp wr n P St) (bt : Nat → Nat → Bool) (cmp : CmpOf prog w A.in1 .Lt P bt) (S : Addr) (off : S ∉ fp) (kw : List (Str × Value)) :
    ∀ (k j : Nat) (s : Shared) (best : Value) (c : Nat), n - (j + 1) = k → j + 1 ≤ n → St (j + 1) s.heap → P (argBest bt j) best → s.heap.get? S = some { cls := .type "list", dict := none, data := .seq #[best, best] c, slots := #[] } →
      (∀ v g tk, P (argBest bt (n - 1)) v → (∀ b o, b ∉ wr → b ≠ S → s.heap.get? b = some o → g.get? b = some o) → R (.ok (.ret v)) { s with heap := g, toks := tk }) →
      codeAny (model prog w) A (.builtin "min.loop" ⟨[.ref I, .none, .ref S], kw⟩) R s := by
  have offw : S ∉ wr := fun q => off (W.sub _ q)
  have nm : (toString "min" ++ toString ".loop" : String) = "min.loop" := by decide
  intro k
  induction k with
  | zero =>
    intro j s best c ek ej st pb at_S out
    have last : j + 1 = n := by omega
    refine codeAny_builtin F.entry_min_loop ?_; rw [Around.under_plainId F.plain_min_loop _]
    show wpAny _ A.in1 (seqItems? (.ref S) >>= _) _ _ s; refine wpAny_bind (wpAny_seqItems at_S rfl ?_)
    show wpAny _ A.in1 (tryCatch (pyNext (.ref I)) _ >>= _) _ _ s; refine wpAny_bind (wpAny_tryCatch (W.done s _ _ (last ▸ st) fun g tk keeps => ?_))
    have at_S' := keeps S _ offw at_S
    show wpAny _ A.in1 (updateSeq S (fun _ => #[]) >>= _) _ _ _
    refine wpAny_bind ?_; refine wpAny_updateSeq at_S' rfl (wpAny_bind (wpAny_letGo (wpAny_pure ?_)))
    exact out best _ tk (by rw [← last]; exact pb) fun b o bw bS e => (Heap.get?_update_other _ _ (Ne.symm bS)).trans (keeps b o bw e)
  | succ k ih =>
    intro j s best c ek ej st pb at_S out
    have more : j + 1 < n := by omega
    refine codeAny_builtin F.entry_min_loop ?_; rw [Around.under_plainId F.plain_min_loop _]
    show wpAny _ A.in1 (seqItems? (.ref S) >>= _) _ _ s; refine wpAny_bind (wpAny_seqItems at_S rfl ?_)
    show wpAny _ A.in1 (tryCatch (pyNext (.ref I)) _ >>= _) _ _ s; refine wpAny_bind (wpAny_tryCatch (W.item (j + 1) s _ _ more st fun v g tk pv st' keeps => ?_))
    have at_S' := keeps S _ offw at_S
    show wpAny _ A.in1 (tryCatch (holding [v, v] (richCompare .Lt v best >>= _)) _ >>= _) _ _ _; refine wpAny_bind (wpAny_tryCatch (wpAny_holding (wpAny_bind (cmp (j + 1) (argBest bt j) v best _ _ _ pv pb ?_))))
    refine wpAny_bind (wpAny_holding (wpAny_truthy_bool ?_)); refine wpAny_bind (wpAny_letGo (wpAny_pure ?_))
    cases hb : bt (j + 1) (argBest bt j) with
    | true =>
      simp only [if_true]; refine wpAny_bind ?_; refine wpAny_updateSeq at_S' rfl (wpAny_bind (wpAny_letGo ?_)); rw [nm]
      refine wpAny_pure ⟨plainId_quiet F.plain_min_loop _, ih (j + 1) _ v _ (by omega) more (W.frame _ _ _ st' fun b bf o e => ?_) (by simp only [argBest, hb, if_true]; exact pv) (Heap.get?_update_self _ at_S' rfl) fun v' g' tk' pv' keeps' => ?_⟩
      · exact (Heap.get?_update_other _ _ (fun q : S = b => off (by rw [q]; exact bf))).trans e
      · exact out v' g' tk' pv' fun b o bw bS e => keeps' b o bw bS ((Heap.get?_update_other _ _ (Ne.symm bS)).trans (keeps b o bw e))
    | false =>
      simp only [Bool.false_eq_true, if_false]; refine wpAny_bind (wpAny_letGo ?_); rw [nm]
      refine wpAny_pure ⟨plainId_quiet F.plain_min_loop _, ih (j + 1) _ best c (by omega) more st' (by simp only [argBest, hb, Bool.false_eq_true, if_false]; exact pb) at_S' fun v' g' tk' pv' keeps' => ?_⟩
      exact out v' g' tk' pv' fun b o bw bS e => keeps' b o bw bS (keeps b o bw e)
/-- its first turn, where there is an item -/
theorem mn_first (W : Walks prog w A.in1 I fp wr n P St) (bt : Nat → Nat → Bool) (cmp : CmpOf prog w A.in1 .Lt P bt) (S : Addr) (off : S ∉ fp) (kw : List (Str × Value)) (some_ : 0 < n) {s : Shared} {c : Nat} (st : St 0 s.heap)
    (at_S : s.heap.get? S = some { cls := .type "list", dict := none, data := .seq #[] c, slots := #[] })
    (out : ∀ v g tk, P (argBest bt (n - 1)) v → (∀ b o, b ∉ wr → b ≠ S → s.heap.get? b = some o → g.get? b = some o) → R (.ok (.ret v)) { s with heap := g, toks := tk }) :
    codeAny (model prog w) A (.builtin "min.loop" ⟨[.ref I, .none, .ref S], kw⟩) R s := by
  have offw : S ∉ wr := fun q => off (W.sub _ q)
  have nm : (toString "min" ++ toString ".loop" : String) = "min.loop" := by decide
  refine codeAny_builtin F.entry_min_loop ?_; rw [Around.under_plainId F.plain_min_loop _]
  show wpAny _ A.in1 (seqItems? (.ref S) >>= _) _ _ s; refine wpAny_bind (wpAny_seqItems at_S rfl ?_)
  show wpAny _ A.in1 (tryCatch (pyNext (.ref I)) _ >>= _) _ _ s; refine wpAny_bind (wpAny_tryCatch (W.item 0 s _ _ some_ st fun v g tk pv st' keeps => ?_))
  have at_S' := keeps S _ offw at_S
  show wpAny _ A.in1 (updateSeq S (fun _ => #[v, v]) >>= _) _ _ _
  refine wpAny_bind ?_; refine wpAny_updateSeq at_S' rfl ?_; rw [nm]
  refine wpAny_pure ⟨plainId_quiet F.plain_min_loop _, mn_rest W bt cmp S off kw _ 0 _ v _ rfl some_ (W.frame _ _ _ st' fun b bf o e => ?_) pv (Heap.get?_update_self _ at_S' rfl) fun v' g' tk' pv' keeps' => ?_⟩
  · exact (Heap.get?_update_other _ _ (fun q : S = b => off (by rw [q]; exact bf))).trans e
  · exact out v' g' tk' pv' fun b o bw bS e => keeps' b o bw bS ((Heap.get?_update_other _ _ (Ne.symm bS)).trans (keeps b o bw e))
/-- where there is none: the default -/
theorem mn_none (W : Walks prog w A.in1 I fp wr 0 P St) (S : Addr) (x : Str) (d : Value) (kw : List (Str × Value)) {s : Shared} {c : Nat} (st : St 0 s.heap)
    (at_S : s.heap.get? S = some { cls := .type "list", dict := none, data := .seq #[] c, slots := #[] })
    (out : ∀ g tk, (∀ b o, b ∉ wr → s.heap.get? b = some o → g.get? b = some o) → R (.ok (.ret d)) { s with heap := g, toks := tk }) :
    codeAny (model prog w) A (.builtin "min.loop" ⟨[.ref I, .none, .ref S], (x, d) :: kw⟩) R s := by
  refine codeAny_builtin F.entry_min_loop ?_; rw [Around.under_plainId F.plain_min_loop _]
  show wpAny _ A.in1 (seqItems? (.ref S) >>= _) _ _ s; refine wpAny_bind (wpAny_seqItems at_S rfl ?_)
  show wpAny _ A.in1 (tryCatch (pyNext (.ref I)) _ >>= _) _ _ s; refine wpAny_bind (wpAny_tryCatch (W.done s _ _ st fun g tk keeps => ?_))
  show wpAny _ A.in1 (rule _ >>= _) _ _ _
  exact wpAny_bind (wpAny_rule (wpAny_pure (out g tk keeps)))
end
section
variable {prog : Program} {w : World} {A : Around} {E : Value → Shared → Prop} {s : Shared}
theorem mn_args (a d : Value) : argsOk "min" ⟨[a], [(Str.ofString "default", d)]⟩ := by unfold argsOk; kernel_rfl
theorem mn_walk {x d : Value} {Q : Value → Shared → Prop}
    (h : wpAny (model prog w) A.in1 (pyIter x) (fun it s₂ => ∃ I fp wr n P St bt, it = .ref I ∧ Walks prog w A.in1 I fp wr n P St ∧ St 0 s₂.heap ∧ (∀ b ∈ fp, b < s₂.heap.objs.size) ∧ CmpOf prog w A.in1 .Lt P bt ∧
      (n = 0 → ∀ g tk, (∀ b o, b ∉ wr → s₂.heap.get? b = some o → g.get? b = some o) → Q d { s₂ with heap := g, toks := tk }) ∧
      (0 < n → ∀ v g tk, P (argBest bt (n - 1)) v → (∀ b o, b ∉ wr → s₂.heap.get? b = some o → g.get? b = some o) → Q v { s₂ with heap := g, toks := tk })) E s) :
    wpAny (model prog w) A (call (.builtin "min") [x] [(Str.ofString "default", d)]) Q E s := by
  have nm : (toString "min" ++ toString ".loop" : String) = "min.loop" := by decide
  refine kw_tree F.kind_min F.plain_min F.entry_min (mn_args _ _) ?_
  show wpAny _ A.in1 (Builtin.Builtins.bindParams "min" ["key", "default"] 0 ⟨[], [(Str.ofString "default", d)]⟩ >>= _) _ _ s
  refine wpAny_bind (wpAny_of_eq (show Builtin.Builtins.bindParams "min" ["key", "default"] 0 ⟨[], [(Str.ofString "default", d)]⟩ = pure [none, some d] from rfl) ?_)
  refine wpAny_bind (wpAny_pure ?_)
  refine wpAny_bind (wpAny_mono h (fun it s₂ h₂ => ?_) fun _ _ e => e)
  obtain ⟨I, fp, wr, n, P, St, bt, rfl, W, st, below, cmp, q0, q1⟩ := h₂
  refine wpAny_bind (wpAny_newObj_type ?_)
  have off : s₂.heap.objs.size ∉ fp := fun hm => Nat.lt_irrefl _ (below _ hm)
  rw [nm]
  by_cases z : n = 0
  · subst z
    exact wpAny_pure ⟨plainId_quiet F.plain_min_loop _, mn_none W _ _ d [] (W.frame _ _ _ st fun b _ o e => Heap.get?_push_of_some _ e) (Heap.get?_push_size _ rfl) fun g tk keeps => q0 rfl g tk fun b o bw e => keeps b o bw (Heap.get?_push_of_some _ e)⟩
  · refine wpAny_pure ⟨plainId_quiet F.plain_min_loop _, mn_first W bt cmp _ off _ (Nat.pos_of_ne_zero z) (W.frame _ _ _ st fun b _ o e => Heap.get?_push_of_some _ e) (Heap.get?_push_size _ rfl) fun v g tk pv keeps => ?_⟩
    exact q1 (Nat.pos_of_ne_zero z) v g tk pv fun b o bw e => keeps b o bw (Nat.ne_of_lt (Heap.lt_size e)) (Heap.get?_push_of_some _ e)
end
section
variable {prog : Program} {w : World} {A : Around} {E : Value → Shared → Prop} {s : Shared} {l : Addr} {d : Value} {Q : Value → Shared → Prop}
theorem mx_ints (xs : Array (Int × Tok)) (hh : A.handled = none) (hl : s.heap.IsList l (intItems xs))
    (q0 : xs.size = 0 → ∀ g tk, (∀ b o, s.heap.get? b = some o → g.get? b = some o) → Q d { s with heap := g, toks := tk })
    (q1 : 0 < xs.size → ∀ v g tk, (intItems xs)[argBest (fun i j => decide (numAt xs i > numAt xs j)) (xs.size - 1)]? = some v → (∀ b o, s.heap.get? b = some o → g.get? b = some o) → Q v { s with heap := g, toks := tk }) :
    wpAny (model prog w) A (call (.builtin "max") [.ref l] [(Str.ofString "default", d)]) Q E s := by
  refine mx_walk (iter_intList hl fun s₂ e st below ne => ?_)
  subst e
  have sz : (intItems xs).size = xs.size := by simp [intItems]
  refine ⟨_, _, _, _, _, _, _, rfl, Walks.list (A := A.in1) hh _ l ne (intItems xs), st, below, CmpOf.ints_gt (numAt xs) (fun _ _ => intItems_at), fun z g tk k => q0 (sz ▸ z) g tk (old_kept k), fun z v g tk pv k => ?_⟩
  rw [sz] at z pv
  exact q1 z v g tk pv (old_kept k)
theorem mx_0 (hh : A.handled = none) (hl : s.heap.IsList l #[]) (h : ∀ g tk, (∀ b o, s.heap.get? b = some o → g.get? b = some o) → Q d { s with heap := g, toks := tk }) :
    wpAny (model prog w) A (call (.builtin "max") [.ref l] [(Str.ofString "default", d)]) Q E s :=
  mx_ints #[] hh (by simpa [intItems] using hl) (fun _ => h) fun z => absurd z (Nat.lt_irrefl 0)
theorem mx_1 {a : Int} {t : Tok} (hh : A.handled = none) (hl : s.heap.IsList l #[.int a t]) (h : ∀ g tk, (∀ b o, s.heap.get? b = some o → g.get? b = some o) → Q (.int a t) { s with heap := g, toks := tk }) :
    wpAny (model prog w) A (call (.builtin "max") [.ref l] [(Str.ofString "default", d)]) Q E s :=
  mx_ints #[(a, t)] hh (by simpa [intItems] using hl) (fun z => nomatch z) fun _ v g tk pv k => by
    have e : some (Value.int a t) = some v := by simpa [intItems, argBest] using pv
    cases e
    exact h g tk k
theorem mx_2 {a b : Int} {t u : Tok} (hh : A.handled = none) (hl : s.heap.IsList l #[.int a t, .int b u]) (h : ∀ g tk, (∀ b o, s.heap.get? b = some o → g.get? b = some o) → Q (.int (if b > a then b else a) (if b > a then u else t)) { s with heap := g, toks := tk }) :
    wpAny (model prog w) A (call (.builtin "max") [.ref l] [(Str.ofString "default", d)]) Q E s :=
  mx_ints #[(a, t), (b, u)] hh (by simpa [intItems] using hl) (fun z => nomatch z) fun _ v g tk pv k => by
    have pv' : (intItems #[(a, t), (b, u)])[if decide (b > a) = true then 1 else 0]? = some v := pv
    have q := h g tk k
    by_cases c : b > a
    · rw [if_pos (decide_eq_true c)] at pv'
      rw [if_pos c, if_pos c] at q
      have e : some (Value.int b u) = some v := by simpa [intItems] using pv'
      cases e
      exact q
    · rw [if_neg (by simpa using c)] at pv'
      rw [if_neg c, if_neg c] at q
      have e : some (Value.int a t) = some v := by simpa [intItems] using pv'
      cases e
      exact q
end
section
variable {prog : Program} {w : World} {A : Around} {E : Value → Shared → Prop} {s : Shared} {l : Addr} {d : Value} {Q : Value → Shared → Prop}
theorem mn_ints (xs : Array (Int × Tok)) (hh : A.handled = none) (hl : s.heap.IsList l (intItems xs))
    (q0 : xs.size = 0 → ∀ g tk, (∀ b o, s.heap.get? b = some o → g.get? b = some o) → Q d { s with heap := g, toks := tk })
    (q1 : 0 < xs.size → ∀ v g tk, (intItems xs)[argBest (fun i j => decide (numAt xs i < numAt xs j)) (xs.size - 1)]? = some v → (∀ b o, s.heap.get? b = some o → g.get? b = some o) → Q v { s with heap := g, toks := tk }) :
    wpAny (model prog w) A (call (.builtin "min") [.ref l] [(Str.ofString "default", d)]) Q E s := by
  refine mn_walk (iter_intList hl fun s₂ e st below ne => ?_)
  subst e
  have sz : (intItems xs).size = xs.size := by simp [intItems]
  refine ⟨_, _, _, _, _, _, _, rfl, Walks.list (A := A.in1) hh _ l ne (intItems xs), st, below, CmpOf.ints_lt (numAt xs) (fun _ _ => intItems_at), fun z g tk k => q0 (sz ▸ z) g tk (old_kept k), fun z v g tk pv k => ?_⟩
  rw [sz] at z pv
  exact q1 z v g tk pv (old_kept k)
theorem mn_0 (hh : A.handled = none) (hl : s.heap.IsList l #[]) (h : ∀ g tk, (∀ b o, s.heap.get? b = some o → g.get? b = some o) → Q d { s with heap := g, toks := tk }) :
    wpAny (model prog w) A (call (.builtin "min") [.ref l] [(Str.ofString "default", d)]) Q E s :=
  mn_ints #[] hh (by simpa [intItems] using hl) (fun _ => h) fun z => absurd z (Nat.lt_irrefl 0)
theorem mn_1 {a : Int} {t : Tok} (hh : A.handled = none) (hl : s.heap.IsList l #[.int a t]) (h : ∀ g tk, (∀ b o, s.heap.get? b = some o → g.get? b = some o) → Q (.int a t) { s with heap := g, toks := tk }) :
    wpAny (model prog w) A (call (.builtin "min") [.ref l] [(Str.ofString "default", d)]) Q E s :=
  mn_ints #[(a, t)] hh (by simpa [intItems] using hl) (fun z => nomatch z) fun _ v g tk pv k => by
    have e : some (Value.int a t) = some v := by simpa [intItems, argBest] using pv
    cases e
    exact h g tk k
theorem mn_2 {a b : Int} {t u : Tok} (hh : A.handled = none) (hl : s.heap.IsList l #[.int a t, .int b u]) (h : ∀ g tk, (∀ b o, s.heap.get? b = some o → g.get? b = some o) → Q (.int (if b < a then b else a) (if b < a then u else t)) { s with heap := g, toks := tk }) :
    wpAny (model prog w) A (call (.builtin "min") [.ref l] [(Str.ofString "default", d)]) Q E s :=
  mn_ints #[(a, t), (b, u)] hh (by simpa [intItems] using hl) (fun z => nomatch z) fun _ v g tk pv k => by
    have pv' : (intItems #[(a, t), (b, u)])[if decide (b < a) = true then 1 else 0]? = some v := pv
    have q := h g tk k
    by_cases c : b < a
    · rw [if_pos (decide_eq_true c)] at pv'
      rw [if_pos c, if_pos c] at q
      have e : some (Value.int b u) = some v := by simpa [intItems] using pv'
      cases e
      exact q
    · rw [if_neg (by simpa using c)] at pv'
      rw [if_neg c, if_neg c] at q
      have e : some (Value.int a t) = some v := by simpa [intItems] using pv'
      cases e
      exact q
end
end My
end
section
set_option maxRecDepth 100000
namespace My
open PySem PySem.W PySem.Calls PyProof.Rows PySem.Spec PyProof.Rows.LCg PyProof.Rows.LCt
def metLo : Option Int → Option Int → Option Int
  | none, b => b
  | some a, none => some a
  | some a, some b => some (if b > a then b else a)
def metHi : Option Int → Option Int → Option Int
  | none, b => b
  | some a, none => some a
  | some a, some b => some (if b < a then b else a)
theorem met_has (l1 h1 l2 h2 : Option Int) (n : Int) : hasB (metLo l1 l2) (metHi h1 h2) n = (hasB l1 h1 n && hasB l2 h2 n) := by
  rw [Bool.eq_iff_iff]
  cases l1 <;> cases h1 <;> cases l2 <;> cases h2 <;> simp only [metLo, metHi, hasB, Bool.and_eq_true, decide_eq_true_eq, true_and, and_true, Bool.true_and, Bool.and_true] <;> (try split) <;> (try split) <;> omega
theorem met_has_swap (l1 h1 l2 h2 : Option Int) (n : Int) : hasB (metLo l1 l2) (metHi h1 h2) n = (hasB l1 h1 n && hasB l2 h2 n) := met_has l1 h1 l2 h2 n
def TupSrc (prog : Program) (w : World) (A : Around) (h₀ : Heap) (L : Addr) (m : Str → Option Value) (env : Env) (ct elt : Expr) (x : Str) (scope : Scope) (cl : List (Str × Addr)) (Fin : Shared → List Value → List (Addr × Obj) → Prop) (xv : Value) (s₁ : Shared) : Prop :=
  ∃ (ax : Addr) (its : Array Value) (k : Nat) (news : List (Addr × Obj)), xv = .ref ax ∧ A.handled = none ∧ Fr h₀ L s₁.heap m ∧ News h₀ L s₁.heap news ∧ (ax, tupO its k) ∈ news ∧ its.size ≤ sizeLine ∧
    ∀ g, CompRestT prog w A h₀ L m env ct elt x scope cl { s₁ with heap := g } (fun nw => (ax, tupO its k) ∈ nw) (fun i v => its[i]? = some v) (Fin { s₁ with heap := g }) its.size 0 [] news
section
variable {prog : Program} {w : World} {A : Around} {E : Value → Shared → Prop} {s : Shared} {h₀ : Heap} {L : Addr} {m : Str → Option Value} {env : Env}
theorem TupSrc.mk' {ct elt : Expr} {x : Str} {scope : Scope} {cl : List (Str × Addr)} {Fin : Shared → List Value → List (Addr × Obj) → Prop} {ax : Addr} {its : Array Value} {k : Nat} {news : List (Addr × Obj)} {s₁ : Shared}
    (hh : A.handled = none) (F : Fr h₀ L s₁.heap m) (N : News h₀ L s₁.heap news) (hm : (ax, tupO its k) ∈ news) (hsz : its.size ≤ sizeLine)
    (h : ∀ g, CompRestT prog w A h₀ L m env ct elt x scope cl { s₁ with heap := g } (fun nw => (ax, tupO its k) ∈ nw) (fun i v => its[i]? = some v) (Fin { s₁ with heap := g }) its.size 0 [] news) :
    TupSrc prog w A h₀ L m env ct elt x scope cl Fin (.ref ax) s₁ := ⟨ax, its, k, news, rfl, hh, F, N, hm, hsz, h⟩
/-- a comprehension with one test over a tuple of the call's own -/
theorem comp_tup {ct elt iter : Expr} {x : Str} {px : Pos} {scope : Scope} {cl : List (Str × Addr)} {pos : Pos} {Q : Value → Shared → Prop} (F₀ : Fr h₀ L s.heap m)
    (hclos : closureFor scope env = pure cl) (hcell : ∀ y ∈ scope.names, y.2 ≠ .cell) (hkind : scope.kind = .function) (hnames : ∀ y ∈ scope.names, y.2 = .local → scope.names.lookup y.1 = some .local) (hx : scope.names.lookup x = some .local)
    (h : wpAny (model prog w) A (eval iter env) (TupSrc prog w A h₀ L m env ct elt x scope cl (fun s₂ => FinE h₀ L m s₂ Q)) E s) (hs : ∀ x, foldedSetIterable iter env x = pure x := by intro _; rfl) :
    wpAny (model prog w) A (eval (.ListComp elt [⟨.Name x px, iter, [ct], 0⟩] scope pos) env) Q E s := by
  rw [eval_ListComp]
  refine wpAny_comprehension_free (use := none) rfl hs hclos hkind hnames (wpAny_mono h (fun xv s₁ h₁ => ?_) fun _ _ e => e)
  obtain ⟨ax, its, k, news, rfl, hh, F, N, hm, hsz, R⟩ := h₁
  have at_t := (N _ hm).1
  have lt_t : ax < s₁.heap.objs.size := Heap.lt_size at_t
  have tup : s₁.heap.IsTuple ax its := ⟨_, at_t, rfl, k, rfl⟩
  refine wpAny_pyIter_tuple tup ?_
  have up : ∀ b o, s₁.heap.get? b = some o → (s₁.heap.push { cls := .type "tuple_iterator", data := .fields #[.ref ax, .int 0 0] }).get? b = some o := fun b o e => Heap.get?_push_of_some _ e
  refine block_T (Walks.tuple hh s₁.heap.objs.size ax (Nat.ne_of_lt lt_t) its) hsz (fun i g st => by obtain ⟨o, e, _⟩ := st.1; exact ⟨o, e⟩)
    (fun i g g' o nw st e e' _ N' hm' => ⟨st.1.at fun o' q => by rw [e] at q; cases q; exact e', ⟨_, (N' _ hm').1, rfl, k, rfl⟩⟩) hcell hkind hx ⟨⟨_, Heap.get?_push_size _ rfl, rfl, rfl⟩, ⟨_, up _ _ at_t, rfl, k, rfl⟩⟩ (fun b hb => ?_)
    (F.keeps up) (N.grown up) (Nat.ne_of_lt F.ns.lt) (next_is_new F) (fun p hp => Nat.ne_of_lt (Heap.lt_size (N p hp).1)) hm (R _) ?_
  · show b < (s₁.heap.push _).objs.size
    rw [Heap.size_push]
    rcases List.mem_cons.mp hb with q | q
    · rw [q]; exact Nat.lt_succ_self _
    · rw [List.mem_singleton.mp q]; exact Nat.lt_succ_of_lt lt_t
  · intro D C g tk m' ys news' F' N' o1 hn hC₀ hD₀ hCL hDL hCD offC fin
    refine ⟨m', hn, fun g' sb => fin D g' tk (F'.change sb hCL hC₀) (fun p hp => ⟨sb.extBut _ _ ?_ (N' p hp).1, (N' p hp).2⟩) o1⟩
    rcases List.mem_cons.mp hp with q | q
    · rw [q]; exact Ne.symm hCD
    · exact offC p q
end
theorem isl {h₀ h : Heap} {L l : Addr} {news : List (Addr × Obj)} {ys : List Value} (N : News h₀ L h news) (hm : (l, LCg.lst ys) ∈ news) : h.IsList l ys.toArray := ⟨_, (N _ hm).1, rfl, _, rfl⟩
section
variable {prog : Program} {w : World} {A : Around} {E : Value → Shared → Prop} {s : Shared} {h₀ : Heap} {L l : Addr} {m : Str → Option Value} {news : List (Addr × Obj)} {Q : Value → Shared → Prop} {d : Value} {a b : Int} {t u : Tok}
theorem max_0 (hh : A.handled = none) (F : Fr h₀ L s.heap m) (N : News h₀ L s.heap news) (hm : (l, LCg.lst []) ∈ news) (h : ∀ g tk, Fr h₀ L g m → News h₀ L g news → Q d { s with heap := g, toks := tk }) :
    wpAny (model prog w) A (call (.builtin "max") [.ref l] [(Str.ofString "default", d)]) Q E s := mx_0 hh (isl N hm) fun g tk k => h g tk (F.keeps k) (N.grown k)
theorem max_1 (hh : A.handled = none) (F : Fr h₀ L s.heap m) (N : News h₀ L s.heap news) (hm : (l, LCg.lst [.int a t]) ∈ news) (h : ∀ g tk, Fr h₀ L g m → News h₀ L g news → Q (.int a t) { s with heap := g, toks := tk }) :
    wpAny (model prog w) A (call (.builtin "max") [.ref l] [(Str.ofString "default", d)]) Q E s := mx_1 hh (isl N hm) fun g tk k => h g tk (F.keeps k) (N.grown k)
theorem max_2 (hh : A.handled = none) (F : Fr h₀ L s.heap m) (N : News h₀ L s.heap news) (hm : (l, LCg.lst [.int a t, .int b u]) ∈ news) (h : ∀ g tk, Fr h₀ L g m → News h₀ L g news → Q (.int (if b > a then b else a) (if b > a then u else t)) { s with heap := g, toks := tk }) :
    wpAny (model prog w) A (call (.builtin "max") [.ref l] [(Str.ofString "default", d)]) Q E s := mx_2 hh (isl N hm) fun g tk k => h g tk (F.keeps k) (N.grown k)
theorem min_0 (hh : A.handled = none) (F : Fr h₀ L s.heap m) (N : News h₀ L s.heap news) (hm : (l, LCg.lst []) ∈ news) (h : ∀ g tk, Fr h₀ L g m → News h₀ L g news → Q d { s with heap := g, toks := tk }) :
    wpAny (model prog w) A (call (.builtin "min") [.ref l] [(Str.ofString "default", d)]) Q E s := mn_0 hh (isl N hm) fun g tk k => h g tk (F.keeps k) (N.grown k)
theorem min_1 (hh : A.handled = none) (F : Fr h₀ L s.heap m) (N : News h₀ L s.heap news) (hm : (l, LCg.lst [.int a t]) ∈ news) (h : ∀ g tk, Fr h₀ L g m → News h₀ L g news → Q (.int a t) { s with heap := g, toks := tk }) :
    wpAny (model prog w) A (call (.builtin "min") [.ref l] [(Str.ofString "default", d)]) Q E s := mn_1 hh (isl N hm) fun g tk k => h g tk (F.keeps k) (N.grown k)
theorem min_2 (hh : A.handled = none) (F : Fr h₀ L s.heap m) (N : News h₀ L s.heap news) (hm : (l, LCg.lst [.int a t, .int b u]) ∈ news) (h : ∀ g tk, Fr h₀ L g m → News h₀ L g news → Q (.int (if b < a then b else a) (if b < a then u else t)) { s with heap := g, toks := tk }) :
    wpAny (model prog w) A (call (.builtin "min") [.ref l] [(Str.ofString "default", d)]) Q E s := mn_2 hh (isl N hm) fun g tk k => h g tk (F.keeps k) (N.grown k)
end
end My
end
section
set_option maxRecDepth 100000
namespace My
open PySem PySem.W PySem.Calls PyProof.Rows PySem.Spec
theorem IsEnd.two {v : Value} {L : Option Int} (h : IsEnd v L) : v = .none ∨ ∃ (a : Int) (t : Tok), v = .int a t := by
  cases h with
  | none => exact Or.inl rfl
  | int => exact Or.inr ⟨_, _, rfl⟩
def AnyPair (o : Obj) : Prop := ∃ lo hi, IsPair lo hi o
theorem AnyPair.mk' {v1 v2 : Value} {k : Nat} {lo hi : Option Int} (h1 : IsEnd v1 lo) (h2 : IsEnd v2 hi) : AnyPair (tupO #[v1, v2] k) := ⟨lo, hi, v1, v2, k, rfl, h1, h2⟩
theorem ne_bool_same {prog : Program} {w : World} {A : Around} {E : Value → Shared → Prop} {s : Shared} {x y : Bool} {Q : Value → Shared → Prop} (e : x = y) (h : Q (.bool false) s) : wpAny (model prog w) A (compareOp .NotEq (.bool x) (.bool y)) Q E s := by
  refine PyProof.Rows.ne_bool ?_
  have d : (x != y) = false := by rw [e]; exact bne_self_eq_false y
  rw [d]
  exact h
theorem and_t {x y : Bool} (h : x = true) : (x && y) = y := by rw [h, Bool.true_and]
theorem and_f {x y : Bool} (h : x = false) : (x && y) = false := by rw [h, Bool.false_and]
theorem and_f' {x y : Bool} (h : x = false) : (x && y) = x := by rw [h, Bool.false_and]
end My
end
section
set_option maxRecDepth 100000
namespace My
open PySem PySem.W PySem.Calls PyProof.Rows PySem.Spec
/-- a statement behind which one name holds a value that P tells; the ledger as it was -/
def CutV (h₀ : Heap) (L : Addr) (m₀ : Str → Option Value) (x : Str) (P : Value → Prop) (news : List (Addr × Obj)) (s : Shared) (fl : Flow) (s' : Shared) : Prop :=
  fl = .next ∧ ∃ (v : Value) (h : Heap) (tk : Nat), s' = { s with heap := h, toks := tk } ∧ P v ∧ Fr h₀ L h (fun y => if y = x then some v else m₀ y) ∧ News h₀ L h news
theorem cutv_exec {M : Model} {A : Around} {E : Value → Shared → Prop} {s : Shared} {env : Env} {h₀ : Heap} {L : Addr} {m₀ : Str → Option Value} {news : List (Addr × Obj)} {stmt : Stmt} {Q : Flow → Shared → Prop} (x : Str) (P : Value → Prop)
    (_F : Fr h₀ L s.heap m₀) (_N : News h₀ L s.heap news) (h : wpAny M A (exec stmt env) (fun fl s' => CutV h₀ L m₀ x P news s fl s') E s)
    (k : ∀ (v : Value) (h : Heap) (tk : Nat), P v → Fr h₀ L h (fun y => if y = x then some v else m₀ y) → News h₀ L h news → Q .next { s with heap := h, toks := tk }) : wpAny M A (exec stmt env) Q E s := by
  refine wpAny_mono h (fun fl s' c => ?_) fun _ _ e => e
  obtain ⟨rfl, v, h', tk, rfl, p, F', N'⟩ := c
  exact k v h' tk p F' N'
theorem cutv_set {h₀ h : Heap} {L : Addr} {m₀ : Str → Option Value} {x : Str} {P : Value → Prop} {news all : List (Addr × Obj)} {s : Shared} {v : Value} {tk : Nat} (F : Fr h₀ L h (fun y => if y = x then some v else m₀ y)) (N : News h₀ L h all) (sub : ∀ q ∈ news, q ∈ all) (p : P v) : CutV h₀ L m₀ x P news s .next { s with heap := h, toks := tk } :=
  ⟨rfl, v, h, tk, rfl, p, F, fun q hq => N q (sub q hq)⟩
/-- a statement behind which one name holds a new list that P tells -/
def CutL (h₀ : Heap) (L : Addr) (m₀ : Str → Option Value) (x : Str) (P : List Value → Prop) (news : List (Addr × Obj)) (s : Shared) (fl : Flow) (s' : Shared) : Prop :=
  fl = .next ∧ ∃ (l : Addr) (ys : List Value) (h : Heap) (tk : Nat), s' = { s with heap := h, toks := tk } ∧ P ys ∧ Fr h₀ L h (fun y => if y = x then some (.ref l) else m₀ y) ∧ News h₀ L h ((l, LCg.lst ys) :: news)
theorem cutl_exec {M : Model} {A : Around} {E : Value → Shared → Prop} {s : Shared} {env : Env} {h₀ : Heap} {L : Addr} {m₀ : Str → Option Value} {news : List (Addr × Obj)} {stmt : Stmt} {Q : Flow → Shared → Prop} (x : Str) (P : List Value → Prop)
    (_F : Fr h₀ L s.heap m₀) (_N : News h₀ L s.heap news) (h : wpAny M A (exec stmt env) (fun fl s' => CutL h₀ L m₀ x P news s fl s') E s)
    (k : ∀ (l : Addr) (ys : List Value) (h : Heap) (tk : Nat), P ys → Fr h₀ L h (fun y => if y = x then some (.ref l) else m₀ y) → News h₀ L h ((l, LCg.lst ys) :: news) → Q .next { s with heap := h, toks := tk }) : wpAny M A (exec stmt env) Q E s := by
  refine wpAny_mono h (fun fl s' c => ?_) fun _ _ e => e
  obtain ⟨rfl, l, ys, h', tk, rfl, p, F', N'⟩ := c
  exact k l ys h' tk p F' N'
theorem cutl_set {h₀ h : Heap} {L l : Addr} {m₀ : Str → Option Value} {x : Str} {P : List Value → Prop} {news all : List (Addr × Obj)} {s : Shared} {ys : List Value} {tk : Nat} (F : Fr h₀ L h (fun y => if y = x then some (.ref l) else m₀ y)) (N : News h₀ L h all) (hm : (l, LCg.lst ys) ∈ all) (sub : ∀ q ∈ news, q ∈ all) (p : P ys) : CutL h₀ L m₀ x P news s .next { s with heap := h, toks := tk } :=
  ⟨rfl, l, ys, h, tk, rfl, p, F, fun q hq => (List.mem_cons.mp hq).elim (fun e => e ▸ N _ hm) fun hl => N q (sub q hl)⟩
/-- the ends that are there -/
inductive EndsL : Option Int → Option Int → List Value → Prop where
  | nn : EndsL none none []
  | ni {b : Int} {u : Tok} : EndsL none (some b) [.int b u]
  | in {a : Int} {t : Tok} : EndsL (some a) none [.int a t]
  | ii {a b : Int} {t u : Tok} : EndsL (some a) (some b) [.int a t, .int b u]
section
variable {prog : Program} {w : World} {A : Around} {E : Value → Shared → Prop} {s : Shared} {h₀ : Heap} {L l : Addr} {m : Str → Option Value} {news : List (Addr × Obj)} {Q : Value → Shared → Prop} {a b : Option Int} {ys : List Value}
theorem max_ends (hE : EndsL a b ys) (hh : A.handled = none) (F : Fr h₀ L s.heap m) (N : News h₀ L s.heap news) (hm : (l, LCg.lst ys) ∈ news) (h : ∀ v g tk, IsEnd v (metLo a b) → Fr h₀ L g m → News h₀ L g news → Q v { s with heap := g, toks := tk }) :
    wpAny (model prog w) A (call (.builtin "max") [.ref l] [(Str.ofString "default", .none)]) Q E s := by
  cases hE with
  | nn => exact max_0 hh F N hm fun g tk => h _ g tk IsEnd.none
  | ni => exact max_1 hh F N hm fun g tk => h _ g tk IsEnd.int
  | «in» => exact max_1 hh F N hm fun g tk => h _ g tk IsEnd.int
  | ii => exact max_2 hh F N hm fun g tk => h _ g tk IsEnd.int
theorem min_ends (hE : EndsL a b ys) (hh : A.handled = none) (F : Fr h₀ L s.heap m) (N : News h₀ L s.heap news) (hm : (l, LCg.lst ys) ∈ news) (h : ∀ v g tk, IsEnd v (metHi a b) → Fr h₀ L g m → News h₀ L g news → Q v { s with heap := g, toks := tk }) :
    wpAny (model prog w) A (call (.builtin "min") [.ref l] [(Str.ofString "default", .none)]) Q E s := by
  cases hE with
  | nn => exact min_0 hh F N hm fun g tk => h _ g tk IsEnd.none
  | ni => exact min_1 hh F N hm fun g tk => h _ g tk IsEnd.int
  | «in» => exact min_1 hh F N hm fun g tk => h _ g tk IsEnd.int
  | ii => exact min_2 hh F N hm fun g tk => h _ g tk IsEnd.int
end
theorem IsEnd.two' {v : Value} {L : Option Int} (h : IsEnd v L) : (v = Value.none ∧ L = Option.none) ∨ ∃ (a : Int) (t : Tok), v = .int a t ∧ L = some a := by
  cases h with
  | none => exact Or.inl ⟨rfl, rfl⟩
  | int => exact Or.inr ⟨_, _, rfl, rfl⟩
theorem cross_no {L H : Option Int} {a b : Int} (h : ¬ Crossed L H) (e1 : L = some a) (e2 : H = some b) : ¬ b < a := by
  subst e1 e2
  exact h
theorem cross_yes {L H : Option Int} {a b : Int} (h : Crossed L H) (e1 : L = some a) (e2 : H = some b) : b < a := by
  subst e1 e2
  exact h
theorem cross_n1 {L H : Option Int} (h : Crossed L H) (e1 : L = none) : False := by
  subst e1
  exact h
theorem cross_n2 {L H : Option Int} (h : Crossed L H) (e2 : H = none) : False := by
  subst e2
  cases L <;> exact h
end My
end
set_option maxRecDepth 100000 in
set_option maxHeartbeats 8000000 in
open_top head for PySem.Challenge.rw_seer_k03_stretches_together
section
open PySem PySem.W PyProof.Rows My
set_option maxRecDepth 100000
set_option maxHeartbeats 8000000
local macro_rules | `(tactic| walk_at "binaryOp Pow int int") => `(tactic| (k_here; first | with_reducible refine' My.step_pow60 ?_ | with_reducible refine' My.step_pow9 ?_))
local macro_rules | `(tactic| walk_at "binaryOp Mod int int") => `(tactic| (k_here; first | with_reducible refine' My.step_mod60 ?_ | with_reducible refine' My.step_mod9 ?_))
local macro_rules | `(tactic| walk_at "binaryOp Mult int int") => `(tactic| (k_here; with_reducible refine' My.step_two ?_))
local macro_rules | `(tactic| walk_at "binaryOp Mult int int") => `(tactic| (k_here; (with_reducible refine' My.step_wide ?k1 ?_); (case k1 => assumption)))
local macro_rules | `(tactic| walk_at "call ref") => `(tactic| (k_here; k_dflt (refine wpAny_call ?_; (refine' code_def ?q1 ?q2 ?q3 ?q4 ?q5 ?qA ?qF ?qK ?q6 ?q7 ?q8 ?q9 ?qB ?_ ?d2 ?d3 ?d4 ?d5; (case qA => exact rfl); (case qF => exact rfl); (case qK => first | exact rfl | assumption); (case q1 => k_asm); (case q2 => k_asm); (case q3 => k_asm); (case q4 => k_asm); (case q5 => k_asm); (case q6 => k_is); (case q7 => k_is); (case q8 => ktr_room); (case q9 => exact BindsTo.of_eq rfl); (case d5 => decide); (case qB => exact locs rfl); (case d2 => exact rfl); (case d3 => exact rfl); (case d4 => exact rfl); k_whole; intro g' L' h' FG' F' N' B' X' T'; (try dsimp only); (try k_lift B'); (try k_fold)))))
local macro_rules | `(tactic| walk_at "my enter") => `(tactic| k_dflt (refine wpAny_call ?_; (refine' My.enter ?q1 ?q2 ?q3 ?q4 ?q5 ?qA ?qF ?qK ?q6 ?q7 ?q8 ?q9 ?qB ?_ ?d2 ?d3 ?d4 ?d5; (case qA => exact rfl); (case qF => exact rfl); (case qK => first | exact rfl | assumption); (case q1 => k_asm); (case q2 => k_asm); (case q3 => k_asm); (case q4 => k_asm); (case q5 => k_asm); (case q6 => k_is); (case q7 => k_is); (case q8 => ktr_room); (case q9 => exact BindsTo.of_eq rfl); (case d5 => decide); (case qB => exact locs rfl); (case d2 => exact rfl); (case d3 => exact rfl); (case d4 => exact rfl); k_whole; intro g' L' h' hStay FG' F' N' B' X' T'; (try dsimp only); (try k_lift B'); (try k_fold))))
local macro_rules | `(tactic| walk_at "my end") => `(tactic| ((first | refine My.retI (by assumption) ?e1 ?e2 ?e3 ?e4 | refine My.retB (by assumption) ?e1 ?e2 ?e3 ?e4); (case e2 => k_asm); (case e3 => first | k_asm | exact News.nil | exact cb_drop (by assumption) (by kcj_all)); (case e4 => exact My.stay_end (by assumption) (by assumption)); (case e1 => cb_eq)))
local macro_rules | `(tactic| walk_at "my use") => `(tactic| ((case q1 => k_asm); (case q2 => k_asm); (case q3 => k_asm); (case q4 => k_asm); (case q5 => k_asm); (case q6 => first | exact rfl | assumption); (case q7 => first | exact My.room1 (by assumption) (by decide) | exact My.room1 (My.room1 (by assumption) (by decide)) (by decide) | decide | ktr_room); (case q8 => first | exact My.units1 (by assumption) (by decide) | exact My.units1 (My.units1 (by assumption) (by decide)) (by decide) | decide | ktr_units); (case q9 => first | exact (fun _ hq => nomatch hq) | exact My.sub_one (by k_mem) | exact My.sub_two (by k_mem) (by k_mem))))
local macro_rules | `(tactic| walk_at "my on") => `(tactic| (intro t9 h9 tk9 F9 N9; (try dsimp only); (try k_fold)))
local macro_rules | `(tactic| walk_at "my is end") => `(tactic| first | exact My.IsEnd.none | exact My.IsEnd.int | assumption)
local macro_rules | `(tactic| walk_at "InvEndN") => `(tactic| (k_dflt ksr_close))
namespace K03
section
variable {w : World} {s₀ : Shared} {mg mb : Str → Option Value}
abbrev D (w : World) (s₀ : Shared) (mg mb : Str → Option Value) := Does PySem.Challenge.rw_seer_k03_stretches_together.row.prog w (head.heap_39 w.params) head.view_39 (looseW head.view_39 []) (ExcName.means s₀.heap) mg mb
theorem number_does {v : Int} {t : Tok} (hv : Cell v) : D w s₀ mg mb 4 61 [] [.int v t] (Hands (fun t => .int (numb v) t) []) := by
  k_with "tree" => (first | exact My.numb_0 (by assumption) | exact My.numb_1 (by assumption) | exact My.numb_2 (by assumption) | exact My.numb_3 (by assumption) | exact My.numb_4 (by assumption) (by assumption) (by assumption) (by assumption))
  w_strict (w_top off; (dsimp only [D, Does, Hands, Lays]); k_fill; (intro dp un gd cn cs a ccd cl outer A₀ base h₀ L m s Q E B F X N T hk hd hu hret); walk_at "my enter"; k_steps; (all_goals walk_at "my end"))
abbrev CT (w : World) (s₀ : Shared) (mg mb : Str → Option Value) := CellTells PySem.Challenge.rw_seer_k03_stretches_together.row.prog w (head.heap_39 w.params) head.view_39 (looseW head.view_39 []) (ExcName.means s₀.heap) mg mb
theorem cell_tells : CT w s₀ mg mb 54 0 := by
  w_strict (w_top off; (dsimp only [CT]); k_fill; cell_step)
theorem crossed_yes {lo hi : Int} {tl th : Tok} (hc : hi < lo) : D w s₀ mg mb 4 21 [] [.int lo tl, .int hi th] (Hands (fun _ => .bool true) []) := by
  w_strict (w_top off; (dsimp only [D, Does, Hands, Lays]); k_fill; (intro dp un gd cn cs a ccd cl outer A₀ base h₀ L m s Q E B F X N T hk hd hu hret); walk_at "my enter"; k_steps; (all_goals walk_at "my end"))
theorem crossed_no {lo hi : Int} {tl th : Tok} (hc : ¬ hi < lo) : D w s₀ mg mb 4 21 [] [.int lo tl, .int hi th] (Hands (fun _ => .bool false) []) := by
  w_strict (w_top off; (dsimp only [D, Does, Hands, Lays]); k_fill; (intro dp un gd cn cs a ccd cl outer A₀ base h₀ L m s Q E B F X N T hk hd hu hret); walk_at "my enter"; k_steps; (all_goals walk_at "my end"))
theorem crossed_nx {v : Value} : D w s₀ mg mb 4 21 [] [.none, v] (Hands (fun _ => .bool false) []) := by
  w_strict (w_top off; (dsimp only [D, Does, Hands, Lays]); k_fill; (intro dp un gd cn cs a ccd cl outer A₀ base h₀ L m s Q E B F X N T hk hd hu hret); walk_at "my enter"; k_steps; (all_goals walk_at "my end"))
theorem crossed_xn {lo : Int} {tl : Tok} : D w s₀ mg mb 4 21 [] [.int lo tl, .none] (Hands (fun _ => .bool false) []) := by
  w_strict (w_top off; (dsimp only [D, Does, Hands, Lays]); k_fill; (intro dp un gd cn cs a ccd cl outer A₀ base h₀ L m s Q E B F X N T hk hd hu hret); walk_at "my enter"; k_steps; (all_goals walk_at "my end"))
theorem end_does {v : Value} {lo : Option Int} (h : IsEnd v lo) : D w s₀ mg mb 4 75 [] [v] (Hands (fun _ => .bool true) []) := by
  cases h <;> w_strict (w_top off; (dsimp only [D, Does, Hands, Lays]); k_fill; (intro dp un gd cn cs a ccd cl outer A₀ base h₀ L m s Q E B F X N T hk hd hu hret); walk_at "my enter"; k_steps; (all_goals walk_at "my end"))
theorem has_does {r : Addr} {v1 v2 : Value} {nn : Nat} {lo hi : Option Int} {n : Int} {tn : Tok} (h1 : IsEnd v1 lo) (h2 : IsEnd v2 hi) : D w s₀ mg mb 4 89 [(r, tupO #[v1, v2] nn)] [.ref r, .int n tn] (Hands (fun _ => .bool (hasB lo hi n)) [(r, tupO #[v1, v2] nn)]) := by
  k_with "tree" => (simp only [hasB, Bool.true_and, Bool.and_true])
  cases h1 <;> cases h2 <;> w_strict (w_top off; (dsimp only [D, Does, Hands, Lays]); k_fill; (intro dp un gd cn cs a ccd cl outer A₀ base h₀ L m s Q E B F X N T hk hd hu hret); walk_at "my enter"; k_steps; (all_goals walk_at "my end"))
theorem stretch_has_does {r : Addr} {v1 v2 : Value} {nn : Nat} {lo hi : Option Int} {n : Int} {tn : Tok} (h1 : IsEnd v1 lo) (h2 : IsEnd v2 hi) : D w s₀ mg mb 4 28 [(r, tupO #[v1, v2] nn)] [.ref r, .int n tn] (Hands (fun _ => .bool (hasB lo hi n)) [(r, tupO #[v1, v2] nn)]) := by
  k_with "tree" => (simp only [hasB, Bool.true_and, Bool.and_true])
  cases h1 <;> cases h2 <;> w_strict (w_top off; (dsimp only [D, Does, Hands, Lays]); k_fill; (intro dp un gd cn cs a ccd cl outer A₀ base h₀ L m s Q E B F X N T hk hd hu hret); walk_at "my enter"; k_steps; (all_goals walk_at "my end"))
end
end K03
end
section
open PySem PySem.W PyProof.Rows My
set_option maxRecDepth 100000
set_option maxHeartbeats 8000000
local macro_rules | `(tactic| walk_at "pad 0") => `(tactic| skip)
local macro_rules | `(tactic| walk_at "pad 1") => `(tactic| skip)
local macro_rules | `(tactic| walk_at "pad 2") => `(tactic| skip)
local macro_rules | `(tactic| walk_at "pad 3") => `(tactic| skip)
local macro_rules | `(tactic| walk_at "pad 4") => `(tactic| skip)
local macro_rules | `(tactic| walk_at "binaryOp Pow int int") => `(tactic| (k_here; first | with_reducible refine' My.step_pow60 ?_ | with_reducible refine' My.step_pow9 ?_))
local macro_rules | `(tactic| walk_at "binaryOp Mod int int") => `(tactic| (k_here; first | with_reducible refine' My.step_mod60 ?_ | with_reducible refine' My.step_mod9 ?_))
local macro_rules | `(tactic| walk_at "binaryOp Mult int int") => `(tactic| (k_here; with_reducible refine' My.step_two ?_))
local macro_rules | `(tactic| walk_at "binaryOp Mult int int") => `(tactic| (k_here; (with_reducible refine' My.step_wide ?k1 ?_); (case k1 => assumption)))
local macro_rules | `(tactic| walk_at "call ref") => `(tactic| (k_here; k_dflt (refine wpAny_call ?_; (refine' code_def ?q1 ?q2 ?q3 ?q4 ?q5 ?qA ?qF ?qK ?q6 ?q7 ?q8 ?q9 ?qB ?_ ?d2 ?d3 ?d4 ?d5; (case qA => exact rfl); (case qF => exact rfl); (case qK => first | exact rfl | assumption); (case q1 => k_asm); (case q2 => k_asm); (case q3 => k_asm); (case q4 => k_asm); (case q5 => k_asm); (case q6 => k_is); (case q7 => k_is); (case q8 => ktr_room); (case q9 => exact BindsTo.of_eq rfl); (case d5 => decide); (case qB => exact locs rfl); (case d2 => exact rfl); (case d3 => exact rfl); (case d4 => exact rfl); k_whole; intro g' L' h' FG' F' N' B' X' T'; (try dsimp only); (try k_lift B'); (try k_fold)))))
local macro_rules | `(tactic| walk_at "my enter") => `(tactic| k_dflt (refine wpAny_call ?_; (refine' My.enter ?q1 ?q2 ?q3 ?q4 ?q5 ?qA ?qF ?qK ?q6 ?q7 ?q8 ?q9 ?qB ?_ ?d2 ?d3 ?d4 ?d5; (case qA => exact rfl); (case qF => exact rfl); (case qK => first | exact rfl | assumption); (case q1 => k_asm); (case q2 => k_asm); (case q3 => k_asm); (case q4 => k_asm); (case q5 => k_asm); (case q6 => k_is); (case q7 => k_is); (case q8 => ktr_room); (case q9 => exact BindsTo.of_eq rfl); (case d5 => decide); (case qB => exact locs rfl); (case d2 => exact rfl); (case d3 => exact rfl); (case d4 => exact rfl); k_whole; intro g' L' h' hStay FG' F' N' B' X' T'; (try dsimp only); (try k_lift B'); (try k_fold))))
local macro_rules | `(tactic| walk_at "my end") => `(tactic| ((first | refine My.retI (by assumption) ?e1 ?e2 ?e3 ?e4 | refine My.retB (by assumption) ?e1 ?e2 ?e3 ?e4); (case e2 => k_asm); (case e3 => first | k_asm | exact News.nil | exact cb_drop (by assumption) (by kcj_all)); (case e4 => exact My.stay_end (by assumption) (by assumption)); (case e1 => cb_eq)))
local macro_rules | `(tactic| walk_at "my use") => `(tactic| ((case q1 => k_asm); (case q2 => k_asm); (case q3 => k_asm); (case q4 => k_asm); (case q5 => k_asm); (case q6 => first | exact rfl | assumption); (case q7 => first | exact My.room1 (by assumption) (by decide) | exact My.room1 (My.room1 (by assumption) (by decide)) (by decide) | decide | ktr_room); (case q8 => first | exact My.units1 (by assumption) (by decide) | exact My.units1 (My.units1 (by assumption) (by decide)) (by decide) | decide | ktr_units); (case q9 => first | exact (fun _ hq => nomatch hq) | exact My.sub_one (by k_mem) | exact My.sub_two (by k_mem) (by k_mem))))
local macro_rules | `(tactic| walk_at "my on") => `(tactic| (intro t9 h9 tk9 F9 N9; (try dsimp only); (try k_fold)))
local macro_rules | `(tactic| walk_at "my is end") => `(tactic| first | exact My.IsEnd.none | exact My.IsEnd.int | assumption)
local macro_rules | `(tactic| walk_at "InvEndN") => `(tactic| (k_dflt ksr_close))
def K03.insideB (lo1 hi1 lo2 hi2 : Option Int) : Bool := (match lo2, lo1 with | none, _ => true | some _, none => false | some b, some a => decide (b ≤ a)) && (match hi2, hi1 with | none, _ => true | some _, none => false | some b, some a => decide (a ≤ b))
namespace K03
section
variable {w : World} {s₀ : Shared} {mg mb : Str → Option Value}
theorem inside_does {r1 r2 : Addr} {v1 v2 v3 v4 : Value} {n1 n2 : Nat} {lo1 hi1 lo2 hi2 : Option Int} (h1 : IsEnd v1 lo1) (h2 : IsEnd v2 hi1) (h3 : IsEnd v3 lo2) (h4 : IsEnd v4 hi2) :
    D w s₀ mg mb 4 35 [(r1, tupO #[v1, v2] n1), (r2, tupO #[v3, v4] n2)] [.ref r1, .ref r2] (Hands (fun _ => .bool (insideB lo1 hi1 lo2 hi2)) [(r1, tupO #[v1, v2] n1), (r2, tupO #[v3, v4] n2)]) := by
  k_with "tree" => (simp only [insideB, Bool.true_and, Bool.and_true, Bool.false_and, Bool.and_false])
  cases h1 <;> cases h2 <;> cases h3 <;> cases h4 <;> w_strict (w_top off; (dsimp only [D, Does, Hands, Lays]); k_fill; (intro dp un gd cn cs a ccd cl outer A₀ base h₀ L m s Q E B F X N T hk hd hu hret); walk_at "my enter"; k_steps; (all_goals walk_at "my end"))
end
end K03
end
section
open PySem PySem.W PyProof.Rows My
set_option maxRecDepth 100000
set_option maxHeartbeats 8000000
local macro_rules | `(tactic| walk_at "pad 0") => `(tactic| skip)
local macro_rules | `(tactic| walk_at "pad 1") => `(tactic| skip)
local macro_rules | `(tactic| walk_at "pad 2") => `(tactic| skip)
local macro_rules | `(tactic| walk_at "pad 3") => `(tactic| skip)
local macro_rules | `(tactic| walk_at "pad 4") => `(tactic| skip)
local macro_rules | `(tactic| walk_at "pad 5") => `(tactic| skip)
local macro_rules | `(tactic| walk_at "pad 6") => `(tactic| skip)
local macro_rules | `(tactic| walk_at "pad 7") => `(tactic| skip)
local macro_rules | `(tactic| walk_at "pad 8") => `(tactic| skip)
local macro_rules | `(tactic| walk_at "pad 9") => `(tactic| skip)
local macro_rules | `(tactic| walk_at "binaryOp Pow int int") => `(tactic| (k_here; first | with_reducible refine' My.step_pow60 ?_ | with_reducible refine' My.step_pow9 ?_))
local macro_rules | `(tactic| walk_at "binaryOp Mod int int") => `(tactic| (k_here; first | with_reducible refine' My.step_mod60 ?_ | with_reducible refine' My.step_mod9 ?_))
local macro_rules | `(tactic| walk_at "binaryOp Mult int int") => `(tactic| (k_here; with_reducible refine' My.step_two ?_))
local macro_rules | `(tactic| walk_at "binaryOp Mult int int") => `(tactic| (k_here; (with_reducible refine' My.step_wide ?k1 ?_); (case k1 => assumption)))
local macro_rules | `(tactic| walk_at "call ref") => `(tactic| (k_here; k_dflt (refine wpAny_call ?_; (refine' code_def ?q1 ?q2 ?q3 ?q4 ?q5 ?qA ?qF ?qK ?q6 ?q7 ?q8 ?q9 ?qB ?_ ?d2 ?d3 ?d4 ?d5; (case qA => exact rfl); (case qF => exact rfl); (case qK => first | exact rfl | assumption); (case q1 => k_asm); (case q2 => k_asm); (case q3 => k_asm); (case q4 => k_asm); (case q5 => k_asm); (case q6 => k_is); (case q7 => k_is); (case q8 => ktr_room); (case q9 => exact BindsTo.of_eq rfl); (case d5 => decide); (case qB => exact locs rfl); (case d2 => exact rfl); (case d3 => exact rfl); (case d4 => exact rfl); k_whole; intro g' L' h' FG' F' N' B' X' T'; (try dsimp only); (try k_lift B'); (try k_fold)))))
local macro_rules | `(tactic| walk_at "my enter") => `(tactic| k_dflt (refine wpAny_call ?_; (refine' My.enter ?q1 ?q2 ?q3 ?q4 ?q5 ?qA ?qF ?qK ?q6 ?q7 ?q8 ?q9 ?qB ?_ ?d2 ?d3 ?d4 ?d5; (case qA => exact rfl); (case qF => exact rfl); (case qK => first | exact rfl | assumption); (case q1 => k_asm); (case q2 => k_asm); (case q3 => k_asm); (case q4 => k_asm); (case q5 => k_asm); (case q6 => k_is); (case q7 => k_is); (case q8 => ktr_room); (case q9 => exact BindsTo.of_eq rfl); (case d5 => decide); (case qB => exact locs rfl); (case d2 => exact rfl); (case d3 => exact rfl); (case d4 => exact rfl); k_whole; intro g' L' h' hStay FG' F' N' B' X' T'; (try dsimp only); (try k_lift B'); (try k_fold))))
local macro_rules | `(tactic| walk_at "my end") => `(tactic| ((first | refine My.retI (by assumption) ?e1 ?e2 ?e3 ?e4 | refine My.retB (by assumption) ?e1 ?e2 ?e3 ?e4); (case e2 => k_asm); (case e3 => first | k_asm | exact News.nil | exact cb_drop (by assumption) (by kcj_all)); (case e4 => exact My.stay_end (by assumption) (by assumption)); (case e1 => cb_eq)))
local macro_rules | `(tactic| walk_at "my use") => `(tactic| ((case q1 => k_asm); (case q2 => k_asm); (case q3 => k_asm); (case q4 => k_asm); (case q5 => k_asm); (case q6 => first | exact rfl | assumption); (case q7 => first | exact My.room1 (by assumption) (by decide) | exact My.room1 (My.room1 (by assumption) (by decide)) (by decide) | decide | ktr_room); (case q8 => first | exact My.units1 (by assumption) (by decide) | exact My.units1 (My.units1 (by assumption) (by decide)) (by decide) | decide | ktr_units); (case q9 => first | exact (fun _ hq => nomatch hq) | exact My.sub_one (by k_mem) | exact My.sub_two (by k_mem) (by k_mem))))
local macro_rules | `(tactic| walk_at "my on") => `(tactic| (intro t9 h9 tk9 F9 N9; (try dsimp only); (try k_fold)))
local macro_rules | `(tactic| walk_at "my is end") => `(tactic| first | exact My.IsEnd.none | exact My.IsEnd.int | assumption)
local macro_rules | `(tactic| walk_at "InvEndN") => `(tactic| (k_dflt ksr_close))
namespace K03
section
variable {w : World} {s₀ : Shared} {mg mb : Str → Option Value}
theorem law_inside_does {r1 r2 : Addr} {v1 v2 v3 v4 : Value} {n1 n2 : Nat} {lo1 hi1 lo2 hi2 : Option Int} (h1 : IsEnd v1 lo1) (h2 : IsEnd v2 hi1) (h3 : IsEnd v3 lo2) (h4 : IsEnd v4 hi2) :
    D w s₀ mg mb 4 96 [(r1, tupO #[v1, v2] n1), (r2, tupO #[v3, v4] n2)] [.ref r1, .ref r2] (Hands (fun _ => .bool (insideB lo1 hi1 lo2 hi2)) [(r1, tupO #[v1, v2] n1), (r2, tupO #[v3, v4] n2)]) := by
  k_with "tree" => (simp only [insideB, Bool.true_and, Bool.and_true, Bool.false_and, Bool.and_false])
  cases h1 <;> cases h2 <;> cases h3 <;> cases h4 <;> w_strict (w_top off; (dsimp only [D, Does, Hands, Lays]); k_fill; (intro dp un gd cn cs a ccd cl outer A₀ base h₀ L m s Q E B F X N T hk hd hu hret); walk_at "my enter"; k_steps; (all_goals walk_at "my end"))
end
end K03
end
section
open PySem PySem.W PyProof.Rows My
set_option maxRecDepth 100000
set_option maxHeartbeats 8000000
local macro_rules | `(tactic| walk_at "pad 0") => `(tactic| skip)
local macro_rules | `(tactic| walk_at "pad 1") => `(tactic| skip)
local macro_rules | `(tactic| walk_at "pad 2") => `(tactic| skip)
local macro_rules | `(tactic| walk_at "pad 3") => `(tactic| skip)
local macro_rules | `(tactic| walk_at "pad 4") => `(tactic| skip)
local macro_rules | `(tactic| walk_at "pad 5") => `(tactic| skip)
local macro_rules | `(tactic| walk_at "pad 6") => `(tactic| skip)
local macro_rules | `(tactic| walk_at "pad 7") => `(tactic| skip)
local macro_rules | `(tactic| walk_at "pad 8") => `(tactic| skip)
local macro_rules | `(tactic| walk_at "pad 9") => `(tactic| skip)
local macro_rules | `(tactic| walk_at "pad 10") => `(tactic| skip)
local macro_rules | `(tactic| walk_at "pad 11") => `(tactic| skip)
local macro_rules | `(tactic| walk_at "pad 12") => `(tactic| skip)
local macro_rules | `(tactic| walk_at "binaryOp Pow int int") => `(tactic| (k_here; first | with_reducible refine' My.step_pow60 ?_ | with_reducible refine' My.step_pow9 ?_))
local macro_rules | `(tactic| walk_at "binaryOp Mod int int") => `(tactic| (k_here; first | with_reducible refine' My.step_mod60 ?_ | with_reducible refine' My.step_mod9 ?_))
local macro_rules | `(tactic| walk_at "binaryOp Mult int int") => `(tactic| (k_here; with_reducible refine' My.step_two ?_))
local macro_rules | `(tactic| walk_at "binaryOp Mult int int") => `(tactic| (k_here; (with_reducible refine' My.step_wide ?k1 ?_); (case k1 => assumption)))
local macro_rules | `(tactic| walk_at "call ref") => `(tactic| (k_here; k_dflt (refine wpAny_call ?_; (refine' code_def ?q1 ?q2 ?q3 ?q4 ?q5 ?qA ?qF ?qK ?q6 ?q7 ?q8 ?q9 ?qB ?_ ?d2 ?d3 ?d4 ?d5; (case qA => exact rfl); (case qF => exact rfl); (case qK => first | exact rfl | assumption); (case q1 => k_asm); (case q2 => k_asm); (case q3 => k_asm); (case q4 => k_asm); (case q5 => k_asm); (case q6 => k_is); (case q7 => k_is); (case q8 => ktr_room); (case q9 => exact BindsTo.of_eq rfl); (case d5 => decide); (case qB => exact locs rfl); (case d2 => exact rfl); (case d3 => exact rfl); (case d4 => exact rfl); k_whole; intro g' L' h' FG' F' N' B' X' T'; (try dsimp only); (try k_lift B'); (try k_fold)))))
local macro_rules | `(tactic| walk_at "my enter") => `(tactic| k_dflt (refine wpAny_call ?_; (refine' My.enter ?q1 ?q2 ?q3 ?q4 ?q5 ?qA ?qF ?qK ?q6 ?q7 ?q8 ?q9 ?qB ?_ ?d2 ?d3 ?d4 ?d5; (case qA => exact rfl); (case qF => exact rfl); (case qK => first | exact rfl | assumption); (case q1 => k_asm); (case q2 => k_asm); (case q3 => k_asm); (case q4 => k_asm); (case q5 => k_asm); (case q6 => k_is); (case q7 => k_is); (case q8 => ktr_room); (case q9 => exact BindsTo.of_eq rfl); (case d5 => decide); (case qB => exact locs rfl); (case d2 => exact rfl); (case d3 => exact rfl); (case d4 => exact rfl); k_whole; intro g' L' h' hStay FG' F' N' B' X' T'; (try dsimp only); (try k_lift B'); (try k_fold))))
local macro_rules | `(tactic| walk_at "my end") => `(tactic| ((first | refine My.retI (by assumption) ?e1 ?e2 ?e3 ?e4 | refine My.retB (by assumption) ?e1 ?e2 ?e3 ?e4); (case e2 => k_asm); (case e3 => first | k_asm | exact News.nil | exact cb_drop (by assumption) (by kcj_all)); (case e4 => exact My.stay_end (by assumption) (by assumption)); (case e1 => cb_eq)))
local macro_rules | `(tactic| walk_at "my use") => `(tactic| ((case q1 => k_asm); (case q2 => k_asm); (case q3 => k_asm); (case q4 => k_asm); (case q5 => k_asm); (case q6 => first | exact rfl | assumption); (case q7 => first | exact My.room1 (by assumption) (by decide) | exact My.room1 (My.room1 (by assumption) (by decide)) (by decide) | decide | ktr_room); (case q8 => first | exact My.units1 (by assumption) (by decide) | exact My.units1 (My.units1 (by assumption) (by decide)) (by decide) | decide | ktr_units); (case q9 => first | exact (fun _ hq => nomatch hq) | exact My.sub_one (by k_mem) | exact My.sub_two (by k_mem) (by k_mem))))
local macro_rules | `(tactic| walk_at "my on") => `(tactic| (intro t9 h9 tk9 F9 N9; (try dsimp only); (try k_fold)))
local macro_rules | `(tactic| walk_at "my is end") => `(tactic| first | exact My.IsEnd.none | exact My.IsEnd.int | assumption)
local macro_rules | `(tactic| walk_at "InvEndN") => `(tactic| (k_dflt ksr_close))
local macro_rules | `(tactic| walk_at "my end") => `(tactic| (refine' My.lays_ret (by assumption) ?e1 ?e2 (by assumption) (by assumption) (by assumption) ?e5 ?e6 (by assumption) (by assumption); (case e2 => k_asm); (case e5 => k_dflt (repeat (first | exact My.sub_nil | refine My.sub_cons (by k_mem) ?_))); (case e6 => k_dflt (repeat (first | exact My.ne_nil | refine My.ne_cons (by k_ne) ?_))); (case e1 => k_dflt (refine ⟨_, _, _, rfl, ?z1, ?z2⟩; (case z1 => first | exact My.IsEnd.none | exact My.IsEnd.int | (refine My.IsEnd.int' ?_; walk_at "my ends alike")); (case z2 => first | exact My.IsEnd.none | exact My.IsEnd.int | (refine My.IsEnd.int' ?_; walk_at "my ends alike"))))))
local macro_rules | `(tactic| walk_at "my ends alike") => `(tactic| first | rfl | omega | (split <;> omega))
namespace K03
section
variable {w : World} {s₀ : Shared} {mg mb : Str → Option Value}
theorem joined_does {r1 r2 : Addr} {v1 v2 v3 v4 : Value} {n1 n2 : Nat} {lo1 hi1 lo2 hi2 : Option Int} (h1 : IsEnd v1 lo1) (h2 : IsEnd v2 hi1) (h3 : IsEnd v3 lo2) (h4 : IsEnd v4 hi2) :
    D w s₀ mg mb 4 42 [(r1, tupO #[v1, v2] n1), (r2, tupO #[v3, v4] n2)] [.ref r1, .ref r2] (Lays (IsPair (joinLo lo1 lo2) (joinHi hi1 hi2)) [(r1, tupO #[v1, v2] n1), (r2, tupO #[v3, v4] n2)]) := by
  cases h1 <;> cases h2 <;> cases h3 <;> cases h4 <;> w_strict (w_top off; (dsimp only [D, Does, Hands, Lays]); k_fill; (intro dp un gd cn cs a ccd cl outer A₀ base h₀ L m s Q E B F X N T hk hd hu hret); walk_at "my enter"; k_steps; (all_goals walk_at "my end"))
end
end K03
end
section
open PySem PySem.W PyProof.Rows My
set_option maxRecDepth 100000
set_option maxHeartbeats 8000000
local macro_rules | `(tactic| walk_at "pad 0") => `(tactic| skip)
local macro_rules | `(tactic| walk_at "pad 1") => `(tactic| skip)
local macro_rules | `(tactic| walk_at "pad 2") => `(tactic| skip)
local macro_rules | `(tactic| walk_at "pad 3") => `(tactic| skip)
local macro_rules | `(tactic| walk_at "pad 4") => `(tactic| skip)
local macro_rules | `(tactic| walk_at "pad 5") => `(tactic| skip)
local macro_rules | `(tactic| walk_at "pad 6") => `(tactic| skip)
local macro_rules | `(tactic| walk_at "pad 7") => `(tactic| skip)
local macro_rules | `(tactic| walk_at "pad 8") => `(tactic| skip)
local macro_rules | `(tactic| walk_at "pad 9") => `(tactic| skip)
local macro_rules | `(tactic| walk_at "pad 10") => `(tactic| skip)
local macro_rules | `(tactic| walk_at "pad 11") => `(tactic| skip)
local macro_rules | `(tactic| walk_at "pad 12") => `(tactic| skip)
local macro_rules | `(tactic| walk_at "pad 13") => `(tactic| skip)
local macro_rules | `(tactic| walk_at "pad 14") => `(tactic| skip)
local macro_rules | `(tactic| walk_at "pad 15") => `(tactic| skip)
local macro_rules | `(tactic| walk_at "pad 16") => `(tactic| skip)
local macro_rules | `(tactic| walk_at "pad 17") => `(tactic| skip)
local macro_rules | `(tactic| walk_at "binaryOp Pow int int") => `(tactic| (k_here; first | with_reducible refine' My.step_pow60 ?_ | with_reducible refine' My.step_pow9 ?_))
local macro_rules | `(tactic| walk_at "binaryOp Mod int int") => `(tactic| (k_here; first | with_reducible refine' My.step_mod60 ?_ | with_reducible refine' My.step_mod9 ?_))
local macro_rules | `(tactic| walk_at "binaryOp Mult int int") => `(tactic| (k_here; with_reducible refine' My.step_two ?_))
local macro_rules | `(tactic| walk_at "binaryOp Mult int int") => `(tactic| (k_here; (with_reducible refine' My.step_wide ?k1 ?_); (case k1 => assumption)))
local macro_rules | `(tactic| walk_at "call ref") => `(tactic| (k_here; k_dflt (refine wpAny_call ?_; (refine' code_def ?q1 ?q2 ?q3 ?q4 ?q5 ?qA ?qF ?qK ?q6 ?q7 ?q8 ?q9 ?qB ?_ ?d2 ?d3 ?d4 ?d5; (case qA => exact rfl); (case qF => exact rfl); (case qK => first | exact rfl | assumption); (case q1 => k_asm); (case q2 => k_asm); (case q3 => k_asm); (case q4 => k_asm); (case q5 => k_asm); (case q6 => k_is); (case q7 => k_is); (case q8 => ktr_room); (case q9 => exact BindsTo.of_eq rfl); (case d5 => decide); (case qB => exact locs rfl); (case d2 => exact rfl); (case d3 => exact rfl); (case d4 => exact rfl); k_whole; intro g' L' h' FG' F' N' B' X' T'; (try dsimp only); (try k_lift B'); (try k_fold)))))
local macro_rules | `(tactic| walk_at "my enter") => `(tactic| k_dflt (refine wpAny_call ?_; (refine' My.enter ?q1 ?q2 ?q3 ?q4 ?q5 ?qA ?qF ?qK ?q6 ?q7 ?q8 ?q9 ?qB ?_ ?d2 ?d3 ?d4 ?d5; (case qA => exact rfl); (case qF => exact rfl); (case qK => first | exact rfl | assumption); (case q1 => k_asm); (case q2 => k_asm); (case q3 => k_asm); (case q4 => k_asm); (case q5 => k_asm); (case q6 => k_is); (case q7 => k_is); (case q8 => ktr_room); (case q9 => exact BindsTo.of_eq rfl); (case d5 => decide); (case qB => exact locs rfl); (case d2 => exact rfl); (case d3 => exact rfl); (case d4 => exact rfl); k_whole; intro g' L' h' hStay FG' F' N' B' X' T'; (try dsimp only); (try k_lift B'); (try k_fold))))
local macro_rules | `(tactic| walk_at "my end") => `(tactic| ((first | refine My.retI (by assumption) ?e1 ?e2 ?e3 ?e4 | refine My.retB (by assumption) ?e1 ?e2 ?e3 ?e4); (case e2 => k_asm); (case e3 => first | k_asm | exact News.nil | exact cb_drop (by assumption) (by kcj_all)); (case e4 => exact My.stay_end (by assumption) (by assumption)); (case e1 => cb_eq)))
local macro_rules | `(tactic| walk_at "my use") => `(tactic| ((case q1 => k_asm); (case q2 => k_asm); (case q3 => k_asm); (case q4 => k_asm); (case q5 => k_asm); (case q6 => first | exact rfl | assumption); (case q7 => first | exact My.room1 (by assumption) (by decide) | exact My.room1 (My.room1 (by assumption) (by decide)) (by decide) | decide | ktr_room); (case q8 => first | exact My.units1 (by assumption) (by decide) | exact My.units1 (My.units1 (by assumption) (by decide)) (by decide) | decide | ktr_units); (case q9 => first | exact (fun _ hq => nomatch hq) | exact My.sub_one (by k_mem) | exact My.sub_two (by k_mem) (by k_mem))))
local macro_rules | `(tactic| walk_at "my on") => `(tactic| (intro t9 h9 tk9 F9 N9; (try dsimp only); (try k_fold)))
local macro_rules | `(tactic| walk_at "my is end") => `(tactic| first | exact My.IsEnd.none | exact My.IsEnd.int | assumption)
local macro_rules | `(tactic| walk_at "InvEndN") => `(tactic| (k_dflt ksr_close))
local macro_rules | `(tactic| walk_at "my end") => `(tactic| (refine' My.lays_ret (by assumption) ?e1 ?e2 (by assumption) (by assumption) (by assumption) ?e5 ?e6 (by assumption) (by assumption); (case e2 => k_asm); (case e5 => k_dflt (repeat (first | exact My.sub_nil | refine My.sub_cons (by k_mem) ?_))); (case e6 => k_dflt (repeat (first | exact My.ne_nil | refine My.ne_cons (by k_ne) ?_))); (case e1 => k_dflt (refine ⟨_, _, _, rfl, ?z1, ?z2⟩; (case z1 => first | exact My.IsEnd.none | exact My.IsEnd.int | (refine My.IsEnd.int' ?_; walk_at "my ends alike")); (case z2 => first | exact My.IsEnd.none | exact My.IsEnd.int | (refine My.IsEnd.int' ?_; walk_at "my ends alike"))))))
local macro_rules | `(tactic| walk_at "my ends alike") => `(tactic| first | rfl | omega | (split <;> omega))
namespace K03
section
variable {w : World} {s₀ : Shared} {mg mb : Str → Option Value}
theorem law_joined_does {r1 r2 : Addr} {v1 v2 v3 v4 : Value} {n1 n2 : Nat} {lo1 hi1 lo2 hi2 : Option Int} (h1 : IsEnd v1 lo1) (h2 : IsEnd v2 hi1) (h3 : IsEnd v3 lo2) (h4 : IsEnd v4 hi2) :
    D w s₀ mg mb 4 103 [(r1, tupO #[v1, v2] n1), (r2, tupO #[v3, v4] n2)] [.ref r1, .ref r2] (Lays (IsPair (joinLo lo1 lo2) (joinHi hi1 hi2)) [(r1, tupO #[v1, v2] n1), (r2, tupO #[v3, v4] n2)]) := by
  cases h1 <;> cases h2 <;> cases h3 <;> cases h4 <;> w_strict (w_top off; (dsimp only [D, Does, Hands, Lays]); k_fill; (intro dp un gd cn cs a ccd cl outer A₀ base h₀ L m s Q E B F X N T hk hd hu hret); walk_at "my enter"; k_steps; (all_goals walk_at "my end"))
end
end K03
end
section
open PySem PySem.W PyProof.Rows My
set_option maxRecDepth 100000
set_option maxHeartbeats 8000000
local macro_rules | `(tactic| walk_at "pad 0") => `(tactic| skip)
local macro_rules | `(tactic| walk_at "pad 1") => `(tactic| skip)
local macro_rules | `(tactic| walk_at "pad 2") => `(tactic| skip)
local macro_rules | `(tactic| walk_at "pad 3") => `(tactic| skip)
local macro_rules | `(tactic| walk_at "pad 4") => `(tactic| skip)
local macro_rules | `(tactic| walk_at "pad 5") => `(tactic| skip)
local macro_rules | `(tactic| walk_at "pad 6") => `(tactic| skip)
local macro_rules | `(tactic| walk_at "pad 7") => `(tactic| skip)
local macro_rules | `(tactic| walk_at "pad 8") => `(tactic| skip)
local macro_rules | `(tactic| walk_at "pad 9") => `(tactic| skip)
local macro_rules | `(tactic| walk_at "pad 10") => `(tactic| skip)
local macro_rules | `(tactic| walk_at "pad 11") => `(tactic| skip)
local macro_rules | `(tactic| walk_at "pad 12") => `(tactic| skip)
local macro_rules | `(tactic| walk_at "pad 13") => `(tactic| skip)
local macro_rules | `(tactic| walk_at "pad 14") => `(tactic| skip)
local macro_rules | `(tactic| walk_at "pad 15") => `(tactic| skip)
local macro_rules | `(tactic| walk_at "pad 16") => `(tactic| skip)
local macro_rules | `(tactic| walk_at "pad 17") => `(tactic| skip)
local macro_rules | `(tactic| walk_at "pad 18") => `(tactic| skip)
local macro_rules | `(tactic| walk_at "pad 19") => `(tactic| skip)
local macro_rules | `(tactic| walk_at "pad 20") => `(tactic| skip)
local macro_rules | `(tactic| walk_at "pad 21") => `(tactic| skip)
local macro_rules | `(tactic| walk_at "pad 22") => `(tactic| skip)
local macro_rules | `(tactic| walk_at "binaryOp Pow int int") => `(tactic| (k_here; first | with_reducible refine' My.step_pow60 ?_ | with_reducible refine' My.step_pow9 ?_))
local macro_rules | `(tactic| walk_at "binaryOp Mod int int") => `(tactic| (k_here; first | with_reducible refine' My.step_mod60 ?_ | with_reducible refine' My.step_mod9 ?_))
local macro_rules | `(tactic| walk_at "binaryOp Mult int int") => `(tactic| (k_here; with_reducible refine' My.step_two ?_))
local macro_rules | `(tactic| walk_at "binaryOp Mult int int") => `(tactic| (k_here; (with_reducible refine' My.step_wide ?k1 ?_); (case k1 => assumption)))
local macro_rules | `(tactic| walk_at "call ref") => `(tactic| (k_here; k_dflt (refine wpAny_call ?_; (refine' code_def ?q1 ?q2 ?q3 ?q4 ?q5 ?qA ?qF ?qK ?q6 ?q7 ?q8 ?q9 ?qB ?_ ?d2 ?d3 ?d4 ?d5; (case qA => exact rfl); (case qF => exact rfl); (case qK => first | exact rfl | assumption); (case q1 => k_asm); (case q2 => k_asm); (case q3 => k_asm); (case q4 => k_asm); (case q5 => k_asm); (case q6 => k_is); (case q7 => k_is); (case q8 => ktr_room); (case q9 => exact BindsTo.of_eq rfl); (case d5 => decide); (case qB => exact locs rfl); (case d2 => exact rfl); (case d3 => exact rfl); (case d4 => exact rfl); k_whole; intro g' L' h' FG' F' N' B' X' T'; (try dsimp only); (try k_lift B'); (try k_fold)))))
local macro_rules | `(tactic| walk_at "my enter") => `(tactic| k_dflt (refine wpAny_call ?_; (refine' My.enter ?q1 ?q2 ?q3 ?q4 ?q5 ?qA ?qF ?qK ?q6 ?q7 ?q8 ?q9 ?qB ?_ ?d2 ?d3 ?d4 ?d5; (case qA => exact rfl); (case qF => exact rfl); (case qK => first | exact rfl | assumption); (case q1 => k_asm); (case q2 => k_asm); (case q3 => k_asm); (case q4 => k_asm); (case q5 => k_asm); (case q6 => k_is); (case q7 => k_is); (case q8 => ktr_room); (case q9 => exact BindsTo.of_eq rfl); (case d5 => decide); (case qB => exact locs rfl); (case d2 => exact rfl); (case d3 => exact rfl); (case d4 => exact rfl); k_whole; intro g' L' h' hStay FG' F' N' B' X' T'; (try dsimp only); (try k_lift B'); (try k_fold))))
local macro_rules | `(tactic| walk_at "my end") => `(tactic| ((first | refine My.retI (by assumption) ?e1 ?e2 ?e3 ?e4 | refine My.retB (by assumption) ?e1 ?e2 ?e3 ?e4); (case e2 => k_asm); (case e3 => first | k_asm | exact News.nil | exact cb_drop (by assumption) (by kcj_all)); (case e4 => exact My.stay_end (by assumption) (by assumption)); (case e1 => cb_eq)))
local macro_rules | `(tactic| walk_at "my use") => `(tactic| ((case q1 => k_asm); (case q2 => k_asm); (case q3 => k_asm); (case q4 => k_asm); (case q5 => k_asm); (case q6 => first | exact rfl | assumption); (case q7 => first | exact My.room1 (by assumption) (by decide) | exact My.room1 (My.room1 (by assumption) (by decide)) (by decide) | decide | ktr_room); (case q8 => first | exact My.units1 (by assumption) (by decide) | exact My.units1 (My.units1 (by assumption) (by decide)) (by decide) | decide | ktr_units); (case q9 => first | exact (fun _ hq => nomatch hq) | exact My.sub_one (by k_mem) | exact My.sub_two (by k_mem) (by k_mem))))
local macro_rules | `(tactic| walk_at "my on") => `(tactic| (intro t9 h9 tk9 F9 N9; (try dsimp only); (try k_fold)))
local macro_rules | `(tactic| walk_at "my is end") => `(tactic| first | exact My.IsEnd.none | exact My.IsEnd.int | assumption)
local macro_rules | `(tactic| walk_at "InvEndN") => `(tactic| (k_dflt ksr_close))
local macro_rules | `(tactic| walk_at "my end") => `(tactic| (refine' My.lays_ret (by assumption) ?e1 ?e2 (by assumption) (by assumption) (by assumption) ?e5 ?e6 (by assumption) (by assumption); (case e2 => k_asm); (case e5 => k_dflt (repeat (first | exact My.sub_nil | refine My.sub_cons (by k_mem) ?_))); (case e6 => k_dflt (repeat (first | exact My.ne_nil | refine My.ne_cons (by k_ne) ?_))); (case e1 => k_dflt (refine ⟨_, _, _, rfl, ?z1, ?z2⟩; (case z1 => first | exact My.IsEnd.none | exact My.IsEnd.int | (refine My.IsEnd.int' ?_; walk_at "my ends alike")); (case z2 => first | exact My.IsEnd.none | exact My.IsEnd.int | (refine My.IsEnd.int' ?_; walk_at "my ends alike"))))))
local macro_rules | `(tactic| walk_at "my ends alike") => `(tactic| first | rfl | omega | (split <;> omega))
local macro_rules | `(tactic| ke_room) => `(tactic| ktr_units)
namespace K03
section
variable {w : World} {s₀ : Shared} {mg mb : Str → Option Value}
theorem same_does {r1 r2 : Addr} {v1 v2 v3 v4 : Value} {n1 n2 : Nat} {lo hi : Option Int} (h1 : IsEnd v1 lo) (h2 : IsEnd v2 hi) (h3 : IsEnd v3 lo) (h4 : IsEnd v4 hi) :
    D w s₀ mg mb 10 82 [(r1, tupO #[v1, v2] n1), (r2, tupO #[v3, v4] n2)] [.ref r1, .ref r2] (Hands (fun _ => .bool true) [(r1, tupO #[v1, v2] n1), (r2, tupO #[v3, v4] n2)]) := by
  cases h1 <;> cases h2 <;> cases h3 <;> cases h4 <;> w_strict (w_top off; (dsimp only [D, Does, Hands, Lays]); k_fill; (intro dp un gd cn cs a ccd cl outer A₀ base h₀ L m s Q E B F X N T hk hd hu hret); walk_at "my enter"; k_steps; (all_goals walk_at "my end"))
theorem same_none : D w s₀ mg mb 10 82 [] [.none, .none] (Hands (fun _ => .bool true) []) := by
  w_strict (w_top off; (dsimp only [D, Does, Hands, Lays]); k_fill; (intro dp un gd cn cs a ccd cl outer A₀ base h₀ L m s Q E B F X N T hk hd hu hret); walk_at "my enter"; k_steps; (all_goals walk_at "my end"))
end
end K03
end
section
open PySem PySem.W PyProof.Rows My
set_option maxRecDepth 100000
set_option maxHeartbeats 8000000
namespace K03
section
variable {w : World} {s₀ : Shared} {mg mb : Str → Option Value}
theorem crossed_gen_no {v u : Value} {lo hi : Option Int} (h1 : IsEnd v lo) (h2 : IsEnd u hi) (hx : ¬ Crossed lo hi) : D w s₀ mg mb 4 21 [] [v, u] (Hands (fun _ => .bool false) []) := by
  cases h1 with
  | none => exact crossed_nx
  | int => cases h2 with
    | none => exact crossed_xn
    | int => exact crossed_no hx
theorem crossed_gen_yes {v u : Value} {lo hi : Option Int} (h1 : IsEnd v lo) (h2 : IsEnd u hi) (hx : Crossed lo hi) : D w s₀ mg mb 4 21 [] [v, u] (Hands (fun _ => .bool true) []) := by
  cases h1 with
  | none => exact hx.elim
  | int => cases h2 with
    | none => exact hx.elim
    | int => exact crossed_yes hx
end
end K03
end
section
open PySem PySem.W PyProof.Rows My
set_option maxRecDepth 100000
set_option maxHeartbeats 8000000
local macro_rules | `(tactic| walk_at "pad 0") => `(tactic| skip)
local macro_rules | `(tactic| walk_at "pad 1") => `(tactic| skip)
local macro_rules | `(tactic| walk_at "pad 2") => `(tactic| skip)
local macro_rules | `(tactic| walk_at "pad 3") => `(tactic| skip)
local macro_rules | `(tactic| walk_at "pad 4") => `(tactic| skip)
local macro_rules | `(tactic| walk_at "pad 5") => `(tactic| skip)
local macro_rules | `(tactic| walk_at "pad 6") => `(tactic| skip)
local macro_rules | `(tactic| walk_at "pad 7") => `(tactic| skip)
local macro_rules | `(tactic| walk_at "pad 8") => `(tactic| skip)
local macro_rules | `(tactic| walk_at "pad 9") => `(tactic| skip)
local macro_rules | `(tactic| walk_at "pad 10") => `(tactic| skip)
local macro_rules | `(tactic| walk_at "pad 11") => `(tactic| skip)
local macro_rules | `(tactic| walk_at "pad 12") => `(tactic| skip)
local macro_rules | `(tactic| walk_at "pad 13") => `(tactic| skip)
local macro_rules | `(tactic| walk_at "pad 14") => `(tactic| skip)
local macro_rules | `(tactic| walk_at "pad 15") => `(tactic| skip)
local macro_rules | `(tactic| walk_at "pad 16") => `(tactic| skip)
local macro_rules | `(tactic| walk_at "binaryOp Pow int int") => `(tactic| (k_here; first | with_reducible refine' My.step_pow60 ?_ | with_reducible refine' My.step_pow9 ?_))
local macro_rules | `(tactic| walk_at "binaryOp Mod int int") => `(tactic| (k_here; first | with_reducible refine' My.step_mod60 ?_ | with_reducible refine' My.step_mod9 ?_))
local macro_rules | `(tactic| walk_at "binaryOp Mult int int") => `(tactic| (k_here; with_reducible refine' My.step_two ?_))
local macro_rules | `(tactic| walk_at "binaryOp Mult int int") => `(tactic| (k_here; (with_reducible refine' My.step_wide ?k1 ?_); (case k1 => assumption)))
local macro_rules | `(tactic| walk_at "call ref") => `(tactic| (k_here; k_dflt (refine wpAny_call ?_; (refine' code_def ?q1 ?q2 ?q3 ?q4 ?q5 ?qA ?qF ?qK ?q6 ?q7 ?q8 ?q9 ?qB ?_ ?d2 ?d3 ?d4 ?d5; (case qA => exact rfl); (case qF => exact rfl); (case qK => first | exact rfl | assumption); (case q1 => k_asm); (case q2 => k_asm); (case q3 => k_asm); (case q4 => k_asm); (case q5 => k_asm); (case q6 => k_is); (case q7 => k_is); (case q8 => ktr_room); (case q9 => exact BindsTo.of_eq rfl); (case d5 => decide); (case qB => exact locs rfl); (case d2 => exact rfl); (case d3 => exact rfl); (case d4 => exact rfl); k_whole; intro g' L' h' FG' F' N' B' X' T'; (try dsimp only); (try k_lift B'); (try k_fold)))))
local macro_rules | `(tactic| walk_at "my enter") => `(tactic| k_dflt (refine wpAny_call ?_; (refine' My.enter ?q1 ?q2 ?q3 ?q4 ?q5 ?qA ?qF ?qK ?q6 ?q7 ?q8 ?q9 ?qB ?_ ?d2 ?d3 ?d4 ?d5; (case qA => exact rfl); (case qF => exact rfl); (case qK => first | exact rfl | assumption); (case q1 => k_asm); (case q2 => k_asm); (case q3 => k_asm); (case q4 => k_asm); (case q5 => k_asm); (case q6 => k_is); (case q7 => k_is); (case q8 => ktr_room); (case q9 => exact BindsTo.of_eq rfl); (case d5 => decide); (case qB => exact locs rfl); (case d2 => exact rfl); (case d3 => exact rfl); (case d4 => exact rfl); k_whole; intro g' L' h' hStay FG' F' N' B' X' T'; (try dsimp only); (try k_lift B'); (try k_fold))))
local macro_rules | `(tactic| walk_at "my end") => `(tactic| ((first | refine My.retI (by assumption) ?e1 ?e2 ?e3 ?e4 | refine My.retB (by assumption) ?e1 ?e2 ?e3 ?e4); (case e2 => k_asm); (case e3 => first | k_asm | exact News.nil | exact cb_drop (by assumption) (by kcj_all)); (case e4 => exact My.stay_end (by assumption) (by assumption)); (case e1 => cb_eq)))
local macro_rules | `(tactic| walk_at "my use") => `(tactic| ((case q1 => k_asm); (case q2 => k_asm); (case q3 => k_asm); (case q4 => k_asm); (case q5 => k_asm); (case q6 => first | exact rfl | assumption); (case q7 => first | exact My.room1 (by assumption) (by decide) | exact My.room1 (My.room1 (by assumption) (by decide)) (by decide) | decide | ktr_room); (case q8 => first | exact My.units1 (by assumption) (by decide) | exact My.units1 (My.units1 (by assumption) (by decide)) (by decide) | decide | ktr_units); (case q9 => k_dflt (repeat (first | exact My.sub_nil | refine My.sub_cons (by k_mem) ?_)))))
local macro_rules | `(tactic| walk_at "my on") => `(tactic| (intro t9 h9 tk9 F9 N9; (try dsimp only); (try k_fold)))
local macro_rules | `(tactic| walk_at "my is end") => `(tactic| first | exact My.IsEnd.none | exact My.IsEnd.int | assumption)
local macro_rules | `(tactic| walk_at "InvEndN") => `(tactic| (k_dflt ksr_close))
local macro_rules | `(tactic| walk_at "my end") => `(tactic| (refine' My.lays_ret (by assumption) ?e1 ?e2 (by assumption) (by assumption) (by assumption) ?e5 ?e6 (by assumption) (by assumption); (case e2 => k_asm); (case e5 => k_dflt (repeat (first | exact My.sub_nil | refine My.sub_cons (by k_mem) ?_))); (case e6 => k_dflt (repeat (first | exact My.ne_nil | refine My.ne_cons (by k_ne) ?_))); (case e1 => k_dflt (refine ⟨_, _, _, rfl, ?z1, ?z2⟩; (case z1 => first | exact My.IsEnd.none | exact My.IsEnd.int | (refine My.IsEnd.int' ?_; walk_at "my ends alike")); (case z2 => first | exact My.IsEnd.none | exact My.IsEnd.int | (refine My.IsEnd.int' ?_; walk_at "my ends alike"))))))
local macro_rules | `(tactic| walk_at "my ends alike") => `(tactic| first | rfl | omega | (split <;> omega))
local macro_rules | `(tactic| walk_at "my end") => `(tactic| (refine My.retN (by assumption) ?e2 ?e3 ?e4; (case e2 => k_asm); (case e3 => first | k_asm | exact News.nil | exact cb_drop (by assumption) (by kcj_all)); (case e4 => exact My.stay_end (by assumption) (by assumption))))
local macro_rules | `(tactic| walk_at "my end") => `(tactic| (refine' My.lays_ret (by assumption) ?e1 ?e2 (by assumption) (by assumption) (by assumption) ?e5 ?e6 (by assumption) (by assumption); (case e2 => k_asm); (case e5 => k_dflt (repeat (first | exact My.sub_nil | refine My.sub_cons (by k_mem) ?_))); (case e6 => k_dflt (repeat (first | exact My.ne_nil | refine My.ne_cons (by first | k_ne | exact My.ne_of (by assumption) (by k_mem)) ?_))); (case e1 => k_dflt (exact ⟨_, _, _, rfl, by assumption, by assumption⟩))))
local macro_rules | `(tactic| lcg_src) => `(tactic| (k_dflt (repeat (first | exact List.mem_cons_self | refine List.mem_cons_of_mem _ ?_))))
local macro_rules | `(tactic| walk_at "CutV") => `(tactic| ((k_dflt (first | exact My.cutv_set (by assumption) (by assumption) (by k_dflt (repeat (first | exact My.sub_nil | refine My.sub_cons (by k_mem) ?_))) My.IsEnd.none | exact My.cutv_set (by assumption) (by assumption) (by k_dflt (repeat (first | exact My.sub_nil | refine My.sub_cons (by k_mem) ?_))) My.IsEnd.int | exact My.cutv_set (by assumption) (by assumption) (by k_dflt (repeat (first | exact My.sub_nil | refine My.sub_cons (by k_mem) ?_))) (by assumption)))))
local macro_rules | `(tactic| walk_at "CutL") => `(tactic| ((k_dflt (first | exact My.cutl_set (by assumption) (by assumption) (by k_mem) (by k_dflt (repeat (first | exact My.sub_nil | refine My.sub_cons (by k_mem) ?_))) My.EndsL.nn | exact My.cutl_set (by assumption) (by assumption) (by k_mem) (by k_dflt (repeat (first | exact My.sub_nil | refine My.sub_cons (by k_mem) ?_))) My.EndsL.ni | exact My.cutl_set (by assumption) (by assumption) (by k_mem) (by k_dflt (repeat (first | exact My.sub_nil | refine My.sub_cons (by k_mem) ?_))) My.EndsL.in | exact My.cutl_set (by assumption) (by assumption) (by k_mem) (by k_dflt (repeat (first | exact My.sub_nil | refine My.sub_cons (by k_mem) ?_))) My.EndsL.ii))))
local macro_rules | `(tactic| walk_at "CutV next") => `(tactic| ((k_dflt (first | exact My.cutv_set (by assumption) (by assumption) (by k_dflt (repeat (first | exact My.sub_nil | refine My.sub_cons (by k_mem) ?_))) My.IsEnd.none | exact My.cutv_set (by assumption) (by assumption) (by k_dflt (repeat (first | exact My.sub_nil | refine My.sub_cons (by k_mem) ?_))) My.IsEnd.int | exact My.cutv_set (by assumption) (by assumption) (by k_dflt (repeat (first | exact My.sub_nil | refine My.sub_cons (by k_mem) ?_))) (by assumption)))))
local macro_rules | `(tactic| walk_at "CutL next") => `(tactic| ((k_dflt (first | exact My.cutl_set (by assumption) (by assumption) (by k_mem) (by k_dflt (repeat (first | exact My.sub_nil | refine My.sub_cons (by k_mem) ?_))) My.EndsL.nn | exact My.cutl_set (by assumption) (by assumption) (by k_mem) (by k_dflt (repeat (first | exact My.sub_nil | refine My.sub_cons (by k_mem) ?_))) My.EndsL.ni | exact My.cutl_set (by assumption) (by assumption) (by k_mem) (by k_dflt (repeat (first | exact My.sub_nil | refine My.sub_cons (by k_mem) ?_))) My.EndsL.in | exact My.cutl_set (by assumption) (by assumption) (by k_mem) (by k_dflt (repeat (first | exact My.sub_nil | refine My.sub_cons (by k_mem) ?_))) My.EndsL.ii))))
local macro_rules | `(tactic| walk_at "call ref") => `(tactic| (k_here; first
  | (k_dflt (refine' My.use_hands (K03.crossed_gen_no ?p0 ?p1 ?p2) ?q1 ?q2 ?q3 ?q4 ?q5 ?q6 ?q7 ?q8 ?q9 ?_); k_dflt (walk_at "my use"); (case p0 => k_dflt (assumption)); (case p1 => k_dflt (assumption)); (case p2 => k_dflt (assumption)); k_dflt (walk_at "my on"))
  | (k_dflt (refine' My.use_hands (K03.crossed_gen_yes ?p0 ?p1 ?p2) ?q1 ?q2 ?q3 ?q4 ?q5 ?q6 ?q7 ?q8 ?q9 ?_); k_dflt (walk_at "my use"); (case p0 => k_dflt (assumption)); (case p1 => k_dflt (assumption)); (case p2 => k_dflt (assumption)); k_dflt (walk_at "my on"))))
local macro_rules | `(tactic| walk_at "call builtin:max") => `(tactic| (k_here; (k_dflt (first
  | (refine' My.max_0 ?k1 ?k2 ?k3 ?k4 ?_; (case k1 => rfl); (case k2 => k_asm); (case k3 => k_asm); (case k4 => k_mem); (intro g9 tk9 F9 N9; (try dsimp only); (try k_fold)))
  | (refine' My.max_1 ?k1 ?k2 ?k3 ?k4 ?_; (case k1 => rfl); (case k2 => k_asm); (case k3 => k_asm); (case k4 => k_mem); (intro g9 tk9 F9 N9; (try dsimp only); (try k_fold)))
  | (refine' My.max_2 ?k1 ?k2 ?k3 ?k4 ?_; (case k1 => rfl); (case k2 => k_asm); (case k3 => k_asm); (case k4 => k_mem); (intro g9 tk9 F9 N9; (try dsimp only); (try k_fold)))))))
local macro_rules | `(tactic| walk_at "call builtin:min") => `(tactic| (k_here; (k_dflt (first
  | (refine' My.min_0 ?k1 ?k2 ?k3 ?k4 ?_; (case k1 => rfl); (case k2 => k_asm); (case k3 => k_asm); (case k4 => k_mem); (intro g9 tk9 F9 N9; (try dsimp only); (try k_fold)))
  | (refine' My.min_1 ?k1 ?k2 ?k3 ?k4 ?_; (case k1 => rfl); (case k2 => k_asm); (case k3 => k_asm); (case k4 => k_mem); (intro g9 tk9 F9 N9; (try dsimp only); (try k_fold)))
  | (refine' My.min_2 ?k1 ?k2 ?k3 ?k4 ?_; (case k1 => rfl); (case k2 => k_asm); (case k3 => k_asm); (case k4 => k_mem); (intro g9 tk9 F9 N9; (try dsimp only); (try k_fold)))))))
local macro_rules | `(tactic| walk_at "eval ListComp") => `(tactic| (k_here; lct_look; lcg_calm; k_dflt (refine My.comp_tup (F₀ := by k_asm) (by with_unfolding_all rfl) (by decide) (by rfl) (by decide) (by rfl) ?_)))
local macro_rules | `(tactic| walk_at "TupSrc") => `(tactic| (k_here; k_dflt (refine My.TupSrc.mk' (by rfl) (by k_asm) (by k_asm) (by k_mem) (by exact Nat.le_of_ble_eq_true rfl) ?_; intro g'; lct_lit)))
namespace K03
section
variable {w : World} {s₀ : Shared} {mg mb : Str → Option Value}
theorem met_some {r1 r2 : Addr} {v1 v2 v3 v4 : Value} {n1 n2 : Nat} {lo1 hi1 lo2 hi2 : Option Int} (h1 : IsEnd v1 lo1) (h2 : IsEnd v2 hi1) (h3 : IsEnd v3 lo2) (h4 : IsEnd v4 hi2) (hx : ¬ Crossed (metLo lo1 lo2) (metHi hi1 hi2)) :
    D w s₀ mg mb 8 47 [(r1, tupO #[v1, v2] n1), (r2, tupO #[v3, v4] n2)] [.ref r1, .ref r2] (Lays (IsPair (metLo lo1 lo2) (metHi hi1 hi2)) [(r1, tupO #[v1, v2] n1), (r2, tupO #[v3, v4] n2)]) := by
  k_with "exec Assign cons Call" => (k_here; (with_reducible show wpAny _ _ (exec (Stmt.Assign [Expr.Name (Str.ofString "lo") _] _ _) _) _ _ _); (fail_if_success (with_reducible rename My.CutMark => kc')); (try dsimp only); (rename Fr _ _ _ _ => lF'); (rename News _ _ _ _ => lN'); (with_unfolding_all refine' (My.cutv_exec (Str.ofString "lo") (fun v => My.IsEnd v (My.metLo lo1 lo2)) lF' lN' ?_ ?_)); (rotate_left; (clear lF' lN'; intro kV kH kTk kP kFr kNews); rotate_left; (have kCut := My.CutMark.mk); (cases h1 <;> cases h3)); (all_goals (try dsimp only)); (all_goals (try k_fold)))
  k_with "exec Assign cons Call" => (k_here; (with_reducible show wpAny _ _ (exec (Stmt.Assign [Expr.Name (Str.ofString "hi") _] _ _) _) _ _ _); (fail_if_success (with_reducible rename My.CutMark => kc')); (try dsimp only); (rename Fr _ _ _ _ => lF'); (rename News _ _ _ _ => lN'); (with_unfolding_all refine' (My.cutv_exec (Str.ofString "hi") (fun v => My.IsEnd v (My.metHi hi1 hi2)) lF' lN' ?_ ?_)); (rotate_left; (clear lF' lN'; intro kV kH kTk kP kFr kNews); rotate_left; (have kCut := My.CutMark.mk); (cases h2 <;> cases h4)); (all_goals (try dsimp only)); (all_goals (try k_fold)))
  k_with "exec Assign" => (k_here; (with_reducible show wpAny _ _ (exec (Stmt.Assign [Expr.Name (Str.ofString "lo") _] _ _) _) _ _ _); (fail_if_success (with_reducible rename My.CutMark => kc')); (try dsimp only); (rename Fr _ _ _ _ => lF'); (rename News _ _ _ _ => lN'); (with_unfolding_all refine' (My.cutv_exec (Str.ofString "lo") (fun v => My.IsEnd v (My.metLo lo1 lo2)) lF' lN' ?_ ?_)); (rotate_left; (clear lF' lN'; intro kV kH kTk kP kFr kNews); rotate_left; (have kCut := My.CutMark.mk); (cases h1 <;> cases h3)); (all_goals (try dsimp only)); (all_goals (try k_fold)))
  k_with "exec Assign" => (k_here; (with_reducible show wpAny _ _ (exec (Stmt.Assign [Expr.Name (Str.ofString "hi") _] _ _) _) _ _ _); (fail_if_success (with_reducible rename My.CutMark => kc')); (try dsimp only); (rename Fr _ _ _ _ => lF'); (rename News _ _ _ _ => lN'); (with_unfolding_all refine' (My.cutv_exec (Str.ofString "hi") (fun v => My.IsEnd v (My.metHi hi1 hi2)) lF' lN' ?_ ?_)); (rotate_left; (clear lF' lN'; intro kV kH kTk kP kFr kNews); rotate_left; (have kCut := My.CutMark.mk); (cases h2 <;> cases h4)); (all_goals (try dsimp only)); (all_goals (try k_fold)))
  w_strict (w_top off; (dsimp only [D, Does, Hands, Lays]); k_fill; (intro dp un gd cn cs a ccd cl outer A₀ base h₀ L m s Q E B F X N T hk hd hu hret); walk_at "my enter"; k_steps; (all_goals (first | walk_at "my end" | (exfalso; omega))))
theorem met_none {r1 r2 : Addr} {v1 v2 v3 v4 : Value} {n1 n2 : Nat} {lo1 hi1 lo2 hi2 : Option Int} (h1 : IsEnd v1 lo1) (h2 : IsEnd v2 hi1) (h3 : IsEnd v3 lo2) (h4 : IsEnd v4 hi2) (hx :  Crossed (metLo lo1 lo2) (metHi hi1 hi2)) :
    D w s₀ mg mb 8 47 [(r1, tupO #[v1, v2] n1), (r2, tupO #[v3, v4] n2)] [.ref r1, .ref r2] (Hands (fun _ => .none) [(r1, tupO #[v1, v2] n1), (r2, tupO #[v3, v4] n2)]) := by
  k_with "exec Assign cons Call" => (k_here; (with_reducible show wpAny _ _ (exec (Stmt.Assign [Expr.Name (Str.ofString "lo") _] _ _) _) _ _ _); (fail_if_success (with_reducible rename My.CutMark => kc')); (try dsimp only); (rename Fr _ _ _ _ => lF'); (rename News _ _ _ _ => lN'); (with_unfolding_all refine' (My.cutv_exec (Str.ofString "lo") (fun v => My.IsEnd v (My.metLo lo1 lo2)) lF' lN' ?_ ?_)); (rotate_left; (clear lF' lN'; intro kV kH kTk kP kFr kNews); rotate_left; (have kCut := My.CutMark.mk); (cases h1 <;> cases h3)); (all_goals (try dsimp only)); (all_goals (try k_fold)))
  k_with "exec Assign cons Call" => (k_here; (with_reducible show wpAny _ _ (exec (Stmt.Assign [Expr.Name (Str.ofString "hi") _] _ _) _) _ _ _); (fail_if_success (with_reducible rename My.CutMark => kc')); (try dsimp only); (rename Fr _ _ _ _ => lF'); (rename News _ _ _ _ => lN'); (with_unfolding_all refine' (My.cutv_exec (Str.ofString "hi") (fun v => My.IsEnd v (My.metHi hi1 hi2)) lF' lN' ?_ ?_)); (rotate_left; (clear lF' lN'; intro kV kH kTk kP kFr kNews); rotate_left; (have kCut := My.CutMark.mk); (cases h2 <;> cases h4)); (all_goals (try dsimp only)); (all_goals (try k_fold)))
  k_with "exec Assign" => (k_here; (with_reducible show wpAny _ _ (exec (Stmt.Assign [Expr.Name (Str.ofString "lo") _] _ _) _) _ _ _); (fail_if_success (with_reducible rename My.CutMark => kc')); (try dsimp only); (rename Fr _ _ _ _ => lF'); (rename News _ _ _ _ => lN'); (with_unfolding_all refine' (My.cutv_exec (Str.ofString "lo") (fun v => My.IsEnd v (My.metLo lo1 lo2)) lF' lN' ?_ ?_)); (rotate_left; (clear lF' lN'; intro kV kH kTk kP kFr kNews); rotate_left; (have kCut := My.CutMark.mk); (cases h1 <;> cases h3)); (all_goals (try dsimp only)); (all_goals (try k_fold)))
  k_with "exec Assign" => (k_here; (with_reducible show wpAny _ _ (exec (Stmt.Assign [Expr.Name (Str.ofString "hi") _] _ _) _) _ _ _); (fail_if_success (with_reducible rename My.CutMark => kc')); (try dsimp only); (rename Fr _ _ _ _ => lF'); (rename News _ _ _ _ => lN'); (with_unfolding_all refine' (My.cutv_exec (Str.ofString "hi") (fun v => My.IsEnd v (My.metHi hi1 hi2)) lF' lN' ?_ ?_)); (rotate_left; (clear lF' lN'; intro kV kH kTk kP kFr kNews); rotate_left; (have kCut := My.CutMark.mk); (cases h2 <;> cases h4)); (all_goals (try dsimp only)); (all_goals (try k_fold)))
  w_strict (w_top off; (dsimp only [D, Does, Hands, Lays]); k_fill; (intro dp un gd cn cs a ccd cl outer A₀ base h₀ L m s Q E B F X N T hk hd hu hret); walk_at "my enter"; k_steps; (all_goals (first | walk_at "my end" | (exfalso; omega))))
end
end K03
end
section
open PySem PySem.W PyProof.Rows My
set_option maxRecDepth 100000
set_option maxHeartbeats 8000000
local macro_rules | `(tactic| walk_at "pad 0") => `(tactic| skip)
local macro_rules | `(tactic| walk_at "pad 1") => `(tactic| skip)
local macro_rules | `(tactic| walk_at "pad 2") => `(tactic| skip)
local macro_rules | `(tactic| walk_at "pad 3") => `(tactic| skip)
local macro_rules | `(tactic| walk_at "pad 4") => `(tactic| skip)
local macro_rules | `(tactic| walk_at "pad 5") => `(tactic| skip)
local macro_rules | `(tactic| walk_at "pad 6") => `(tactic| skip)
local macro_rules | `(tactic| walk_at "pad 7") => `(tactic| skip)
local macro_rules | `(tactic| walk_at "pad 8") => `(tactic| skip)
local macro_rules | `(tactic| walk_at "pad 9") => `(tactic| skip)
local macro_rules | `(tactic| walk_at "pad 10") => `(tactic| skip)
local macro_rules | `(tactic| walk_at "pad 11") => `(tactic| skip)
local macro_rules | `(tactic| walk_at "pad 12") => `(tactic| skip)
local macro_rules | `(tactic| walk_at "pad 13") => `(tactic| skip)
local macro_rules | `(tactic| walk_at "pad 14") => `(tactic| skip)
local macro_rules | `(tactic| walk_at "pad 15") => `(tactic| skip)
local macro_rules | `(tactic| walk_at "pad 16") => `(tactic| skip)
local macro_rules | `(tactic| walk_at "pad 17") => `(tactic| skip)
local macro_rules | `(tactic| walk_at "pad 18") => `(tactic| skip)
local macro_rules | `(tactic| walk_at "pad 19") => `(tactic| skip)
local macro_rules | `(tactic| walk_at "pad 20") => `(tactic| skip)
local macro_rules | `(tactic| walk_at "pad 21") => `(tactic| skip)
local macro_rules | `(tactic| walk_at "binaryOp Pow int int") => `(tactic| (k_here; first | with_reducible refine' My.step_pow60 ?_ | with_reducible refine' My.step_pow9 ?_))
local macro_rules | `(tactic| walk_at "binaryOp Mod int int") => `(tactic| (k_here; first | with_reducible refine' My.step_mod60 ?_ | with_reducible refine' My.step_mod9 ?_))
local macro_rules | `(tactic| walk_at "binaryOp Mult int int") => `(tactic| (k_here; with_reducible refine' My.step_two ?_))
local macro_rules | `(tactic| walk_at "binaryOp Mult int int") => `(tactic| (k_here; (with_reducible refine' My.step_wide ?k1 ?_); (case k1 => assumption)))
local macro_rules | `(tactic| walk_at "call ref") => `(tactic| (k_here; k_dflt (refine wpAny_call ?_; (refine' code_def ?q1 ?q2 ?q3 ?q4 ?q5 ?qA ?qF ?qK ?q6 ?q7 ?q8 ?q9 ?qB ?_ ?d2 ?d3 ?d4 ?d5; (case qA => exact rfl); (case qF => exact rfl); (case qK => first | exact rfl | assumption); (case q1 => k_asm); (case q2 => k_asm); (case q3 => k_asm); (case q4 => k_asm); (case q5 => k_asm); (case q6 => k_is); (case q7 => k_is); (case q8 => ktr_room); (case q9 => exact BindsTo.of_eq rfl); (case d5 => decide); (case qB => exact locs rfl); (case d2 => exact rfl); (case d3 => exact rfl); (case d4 => exact rfl); k_whole; intro g' L' h' FG' F' N' B' X' T'; (try dsimp only); (try k_lift B'); (try k_fold)))))
local macro_rules | `(tactic| walk_at "my enter") => `(tactic| k_dflt (refine wpAny_call ?_; (refine' My.enter ?q1 ?q2 ?q3 ?q4 ?q5 ?qA ?qF ?qK ?q6 ?q7 ?q8 ?q9 ?qB ?_ ?d2 ?d3 ?d4 ?d5; (case qA => exact rfl); (case qF => exact rfl); (case qK => first | exact rfl | assumption); (case q1 => k_asm); (case q2 => k_asm); (case q3 => k_asm); (case q4 => k_asm); (case q5 => k_asm); (case q6 => k_is); (case q7 => k_is); (case q8 => ktr_room); (case q9 => exact BindsTo.of_eq rfl); (case d5 => decide); (case qB => exact locs rfl); (case d2 => exact rfl); (case d3 => exact rfl); (case d4 => exact rfl); k_whole; intro g' L' h' hStay FG' F' N' B' X' T'; (try dsimp only); (try k_lift B'); (try k_fold))))
local macro_rules | `(tactic| walk_at "my end") => `(tactic| ((first | refine My.retI (by assumption) ?e1 ?e2 ?e3 ?e4 | refine My.retB (by assumption) ?e1 ?e2 ?e3 ?e4); (case e2 => k_asm); (case e3 => first | k_asm | exact News.nil | exact cb_drop (by assumption) (by kcj_all)); (case e4 => exact My.stay_end (by assumption) (by assumption)); (case e1 => cb_eq)))
local macro_rules | `(tactic| walk_at "my use") => `(tactic| ((case q1 => k_asm); (case q2 => k_asm); (case q3 => k_asm); (case q4 => k_asm); (case q5 => k_asm); (case q6 => first | exact rfl | assumption); (case q7 => first | exact My.room1 (by assumption) (by decide) | exact My.room1 (My.room1 (by assumption) (by decide)) (by decide) | decide | ktr_room); (case q8 => first | exact My.units1 (by assumption) (by decide) | exact My.units1 (My.units1 (by assumption) (by decide)) (by decide) | decide | ktr_units); (case q9 => k_dflt (repeat (first | exact My.sub_nil | refine My.sub_cons (by k_mem) ?_)))))
local macro_rules | `(tactic| walk_at "my on") => `(tactic| (intro t9 h9 tk9 F9 N9; (try dsimp only); (try k_fold)))
local macro_rules | `(tactic| walk_at "my is end") => `(tactic| first | exact My.IsEnd.none | exact My.IsEnd.int | assumption)
local macro_rules | `(tactic| walk_at "InvEndN") => `(tactic| (k_dflt ksr_close))
local macro_rules | `(tactic| walk_at "my end") => `(tactic| (refine' My.lays_ret (by assumption) ?e1 ?e2 (by assumption) (by assumption) (by assumption) ?e5 ?e6 (by assumption) (by assumption); (case e2 => k_asm); (case e5 => k_dflt (repeat (first | exact My.sub_nil | refine My.sub_cons (by k_mem) ?_))); (case e6 => k_dflt (repeat (first | exact My.ne_nil | refine My.ne_cons (by k_ne) ?_))); (case e1 => k_dflt (refine ⟨_, _, _, rfl, ?z1, ?z2⟩; (case z1 => first | exact My.IsEnd.none | exact My.IsEnd.int | (refine My.IsEnd.int' ?_; walk_at "my ends alike")); (case z2 => first | exact My.IsEnd.none | exact My.IsEnd.int | (refine My.IsEnd.int' ?_; walk_at "my ends alike"))))))
local macro_rules | `(tactic| walk_at "my ends alike") => `(tactic| first | rfl | omega | (split <;> omega))
local macro_rules | `(tactic| walk_at "exec Assign cons ListComp") => `(tactic| (k_here; (with_reducible rename My.CutMark => kc'); (with_reducible show wpAny _ _ _ _ _ _); lct_look; lcg_calm; (k_dflt (refine PyProof.Rows.LCt.Assign_ListComp_T (F₀ := by k_asm) (by rfl) (by with_unfolding_all rfl) (by with_unfolding_all rfl) (by decide) (by rfl) (by decide) (by rfl) (by rfl) (by rfl) ?_)); (k_dflt lct_toSrc)))
local macro_rules | `(tactic| walk_at "exec Assign cons ListComp") => `(tactic| walk_at "my assign")
local macro_rules | `(tactic| walk_at "exec If") => `(tactic| walk_at "my if")
local macro_rules | `(tactic| walk_at "my end") => `(tactic| (refine My.retN (by assumption) ?e2 ?e3 ?e4; (case e2 => k_asm); (case e3 => first | k_asm | exact News.nil | exact cb_drop (by assumption) (by kcj_all)); (case e4 => exact My.stay_end (by assumption) (by assumption))))
local macro_rules | `(tactic| walk_at "my end") => `(tactic| (refine' My.lays_ret (by assumption) ?e1 ?e2 (by assumption) (by assumption) (by assumption) ?e5 ?e6 (by assumption) (by assumption); (case e2 => k_asm); (case e5 => k_dflt (repeat (first | exact My.sub_nil | refine My.sub_cons (by k_mem) ?_))); (case e6 => k_dflt (repeat (first | exact My.ne_nil | refine My.ne_cons (by first | k_ne | exact My.ne_of (by assumption) (by k_mem)) ?_))); (case e1 => k_dflt (exact ⟨_, _, _, rfl, by assumption, by assumption⟩))))
local macro_rules | `(tactic| walk_at "CutV") => `(tactic| ((k_dflt (first | exact My.cutv_set (by assumption) (by assumption) (by k_dflt (repeat (first | exact My.sub_nil | refine My.sub_cons (by k_mem) ?_))) My.IsEnd.none | exact My.cutv_set (by assumption) (by assumption) (by k_dflt (repeat (first | exact My.sub_nil | refine My.sub_cons (by k_mem) ?_))) My.IsEnd.int | exact My.cutv_set (by assumption) (by assumption) (by k_dflt (repeat (first | exact My.sub_nil | refine My.sub_cons (by k_mem) ?_))) (by assumption)))))
local macro_rules | `(tactic| walk_at "CutL") => `(tactic| ((k_dflt (first | exact My.cutl_set (by assumption) (by assumption) (by k_mem) (by k_dflt (repeat (first | exact My.sub_nil | refine My.sub_cons (by k_mem) ?_))) My.EndsL.nn | exact My.cutl_set (by assumption) (by assumption) (by k_mem) (by k_dflt (repeat (first | exact My.sub_nil | refine My.sub_cons (by k_mem) ?_))) My.EndsL.ni | exact My.cutl_set (by assumption) (by assumption) (by k_mem) (by k_dflt (repeat (first | exact My.sub_nil | refine My.sub_cons (by k_mem) ?_))) My.EndsL.in | exact My.cutl_set (by assumption) (by assumption) (by k_mem) (by k_dflt (repeat (first | exact My.sub_nil | refine My.sub_cons (by k_mem) ?_))) My.EndsL.ii))))
local macro_rules | `(tactic| walk_at "CutV next") => `(tactic| ((k_dflt (first | exact My.cutv_set (by assumption) (by assumption) (by k_dflt (repeat (first | exact My.sub_nil | refine My.sub_cons (by k_mem) ?_))) My.IsEnd.none | exact My.cutv_set (by assumption) (by assumption) (by k_dflt (repeat (first | exact My.sub_nil | refine My.sub_cons (by k_mem) ?_))) My.IsEnd.int | exact My.cutv_set (by assumption) (by assumption) (by k_dflt (repeat (first | exact My.sub_nil | refine My.sub_cons (by k_mem) ?_))) (by assumption)))))
local macro_rules | `(tactic| walk_at "CutL next") => `(tactic| ((k_dflt (first | exact My.cutl_set (by assumption) (by assumption) (by k_mem) (by k_dflt (repeat (first | exact My.sub_nil | refine My.sub_cons (by k_mem) ?_))) My.EndsL.nn | exact My.cutl_set (by assumption) (by assumption) (by k_mem) (by k_dflt (repeat (first | exact My.sub_nil | refine My.sub_cons (by k_mem) ?_))) My.EndsL.ni | exact My.cutl_set (by assumption) (by assumption) (by k_mem) (by k_dflt (repeat (first | exact My.sub_nil | refine My.sub_cons (by k_mem) ?_))) My.EndsL.in | exact My.cutl_set (by assumption) (by assumption) (by k_mem) (by k_dflt (repeat (first | exact My.sub_nil | refine My.sub_cons (by k_mem) ?_))) My.EndsL.ii))))
local macro_rules | `(tactic| walk_at "call builtin:max") => `(tactic| (k_here; (k_dflt (refine' My.max_ends ?k0 ?k1 ?k2 ?k3 ?k4 ?_; (case k1 => rfl); (case k2 => k_asm); (case k3 => k_asm); (case k4 => k_mem); (case k0 => assumption); (intro v9 g9 tk9 hP9 F9 N9; (try dsimp only); (try k_fold))))))
local macro_rules | `(tactic| walk_at "call builtin:min") => `(tactic| (k_here; (k_dflt (refine' My.min_ends ?k0 ?k1 ?k2 ?k3 ?k4 ?_; (case k1 => rfl); (case k2 => k_asm); (case k3 => k_asm); (case k4 => k_mem); (case k0 => assumption); (intro v9 g9 tk9 hP9 F9 N9; (try dsimp only); (try k_fold))))))
namespace K03
section
variable {w : World} {s₀ : Shared} {mg mb : Str → Option Value}
theorem law_met_some {r1 r2 : Addr} {v1 v2 v3 v4 : Value} {n1 n2 : Nat} {lo1 hi1 lo2 hi2 : Option Int} (h1 : IsEnd v1 lo1) (h2 : IsEnd v2 hi1) (h3 : IsEnd v3 lo2) (h4 : IsEnd v4 hi2) (hx : ¬ Crossed (metLo lo1 lo2) (metHi hi1 hi2)) :
    D w s₀ mg mb 8 108 [(r1, tupO #[v1, v2] n1), (r2, tupO #[v3, v4] n2)] [.ref r1, .ref r2] (Lays (IsPair (metLo lo1 lo2) (metHi hi1 hi2)) [(r1, tupO #[v1, v2] n1), (r2, tupO #[v3, v4] n2)]) := by
  k_with "my assign" => (k_here; (with_reducible show wpAny _ _ (exec (Stmt.Assign [Expr.Name (Str.ofString "_law_lows") _] _ _) _) _ _ _); (fail_if_success (with_reducible rename My.CutMark => kc')); (try dsimp only); (rename Fr _ _ _ _ => lF'); (rename News _ _ _ _ => lN'); (with_unfolding_all refine' (My.cutl_exec (Str.ofString "_law_lows") (My.EndsL lo1 lo2) lF' lN' ?_ ?_)); (rotate_left; (clear lF' lN'; intro kL kYs kH kTk kP kFr kNews); rotate_left; (have kCut := My.CutMark.mk); (cases h1 <;> cases h3)); (all_goals (try dsimp only)); (all_goals (try k_fold)))
  k_with "my assign" => (k_here; (with_reducible show wpAny _ _ (exec (Stmt.Assign [Expr.Name (Str.ofString "_law_highs") _] _ _) _) _ _ _); (fail_if_success (with_reducible rename My.CutMark => kc')); (try dsimp only); (rename Fr _ _ _ _ => lF'); (rename News _ _ _ _ => lN'); (with_unfolding_all refine' (My.cutl_exec (Str.ofString "_law_highs") (My.EndsL hi1 hi2) lF' lN' ?_ ?_)); (rotate_left; (clear lF' lN'; intro kL kYs kH kTk kP kFr kNews); rotate_left; (have kCut := My.CutMark.mk); (cases h2 <;> cases h4)); (all_goals (try dsimp only)); (all_goals (try k_fold)))
  k_with "my if" => (k_here; (fail_if_success (with_reducible rename My.CutMark => kc')); (try dsimp only); (rename My.IsEnd _ (My.metLo lo1 lo2) => hLo); (rename My.IsEnd _ (My.metHi hi1 hi2) => hHi); (have kCut := My.CutMark.mk); (rcases My.IsEnd.two' hLo with ⟨e1, e2⟩ | ⟨a9, t9, e1, e2⟩) <;> (rcases My.IsEnd.two' hHi with ⟨e3, e4⟩ | ⟨b9, u9, e3, e4⟩) <;> (subst e1) <;> (subst e3) <;> (first | exact (My.cross_n1 hx e2).elim | exact (My.cross_n2 hx e4).elim | (have hc9 := My.cross_no hx e2 e4) | (have hc9 := My.cross_yes hx e2 e4) | skip))
  w_strict (w_top off; (dsimp only [D, Does, Hands, Lays]); k_fill; (intro dp un gd cn cs a ccd cl outer A₀ base h₀ L m s Q E B F X N T hk hd hu hret); walk_at "my enter"; k_steps; (all_goals (first | walk_at "my end" | (exfalso; omega))))
theorem law_met_none {r1 r2 : Addr} {v1 v2 v3 v4 : Value} {n1 n2 : Nat} {lo1 hi1 lo2 hi2 : Option Int} (h1 : IsEnd v1 lo1) (h2 : IsEnd v2 hi1) (h3 : IsEnd v3 lo2) (h4 : IsEnd v4 hi2) (hx :  Crossed (metLo lo1 lo2) (metHi hi1 hi2)) :
    D w s₀ mg mb 8 108 [(r1, tupO #[v1, v2] n1), (r2, tupO #[v3, v4] n2)] [.ref r1, .ref r2] (Hands (fun _ => .none) [(r1, tupO #[v1, v2] n1), (r2, tupO #[v3, v4] n2)]) := by
  k_with "my assign" => (k_here; (with_reducible show wpAny _ _ (exec (Stmt.Assign [Expr.Name (Str.ofString "_law_lows") _] _ _) _) _ _ _); (fail_if_success (with_reducible rename My.CutMark => kc')); (try dsimp only); (rename Fr _ _ _ _ => lF'); (rename News _ _ _ _ => lN'); (with_unfolding_all refine' (My.cutl_exec (Str.ofString "_law_lows") (My.EndsL lo1 lo2) lF' lN' ?_ ?_)); (rotate_left; (clear lF' lN'; intro kL kYs kH kTk kP kFr kNews); rotate_left; (have kCut := My.CutMark.mk); (cases h1 <;> cases h3)); (all_goals (try dsimp only)); (all_goals (try k_fold)))
  k_with "my assign" => (k_here; (with_reducible show wpAny _ _ (exec (Stmt.Assign [Expr.Name (Str.ofString "_law_highs") _] _ _) _) _ _ _); (fail_if_success (with_reducible rename My.CutMark => kc')); (try dsimp only); (rename Fr _ _ _ _ => lF'); (rename News _ _ _ _ => lN'); (with_unfolding_all refine' (My.cutl_exec (Str.ofString "_law_highs") (My.EndsL hi1 hi2) lF' lN' ?_ ?_)); (rotate_left; (clear lF' lN'; intro kL kYs kH kTk kP kFr kNews); rotate_left; (have kCut := My.CutMark.mk); (cases h2 <;> cases h4)); (all_goals (try dsimp only)); (all_goals (try k_fold)))
  k_with "my if" => (k_here; (fail_if_success (with_reducible rename My.CutMark => kc')); (try dsimp only); (rename My.IsEnd _ (My.metLo lo1 lo2) => hLo); (rename My.IsEnd _ (My.metHi hi1 hi2) => hHi); (have kCut := My.CutMark.mk); (rcases My.IsEnd.two' hLo with ⟨e1, e2⟩ | ⟨a9, t9, e1, e2⟩) <;> (rcases My.IsEnd.two' hHi with ⟨e3, e4⟩ | ⟨b9, u9, e3, e4⟩) <;> (subst e1) <;> (subst e3) <;> (first | exact (My.cross_n1 hx e2).elim | exact (My.cross_n2 hx e4).elim | (have hc9 := My.cross_no hx e2 e4) | (have hc9 := My.cross_yes hx e2 e4) | skip))
  w_strict (w_top off; (dsimp only [D, Does, Hands, Lays]); k_fill; (intro dp un gd cn cs a ccd cl outer A₀ base h₀ L m s Q E B F X N T hk hd hu hret); walk_at "my enter"; k_steps; (all_goals (first | walk_at "my end" | (exfalso; omega))))
end
end K03
end
section
open PySem PySem.W PyProof.Rows My
set_option maxRecDepth 100000
set_option maxHeartbeats 8000000
local macro_rules | `(tactic| walk_at "pad 0") => `(tactic| skip)
local macro_rules | `(tactic| walk_at "pad 1") => `(tactic| skip)
local macro_rules | `(tactic| walk_at "pad 2") => `(tactic| skip)
local macro_rules | `(tactic| walk_at "pad 3") => `(tactic| skip)
local macro_rules | `(tactic| walk_at "pad 4") => `(tactic| skip)
local macro_rules | `(tactic| walk_at "pad 5") => `(tactic| skip)
local macro_rules | `(tactic| walk_at "pad 6") => `(tactic| skip)
local macro_rules | `(tactic| walk_at "pad 7") => `(tactic| skip)
local macro_rules | `(tactic| walk_at "pad 8") => `(tactic| skip)
local macro_rules | `(tactic| walk_at "pad 9") => `(tactic| skip)
local macro_rules | `(tactic| walk_at "pad 10") => `(tactic| skip)
local macro_rules | `(tactic| walk_at "pad 11") => `(tactic| skip)
local macro_rules | `(tactic| walk_at "pad 12") => `(tactic| skip)
local macro_rules | `(tactic| walk_at "pad 13") => `(tactic| skip)
local macro_rules | `(tactic| walk_at "pad 14") => `(tactic| skip)
local macro_rules | `(tactic| walk_at "pad 15") => `(tactic| skip)
local macro_rules | `(tactic| walk_at "pad 16") => `(tactic| skip)
local macro_rules | `(tactic| walk_at "pad 17") => `(tactic| skip)
local macro_rules | `(tactic| walk_at "pad 18") => `(tactic| skip)
local macro_rules | `(tactic| walk_at "pad 19") => `(tactic| skip)
local macro_rules | `(tactic| walk_at "pad 20") => `(tactic| skip)
local macro_rules | `(tactic| walk_at "pad 21") => `(tactic| skip)
local macro_rules | `(tactic| walk_at "pad 22") => `(tactic| skip)
local macro_rules | `(tactic| walk_at "pad 23") => `(tactic| skip)
local macro_rules | `(tactic| walk_at "pad 24") => `(tactic| skip)
local macro_rules | `(tactic| walk_at "pad 25") => `(tactic| skip)
local macro_rules | `(tactic| walk_at "pad 26") => `(tactic| skip)
local macro_rules | `(tactic| walk_at "pad 27") => `(tactic| skip)
local macro_rules | `(tactic| walk_at "pad 28") => `(tactic| skip)
local macro_rules | `(tactic| walk_at "pad 29") => `(tactic| skip)
local macro_rules | `(tactic| walk_at "pad 30") => `(tactic| skip)
local macro_rules | `(tactic| walk_at "pad 31") => `(tactic| skip)
local macro_rules | `(tactic| walk_at "pad 32") => `(tactic| skip)
local macro_rules | `(tactic| walk_at "pad 33") => `(tactic| skip)
local macro_rules | `(tactic| walk_at "binaryOp Pow int int") => `(tactic| (k_here; first | with_reducible refine' My.step_pow60 ?_ | with_reducible refine' My.step_pow9 ?_))
local macro_rules | `(tactic| walk_at "binaryOp Mod int int") => `(tactic| (k_here; first | with_reducible refine' My.step_mod60 ?_ | with_reducible refine' My.step_mod9 ?_))
local macro_rules | `(tactic| walk_at "binaryOp Mult int int") => `(tactic| (k_here; with_reducible refine' My.step_two ?_))
local macro_rules | `(tactic| walk_at "binaryOp Mult int int") => `(tactic| (k_here; (with_reducible refine' My.step_wide ?k1 ?_); (case k1 => assumption)))
local macro_rules | `(tactic| walk_at "call ref") => `(tactic| (k_here; k_dflt (refine wpAny_call ?_; (refine' code_def ?q1 ?q2 ?q3 ?q4 ?q5 ?qA ?qF ?qK ?q6 ?q7 ?q8 ?q9 ?qB ?_ ?d2 ?d3 ?d4 ?d5; (case qA => exact rfl); (case qF => exact rfl); (case qK => first | exact rfl | assumption); (case q1 => k_asm); (case q2 => k_asm); (case q3 => k_asm); (case q4 => k_asm); (case q5 => k_asm); (case q6 => k_is); (case q7 => k_is); (case q8 => ktr_room); (case q9 => exact BindsTo.of_eq rfl); (case d5 => decide); (case qB => exact locs rfl); (case d2 => exact rfl); (case d3 => exact rfl); (case d4 => exact rfl); k_whole; intro g' L' h' FG' F' N' B' X' T'; (try dsimp only); (try k_lift B'); (try k_fold)))))
local macro_rules | `(tactic| walk_at "my enter") => `(tactic| k_dflt (refine wpAny_call ?_; (refine' My.enter ?q1 ?q2 ?q3 ?q4 ?q5 ?qA ?qF ?qK ?q6 ?q7 ?q8 ?q9 ?qB ?_ ?d2 ?d3 ?d4 ?d5; (case qA => exact rfl); (case qF => exact rfl); (case qK => first | exact rfl | assumption); (case q1 => k_asm); (case q2 => k_asm); (case q3 => k_asm); (case q4 => k_asm); (case q5 => k_asm); (case q6 => k_is); (case q7 => k_is); (case q8 => ktr_room); (case q9 => exact BindsTo.of_eq rfl); (case d5 => decide); (case qB => exact locs rfl); (case d2 => exact rfl); (case d3 => exact rfl); (case d4 => exact rfl); k_whole; intro g' L' h' hStay FG' F' N' B' X' T'; (try dsimp only); (try k_lift B'); (try k_fold))))
local macro_rules | `(tactic| walk_at "my end") => `(tactic| ((first | refine My.retI (by assumption) ?e1 ?e2 ?e3 ?e4 | refine My.retB (by assumption) ?e1 ?e2 ?e3 ?e4); (case e2 => k_asm); (case e3 => first | k_asm | exact News.nil | exact cb_drop (by assumption) (by kcj_all)); (case e4 => exact My.stay_end (by assumption) (by assumption)); (case e1 => cb_eq)))
local macro_rules | `(tactic| walk_at "my use") => `(tactic| ((case q1 => k_asm); (case q2 => k_asm); (case q3 => k_asm); (case q4 => k_asm); (case q5 => k_asm); (case q6 => first | exact rfl | assumption); (case q7 => first | exact My.room1 (by assumption) (by decide) | exact My.room1 (My.room1 (by assumption) (by decide)) (by decide) | decide | ktr_room); (case q8 => first | exact My.units1 (by assumption) (by decide) | exact My.units1 (My.units1 (by assumption) (by decide)) (by decide) | decide | ktr_units); (case q9 => k_dflt (repeat (first | exact My.sub_nil | refine My.sub_cons (by k_mem) ?_)))))
local macro_rules | `(tactic| walk_at "my on") => `(tactic| (intro t9 h9 tk9 F9 N9; (try dsimp only); (try k_fold)))
local macro_rules | `(tactic| walk_at "my is end") => `(tactic| first | exact My.IsEnd.none | exact My.IsEnd.int | assumption)
local macro_rules | `(tactic| walk_at "InvEndN") => `(tactic| (k_dflt ksr_close))
local macro_rules | `(tactic| walk_at "my end") => `(tactic| (refine' My.lays_ret (by assumption) ?e1 ?e2 (by assumption) (by assumption) (by assumption) ?e5 ?e6 (by assumption) (by assumption); (case e2 => k_asm); (case e5 => k_dflt (repeat (first | exact My.sub_nil | refine My.sub_cons (by k_mem) ?_))); (case e6 => k_dflt (repeat (first | exact My.ne_nil | refine My.ne_cons (by k_ne) ?_))); (case e1 => k_dflt (refine ⟨_, _, _, rfl, ?z1, ?z2⟩; (case z1 => first | exact My.IsEnd.none | exact My.IsEnd.int | (refine My.IsEnd.int' ?_; walk_at "my ends alike")); (case z2 => first | exact My.IsEnd.none | exact My.IsEnd.int | (refine My.IsEnd.int' ?_; walk_at "my ends alike"))))))
local macro_rules | `(tactic| walk_at "my ends alike") => `(tactic| first | rfl | omega | (split <;> omega))
local macro_rules | `(tactic| walk_at "my end") => `(tactic| (refine' My.lays_ret (by assumption) ?e1 ?e2 (by assumption) (by assumption) (by assumption) ?e5 ?e6 (by assumption) (by assumption); (case e2 => k_asm); (case e5 => k_dflt (repeat (first | exact My.sub_nil | refine My.sub_cons (by k_mem) ?_))); (case e6 => k_dflt (repeat (first | exact My.ne_nil | refine My.ne_cons (by first | k_ne | exact My.ne_of (by assumption) (by k_mem)) ?_))); (case e1 => k_dflt (first | exact My.AnyPair.mk' My.IsEnd.none My.IsEnd.none | exact My.AnyPair.mk' My.IsEnd.none My.IsEnd.int | exact My.AnyPair.mk' My.IsEnd.int My.IsEnd.none | exact My.AnyPair.mk' My.IsEnd.int My.IsEnd.int))))
local macro_rules | `(tactic| walk_at "call ref") => `(tactic| (k_here; first
  | (k_dflt (refine' My.use_hands (K03.number_does ?q0) ?q1 ?q2 ?q3 ?q4 ?q5 ?q6 ?q7 ?q8 ?q9 ?_); k_dflt (walk_at "my use"); (case q0 => k_dflt (first | assumption | exact My.cell_fdiv (by decide) (by assumption)));  k_dflt (walk_at "my on"))))
local macro_rules | `(tactic| walk_at "compareOp Eq int int") => `(tactic| (k_here; (with_reducible refine' My.eq_split_mod ?_ ?_); (all_goals intro hdraw); (all_goals (try dsimp only))))
local macro_rules | `(tactic| walk_at "compareOp Lt int int") => `(tactic| (k_here; (with_reducible refine' My.lt_split_mod ?_ ?_); (all_goals intro hdraw); (all_goals (try dsimp only))))
namespace K03
section
variable {w : World} {s₀ : Shared} {mg mb : Str → Option Value}
theorem stretch_does {b c m : Int} {t1 t2 t3 : Tok} (hc : Cell c) (hm : Cell m) : D w s₀ mg mb 8 68 [] [.int b t1, .int c t2, .int m t3] (Lays AnyPair []) := by
  w_strict (w_top off; (dsimp only [D, Does, Hands, Lays]); k_fill; (intro dp un gd cn cs a ccd cl outer A₀ base h₀ L m s Q E B F X N T hk hd hu hret); walk_at "my enter"; k_steps; (all_goals (first | walk_at "my end" | (exfalso; omega))))
end
end K03
end
section
open PySem PySem.W PyProof.Rows My
set_option maxRecDepth 100000
set_option maxHeartbeats 8000000
namespace K03
section
variable {w : World} {s₀ : Shared} {mg mb : Str → Option Value}
theorem has_met {r : Addr} {v1 v2 : Value} {nn : Nat} {lo1 lo2 hi1 hi2 : Option Int} {n : Int} {tn : Tok} (h1 : IsEnd v1 (metLo lo1 lo2)) (h2 : IsEnd v2 (metHi hi1 hi2)) : D w s₀ mg mb 4 28 [(r, tupO #[v1, v2] nn)] [.ref r, .int n tn] (Hands (fun _ => .bool (hasB lo1 hi1 n && hasB lo2 hi2 n)) [(r, tupO #[v1, v2] nn)]) := by
  rw [← met_has]
  exact stretch_has_does h1 h2
end
end K03
end
section
open PySem PySem.W PyProof.Rows My
set_option maxRecDepth 100000
set_option maxHeartbeats 8000000
local macro_rules | `(tactic| walk_at "pad 0") => `(tactic| skip)
local macro_rules | `(tactic| walk_at "pad 1") => `(tactic| skip)
local macro_rules | `(tactic| walk_at "pad 2") => `(tactic| skip)
local macro_rules | `(tactic| walk_at "pad 3") => `(tactic| skip)
local macro_rules | `(tactic| walk_at "pad 4") => `(tactic| skip)
local macro_rules | `(tactic| walk_at "pad 5") => `(tactic| skip)
local macro_rules | `(tactic| walk_at "pad 6") => `(tactic| skip)
local macro_rules | `(tactic| walk_at "pad 7") => `(tactic| skip)
local macro_rules | `(tactic| walk_at "pad 8") => `(tactic| skip)
local macro_rules | `(tactic| walk_at "pad 9") => `(tactic| skip)
local macro_rules | `(tactic| walk_at "pad 10") => `(tactic| skip)
local macro_rules | `(tactic| walk_at "pad 11") => `(tactic| skip)
local macro_rules | `(tactic| walk_at "pad 12") => `(tactic| skip)
local macro_rules | `(tactic| walk_at "pad 13") => `(tactic| skip)
local macro_rules | `(tactic| walk_at "pad 14") => `(tactic| skip)
local macro_rules | `(tactic| walk_at "pad 15") => `(tactic| skip)
local macro_rules | `(tactic| walk_at "pad 16") => `(tactic| skip)
local macro_rules | `(tactic| walk_at "pad 17") => `(tactic| skip)
local macro_rules | `(tactic| walk_at "pad 18") => `(tactic| skip)
local macro_rules | `(tactic| walk_at "pad 19") => `(tactic| skip)
local macro_rules | `(tactic| walk_at "pad 20") => `(tactic| skip)
local macro_rules | `(tactic| walk_at "pad 21") => `(tactic| skip)
local macro_rules | `(tactic| walk_at "pad 22") => `(tactic| skip)
local macro_rules | `(tactic| walk_at "pad 23") => `(tactic| skip)
local macro_rules | `(tactic| walk_at "pad 24") => `(tactic| skip)
local macro_rules | `(tactic| walk_at "pad 25") => `(tactic| skip)
local macro_rules | `(tactic| walk_at "pad 26") => `(tactic| skip)
local macro_rules | `(tactic| walk_at "pad 27") => `(tactic| skip)
local macro_rules | `(tactic| walk_at "pad 28") => `(tactic| skip)
local macro_rules | `(tactic| walk_at "pad 29") => `(tactic| skip)
local macro_rules | `(tactic| walk_at "pad 30") => `(tactic| skip)
local macro_rules | `(tactic| walk_at "pad 31") => `(tactic| skip)
local macro_rules | `(tactic| walk_at "pad 32") => `(tactic| skip)
local macro_rules | `(tactic| walk_at "pad 33") => `(tactic| skip)
local macro_rules | `(tactic| walk_at "pad 34") => `(tactic| skip)
local macro_rules | `(tactic| walk_at "pad 35") => `(tactic| skip)
local macro_rules | `(tactic| walk_at "pad 36") => `(tactic| skip)
local macro_rules | `(tactic| walk_at "binaryOp Pow int int") => `(tactic| (k_here; first | with_reducible refine' My.step_pow60 ?_ | with_reducible refine' My.step_pow9 ?_))
local macro_rules | `(tactic| walk_at "binaryOp Mod int int") => `(tactic| (k_here; first | with_reducible refine' My.step_mod60 ?_ | with_reducible refine' My.step_mod9 ?_))
local macro_rules | `(tactic| walk_at "binaryOp Mult int int") => `(tactic| (k_here; with_reducible refine' My.step_two ?_))
local macro_rules | `(tactic| walk_at "binaryOp Mult int int") => `(tactic| (k_here; (with_reducible refine' My.step_wide ?k1 ?_); (case k1 => assumption)))
local macro_rules | `(tactic| walk_at "call ref") => `(tactic| (k_here; k_dflt (refine wpAny_call ?_; (refine' code_def ?q1 ?q2 ?q3 ?q4 ?q5 ?qA ?qF ?qK ?q6 ?q7 ?q8 ?q9 ?qB ?_ ?d2 ?d3 ?d4 ?d5; (case qA => exact rfl); (case qF => exact rfl); (case qK => first | exact rfl | assumption); (case q1 => k_asm); (case q2 => k_asm); (case q3 => k_asm); (case q4 => k_asm); (case q5 => k_asm); (case q6 => k_is); (case q7 => k_is); (case q8 => ktr_room); (case q9 => exact BindsTo.of_eq rfl); (case d5 => decide); (case qB => exact locs rfl); (case d2 => exact rfl); (case d3 => exact rfl); (case d4 => exact rfl); k_whole; intro g' L' h' FG' F' N' B' X' T'; (try dsimp only); (try k_lift B'); (try k_fold)))))
local macro_rules | `(tactic| walk_at "my enter") => `(tactic| k_dflt (refine wpAny_call ?_; (refine' My.enter ?q1 ?q2 ?q3 ?q4 ?q5 ?qA ?qF ?qK ?q6 ?q7 ?q8 ?q9 ?qB ?_ ?d2 ?d3 ?d4 ?d5; (case qA => exact rfl); (case qF => exact rfl); (case qK => first | exact rfl | assumption); (case q1 => k_asm); (case q2 => k_asm); (case q3 => k_asm); (case q4 => k_asm); (case q5 => k_asm); (case q6 => k_is); (case q7 => k_is); (case q8 => ktr_room); (case q9 => exact BindsTo.of_eq rfl); (case d5 => decide); (case qB => exact locs rfl); (case d2 => exact rfl); (case d3 => exact rfl); (case d4 => exact rfl); k_whole; intro g' L' h' hStay FG' F' N' B' X' T'; (try dsimp only); (try k_lift B'); (try k_fold))))
local macro_rules | `(tactic| walk_at "my end") => `(tactic| ((first | refine My.retI (by assumption) ?e1 ?e2 ?e3 ?e4 | refine My.retB (by assumption) ?e1 ?e2 ?e3 ?e4); (case e2 => k_asm); (case e3 => first | k_asm | exact News.nil | exact cb_drop (by assumption) (by kcj_all)); (case e4 => exact My.stay_end (by assumption) (by assumption)); (case e1 => cb_eq)))
local macro_rules | `(tactic| walk_at "my use") => `(tactic| ((case q1 => k_asm); (case q2 => k_asm); (case q3 => k_asm); (case q4 => k_asm); (case q5 => k_asm); (case q6 => first | exact rfl | assumption); (case q7 => first | exact My.room1 (by assumption) (by decide) | exact My.room1 (My.room1 (by assumption) (by decide)) (by decide) | decide | ktr_room); (case q8 => first | exact My.units1 (by assumption) (by decide) | exact My.units1 (My.units1 (by assumption) (by decide)) (by decide) | decide | ktr_units); (case q9 => k_dflt (repeat (first | exact My.sub_nil | refine My.sub_cons (by k_mem) ?_)))))
local macro_rules | `(tactic| walk_at "my on") => `(tactic| (intro t9 h9 tk9 F9 N9; (try dsimp only); (try k_fold)))
local macro_rules | `(tactic| walk_at "my is end") => `(tactic| first | exact My.IsEnd.none | exact My.IsEnd.int | assumption)
local macro_rules | `(tactic| walk_at "InvEndN") => `(tactic| (k_dflt ksr_close))
local macro_rules | `(tactic| walk_at "my end") => `(tactic| (refine' My.lays_ret (by assumption) ?e1 ?e2 (by assumption) (by assumption) (by assumption) ?e5 ?e6 (by assumption) (by assumption); (case e2 => k_asm); (case e5 => k_dflt (repeat (first | exact My.sub_nil | refine My.sub_cons (by k_mem) ?_))); (case e6 => k_dflt (repeat (first | exact My.ne_nil | refine My.ne_cons (by k_ne) ?_))); (case e1 => k_dflt (refine ⟨_, _, _, rfl, ?z1, ?z2⟩; (case z1 => first | exact My.IsEnd.none | exact My.IsEnd.int | (refine My.IsEnd.int' ?_; walk_at "my ends alike")); (case z2 => first | exact My.IsEnd.none | exact My.IsEnd.int | (refine My.IsEnd.int' ?_; walk_at "my ends alike"))))))
local macro_rules | `(tactic| walk_at "my ends alike") => `(tactic| first | rfl | omega | (split <;> omega))
local macro_rules | `(tactic| walk_at "my on lays") => `(tactic| (intro r9 o9 h9 tk9 hP9 F9 N9 hne9; (obtain ⟨v91, v92, k9, e9, he91, he92⟩ := hP9); (subst e9); (try dsimp only); (try k_fold)))
local macro_rules | `(tactic| walk_at "my on met") => `(tactic| (intro r9 o9 h9 tk9 hP9 F9 N9 hne9; (obtain ⟨v91, v92, k9, e9, he91, he92⟩ := hP9); (subst e9); (rcases My.IsEnd.two he91 with e91 | ⟨a91, t91, e91⟩) <;> (rcases My.IsEnd.two he92 with e92 | ⟨a92, t92, e92⟩) <;> (subst e91) <;> (subst e92) <;> (try dsimp only) <;> (try k_fold)))
local macro_rules | `(tactic| walk_at "my on any") => `(tactic| (intro r9 o9 h9 tk9 hP9 F9 N9 hne9; (obtain ⟨lo9, hi9, v91, v92, k9, e9, he91, he92⟩ := hP9); (subst e9); (try dsimp only); (try k_fold)))
local macro_rules | `(tactic| walk_at "compareOp NotEq bool bool") => `(tactic| (k_here; (with_reducible refine' My.ne_bool_same ?k1 ?_); (case k1 => k_dflt (first | rfl | exact My.and_t (by assumption) | exact My.and_f (by assumption) | exact My.and_f' (by assumption)))))
local macro_rules | `(tactic| ke_room) => `(tactic| ktr_units)
local macro_rules | `(tactic| walk_at "call ref") => `(tactic| (k_here; first
  | (k_dflt (refine' My.use_hands (K03.inside_does ?p0 ?p1 ?p2 ?p3) ?q1 ?q2 ?q3 ?q4 ?q5 ?q6 ?q7 ?q8 ?q9 ?_); k_dflt (walk_at "my use"); (case p0 => k_dflt (first | assumption | exact My.IsEnd.none | exact My.IsEnd.int)); (case p1 => k_dflt (first | assumption | exact My.IsEnd.none | exact My.IsEnd.int)); (case p2 => k_dflt (first | assumption | exact My.IsEnd.none | exact My.IsEnd.int)); (case p3 => k_dflt (first | assumption | exact My.IsEnd.none | exact My.IsEnd.int)); k_dflt (walk_at "my on"))
  | (k_dflt (refine' My.use_hands (K03.law_inside_does ?p0 ?p1 ?p2 ?p3) ?q1 ?q2 ?q3 ?q4 ?q5 ?q6 ?q7 ?q8 ?q9 ?_); k_dflt (walk_at "my use"); (case p0 => k_dflt (first | assumption | exact My.IsEnd.none | exact My.IsEnd.int)); (case p1 => k_dflt (first | assumption | exact My.IsEnd.none | exact My.IsEnd.int)); (case p2 => k_dflt (first | assumption | exact My.IsEnd.none | exact My.IsEnd.int)); (case p3 => k_dflt (first | assumption | exact My.IsEnd.none | exact My.IsEnd.int)); k_dflt (walk_at "my on"))
  | (k_dflt (refine' My.use_lays (K03.joined_does ?p0 ?p1 ?p2 ?p3) ?q1 ?q2 ?q3 ?q4 ?q5 ?q6 ?q7 ?q8 ?q9 ?_); k_dflt (walk_at "my use"); (case p0 => k_dflt (first | assumption | exact My.IsEnd.none | exact My.IsEnd.int)); (case p1 => k_dflt (first | assumption | exact My.IsEnd.none | exact My.IsEnd.int)); (case p2 => k_dflt (first | assumption | exact My.IsEnd.none | exact My.IsEnd.int)); (case p3 => k_dflt (first | assumption | exact My.IsEnd.none | exact My.IsEnd.int)); k_dflt (walk_at "my on lays"))
  | (k_dflt (refine' My.use_lays (K03.law_joined_does ?p0 ?p1 ?p2 ?p3) ?q1 ?q2 ?q3 ?q4 ?q5 ?q6 ?q7 ?q8 ?q9 ?_); k_dflt (walk_at "my use"); (case p0 => k_dflt (first | assumption | exact My.IsEnd.none | exact My.IsEnd.int)); (case p1 => k_dflt (first | assumption | exact My.IsEnd.none | exact My.IsEnd.int)); (case p2 => k_dflt (first | assumption | exact My.IsEnd.none | exact My.IsEnd.int)); (case p3 => k_dflt (first | assumption | exact My.IsEnd.none | exact My.IsEnd.int)); k_dflt (walk_at "my on lays"))
  | (k_dflt (refine' My.use_hands (K03.same_does ?p0 ?p1 ?p2 ?p3) ?q1 ?q2 ?q3 ?q4 ?q5 ?q6 ?q7 ?q8 ?q9 ?_); k_dflt (walk_at "my use"); (case p2 => k_dflt (assumption)); (case p3 => k_dflt (assumption)); (case p0 => k_dflt (assumption)); (case p1 => k_dflt (assumption)); k_dflt (walk_at "my on"))
  | (k_dflt (refine' My.use_hands (K03.same_none) ?q1 ?q2 ?q3 ?q4 ?q5 ?q6 ?q7 ?q8 ?q9 ?_); k_dflt (walk_at "my use");  k_dflt (walk_at "my on"))
  | (k_dflt (refine' My.use_lays (K03.met_some ?p0 ?p1 ?p2 ?p3 ?p4) ?q1 ?q2 ?q3 ?q4 ?q5 ?q6 ?q7 ?q8 ?q9 ?_); k_dflt (walk_at "my use"); (case p0 => assumption); (case p1 => assumption); (case p2 => assumption); (case p3 => assumption); (case p4 => assumption); k_dflt (walk_at "my on met"))
  | (k_dflt (refine' My.use_lays (K03.law_met_some ?p0 ?p1 ?p2 ?p3 ?p4) ?q1 ?q2 ?q3 ?q4 ?q5 ?q6 ?q7 ?q8 ?q9 ?_); k_dflt (walk_at "my use"); (case p0 => assumption); (case p1 => assumption); (case p2 => assumption); (case p3 => assumption); (case p4 => assumption); k_dflt (walk_at "my on lays"))
  | (k_dflt (refine' My.use_hands (K03.met_none ?p0 ?p1 ?p2 ?p3 ?p4) ?q1 ?q2 ?q3 ?q4 ?q5 ?q6 ?q7 ?q8 ?q9 ?_); k_dflt (walk_at "my use"); (case p0 => k_dflt (assumption)); (case p1 => k_dflt (assumption)); (case p2 => k_dflt (assumption)); (case p3 => k_dflt (assumption)); (case p4 => k_dflt (assumption)); k_dflt (walk_at "my on"))
  | (k_dflt (refine' My.use_hands (K03.law_met_none ?p0 ?p1 ?p2 ?p3 ?p4) ?q1 ?q2 ?q3 ?q4 ?q5 ?q6 ?q7 ?q8 ?q9 ?_); k_dflt (walk_at "my use"); (case p0 => k_dflt (assumption)); (case p1 => k_dflt (assumption)); (case p2 => k_dflt (assumption)); (case p3 => k_dflt (assumption)); (case p4 => k_dflt (assumption)); k_dflt (walk_at "my on"))
  | (k_dflt (refine' My.use_hands (K03.has_met ?p0 ?p1) ?q1 ?q2 ?q3 ?q4 ?q5 ?q6 ?q7 ?q8 ?q9 ?_); k_dflt (walk_at "my use"); (case p0 => k_dflt (assumption)); (case p1 => k_dflt (assumption)); k_dflt (walk_at "my on"))
  | (k_dflt (refine' My.use_hands (K03.has_does ?p0 ?p1) ?q1 ?q2 ?q3 ?q4 ?q5 ?q6 ?q7 ?q8 ?q9 ?_); k_dflt (walk_at "my use"); (case p0 => k_dflt (assumption)); (case p1 => k_dflt (assumption)); k_dflt (walk_at "my on"))))
local macro_rules | `(tactic| walk_at "eval Call") => `(tactic| (k_here; k_dflt (refine Call_ ?_)))
namespace K03
section
variable {w : World} {s₀ : Shared} {mg mb : Str → Option Value}
theorem pair_crossed {r1 r2 : Addr} {v1 v2 v3 v4 : Value} {n1 n2 : Nat} {lo1 hi1 lo2 hi2 : Option Int} (h1 : IsEnd v1 lo1) (h2 : IsEnd v2 hi1) (h3 : IsEnd v3 lo2) (h4 : IsEnd v4 hi2) {n : Int} {tn : Tok} (hx : Crossed (metLo lo1 lo2) (metHi hi1 hi2)) :
    D w s₀ mg mb 14 115 [(r1, tupO #[v1, v2] n1), (r2, tupO #[v3, v4] n2)] [.ref r1, .ref r2, .int n tn] (Hands (fun _ => .bool true) [(r1, tupO #[v1, v2] n1), (r2, tupO #[v3, v4] n2)]) := by
  w_strict (w_top off; (dsimp only [D, Does, Hands, Lays]); k_fill; (intro dp un gd cn cs a ccd cl outer A₀ base h₀ L m s Q E B F X N T hk hd hu hret); walk_at "my enter"; k_steps; (all_goals (first | walk_at "my end" | (exfalso; omega))))
theorem pair_not {r1 r2 : Addr} {v1 v2 v3 v4 : Value} {n1 n2 : Nat} {lo1 hi1 lo2 hi2 : Option Int} (h1 : IsEnd v1 lo1) (h2 : IsEnd v2 hi1) (h3 : IsEnd v3 lo2) (h4 : IsEnd v4 hi2) {n : Int} {tn : Tok} (hx : ¬ Crossed (metLo lo1 lo2) (metHi hi1 hi2)) :
    D w s₀ mg mb 14 115 [(r1, tupO #[v1, v2] n1), (r2, tupO #[v3, v4] n2)] [.ref r1, .ref r2, .int n tn] (Hands (fun _ => .bool true) [(r1, tupO #[v1, v2] n1), (r2, tupO #[v3, v4] n2)]) := by
  k_with "pyIter ref" => (k_of "_law_each" => (((with_reducible show wpAny _ _ (pyIter (Value.ref _)) (fun it s₂ => LoopAtV _ _ _ _ _ _ _ _ _ it s₂) _ _); k_here; (rename Fr _ _ _ _ => lF'); (rename News _ _ _ _ => lN'); (try simp only [List.push_toArray] at lN'); (with_unfolding_all refine' My.ints_loop [] (by rfl) ?kl ?ki lF' lN' ?_ ?_); (case kl => k_dflt (repeat (first | exact List.mem_cons_self | refine List.mem_cons_of_mem _ ?_))); (case ki => k_dflt (repeat (first | exact PyProof.Rows.IntsAre.nil | apply PyProof.Rows.IntsAre.cons))); (all_goals (try clear lF' lN')); (rotate_left; (intro kU kH kTk kFr kNews; have kMark := kstMark; (try dsimp only [kstB] at kFr); (try dsimp only at kNews)); rotate_left; (intro kN kT kU kH kTk kOwn kOff kFr kNews; have kMark := kstMark; (try dsimp only [kstB] at kFr); (try dsimp only at kNews); (try simp only [List.nil_append, List.cons_append, List.append_nil] at kNews); (try dsimp only at kOff); (try simp only [List.map_cons, List.map_nil] at kOff))); (all_goals (try k_fold)))))
  w_strict (w_top off; (dsimp only [D, Does, Hands, Lays]); k_fill; (intro dp un gd cn cs a ccd cl outer A₀ base h₀ L m s Q E B F X N T hk hd hu hret); walk_at "my enter"; k_steps; (all_goals (first | walk_at "my end" | (exfalso; omega))))
theorem pair_does {r1 r2 : Addr} {v1 v2 v3 v4 : Value} {n1 n2 : Nat} {lo1 hi1 lo2 hi2 : Option Int} (h1 : IsEnd v1 lo1) (h2 : IsEnd v2 hi1) (h3 : IsEnd v3 lo2) (h4 : IsEnd v4 hi2) {n : Int} {tn : Tok} :
    D w s₀ mg mb 14 115 [(r1, tupO #[v1, v2] n1), (r2, tupO #[v3, v4] n2)] [.ref r1, .ref r2, .int n tn] (Hands (fun _ => .bool true) [(r1, tupO #[v1, v2] n1), (r2, tupO #[v3, v4] n2)]) := by
  by_cases hx : Crossed (metLo lo1 lo2) (metHi hi1 hi2)
  · exact pair_crossed h1 h2 h3 h4 hx
  · exact pair_not h1 h2 h3 h4 hx
end
end K03
end
section
open PySem PySem.W PyProof.Rows
local macro_rules | `(tactic| walk_at "pad 0") => `(tactic| skip)
local macro_rules | `(tactic| walk_at "pad 1") => `(tactic| skip)
local macro_rules | `(tactic| walk_at "pad 2") => `(tactic| skip)
local macro_rules | `(tactic| walk_at "pad 3") => `(tactic| skip)
local macro_rules | `(tactic| walk_at "pad 4") => `(tactic| skip)
local macro_rules | `(tactic| walk_at "pad 5") => `(tactic| skip)
local macro_rules | `(tactic| walk_at "pad 6") => `(tactic| skip)
local macro_rules | `(tactic| walk_at "pad 7") => `(tactic| skip)
local macro_rules | `(tactic| walk_at "pad 8") => `(tactic| skip)
local macro_rules | `(tactic| walk_at "pad 9") => `(tactic| skip)
local macro_rules | `(tactic| walk_at "pad 10") => `(tactic| skip)
local macro_rules | `(tactic| walk_at "pad 11") => `(tactic| skip)
local macro_rules | `(tactic| walk_at "pad 12") => `(tactic| skip)
local macro_rules | `(tactic| walk_at "pad 13") => `(tactic| skip)
local macro_rules | `(tactic| walk_at "pad 14") => `(tactic| skip)
local macro_rules | `(tactic| walk_at "pad 15") => `(tactic| skip)
local macro_rules | `(tactic| walk_at "pad 16") => `(tactic| skip)
local macro_rules | `(tactic| walk_at "pad 17") => `(tactic| skip)
local macro_rules | `(tactic| walk_at "pad 18") => `(tactic| skip)
local macro_rules | `(tactic| walk_at "pad 19") => `(tactic| skip)
local macro_rules | `(tactic| walk_at "pad 20") => `(tactic| skip)
local macro_rules | `(tactic| walk_at "pad 21") => `(tactic| skip)
local macro_rules | `(tactic| walk_at "pad 22") => `(tactic| skip)
local macro_rules | `(tactic| walk_at "pad 23") => `(tactic| skip)
local macro_rules | `(tactic| walk_at "pad 24") => `(tactic| skip)
local macro_rules | `(tactic| walk_at "pad 25") => `(tactic| skip)
local macro_rules | `(tactic| walk_at "pad 26") => `(tactic| skip)
local macro_rules | `(tactic| walk_at "pad 27") => `(tactic| skip)
local macro_rules | `(tactic| walk_at "pad 28") => `(tactic| skip)
local macro_rules | `(tactic| walk_at "pad 29") => `(tactic| skip)
local macro_rules | `(tactic| walk_at "pad 30") => `(tactic| skip)
local macro_rules | `(tactic| walk_at "pad 31") => `(tactic| skip)
local macro_rules | `(tactic| walk_at "pad 32") => `(tactic| skip)
local macro_rules | `(tactic| walk_at "pad 33") => `(tactic| skip)
local macro_rules | `(tactic| walk_at "pad 34") => `(tactic| skip)
local macro_rules | `(tactic| walk_at "pad 35") => `(tactic| skip)
local macro_rules | `(tactic| walk_at "pad 36") => `(tactic| skip)
local macro_rules | `(tactic| walk_at "pad 37") => `(tactic| skip)
local macro_rules | `(tactic| walk_at "pad 38") => `(tactic| skip)
local macro_rules | `(tactic| walk_at "pad 39") => `(tactic| skip)
local macro_rules | `(tactic| walk_at "pad 40") => `(tactic| skip)
local macro_rules | `(tactic| walk_at "pad 41") => `(tactic| skip)
local macro_rules | `(tactic| walk_at "pad 42") => `(tactic| skip)
local macro_rules | `(tactic| walk_at "pad 43") => `(tactic| skip)
local macro_rules | `(tactic| walk_at "pad 44") => `(tactic| skip)
local macro_rules | `(tactic| walk_at "pad 45") => `(tactic| skip)
local macro_rules | `(tactic| walk_at "pad 46") => `(tactic| skip)
local macro_rules | `(tactic| walk_at "InvEndN") => `(tactic| (k_dflt ksr_close))
local macro_rules | `(tactic| walk_at "my use") => `(tactic| ((case q1 => k_asm); (case q2 => k_asm); (case q3 => k_asm); (case q4 => k_asm); (case q5 => k_asm); (case q6 => first | exact rfl | assumption); (case q7 => first | decide | exact My.room1 (by decide) (by decide) | ktr_room); (case q8 => first | decide | exact My.units1 (by decide) (by decide) | ktr_units); (case q9 => k_dflt (repeat (first | exact My.sub_nil | refine My.sub_cons (by k_mem) ?_))); skip))
local macro_rules | `(tactic| walk_at "my on lays") => `(tactic| (intro r9 o9 h9 tk9 hP9 F9 N9 hne9; (obtain ⟨v91, v92, k9, e9, he91, he92⟩ := hP9); (subst e9); (try dsimp only); (try k_fold)))
local macro_rules | `(tactic| walk_at "my on met") => `(tactic| (intro r9 o9 h9 tk9 hP9 F9 N9 hne9; (obtain ⟨v91, v92, k9, e9, he91, he92⟩ := hP9); (subst e9); (rcases My.IsEnd.two he91 with e91 | ⟨a91, t91, e91⟩) <;> (rcases My.IsEnd.two he92 with e92 | ⟨a92, t92, e92⟩) <;> (subst e91) <;> (subst e92) <;> (try dsimp only) <;> (try k_fold)))
local macro_rules | `(tactic| walk_at "my on any") => `(tactic| (intro r9 o9 h9 tk9 hP9 F9 N9 hne9; (obtain ⟨lo9, hi9, v91, v92, k9, e9, he91, he92⟩ := hP9); (subst e9); (try dsimp only); (try k_fold)))
local macro_rules | `(tactic| walk_at "compareOp NotEq bool bool") => `(tactic| (k_here; (with_reducible refine' My.ne_bool_same ?k1 ?_); (case k1 => k_dflt (first | rfl | exact My.and_t (by assumption) | exact My.and_f (by assumption) | exact My.and_f' (by assumption)))))
local macro_rules | `(tactic| walk_at "my on") => `(tactic| (intro t9 h9 tk9 F9 N9; (try dsimp only); (try k_fold)))
local macro_rules | `(tactic| walk_at "call ref") => `(tactic| (k_here; first
  | (k_dflt (refine' cellTells_use ?q1 ?q2 ?q3 ?q4 ?q5 ?q6 ?qa ?qb ?qc ?qd K03.cell_tells ?q7 ?q8 ?_); k_dflt ((case q1 => k_asm); (case q2 => k_asm); (case q3 => k_asm); (case q4 => k_asm); (case q5 => k_asm); (case q6 => first | exact rfl | assumption); (case qa => k_asm); (case qb => assumption); (case qc => omega); (case qd => omega); (case q7 => first | decide | ktr_room); (case q8 => first | decide | ktr_units); (intro t9 h9 tk9 F9 N9; (try dsimp only); (try k_fold))))
  | (k_dflt (refine' My.use_lays (K03.stretch_does ?p0 ?p1) ?q1 ?q2 ?q3 ?q4 ?q5 ?q6 ?q7 ?q8 ?q9 ?_); k_dflt (walk_at "my use"); (case p0 => k_dflt (exact My.cell_at (by assumption) _)); (case p1 => k_dflt (exact My.cell_at (by assumption) _)); k_dflt (walk_at "my on any"))
  | (k_dflt (refine' My.use_hands (K03.pair_does ?p0 ?p1 ?p2 ?p3) ?q1 ?q2 ?q3 ?q4 ?q5 ?q6 ?q7 ?q8 ?q9 ?_); k_dflt (walk_at "my use"); (case p0 => k_dflt (assumption)); (case p1 => k_dflt (assumption)); (case p2 => k_dflt (assumption)); (case p3 => k_dflt (assumption)); k_dflt (walk_at "my on"))
  | ((first | (k_dflt (refine' My.with_cell (by assumption) ?_)) | (k_dflt (refine' My.with_cell_div (by assumption) (by decide) ?_))); intro hcell; k_dflt (refine' My.use_hands (K03.number_does ?q0) ?q1 ?q2 ?q3 ?q4 ?q5 ?q6 ?q7 ?q8 ?q9 ?_); (case q0 => assumption); k_dflt (walk_at "my use"); k_dflt (walk_at "my on"))))
local macro_rules | `(tactic| walk_at "compareOp Eq int int") => `(tactic| (k_here; (with_reducible refine' My.eq_split_mod ?_ ?_); (all_goals intro hdraw); (all_goals (try dsimp only))))
local macro_rules | `(tactic| walk_at "compareOp Lt int int") => `(tactic| (k_here; (with_reducible refine' My.lt_split_mod ?_ ?_); (all_goals intro hdraw); (all_goals (try dsimp only))))
local macro_rules | `(tactic| walk_at "exec If") => `(tactic| (k_here; (with_reducible show wpAny _ _ (exec (Stmt.If _ [Stmt.Assign [Expr.Name (Str.ofString "_law_far") _] _ _] [] _) _) _ _ _); (fail_if_success (with_reducible rename My.CutMark => kc')); (try dsimp only); (rename Fr _ _ _ _ => lF'); (rename News _ _ _ _ => lN'); (with_unfolding_all refine' (My.cut_exec (Str.ofString "_law_far") lF' lN' ?_ ?_)); (rotate_left; (clear lF' lN'; intro kK kT kH kTk kFr kNews); rotate_left; have kCut := My.CutMark.mk); (all_goals (try dsimp only)); (all_goals (try k_fold))))
local macro_rules | `(tactic| walk_at "Cut") => `(tactic| ((k_dflt (first | exact My.cut_set (by assumption) (by assumption) | exact My.cut_keep (by assumption) (by assumption) (if_pos rfl)))))
local macro_rules | `(tactic| walk_at "Cut next") => `(tactic| ((k_dflt (first | exact My.cut_set (by assumption) (by assumption) | exact My.cut_keep (by assumption) (by assumption) (if_pos rfl)))))
local macro_rules | `(tactic| walk_at "eval Call") => `(tactic| (k_here; k_dflt (refine Call_ ?_)))
set_option maxRecDepth 100000 in
set_option maxHeartbeats 8000000 in
theorem PySem.Challenge.cw_seer_k03_stretches_together_holds : PySem.Challenge.rw_seer_k03_stretches_together.Holds :=
  head (by
    k_with "pyIter ref" => (k_of "_law_at" => ((with_reducible show wpAny _ _ (pyIter (Value.ref _)) (fun it s₂ => LoopAtV _ _ _ _ _ _ _ _ _ it s₂) _ _); k_here; (rename Fr _ _ _ _ => lF'); (rename News _ _ _ _ => lN'); (rename IsRange _ _ _ _ _ _ _ _ => rgX); (with_unfolding_all refine' My.step_loop [Str.ofString "_law_base", Str.ofString "_law_one", Str.ofString "_law_far", Str.ofString "_law_other", Str.ofString "_law_number_here"] (by rfl) rgX (by decide) (by decide) (by omega) (by omega) lF' lN' ?_ ?_); (all_goals (try clear lF' lN' rgX)); (rotate_left; (intro kU kH kTk kFr kNews; have kMark := kstMark; (try dsimp only [kstB] at kFr); (try dsimp only at kNews)); rotate_left; (intro kN kT kU kH kTk kOwn hk0 hkb kOff kFr kNews; have kMark := kstMark; (try dsimp only [kstB] at kFr); (try dsimp only at kNews); (try simp only [List.nil_append, List.cons_append, List.append_nil] at kNews); (try dsimp only at kOff); (try simp only [List.map_cons, List.map_nil] at kOff))); (all_goals (try k_fold))))
    w_strict k_go)
end
