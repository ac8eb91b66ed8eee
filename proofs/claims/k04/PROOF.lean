import PyProof.Rows.All
import Wide.All
import OpenK.AllK
import Wide.FinOn
import PySem.Challenge.RW_seer_k04_stretches_reckoned
import KE.KState
import KE.KCellOne
import PyProof.FitsBits
import KE.KCallBy
import PyProof.WalkInts
import KE.KLcTest
import PyProof.ListRange
import PyProof.LongRange
import OpenK.KLine
set_option Elab.async false
section
set_option maxRecDepth 100000
/-! What all four laws share: a for over range(0, b, c) that keeps nothing from turn to turn, and the numbers that a cell draws. -/
namespace My
open PySem PySem.W PySem.Calls PyProof.Rows PySem.Spec
theorem size_step {b c : Int} (hc : 0 < c) (hb : 0 < b) : Builtin.Range.rangeSize 0 b c = (((b - 1) / c + 1).toNat : Int) := by
  have h0 : 0 ≤ (b - 1) / c := Int.ediv_nonneg (by omega) (by omega)
  unfold Builtin.Range.rangeSize
  rw [if_pos hc, if_pos hb, Int.sub_zero]
  omega
theorem small_step {b c : Int} (hc : 0 < c) (hb : 0 < b) (hc9 : c ≤ 1000) (hb9 : b ≤ 1000) : Builtin.Range.small 0 b c = true := by
  have h0 : 0 ≤ (b - 1) / c := Int.ediv_nonneg (by omega) (by omega)
  have h1 : (b - 1) / c ≤ b - 1 := Int.ediv_le_self _ (by omega)
  unfold Builtin.Range.small
  rw [size_step hc hb]
  simp only [Builtin.Range.rangeFitsLong, Bool.and_eq_true, Bool.or_eq_true, decide_eq_true_eq, beq_iff_eq]
  rw [if_pos hc]
  simp only [Bool.and_eq_true, decide_eq_true_eq]
  refine ⟨⟨⟨⟨?_, ?_⟩, ?_⟩, ?_⟩, Or.inr ?_⟩ <;> omega
theorem under_step {b c : Int} {i : Nat} (hc : 0 < c) (hb : 0 < b) (hi : i < ((b - 1) / c + 1).toNat) : 0 ≤ (i : Int) * c ∧ (i : Int) * c < b := by
  have h0 : 0 ≤ (b - 1) / c := Int.ediv_nonneg (by omega) (by omega)
  have h1 : (i : Int) ≤ (b - 1) / c := by omega
  have h2 := Int.mul_le_of_le_ediv hc h1
  have h3 : 0 ≤ (i : Int) * c := Int.mul_nonneg (by omega) (by omega)
  omega
section
variable {prog : Program} {w : World} {A : Around} {E : Value → Shared → Prop} {s : Shared} {env : Env} {h₀ : Heap} {x : Str} {body : List Stmt} {Q : Flow → Shared → Prop}
abbrev Same (news : List (Addr × Obj)) (x : Str) (stored : List Str) (m₀ : Str → Option Value) : (Str → Option Value) → List (Addr × Obj) → Prop :=
  KstS (σ := Unit) (fun _ => news) (fun _ => []) (fun _ => True) x stored m₀ (fun _ _ => True) []
theorem step_loop {r : Addr} {b c : Int} {t₀ u₀ v₀ : Tok} {m₀ : Str → Option Value} {news : List (Addr × Obj)} (stored : List Str) (hh : A.handled = none)
    (hr : IsRange s.heap r 0 b c t₀ u₀ v₀) (hc : 0 < c) (hc9 : c ≤ 1000) (hb : 0 < b) (hb9 : b ≤ 1000) (F : Fr h₀ env.locals s.heap m₀) (N : News h₀ env.locals s.heap news)
    (turn : ∀ (k : Int) (t : Tok) (u : Str → Option Value) (h : Heap) (tk : Nat) (own : List (Addr × Obj)), 0 ≤ k → k < b → OwnOff own (news.map (·.1)) →
      Fr h₀ env.locals h (fun y => if y = x then some (.int k t) else kstB (fun z => if stored.contains z then u z else m₀ z) [] y) → News h₀ env.locals h (news ++ own) →
      wpAny (model prog w) A (execs body env) (InvPostN h₀ env.locals (KstS (σ := Unit) (fun _ => news) (fun _ => []) (fun _ => True) x stored m₀ (fun _ _ => True) []) own (news.map (·.1)) { s with heap := h, toks := tk } Q) E { s with heap := h, toks := tk })
    (done : ∀ (u : Str → Option Value) (h : Heap) (tk : Nat), Fr h₀ env.locals h (fun y => if y = x then u y else kstB (fun z => if stored.contains z then u z else m₀ z) [] y) → News h₀ env.locals h news →
      Q .next { s with heap := h, toks := tk }) :
    wpAny (model prog w) A (pyIter (.ref r)) (fun it s₂ => LoopAtV prog w A h₀ env x body Q E it s₂) E s := by
  refine wpAny_pyIter_range hr (small_step hc hb hc9 hb9) ?_
  have W := Walks.range (prog := prog) (w := w) hh s.heap.objs.size 0 c ((b - 1) / c + 1).toNat
  have no : ∀ p ∈ news, p.1 ∉ [s.heap.objs.size] := fun p hp q => absurd (Heap.lt_size (N p hp).1) (by rw [List.mem_singleton.mp q]; exact Nat.lt_irrefl _)
  have st : IsRangeIter (s.heap.push { cls := .type "range_iterator", data := .fields #[rawInt 0, rawInt (Builtin.Range.rangeSize 0 b c), rawInt c] }) s.heap.objs.size (0 + ((0 : Nat) : Int) * c) ((((b - 1) / c + 1).toNat : Int) - ((0 : Nat) : Int)) c := by
    show IsRangeIter _ _ _ _ _
    rw [size_step hc hb]
    simpa using Heap.get?_push_size _ rfl
  refine loop_invN (fun _ m nx => Same news x stored m₀ m nx) W (fun q => absurd F.ns.lt (by rw [List.mem_singleton.mp q]; exact Nat.lt_irrefl _)) (fun q hq => by rw [List.mem_singleton.mp hq]; exact next_is_new F) no no st (F.push _)
    (fun p hp => ⟨Heap.get?_push_of_some _ (N p hp).1, (N p hp).2⟩) ⟨(), rfl, True.intro, List.forall_mem_nil _, fun _ _ _ _ => rfl, True.intro⟩ ?_ ?_
  · rintro i v m₁ nx h tk own hi ⟨t, rfl⟩ _ off ⟨_, rfl, _, k1, k2, _⟩ F₁ N₁
    have lim := under_step hc hb hi
    rw [Int.zero_add] at F₁
    exact turn _ t m₁ h tk own lim.1 lim.2 off (kst_fr k1 k2 F₁) N₁
  · rintro m₁ nx h tk ⟨_, rfl, _, k1, k2, _⟩ F₁ N₁
    exact done m₁ h tk (kst_frOut k1 k2 F₁) N₁
end
end My
end
section
set_option maxRecDepth 100000
namespace My
open PySem PySem.W PySem.Calls PyProof.Rows PySem.Spec
/-- a cell of the script has at most 2 ^ 20 bits -/
structure Cell (v : Int) : Prop where
  bits : Builtin.Int.intBits v ≤ 2 ^ 20
theorem bits_zero : Builtin.Int.intBits 0 ≤ 2 ^ 20 := by unfold Builtin.Int.intBits; simp
theorem cell_at {ns : List Int} (h : PyData.layable0 (.list (ns.map .int)) = true) (i : Int) : Cell (cellAt ns i 0) := by
  refine ⟨?_⟩
  rw [cellAt_def, List.getD_eq_getElem?_getD]
  cases e : ns[i.toNat]? with
  | none => exact bits_zero
  | some v => exact PyData.bits_item_of_ints h (List.mem_of_getElem? e)
section
variable {prog : Program} {w : World} {A : Around} {E : Value → Shared → Prop} {s : Shared} {x y : Int} {t u : Tok} {Q : Value → Shared → Prop}
theorem with_cell {ns : List Int} {i : Int} {f : Value} (hL : PyData.layable0 (.list (ns.map .int)) = true) (h : Cell (cellAt ns i 0) → wpAny (model prog w) A (call f [.int (cellAt ns i 0) t]) Q E s) :
    wpAny (model prog w) A (call f [.int (cellAt ns i 0) t]) Q E s := h (cell_at hL i)
theorem bits_fdiv {v : Int} (h : Cell v) : Builtin.Int.intBits (Int.fdiv v 5) ≤ 2 ^ 20 := by
  have hb := h.bits
  unfold Builtin.Int.intBits at hb ⊢
  rw [Int.fdiv_eq_ediv_of_nonneg v (by decide)]
  by_cases z : v / 5 = 0
  · simp [z]
  · have hv : v ≠ 0 := by omega
    rw [if_neg (by simpa using hv)] at hb
    rw [if_neg (by simpa using z)]
    have hn : (v / 5).natAbs ≤ v.natAbs := by omega
    have h1 : v.natAbs.log2 < 2 ^ 20 := by omega
    have h2 : v.natAbs < 2 ^ (2 ^ 20) := (Nat.log2_lt (by omega)).mp h1
    have h3 : (v / 5).natAbs.log2 < 2 ^ 20 := (Nat.log2_lt (by omega)).mpr (Nat.lt_of_le_of_lt hn h2)
    omega
/-- the wide product of a cell -/
@[irreducible] def wide (v : Int) : Int := Int.fdiv v 5 * 48271 ^ Int.toNat 14
theorem step_wide {v : Int} (hv : Cell v) (h : Q (.int (wide v) s.toks) { s with toks := s.toks + 1 }) :
    wpAny (model prog w) A (binaryOp .Mult (.int (Int.fdiv v 5) t) (.int (48271 ^ Int.toNat 14) u)) Q E s := by
  unfold wide at h
  exact PyProof.Rows.mul_int h (IntMulOk.of_bits (bits_fdiv hv) (Nat.le_trans (PyProof.Rows.intBits_le (k := 256) (by decide +kernel)) (by decide)))
@[irreducible] def T60 : Int := 10 ^ 60
@[irreducible] def T9 : Int := 10 ^ 9
theorem T60_eq : T60 = 1000000000000000000000000000000000000000000000000000000000000 := by unfold T60; decide +kernel
theorem T9_eq : T9 = 1000000000 := by unfold T9; decide +kernel
theorem step_pow60 (h : Q (.int T60 s.toks) { s with toks := s.toks + 1 }) : wpAny (model prog w) A (binaryOp .Pow (.int 10 t) (.int 60 u)) Q E s := by
  refine PyProof.Rows.pow_int_small (by decide) (by decide) (by decide) ?_
  unfold T60 at h
  exact h
theorem step_pow9 (h : Q (.int T9 s.toks) { s with toks := s.toks + 1 }) : wpAny (model prog w) A (binaryOp .Pow (.int 10 t) (.int 9 u)) Q E s := by
  refine PyProof.Rows.pow_int_small (by decide) (by decide) (by decide) ?_
  unfold T9 at h
  exact h
theorem step_two (h : Q (.int (2 * y) s.toks) { s with toks := s.toks + 1 }) : wpAny (model prog w) A (binaryOp .Mult (.int 2 t) (.int y u)) Q E s :=
  PyProof.Rows.mul_int h (PySem.IntMulOk.of_left (PySem.intBits_le_64 (by decide) (by decide)))
theorem step_mod60 (h : Q (.int (Int.fmod x (2 * T60 - 1)) s.toks) { s with toks := s.toks + 1 }) : wpAny (model prog w) A (binaryOp .Mod (.int x t) (.int (2 * T60 - 1) u)) Q E s :=
  PyProof.Rows.mod_int (by have := T60_eq; omega) h
theorem step_mod9 (h : Q (.int (Int.fmod x (2 * T9 + 1)) s.toks) { s with toks := s.toks + 1 }) : wpAny (model prog w) A (binaryOp .Mod (.int x t) (.int (2 * T9 + 1) u)) Q E s :=
  PyProof.Rows.mod_int (by have := T9_eq; omega) h
/-- the number that a cell draws -/
def numb (v : Int) : Int :=
  if Int.fmod v 5 = 0 then Int.fmod (wide v) 13 - 6
  else if Int.fmod v 5 = 1 then Int.fmod (wide v) 2001 - 1000
  else if Int.fmod v 5 = 2 then Int.fmod (wide v) (2 * T60 - 1) - (T60 - 1)
  else if Int.fmod v 5 = 3 then Int.fmod (wide v) (2 * T9 + 1) - T9
  else Int.fmod (wide v) 9
theorem numb_in (n : Int) : -T60 ≤ numb n ∧ numb n ≤ T60 := by
  unfold numb
  generalize wide n = w
  have e := T60_eq
  have e9 := T9_eq
  have a1 := Int.fmod_nonneg_of_pos w (show (0 : Int) < 13 by decide)
  have b1 := Int.fmod_lt_of_pos w (show (0 : Int) < 13 by decide)
  have a2 := Int.fmod_nonneg_of_pos w (show (0 : Int) < 2001 by decide)
  have b2 := Int.fmod_lt_of_pos w (show (0 : Int) < 2001 by decide)
  have a3 := Int.fmod_nonneg_of_pos w (show (0 : Int) < 2 * T60 - 1 by omega)
  have b3 := Int.fmod_lt_of_pos w (show (0 : Int) < 2 * T60 - 1 by omega)
  have a4 := Int.fmod_nonneg_of_pos w (show (0 : Int) < 2 * T9 + 1 by omega)
  have b4 := Int.fmod_lt_of_pos w (show (0 : Int) < 2 * T9 + 1 by omega)
  have a5 := Int.fmod_nonneg_of_pos w (show (0 : Int) < 9 by decide)
  have b5 := Int.fmod_lt_of_pos w (show (0 : Int) < 9 by decide)
  refine ⟨?_, ?_⟩ <;> (repeat' split) <;> omega
theorem numb_bits (n : Int) : Builtin.Int.intBits (numb n) ≤ 256 := by
  have h := numb_in n
  rw [T60_eq] at h
  refine PyProof.Rows.intBits_le ?_
  have p : (2 : Nat) ^ 256 = 115792089237316195423570985008687907853269984665640564039457584007913129639936 := by decide
  rw [p]
  omega
theorem numb_0 {v : Int} (h : Int.fmod v 5 = 0) : Int.fmod (wide v) 13 - 6 = numb v := by unfold numb; rw [if_pos h]
theorem numb_1 {v : Int} (h : Int.fmod v 5 = 1) : Int.fmod (wide v) 2001 - 1000 = numb v := by
  unfold numb; rw [if_neg (by omega), if_pos h]
theorem numb_2 {v : Int} (h : Int.fmod v 5 = 2) : Int.fmod (wide v) (2 * T60 - 1) - (T60 - 1) = numb v := by
  unfold numb; rw [if_neg (by omega), if_neg (by omega), if_pos h]
theorem numb_3 {v : Int} (h : Int.fmod v 5 = 3) : Int.fmod (wide v) (2 * T9 + 1) - T9 = numb v := by
  unfold numb; rw [if_neg (by omega), if_neg (by omega), if_neg (by omega), if_pos h]
theorem numb_4 {v : Int} (h0 : ¬ Int.fmod v 5 = 0) (h1 : ¬ Int.fmod v 5 = 1) (h2 : ¬ Int.fmod v 5 = 2) (h3 : ¬ Int.fmod v 5 = 3) : Int.fmod (wide v) 9 = numb v := by
  unfold numb; rw [if_neg h0, if_neg h1, if_neg h2, if_neg h3]
end
end My
end
section
set_option maxRecDepth 100000
namespace My
open PySem PySem.W PySem.Calls PyProof.Rows PySem.Spec
/-- all that stood ahead of a call stands behind it, but what the call was lent -/
def Stay (lent : List (Addr × Obj)) (h h' : Heap) : Prop := ∀ b o, h.get? b = some o → b ∉ lent.map (·.1) → h'.get? b = some o
theorem stay_news {h₀ h h' : Heap} {L : Addr} {lent news : List (Addr × Obj)} (S : Stay lent h h') (N : News h₀ L h news) (N' : News h₀ L h' lent) (sub : ∀ p ∈ lent, h.get? p.1 = some p.2) : News h₀ L h' news := fun p hp => by
  obtain ⟨a, b, c⟩ := N p hp
  by_cases q : p.1 ∈ lent.map (·.1)
  · obtain ⟨r, hr, e⟩ := List.mem_map.mp q
    have x := sub r hr
    rw [e, a] at x
    have e2 : p = r := Prod.ext e.symm (Option.some.inj x)
    rw [e2]
    exact N' r hr
  · exact ⟨S _ _ a q, b, c⟩
section
variable {prog : Program} {w : World} {A A₀ : Around} {s : Shared} {base h₀ : Heap} {L : Addr} {m : Str → Option Value} {lent : List (Addr × Obj)} {K : Frag} {p : Program} {loose : List Str} {mean : ExcName → Option Value} {mg mb : Str → Option Value}
  {env : Env} {outer : List Env} {R : Result → Shared → Prop} {name qual : Str} {params : Arguments} {body : List Stmt} {scope : Scope} {dV kV doc pm cdv ct oc : Value} {an od : Option Addr} {osl : Array (Option Value)} {f : Addr} {args : Args} {binds : List (Str × Value)}
/-- a def is entered; its ledger holds what it is lent, the rest of the heap stays below it -/
theorem enter (B : Below A₀ base outer h₀) (F : Fr h₀ L s.heap m) (X₀ : K.In h₀) (N : News h₀ L s.heap lent) (T : Top p loose mean mg mb h₀) (hA : A.frames = some (env :: outer)) (hf : env.frame = some L) (hke : env.scope.kind = .function)
    (ho : K.lookup f = some ⟨oc, od, .func (fnOf name qual params body scope dV kV doc pm an cdv ct), osl⟩) (hcd : codeIn K cdv qual = true) (hroom : A.depth < recursionLimit)
    (hbind : BindsTo s (fnOf name qual params body scope dV kV doc pm an cdv ct) args binds) (hloc : ∀ y ∈ binds, scope.names.lookup y.1 = some .local)
    (h : ∀ g L' h₁, Stay lent s.heap g → Fr h₀ L g m → Fr g L' h₁ (fun y => binds.reverse.lookup y) → News g L' h₁ lent → Below A base (env :: outer) g → K.In g → Top p loose mean mg mb g →
      wpAny (model prog w) (A.deeper (envOf qual scope L' f cdv)) (execs body (envOf qual scope L' f cdv))
        (fun fl s' => LeaveK h₀ L m g R (match fl with | .ret v => v | _ => .none) s')
        (fun e s' => wpAny (model prog w) (A.deeper (envOf qual scope L' f cdv)) (leaving (envOf qual scope L' f cdv) e) (fun _ s'' => R (.error e) s'') (fun e' s'' => R (.error e') s'') s')
        { s with heap := h₁, toks := s.toks + binds.length })
    (hco : scope.isCoroutine = false) (hgen : scope.isGenerator = false) (hk : scope.kind = .function) (hcell : ∀ x ∈ scope.names, x.2 ≠ .cell) : codeAny (model prog w) A (.call (.ref f) args) R s := by
  obtain ⟨FG, BG, st, lv⟩ := groundX (R := R) B F N hA hf hke
  have X := X₀.keeps F.keep
  refine codeAny_call_def (fd := fnOf name qual params body scope dV kV doc pm an cdv ct) (body := body) (binds := binds) hroom (X _ _ ho) rfl (T.nolimit.keeps F.keep) (codeRec_of X hcd) rfl hbind hcell hloc (fun h₁ hns hk₁ => ?_) hco hgen hk
  refine wpAny_mono (h _ s.heap.objs.size h₁ (fun b o e nb => hideAll_get _ e nb) FG ⟨hns, fun b o e => hk₁ b o (of_hideAll _ e), Nat.le_of_eq (hideAll_size _ _)⟩ (fun q hq => ?_) BG (X₀.keeps st) (T.keeps st)) (fun fl s' hl => lv _ _ hl) fun _ _ y => y
  exact ⟨hk₁ _ _ (N q hq).1, Nat.ne_of_lt (Heap.lt_size (N q hq).1), hideAll_none _ (List.mem_map_of_mem hq)⟩
end
/-- what a def of the program's does at every call from a def that lends it the objects lent -/
abbrev Does (prog : Program) (w : World) (K : Frag) (p : Program) (loose : List Str) (mean : ExcName → Option Value) (mg mb : Str → Option Value) (room : Nat) (f : Addr) (lent : List (Addr × Obj)) (vs : List Value)
    (Ret : Heap → Addr → (Str → Option Value) → Shared → (Value → Shared → Prop) → (Value → Shared → Prop) → Prop) : Prop :=
  ∀ (dp un : Nat) (gd : Option (List Code)) (cn : Str) (cs : Scope) (a : Addr) (ccd : Value) (cl : List (Str × Addr)) (outer : List Env) (A₀ : Around) (base h₀ : Heap) (L : Addr) (m : Str → Option Value) (s : Shared) (Q E : Value → Shared → Prop),
    Below A₀ base outer h₀ → Fr h₀ L s.heap m → K.In h₀ → News h₀ L s.heap lent → Top p loose mean mg mb h₀ → cs.kind = .function → dp + room < recursionLimit → un + 10 * room < cLine → Ret h₀ L m s Q E →
      wpAny (model prog w) (ktrTop dp un gd cn cs L a ccd cl outer) (call (.ref f) vs) Q E s
/-- a value without objects of its own -/
abbrev Hands (r : Tok → Value) (lent : List (Addr × Obj)) : Heap → Addr → (Str → Option Value) → Shared → (Value → Shared → Prop) → (Value → Shared → Prop) → Prop := fun h₀ L m s Q _ =>
  ∀ (t : Tok) (h' : Heap) (tk' : Nat), Fr h₀ L h' m → News h₀ L h' lent → Stay lent s.heap h' → Q (r t) { s with heap := h', toks := tk' }
/-- a new object, told by P, at its address -/
abbrev Makes (P : Obj → Prop) (lent : List (Addr × Obj)) : Heap → Addr → (Str → Option Value) → Shared → (Value → Shared → Prop) → (Value → Shared → Prop) → Prop := fun h₀ L m s Q _ =>
  ∀ (r : Addr) (o : Obj) (h' : Heap) (tk' : Nat), P o → Fr h₀ L h' m → News h₀ L h' ((r, o) :: lent) → Stay lent s.heap h' → Q (.ref r) { s with heap := h', toks := tk' }
theorem stay_end {lent : List (Addr × Obj)} {h g h' : Heap} {L' : Addr} {m' : Str → Option Value} (S : Stay lent h g) (F : Fr g L' h' m') : Stay lent h h' := fun b o e nb => F.keep b o (S b o e nb)
section
variable {h₀ h' : Heap} {L : Addr} {m : Str → Option Value} {lent : List (Addr × Obj)} {s : Shared} {Q : Value → Shared → Prop} {t : Tok} {tk' : Nat}
theorem retI {x y : Int} (hret : ∀ (t : Tok) (h' : Heap) (tk' : Nat), Fr h₀ L h' m → News h₀ L h' lent → Stay lent s.heap h' → Q (.int x t) { s with heap := h', toks := tk' }) (e : y = x) (F : Fr h₀ L h' m) (N : News h₀ L h' lent) (S : Stay lent s.heap h') : Q (.int y t) { s with heap := h', toks := tk' } := by
  subst e
  exact hret t h' tk' F N S
theorem retB {x y : Bool} (hret : ∀ (t : Tok) (h' : Heap) (tk' : Nat), Fr h₀ L h' m → News h₀ L h' lent → Stay lent s.heap h' → Q (.bool x) { s with heap := h', toks := tk' }) (e : y = x) (F : Fr h₀ L h' m) (N : News h₀ L h' lent) (S : Stay lent s.heap h') : Q (.bool y) { s with heap := h', toks := tk' } := by
  subst e
  exact hret 0 h' tk' F N S
theorem retN (hret : ∀ (t : Tok) (h' : Heap) (tk' : Nat), Fr h₀ L h' m → News h₀ L h' lent → Stay lent s.heap h' → Q .none { s with heap := h', toks := tk' }) (F : Fr h₀ L h' m) (N : News h₀ L h' lent) (S : Stay lent s.heap h') : Q .none { s with heap := h', toks := tk' } :=
  hret 0 h' tk' F N S
end
/-- an end of a stretch: a number or none -/
inductive IsEnd : Value → Option Int → Prop where
  | none : IsEnd .none none
  | int {a : Int} {t : Tok} : IsEnd (.int a t) (some a)
def Crossed : Option Int → Option Int → Prop
  | some a, some b => b < a
  | _, _ => False
/-- whether a number lies between two ends -/
def hasB (lo hi : Option Int) (n : Int) : Bool := (match lo with | none => true | some a => decide (a ≤ n)) && (match hi with | none => true | some b => decide (n ≤ b))
abbrev tupO (its : Array Value) (k : Nat) : Obj := { cls := .type "tuple", data := .seq its k }
end My
end
section
set_option maxRecDepth 100000
namespace My
open PySem PySem.W PySem.Calls PyProof.Rows PySem.Spec
section
variable {prog : Program} {w : World} {A : Around} {E : Value → Shared → Prop} {s : Shared} {env : Env} {h₀ : Heap} {x : Str} {body : List Stmt} {Q : Flow → Shared → Prop}
/-- a for over a list of ints of the ledger that keeps nothing from turn to turn -/
theorem ints_loop {l : Addr} {vs : List Value} {ns : List Int} {nn : Nat} {m₀ : Str → Option Value} {news : List (Addr × Obj)} (stored : List Str) (hh : A.handled = none) (hl : (l, listOf vs.toArray nn) ∈ news) (hi : IntsAre vs ns)
    (F : Fr h₀ env.locals s.heap m₀) (N : News h₀ env.locals s.heap news)
    (turn : ∀ (k : Int) (t : Tok) (u : Str → Option Value) (h : Heap) (tk : Nat) (own : List (Addr × Obj)), OwnOff own (news.map (·.1)) →
      Fr h₀ env.locals h (fun y => if y = x then some (.int k t) else kstB (fun z => if stored.contains z then u z else m₀ z) [] y) → News h₀ env.locals h (news ++ own) →
      wpAny (model prog w) A (execs body env) (InvPostN h₀ env.locals (KstS (σ := Unit) (fun _ => news) (fun _ => []) (fun _ => True) x stored m₀ (fun _ _ => True) []) own (news.map (·.1)) { s with heap := h, toks := tk } Q) E { s with heap := h, toks := tk })
    (done : ∀ (u : Str → Option Value) (h : Heap) (tk : Nat), Fr h₀ env.locals h (fun y => if y = x then u y else kstB (fun z => if stored.contains z then u z else m₀ z) [] y) → News h₀ env.locals h news →
      Q .next { s with heap := h, toks := tk }) :
    wpAny (model prog w) A (pyIter (.ref l)) (fun it s₂ => LoopAtV prog w A h₀ env x body Q E it s₂) E s :=
  kst_listL (σ := Unit) (fun _ => news) (fun _ => []) (fun _ => True) stored (fun _ _ => True) () hh (fun _ => hl) hi F N True.intro (List.forall_mem_nil _) True.intro
    (fun _ _ _ n t u h tk own _ _ off _ _ F₁ N₁ => turn n t u h tk own off F₁ N₁) (fun _ u h tk _ _ F₁ N₁ => done u h tk F₁ N₁)
end
end My
end
section
set_option maxRecDepth 100000
namespace My
open PySem PySem.W PySem.Calls PyProof.Rows PySem.Spec
theorem room1 {dp r R : Nat} (h : dp + R < recursionLimit) (e : r + 1 ≤ R) : dp + 1 + r < recursionLimit := by omega
theorem units1 {un r R : Nat} (h : un + 10 * R < cLine) (e : r + 1 ≤ R) : un + 3 + 10 * r < cLine := by omega
theorem sub_one {q : Addr × Obj} {news : List (Addr × Obj)} (h : q ∈ news) : ∀ p ∈ [q], p ∈ news := fun _ hp => (List.mem_singleton.mp hp) ▸ h
theorem sub_two {q r : Addr × Obj} {news : List (Addr × Obj)} (h : q ∈ news) (h2 : r ∈ news) : ∀ p ∈ [q, r], p ∈ news := fun p hp => by
  rcases List.mem_cons.mp hp with e | e
  · exact e ▸ h
  · exact (List.mem_singleton.mp e) ▸ h2
section
variable {prog : Program} {w : World} {K : Frag} {p : Program} {loose : List Str} {mean : ExcName → Option Value} {mg mb : Str → Option Value} {room : Nat} {f : Addr} {vs : List Value} {news lent : List (Addr × Obj)}
  {dp un : Nat} {gd : Option (List Code)} {cn : Str} {cs : Scope} {a : Addr} {ccd : Value} {cl : List (Str × Addr)} {outer : List Env} {A₀ : Around} {base h₀ : Heap} {L : Addr} {m : Str → Option Value} {s : Shared} {Q E : Value → Shared → Prop}
/-- a call by what the def does: the whole ledger stays -/
theorem use_hands {r : Tok → Value} (D : Does prog w K p loose mean mg mb room f lent vs (Hands r lent)) (B : Below A₀ base outer h₀) (F : Fr h₀ L s.heap m) (X : K.In h₀) (N : News h₀ L s.heap news) (T : Top p loose mean mg mb h₀) (hk : cs.kind = .function)
    (hd : dp + room < recursionLimit) (hu : un + 10 * room < cLine) (sub : ∀ q ∈ lent, q ∈ news) (h : ∀ (t : Tok) (h' : Heap) (tk' : Nat), Fr h₀ L h' m → News h₀ L h' news → Q (r t) { s with heap := h', toks := tk' }) :
    wpAny (model prog w) (ktrTop dp un gd cn cs L a ccd cl outer) (call (.ref f) vs) Q E s :=
  D _ _ _ _ _ _ _ _ _ _ _ _ _ _ _ _ _ B F X (fun q hq => N q (sub q hq)) T hk hd hu fun t h' tk' F' N' S => h t h' tk' F' (stay_news S N N' fun q hq => (N q (sub q hq)).1)
end
section
variable {prog : Program} {w : World} {A : Around} {E : Value → Shared → Prop} {s : Shared} {x y : Int} {t u : Tok} {Q : Value → Shared → Prop}
/-- a draw's test: both ways at once -/
theorem eq_split (h1 : x = y → Q (.bool true) s) (h2 : ¬ x = y → Q (.bool false) s) : wpAny (model prog w) A (compareOp .Eq (.int x t) (.int y u)) Q E s := by
  refine PyProof.Rows.eq_int ?_
  by_cases e : x = y
  · have d : (x == y) = true := beq_iff_eq.mpr e
    rw [d]
    exact h1 e
  · have d : (x == y) = false := beq_eq_false_iff_ne.mpr e
    rw [d]
    exact h2 e
end
end My
end
section
set_option maxRecDepth 100000
namespace My
open PySem PySem.W PySem.Calls PyProof.Rows PySem.Spec
/-- a new object, told by P; its address is new -/
abbrev Lays (P : Obj → Prop) (lent : List (Addr × Obj)) : Heap → Addr → (Str → Option Value) → Shared → (Value → Shared → Prop) → (Value → Shared → Prop) → Prop := fun h₀ L m s Q _ =>
  ∀ (r : Addr) (o : Obj) (h' : Heap) (tk' : Nat), P o → Fr h₀ L h' m → News h₀ L h' ((r, o) :: lent) → Stay lent s.heap h' → s.heap.get? r = none → Q (.ref r) { s with heap := h', toks := tk' }
theorem lays_ret {h₀ h' g : Heap} {L L' : Addr} {m m' : Str → Option Value} {lent led : List (Addr × Obj)} {s : Shared} {Q : Value → Shared → Prop} {P : Obj → Prop} {r : Addr} {o : Obj} {tk' : Nat}
    (hret : ∀ (r : Addr) (o : Obj) (h' : Heap) (tk' : Nat), P o → Fr h₀ L h' m → News h₀ L h' ((r, o) :: lent) → Stay lent s.heap h' → s.heap.get? r = none → Q (.ref r) { s with heap := h', toks := tk' })
    (p : P o) (F : Fr h₀ L h' m) (S : Stay lent s.heap g) (F' : Fr g L' h' m') (N' : News g L' h' led) (sub : ∀ q ∈ (r, o) :: lent, q ∈ led) (ne : ∀ q ∈ lent, q.1 ≠ r) (F₀ : Fr h₀ L s.heap m) (N₀ : News h₀ L s.heap lent) : Q (.ref r) { s with heap := h', toks := tk' } := by
  have hr : s.heap.get? r = none := by
    cases e : s.heap.get? r with
    | none => rfl
    | some x =>
      have nb : r ∉ lent.map (·.1) := fun q => by
        obtain ⟨y, hy, e2⟩ := List.mem_map.mp q
        exact ne y hy e2
      have := S r x e nb
      rw [(N' _ (sub _ List.mem_cons_self)).2.2] at this
      cases this
  refine hret r o h' tk' p F (fun q hq => ?_) (stay_end S F') hr
  have a := (N' q (sub q hq)).1
  rcases List.mem_cons.mp hq with e | hl
  · subst e
    refine ⟨a, fun e => ?_, ?_⟩
    · obtain ⟨oL, _, _, hg, _⟩ := F₀.ns
      have e' : r = L := e
      rw [e', hg] at hr
      cases hr
    · cases e : h₀.get? r with
      | none => rfl
      | some x =>
        rw [F₀.keep r x e] at hr
        cases hr
  · exact ⟨a, (N₀ q hl).2.1, (N₀ q hl).2.2⟩
section
variable {prog : Program} {w : World} {K : Frag} {p : Program} {loose : List Str} {mean : ExcName → Option Value} {mg mb : Str → Option Value} {room : Nat} {f : Addr} {vs : List Value} {news lent : List (Addr × Obj)}
  {dp un : Nat} {gd : Option (List Code)} {cn : Str} {cs : Scope} {a : Addr} {ccd : Value} {cl : List (Str × Addr)} {outer : List Env} {A₀ : Around} {base h₀ : Heap} {L : Addr} {m : Str → Option Value} {s : Shared} {Q E : Value → Shared → Prop}
/-- a call that lays a new object -/
theorem use_lays {P : Obj → Prop} (D : Does prog w K p loose mean mg mb room f lent vs (Lays P lent)) (B : Below A₀ base outer h₀) (F : Fr h₀ L s.heap m) (X : K.In h₀) (N : News h₀ L s.heap news) (T : Top p loose mean mg mb h₀) (hk : cs.kind = .function)
    (hd : dp + room < recursionLimit) (hu : un + 10 * room < cLine) (sub : ∀ q ∈ lent, q ∈ news)
    (h : ∀ (r : Addr) (o : Obj) (h' : Heap) (tk' : Nat), P o → Fr h₀ L h' m → News h₀ L h' ((r, o) :: news) → (∀ q ∈ news, q.1 ≠ r) → Q (.ref r) { s with heap := h', toks := tk' }) :
    wpAny (model prog w) (ktrTop dp un gd cn cs L a ccd cl outer) (call (.ref f) vs) Q E s :=
  D _ _ _ _ _ _ _ _ _ _ _ _ _ _ _ _ _ B F X (fun q hq => N q (sub q hq)) T hk hd hu fun r o h' tk' hp F' N' S hr => by
    have NN := stay_news S N (fun q hq => N' q (List.mem_cons_of_mem _ hq)) fun q hq => (N q (sub q hq)).1
    refine h r o h' tk' hp F' (fun q hq => ?_) fun q hq e => ?_
    · rcases List.mem_cons.mp hq with e | hl
      · exact e ▸ N' _ List.mem_cons_self
      · exact NN q hl
    · have := (N q hq).1
      rw [e, hr] at this
      cases this
end
/-- a tuple of two ends -/
def IsPair (lo hi : Option Int) (o : Obj) : Prop := ∃ v1 v2 k, o = tupO #[v1, v2] k ∧ IsEnd v1 lo ∧ IsEnd v2 hi
theorem cell_fdiv {v k : Int} (hk : 0 < k) (h : Cell v) : Cell (Int.fdiv v k) := by
  refine ⟨?_⟩
  have hb := h.bits
  unfold Builtin.Int.intBits at hb ⊢
  rw [Int.fdiv_eq_ediv_of_nonneg v (Int.le_of_lt hk)]
  by_cases z : v / k = 0
  · simp [z]
  · have hv : v ≠ 0 := by
      intro e
      rw [e, Int.zero_ediv] at z
      exact z rfl
    rw [if_neg (by simpa using hv)] at hb
    rw [if_neg (by simpa using z)]
    have hn : (v / k).natAbs ≤ v.natAbs := by
      have h1 : (v / k).natAbs ≤ v.natAbs := by
        rcases Int.le_total 0 v with hv0 | hv0
        · have a := Int.ediv_nonneg hv0 (Int.le_of_lt hk)
          have b := Int.ediv_le_self k hv0
          omega
        · have a : v / k ≤ 0 := Int.ediv_nonpos_of_nonpos_of_neg hv0 hk
          have b : v ≤ v / k := by
            have c : v * k ≤ v := by
              have d := Int.mul_le_mul_of_nonpos_left hv0 (show (1 : Int) ≤ k by omega)
              omega
            exact (Int.le_ediv_iff_mul_le hk).mpr c
          omega
      exact h1
    have h1 : v.natAbs.log2 < 2 ^ 20 := by omega
    have h2 : v.natAbs < 2 ^ (2 ^ 20) := (Nat.log2_lt (by omega)).mp h1
    have h3 : (v / k).natAbs.log2 < 2 ^ 20 := (Nat.log2_lt (by omega)).mpr (Nat.lt_of_le_of_lt hn h2)
    omega
end My
namespace My
open PySem PySem.W PyProof.Rows
theorem sub_nil {led : List (Addr × Obj)} : ∀ q ∈ ([] : List (Addr × Obj)), q ∈ led := fun _ h => nomatch h
theorem sub_cons {a : Addr × Obj} {l led : List (Addr × Obj)} (h : a ∈ led) (hs : ∀ q ∈ l, q ∈ led) : ∀ q ∈ a :: l, q ∈ led := List.forall_mem_cons.mpr ⟨h, hs⟩
theorem ne_nil {r : Addr} : ∀ q ∈ ([] : List (Addr × Obj)), q.1 ≠ r := fun _ h => nomatch h
theorem ne_cons {b r : Addr} {o : Obj} {l : List (Addr × Obj)} (h : b ≠ r) (hs : ∀ q ∈ l, q.1 ≠ r) : ∀ q ∈ (b, o) :: l, q.1 ≠ r := List.forall_mem_cons.mpr ⟨h, hs⟩
theorem IsEnd.int' {a b : Int} {t : Nat} (h : a = b) : IsEnd (.int a t) (some b) := h ▸ IsEnd.int
def joinLo : Option Int → Option Int → Option Int
  | some a, some b => some (if b < a then b else a)
  | _, _ => none
def joinHi : Option Int → Option Int → Option Int
  | some a, some b => some (if b > a then b else a)
  | _, _ => none
end My
end
section
set_option maxRecDepth 100000
namespace My
open PySem PySem.W PySem.Calls PyProof.Rows PySem.Spec
/-- a statement behind which one name holds some int, and all else is as it was -/
def Cut (h₀ : Heap) (L : Addr) (m₀ : Str → Option Value) (x : Str) (news : List (Addr × Obj)) (s : Shared) (fl : Flow) (s' : Shared) : Prop :=
  fl = .next ∧ ∃ (k : Int) (t : Tok) (h : Heap) (tk : Nat), s' = { s with heap := h, toks := tk } ∧ Fr h₀ L h (fun y => if y = x then some (.int k t) else m₀ y) ∧ News h₀ L h news
structure CutMark : Prop where
theorem cut_exec {M : Model} {A : Around} {E : Value → Shared → Prop} {s : Shared} {env : Env} {h₀ : Heap} {L : Addr} {m₀ : Str → Option Value} {news : List (Addr × Obj)} {stmt : Stmt} {Q : Flow → Shared → Prop} (x : Str)
    (_F : Fr h₀ L s.heap m₀) (_N : News h₀ L s.heap news) (h : wpAny M A (exec stmt env) (fun fl s' => Cut h₀ L m₀ x news s fl s') E s)
    (k : ∀ (k : Int) (t : Tok) (h : Heap) (tk : Nat), Fr h₀ L h (fun y => if y = x then some (.int k t) else m₀ y) → News h₀ L h news → Q .next { s with heap := h, toks := tk }) : wpAny M A (exec stmt env) Q E s := by
  refine wpAny_mono h (fun fl s' c => ?_) fun _ _ e => e
  obtain ⟨rfl, i, t, h', tk, rfl, F', N'⟩ := c
  exact k i t h' tk F' N'
theorem fr_same {h₀ h : Heap} {L : Addr} {m₀ : Str → Option Value} {x : Str} {v : Value} (F : Fr h₀ L h m₀) (e : m₀ x = some v) : Fr h₀ L h (fun y => if y = x then some v else m₀ y) := by
  have em : (fun y => if y = x then some v else m₀ y) = m₀ := by
    funext y
    by_cases hy : y = x
    · rw [if_pos hy, hy, e]
    · rw [if_neg hy]
  rw [em]
  exact F
theorem cut_set {h₀ h : Heap} {L : Addr} {m₀ : Str → Option Value} {x : Str} {news : List (Addr × Obj)} {s : Shared} {k : Int} {t : Tok} {tk : Nat} (F : Fr h₀ L h (fun y => if y = x then some (.int k t) else m₀ y)) (N : News h₀ L h news) : Cut h₀ L m₀ x news s .next { s with heap := h, toks := tk } :=
  ⟨rfl, k, t, h, tk, rfl, F, N⟩
theorem cut_keep {h₀ h : Heap} {L : Addr} {m₀ : Str → Option Value} {x : Str} {news : List (Addr × Obj)} {s : Shared} {k : Int} {t : Tok} {tk : Nat} (F : Fr h₀ L h m₀) (N : News h₀ L h news) (e : m₀ x = some (.int k t)) : Cut h₀ L m₀ x news s .next { s with heap := h, toks := tk } :=
  cut_set (fr_same F e) N
end My
end
section
set_option maxRecDepth 100000
namespace My
/-- the greatest number of a rest that is not above top -/
@[irreducible] def underR (m r top : Int) : Int := top - Int.fmod (top - r) m
theorem underR_fact {m r top : Int} (hm : 0 < m) : underR m r top ≤ top ∧ top < underR m r top + m := by
  unfold underR
  have a := Int.fmod_nonneg_of_pos (top - r) hm
  have b := Int.fmod_lt_of_pos (top - r) hm
  omega
theorem underR_mod {m r top : Int} (hm : 0 < m) : Int.fmod (underR m r top - r) m = 0 := by
  unfold underR
  rw [Int.fmod_eq_emod_of_nonneg _ (Int.le_of_lt hm), Int.fmod_eq_emod_of_nonneg _ (Int.le_of_lt hm)]
  have e : top - (top - r) % m - r = (top - r) - (top - r) % m := by omega
  rw [e]
  have d := Int.emod_add_mul_ediv (top - r) m
  have e2 : (top - r) - (top - r) % m = m * ((top - r) / m) := by omega
  rw [e2]
  exact Int.mul_emod_right m _
/-- whether a number lies in a rest -/
def hasR (m r n : Int) : Bool := if m = 0 then n == r else Int.fmod (n - r) m == 0
theorem hasR_zero (r n : Int) : (n == r) = hasR 0 r n := by unfold hasR; rw [if_pos rfl]
theorem hasR_in {m r n : Int} (hm : ¬ m = 0) : (Int.fmod (n - r) m == 0) = hasR m r n := by unfold hasR; rw [if_neg hm]
theorem hasR_pos {m r n : Int} (hm : 0 < m) : (Int.fmod n m == Int.fmod r m) = hasR m r n := by
  rw [← hasR_in (by omega)]
  rw [Int.fmod_eq_emod_of_nonneg _ (Int.le_of_lt hm), Int.fmod_eq_emod_of_nonneg _ (Int.le_of_lt hm), Int.fmod_eq_emod_of_nonneg _ (Int.le_of_lt hm)]
  rw [Bool.eq_iff_iff, beq_iff_eq, beq_iff_eq]
  constructor
  · intro h
    exact Int.emod_eq_zero_of_dvd (Int.dvd_of_emod_eq_zero (Int.emod_eq_emod_iff_emod_sub_eq_zero.mp h))
  · intro h
    exact Int.emod_eq_emod_iff_emod_sub_eq_zero.mpr h
open PySem PySem.W PySem.Calls PyProof.Rows PySem.Spec
/-- a statement behind which one name holds some int that P tells, and all else is as it was -/
def CutP (h₀ : Heap) (L : Addr) (m₀ : Str → Option Value) (x : Str) (P : Int → Prop) (news : List (Addr × Obj)) (s : Shared) (fl : Flow) (s' : Shared) : Prop :=
  fl = .next ∧ ∃ (k : Int) (t : Tok) (h : Heap) (tk : Nat), s' = { s with heap := h, toks := tk } ∧ P k ∧ Fr h₀ L h (fun y => if y = x then some (.int k t) else m₀ y) ∧ News h₀ L h news
theorem cutp_exec {M : Model} {A : Around} {E : Value → Shared → Prop} {s : Shared} {env : Env} {h₀ : Heap} {L : Addr} {m₀ : Str → Option Value} {news : List (Addr × Obj)} {stmt : Stmt} {Q : Flow → Shared → Prop} (x : Str) (P : Int → Prop)
    (_F : Fr h₀ L s.heap m₀) (_N : News h₀ L s.heap news) (h : wpAny M A (exec stmt env) (fun fl s' => CutP h₀ L m₀ x P news s fl s') E s)
    (k : ∀ (k : Int) (t : Tok) (h : Heap) (tk : Nat), P k → Fr h₀ L h (fun y => if y = x then some (.int k t) else m₀ y) → News h₀ L h news → Q .next { s with heap := h, toks := tk }) : wpAny M A (exec stmt env) Q E s := by
  refine wpAny_mono h (fun fl s' c => ?_) fun _ _ e => e
  obtain ⟨rfl, i, t, h', tk, rfl, p, F', N'⟩ := c
  exact k i t h' tk p F' N'
theorem cutp_set {h₀ h : Heap} {L : Addr} {m₀ : Str → Option Value} {x : Str} {P : Int → Prop} {news : List (Addr × Obj)} {s : Shared} {k : Int} {t : Tok} {tk : Nat} (F : Fr h₀ L h (fun y => if y = x then some (.int k t) else m₀ y)) (N : News h₀ L h news) (p : P k) : CutP h₀ L m₀ x P news s .next { s with heap := h, toks := tk } :=
  ⟨rfl, k, t, h, tk, rfl, p, F, N⟩
theorem cutp_keep {h₀ h : Heap} {L : Addr} {m₀ : Str → Option Value} {x : Str} {P : Int → Prop} {news : List (Addr × Obj)} {s : Shared} {k : Int} {t : Tok} {tk : Nat} (F : Fr h₀ L h m₀) (N : News h₀ L h news) (e : m₀ x = some (.int k t)) (p : P k) : CutP h₀ L m₀ x P news s .next { s with heap := h, toks := tk } :=
  cutp_set (fr_same F e) N p
structure NN (k : Int) : Prop where
  le : 0 ≤ k
theorem NN.fmod {v : Int} : NN (Int.fmod v 4) := ⟨Int.fmod_nonneg_of_pos _ (by decide)⟩
structure Bits (k : Int) : Prop where
  le : Builtin.Int.intBits k ≤ 256
theorem Bits.numb {v : Int} : Bits (numb v) := ⟨numb_bits v⟩
theorem Bits.fmod {v : Int} : Bits (Int.fmod v 12 - 2) := by
  refine ⟨Nat.le_trans (PySem.intBits_le_64 ?_ ?_) (by decide)⟩
  · have := Int.fmod_nonneg_of_pos v (show (0 : Int) < 12 by decide)
    omega
  · have := Int.fmod_lt_of_pos v (show (0 : Int) < 12 by decide)
    omega
section
variable {prog : Program} {w : World} {A : Around} {E : Value → Shared → Prop} {s : Shared} {x y m r top : Int} {t u : Tok} {Q : Value → Shared → Prop}
theorem with_cell_div {ns : List Int} {i k : Int} {f : Value} (hL : PyData.layable0 (.list (ns.map .int)) = true) (hk : 0 < k) (h : Cell (Int.fdiv (cellAt ns i 0) k) → wpAny (model prog w) A (call f [.int (Int.fdiv (cellAt ns i 0) k) t]) Q E s) :
    wpAny (model prog w) A (call f [.int (Int.fdiv (cellAt ns i 0) k) t]) Q E s := h (cell_fdiv hk (cell_at hL i))
/-- a draw's test: both ways at once -/
theorem eq_split_mod {z c : Int} (h1 : Int.fmod z c = y → Q (.bool true) s) (h2 : ¬ Int.fmod z c = y → Q (.bool false) s) : wpAny (model prog w) A (compareOp .Eq (.int (Int.fmod z c) t) (.int y u)) Q E s := eq_split h1 h2
theorem lt_split_mod {z c : Int} (h1 : Int.fmod z c < y → Q (.bool true) s) (h2 : ¬ Int.fmod z c < y → Q (.bool false) s) : wpAny (model prog w) A (compareOp .Lt (.int (Int.fmod z c) t) (.int y u)) Q E s := by
  refine PyProof.Rows.lt_int ?_
  by_cases e : Int.fmod z c < y
  · have d : decide (Int.fmod z c < y) = true := decide_eq_true e
    rw [d]
    exact h1 e
  · have d : decide (Int.fmod z c < y) = false := decide_eq_false e
    rw [d]
    exact h2 e
theorem step_under (hm : 0 < m) (h : underR m r top ≤ top → top < underR m r top + m → Q (.int (underR m r top) s.toks) { s with toks := s.toks + 1 }) :
    wpAny (model prog w) A (binaryOp .Sub (.int top t) (.int (Int.fmod (top - r) m) u)) Q E s := by
  have f := underR_fact (r := r) (top := top) hm
  refine PyProof.Rows.sub_int ?_
  have e : top - Int.fmod (top - r) m = underR m r top := by unfold underR; rfl
  rw [e]
  exact h f.1 f.2
theorem step_under_mod (hm : 0 < m) (h : Q (.int 0 s.toks) { s with toks := s.toks + 1 }) :
    wpAny (model prog w) A (binaryOp .Mod (.int (underR m r top - r) t) (.int m u)) Q E s :=
  PyProof.Rows.mod_int (by omega) (by rw [underR_mod hm]; exact h)
theorem step_mul_bits {v : Int} (hm : Bits m) (h : Q (.int (numb v * m) s.toks) { s with toks := s.toks + 1 }) : wpAny (model prog w) A (binaryOp .Mult (.int (numb v) t) (.int m u)) Q E s :=
  PyProof.Rows.mul_int h (IntMulOk.of_bits (Nat.le_trans (numb_bits v) (by decide)) (Nat.le_trans hm.le (by decide)))
end
end My
end
section
set_option maxRecDepth 100000
namespace My
open PySem PySem.W PySem.Calls PyProof.Rows PySem.Spec
theorem hasR_of_dvd {m r n : Int} (h : m ∣ n - r) : hasR m r n = true := by
  unfold hasR
  by_cases z : m = 0
  · rw [if_pos z, beq_iff_eq]
    rw [z] at h
    have := Int.zero_dvd.mp h
    omega
  · rw [if_neg z, beq_iff_eq]
    exact Int.fmod_eq_zero_of_dvd h
theorem dvd_of_hasR {m r n : Int} (h : hasR m r n = true) : m ∣ n - r := by
  unfold hasR at h
  by_cases z : m = 0
  · rw [if_pos z, beq_iff_eq] at h
    rw [h, Int.sub_self]
    exact Int.dvd_zero m
  · rw [if_neg z, beq_iff_eq] at h
    exact Int.dvd_of_fmod_eq_zero h
def Gc (a b : Int) : Int := (Int.gcd a b : Nat)
theorem Gc_left (a b : Int) : Gc a b ∣ a := Int.gcd_dvd_left a b
theorem Gc_right (a b : Int) : Gc a b ∣ b := Int.gcd_dvd_right a b
theorem Gc_nonneg (a b : Int) : 0 ≤ Gc a b := Int.natCast_nonneg _
theorem Gc_pos {a b : Int} (h : 0 < b) : 0 < Gc a b := by
  have h0 := Gc_nonneg a b
  have h1 : Gc a b ≠ 0 := by
    unfold Gc
    intro e
    have e' : Int.gcd a b = 0 := by omega
    have := (Int.gcd_eq_zero_iff.mp e').2
    omega
  omega
theorem has_plus (m n r s j : Int) : hasR (Gc m n) (r + s) (r + j * m + s - j * n) = true := by
  apply hasR_of_dvd
  have e : r + j * m + s - j * n - (r + s) = j * m - j * n := by omega
  rw [e]
  exact Int.dvd_sub (Int.dvd_mul_of_dvd_right (Gc_left m n)) (Int.dvd_mul_of_dvd_right (Gc_right m n))
theorem has_times (m k r j q : Int) (hq : q = k ∨ q = -k) : hasR (m * q) (r * k) ((r + j * m) * k) = true := by
  apply hasR_of_dvd
  have e : (r + j * m) * k - r * k = j * (m * k) := by
    rw [Int.add_mul, Int.mul_assoc]
    omega
  rw [e]
  refine Int.dvd_mul_of_dvd_right ?_
  rcases hq with h | h
  · rw [h]
    exact Int.dvd_refl _
  · rw [h, Int.mul_neg, Int.neg_dvd]
    exact Int.dvd_refl _
theorem has_parted {m d r j : Int} (hd : 0 < d) (h : Int.fmod m d = 0) : hasR (Int.fdiv m d) (Int.fdiv r d) (Int.fdiv (r + j * m) d) = true := by
  apply hasR_of_dvd
  rw [Int.fdiv_eq_ediv_of_nonneg _ (Int.le_of_lt hd), Int.fdiv_eq_ediv_of_nonneg _ (Int.le_of_lt hd), Int.fdiv_eq_ediv_of_nonneg _ (Int.le_of_lt hd)]
  obtain ⟨c, rfl⟩ := Int.dvd_of_fmod_eq_zero h
  have e1 : d * c / d = c := Int.mul_ediv_cancel_left c (by omega)
  have e2 : (r + j * (d * c)) / d = r / d + j * c := by
    have e3 : j * (d * c) = d * (j * c) := by rw [Int.mul_left_comm]
    rw [e3]
    exact Int.add_mul_ediv_left r (j * c) (by omega)
  rw [e1, e2]
  have e4 : r / d + j * c - r / d = j * c := by omega
  rw [e4]
  exact Int.dvd_mul_left j c
theorem has_one (n : Int) : hasR 1 0 n = true := hasR_of_dvd (Int.one_dvd _)
theorem has_rested_d {m d r j : Int} (hd : 0 < d) (h : Gc m d = d) : hasR 0 (Int.fmod r d) (Int.fmod (r + j * m) d) = true := by
  apply hasR_of_dvd
  rw [Int.fmod_eq_emod_of_nonneg _ (Int.le_of_lt hd), Int.fmod_eq_emod_of_nonneg _ (Int.le_of_lt hd)]
  have hdm : d ∣ m := by
    have := Gc_left m d
    rw [h] at this
    exact this
  obtain ⟨c, rfl⟩ := hdm
  have e3 : j * (d * c) = d * (j * c) := by rw [Int.mul_left_comm]
  rw [e3, Int.add_mul_emod_self_left, Int.sub_self]
  exact Int.dvd_zero _
theorem has_rested {m d r j : Int} (hd : 0 < d) : hasR (Gc m d) r (Int.fmod (r + j * m) d) = true := by
  apply hasR_of_dvd
  rw [Int.fmod_eq_emod_of_nonneg _ (Int.le_of_lt hd), Int.emod_def]
  have e : r + j * m - d * ((r + j * m) / d) - r = j * m - d * ((r + j * m) / d) := by omega
  rw [e]
  exact Int.dvd_sub (Int.dvd_mul_of_dvd_right (Gc_left m d)) (Int.dvd_mul_of_dvd_left (Gc_right m d))
theorem has_loosened (m d r j k : Int) : hasR (Gc m d) r (r + j * m + j * k * d) = true := by
  apply hasR_of_dvd
  have e : r + j * m + j * k * d - r = j * m + j * k * d := by omega
  rw [e]
  exact Int.dvd_add (Int.dvd_mul_of_dvd_right (Gc_left m d)) (Int.dvd_mul_of_dvd_right (Gc_right m d))

theorem Gc_zz : Gc 0 0 = 0 := by unfold Gc; simp
theorem Gc_fact (a b : Int) : 0 ≤ Gc a b := Gc_nonneg a b
theorem Gc_zero {a b : Int} (h0 : 0 ≤ a) (h : b = 0) : Gc a b = a := by
  subst h
  unfold Gc
  rw [Int.gcd_zero_right]
  omega
theorem Gc_turn {a b : Int} (hb : 0 < b) : Gc b (Int.fmod a b) = Gc a b := by
  unfold Gc
  rw [Int.fmod_eq_emod_of_nonneg a (Int.le_of_lt hb)]
  have e : Int.gcd b (a % b) = Int.gcd b a := by
    rw [Int.emod_def, Int.sub_eq_add_neg, ← Int.mul_neg]
    exact Int.gcd_add_mul_left_right _ _ _
  rw [e, Int.gcd_comm]
theorem Gc_abs (a b : Int) : Gc (if a < 0 then -a else a) (if b < 0 then -b else b) = Gc a b := by
  unfold Gc
  split <;> split <;> simp [Int.gcd_neg, Int.neg_gcd]
theorem gc_start (a b : Int) : (0 ≤ if a < 0 then -a else a) ∧ (0 ≤ if b < 0 then -b else b) ∧ Gc (if a < 0 then -a else a) (if b < 0 then -b else b) = Gc a b := by
  refine ⟨?_, ?_, Gc_abs a b⟩ <;> split <;> omega
theorem gc_turn {a b l r : Int} (h : Gc l r = Gc a b) (l0 : 0 ≤ l) (r0 : 0 ≤ r) (hr : ¬ r = 0) : 0 ≤ r ∧ 0 ≤ Int.fmod l r ∧ Gc r (Int.fmod l r) = Gc a b :=
  ⟨r0, Int.fmod_nonneg_of_pos l (by omega), by rw [Gc_turn (by omega)]; exact h⟩
theorem gc_less {l r : Int} (r0 : 0 ≤ r) (hr : ¬ r = 0) : (Int.fmod l r).toNat < r.toNat := by
  have := Int.fmod_lt_of_pos l (show 0 < r by omega)
  have := Int.fmod_nonneg_of_pos l (show 0 < r by omega)
  omega
theorem gc_out {a b l r : Int} (h : Gc l r = Gc a b) (l0 : 0 ≤ l) (r0 : 0 ≤ r) (hr : r ≤ 0) : l = Gc a b := by
  rw [← h, Gc_zero l0 (by omega)]
/-- r brought to 0 to m - 1 -/
def bring (m r : Int) : Int := if m = 0 then r else Int.fmod r m
theorem bring_zero (r : Int) : r = bring 0 r := by unfold bring; rw [if_pos rfl]
theorem bring_pos {m r : Int} (h : ¬ m = 0) : Int.fmod r m = bring m r := by unfold bring; rw [if_neg h]
/-- a tuple of two numbers -/
def IsR (M R : Int) (o : Obj) : Prop := ∃ (m r : Int) (t1 t2 : Tok) (k : Nat), o = tupO #[.int m t1, .int r t2] k ∧ m = M ∧ r = R
theorem IsR.use {M R : Int} {o : Obj} (h : IsR M R o) : ∃ (t1 t2 : Tok) (k : Nat), o = tupO #[.int M t1, .int R t2] k := by
  obtain ⟨m, r, t1, t2, k, e, rfl, rfl⟩ := h
  exact ⟨t1, t2, k, e⟩
theorem IsR.mk' {M R m r : Int} {t1 t2 : Tok} {k : Nat} (h1 : m = M) (h2 : r = R) : IsR M R (tupO #[.int m t1, .int r t2] k) := ⟨m, r, t1, t2, k, rfl, h1, h2⟩
theorem ne_of {news : List (Addr × Obj)} {r b : Addr} {o : Obj} (h : ∀ q ∈ news, q.1 ≠ r) (hm : (b, o) ∈ news) : b ≠ r := h _ hm
theorem hasR_bring {m r n : Int} (hm : 0 ≤ m) : hasR m (bring m r) n = hasR m r n := by
  unfold bring hasR
  by_cases z : m = 0
  · rw [if_pos z, if_pos z, if_pos z]
  · rw [if_neg z, if_neg z, if_neg z]
    have h := hasR_pos (m := m) (r := Int.fmod r m) (n := n) (by omega)
    have h2 := hasR_pos (m := m) (r := r) (n := n) (by omega)
    rw [← hasR_in z] at h h2
    rw [← h, ← h2]
    have e : Int.fmod (Int.fmod r m) m = Int.fmod r m := Int.fmod_fmod r m
    rw [e]
theorem hasR_t {M R n : Int} (hm : 0 < M) : (Int.fmod n M == bring M R) = hasR M R n := by
  rw [← bring_pos (by omega)]
  exact hasR_pos hm
theorem hasR_z {R n : Int} : (n == bring 0 R) = hasR 0 R n := by
  rw [← bring_zero]
  exact hasR_zero R n
end My
end
section
set_option maxRecDepth 100000
namespace My
open PySem PySem.W PySem.Calls PyProof.Rows PySem.Spec
/-- whether a tuple (M, R) has a number -/
def hasT (M R n : Int) : Bool := if M = 0 then n == R else Int.fmod n M == R
theorem hasT_z {R n : Int} : (n == R) = hasT 0 R n := by unfold hasT; rw [if_pos rfl]
theorem hasT_p {M R n : Int} (h : ¬ M = 0) : (Int.fmod n M == R) = hasT M R n := by unfold hasT; rw [if_neg h]
theorem hasT_bring {M R n : Int} (hM : 0 ≤ M) : hasT M (bring M R) n = hasR M R n := by
  by_cases z : M = 0
  · subst z
    rw [← hasT_z, hasR_z]
  · rw [← hasT_p z, hasR_t (by omega)]
theorem ab_nonneg (k : Int) : 0 ≤ (if k < 0 then -k else k) := by split <;> omega
theorem ab_in {k B : Int} (h1 : -B ≤ k) (h2 : k ≤ B) : (if k < 0 then -k else k) ≤ B := by split <;> omega
theorem mul_ab_nonneg {m k : Int} (hm : 0 ≤ m) : 0 ≤ m * (if k < 0 then -k else k) := Int.mul_nonneg hm (ab_nonneg k)
theorem T_plus (m n r s j : Int) : hasT (Gc m n) (bring (Gc m n) (r + s)) (r + j * m + s - j * n) = true := by
  rw [hasT_bring (Gc_nonneg m n)]
  exact has_plus m n r s j
theorem T_times {m k r j : Int} (hm : 0 ≤ m) : hasT (m * (if k < 0 then -k else k)) (bring (m * (if k < 0 then -k else k)) (r * k)) ((r + j * m) * k) = true := by
  rw [hasT_bring (mul_ab_nonneg hm)]
  refine has_times m k r j _ ?_
  split
  · exact Or.inr rfl
  · exact Or.inl rfl
def partM (m d : Int) : Int := if Int.fmod m d = 0 then Int.fdiv m d else 1
def partR (m r d : Int) : Int := if Int.fmod m d = 0 then bring (Int.fdiv m d) (Int.fdiv r d) else 0
theorem partM_y {m d : Int} (h : Int.fmod m d = 0) : Int.fdiv m d = partM m d := by unfold partM; rw [if_pos h]
theorem partM_n {m d : Int} (h : ¬ Int.fmod m d = 0) : 1 = partM m d := by unfold partM; rw [if_neg h]
theorem partR_y {m r d : Int} (h : Int.fmod m d = 0) : bring (Int.fdiv m d) (Int.fdiv r d) = partR m r d := by unfold partR; rw [if_pos h]
theorem partR_n {m r d : Int} (h : ¬ Int.fmod m d = 0) : 0 = partR m r d := by unfold partR; rw [if_neg h]
theorem fdiv_nonneg' {m d : Int} (hm : 0 ≤ m) (hd : 0 < d) : 0 ≤ Int.fdiv m d := by
  rw [Int.fdiv_eq_ediv_of_nonneg _ (Int.le_of_lt hd)]
  exact Int.ediv_nonneg hm (Int.le_of_lt hd)
theorem partM_nonneg {m d : Int} (hm : 0 ≤ m) (hd : 0 < d) : 0 ≤ partM m d := by
  unfold partM
  split
  · exact fdiv_nonneg' hm hd
  · decide
theorem T_parted {m d r j : Int} (hm : 0 ≤ m) (hd : 0 < d) : hasT (partM m d) (partR m r d) (Int.fdiv (r + j * m) d) = true := by
  by_cases h : Int.fmod m d = 0
  · rw [← partM_y h, ← partR_y h, hasT_bring (fdiv_nonneg' hm hd)]
    exact has_parted hd h
  · rw [← partM_n h, ← partR_n h]
    have e : (0 : Int) = bring 1 0 := by decide
    rw [e, hasT_bring (by decide)]
    exact has_one _
def restedM (m d : Int) : Int := if Gc m d = d then 0 else Gc m d
def restedR (m r d : Int) : Int := if Gc m d = d then Int.fmod r d else bring (Gc m d) r
theorem restedM_y {m d : Int} (h : Gc m d = d) : 0 = restedM m d := by unfold restedM; rw [if_pos h]
theorem restedM_n {m d : Int} (h : ¬ Gc m d = d) : Gc m d = restedM m d := by unfold restedM; rw [if_neg h]
theorem restedR_y {m r d : Int} (h : Gc m d = d) : Int.fmod r d = restedR m r d := by unfold restedR; rw [if_pos h]
theorem restedR_n {m r d : Int} (h : ¬ Gc m d = d) : bring (Gc m d) r = restedR m r d := by unfold restedR; rw [if_neg h]
theorem restedR_l {m r d : Int} (hd : 0 < d) (h : ¬ Gc m d = d) : Int.fmod r (Gc m d) = restedR m r d := by
  rw [← restedR_n h]
  exact bring_pos (by have := Gc_pos (a := m) hd; omega)
theorem restedM_nonneg (m d : Int) : 0 ≤ restedM m d := by
  unfold restedM
  split
  · decide
  · exact Gc_nonneg m d
theorem T_rested {m d r j : Int} (hd : 0 < d) : hasT (restedM m d) (restedR m r d) (Int.fmod (r + j * m) d) = true := by
  by_cases h : Gc m d = d
  · rw [← restedM_y h, ← restedR_y h]
    have e : Int.fmod r d = bring 0 (Int.fmod r d) := bring_zero _
    rw [e, hasT_bring (by decide)]
    exact has_rested_d hd h
  · rw [← restedM_n h, ← restedR_n h, hasT_bring (Gc_nonneg m d)]
    exact has_rested hd
theorem T_loosened (m d r j k : Int) : hasT (Gc m d) (bring (Gc m d) r) (r + j * m + j * k * d) = true := by
  rw [hasT_bring (Gc_nonneg m d)]
  exact has_loosened m d r j k
theorem Gc_le {m d : Int} (hd : 0 < d) : Gc m d ≤ d := Int.le_of_dvd hd (Gc_right m d)
theorem bring_in {m r B : Int} (hm : 0 ≤ m) (hB : m ≤ B) (h1 : -B ≤ r) (h2 : r ≤ B) : -B ≤ bring m r ∧ bring m r ≤ B := by
  unfold bring
  split
  · exact ⟨h1, h2⟩
  · have a := Int.fmod_nonneg_of_pos r (show 0 < m by omega)
    have b := Int.fmod_lt_of_pos r (show 0 < m by omega)
    omega
/-- some int that P tells -/
abbrev TellsI (P : Int → Prop) (lent : List (Addr × Obj)) : Heap → Addr → (Str → Option Value) → Shared → (Value → Shared → Prop) → (Value → Shared → Prop) → Prop := fun h₀ L m s Q _ =>
  ∀ (x : Int) (t : Tok) (h' : Heap) (tk' : Nat), P x → Fr h₀ L h' m → News h₀ L h' lent → Stay lent s.heap h' → Q (.int x t) { s with heap := h', toks := tk' }
theorem tells_ret {h₀ h' : Heap} {L : Addr} {m : Str → Option Value} {lent : List (Addr × Obj)} {s : Shared} {Q : Value → Shared → Prop} {t : Tok} {tk' : Nat} {P : Int → Prop} {y : Int}
    (hret : ∀ (x : Int) (t : Tok) (h' : Heap) (tk' : Nat), P x → Fr h₀ L h' m → News h₀ L h' lent → Stay lent s.heap h' → Q (.int x t) { s with heap := h', toks := tk' }) (p : P y) (F : Fr h₀ L h' m) (N : News h₀ L h' lent) (S : Stay lent s.heap h') : Q (.int y t) { s with heap := h', toks := tk' } := hret y t h' tk' p F N S
/-- from 0 to 10 ** 60 -/
structure Up60 (x : Int) : Prop where
  lo : 0 ≤ x
  hi : x ≤ T60
theorem up_mod {m : Int} (m1 : m ≤ T60) : Up60 (Int.fmod m 13) := by
  have a := Int.fmod_nonneg_of_pos m (show (0 : Int) < 13 by decide)
  have b := Int.fmod_lt_of_pos m (show (0 : Int) < 13 by decide)
  have e := T60_eq
  exact ⟨a, by omega⟩
section
variable {prog : Program} {w : World} {K : Frag} {p : Program} {loose : List Str} {mean : ExcName → Option Value} {mg mb : Str → Option Value} {room : Nat} {f : Addr} {vs : List Value} {news lent : List (Addr × Obj)}
  {dp un : Nat} {gd : Option (List Code)} {cn : Str} {cs : Scope} {a : Addr} {ccd : Value} {cl : List (Str × Addr)} {outer : List Env} {A₀ : Around} {base h₀ : Heap} {L : Addr} {m : Str → Option Value} {s : Shared} {Q E : Value → Shared → Prop}
theorem use_tells {P : Int → Prop} (D : Does prog w K p loose mean mg mb room f lent vs (TellsI P lent)) (B : Below A₀ base outer h₀) (F : Fr h₀ L s.heap m) (X : K.In h₀) (N : News h₀ L s.heap news) (T : Top p loose mean mg mb h₀) (hk : cs.kind = .function)
    (hd : dp + room < recursionLimit) (hu : un + 10 * room < cLine) (sub : ∀ q ∈ lent, q ∈ news) (h : ∀ (x : Int) (t : Tok) (h' : Heap) (tk' : Nat), P x → Fr h₀ L h' m → News h₀ L h' news → Q (.int x t) { s with heap := h', toks := tk' }) :
    wpAny (model prog w) (ktrTop dp un gd cn cs L a ccd cl outer) (call (.ref f) vs) Q E s :=
  D _ _ _ _ _ _ _ _ _ _ _ _ _ _ _ _ _ B F X (fun q hq => N q (sub q hq)) T hk hd hu fun x t h' tk' p F' N' S => h x t h' tk' p F' (stay_news S N N' fun q hq => (N q (sub q hq)).1)
end
/-- a tuple of m and a number of at most sixty figures -/
def IsRB (M : Int) (o : Obj) : Prop := ∃ (r : Int) (t1 t2 : Tok) (k : Nat), o = tupO #[.int M t1, .int r t2] k ∧ -T60 ≤ r ∧ r ≤ T60
theorem IsR.rb {m r : Int} {o : Obj} (hm : 0 ≤ m) (hB : m ≤ T60) (h1 : -T60 ≤ r) (h2 : r ≤ T60) (h : IsR m (bring m r) o) : IsRB m o := by
  obtain ⟨t1, t2, k, e⟩ := h.use
  have b := bring_in hm hB h1 h2
  exact ⟨_, t1, t2, k, e, b.1, b.2⟩
section
variable {prog : Program} {w : World} {A : Around} {E : Value → Shared → Prop} {s : Shared} {x y : Int} {t u : Tok} {Q : Value → Shared → Prop}
theorem bits_mag (h1 : -(10 * T60) ≤ x) (h2 : x ≤ 10 * T60) : Builtin.Int.intBits x ≤ 256 := by
  rw [T60_eq] at h1 h2
  refine PyProof.Rows.intBits_le ?_
  have p : (2 : Nat) ^ 256 = 115792089237316195423570985008687907853269984665640564039457584007913129639936 := by decide
  rw [p]
  omega
theorem step_mul_mag (h1 : -(10 * T60) ≤ x) (h2 : x ≤ 10 * T60) (h3 : -(10 * T60) ≤ y) (h4 : y ≤ 10 * T60) (h : Q (.int (x * y) s.toks) { s with toks := s.toks + 1 }) : wpAny (model prog w) A (binaryOp .Mult (.int x t) (.int y u)) Q E s :=
  PyProof.Rows.mul_int h (IntMulOk.of_bits (Nat.le_trans (bits_mag h1 h2) (by decide)) (Nat.le_trans (bits_mag h3 h4) (by decide)))
end
end My
namespace My
open PySem PySem.W PySem.Calls PyProof.Rows PySem.Spec
/-- from 1 on, of at most sixty figures -/
structure D60 (x : Int) : Prop where
  lo : 0 < x
  hi : x ≤ T60 + 1
theorem D60.ab {v : Int} : D60 (1 + (if numb v < 0 then -numb v else numb v)) := by
  have a := numb_in v
  refine ⟨?_, ?_⟩ <;> split <;> omega
theorem D60.gc {m d : Int} (h : D60 d) : D60 (Gc m d) := ⟨Gc_pos h.lo, Int.le_trans (Gc_le h.lo) h.hi⟩
theorem D60.one : D60 1 := ⟨by decide, by have := T60_eq; omega⟩
theorem lays_mono {prog : Program} {w : World} {K : Frag} {p : Program} {loose : List Str} {mean : ExcName → Option Value} {mg mb : Str → Option Value} {room : Nat} {f : Addr} {lent : List (Addr × Obj)} {vs : List Value} {P P' : Obj → Prop}
    (d : Does prog w K p loose mean mg mb room f lent vs (Lays P lent)) (i : ∀ o, P o → P' o) : Does prog w K p loose mean mg mb room f lent vs (Lays P' lent) :=
  fun dp un gd cn cs a ccd cl outer A₀ base h₀ L m s Q E B F X N T hk hd hu hret => d dp un gd cn cs a ccd cl outer A₀ base h₀ L m s Q E B F X N T hk hd hu fun r o h' tk' hp => hret r o h' tk' (i o hp)
theorem hands_mono {prog : Program} {w : World} {K : Frag} {p : Program} {loose : List Str} {mean : ExcName → Option Value} {mg mb : Str → Option Value} {room : Nat} {f : Addr} {lent : List (Addr × Obj)} {vs : List Value} {r r' : Tok → Value}
    (d : Does prog w K p loose mean mg mb room f lent vs (Hands r lent)) (i : ∀ t, r t = r' t) : Does prog w K p loose mean mg mb room f lent vs (Hands r' lent) :=
  fun dp un gd cn cs a ccd cl outer A₀ base h₀ L m s Q E B F X N T hk hd hu hret => d dp un gd cn cs a ccd cl outer A₀ base h₀ L m s Q E B F X N T hk hd hu fun t h' tk' F' N' S => i t ▸ hret t h' tk' F' N' S
end My
namespace My
theorem mag_lo {x : Int} (h : -T60 ≤ x ∧ x ≤ T60) : -(10 * T60) ≤ x := by have := T60_eq; omega
theorem mag_hi {x : Int} (h : -T60 ≤ x ∧ x ≤ T60) : x ≤ 10 * T60 := by have := T60_eq; omega
theorem mag_ab_lo (x : Int) : -(10 * T60) ≤ (if x < 0 then -x else x) := by have := T60_eq; split <;> omega
theorem mag_ab_hi {x : Int} (h : -T60 ≤ x ∧ x ≤ T60) : (if x < 0 then -x else x) ≤ 10 * T60 := by have := T60_eq; split <;> omega
end My
namespace My
open PySem PySem.W PySem.Calls PyProof.Rows PySem.Spec
section
variable {prog : Program} {w : World} {A : Around} {E : Value → Shared → Prop} {s : Shared} {a b m d : Int} {t u : Tok} {Q : Value → Shared → Prop}
theorem step_fdiv_lt (hb : 0 < b) (hl : b.natAbs < 2 ^ 8000) (h : Q (.int (a.fdiv b) s.toks) { s with toks := s.toks + 1 }) : wpAny (model prog w) A (binaryOp .FloorDiv (.int a t) (.int b u)) Q E s :=
  PyProof.Rows.floordiv_int (by omega) h (Or.inl (PyProof.noPylong_of_log2 (Nat.lt_trans ((Nat.log2_lt (by omega)).mpr hl) (by decide))))
theorem step_fdiv_t (hb : 0 < b) (hB : b ≤ 10 * T60) (h : Q (.int (a.fdiv b) s.toks) { s with toks := s.toks + 1 }) : wpAny (model prog w) A (binaryOp .FloorDiv (.int a t) (.int b u)) Q E s := by
  refine step_fdiv_lt hb ?_ h
  have e := T60_eq
  have p : (2 : Nat) ^ 256 = 115792089237316195423570985008687907853269984665640564039457584007913129639936 := by decide
  have q : b.natAbs < 2 ^ 256 := by rw [p]; omega
  exact Nat.lt_of_lt_of_le q (Nat.pow_le_pow_right (by decide) (by decide))
theorem step_mod_gc (hd : 0 < d) (h : Q (.int (Int.fmod a (Gc m d)) s.toks) { s with toks := s.toks + 1 }) : wpAny (model prog w) A (binaryOp .Mod (.int a t) (.int (Gc m d) u)) Q E s :=
  PyProof.Rows.mod_int (by have := Gc_pos (a := m) hd; omega) h
end
end My
namespace My
theorem d_mag {d : Int} (h : d ≤ T60 + 1) : d ≤ 10 * T60 := by have := T60_eq; omega
end My
namespace My
theorem j_cases {j : Int} (h1 : -2 ≤ j) (h2 : j < 3) : j = -2 ∨ j = -1 ∨ j = 0 ∨ j = 1 ∨ j = 2 := by omega
theorem j_mag {j x r : Int} (h1 : -2 ≤ j) (h2 : j < 3) (x0 : -T60 ≤ x) (x1 : x ≤ T60) (r0 : -T60 ≤ r) (r1 : r ≤ T60) : -(10 * T60) ≤ r + j * x ∧ r + j * x ≤ 10 * T60 := by
  have e := T60_eq
  rcases j_cases h1 h2 with rfl | rfl | rfl | rfl | rfl <;> omega
theorem j_mag0 {j x : Int} (h1 : -2 ≤ j) (h2 : j < 3) (x0 : -T60 ≤ x) (x1 : x ≤ T60) : -(10 * T60) ≤ j * x ∧ j * x ≤ 10 * T60 := by
  have e := T60_eq
  rcases j_cases h1 h2 with rfl | rfl | rfl | rfl | rfl <;> omega
theorem j_small {j : Int} (h1 : -2 ≤ j) (h2 : j < 3) : -(10 * T60) ≤ j ∧ j ≤ 10 * T60 := by
  have e := T60_eq
  omega
theorem t_small {x : Int} (h1 : -T60 ≤ x) (h2 : x ≤ T60 + 1) : -(10 * T60) ≤ x ∧ x ≤ 10 * T60 := by
  have e := T60_eq
  omega
end My
namespace My
theorem D60.mxg {m d : Int} (h : D60 d) : D60 (if Gc m d > 1 then Gc m d else 1) := by
  have a := h.gc (m := m)
  split
  · exact a
  · exact D60.one
theorem D60.mxm {m : Int} (h : m ≤ T60) : D60 (if m > 1 then m else 1) := by
  split
  · exact ⟨by omega, by omega⟩
  · exact D60.one
end My
end
section
set_option maxRecDepth 100000
set_option maxHeartbeats 4000000
namespace My
open PySem
section
variable {prog : Program} {w : World} {A : Around} {R : Result → Shared → Prop} {I : Addr} {fp wr : List Addr} {n : Nat} {P : Nat → Value → Prop} {St : Nat → Heap → Prop}
/-- the rest of max's own loop with keywords kw: S holds the best item so far, twice -/
theorem mx_rest (W : Walks prog w A.in1 I fp wr n P St) (bt : Nat → Nat → Bool) (cmp : CmpOf prog w A.in1 .Gt P bt) (S : Addr) (off : S ∉ fp) (kw : List (Str × Value)) :
    ∀ (k j : Nat) (s : Shared) (best : Value) (c : Nat), n - (j + 1) = k → j + 1 ≤ n → St (j + 1) s.heap → P (argBest bt j) best → s.heap.get? S = some { cls := .type "list", dict := none, data := .seq #[best, best] c, slots := #[] } →
      (∀ v g tk, P (argBest bt (n - 1)) v → (∀ b o, b ∉ wr → b ≠ S → s.heap.get? b = some o → g.get? b = some o) → R (.ok (.ret v)) { s with heap := g, toks := tk }) →
      codeAny (model prog w) A (.builtin "max.loop" ⟨[.ref I, .none, .ref S], kw⟩) R s := by
  have offw : S ∉ wr := fun q => off (W.sub _ q)
  have nm : (toString "max" ++ toString ".loop" : String) = "max.loop" := by decide
  intro k
  induction k with
  | zero =>
    intro j s best c ek ej st pb at_S out
    have last : j + 1 = n := by omega
    refine codeAny_builtin F.entry_max_loop ?_; rw [Around.under_plainId F.plain_max_loop _]
    show wpAny _ A.in1 (seqItems? (.ref S) >>= _) _ _ s; refine wpAny_bind (wpAny_seqItems at_S rfl ?_)
    show wpAny _ A.in1 (tryCatch (pyNext (.ref I)) _ >>= _) _ _ s; refine wpAny_bind (wpAny_tryCatch (W.done s _ _ (last ▸ st) fun g tk keeps => ?_))
    have at_S' := keeps S _ offw at_S
    show wpAny _ A.in1 (updateSeq S (fun _ => #[]) >>= _) _ _ _
    refine wpAny_bind ?_; refine wpAny_updateSeq at_S' rfl (wpAny_bind (wpAny_letGo (wpAny_pure ?_)))
    exact out best _ tk (by rw [← last]; exact pb) fun b o bw bS e => (Heap.get?_update_other _ _ (Ne.symm bS)).trans (keeps b o bw e)
  | succ k ih =>
    intro j s best c ek ej st pb at_S out
    have more : j + 1 < n := by omega
    refine codeAny_builtin F.entry_max_loop ?_; rw [Around.under_plainId F.plain_max_loop _]
    show wpAny _ A.in1 (seqItems? (.ref S) >>= _) _ _ s; refine wpAny_bind (wpAny_seqItems at_S rfl ?_)
    show wpAny _ A.in1 (tryCatch (pyNext (.ref I)) _ >>= _) _ _ s; refine wpAny_bind (wpAny_tryCatch (W.item (j + 1) s _ _ more st fun v g tk pv st' keeps => ?_))
    have at_S' := keeps S _ offw at_S
    show wpAny _ A.in1 (tryCatch (holding [v, v] (richCompare .Gt v best >>= _)) _ >>= _) _ _ _; refine wpAny_bind (wpAny_tryCatch (wpAny_holding (wpAny_bind (cmp (j + 1) (argBest bt j) v best _ _ _ pv pb ?_))))
    refine wpAny_bind (wpAny_holding (wpAny_truthy_bool ?_)); refine wpAny_bind (wpAny_letGo (wpAny_pure ?_))
    cases hb : bt (j + 1) (argBest bt j) with
    | true =>
      simp only [if_true]; refine wpAny_bind ?_; refine wpAny_updateSeq at_S' rfl (wpAny_bind (wpAny_letGo ?_)); rw [nm]
      refine wpAny_pure ⟨plainId_quiet F.plain_max_loop _, ih (j + 1) _ v _ (by omega) more (W.frame _ _ _ st' fun b bf o e => ?_) (by simp only [argBest, hb, if_true]; exact pv) (Heap.get?_update_self _ at_S' rfl) fun v' g' tk' pv' keeps' => ?_⟩
      · exact (Heap.get?_update_other _ _ (fun q : S = b => off (by rw [q]; exact bf))).trans e
      · exact out v' g' tk' pv' fun b o bw bS e => keeps' b o bw bS ((Heap.get?_update_other _ _ (Ne.symm bS)).trans (keeps b o bw e))
    | false =>
      simp only [Bool.false_eq_true, if_false]; refine wpAny_bind (wpAny_letGo ?_); rw [nm]
      refine wpAny_pure ⟨plainId_quiet F.plain_max_loop _, ih (j + 1) _ best c (by omega) more st' (by simp only [argBest, hb, Bool.false_eq_true, if_false]; exact pb) at_S' fun v' g' tk' pv' keeps' => ?_⟩
      exact out v' g' tk' pv' fun b o bw bS e => keeps' b o bw bS (keeps b o bw e)
/-- its first turn, where there is an item -/
theorem mx_first (W : Walks prog w A.in1 I fp wr n P St) (bt : Nat → Nat → Bool) (cmp : CmpOf prog w A.in1 .Gt P bt) (S : Addr) (off : S ∉ fp) (kw : List (Str × Value)) (some_ : 0 < n) {s : Shared} {c : Nat} (st : St 0 s.heap)
    (at_S : s.heap.get? S = some { cls := .type "list", dict := none, data := .seq #[] c, slots := #[] })
    (out : ∀ v g tk, P (argBest bt (n - 1)) v → (∀ b o, b ∉ wr → b ≠ S → s.heap.get? b = some o → g.get? b = some o) → R (.ok (.ret v)) { s with heap := g, toks := tk }) :
    codeAny (model prog w) A (.builtin "max.loop" ⟨[.ref I, .none, .ref S], kw⟩) R s := by
  have offw : S ∉ wr := fun q => off (W.sub _ q)
  have nm : (toString "max" ++ toString ".loop" : String) = "max.loop" := by decide
  refine codeAny_builtin F.entry_max_loop ?_; rw [Around.under_plainId F.plain_max_loop _]
  show wpAny _ A.in1 (seqItems? (.ref S) >>= _) _ _ s; refine wpAny_bind (wpAny_seqItems at_S rfl ?_)
  show wpAny _ A.in1 (tryCatch (pyNext (.ref I)) _ >>= _) _ _ s; refine wpAny_bind (wpAny_tryCatch (W.item 0 s _ _ some_ st fun v g tk pv st' keeps => ?_))
  have at_S' := keeps S _ offw at_S
  show wpAny _ A.in1 (updateSeq S (fun _ => #[v, v]) >>= _) _ _ _
  refine wpAny_bind ?_; refine wpAny_updateSeq at_S' rfl ?_; rw [nm]
  refine wpAny_pure ⟨plainId_quiet F.plain_max_loop _, mx_rest W bt cmp S off kw _ 0 _ v _ rfl some_ (W.frame _ _ _ st' fun b bf o e => ?_) pv (Heap.get?_update_self _ at_S' rfl) fun v' g' tk' pv' keeps' => ?_⟩
  · exact (Heap.get?_update_other _ _ (fun q : S = b => off (by rw [q]; exact bf))).trans e
  · exact out v' g' tk' pv' fun b o bw bS e => keeps' b o bw bS ((Heap.get?_update_other _ _ (Ne.symm bS)).trans (keeps b o bw e))
/-- where there is none: the default -/
theorem mx_none (W : Walks prog w A.in1 I fp wr 0 P St) (S : Addr) (x : Str) (d : Value) (kw : List (Str × Value)) {s : Shared} {c : Nat} (st : St 0 s.heap)
    (at_S : s.heap.get? S = some { cls := .type "list", dict := none, data := .seq #[] c, slots := #[] })
    (out : ∀ g tk, (∀ b o, b ∉ wr → s.heap.get? b = some o → g.get? b = some o) → R (.ok (.ret d)) { s with heap := g, toks := tk }) :
    codeAny (model prog w) A (.builtin "max.loop" ⟨[.ref I, .none, .ref S], (x, d) :: kw⟩) R s := by
  refine codeAny_builtin F.entry_max_loop ?_; rw [Around.under_plainId F.plain_max_loop _]
  show wpAny _ A.in1 (seqItems? (.ref S) >>= _) _ _ s; refine wpAny_bind (wpAny_seqItems at_S rfl ?_)
  show wpAny _ A.in1 (tryCatch (pyNext (.ref I)) _ >>= _) _ _ s; refine wpAny_bind (wpAny_tryCatch (W.done s _ _ st fun g tk keeps => ?_))
  show wpAny _ A.in1 (rule _ >>= _) _ _ _
  exact wpAny_bind (wpAny_rule (wpAny_pure (out g tk keeps)))
end
section
variable {prog : Program} {w : World} {A : Around} {E : Value → Shared → Prop} {s : Shared}
/-- a call of a built-in with keywords, by its own tree -/
theorem kw_tree {id : String} {b : Builtin} {args : List Value} {kw : List (Str × Value)} {Q : Value → Shared → Prop} (e1 : builtinKind id = none) (e2 : plainId id = true) (e3 : entryFor table id = some b) (e4 : argsOk id ⟨args, kw⟩)
    (go : wpAny (model prog w) A.in1 (b ⟨args, kw⟩) (fun fin s' => match fin with
      | .done f => (match (Except.ok f : Result) with
        | .ok (.ret v) => Q v s'
        | .ok _ => False
        | .error e => E e s')
      | .again c' => c'.quiet = true ∧ codeAny (model prog w) A c' (fun r s' => match r with
        | .ok (.ret v) => Q v s'
        | .ok _ => False
        | .error e => E e s') s') E s) : wpAny (model prog w) A (call (.builtin id) args kw) Q E s := by
  refine wpAny_call (codeAny_call_builtin e2 e3 ?_)
  simp only [checkBuiltinCall, e1]
  cases sg : Manifest.signature? id with
  | none => exact wpAny_pure go
  | some sig =>
    have e5 : Bind.checkArgs id sig ⟨args, kw⟩ = pure () := by simpa only [argsOk, sg] using e4
    simp only [e5]
    exact wpAny_pure go
theorem mx_args (a d : Value) : argsOk "max" ⟨[a], [(Str.ofString "default", d)]⟩ := by unfold argsOk; kernel_rfl
theorem mx_walk {x d : Value} {Q : Value → Shared → Prop}
    (h : wpAny (model prog w) A.in1 (pyIter x) (fun it s₂ => ∃ I fp wr n P St bt, it = .ref I ∧ Walks prog w A.in1 I fp wr n P St ∧ St 0 s₂.heap ∧ (∀ b ∈ fp, b < s₂.heap.objs.size) ∧ CmpOf prog w A.in1 .Gt P bt ∧
      (n = 0 → ∀ g tk, (∀ b o, b ∉ wr → s₂.heap.get? b = some o → g.get? b = some o) → Q d { s₂ with heap := g, toks := tk }) ∧
      (0 < n → ∀ v g tk, P (argBest bt (n - 1)) v → (∀ b o, b ∉ wr → s₂.heap.get? b = some o → g.get? b = some o) → Q v { s₂ with heap := g, toks := tk })) E s) :
    wpAny (model prog w) A (call (.builtin "max") [x] [(Str.ofString "default", d)]) Q E s := by
  have nm : (toString "max" ++ toString ".loop" : String) = "max.loop" := by decide
  refine kw_tree F.kind_max F.plain_max F.entry_max (mx_args _ _) ?_
  show wpAny _ A.in1 (Builtin.Builtins.bindParams "max" ["key", "default"] 0 ⟨[], [(Str.ofString "default", d)]⟩ >>= _) _ _ s
  refine wpAny_bind (wpAny_of_eq (show Builtin.Builtins.bindParams "max" ["key", "default"] 0 ⟨[], [(Str.ofString "default", d)]⟩ = pure [none, some d] from rfl) ?_)
  refine wpAny_bind (wpAny_pure ?_)
  refine wpAny_bind (wpAny_mono h (fun it s₂ h₂ => ?_) fun _ _ e => e)
  obtain ⟨I, fp, wr, n, P, St, bt, rfl, W, st, below, cmp, q0, q1⟩ := h₂
  refine wpAny_bind (wpAny_newObj_type ?_)
  have off : s₂.heap.objs.size ∉ fp := fun hm => Nat.lt_irrefl _ (below _ hm)
  rw [nm]
  by_cases z : n = 0
  · subst z
    exact wpAny_pure ⟨plainId_quiet F.plain_max_loop _, mx_none W _ _ d [] (W.frame _ _ _ st fun b _ o e => Heap.get?_push_of_some _ e) (Heap.get?_push_size _ rfl) fun g tk keeps => q0 rfl g tk fun b o bw e => keeps b o bw (Heap.get?_push_of_some _ e)⟩
  · refine wpAny_pure ⟨plainId_quiet F.plain_max_loop _, mx_first W bt cmp _ off _ (Nat.pos_of_ne_zero z) (W.frame _ _ _ st fun b _ o e => Heap.get?_push_of_some _ e) (Heap.get?_push_size _ rfl) fun v g tk pv keeps => ?_⟩
    exact q1 (Nat.pos_of_ne_zero z) v g tk pv fun b o bw e => keeps b o bw (Nat.ne_of_lt (Heap.lt_size e)) (Heap.get?_push_of_some _ e)
end
section
variable {prog : Program} {w : World} {A : Around} {R : Result → Shared → Prop} {I : Addr} {fp wr : List Addr} {n : Nat} {P : Nat → Value → Prop} {St : Nat → Heap → Prop}
/-- the rest of min's own loop with keywords kw: S holds the best item so far, twice -/
theorem mn_rest (W : Walks prog w A.in1 I fp wr n P St) (bt : Nat → Nat → Bool) (cmp : CmpOf prog w A.in1 .Lt P bt) (S : Addr) (off : S ∉ fp) (kw : List (Str × Value)) :
    ∀ (k j : Nat) (s : Shared) (best : Value) (c : Nat), n - (j + 1) = k → j + 1 ≤ n → St (j + 1) s.heap → P (argBest bt j) best → s.heap.get? S = some { cls := .type "list", dict := none, data := .seq #[best, best] c, slots := #[] } →
      (∀ v g tk, P (argBest bt (n - 1)) v → (∀ b o, b ∉ wr → b ≠ S → s.heap.get? b = some o → g.get? b = some o) → R (.ok (.ret v)) { s with heap := g, toks := tk }) →
      codeAny (model prog w) A (.builtin "min.loop" ⟨[.ref I, .none, .ref S], kw⟩) R s := by
  have offw : S ∉ wr := fun q => off (W.sub _ q)
  have nm : (toString "min" ++ toString ".loop" : String) = "min.loop" := by decide
  intro k
  induction k with
  | zero =>
    intro j s best c ek ej st pb at_S out
    have last : j + 1 = n := by omega
    refine codeAny_builtin F.entry_min_loop ?_; rw [Around.under_plainId F.plain_min_loop _]
    show wpAny _ A.in1 (seqItems? (.ref S) >>= _) _ _ s; refine wpAny_bind (wpAny_seqItems at_S rfl ?_)
    show wpAny _ A.in1 (tryCatch (pyNext (.ref I)) _ >>= _) _ _ s; refine wpAny_bind (wpAny_tryCatch (W.done s _ _ (last ▸ st) fun g tk keeps => ?_))
    have at_S' := keeps S _ offw at_S
    show wpAny _ A.in1 (updateSeq S (fun _ => #[]) >>= _) _ _ _
    refine wpAny_bind ?_; refine wpAny_updateSeq at_S' rfl (wpAny_bind (wpAny_letGo (wpAny_pure ?_)))
    exact out best _ tk (by rw [← last]; exact pb) fun b o bw bS e => (Heap.get?_update_other _ _ (Ne.symm bS)).trans (keeps b o bw e)
  | succ k ih =>
    intro j s best c ek ej st pb at_S out
    have more : j + 1 < n := by omega
    refine codeAny_builtin F.entry_min_loop ?_; rw [Around.under_plainId F.plain_min_loop _]
    show wpAny _ A.in1 (seqItems? (.ref S) >>= _) _ _ s; refine wpAny_bind (wpAny_seqItems at_S rfl ?_)
    show wpAny _ A.in1 (tryCatch (pyNext (.ref I)) _ >>= _) _ _ s; refine wpAny_bind (wpAny_tryCatch (W.item (j + 1) s _ _ more st fun v g tk pv st' keeps => ?_))
    have at_S' := keeps S _ offw at_S
    show wpAny _ A.in1 (tryCatch (holding [v, v] (richCompare .Lt v best >>= _)) _ >>= _) _ _ _; refine wpAny_bind (wpAny_tryCatch (wpAny_holding (wpAny_bind (cmp (j + 1) (argBest bt j) v best _ _ _ pv pb ?_))))
    refine wpAny_bind (wpAny_holding (wpAny_truthy_bool ?_)); refine wpAny_bind (wpAny_letGo (wpAny_pure ?_))
    cases hb : bt (j + 1) (argBest bt j) with
    | true =>
      simp only [if_true]; refine wpAny_bind ?_; refine wpAny_updateSeq at_S' rfl (wpAny_bind (wpAny_letGo ?_)); rw [nm]
      refine wpAny_pure ⟨plainId_quiet F.plain_min_loop _, ih (j + 1) _ v _ (by omega) more (W.frame _ _ _ st' fun b bf o e => ?_) (by simp only [argBest, hb, if_true]; exact pv) (Heap.get?_update_self _ at_S' rfl) fun v' g' tk' pv' keeps' => ?_⟩
      · exact (Heap.get?_update_other _ _ (fun q : S = b => off (by rw [q]; exact bf))).trans e
      · exact out v' g' tk' pv' fun b o bw bS e => keeps' b o bw bS ((Heap.get?_update_other _ _ (Ne.symm bS)).trans (keeps b o bw e))
    | false =>
      simp only [Bool.false_eq_true, if_false]; refine wpAny_bind (wpAny_letGo ?_); rw [nm]
      refine wpAny_pure ⟨plainId_quiet F.plain_min_loop _, ih (j + 1) _ best c (by omega) more st' (by simp only [argBest, hb, Bool.false_eq_true, if_false]; exact pb) at_S' fun v' g' tk' pv' keeps' => ?_⟩
      exact out v' g' tk' pv' fun b o bw bS e => keeps' b o bw bS (keeps b o bw e)
/-- its first turn, where there is an item -/
theorem mn_first (W : Walks prog w A.in1 I fp wr n P St) (bt : Nat → Nat → Bool) (cmp : CmpOf prog w A.in1 .Lt P bt) (S : Addr) (off : S ∉ fp) (kw : List (Str × Value)) (some_ : 0 < n) {s : Shared} {c : Nat} (st : St 0 s.heap)
    (at_S : s.heap.get? S = some { cls := .type "list", dict := none, data := .seq #[] c, slots := #[] })
    (out : ∀ v g tk, P (argBest bt (n - 1)) v → (∀ b o, b ∉ wr → b ≠ S → s.heap.get? b = some o → g.get? b = some o) → R (.ok (.ret v)) { s with heap := g, toks := tk }) :
    codeAny (model prog w) A (.builtin "min.loop" ⟨[.ref I, .none, .ref S], kw⟩) R s := by
  have offw : S ∉ wr := fun q => off (W.sub _ q)
  have nm : (toString "min" ++ toString ".loop" : String) = "min.loop" := by decide
  refine codeAny_builtin F.entry_min_loop ?_; rw [Around.under_plainId F.plain_min_loop _]
  show wpAny _ A.in1 (seqItems? (.ref S) >>= _) _ _ s; refine wpAny_bind (wpAny_seqItems at_S rfl ?_)
  show wpAny _ A.in1 (tryCatch (pyNext (.ref I)) _ >>= _) _ _ s; refine wpAny_bind (wpAny_tryCatch (W.item 0 s _ _ some_ st fun v g tk pv st' keeps => ?_))
  have at_S' := keeps S _ offw at_S
  show wpAny _ A.in1 (updateSeq S (fun _ => #[v, v]) >>= _) _ _ _
  refine wpAny_bind ?_; refine wpAny_updateSeq at_S' rfl ?_; rw [nm]
  refine wpAny_pure ⟨plainId_quiet F.plain_min_loop _, mn_rest W bt cmp S off kw _ 0 _ v _ rfl some_ (W.frame _ _ _ st' fun b bf o e => ?_) pv (Heap.get?_update_self _ at_S' rfl) fun v' g' tk' pv' keeps' => ?_⟩
  · exact (Heap.get?_update_other _ _ (fun q : S = b => off (by rw [q]; exact bf))).trans e
  · exact out v' g' tk' pv' fun b o bw bS e => keeps' b o bw bS ((Heap.get?_update_other _ _ (Ne.symm bS)).trans (keeps b o bw e))
/-- where there is none: the default -/
theorem mn_none (W : Walks prog w A.in1 I fp wr 0 P St) (S : Addr) (x : Str) (d : Value) (kw : List (Str × Value)) {s : Shared} {c : Nat} (st : St 0 s.heap)
    (at_S : s.heap.get? S = some { cls := .type "list", dict := none, data := .seq #[] c, slots := #[] })
    (out : ∀ g tk, (∀ b o, b ∉ wr → s.heap.get? b = some o → g.get? b = some o) → R (.ok (.ret d)) { s with heap := g, toks := tk }) :
    codeAny (model prog w) A (.builtin "min.loop" ⟨[.ref I, .none, .ref S], (x, d) :: kw⟩) R s := by
  refine codeAny_builtin F.entry_min_loop ?_; rw [Around.under_plainId F.plain_min_loop _]
  show wpAny _ A.in1 (seqItems? (.ref S) >>= _) _ _ s; refine wpAny_bind (wpAny_seqItems at_S rfl ?_)
  show wpAny _ A.in1 (tryCatch (pyNext (.ref I)) _ >>= _) _ _ s; refine wpAny_bind (wpAny_tryCatch (W.done s _ _ st fun g tk keeps => ?_))
  show wpAny _ A.in1 (rule _ >>= _) _ _ _
  exact wpAny_bind (wpAny_rule (wpAny_pure (out g tk keeps)))
end
section
variable {prog : Program} {w : World} {A : Around} {E : Value → Shared → Prop} {s : Shared}
theorem mn_args (a d : Value) : argsOk "min" ⟨[a], [(Str.ofString "default", d)]⟩ := by unfold argsOk; kernel_rfl
theorem mn_walk {x d : Value} {Q : Value → Shared → Prop}
    (h : wpAny (model prog w) A.in1 (pyIter x) (fun it s₂ => ∃ I fp wr n P St bt, it = .ref I ∧ Walks prog w A.in1 I fp wr n P St ∧ St 0 s₂.heap ∧ (∀ b ∈ fp, b < s₂.heap.objs.size) ∧ CmpOf prog w A.in1 .Lt P bt ∧
      (n = 0 → ∀ g tk, (∀ b o, b ∉ wr → s₂.heap.get? b = some o → g.get? b = some o) → Q d { s₂ with heap := g, toks := tk }) ∧
      (0 < n → ∀ v g tk, P (argBest bt (n - 1)) v → (∀ b o, b ∉ wr → s₂.heap.get? b = some o → g.get? b = some o) → Q v { s₂ with heap := g, toks := tk })) E s) :
    wpAny (model prog w) A (call (.builtin "min") [x] [(Str.ofString "default", d)]) Q E s := by
  have nm : (toString "min" ++ toString ".loop" : String) = "min.loop" := by decide
  refine kw_tree F.kind_min F.plain_min F.entry_min (mn_args _ _) ?_
  show wpAny _ A.in1 (Builtin.Builtins.bindParams "min" ["key", "default"] 0 ⟨[], [(Str.ofString "default", d)]⟩ >>= _) _ _ s
  refine wpAny_bind (wpAny_of_eq (show Builtin.Builtins.bindParams "min" ["key", "default"] 0 ⟨[], [(Str.ofString "default", d)]⟩ = pure [none, some d] from rfl) ?_)
  refine wpAny_bind (wpAny_pure ?_)
  refine wpAny_bind (wpAny_mono h (fun it s₂ h₂ => ?_) fun _ _ e => e)
  obtain ⟨I, fp, wr, n, P, St, bt, rfl, W, st, below, cmp, q0, q1⟩ := h₂
  refine wpAny_bind (wpAny_newObj_type ?_)
  have off : s₂.heap.objs.size ∉ fp := fun hm => Nat.lt_irrefl _ (below _ hm)
  rw [nm]
  by_cases z : n = 0
  · subst z
    exact wpAny_pure ⟨plainId_quiet F.plain_min_loop _, mn_none W _ _ d [] (W.frame _ _ _ st fun b _ o e => Heap.get?_push_of_some _ e) (Heap.get?_push_size _ rfl) fun g tk keeps => q0 rfl g tk fun b o bw e => keeps b o bw (Heap.get?_push_of_some _ e)⟩
  · refine wpAny_pure ⟨plainId_quiet F.plain_min_loop _, mn_first W bt cmp _ off _ (Nat.pos_of_ne_zero z) (W.frame _ _ _ st fun b _ o e => Heap.get?_push_of_some _ e) (Heap.get?_push_size _ rfl) fun v g tk pv keeps => ?_⟩
    exact q1 (Nat.pos_of_ne_zero z) v g tk pv fun b o bw e => keeps b o bw (Nat.ne_of_lt (Heap.lt_size e)) (Heap.get?_push_of_some _ e)
end
section
variable {prog : Program} {w : World} {A : Around} {E : Value → Shared → Prop} {s : Shared} {l : Addr} {d : Value} {Q : Value → Shared → Prop}
theorem mx_ints (xs : Array (Int × Tok)) (hh : A.handled = none) (hl : s.heap.IsList l (intItems xs))
    (q0 : xs.size = 0 → ∀ g tk, (∀ b o, s.heap.get? b = some o → g.get? b = some o) → Q d { s with heap := g, toks := tk })
    (q1 : 0 < xs.size → ∀ v g tk, (intItems xs)[argBest (fun i j => decide (numAt xs i > numAt xs j)) (xs.size - 1)]? = some v → (∀ b o, s.heap.get? b = some o → g.get? b = some o) → Q v { s with heap := g, toks := tk }) :
    wpAny (model prog w) A (call (.builtin "max") [.ref l] [(Str.ofString "default", d)]) Q E s := by
  refine mx_walk (iter_intList hl fun s₂ e st below ne => ?_)
  subst e
  have sz : (intItems xs).size = xs.size := by simp [intItems]
  refine ⟨_, _, _, _, _, _, _, rfl, Walks.list (A := A.in1) hh _ l ne (intItems xs), st, below, CmpOf.ints_gt (numAt xs) (fun _ _ => intItems_at), fun z g tk k => q0 (sz ▸ z) g tk (old_kept k), fun z v g tk pv k => ?_⟩
  rw [sz] at z pv
  exact q1 z v g tk pv (old_kept k)
theorem mx_0 (hh : A.handled = none) (hl : s.heap.IsList l #[]) (h : ∀ g tk, (∀ b o, s.heap.get? b = some o → g.get? b = some o) → Q d { s with heap := g, toks := tk }) :
    wpAny (model prog w) A (call (.builtin "max") [.ref l] [(Str.ofString "default", d)]) Q E s :=
  mx_ints #[] hh (by simpa [intItems] using hl) (fun _ => h) fun z => absurd z (Nat.lt_irrefl 0)
theorem mx_1 {a : Int} {t : Tok} (hh : A.handled = none) (hl : s.heap.IsList l #[.int a t]) (h : ∀ g tk, (∀ b o, s.heap.get? b = some o → g.get? b = some o) → Q (.int a t) { s with heap := g, toks := tk }) :
    wpAny (model prog w) A (call (.builtin "max") [.ref l] [(Str.ofString "default", d)]) Q E s :=
  mx_ints #[(a, t)] hh (by simpa [intItems] using hl) (fun z => nomatch z) fun _ v g tk pv k => by
    have e : some (Value.int a t) = some v := by simpa [intItems, argBest] using pv
    cases e
    exact h g tk k
theorem mx_2 {a b : Int} {t u : Tok} (hh : A.handled = none) (hl : s.heap.IsList l #[.int a t, .int b u]) (h : ∀ g tk, (∀ b o, s.heap.get? b = some o → g.get? b = some o) → Q (.int (if b > a then b else a) (if b > a then u else t)) { s with heap := g, toks := tk }) :
    wpAny (model prog w) A (call (.builtin "max") [.ref l] [(Str.ofString "default", d)]) Q E s :=
  mx_ints #[(a, t), (b, u)] hh (by simpa [intItems] using hl) (fun z => nomatch z) fun _ v g tk pv k => by
    have pv' : (intItems #[(a, t), (b, u)])[if decide (b > a) = true then 1 else 0]? = some v := pv
    have q := h g tk k
    by_cases c : b > a
    · rw [if_pos (decide_eq_true c)] at pv'
      rw [if_pos c, if_pos c] at q
      have e : some (Value.int b u) = some v := by simpa [intItems] using pv'
      cases e
      exact q
    · rw [if_neg (by simpa using c)] at pv'
      rw [if_neg c, if_neg c] at q
      have e : some (Value.int a t) = some v := by simpa [intItems] using pv'
      cases e
      exact q
end
section
variable {prog : Program} {w : World} {A : Around} {E : Value → Shared → Prop} {s : Shared} {l : Addr} {d : Value} {Q : Value → Shared → Prop}
theorem mn_ints (xs : Array (Int × Tok)) (hh : A.handled = none) (hl : s.heap.IsList l (intItems xs))
    (q0 : xs.size = 0 → ∀ g tk, (∀ b o, s.heap.get? b = some o → g.get? b = some o) → Q d { s with heap := g, toks := tk })
    (q1 : 0 < xs.size → ∀ v g tk, (intItems xs)[argBest (fun i j => decide (numAt xs i < numAt xs j)) (xs.size - 1)]? = some v → (∀ b o, s.heap.get? b = some o → g.get? b = some o) → Q v { s with heap := g, toks := tk }) :
    wpAny (model prog w) A (call (.builtin "min") [.ref l] [(Str.ofString "default", d)]) Q E s := by
  refine mn_walk (iter_intList hl fun s₂ e st below ne => ?_)
  subst e
  have sz : (intItems xs).size = xs.size := by simp [intItems]
  refine ⟨_, _, _, _, _, _, _, rfl, Walks.list (A := A.in1) hh _ l ne (intItems xs), st, below, CmpOf.ints_lt (numAt xs) (fun _ _ => intItems_at), fun z g tk k => q0 (sz ▸ z) g tk (old_kept k), fun z v g tk pv k => ?_⟩
  rw [sz] at z pv
  exact q1 z v g tk pv (old_kept k)
theorem mn_0 (hh : A.handled = none) (hl : s.heap.IsList l #[]) (h : ∀ g tk, (∀ b o, s.heap.get? b = some o → g.get? b = some o) → Q d { s with heap := g, toks := tk }) :
    wpAny (model prog w) A (call (.builtin "min") [.ref l] [(Str.ofString "default", d)]) Q E s :=
  mn_ints #[] hh (by simpa [intItems] using hl) (fun _ => h) fun z => absurd z (Nat.lt_irrefl 0)
theorem mn_1 {a : Int} {t : Tok} (hh : A.handled = none) (hl : s.heap.IsList l #[.int a t]) (h : ∀ g tk, (∀ b o, s.heap.get? b = some o → g.get? b = some o) → Q (.int a t) { s with heap := g, toks := tk }) :
    wpAny (model prog w) A (call (.builtin "min") [.ref l] [(Str.ofString "default", d)]) Q E s :=
  mn_ints #[(a, t)] hh (by simpa [intItems] using hl) (fun z => nomatch z) fun _ v g tk pv k => by
    have e : some (Value.int a t) = some v := by simpa [intItems, argBest] using pv
    cases e
    exact h g tk k
theorem mn_2 {a b : Int} {t u : Tok} (hh : A.handled = none) (hl : s.heap.IsList l #[.int a t, .int b u]) (h : ∀ g tk, (∀ b o, s.heap.get? b = some o → g.get? b = some o) → Q (.int (if b < a then b else a) (if b < a then u else t)) { s with heap := g, toks := tk }) :
    wpAny (model prog w) A (call (.builtin "min") [.ref l] [(Str.ofString "default", d)]) Q E s :=
  mn_ints #[(a, t), (b, u)] hh (by simpa [intItems] using hl) (fun z => nomatch z) fun _ v g tk pv k => by
    have pv' : (intItems #[(a, t), (b, u)])[if decide (b < a) = true then 1 else 0]? = some v := pv
    have q := h g tk k
    by_cases c : b < a
    · rw [if_pos (decide_eq_true c)] at pv'
      rw [if_pos c, if_pos c] at q
      have e : some (Value.int b u) = some v := by simpa [intItems] using pv'
      cases e
      exact q
    · rw [if_neg (by simpa using c)] at pv'
      rw [if_neg c, if_neg c] at q
      have e : some (Value.int a t) = some v := by simpa [intItems] using pv'
      cases e
      exact q
end
end My
end
section
set_option maxRecDepth 100000
namespace My
open PySem PySem.W PySem.Calls PyProof.Rows PySem.Spec PyProof.Rows.LCg PyProof.Rows.LCt
def metLo : Option Int → Option Int → Option Int
  | none, b => b
  | some a, none => some a
  | some a, some b => some (if b > a then b else a)
def metHi : Option Int → Option Int → Option Int
  | none, b => b
  | some a, none => some a
  | some a, some b => some (if b < a then b else a)
theorem met_has (l1 h1 l2 h2 : Option Int) (n : Int) : hasB (metLo l1 l2) (metHi h1 h2) n = (hasB l1 h1 n && hasB l2 h2 n) := by
  rw [Bool.eq_iff_iff]
  cases l1 <;> cases h1 <;> cases l2 <;> cases h2 <;> simp only [metLo, metHi, hasB, Bool.and_eq_true, decide_eq_true_eq, true_and, and_true, Bool.true_and, Bool.and_true] <;> (try split) <;> (try split) <;> omega
theorem met_has_swap (l1 h1 l2 h2 : Option Int) (n : Int) : hasB (metLo l1 l2) (metHi h1 h2) n = (hasB l1 h1 n && hasB l2 h2 n) := met_has l1 h1 l2 h2 n
def TupSrc (prog : Program) (w : World) (A : Around) (h₀ : Heap) (L : Addr) (m : Str → Option Value) (env : Env) (ct elt : Expr) (x : Str) (scope : Scope) (cl : List (Str × Addr)) (Fin : Shared → List Value → List (Addr × Obj) → Prop) (xv : Value) (s₁ : Shared) : Prop :=
  ∃ (ax : Addr) (its : Array Value) (k : Nat) (news : List (Addr × Obj)), xv = .ref ax ∧ A.handled = none ∧ Fr h₀ L s₁.heap m ∧ News h₀ L s₁.heap news ∧ (ax, tupO its k) ∈ news ∧ its.size ≤ sizeLine ∧
    ∀ g, CompRestT prog w A h₀ L m env ct elt x scope cl { s₁ with heap := g } (fun nw => (ax, tupO its k) ∈ nw) (fun i v => its[i]? = some v) (Fin { s₁ with heap := g }) its.size 0 [] news
section
variable {prog : Program} {w : World} {A : Around} {E : Value → Shared → Prop} {s : Shared} {h₀ : Heap} {L : Addr} {m : Str → Option Value} {env : Env}
theorem TupSrc.mk' {ct elt : Expr} {x : Str} {scope : Scope} {cl : List (Str × Addr)} {Fin : Shared → List Value → List (Addr × Obj) → Prop} {ax : Addr} {its : Array Value} {k : Nat} {news : List (Addr × Obj)} {s₁ : Shared}
    (hh : A.handled = none) (F : Fr h₀ L s₁.heap m) (N : News h₀ L s₁.heap news) (hm : (ax, tupO its k) ∈ news) (hsz : its.size ≤ sizeLine)
    (h : ∀ g, CompRestT prog w A h₀ L m env ct elt x scope cl { s₁ with heap := g } (fun nw => (ax, tupO its k) ∈ nw) (fun i v => its[i]? = some v) (Fin { s₁ with heap := g }) its.size 0 [] news) :
    TupSrc prog w A h₀ L m env ct elt x scope cl Fin (.ref ax) s₁ := ⟨ax, its, k, news, rfl, hh, F, N, hm, hsz, h⟩
/-- a comprehension with one test over a tuple of the call's own -/
theorem comp_tup {ct elt iter : Expr} {x : Str} {px : Pos} {scope : Scope} {cl : List (Str × Addr)} {pos : Pos} {Q : Value → Shared → Prop} (F₀ : Fr h₀ L s.heap m)
    (hclos : closureFor scope env = pure cl) (hcell : ∀ y ∈ scope.names, y.2 ≠ .cell) (hkind : scope.kind = .function) (hnames : ∀ y ∈ scope.names, y.2 = .local → scope.names.lookup y.1 = some .local) (hx : scope.names.lookup x = some .local)
    (h : wpAny (model prog w) A (eval iter env) (TupSrc prog w A h₀ L m env ct elt x scope cl (fun s₂ => FinE h₀ L m s₂ Q)) E s) (hs : ∀ x, foldedSetIterable iter env x = pure x := by intro _; rfl) :
    wpAny (model prog w) A (eval (.ListComp elt [⟨.Name x px, iter, [ct], 0⟩] scope pos) env) Q E s := by
  rw [eval_ListComp]
  refine wpAny_comprehension_free (use := none) rfl hs hclos hkind hnames (wpAny_mono h (fun xv s₁ h₁ => ?_) fun _ _ e => e)
  obtain ⟨ax, its, k, news, rfl, hh, F, N, hm, hsz, R⟩ := h₁
  have at_t := (N _ hm).1
  have lt_t : ax < s₁.heap.objs.size := Heap.lt_size at_t
  have tup : s₁.heap.IsTuple ax its := ⟨_, at_t, rfl, k, rfl⟩
  refine wpAny_pyIter_tuple tup ?_
  have up : ∀ b o, s₁.heap.get? b = some o → (s₁.heap.push { cls := .type "tuple_iterator", data := .fields #[.ref ax, .int 0 0] }).get? b = some o := fun b o e => Heap.get?_push_of_some _ e
  refine block_T (Walks.tuple hh s₁.heap.objs.size ax (Nat.ne_of_lt lt_t) its) hsz (fun i g st => by obtain ⟨o, e, _⟩ := st.1; exact ⟨o, e⟩)
    (fun i g g' o nw st e e' _ N' hm' => ⟨st.1.at fun o' q => by rw [e] at q; cases q; exact e', ⟨_, (N' _ hm').1, rfl, k, rfl⟩⟩) hcell hkind hx ⟨⟨_, Heap.get?_push_size _ rfl, rfl, rfl⟩, ⟨_, up _ _ at_t, rfl, k, rfl⟩⟩ (fun b hb => ?_)
    (F.keeps up) (N.grown up) (Nat.ne_of_lt F.ns.lt) (next_is_new F) (fun p hp => Nat.ne_of_lt (Heap.lt_size (N p hp).1)) hm (R _) ?_
  · show b < (s₁.heap.push _).objs.size
    rw [Heap.size_push]
    rcases List.mem_cons.mp hb with q | q
    · rw [q]; exact Nat.lt_succ_self _
    · rw [List.mem_singleton.mp q]; exact Nat.lt_succ_of_lt lt_t
  · intro D C g tk m' ys news' F' N' o1 hn hC₀ hD₀ hCL hDL hCD offC fin
    refine ⟨m', hn, fun g' sb => fin D g' tk (F'.change sb hCL hC₀) (fun p hp => ⟨sb.extBut _ _ ?_ (N' p hp).1, (N' p hp).2⟩) o1⟩
    rcases List.mem_cons.mp hp with q | q
    · rw [q]; exact Ne.symm hCD
    · exact offC p q
end
theorem isl {h₀ h : Heap} {L l : Addr} {news : List (Addr × Obj)} {ys : List Value} (N : News h₀ L h news) (hm : (l, LCg.lst ys) ∈ news) : h.IsList l ys.toArray := ⟨_, (N _ hm).1, rfl, _, rfl⟩
section
variable {prog : Program} {w : World} {A : Around} {E : Value → Shared → Prop} {s : Shared} {h₀ : Heap} {L l : Addr} {m : Str → Option Value} {news : List (Addr × Obj)} {Q : Value → Shared → Prop} {d : Value} {a b : Int} {t u : Tok}
theorem max_0 (hh : A.handled = none) (F : Fr h₀ L s.heap m) (N : News h₀ L s.heap news) (hm : (l, LCg.lst []) ∈ news) (h : ∀ g tk, Fr h₀ L g m → News h₀ L g news → Q d { s with heap := g, toks := tk }) :
    wpAny (model prog w) A (call (.builtin "max") [.ref l] [(Str.ofString "default", d)]) Q E s := mx_0 hh (isl N hm) fun g tk k => h g tk (F.keeps k) (N.grown k)
theorem max_1 (hh : A.handled = none) (F : Fr h₀ L s.heap m) (N : News h₀ L s.heap news) (hm : (l, LCg.lst [.int a t]) ∈ news) (h : ∀ g tk, Fr h₀ L g m → News h₀ L g news → Q (.int a t) { s with heap := g, toks := tk }) :
    wpAny (model prog w) A (call (.builtin "max") [.ref l] [(Str.ofString "default", d)]) Q E s := mx_1 hh (isl N hm) fun g tk k => h g tk (F.keeps k) (N.grown k)
theorem max_2 (hh : A.handled = none) (F : Fr h₀ L s.heap m) (N : News h₀ L s.heap news) (hm : (l, LCg.lst [.int a t, .int b u]) ∈ news) (h : ∀ g tk, Fr h₀ L g m → News h₀ L g news → Q (.int (if b > a then b else a) (if b > a then u else t)) { s with heap := g, toks := tk }) :
    wpAny (model prog w) A (call (.builtin "max") [.ref l] [(Str.ofString "default", d)]) Q E s := mx_2 hh (isl N hm) fun g tk k => h g tk (F.keeps k) (N.grown k)
theorem min_0 (hh : A.handled = none) (F : Fr h₀ L s.heap m) (N : News h₀ L s.heap news) (hm : (l, LCg.lst []) ∈ news) (h : ∀ g tk, Fr h₀ L g m → News h₀ L g news → Q d { s with heap := g, toks := tk }) :
    wpAny (model prog w) A (call (.builtin "min") [.ref l] [(Str.ofString "default", d)]) Q E s := mn_0 hh (isl N hm) fun g tk k => h g tk (F.keeps k) (N.grown k)
theorem min_1 (hh : A.handled = none) (F : Fr h₀ L s.heap m) (N : News h₀ L s.heap news) (hm : (l, LCg.lst [.int a t]) ∈ news) (h : ∀ g tk, Fr h₀ L g m → News h₀ L g news → Q (.int a t) { s with heap := g, toks := tk }) :
    wpAny (model prog w) A (call (.builtin "min") [.ref l] [(Str.ofString "default", d)]) Q E s := mn_1 hh (isl N hm) fun g tk k => h g tk (F.keeps k) (N.grown k)
theorem min_2 (hh : A.handled = none) (F : Fr h₀ L s.heap m) (N : News h₀ L s.heap news) (hm : (l, LCg.lst [.int a t, .int b u]) ∈ news) (h : ∀ g tk, Fr h₀ L g m → News h₀ L g news → Q (.int (if b < a then b else a) (if b < a then u else t)) { s with heap := g, toks := tk }) :
    wpAny (model prog w) A (call (.builtin "min") [.ref l] [(Str.ofString "default", d)]) Q E s := mn_2 hh (isl N hm) fun g tk k => h g tk (F.keeps k) (N.grown k)
end
end My
end
section
set_option maxRecDepth 100000
namespace My
open PySem PySem.W PySem.Calls PyProof.Rows PySem.Spec
theorem IsEnd.two {v : Value} {L : Option Int} (h : IsEnd v L) : v = .none ∨ ∃ (a : Int) (t : Tok), v = .int a t := by
  cases h with
  | none => exact Or.inl rfl
  | int => exact Or.inr ⟨_, _, rfl⟩
def AnyPair (o : Obj) : Prop := ∃ lo hi, IsPair lo hi o
theorem AnyPair.mk' {v1 v2 : Value} {k : Nat} {lo hi : Option Int} (h1 : IsEnd v1 lo) (h2 : IsEnd v2 hi) : AnyPair (tupO #[v1, v2] k) := ⟨lo, hi, v1, v2, k, rfl, h1, h2⟩
theorem ne_bool_same {prog : Program} {w : World} {A : Around} {E : Value → Shared → Prop} {s : Shared} {x y : Bool} {Q : Value → Shared → Prop} (e : x = y) (h : Q (.bool false) s) : wpAny (model prog w) A (compareOp .NotEq (.bool x) (.bool y)) Q E s := by
  refine PyProof.Rows.ne_bool ?_
  have d : (x != y) = false := by rw [e]; exact bne_self_eq_false y
  rw [d]
  exact h
theorem and_t {x y : Bool} (h : x = true) : (x && y) = y := by rw [h, Bool.true_and]
theorem and_f {x y : Bool} (h : x = false) : (x && y) = false := by rw [h, Bool.false_and]
theorem and_f' {x y : Bool} (h : x = false) : (x && y) = x := by rw [h, Bool.false_and]
end My
end
section
set_option maxRecDepth 100000
namespace My
open PySem PySem.W PySem.Calls PyProof.Rows PySem.Spec
/-- a statement behind which one name holds a value that P tells; the ledger as it was -/
def CutV (h₀ : Heap) (L : Addr) (m₀ : Str → Option Value) (x : Str) (P : Value → Prop) (news : List (Addr × Obj)) (s : Shared) (fl : Flow) (s' : Shared) : Prop :=
  fl = .next ∧ ∃ (v : Value) (h : Heap) (tk : Nat), s' = { s with heap := h, toks := tk } ∧ P v ∧ Fr h₀ L h (fun y => if y = x then some v else m₀ y) ∧ News h₀ L h news
theorem cutv_exec {M : Model} {A : Around} {E : Value → Shared → Prop} {s : Shared} {env : Env} {h₀ : Heap} {L : Addr} {m₀ : Str → Option Value} {news : List (Addr × Obj)} {stmt : Stmt} {Q : Flow → Shared → Prop} (x : Str) (P : Value → Prop)
    (_F : Fr h₀ L s.heap m₀) (_N : News h₀ L s.heap news) (h : wpAny M A (exec stmt env) (fun fl s' => CutV h₀ L m₀ x P news s fl s') E s)
    (k : ∀ (v : Value) (h : Heap) (tk : Nat), P v → Fr h₀ L h (fun y => if y = x then some v else m₀ y) → News h₀ L h news → Q .next { s with heap := h, toks := tk }) : wpAny M A (exec stmt env) Q E s := by
  refine wpAny_mono h (fun fl s' c => ?_) fun _ _ e => e
  obtain ⟨rfl, v, h', tk, rfl, p, F', N'⟩ := c
  exact k v h' tk p F' N'
theorem cutv_set {h₀ h : Heap} {L : Addr} {m₀ : Str → Option Value} {x : Str} {P : Value → Prop} {news all : List (Addr × Obj)} {s : Shared} {v : Value} {tk : Nat} (F : Fr h₀ L h (fun y => if y = x then some v else m₀ y)) (N : News h₀ L h all) (sub : ∀ q ∈ news, q ∈ all) (p : P v) : CutV h₀ L m₀ x P news s .next { s with heap := h, toks := tk } :=
  ⟨rfl, v, h, tk, rfl, p, F, fun q hq => N q (sub q hq)⟩
/-- a statement behind which one name holds a new list that P tells -/
def CutL (h₀ : Heap) (L : Addr) (m₀ : Str → Option Value) (x : Str) (P : List Value → Prop) (news : List (Addr × Obj)) (s : Shared) (fl : Flow) (s' : Shared) : Prop :=
  fl = .next ∧ ∃ (l : Addr) (ys : List Value) (h : Heap) (tk : Nat), s' = { s with heap := h, toks := tk } ∧ P ys ∧ Fr h₀ L h (fun y => if y = x then some (.ref l) else m₀ y) ∧ News h₀ L h ((l, LCg.lst ys) :: news)
theorem cutl_exec {M : Model} {A : Around} {E : Value → Shared → Prop} {s : Shared} {env : Env} {h₀ : Heap} {L : Addr} {m₀ : Str → Option Value} {news : List (Addr × Obj)} {stmt : Stmt} {Q : Flow → Shared → Prop} (x : Str) (P : List Value → Prop)
    (_F : Fr h₀ L s.heap m₀) (_N : News h₀ L s.heap news) (h : wpAny M A (exec stmt env) (fun fl s' => CutL h₀ L m₀ x P news s fl s') E s)
    (k : ∀ (l : Addr) (ys : List Value) (h : Heap) (tk : Nat), P ys → Fr h₀ L h (fun y => if y = x then some (.ref l) else m₀ y) → News h₀ L h ((l, LCg.lst ys) :: news) → Q .next { s with heap := h, toks := tk }) : wpAny M A (exec stmt env) Q E s := by
  refine wpAny_mono h (fun fl s' c => ?_) fun _ _ e => e
  obtain ⟨rfl, l, ys, h', tk, rfl, p, F', N'⟩ := c
  exact k l ys h' tk p F' N'
theorem cutl_set {h₀ h : Heap} {L l : Addr} {m₀ : Str → Option Value} {x : Str} {P : List Value → Prop} {news all : List (Addr × Obj)} {s : Shared} {ys : List Value} {tk : Nat} (F : Fr h₀ L h (fun y => if y = x then some (.ref l) else m₀ y)) (N : News h₀ L h all) (hm : (l, LCg.lst ys) ∈ all) (sub : ∀ q ∈ news, q ∈ all) (p : P ys) : CutL h₀ L m₀ x P news s .next { s with heap := h, toks := tk } :=
  ⟨rfl, l, ys, h, tk, rfl, p, F, fun q hq => (List.mem_cons.mp hq).elim (fun e => e ▸ N _ hm) fun hl => N q (sub q hl)⟩
/-- the ends that are there -/
inductive EndsL : Option Int → Option Int → List Value → Prop where
  | nn : EndsL none none []
  | ni {b : Int} {u : Tok} : EndsL none (some b) [.int b u]
  | in {a : Int} {t : Tok} : EndsL (some a) none [.int a t]
  | ii {a b : Int} {t u : Tok} : EndsL (some a) (some b) [.int a t, .int b u]
section
variable {prog : Program} {w : World} {A : Around} {E : Value → Shared → Prop} {s : Shared} {h₀ : Heap} {L l : Addr} {m : Str → Option Value} {news : List (Addr × Obj)} {Q : Value → Shared → Prop} {a b : Option Int} {ys : List Value}
theorem max_ends (hE : EndsL a b ys) (hh : A.handled = none) (F : Fr h₀ L s.heap m) (N : News h₀ L s.heap news) (hm : (l, LCg.lst ys) ∈ news) (h : ∀ v g tk, IsEnd v (metLo a b) → Fr h₀ L g m → News h₀ L g news → Q v { s with heap := g, toks := tk }) :
    wpAny (model prog w) A (call (.builtin "max") [.ref l] [(Str.ofString "default", .none)]) Q E s := by
  cases hE with
  | nn => exact max_0 hh F N hm fun g tk => h _ g tk IsEnd.none
  | ni => exact max_1 hh F N hm fun g tk => h _ g tk IsEnd.int
  | «in» => exact max_1 hh F N hm fun g tk => h _ g tk IsEnd.int
  | ii => exact max_2 hh F N hm fun g tk => h _ g tk IsEnd.int
theorem min_ends (hE : EndsL a b ys) (hh : A.handled = none) (F : Fr h₀ L s.heap m) (N : News h₀ L s.heap news) (hm : (l, LCg.lst ys) ∈ news) (h : ∀ v g tk, IsEnd v (metHi a b) → Fr h₀ L g m → News h₀ L g news → Q v { s with heap := g, toks := tk }) :
    wpAny (model prog w) A (call (.builtin "min") [.ref l] [(Str.ofString "default", .none)]) Q E s := by
  cases hE with
  | nn => exact min_0 hh F N hm fun g tk => h _ g tk IsEnd.none
  | ni => exact min_1 hh F N hm fun g tk => h _ g tk IsEnd.int
  | «in» => exact min_1 hh F N hm fun g tk => h _ g tk IsEnd.int
  | ii => exact min_2 hh F N hm fun g tk => h _ g tk IsEnd.int
end
theorem IsEnd.two' {v : Value} {L : Option Int} (h : IsEnd v L) : (v = Value.none ∧ L = Option.none) ∨ ∃ (a : Int) (t : Tok), v = .int a t ∧ L = some a := by
  cases h with
  | none => exact Or.inl ⟨rfl, rfl⟩
  | int => exact Or.inr ⟨_, _, rfl, rfl⟩
theorem cross_no {L H : Option Int} {a b : Int} (h : ¬ Crossed L H) (e1 : L = some a) (e2 : H = some b) : ¬ b < a := by
  subst e1 e2
  exact h
theorem cross_yes {L H : Option Int} {a b : Int} (h : Crossed L H) (e1 : L = some a) (e2 : H = some b) : b < a := by
  subst e1 e2
  exact h
theorem cross_n1 {L H : Option Int} (h : Crossed L H) (e1 : L = none) : False := by
  subst e1
  exact h
theorem cross_n2 {L H : Option Int} (h : Crossed L H) (e2 : H = none) : False := by
  subst e2
  cases L <;> exact h
end My
end
section
set_option maxRecDepth 100000
namespace My
open PySem PySem.W PySem.Calls PyProof.Rows PySem.Spec
/-- a value without objects of its own, told by P -/
abbrev GivesV (P : Value → Prop) (lent : List (Addr × Obj)) : Heap → Addr → (Str → Option Value) → Shared → (Value → Shared → Prop) → (Value → Shared → Prop) → Prop := fun h₀ L m s Q _ =>
  ∀ (v : Value) (h' : Heap) (tk' : Nat), P v → Fr h₀ L h' m → News h₀ L h' lent → Stay lent s.heap h' → Q v { s with heap := h', toks := tk' }
theorem gives_ret {h₀ h' : Heap} {L : Addr} {m : Str → Option Value} {lent : List (Addr × Obj)} {s : Shared} {Q : Value → Shared → Prop} {tk' : Nat} {P : Value → Prop} {v : Value}
    (hret : ∀ (v : Value) (h' : Heap) (tk' : Nat), P v → Fr h₀ L h' m → News h₀ L h' lent → Stay lent s.heap h' → Q v { s with heap := h', toks := tk' }) (p : P v) (F : Fr h₀ L h' m) (N : News h₀ L h' lent) (S : Stay lent s.heap h') : Q v { s with heap := h', toks := tk' } := hret v h' tk' p F N S
section
variable {prog : Program} {w : World} {K : Frag} {p : Program} {loose : List Str} {mean : ExcName → Option Value} {mg mb : Str → Option Value} {room : Nat} {f : Addr} {vs : List Value} {news lent : List (Addr × Obj)}
  {dp un : Nat} {gd : Option (List Code)} {cn : Str} {cs : Scope} {a : Addr} {ccd : Value} {cl : List (Str × Addr)} {outer : List Env} {A₀ : Around} {base h₀ : Heap} {L : Addr} {m : Str → Option Value} {s : Shared} {Q E : Value → Shared → Prop}
theorem use_gives {P : Value → Prop} (D : Does prog w K p loose mean mg mb room f lent vs (GivesV P lent)) (B : Below A₀ base outer h₀) (F : Fr h₀ L s.heap m) (X : K.In h₀) (N : News h₀ L s.heap news) (T : Top p loose mean mg mb h₀) (hk : cs.kind = .function)
    (hd : dp + room < recursionLimit) (hu : un + 10 * room < cLine) (sub : ∀ q ∈ lent, q ∈ news) (h : ∀ (v : Value) (h' : Heap) (tk' : Nat), P v → Fr h₀ L h' m → News h₀ L h' news → Q v { s with heap := h', toks := tk' }) :
    wpAny (model prog w) (ktrTop dp un gd cn cs L a ccd cl outer) (call (.ref f) vs) Q E s :=
  D _ _ _ _ _ _ _ _ _ _ _ _ _ _ _ _ _ B F X (fun q hq => N q (sub q hq)) T hk hd hu fun v h' tk' p F' N' S => h v h' tk' p F' (stay_news S N N' fun q hq => (N q (sub q hq)).1)
end
def plusO : Option Int → Option Int → Option Int
  | some a, some b => some (a + b)
  | _, _ => none
def mulO (k : Int) : Option Int → Option Int
  | some a => some (a * k)
  | none => none
def fdivO (d : Int) : Option Int → Option Int
  | some a => some (Int.fdiv a d)
  | none => none
/-- an end of at most so many figures -/
def EndIn (B : Int) : Option Int → Prop
  | some a => -B ≤ a ∧ a ≤ B
  | none => True
end My
namespace My
def timesLo (k : Int) (lo hi : Option Int) : Option Int := if k = 0 then some 0 else if k < 0 then mulO k hi else mulO k lo
def timesHi (k : Int) (lo hi : Option Int) : Option Int := if k = 0 then some 0 else if k < 0 then mulO k lo else mulO k hi
def restLo (d : Int) : Option Int → Option Int → Option Int
  | some a, some b => some (if Int.fdiv a d = Int.fdiv b d then Int.fmod a d else 0)
  | _, _ => some 0
def restHi (d : Int) : Option Int → Option Int → Option Int
  | some a, some b => some (if Int.fdiv a d = Int.fdiv b d then Int.fmod b d else d - 1)
  | _, _ => some (d - 1)
theorem times_z {k : Int} {lo hi : Option Int} (h : k = 0) : timesLo k lo hi = some 0 ∧ timesHi k lo hi = some 0 := ⟨if_pos h, if_pos h⟩
theorem times_n {k : Int} {lo hi : Option Int} (h : k < 0) : timesLo k lo hi = mulO k hi ∧ timesHi k lo hi = mulO k lo :=
  have h0 : ¬ k = 0 := by omega
  ⟨(if_neg h0).trans (if_pos h), (if_neg h0).trans (if_pos h)⟩
theorem times_p {k : Int} {lo hi : Option Int} (h : 0 < k) : timesLo k lo hi = mulO k lo ∧ timesHi k lo hi = mulO k hi :=
  have h0 : ¬ k = 0 := by omega
  have h1 : ¬ k < 0 := by omega
  ⟨(if_neg h0).trans (if_neg h1), (if_neg h0).trans (if_neg h1)⟩
theorem rest_same {d a b : Int} (h : Int.fdiv a d = Int.fdiv b d) : restLo d (some a) (some b) = some (Int.fmod a d) ∧ restHi d (some a) (some b) = some (Int.fmod b d) :=
  ⟨congrArg some (if_pos h), congrArg some (if_pos h)⟩
theorem rest_apart {d a b : Int} (h : ¬ Int.fdiv a d = Int.fdiv b d) : restLo d (some a) (some b) = some 0 ∧ restHi d (some a) (some b) = some (d - 1) :=
  ⟨congrArg some (if_neg h), congrArg some (if_neg h)⟩
end My
namespace My
open PySem PySem.W PySem.Calls PyProof.Rows PySem.Spec
def narrowB : Option Int → Option Int → Bool
  | some a, some b => decide (b - a ≤ 12)
  | _, _ => false
def Ord2 : Option Int → Option Int → Prop
  | some a, some b => a ≤ b
  | _, _ => True
def StrOk (o : Obj) : Prop := ∃ lo hi, IsPair lo hi o ∧ EndIn (10 * T60) lo ∧ EndIn (10 * T60) hi ∧ Ord2 lo hi
theorem str_nn {k : Nat} : StrOk (tupO #[.none, .none] k) := ⟨none, none, ⟨_, _, _, rfl, IsEnd.none, IsEnd.none⟩, trivial, trivial, trivial⟩
theorem str_ni {b : Int} {t : Tok} {k : Nat} (h : -(10 * T60) ≤ b ∧ b ≤ 10 * T60) : StrOk (tupO #[.none, .int b t] k) := ⟨none, some b, ⟨_, _, _, rfl, IsEnd.none, IsEnd.int⟩, trivial, h, trivial⟩
theorem str_in {a : Int} {t : Tok} {k : Nat} (h : -(10 * T60) ≤ a ∧ a ≤ 10 * T60) : StrOk (tupO #[.int a t, .none] k) := ⟨some a, none, ⟨_, _, _, rfl, IsEnd.int, IsEnd.none⟩, h, trivial, trivial⟩
theorem str_ii {a b : Int} {t u : Tok} {k : Nat} (h : -(10 * T60) ≤ a ∧ a ≤ 10 * T60) (g : -(10 * T60) ≤ b ∧ b ≤ 10 * T60) (o : a ≤ b) : StrOk (tupO #[.int a t, .int b u] k) := ⟨some a, some b, ⟨_, _, _, rfl, IsEnd.int, IsEnd.int⟩, h, g, o⟩
theorem numb_mag (v : Int) : -(10 * T60) ≤ numb v ∧ numb v ≤ 10 * T60 := ⟨mag_lo (numb_in v), mag_hi (numb_in v)⟩
theorem hi_ab (v x : Int) : (-(10 * T60) ≤ numb v + (if numb x < 0 then -numb x else numb x) ∧ numb v + (if numb x < 0 then -numb x else numb x) ≤ 10 * T60) ∧ numb v ≤ numb v + (if numb x < 0 then -numb x else numb x) := by
  have a := numb_in v
  have b := numb_in x
  have e := T60_eq
  split <;> omega
theorem hi_mod (v x : Int) : (-(10 * T60) ≤ numb v + Int.fmod x 13 ∧ numb v + Int.fmod x 13 ≤ 10 * T60) ∧ numb v ≤ numb v + Int.fmod x 13 := by
  have a := numb_in v
  have b := Int.fmod_nonneg_of_pos x (show (0 : Int) < 13 by decide)
  have c := Int.fmod_lt_of_pos x (show (0 : Int) < 13 by decide)
  have e := T60_eq
  omega
end My
end
section
set_option maxRecDepth 100000
set_option maxHeartbeats 4000000
namespace My
open PySem
section
variable {prog : Program} {w : World} {A : Around} {E : Value → Shared → Prop} {s : Shared}
/-- a new list is filled by a range's iterator, whatever its make (ito) -/
theorem fill_range {R : Result → Shared → Prop} {r : Addr} {a b c : Int} {t u v : Tok} {n : Nat} (hr : IsRange s.heap r a b c t u v) (hn : Builtin.Range.rangeSize a b c = n) (hlen : n ≤ 2 ^ 24) (S : Addr) (res : Value) (c₀ : Nat)
    (at_S : s.heap.get? S = some { cls := .type "list", data := .seq #[] c₀ }) (ito : Obj) {St : Nat → Heap → Prop} (W : Walks prog w A.in1 s.heap.objs.size [s.heap.objs.size] [s.heap.objs.size] n (fun i v => ∃ t, v = .int (a + i * c) t) St)
    (st : ∀ g : Heap, g.get? s.heap.objs.size = some ito → St 0 g)
    (iter : ∀ (Q : Value → Shared → Prop) (E' : Value → Shared → Prop), Q (.ref s.heap.objs.size) { s with heap := s.heap.push ito } → wpAny (model prog w) A.in1 (pyIter (.ref r)) Q E' s) (hito : (s.heap.push ito).get? s.heap.objs.size = some ito)
    (out : ∀ g tk acc k, (∀ b o, b ≠ S → s.heap.get? b = some o → g.get? b = some o) → g.get? S = some { cls := .type "list", dict := none, data := .seq acc k, slots := #[] } → ItemsOf (fun i v => ∃ t, v = .int (a + i * c) t) acc n → R (.ok (.ret res)) { s with heap := g, toks := tk }) :
    wpAny (model prog w) A.in1 (Builtin.List.listExtendWith (.ref S) (.ref r) res)
      (fun fin s' => match fin with
        | .done f => R (.ok f) s'
        | .again c' => c'.quiet = true ∧ codeAny (model prog w) A c' R s') (fun e s' => R (.error e) s') s := by
  have ne_r : S ≠ r := fun e => by rw [e, hr] at at_S; simp at at_S
  have ne_I : S ≠ s.heap.objs.size := Nat.ne_of_lt (Heap.lt_size at_S)
  have off : S ∉ [s.heap.objs.size] := fun q => ne_I (List.mem_singleton.mp q)
  have loop : ∀ (g : Heap) (k tk : Nat), g.get? s.heap.objs.size = some ito → (∀ b o, b ≠ S → s.heap.get? b = some o → g.get? b = some o) → g.get? S = some { cls := .type "list", data := .seq #[] k } →
      codeAny (model prog w) A (.builtin "list.extend.loop" ⟨[.ref S, .ref s.heap.objs.size, res], []⟩) R { s with heap := g, toks := tk } := by
    intro g k tk at_I keeps at_S'
    refine codeAny_extend_loopS W.toS (by rw [sizeLine_eq]; omega) S off res n 0 _ #[] k rfl (Nat.zero_le _) (st _ at_I) at_S' (ItemsOf.nil _) fun s' acc k' mv at_S'' its => ?_
    rw [Moved.eq_with mv]
    refine out s'.heap s'.toks acc k' (fun b o bS e => mv.heap b o (fun q => ?_) (keeps b o bS e)) at_S'' its
    rcases List.mem_cons.mp q with q | q
    · exact bS q
    · exact absurd (Heap.lt_size e) (by rw [List.mem_singleton.mp q]; exact Nat.lt_irrefl _)
  unfold Builtin.List.listExtendWith
  refine wpAny_bind (wpAny_typeOf (T := "range") ⟨_, hr, rfl⟩ ?_)
  have z1 : Builtin.List.listSameRef (.ref S) (.ref r) = false := by simp [Builtin.List.listSameRef, ne_r]
  have z2 : (Value.type "range" == Value.type "list") = false := by decide
  have z3 : (Value.type "range" == Value.type "tuple") = false := by decide
  simp only [z1, z2, z3, Bool.or_false, Bool.false_eq_true, if_false]
  refine wpAny_bind (iter _ _ ?_)
  refine wpAny_bind (wpAny_holding (wpAny_hint_range (n := n) (Heap.get?_push_of_some _ hr) hn hlen ?_))
  have at_S1 := Heap.get?_push_of_some ito at_S
  refine wpAny_ite_split (fun _ => ?_) (fun _ => wpAny_pure ⟨plainId_quiet F.plain_extend_loop _, loop _ c₀ _ hito (fun b o _ e => Heap.get?_push_of_some _ e) at_S1⟩)
  refine wpAny_bind (wpAny_rule ?_); refine wpAny_bind ?_
  show wpAny _ _ (updateSeq S (·.push .none) >>= fun _ => updateSeq S (·.pop)) _ _ _; refine wpAny_bind (wpAny_updateSeq at_S1 rfl ?_)
  have at_S2 := Heap.get?_update_self (Obj.mapSeq (·.push Value.none)) at_S1 rfl
  refine wpAny_updateSeq (hz := by seq_fits) at_S2 rfl ?_
  have at_S3 := Heap.get?_update_self (Obj.mapSeq (·.pop)) at_S2 rfl
  refine wpAny_pure ⟨plainId_quiet F.plain_extend_loop _, loop _ _ _ ?_ (fun b o bS e => ?_) at_S3⟩
  · exact (Heap.get?_update_other _ _ ne_I).trans ((Heap.get?_update_other _ _ ne_I).trans hito)
  · exact (Heap.get?_update_other _ _ (Ne.symm bS)).trans ((Heap.get?_update_other _ _ (Ne.symm bS)).trans (Heap.get?_push_of_some _ e))
/-- the same, by either make -/
theorem fill_any {R : Result → Shared → Prop} {r : Addr} {a b c : Int} {t u v : Tok} {n : Nat} (hh : A.handled = none) (hr : IsRange s.heap r a b c t u v) (hn : Builtin.Range.rangeSize a b c = n) (hlen : n ≤ 2 ^ 24) (S : Addr) (res : Value) (c₀ : Nat)
    (at_S : s.heap.get? S = some { cls := .type "list", data := .seq #[] c₀ })
    (out : ∀ g tk acc k, (∀ b o, b ≠ S → s.heap.get? b = some o → g.get? b = some o) → g.get? S = some { cls := .type "list", dict := none, data := .seq acc k, slots := #[] } → ItemsOf (fun i v => ∃ t, v = .int (a + i * c) t) acc n → R (.ok (.ret res)) { s with heap := g, toks := tk }) :
    wpAny (model prog w) A.in1 (Builtin.List.listExtendWith (.ref S) (.ref r) res)
      (fun fin s' => match fin with
        | .done f => R (.ok f) s'
        | .again c' => c'.quiet = true ∧ codeAny (model prog w) A c' R s') (fun e s' => R (.error e) s') s := by
  by_cases sm : Builtin.Range.small a b c = true
  · refine fill_range hr hn hlen S res c₀ at_S _ (Walks.range (prog := prog) (w := w) (A := A.in1) hh s.heap.objs.size a c n) (fun g at_g => ?_) (fun Q' E' q => wpAny_pyIter_range hr sm q) (Heap.get?_push_size _ rfl) out
    show IsRangeIter _ _ _ _ _
    rw [hn] at at_g
    simpa using at_g
  · refine fill_range hr hn hlen S res c₀ at_S _ (Walks.longrange (prog := prog) (w := w) (A := A.in1) hh s.heap.objs.size a c n) (fun g at_g => ?_) (fun Q' E' q => wpAny_pyIter_longrange hr (by simpa using sm) q) (Heap.get?_push_size _ rfl) out
    show IsLongIter _ _ _ _ _
    rw [hn] at at_g
    simpa using at_g
/-- list(range(..)) of at most 2 ^ 24 numbers, whatever their figures -/
theorem list_any {Q : Value → Shared → Prop} {r : Addr} {a b c : Int} {t u v : Tok} {n : Nat} (hh : A.handled = none) (hr : IsRange s.heap r a b c t u v) (hn : Builtin.Range.rangeSize a b c = n) (hlen : n ≤ 2 ^ 24)
    (out : ∀ g tk acc k, (∀ b o, s.heap.get? b = some o → g.get? b = some o) → g.get? s.heap.objs.size = some { cls := .type "list", dict := none, data := .seq acc k, slots := #[] } → ItemsOf (fun i v => ∃ t, v = .int (a + i * c) t) acc n →
      Q (.ref s.heap.objs.size) { s with heap := g, toks := tk }) :
    wpAny (model prog w) A (call (.type "list") [.ref r]) Q E s := by
  refine callType_codes (Q₁ := fun obj s₁ => obj = .ref s.heap.objs.size ∧ s₁ = { s with heap := s.heap.push { cls := .type "list", data := .seq #[] } }) F.called_list (F.typeCall_list_1 _) F.entry_list_init (code_list_new _ ⟨rfl, rfl⟩) fun obj s₁ h₁ => ?_
  obtain ⟨rfl, rfl⟩ := h₁
  have at_S : (s.heap.push { cls := .type "list", data := .seq #[] }).get? s.heap.objs.size = some { cls := .type "list", data := .seq #[] } := Heap.get?_push_size _ rfl
  refine ⟨⟨_, at_S, rfl⟩, F.args_list_init_2 _ _, ?_⟩
  have hr' := Heap.get?_push_of_some { cls := .type "list", data := .seq #[] } hr
  have ne_r : s.heap.objs.size ≠ r := fun e => absurd (Heap.lt_size hr) (by rw [← e]; exact Nat.lt_irrefl _)
  show wpAny _ _ (do let old ← Builtin.List.listItems (.ref s.heap.objs.size); Builtin.List.listUpdate (.ref s.heap.objs.size) (fun _ => #[]); letGo old.toList.reverse; Builtin.List.listExtendWith (.ref s.heap.objs.size) (.ref r) .none) _ _ _
  refine wpAny_bind ?_; unfold Builtin.List.listItems; refine wpAny_bind (wpAny_seqItems at_S rfl (wpAny_pure ?_))
  show wpAny _ _ (updateSeq s.heap.objs.size (fun _ => #[]) >>= fun _ => letGo (#[] : Array Value).toList.reverse >>= fun _ => Builtin.List.listExtendWith (.ref s.heap.objs.size) (.ref r) .none) _ _ _
  refine wpAny_bind (wpAny_updateSeq at_S rfl ?_)
  have at_S2 := Heap.get?_update_self (Obj.mapSeq (fun _ => (#[] : Array Value))) at_S rfl
  have oth : ∀ b o, b ≠ s.heap.objs.size → s.heap.get? b = some o → ((s.heap.push { cls := .type "list", data := .seq #[] }).update s.heap.objs.size (Obj.mapSeq (fun _ => (#[] : Array Value)))).get? b = some o := fun b o hb e => (Heap.get?_update_other _ _ (Ne.symm hb)).trans (Heap.get?_push_of_some _ e)
  have hr2 := oth r _ (Ne.symm ne_r) hr
  refine wpAny_bind (wpAny_letGo ?_)
  refine' fill_any (t := t) (u := u) (v := v) (A := A.in1) (R := wants (fun r s₂ => r = Value.none ∧ Q (Value.ref s.heap.objs.size) s₂) E) hh ?_ hn hlen s.heap.objs.size .none ?k0 ?k2 fun g tk acc k keeps at_g its => ?k3
  case k2 => exact at_S2
  · exact hr2
  case k3 => exact ⟨rfl, out g tk acc k (fun b o e => keeps b o (Nat.ne_of_lt (Heap.lt_size e)) (oth b o (Nat.ne_of_lt (Heap.lt_size e)) e)) at_g its⟩
end
end My
end
section
set_option maxRecDepth 100000
namespace My
open PySem PySem.W PySem.Calls PyProof.Rows PySem.Spec
theorem ints_of_items {a : Int} : ∀ {n : Nat} {vs : List Value}, vs.length = n → (∀ (j : Nat) (v : Value), vs[j]? = some v → ∃ t : Tok, v = Value.int (a + (j : Int) * 1) t) → IntsAre vs (rangeKs a n) := by
  intro n
  induction n generalizing a with
  | zero =>
    intro vs hl _
    have : vs = [] := List.length_eq_zero_iff.mp hl
    subst this
    exact .nil
  | succ n ih =>
    intro vs hl hv
    cases vs with
    | nil => cases hl
    | cons v vs =>
      obtain ⟨t, e⟩ := hv 0 v rfl
      subst e
      have r : rangeKs a (n + 1) = a :: rangeKs (a + 1) n := by
        simp only [rangeKs, List.range_succ_eq_map, List.map_cons, List.map_map, Int.natCast_zero, Int.add_zero]
        congr 1
        apply List.map_congr_left
        intro i _
        simp only [Function.comp]
        omega
      rw [r]
      have z : a + ((0 : Nat) : Int) * 1 = a := by omega
      rw [z]
      refine .cons a t (ih (by simpa using hl) fun j u hu => ?_)
      obtain ⟨t', e'⟩ := hv (j + 1) u (by simpa using hu)
      refine ⟨t', ?_⟩
      rw [e']
      congr 1
      omega
section
variable {prog : Program} {w : World} {A : Around} {E : Value → Shared → Prop} {s : Shared} {h₀ : Heap} {L r : Addr} {m : Str → Option Value} {news : List (Addr × Obj)} {Q : Value → Shared → Prop} {a b : Int} {t u v : Tok}
/-- list(range(a, b)), a below b, of few numbers -/
theorem list_rng (hh : A.handled = none) (F : Fr h₀ L s.heap m) (N : News h₀ L s.heap news) (hr : IsRange s.heap r a b 1 t u v) (lo : a < b) (hi : b - a ≤ 1000)
    (h : ∀ (l : Addr) (vs : List Value) (nn : Nat) (g : Heap) (tk : Nat), IntsAre vs (rangeKs a (b - a).toNat) → Fr h₀ L g m → News h₀ L g ((l, listOf vs.toArray nn) :: news) → (∀ q ∈ news, q.1 < l) → Q (.ref l) { s with heap := g, toks := tk }) :
    wpAny (model prog w) A (call (.type "list") [.ref r]) Q E s := by
  have hn : Builtin.Range.rangeSize a b 1 = ((b - a).toNat : Int) := by
    unfold Builtin.Range.rangeSize
    rw [if_pos (by decide), if_pos lo]
    omega
  refine list_any hh hr hn (by omega) fun g tk acc k up at_l its => ?_
  have e : acc = acc.toList.toArray := by simp
  have below : ∀ q ∈ news, q.1 < s.heap.objs.size := fun q hq => Heap.lt_size (N q hq).1
  refine h s.heap.objs.size acc.toList k g tk (ints_of_items (by have := its.1; simpa using this) fun j v hv => its.2 j v (by simpa using hv)) (F.keeps up) (fun q hq => ?_) below
  rcases List.mem_cons.mp hq with z | z
  · subst z
    refine ⟨?_, Ne.symm (Nat.ne_of_lt F.ns.lt), next_is_new F⟩
    rw [← e]
    exact at_l
  · exact N.grown up q z
end
end My
end
section
set_option maxRecDepth 100000
namespace My
open PySem PySem.W PySem.Calls PyProof.Rows PySem.Spec
section
variable {prog : Program} {w : World} {A A₀ : Around} {s : Shared} {base h₀ : Heap} {L : Addr} {m : Str → Option Value} {lent : List (Addr × Obj)} {K : Frag} {p : Program} {loose : List Str} {mean : ExcName → Option Value} {mg mb : Str → Option Value}
  {env : Env} {outer : List Env} {R : Result → Shared → Prop} {name qual : Str} {params : Arguments} {body : List Stmt} {scope : Scope} {dV kV doc pm cdv ct oc : Value} {an od : Option Addr} {osl : Array (Option Value)} {f : Addr} {args : Args} {binds : List (Str × Value)}
/-- as enter, for a def some of whose names are cells (a comprehension of its closes over them) -/
theorem enterC (B : Below A₀ base outer h₀) (F : Fr h₀ L s.heap m) (X₀ : K.In h₀) (N : News h₀ L s.heap lent) (T : Top p loose mean mg mb h₀) (hA : A.frames = some (env :: outer)) (hf : env.frame = some L) (hke : env.scope.kind = .function)
    (ho : K.lookup f = some ⟨oc, od, .func (fnOf name qual params body scope dV kV doc pm an cdv ct), osl⟩) (hcd : codeIn K cdv qual = true) (hroom : A.depth < recursionLimit)
    (hbind : BindsTo s (fnOf name qual params body scope dV kV doc pm an cdv ct) args binds) (hall : (binds.all fun y => scope.names.lookup y.1 == some .local || scope.names.lookup y.1 == some .cell) = true) (hone : ((cellsFrom 0 scope.names []).map (·.1)).Nodup)
    (h : ∀ g L' h₁ tk cells, Stay lent s.heap g → Fr h₀ L g m → Fr g L' h₁ (bindL (envOfC qual scope L' f cdv).kindOf binds fun _ => none) → News g L' h₁ (cells ++ lent) → CellsAre (bindC (envOfC qual scope L' f cdv).kindOf binds fun _ => none) (cellsFrom (L' + 1) scope.names []) cells →
      Below A base (env :: outer) g → K.In g → Top p loose mean mg mb g → (∀ q ∈ lent, q.1 < L') →
      wpAny (model prog w) (A.deeper (envOfC qual scope L' f cdv)) (execs body (envOfC qual scope L' f cdv)) (fun fl s' => LeaveK h₀ L m g R (match fl with | .ret v => v | _ => .none) s')
        (fun e s' => wpAny (model prog w) (A.deeper (envOfC qual scope L' f cdv)) (leaving (envOfC qual scope L' f cdv) e) (fun _ s'' => R (.error e) s'') (fun e' s'' => R (.error e') s'') s') { s with heap := h₁, toks := tk })
    (hco : scope.isCoroutine = false) (hgen : scope.isGenerator = false) (hk : scope.kind = .function) : codeAny (model prog w) A (.call (.ref f) args) R s := by
  obtain ⟨FG, BG, st, lv⟩ := groundX (R := R) B F N hA hf hke
  have X := X₀.keeps F.keep
  refine codeAny_call_function (fd := fnOf name qual params body scope dV kV doc pm an cdv ct) hroom (X _ _ ho) rfl hco hgen rfl (codeRec_of X hcd) (hbind _ _ _ _ ?_)
  refine wpAny_newFunctionEnv_cells hk (kindsX hall _) fun fresh hfr s' inC => ?_
  subst hfr
  have up := inC.toInCall.keep
  refine ⟨(T.nolimit.keeps F.keep).keeps up, codeAny_func ?_⟩
  obtain ⟨h₁, tk, hs', _⟩ := inC.done
  subst hs'
  have nod := cellsFrom_names scope.names 0 (s.heap.objs.size + 1) [] [] rfl ▸ hone
  obtain ⟨cells, NC, Y⟩ := Cl.news (h₀ := s.heap) (L := s.heap.objs.size) (Nat.le_refl _) fun n c hm => ⟨inC.cell n c (lookup_of_mem_nodup nod hm), inC.above n c hm⟩
  have old : ∀ q ∈ lent, q.1 < s.heap.objs.size := fun q hq => Heap.lt_size (N q hq).1
  refine wpAny_mono (h _ s.heap.objs.size h₁ tk cells (fun b o e nb => hideAll_get _ e nb) FG ⟨inC.toInCall.ns, fun b o e => up b o (of_hideAll _ e), Nat.le_of_eq (hideAll_size _ _)⟩ (fun q hq => ?_) Y BG (X₀.keeps st) (T.keeps st) old) (fun fl s' hl => lv _ _ hl) fun _ _ y => y
  rcases List.mem_append.mp hq with hq | hq
  · obtain ⟨c1, c2, c3⟩ := NC q hq
    refine ⟨c1, c2, ?_⟩
    cases e : (hideAll s.heap (lent.map (·.1))).get? q.1 with
    | none => rfl
    | some o =>
      have z := of_hideAll _ e
      rw [c3] at z
      cases z
  · exact ⟨up _ _ (N q hq).1, Nat.ne_of_lt (old q hq), hideAll_none _ (List.mem_map_of_mem hq)⟩
end
section
variable {prog : Program} {w : World} {A : Around} {E : Value → Shared → Prop} {s : Shared} {env : Env} {h₀ : Heap} {x : Str} {body : List Stmt} {Q : Flow → Shared → Prop}
/-- a for over a list of any values of the ledger that keeps nothing from turn to turn -/
theorem vals_loop {l : Addr} {vs : List Value} {nn : Nat} {m₀ : Str → Option Value} {news : List (Addr × Obj)} (stored : List Str) (hh : A.handled = none) (hl : (l, listOf vs.toArray nn) ∈ news) (F : Fr h₀ env.locals s.heap m₀) (N : News h₀ env.locals s.heap news)
    (turn : ∀ (v : Value) (u : Str → Option Value) (h : Heap) (tk : Nat) (own : List (Addr × Obj)), v ∈ vs → OwnOff own (news.map (·.1)) →
      Fr h₀ env.locals h (fun y => if y = x then some v else kstB (fun z => if stored.contains z then u z else m₀ z) [] y) → News h₀ env.locals h (news ++ own) →
      wpAny (model prog w) A (execs body env) (InvPostN h₀ env.locals (KstS (σ := Unit) (fun _ => news) (fun _ => []) (fun _ => True) x stored m₀ (fun _ _ => True) []) own (news.map (·.1)) { s with heap := h, toks := tk } Q) E { s with heap := h, toks := tk })
    (done : ∀ (u : Str → Option Value) (h : Heap) (tk : Nat), Fr h₀ env.locals h (fun y => if y = x then u y else kstB (fun z => if stored.contains z then u z else m₀ z) [] y) → News h₀ env.locals h news →
      Q .next { s with heap := h, toks := tk }) :
    wpAny (model prog w) A (pyIter (.ref l)) (fun it s₂ => LoopAtV prog w A h₀ env x body Q E it s₂) E s := by
  have at_l := (N _ hl).1
  have isl : s.heap.IsList l vs.toArray := ⟨_, at_l, rfl, nn, rfl⟩
  have sep : l ≠ s.heap.objs.size := Nat.ne_of_lt (Heap.lt_size at_l)
  have lt_all : ∀ q ∈ news, q.1 ≠ s.heap.objs.size := fun q hq => Nat.ne_of_lt (Heap.lt_size (N q hq).1)
  refine wpAny_pyIter_list isl ?_
  have st0 : (s.heap.push { cls := .type "list_iterator", data := .fields #[.ref l, .int 0 0] }).IsListIter s.heap.objs.size l 0 := ⟨_, Heap.get?_push_size _ rfl, rfl, rfl⟩
  refine ⟨s.heap.objs.size, [s.heap.objs.size, l], [s.heap.objs.size], vs.toArray.size, _, _, m₀, news, (fun _ m nx => Same news x stored m₀ m nx), rfl, Walks.list hh s.heap.objs.size l sep vs.toArray, ?_, ?_, ?_, ⟨st0, isl.push _⟩, F.push _,
    (fun q hq => ⟨Heap.get?_push_of_some _ (N q hq).1, (N q hq).2⟩), ⟨(), rfl, True.intro, List.forall_mem_nil _, fun _ _ _ _ => rfl, True.intro⟩, ?_, ?_⟩
  · intro q
    rcases List.mem_cons.mp q with e | e
    · exact absurd F.ns.lt (by rw [e]; exact Nat.lt_irrefl _)
    · exact (N _ hl).2.1 (List.mem_singleton.mp e).symm
  · intro b hb
    rw [List.mem_singleton.mp hb]
    exact next_is_new F
  · intro q hq e
    exact lt_all q hq (List.mem_singleton.mp e)
  · rintro i v m₁ news₁ s₁ own ⟨g, tk, rfl⟩ hi hv ⟨_, e0, _, k1, k2, _⟩ _ inFp ownAt _ _ F₁ N₁
    have e0' : news = news₁ := e0.symm
    subst e0'
    have off : OwnOff (own.filter fun q => decide (q.1 = s.heap.objs.size)) (news.map (·.1)) := by
      intro q hq b hb e
      obtain ⟨r, hr, rfl⟩ := List.mem_map.mp hb
      have e1 : q.1 = s.heap.objs.size := by simpa using (List.mem_filter.mp hq).2
      exact lt_all r hr (e ▸ e1)
    have N₂ : News h₀ env.locals g (news ++ own.filter fun q => decide (q.1 = s.heap.objs.size)) := by
      intro q hq
      rcases List.mem_append.mp hq with h | h
      · exact N₁ q (List.mem_append.mpr (.inr h))
      · exact N₁ q (List.mem_append.mpr (.inl (List.mem_filter.mp h).1))
    have mem : v ∈ vs := by
      have : vs[i]? = some v := by simpa using hv
      exact List.mem_of_getElem? this
    refine wpAny_mono (turn v m₁ g tk _ mem off (kst_fr k1 k2 F₁) N₂) (fun fl s₂ post => ?_) fun _ _ e => e
    have fin : InvEndN h₀ env.locals (KstS (σ := Unit) (fun _ => news) (fun _ => []) (fun _ => True) x stored m₀ (fun _ _ => True) []) (own.filter fun q => decide (q.1 = s.heap.objs.size)) (news.map (·.1)) { s with heap := g, toks := tk } s₂ →
        LoopStepU h₀ env.locals [s.heap.objs.size] own (fun m nx => Same news x stored m₀ m nx) { s with heap := g, toks := tk } .next s₂ := by
      rintro ⟨h', tk', m', led, nx, e, F', N', sub1, sub2, adr, hm⟩
      have enx : nx = news := by obtain ⟨_, e, _⟩ := hm; exact e
      refine ⟨rfl, h', tk', m', nx, e, F', fun q hq => ?_, fun q hq => ?_, ?_⟩
      · rcases List.mem_append.mp hq with h | h
        · by_cases eI : q.1 = s.heap.objs.size
          · exact N' q (sub2 q (List.mem_filter.mpr ⟨h, by simpa using eI⟩))
          · have el : q.1 = l := by
              rcases List.mem_cons.mp (inFp q h) with e | e
              · exact absurd e eI
              · exact List.mem_singleton.mp e
            have ho := ownAt q h
            have hn := (N₁ _ (List.mem_append.mpr (.inr hl))).1
            rw [el] at ho
            have eo : q.2 = listOf vs.toArray nn := Option.some.inj (ho.symm.trans hn)
            have eq : q = (l, listOf vs.toArray nn) := Prod.ext el eo
            rw [eq]
            exact N' _ (sub1 _ (by rw [enx]; exact hl))
        · exact N' q (sub1 q h)
      · rw [enx] at hq
        intro e
        exact lt_all q hq (List.mem_singleton.mp e)
      · exact hm
    cases fl with
    | ret v => exact .ret post
    | brk => exact .brk post
    | next => exact .next (fin post)
    | cont => exact .cont (fin post)
  · rintro h' tk m' nx F' N' _ ⟨_, e0, _, k1, k2, _⟩
    have e0' : news = nx := e0.symm
    subst e0'
    exact done m' h' tk (kst_frOut k1 k2 F') N'
/-- the same over a list of two -/
theorem two_loop {l : Addr} {a b : Value} {nn : Nat} {m₀ : Str → Option Value} {news : List (Addr × Obj)} (stored : List Str) (hh : A.handled = none) (hl : (l, listOf #[a, b] nn) ∈ news) (F : Fr h₀ env.locals s.heap m₀) (N : News h₀ env.locals s.heap news)
    (turn : ∀ (v : Value), v = a ∨ v = b → ∀ (u : Str → Option Value) (h : Heap) (tk : Nat) (own : List (Addr × Obj)), OwnOff own (news.map (·.1)) →
      Fr h₀ env.locals h (fun y => if y = x then some v else kstB (fun z => if stored.contains z then u z else m₀ z) [] y) → News h₀ env.locals h (news ++ own) →
      wpAny (model prog w) A (execs body env) (InvPostN h₀ env.locals (KstS (σ := Unit) (fun _ => news) (fun _ => []) (fun _ => True) x stored m₀ (fun _ _ => True) []) own (news.map (·.1)) { s with heap := h, toks := tk } Q) E { s with heap := h, toks := tk })
    (done : ∀ (u : Str → Option Value) (h : Heap) (tk : Nat), Fr h₀ env.locals h (fun y => if y = x then u y else kstB (fun z => if stored.contains z then u z else m₀ z) [] y) → News h₀ env.locals h news →
      Q .next { s with heap := h, toks := tk }) :
    wpAny (model prog w) A (pyIter (.ref l)) (fun it s₂ => LoopAtV prog w A h₀ env x body Q E it s₂) E s :=
  vals_loop (vs := [a, b]) stored hh hl F N (fun v u h tk own hv => turn v (by
    rcases List.mem_cons.mp hv with e | e
    · exact .inl e
    · exact .inr (List.mem_singleton.mp e)) u h tk own) done
end
theorem inv_end {h₀ h' : Heap} {L : Addr} {m' m₀ : Str → Option Value} {news led own : List (Addr × Obj)} {x : Str} {stored : List Str} {s₁ : Shared} {tk : Nat} (F : Fr h₀ L h' m') (N : News h₀ L h' led) (sub1 : ∀ p ∈ news, p ∈ led) (sub2 : ∀ p ∈ own, p ∈ led)
    (same : ∀ z, z ≠ x → stored.contains z = false → m' z = m₀ z) :
    InvEndN h₀ L (KstS (σ := Unit) (fun _ => news) (fun _ => []) (fun _ => True) x stored m₀ (fun _ _ => True) []) own (news.map (·.1)) s₁ { s₁ with heap := h', toks := tk } :=
  ⟨h', tk, m', led, news, rfl, F, N, sub1, sub2, rfl, (), rfl, True.intro, List.forall_mem_nil _, fun z hz _ hs => same z hz hs, True.intro⟩
theorem all_cons {p : Addr × Obj} {l led : List (Addr × Obj)} (h : ∀ q ∈ l, q ∈ led) : ∀ q ∈ l, q ∈ p :: led := fun q hq => List.mem_cons_of_mem _ (h q hq)
theorem all_left {l own : List (Addr × Obj)} : ∀ q ∈ l, q ∈ l ++ own := fun _ hq => List.mem_append_left _ hq
theorem all_right {l own : List (Addr × Obj)} : ∀ q ∈ own, q ∈ l ++ own := fun _ hq => List.mem_append_right _ hq
end My
end
section
set_option maxHeartbeats 4000000
namespace K04
structure Least (f : Int → Int) (lo hi m : Int) : Prop where
  is : ∃ n, lo ≤ n ∧ n ≤ hi ∧ m = f n
  le : ∀ n, lo ≤ n → n ≤ hi → m ≤ f n
structure Most (f : Int → Int) (lo hi m : Int) : Prop where
  is : ∃ n, lo ≤ n ∧ n ≤ hi ∧ m = f n
  le : ∀ n, lo ≤ n → n ≤ hi → f n ≤ m
theorem Least.eq {f : Int → Int} {lo hi m c : Int} (h : Least f lo hi m) (a : ∃ n, lo ≤ n ∧ n ≤ hi ∧ c = f n) (b : ∀ n, lo ≤ n → n ≤ hi → c ≤ f n) : m = c := by
  obtain ⟨n, h1, h2, h3⟩ := h.is
  obtain ⟨n', g1, g2, g3⟩ := a
  have x := h.le n' g1 g2
  have y := b n h1 h2
  omega
theorem Most.eq {f : Int → Int} {lo hi m c : Int} (h : Most f lo hi m) (a : ∃ n, lo ≤ n ∧ n ≤ hi ∧ c = f n) (b : ∀ n, lo ≤ n → n ≤ hi → f n ≤ c) : m = c := by
  obtain ⟨n, h1, h2, h3⟩ := h.is
  obtain ⟨n', g1, g2, g3⟩ := a
  have x := h.le n' g1 g2
  have y := b n h1 h2
  omega
theorem mul_up {a b k : Int} (h : a ≤ b) (hk : 0 ≤ k) : a * k ≤ b * k := Int.mul_le_mul_of_nonneg_right h hk
theorem mul_down {a b k : Int} (h : a ≤ b) (hk : k ≤ 0) : b * k ≤ a * k := Int.mul_le_mul_of_nonpos_right h hk
theorem times_least {lo hi k m : Int} (h : lo ≤ hi) (q : Least (fun n => n * k) lo hi m) : m = if k < 0 then hi * k else lo * k := by
  split
  · exact q.eq ⟨hi, h, Int.le_refl _, rfl⟩ fun n _ h2 => mul_down h2 (by omega)
  · exact q.eq ⟨lo, Int.le_refl _, h, rfl⟩ fun n h1 _ => mul_up h1 (by omega)
theorem times_most {lo hi k m : Int} (h : lo ≤ hi) (q : Most (fun n => n * k) lo hi m) : m = if k < 0 then lo * k else hi * k := by
  split
  · exact q.eq ⟨lo, Int.le_refl _, h, rfl⟩ fun n h1 _ => mul_down h1 (by omega)
  · exact q.eq ⟨hi, h, Int.le_refl _, rfl⟩ fun n _ h2 => mul_up h2 (by omega)
theorem fdiv_up {a b d : Int} (h : a ≤ b) (hd : 0 < d) : Int.fdiv a d ≤ Int.fdiv b d := by
  rw [Int.fdiv_eq_ediv_of_nonneg _ (Int.le_of_lt hd), Int.fdiv_eq_ediv_of_nonneg _ (Int.le_of_lt hd)]
  exact Int.ediv_le_ediv hd h
theorem parts_least {lo hi d m : Int} (h : lo ≤ hi) (hd : 0 < d) (q : Least (fun n => Int.fdiv n d) lo hi m) : m = Int.fdiv lo d :=
  q.eq ⟨lo, Int.le_refl _, h, rfl⟩ fun _ h1 _ => fdiv_up h1 hd
theorem parts_most {lo hi d m : Int} (h : lo ≤ hi) (hd : 0 < d) (q : Most (fun n => Int.fdiv n d) lo hi m) : m = Int.fdiv hi d :=
  q.eq ⟨hi, h, Int.le_refl _, rfl⟩ fun _ _ h2 => fdiv_up h2 hd
theorem whole (x d : Int) : x = d * Int.fdiv x d + Int.fmod x d := by
  rw [Int.fmod_def]
  omega
theorem rests_one {lo hi d n : Int} (hd : 0 < d) (e : Int.fdiv lo d = Int.fdiv hi d) (h1 : lo ≤ n) (h2 : n ≤ hi) : Int.fmod lo d ≤ Int.fmod n d ∧ Int.fmod n d ≤ Int.fmod hi d := by
  have a := fdiv_up h1 hd
  have b := fdiv_up h2 hd
  have c : Int.fdiv n d = Int.fdiv lo d := by omega
  have w1 := whole lo d
  have w2 := whole n d
  have w3 := whole hi d
  rw [c] at w2
  rw [← e] at w3
  omega
theorem rests_least {lo hi d m : Int} (h : lo ≤ hi) (hd : 0 < d) (q : Least (fun n => Int.fmod n d) lo hi m) : m = if Int.fdiv lo d = Int.fdiv hi d then Int.fmod lo d else 0 := by
  split
  · rename_i e
    exact q.eq ⟨lo, Int.le_refl _, h, rfl⟩ fun n h1 h2 => (rests_one hd e h1 h2).1
  · rename_i e
    have up := fdiv_up h hd
    have w1 := whole lo d
    have w3 := whole hi d
    have p := Int.fmod_nonneg_of_pos hi hd
    have l := Int.fmod_lt_of_pos lo hd
    have st : d * (Int.fdiv lo d + 1) ≤ d * Int.fdiv hi d := Int.mul_le_mul_of_nonneg_left (by omega) (by omega)
    have st' : d * (Int.fdiv lo d + 1) = d * Int.fdiv lo d + d := by rw [Int.mul_add, Int.mul_one]
    refine q.eq ⟨d * Int.fdiv hi d, by omega, by omega, ?_⟩ fun n _ _ => Int.fmod_nonneg_of_pos n hd
    exact (Int.fmod_eq_zero_of_dvd (Int.dvd_mul_right d _)).symm
theorem rests_most {lo hi d m : Int} (h : lo ≤ hi) (hd : 0 < d) (q : Most (fun n => Int.fmod n d) lo hi m) : m = if Int.fdiv lo d = Int.fdiv hi d then Int.fmod hi d else d - 1 := by
  split
  · rename_i e
    exact q.eq ⟨hi, h, Int.le_refl _, rfl⟩ fun n h1 h2 => (rests_one hd e h1 h2).2
  · rename_i e
    have up := fdiv_up h hd
    have w1 := whole lo d
    have w3 := whole hi d
    have p := Int.fmod_nonneg_of_pos hi hd
    have l := Int.fmod_lt_of_pos lo hd
    have st : d * (Int.fdiv lo d + 1) ≤ d * Int.fdiv hi d := Int.mul_le_mul_of_nonneg_left (by omega) (by omega)
    have st' : d * (Int.fdiv lo d + 1) = d * Int.fdiv lo d + d := by rw [Int.mul_add, Int.mul_one]
    refine q.eq ⟨d * Int.fdiv lo d + (d - 1), by omega, by omega, ?_⟩ fun n _ _ => by
      have := Int.fmod_lt_of_pos n hd
      show Int.fmod n d ≤ d - 1
      omega
    show d - 1 = Int.fmod (d * Int.fdiv lo d + (d - 1)) d
    rw [Int.fmod_eq_emod_of_nonneg _ (Int.le_of_lt hd), Int.mul_add_emod_self_left]
    exact (Int.emod_eq_of_lt (by omega) (by omega)).symm
end K04
end
section
set_option maxRecDepth 100000
namespace K04
open PySem PySem.W PyProof.Rows My
theorem in_rangeKs {a x : Int} {n : Nat} (h1 : a ≤ x) (h2 : x < a + (n : Int)) : x ∈ rangeKs a n :=
  List.mem_map.mpr ⟨(x - a).toNat, List.mem_range.mpr (by omega), by omega⟩
section
variable {g f : Int → Int} {a b M : Int} {n : Nat} (hg : ∀ x, x ∈ rangeKs a n → g x = f x) (hn : a + (n : Int) = b + 1)
include hg hn
theorem is_map (mem : M ∈ (rangeKs a n).map g) : ∃ x, a ≤ x ∧ x ≤ b ∧ M = f x := by
  obtain ⟨x, hx, e⟩ := List.mem_map.mp mem
  have := mem_rangeKs hx
  exact ⟨x, this.1, by omega, by rw [← e, hg x hx]⟩
theorem of_map {x : Int} (h1 : a ≤ x) (h2 : x ≤ b) : f x ∈ (rangeKs a n).map g := List.mem_map.mpr ⟨x, in_rangeKs h1 (by omega), hg x (in_rangeKs h1 (by omega))⟩
theorem least_map (mem : M ∈ (rangeKs a n).map g) (le : ∀ x, x ∈ (rangeKs a n).map g → M ≤ x) : Least f a b M := ⟨is_map hg hn mem, fun x h1 h2 => le _ (of_map hg hn h1 h2)⟩
theorem most_map (mem : M ∈ (rangeKs a n).map g) (le : ∀ x, x ∈ (rangeKs a n).map g → x ≤ M) : Most f a b M := ⟨is_map hg hn mem, fun x h1 h2 => le _ (of_map hg hn h1 h2)⟩
end
section
variable {g : Int → Int} {a b M : Int} {n : Nat} {t : Tok}
theorem t_lo {k : Int} (mem : M ∈ (rangeKs a n).map g) (le : ∀ x, x ∈ (rangeKs a n).map g → M ≤ x) (hg : ∀ x, x ∈ rangeKs a n → g x = x * k) (h : a ≤ b) (hn : a + (n : Int) = b + 1) : IsEnd (.int M t) (timesLo k (some a) (some b)) := by
  have e := times_least h (least_map (f := fun x => x * k) hg hn mem le)
  have q : timesLo k (some a) (some b) = some M := by
    unfold timesLo mulO
    by_cases z : k = 0
    · rw [if_pos z, e, z, Int.mul_zero, Int.mul_zero]
      rfl
    · rw [if_neg z, e]
      split <;> rfl
  rw [q]
  exact IsEnd.int
theorem t_hi {k : Int} (mem : M ∈ (rangeKs a n).map g) (le : ∀ x, x ∈ (rangeKs a n).map g → x ≤ M) (hg : ∀ x, x ∈ rangeKs a n → g x = x * k) (h : a ≤ b) (hn : a + (n : Int) = b + 1) : IsEnd (.int M t) (timesHi k (some a) (some b)) := by
  have e := times_most h (most_map (f := fun x => x * k) hg hn mem le)
  have q : timesHi k (some a) (some b) = some M := by
    unfold timesHi mulO
    by_cases z : k = 0
    · rw [if_pos z, e, z, Int.mul_zero, Int.mul_zero]
      rfl
    · rw [if_neg z, e]
      split <;> rfl
  rw [q]
  exact IsEnd.int
theorem p_lo {d : Int} (mem : M ∈ (rangeKs a n).map g) (le : ∀ x, x ∈ (rangeKs a n).map g → M ≤ x) (hg : ∀ x, x ∈ rangeKs a n → g x = Int.fdiv x d) (hd : 0 < d) (hn : 0 < n) : IsEnd (.int M t) (fdivO d (some a)) := by
  have e := parts_least (hi := a + (n : Int) - 1) (by omega) hd (least_map (f := fun x => Int.fdiv x d) hg (by omega) mem le)
  exact IsEnd.int' e
theorem p_hi {d : Int} (mem : M ∈ (rangeKs a n).map g) (le : ∀ x, x ∈ (rangeKs a n).map g → x ≤ M) (hg : ∀ x, x ∈ rangeKs a n → g x = Int.fdiv x d) (h : a ≤ b) (hd : 0 < d) (hn : a + (n : Int) = b + 1) : IsEnd (.int M t) (fdivO d (some b)) := by
  have e := parts_most h hd (most_map (f := fun x => Int.fdiv x d) hg hn mem le)
  exact IsEnd.int' e
theorem r_lo {d : Int} (mem : M ∈ (rangeKs a n).map g) (le : ∀ x, x ∈ (rangeKs a n).map g → M ≤ x) (hg : ∀ x, x ∈ rangeKs a n → g x = Int.fmod x d) (h : a ≤ b) (hd : 0 < d) (hn : a + (n : Int) = b + 1) : IsEnd (.int M t) (restLo d (some a) (some b)) := by
  have e := rests_least h hd (least_map (f := fun x => Int.fmod x d) hg hn mem le)
  exact IsEnd.int' e
theorem r_hi {d : Int} (mem : M ∈ (rangeKs a n).map g) (le : ∀ x, x ∈ (rangeKs a n).map g → x ≤ M) (hg : ∀ x, x ∈ rangeKs a n → g x = Int.fmod x d) (h : a ≤ b) (hd : 0 < d) (hn : a + (n : Int) = b + 1) : IsEnd (.int M t) (restHi d (some a) (some b)) := by
  have e := rests_most h hd (most_map (f := fun x => Int.fmod x d) hg hn mem le)
  exact IsEnd.int' e
end
end K04
end
section
set_option maxRecDepth 100000
namespace My
open PySem PySem.W PySem.Calls PyProof.Rows PySem.Spec
section
variable {prog : Program} {w : World} {K : Frag} {p : Program} {loose : List Str} {mean : ExcName → Option Value} {mg mb : Str → Option Value} {room : Nat} {f : Addr} {vs : List Value} {news lent : List (Addr × Obj)}
  {dp un : Nat} {gd : Option (List Code)} {cn : Str} {cs : Scope} {a : Addr} {ccd : Value} {cl : List (Str × Addr)} {outer : List Env} {A₀ : Around} {base h₀ : Heap} {L : Addr} {m : Str → Option Value} {s : Shared} {Q E : Value → Shared → Prop}
/-- a call that tells a truth: both ways -/
theorem use_bool {c : Bool} (D : Does prog w K p loose mean mg mb room f lent vs (Hands (fun _ => .bool c) lent)) (B : Below A₀ base outer h₀) (F : Fr h₀ L s.heap m) (X : K.In h₀) (N : News h₀ L s.heap news) (T : Top p loose mean mg mb h₀) (hk : cs.kind = .function)
    (hd : dp + room < recursionLimit) (hu : un + 10 * room < cLine) (sub : ∀ q ∈ lent, q ∈ news) (h1 : c = true → ∀ (h' : Heap) (tk' : Nat), Fr h₀ L h' m → News h₀ L h' news → Q (.bool true) { s with heap := h', toks := tk' })
    (h2 : c = false → ∀ (h' : Heap) (tk' : Nat), Fr h₀ L h' m → News h₀ L h' news → Q (.bool false) { s with heap := h', toks := tk' }) :
    wpAny (model prog w) (ktrTop dp un gd cn cs L a ccd cl outer) (call (.ref f) vs) Q E s :=
  use_hands D B F X N T hk hd hu sub fun _ h' tk' F' N' => by
    cases c with
    | true => exact h1 rfl h' tk' F' N'
    | false => exact h2 rfl h' tk' F' N'
end
theorem narrow_yes {lo hi : Option Int} (h : narrowB lo hi = true) (o : Ord2 lo hi) : ∃ a b, lo = some a ∧ hi = some b ∧ a ≤ b ∧ b - a ≤ 12 := by
  cases lo with
  | none => cases h
  | some a => cases hi with
    | none => cases h
    | some b => exact ⟨a, b, rfl, rfl, o, of_decide_eq_true h⟩
theorem d_pos (v : Int) : 0 < 1 + (if numb v < 0 then -numb v else numb v) := by split <;> omega
theorem d_top (v : Int) : 1 + (if numb v < 0 then -numb v else numb v) ≤ T60 + 1 := by
  have := numb_in v
  split <;> omega
end My
end
set_option maxRecDepth 100000 in
set_option maxHeartbeats 8000000 in
open_top head for PySem.Challenge.rw_seer_k04_stretches_reckoned
section
open PySem PySem.W PyProof.Rows My
set_option maxRecDepth 100000
set_option maxHeartbeats 8000000
local macro_rules | `(tactic| walk_at "binaryOp Pow int int") => `(tactic| (k_here; first | with_reducible refine' My.step_pow60 ?_ | with_reducible refine' My.step_pow9 ?_))
local macro_rules | `(tactic| walk_at "binaryOp Mod int int") => `(tactic| (k_here; first | with_reducible refine' My.step_mod60 ?_ | with_reducible refine' My.step_mod9 ?_))
local macro_rules | `(tactic| walk_at "binaryOp Mult int int") => `(tactic| (k_here; with_reducible refine' My.step_two ?_))
local macro_rules | `(tactic| walk_at "binaryOp Mult int int") => `(tactic| (k_here; (with_reducible refine' My.step_wide ?k1 ?_); (case k1 => assumption)))
local macro_rules | `(tactic| walk_at "call ref") => `(tactic| (k_here; k_dflt (refine wpAny_call ?_; (refine' code_def ?q1 ?q2 ?q3 ?q4 ?q5 ?qA ?qF ?qK ?q6 ?q7 ?q8 ?q9 ?qB ?_ ?d2 ?d3 ?d4 ?d5; (case qA => exact rfl); (case qF => exact rfl); (case qK => first | exact rfl | assumption); (case q1 => k_asm); (case q2 => k_asm); (case q3 => k_asm); (case q4 => k_asm); (case q5 => k_asm); (case q6 => k_is); (case q7 => k_is); (case q8 => ktr_room); (case q9 => exact BindsTo.of_eq rfl); (case d5 => decide); (case qB => exact locs rfl); (case d2 => exact rfl); (case d3 => exact rfl); (case d4 => exact rfl); k_whole; intro g' L' h' FG' F' N' B' X' T'; (try dsimp only); (try k_lift B'); (try k_fold)))))
local macro_rules | `(tactic| walk_at "my enter") => `(tactic| k_dflt (refine wpAny_call ?_; (refine' My.enter ?q1 ?q2 ?q3 ?q4 ?q5 ?qA ?qF ?qK ?q6 ?q7 ?q8 ?q9 ?qB ?_ ?d2 ?d3 ?d4 ?d5; (case qA => exact rfl); (case qF => exact rfl); (case qK => first | exact rfl | assumption); (case q1 => k_asm); (case q2 => k_asm); (case q3 => k_asm); (case q4 => k_asm); (case q5 => k_asm); (case q6 => k_is); (case q7 => k_is); (case q8 => ktr_room); (case q9 => exact BindsTo.of_eq rfl); (case d5 => decide); (case qB => exact locs rfl); (case d2 => exact rfl); (case d3 => exact rfl); (case d4 => exact rfl); k_whole; intro g' L' h' hStay FG' F' N' B' X' T'; (try dsimp only); (try k_lift B'); (try k_fold))))
local macro_rules | `(tactic| walk_at "my end") => `(tactic| ((first | refine My.retI (by assumption) ?e1 ?e2 ?e3 ?e4 | refine My.retB (by assumption) ?e1 ?e2 ?e3 ?e4); (case e2 => k_asm); (case e3 => first | k_asm | exact News.nil | exact cb_drop (by assumption) (by kcj_all)); (case e4 => exact My.stay_end (by assumption) (by assumption)); (case e1 => cb_eq)))
local macro_rules | `(tactic| walk_at "my use") => `(tactic| ((case q1 => k_asm); (case q2 => k_asm); (case q3 => k_asm); (case q4 => k_asm); (case q5 => k_asm); (case q6 => first | exact rfl | assumption); (case q7 => first | exact My.room1 (by assumption) (by decide) | exact My.room1 (My.room1 (by assumption) (by decide)) (by decide) | decide | ktr_room); (case q8 => first | exact My.units1 (by assumption) (by decide) | exact My.units1 (My.units1 (by assumption) (by decide)) (by decide) | decide | ktr_units); (case q9 => k_dflt (repeat (first | exact My.sub_nil | refine My.sub_cons (by k_mem) ?_)))))
local macro_rules | `(tactic| walk_at "my on") => `(tactic| (intro t9 h9 tk9 F9 N9; (try dsimp only); (try k_fold)))
local macro_rules | `(tactic| walk_at "my is end") => `(tactic| first | exact My.IsEnd.none | exact My.IsEnd.int | assumption)
local macro_rules | `(tactic| walk_at "InvEndN") => `(tactic| (k_dflt ksr_close))
local macro_rules | `(tactic| walk_at "my end") => `(tactic| (refine' My.lays_ret (by assumption) ?e1 ?e2 (by assumption) (by assumption) (by assumption) ?e5 ?e6 (by assumption) (by assumption); (case e2 => k_asm); (case e5 => k_dflt (repeat (first | exact My.sub_nil | refine My.sub_cons (by k_mem) ?_))); (case e6 => k_dflt (repeat (first | exact My.ne_nil | refine My.ne_cons (by k_ne) ?_))); (case e1 => k_dflt (refine ⟨_, _, _, rfl, ?z1, ?z2⟩; (case z1 => first | exact My.IsEnd.none | exact My.IsEnd.int | (refine My.IsEnd.int' ?_; walk_at "my ends alike")); (case z2 => first | exact My.IsEnd.none | exact My.IsEnd.int | (refine My.IsEnd.int' ?_; walk_at "my ends alike"))))))
local macro_rules | `(tactic| walk_at "my ends alike") => `(tactic| first | rfl | omega | (split <;> omega))
local macro_rules | `(tactic| walk_at "binaryOp Mult int int") => `(tactic| (k_here; (with_reducible refine' My.step_mul_mag ?k1 ?k2 ?k3 ?k4 ?_); (case k1 => k_dflt omega); (case k2 => k_dflt omega); (case k3 => k_dflt omega); (case k4 => k_dflt omega)))
local macro_rules | `(tactic| walk_at "my end") => `(tactic| (refine My.gives_ret (by assumption) ?e1 ?e2 ?e3 ?e4; (case e2 => k_asm); (case e3 => first | k_asm | exact News.nil | exact cb_drop (by assumption) (by kcj_all)); (case e4 => exact My.stay_end (by assumption) (by assumption)); (case e1 => first | exact My.IsEnd.none | exact My.IsEnd.int)))
local macro_rules | `(tactic| walk_at "binaryOp FloorDiv int int") => `(tactic| (k_here; (with_reducible refine' My.step_fdiv_t ?k1 ?k2 ?_); (case k1 => k_dflt (first | assumption | omega)); (case k2 => k_dflt (first | exact My.d_mag (by assumption) | assumption | omega))))
namespace K04
section
variable {w : World} {s₀ : Shared} {mg mb : Str → Option Value}
abbrev D (w : World) (s₀ : Shared) (mg mb : Str → Option Value) := Does PySem.Challenge.rw_seer_k04_stretches_reckoned.row.prog w (head.heap_39 w.params) head.view_39 (looseW head.view_39 []) (ExcName.means s₀.heap) mg mb
theorem number_does {v : Int} {t : Tok} (hv : Cell v) : D w s₀ mg mb 4 77 [] [.int v t] (Hands (fun t => .int (numb v) t) []) := by
  k_with "tree" => (first | exact My.numb_0 (by assumption) | exact My.numb_1 (by assumption) | exact My.numb_2 (by assumption) | exact My.numb_3 (by assumption) | exact My.numb_4 (by assumption) (by assumption) (by assumption) (by assumption))
  w_strict (w_top off; (dsimp only [D, Does, Hands, Lays]); k_fill; (intro dp un gd cn cs a ccd cl outer A₀ base h₀ L m s Q E B F X N T hk hd hu hret); walk_at "my enter"; k_steps; (all_goals (first | walk_at "my end" | (exfalso; omega))))
abbrev CT (w : World) (s₀ : Shared) (mg mb : Str → Option Value) := CellTells PySem.Challenge.rw_seer_k04_stretches_reckoned.row.prog w (head.heap_39 w.params) head.view_39 (looseW head.view_39 []) (ExcName.means s₀.heap) mg mb
theorem cell_tells : CT w s₀ mg mb 70 0 := by
  w_strict (w_top off; (dsimp only [CT]); k_fill; cell_step)
theorem end_does {v : Value} {lo : Option Int} (h : IsEnd v lo) : D w s₀ mg mb 4 91 [] [v] (Hands (fun _ => .bool true) []) := by
  cases h <;> w_strict (w_top off; (dsimp only [D, Does, Hands, Lays, GivesV]); k_fill; (intro dp un gd cn cs a ccd cl outer A₀ base h₀ L m s Q E B F X N T hk hd hu hret); walk_at "my enter"; k_steps; (all_goals (first | walk_at "my end" | (exfalso; omega))))
theorem end_plus {v u : Value} {lo hi : Option Int} (h1 : IsEnd v lo) (h2 : IsEnd u hi) : D w s₀ mg mb 4 28 [] [v, u] (GivesV (fun v => IsEnd v (plusO lo hi)) []) := by
  cases h1 <;> cases h2 <;> (dsimp only [plusO]) <;> w_strict (w_top off; (dsimp only [D, Does, Hands, Lays, GivesV]); k_fill; (intro dp un gd cn cs a ccd cl outer A₀ base h₀ L m s Q E B F X N T hk hd hu hret); walk_at "my enter"; k_steps; (all_goals (first | walk_at "my end" | (exfalso; omega))))
theorem end_times {v : Value} {lo : Option Int} {k : Int} {t : Tok} (h1 : IsEnd v lo) (b1 : EndIn (10 * T60) lo) (k0 : -(10 * T60) ≤ k) (k1 : k ≤ 10 * T60) : D w s₀ mg mb 4 42 [] [v, .int k t] (GivesV (fun v => IsEnd v (mulO k lo)) []) := by
  cases h1 <;> (dsimp only [mulO, EndIn] at b1 ⊢) <;> w_strict (w_top off; (dsimp only [D, Does, Hands, Lays, GivesV]); k_fill; (intro dp un gd cn cs a ccd cl outer A₀ base h₀ L m s Q E B F X N T hk hd hu hret); walk_at "my enter"; k_steps; (all_goals (first | walk_at "my end" | (exfalso; omega))))
theorem end_parted {v : Value} {lo : Option Int} {d : Int} {t : Tok} (h1 : IsEnd v lo) (hd : 0 < d) (dh : d ≤ T60 + 1) : D w s₀ mg mb 4 56 [] [v, .int d t] (GivesV (fun v => IsEnd v (fdivO d lo)) []) := by
  cases h1 <;> (dsimp only [fdivO]) <;> w_strict (w_top off; (dsimp only [D, Does, Hands, Lays, GivesV]); k_fill; (intro dp un gd cn cs a ccd cl outer A₀ base h₀ L m s Q E B F X N T hk hd hu hret); walk_at "my enter"; k_steps; (all_goals (first | walk_at "my end" | (exfalso; omega))))
end
end K04
end
section
open PySem PySem.W PyProof.Rows My
set_option maxRecDepth 100000
set_option maxHeartbeats 8000000
local macro_rules | `(tactic| walk_at "binaryOp Pow int int") => `(tactic| (k_here; first | with_reducible refine' My.step_pow60 ?_ | with_reducible refine' My.step_pow9 ?_))
local macro_rules | `(tactic| walk_at "binaryOp Mod int int") => `(tactic| (k_here; first | with_reducible refine' My.step_mod60 ?_ | with_reducible refine' My.step_mod9 ?_))
local macro_rules | `(tactic| walk_at "binaryOp Mult int int") => `(tactic| (k_here; with_reducible refine' My.step_two ?_))
local macro_rules | `(tactic| walk_at "binaryOp Mult int int") => `(tactic| (k_here; (with_reducible refine' My.step_wide ?k1 ?_); (case k1 => assumption)))
local macro_rules | `(tactic| walk_at "call ref") => `(tactic| (k_here; k_dflt (refine wpAny_call ?_; (refine' code_def ?q1 ?q2 ?q3 ?q4 ?q5 ?qA ?qF ?qK ?q6 ?q7 ?q8 ?q9 ?qB ?_ ?d2 ?d3 ?d4 ?d5; (case qA => exact rfl); (case qF => exact rfl); (case qK => first | exact rfl | assumption); (case q1 => k_asm); (case q2 => k_asm); (case q3 => k_asm); (case q4 => k_asm); (case q5 => k_asm); (case q6 => k_is); (case q7 => k_is); (case q8 => ktr_room); (case q9 => exact BindsTo.of_eq rfl); (case d5 => decide); (case qB => exact locs rfl); (case d2 => exact rfl); (case d3 => exact rfl); (case d4 => exact rfl); k_whole; intro g' L' h' FG' F' N' B' X' T'; (try dsimp only); (try k_lift B'); (try k_fold)))))
local macro_rules | `(tactic| walk_at "my enter") => `(tactic| k_dflt (refine wpAny_call ?_; (refine' My.enter ?q1 ?q2 ?q3 ?q4 ?q5 ?qA ?qF ?qK ?q6 ?q7 ?q8 ?q9 ?qB ?_ ?d2 ?d3 ?d4 ?d5; (case qA => exact rfl); (case qF => exact rfl); (case qK => first | exact rfl | assumption); (case q1 => k_asm); (case q2 => k_asm); (case q3 => k_asm); (case q4 => k_asm); (case q5 => k_asm); (case q6 => k_is); (case q7 => k_is); (case q8 => ktr_room); (case q9 => exact BindsTo.of_eq rfl); (case d5 => decide); (case qB => exact locs rfl); (case d2 => exact rfl); (case d3 => exact rfl); (case d4 => exact rfl); k_whole; intro g' L' h' hStay FG' F' N' B' X' T'; (try dsimp only); (try k_lift B'); (try k_fold))))
local macro_rules | `(tactic| walk_at "my end") => `(tactic| ((first | refine My.retI (by assumption) ?e1 ?e2 ?e3 ?e4 | refine My.retB (by assumption) ?e1 ?e2 ?e3 ?e4); (case e2 => k_asm); (case e3 => first | k_asm | exact News.nil | exact cb_drop (by assumption) (by kcj_all)); (case e4 => exact My.stay_end (by assumption) (by assumption)); (case e1 => cb_eq)))
local macro_rules | `(tactic| walk_at "my use") => `(tactic| ((case q1 => k_asm); (case q2 => k_asm); (case q3 => k_asm); (case q4 => k_asm); (case q5 => k_asm); (case q6 => first | exact rfl | assumption); (case q7 => first | exact My.room1 (by assumption) (by decide) | exact My.room1 (My.room1 (by assumption) (by decide)) (by decide) | decide | ktr_room); (case q8 => first | exact My.units1 (by assumption) (by decide) | exact My.units1 (My.units1 (by assumption) (by decide)) (by decide) | decide | ktr_units); (case q9 => k_dflt (repeat (first | exact My.sub_nil | refine My.sub_cons (by k_mem) ?_)))))
local macro_rules | `(tactic| walk_at "my on") => `(tactic| (intro t9 h9 tk9 F9 N9; (try dsimp only); (try k_fold)))
local macro_rules | `(tactic| walk_at "my is end") => `(tactic| first | exact My.IsEnd.none | exact My.IsEnd.int | assumption)
local macro_rules | `(tactic| walk_at "InvEndN") => `(tactic| (k_dflt ksr_close))
local macro_rules | `(tactic| walk_at "my end") => `(tactic| (refine' My.lays_ret (by assumption) ?e1 ?e2 (by assumption) (by assumption) (by assumption) ?e5 ?e6 (by assumption) (by assumption); (case e2 => k_asm); (case e5 => k_dflt (repeat (first | exact My.sub_nil | refine My.sub_cons (by k_mem) ?_))); (case e6 => k_dflt (repeat (first | exact My.ne_nil | refine My.ne_cons (by k_ne) ?_))); (case e1 => k_dflt (refine ⟨_, _, _, rfl, ?z1, ?z2⟩; (case z1 => first | exact My.IsEnd.none | exact My.IsEnd.int | (refine My.IsEnd.int' ?_; walk_at "my ends alike")); (case z2 => first | exact My.IsEnd.none | exact My.IsEnd.int | (refine My.IsEnd.int' ?_; walk_at "my ends alike"))))))
local macro_rules | `(tactic| walk_at "my ends alike") => `(tactic| first | rfl | omega | (split <;> omega))
local macro_rules | `(tactic| walk_at "binaryOp Mult int int") => `(tactic| (k_here; (with_reducible refine' My.step_mul_mag ?k1 ?k2 ?k3 ?k4 ?_); (case k1 => k_dflt omega); (case k2 => k_dflt omega); (case k3 => k_dflt omega); (case k4 => k_dflt omega)))
local macro_rules | `(tactic| walk_at "my end") => `(tactic| (refine My.gives_ret (by assumption) ?e1 ?e2 ?e3 ?e4; (case e2 => k_asm); (case e3 => first | k_asm | exact News.nil | exact cb_drop (by assumption) (by kcj_all)); (case e4 => exact My.stay_end (by assumption) (by assumption)); (case e1 => first | exact My.IsEnd.none | exact My.IsEnd.int)))
local macro_rules | `(tactic| walk_at "binaryOp FloorDiv int int") => `(tactic| (k_here; (with_reducible refine' My.step_fdiv_t ?k1 ?k2 ?_); (case k1 => k_dflt (first | assumption | omega)); (case k2 => k_dflt (first | exact My.d_mag (by assumption) | assumption | omega))))
local macro_rules | `(tactic| walk_at "my on gives") => `(tactic| (intro v9 h9 tk9 hP9 F9 N9; (try dsimp only); (try k_fold)))
local macro_rules | `(tactic| walk_at "my on lays") => `(tactic| (intro r9 o9 h9 tk9 hP9 F9 N9 hne9; (obtain ⟨v91, v92, k9, e9, he91, he92⟩ := hP9); (subst e9); (try dsimp only); (try k_fold)))
local macro_rules | `(tactic| walk_at "my end") => `(tactic| (refine' My.lays_ret (by assumption) ?e1 ?e2 (by assumption) (by assumption) (by assumption) ?e5 ?e6 (by assumption) (by assumption); (case e2 => k_asm); (case e5 => k_dflt (repeat (first | exact My.sub_nil | refine My.sub_cons (by k_mem) ?_))); (case e6 => k_dflt (repeat (first | exact My.ne_nil | refine My.ne_cons (by first | k_ne | exact My.ne_of (by assumption) (by k_mem)) ?_))); (case e1 => k_dflt (first | exact ⟨_, _, _, rfl, by first | assumption | exact My.IsEnd.none | exact My.IsEnd.int, by first | assumption | exact My.IsEnd.none | exact My.IsEnd.int⟩))))
local macro_rules | `(tactic| walk_at "eval Call") => `(tactic| (k_here; k_dflt (refine Call_ ?_)))
local macro_rules | `(tactic| walk_at "call ref") => `(tactic| (k_here; first
  | (k_dflt (refine' My.use_gives (K04.end_plus ?p0 ?p1) ?q1 ?q2 ?q3 ?q4 ?q5 ?q6 ?q7 ?q8 ?q9 ?_); k_dflt (walk_at "my use"); (case p0 => k_dflt (assumption)); (case p1 => k_dflt (assumption)); k_dflt (walk_at "my on gives"))
  | (k_dflt (refine' My.use_gives (K04.end_times ?p0 ?p1 ?p2 ?p3) ?q1 ?q2 ?q3 ?q4 ?q5 ?q6 ?q7 ?q8 ?q9 ?_); k_dflt (walk_at "my use"); (case p0 => k_dflt (first | assumption | omega)); (case p1 => k_dflt (first | assumption | omega)); (case p2 => k_dflt (first | assumption | omega)); (case p3 => k_dflt (first | assumption | omega)); k_dflt (walk_at "my on gives"))
  | (k_dflt (refine' My.use_gives (K04.end_parted ?p0 ?p1 ?p2) ?q1 ?q2 ?q3 ?q4 ?q5 ?q6 ?q7 ?q8 ?q9 ?_); k_dflt (walk_at "my use"); (case p0 => k_dflt (assumption)); (case p1 => k_dflt (assumption)); (case p2 => k_dflt (assumption)); k_dflt (walk_at "my on gives"))))
namespace K04
section
variable {w : World} {s₀ : Shared} {mg mb : Str → Option Value}
theorem plus_does {r1 r2 : Addr} {v1 v2 v3 v4 : Value} {n1 n2 : Nat} {lo1 hi1 lo2 hi2 : Option Int} (h1 : IsEnd v1 lo1) (h2 : IsEnd v2 hi1) (h3 : IsEnd v3 lo2) (h4 : IsEnd v4 hi2) : D w s₀ mg mb 8 21 [(r1, tupO #[v1, v2] n1), (r2, tupO #[v3, v4] n2)] [.ref r1, .ref r2] (Lays (IsPair (plusO lo1 lo2) (plusO hi1 hi2)) [(r1, tupO #[v1, v2] n1), (r2, tupO #[v3, v4] n2)]) := by
  w_strict (w_top off; (dsimp only [D, Does, Hands, Lays, GivesV]); k_fill; (intro dp un gd cn cs a ccd cl outer A₀ base h₀ L m s Q E B F X N T hk hd hu hret); walk_at "my enter"; k_steps; (all_goals (first | walk_at "my end" | (exfalso; omega))))
theorem times_zero {r1 : Addr} {v1 v2 : Value} {n1 : Nat} {lo1 hi1 : Option Int} (h1 : IsEnd v1 lo1) (h2 : IsEnd v2 hi1) {t : Tok} : D w s₀ mg mb 8 35 [(r1, tupO #[v1, v2] n1)] [.ref r1, .int 0 t] (Lays (IsPair (some 0) (some 0)) [(r1, tupO #[v1, v2] n1)]) := by
  w_strict (w_top off; (dsimp only [D, Does, Hands, Lays, GivesV]); k_fill; (intro dp un gd cn cs a ccd cl outer A₀ base h₀ L m s Q E B F X N T hk hd hu hret); walk_at "my enter"; k_steps; (all_goals (first | walk_at "my end" | (exfalso; omega))))
theorem times_neg {r1 : Addr} {v1 v2 : Value} {n1 : Nat} {lo1 hi1 : Option Int} (h1 : IsEnd v1 lo1) (h2 : IsEnd v2 hi1) {k : Int} {t : Tok} (b1 : EndIn (10 * T60) lo1) (b2 : EndIn (10 * T60) hi1) (k0 : -(10 * T60) ≤ k) (k1 : k < 0) (k2 : k ≤ 10 * T60) : D w s₀ mg mb 8 35 [(r1, tupO #[v1, v2] n1)] [.ref r1, .int k t] (Lays (IsPair (mulO k hi1) (mulO k lo1)) [(r1, tupO #[v1, v2] n1)]) := by
  w_strict (w_top off; (dsimp only [D, Does, Hands, Lays, GivesV]); k_fill; (intro dp un gd cn cs a ccd cl outer A₀ base h₀ L m s Q E B F X N T hk hd hu hret); walk_at "my enter"; k_steps; (all_goals (first | walk_at "my end" | (exfalso; omega))))
theorem times_pos {r1 : Addr} {v1 v2 : Value} {n1 : Nat} {lo1 hi1 : Option Int} (h1 : IsEnd v1 lo1) (h2 : IsEnd v2 hi1) {k : Int} {t : Tok} (b1 : EndIn (10 * T60) lo1) (b2 : EndIn (10 * T60) hi1) (k0 : -(10 * T60) ≤ k) (k1 : 0 < k) (k2 : k ≤ 10 * T60) : D w s₀ mg mb 8 35 [(r1, tupO #[v1, v2] n1)] [.ref r1, .int k t] (Lays (IsPair (mulO k lo1) (mulO k hi1)) [(r1, tupO #[v1, v2] n1)]) := by
  w_strict (w_top off; (dsimp only [D, Does, Hands, Lays, GivesV]); k_fill; (intro dp un gd cn cs a ccd cl outer A₀ base h₀ L m s Q E B F X N T hk hd hu hret); walk_at "my enter"; k_steps; (all_goals (first | walk_at "my end" | (exfalso; omega))))
theorem parted_does {r1 : Addr} {v1 v2 : Value} {n1 : Nat} {lo1 hi1 : Option Int} (h1 : IsEnd v1 lo1) (h2 : IsEnd v2 hi1) {d : Int} {t : Tok} (hd : 0 < d) (dh : d ≤ T60 + 1) : D w s₀ mg mb 8 49 [(r1, tupO #[v1, v2] n1)] [.ref r1, .int d t] (Lays (IsPair (fdivO d lo1) (fdivO d hi1)) [(r1, tupO #[v1, v2] n1)]) := by
  w_strict (w_top off; (dsimp only [D, Does, Hands, Lays, GivesV]); k_fill; (intro dp un gd cn cs a ccd cl outer A₀ base h₀ L m s Q E B F X N T hk hd hu hret); walk_at "my enter"; k_steps; (all_goals (first | walk_at "my end" | (exfalso; omega))))
end
end K04
end
section
open PySem PySem.W PyProof.Rows My
set_option maxRecDepth 100000
set_option maxHeartbeats 8000000
local macro_rules | `(tactic| walk_at "pad 0") => `(tactic| skip)
local macro_rules | `(tactic| walk_at "pad 1") => `(tactic| skip)
local macro_rules | `(tactic| walk_at "pad 2") => `(tactic| skip)
local macro_rules | `(tactic| walk_at "pad 3") => `(tactic| skip)
local macro_rules | `(tactic| walk_at "pad 4") => `(tactic| skip)
local macro_rules | `(tactic| walk_at "pad 5") => `(tactic| skip)
local macro_rules | `(tactic| walk_at "pad 6") => `(tactic| skip)
local macro_rules | `(tactic| walk_at "pad 7") => `(tactic| skip)
local macro_rules | `(tactic| walk_at "pad 8") => `(tactic| skip)
local macro_rules | `(tactic| walk_at "binaryOp Pow int int") => `(tactic| (k_here; first | with_reducible refine' My.step_pow60 ?_ | with_reducible refine' My.step_pow9 ?_))
local macro_rules | `(tactic| walk_at "binaryOp Mod int int") => `(tactic| (k_here; first | with_reducible refine' My.step_mod60 ?_ | with_reducible refine' My.step_mod9 ?_))
local macro_rules | `(tactic| walk_at "binaryOp Mult int int") => `(tactic| (k_here; with_reducible refine' My.step_two ?_))
local macro_rules | `(tactic| walk_at "binaryOp Mult int int") => `(tactic| (k_here; (with_reducible refine' My.step_wide ?k1 ?_); (case k1 => assumption)))
local macro_rules | `(tactic| walk_at "call ref") => `(tactic| (k_here; k_dflt (refine wpAny_call ?_; (refine' code_def ?q1 ?q2 ?q3 ?q4 ?q5 ?qA ?qF ?qK ?q6 ?q7 ?q8 ?q9 ?qB ?_ ?d2 ?d3 ?d4 ?d5; (case qA => exact rfl); (case qF => exact rfl); (case qK => first | exact rfl | assumption); (case q1 => k_asm); (case q2 => k_asm); (case q3 => k_asm); (case q4 => k_asm); (case q5 => k_asm); (case q6 => k_is); (case q7 => k_is); (case q8 => ktr_room); (case q9 => exact BindsTo.of_eq rfl); (case d5 => decide); (case qB => exact locs rfl); (case d2 => exact rfl); (case d3 => exact rfl); (case d4 => exact rfl); k_whole; intro g' L' h' FG' F' N' B' X' T'; (try dsimp only); (try k_lift B'); (try k_fold)))))
local macro_rules | `(tactic| walk_at "my enter") => `(tactic| k_dflt (refine wpAny_call ?_; (refine' My.enter ?q1 ?q2 ?q3 ?q4 ?q5 ?qA ?qF ?qK ?q6 ?q7 ?q8 ?q9 ?qB ?_ ?d2 ?d3 ?d4 ?d5; (case qA => exact rfl); (case qF => exact rfl); (case qK => first | exact rfl | assumption); (case q1 => k_asm); (case q2 => k_asm); (case q3 => k_asm); (case q4 => k_asm); (case q5 => k_asm); (case q6 => k_is); (case q7 => k_is); (case q8 => ktr_room); (case q9 => exact BindsTo.of_eq rfl); (case d5 => decide); (case qB => exact locs rfl); (case d2 => exact rfl); (case d3 => exact rfl); (case d4 => exact rfl); k_whole; intro g' L' h' hStay FG' F' N' B' X' T'; (try dsimp only); (try k_lift B'); (try k_fold))))
local macro_rules | `(tactic| walk_at "my end") => `(tactic| ((first | refine My.retI (by assumption) ?e1 ?e2 ?e3 ?e4 | refine My.retB (by assumption) ?e1 ?e2 ?e3 ?e4); (case e2 => k_asm); (case e3 => first | k_asm | exact News.nil | exact cb_drop (by assumption) (by kcj_all)); (case e4 => exact My.stay_end (by assumption) (by assumption)); (case e1 => cb_eq)))
local macro_rules | `(tactic| walk_at "my use") => `(tactic| ((case q1 => k_asm); (case q2 => k_asm); (case q3 => k_asm); (case q4 => k_asm); (case q5 => k_asm); (case q6 => first | exact rfl | assumption); (case q7 => first | exact My.room1 (by assumption) (by decide) | exact My.room1 (My.room1 (by assumption) (by decide)) (by decide) | decide | ktr_room); (case q8 => first | exact My.units1 (by assumption) (by decide) | exact My.units1 (My.units1 (by assumption) (by decide)) (by decide) | decide | ktr_units); (case q9 => k_dflt (repeat (first | exact My.sub_nil | refine My.sub_cons (by k_mem) ?_)))))
local macro_rules | `(tactic| walk_at "my on") => `(tactic| (intro t9 h9 tk9 F9 N9; (try dsimp only); (try k_fold)))
local macro_rules | `(tactic| walk_at "my is end") => `(tactic| first | exact My.IsEnd.none | exact My.IsEnd.int | assumption)
local macro_rules | `(tactic| walk_at "InvEndN") => `(tactic| (k_dflt ksr_close))
local macro_rules | `(tactic| walk_at "my end") => `(tactic| (refine' My.lays_ret (by assumption) ?e1 ?e2 (by assumption) (by assumption) (by assumption) ?e5 ?e6 (by assumption) (by assumption); (case e2 => k_asm); (case e5 => k_dflt (repeat (first | exact My.sub_nil | refine My.sub_cons (by k_mem) ?_))); (case e6 => k_dflt (repeat (first | exact My.ne_nil | refine My.ne_cons (by k_ne) ?_))); (case e1 => k_dflt (refine ⟨_, _, _, rfl, ?z1, ?z2⟩; (case z1 => first | exact My.IsEnd.none | exact My.IsEnd.int | (refine My.IsEnd.int' ?_; walk_at "my ends alike")); (case z2 => first | exact My.IsEnd.none | exact My.IsEnd.int | (refine My.IsEnd.int' ?_; walk_at "my ends alike"))))))
local macro_rules | `(tactic| walk_at "my ends alike") => `(tactic| first | rfl | omega | (split <;> omega))
local macro_rules | `(tactic| walk_at "binaryOp Mult int int") => `(tactic| (k_here; (with_reducible refine' My.step_mul_mag ?k1 ?k2 ?k3 ?k4 ?_); (case k1 => k_dflt omega); (case k2 => k_dflt omega); (case k3 => k_dflt omega); (case k4 => k_dflt omega)))
local macro_rules | `(tactic| walk_at "my end") => `(tactic| (refine My.gives_ret (by assumption) ?e1 ?e2 ?e3 ?e4; (case e2 => k_asm); (case e3 => first | k_asm | exact News.nil | exact cb_drop (by assumption) (by kcj_all)); (case e4 => exact My.stay_end (by assumption) (by assumption)); (case e1 => first | exact My.IsEnd.none | exact My.IsEnd.int)))
local macro_rules | `(tactic| walk_at "binaryOp FloorDiv int int") => `(tactic| (k_here; (with_reducible refine' My.step_fdiv_t ?k1 ?k2 ?_); (case k1 => k_dflt (first | assumption | omega)); (case k2 => k_dflt (first | exact My.d_mag (by assumption) | assumption | omega))))
local macro_rules | `(tactic| walk_at "my end") => `(tactic| (refine' My.lays_ret (by assumption) ?e1 ?e2 (by assumption) (by assumption) (by assumption) ?e5 ?e6 (by assumption) (by assumption); (case e2 => k_asm); (case e5 => k_dflt (repeat (first | exact My.sub_nil | refine My.sub_cons (by k_mem) ?_))); (case e6 => k_dflt (repeat (first | exact My.ne_nil | refine My.ne_cons (by first | k_ne | exact My.ne_of (by assumption) (by k_mem)) ?_))); (case e1 => k_dflt (first | exact ⟨_, _, _, rfl, My.IsEnd.none, My.IsEnd.none⟩ | exact ⟨_, _, _, rfl, My.IsEnd.none, My.IsEnd.int⟩ | exact ⟨_, _, _, rfl, My.IsEnd.int, My.IsEnd.none⟩ | exact ⟨_, _, _, rfl, My.IsEnd.int, My.IsEnd.int⟩ | exact My.str_nn | exact My.str_ni (My.hi_ab _ _).1 | exact My.str_ni (My.hi_mod _ _).1 | exact My.str_in (My.numb_mag _) | exact My.str_ii (My.numb_mag _) (My.hi_ab _ _).1 (My.hi_ab _ _).2 | exact My.str_ii (My.numb_mag _) (My.hi_mod _ _).1 (My.hi_mod _ _).2))))
namespace K04
section
variable {w : World} {s₀ : Shared} {mg mb : Str → Option Value}
theorem rested_n {r1 : Addr} {v2 : Value} {n1 : Nat} {hi1 : Option Int} (h2 : IsEnd v2 hi1) {d : Int} {t : Tok} (hd : 0 < d) (dh : d ≤ T60 + 1) : D w s₀ mg mb 10 63 [(r1, tupO #[.none, v2] n1)] [.ref r1, .int d t] (Lays (IsPair (some 0) (some (d - 1))) [(r1, tupO #[.none, v2] n1)]) := by
  cases h2 <;> w_strict (w_top off; (dsimp only [D, Does, Hands, Lays, GivesV]); k_fill; (intro dp un gd cn cs a ccd cl outer A₀ base h₀ L m s Q E B F X N T hk hd hu hret); walk_at "my enter"; k_steps; (all_goals (first | walk_at "my end" | (exfalso; omega))))
theorem rested_xn {r1 : Addr} {a : Int} {u : Tok} {n1 : Nat} {d : Int} {t : Tok} (hd : 0 < d) (dh : d ≤ T60 + 1) : D w s₀ mg mb 10 63 [(r1, tupO #[.int a u, .none] n1)] [.ref r1, .int d t] (Lays (IsPair (some 0) (some (d - 1))) [(r1, tupO #[.int a u, .none] n1)]) := by
  w_strict (w_top off; (dsimp only [D, Does, Hands, Lays, GivesV]); k_fill; (intro dp un gd cn cs a ccd cl outer A₀ base h₀ L m s Q E B F X N T hk hd hu hret); walk_at "my enter"; k_steps; (all_goals (first | walk_at "my end" | (exfalso; omega))))
theorem rested_same {r1 : Addr} {a b : Int} {u1 u2 : Tok} {n1 : Nat} {d : Int} {t : Tok} (hd : 0 < d) (dh : d ≤ T60 + 1) (h : Int.fdiv a d = Int.fdiv b d) : D w s₀ mg mb 10 63 [(r1, tupO #[.int a u1, .int b u2] n1)] [.ref r1, .int d t] (Lays (IsPair (some (Int.fmod a d)) (some (Int.fmod b d))) [(r1, tupO #[.int a u1, .int b u2] n1)]) := by
  w_strict (w_top off; (dsimp only [D, Does, Hands, Lays, GivesV]); k_fill; (intro dp un gd cn cs a ccd cl outer A₀ base h₀ L m s Q E B F X N T hk hd hu hret); walk_at "my enter"; k_steps; (all_goals (first | walk_at "my end" | (exfalso; omega))))
theorem rested_apart {r1 : Addr} {a b : Int} {u1 u2 : Tok} {n1 : Nat} {d : Int} {t : Tok} (hd : 0 < d) (dh : d ≤ T60 + 1) (h : ¬ Int.fdiv a d = Int.fdiv b d) : D w s₀ mg mb 10 63 [(r1, tupO #[.int a u1, .int b u2] n1)] [.ref r1, .int d t] (Lays (IsPair (some 0) (some (d - 1))) [(r1, tupO #[.int a u1, .int b u2] n1)]) := by
  w_strict (w_top off; (dsimp only [D, Does, Hands, Lays, GivesV]); k_fill; (intro dp un gd cn cs a ccd cl outer A₀ base h₀ L m s Q E B F X N T hk hd hu hret); walk_at "my enter"; k_steps; (all_goals (first | walk_at "my end" | (exfalso; omega))))
theorem rested_does {r1 : Addr} {v1 v2 : Value} {n1 : Nat} {lo1 hi1 : Option Int} (h1 : IsEnd v1 lo1) (h2 : IsEnd v2 hi1) {d : Int} {t : Tok} (hd : 0 < d) (dh : d ≤ T60 + 1) : D w s₀ mg mb 10 63 [(r1, tupO #[v1, v2] n1)] [.ref r1, .int d t] (Lays (IsPair (restLo d lo1 hi1) (restHi d lo1 hi1)) [(r1, tupO #[v1, v2] n1)]) := by
  cases h1 with
  | none => exact rested_n h2 hd dh
  | @int a u => cases h2 with
    | none => exact rested_xn hd dh
    | @int b u2 =>
      by_cases h : Int.fdiv a d = Int.fdiv b d
      · rw [(rest_same h).1, (rest_same h).2]
        exact rested_same hd dh h
      · rw [(rest_apart h).1, (rest_apart h).2]
        exact rested_apart hd dh h
end
end K04
end
section
open PySem PySem.W PyProof.Rows My
set_option maxRecDepth 100000
set_option maxHeartbeats 8000000
local macro_rules | `(tactic| walk_at "pad 0") => `(tactic| skip)
local macro_rules | `(tactic| walk_at "pad 1") => `(tactic| skip)
local macro_rules | `(tactic| walk_at "pad 2") => `(tactic| skip)
local macro_rules | `(tactic| walk_at "pad 3") => `(tactic| skip)
local macro_rules | `(tactic| walk_at "pad 4") => `(tactic| skip)
local macro_rules | `(tactic| walk_at "pad 5") => `(tactic| skip)
local macro_rules | `(tactic| walk_at "pad 6") => `(tactic| skip)
local macro_rules | `(tactic| walk_at "pad 7") => `(tactic| skip)
local macro_rules | `(tactic| walk_at "pad 8") => `(tactic| skip)
local macro_rules | `(tactic| walk_at "pad 9") => `(tactic| skip)
local macro_rules | `(tactic| walk_at "pad 10") => `(tactic| skip)
local macro_rules | `(tactic| walk_at "pad 11") => `(tactic| skip)
local macro_rules | `(tactic| walk_at "pad 12") => `(tactic| skip)
local macro_rules | `(tactic| walk_at "pad 13") => `(tactic| skip)
local macro_rules | `(tactic| walk_at "binaryOp Pow int int") => `(tactic| (k_here; first | with_reducible refine' My.step_pow60 ?_ | with_reducible refine' My.step_pow9 ?_))
local macro_rules | `(tactic| walk_at "binaryOp Mod int int") => `(tactic| (k_here; first | with_reducible refine' My.step_mod60 ?_ | with_reducible refine' My.step_mod9 ?_))
local macro_rules | `(tactic| walk_at "binaryOp Mult int int") => `(tactic| (k_here; with_reducible refine' My.step_two ?_))
local macro_rules | `(tactic| walk_at "binaryOp Mult int int") => `(tactic| (k_here; (with_reducible refine' My.step_wide ?k1 ?_); (case k1 => assumption)))
local macro_rules | `(tactic| walk_at "call ref") => `(tactic| (k_here; k_dflt (refine wpAny_call ?_; (refine' code_def ?q1 ?q2 ?q3 ?q4 ?q5 ?qA ?qF ?qK ?q6 ?q7 ?q8 ?q9 ?qB ?_ ?d2 ?d3 ?d4 ?d5; (case qA => exact rfl); (case qF => exact rfl); (case qK => first | exact rfl | assumption); (case q1 => k_asm); (case q2 => k_asm); (case q3 => k_asm); (case q4 => k_asm); (case q5 => k_asm); (case q6 => k_is); (case q7 => k_is); (case q8 => ktr_room); (case q9 => exact BindsTo.of_eq rfl); (case d5 => decide); (case qB => exact locs rfl); (case d2 => exact rfl); (case d3 => exact rfl); (case d4 => exact rfl); k_whole; intro g' L' h' FG' F' N' B' X' T'; (try dsimp only); (try k_lift B'); (try k_fold)))))
local macro_rules | `(tactic| walk_at "my enter") => `(tactic| k_dflt (refine wpAny_call ?_; (refine' My.enter ?q1 ?q2 ?q3 ?q4 ?q5 ?qA ?qF ?qK ?q6 ?q7 ?q8 ?q9 ?qB ?_ ?d2 ?d3 ?d4 ?d5; (case qA => exact rfl); (case qF => exact rfl); (case qK => first | exact rfl | assumption); (case q1 => k_asm); (case q2 => k_asm); (case q3 => k_asm); (case q4 => k_asm); (case q5 => k_asm); (case q6 => k_is); (case q7 => k_is); (case q8 => ktr_room); (case q9 => exact BindsTo.of_eq rfl); (case d5 => decide); (case qB => exact locs rfl); (case d2 => exact rfl); (case d3 => exact rfl); (case d4 => exact rfl); k_whole; intro g' L' h' hStay FG' F' N' B' X' T'; (try dsimp only); (try k_lift B'); (try k_fold))))
local macro_rules | `(tactic| walk_at "my end") => `(tactic| ((first | refine My.retI (by assumption) ?e1 ?e2 ?e3 ?e4 | refine My.retB (by assumption) ?e1 ?e2 ?e3 ?e4); (case e2 => k_asm); (case e3 => first | k_asm | exact News.nil | exact cb_drop (by assumption) (by kcj_all)); (case e4 => exact My.stay_end (by assumption) (by assumption)); (case e1 => cb_eq)))
local macro_rules | `(tactic| walk_at "my use") => `(tactic| ((case q1 => k_asm); (case q2 => k_asm); (case q3 => k_asm); (case q4 => k_asm); (case q5 => k_asm); (case q6 => first | exact rfl | assumption); (case q7 => first | exact My.room1 (by assumption) (by decide) | exact My.room1 (My.room1 (by assumption) (by decide)) (by decide) | decide | ktr_room); (case q8 => first | exact My.units1 (by assumption) (by decide) | exact My.units1 (My.units1 (by assumption) (by decide)) (by decide) | decide | ktr_units); (case q9 => k_dflt (repeat (first | exact My.sub_nil | refine My.sub_cons (by k_mem) ?_)))))
local macro_rules | `(tactic| walk_at "my on") => `(tactic| (intro t9 h9 tk9 F9 N9; (try dsimp only); (try k_fold)))
local macro_rules | `(tactic| walk_at "my is end") => `(tactic| first | exact My.IsEnd.none | exact My.IsEnd.int | assumption)
local macro_rules | `(tactic| walk_at "InvEndN") => `(tactic| (k_dflt ksr_close))
local macro_rules | `(tactic| walk_at "my end") => `(tactic| (refine' My.lays_ret (by assumption) ?e1 ?e2 (by assumption) (by assumption) (by assumption) ?e5 ?e6 (by assumption) (by assumption); (case e2 => k_asm); (case e5 => k_dflt (repeat (first | exact My.sub_nil | refine My.sub_cons (by k_mem) ?_))); (case e6 => k_dflt (repeat (first | exact My.ne_nil | refine My.ne_cons (by k_ne) ?_))); (case e1 => k_dflt (refine ⟨_, _, _, rfl, ?z1, ?z2⟩; (case z1 => first | exact My.IsEnd.none | exact My.IsEnd.int | (refine My.IsEnd.int' ?_; walk_at "my ends alike")); (case z2 => first | exact My.IsEnd.none | exact My.IsEnd.int | (refine My.IsEnd.int' ?_; walk_at "my ends alike"))))))
local macro_rules | `(tactic| walk_at "my ends alike") => `(tactic| first | rfl | omega | (split <;> omega))
local macro_rules | `(tactic| walk_at "binaryOp Mult int int") => `(tactic| (k_here; (with_reducible refine' My.step_mul_mag ?k1 ?k2 ?k3 ?k4 ?_); (case k1 => k_dflt omega); (case k2 => k_dflt omega); (case k3 => k_dflt omega); (case k4 => k_dflt omega)))
local macro_rules | `(tactic| walk_at "my end") => `(tactic| (refine My.gives_ret (by assumption) ?e1 ?e2 ?e3 ?e4; (case e2 => k_asm); (case e3 => first | k_asm | exact News.nil | exact cb_drop (by assumption) (by kcj_all)); (case e4 => exact My.stay_end (by assumption) (by assumption)); (case e1 => first | exact My.IsEnd.none | exact My.IsEnd.int)))
local macro_rules | `(tactic| walk_at "binaryOp FloorDiv int int") => `(tactic| (k_here; (with_reducible refine' My.step_fdiv_t ?k1 ?k2 ?_); (case k1 => k_dflt (first | assumption | omega)); (case k2 => k_dflt (first | exact My.d_mag (by assumption) | assumption | omega))))
local macro_rules | `(tactic| walk_at "my end") => `(tactic| (refine' My.lays_ret (by assumption) ?e1 ?e2 (by assumption) (by assumption) (by assumption) ?e5 ?e6 (by assumption) (by assumption); (case e2 => k_asm); (case e5 => k_dflt (repeat (first | exact My.sub_nil | refine My.sub_cons (by k_mem) ?_))); (case e6 => k_dflt (repeat (first | exact My.ne_nil | refine My.ne_cons (by first | k_ne | exact My.ne_of (by assumption) (by k_mem)) ?_))); (case e1 => k_dflt (first | exact ⟨_, _, _, rfl, My.IsEnd.none, My.IsEnd.none⟩ | exact ⟨_, _, _, rfl, My.IsEnd.none, My.IsEnd.int⟩ | exact ⟨_, _, _, rfl, My.IsEnd.int, My.IsEnd.none⟩ | exact ⟨_, _, _, rfl, My.IsEnd.int, My.IsEnd.int⟩ | exact My.str_nn | exact My.str_ni (My.hi_ab _ _).1 | exact My.str_ni (My.hi_mod _ _).1 | exact My.str_in (My.numb_mag _) | exact My.str_ii (My.numb_mag _) (My.hi_ab _ _).1 (My.hi_ab _ _).2 | exact My.str_ii (My.numb_mag _) (My.hi_mod _ _).1 (My.hi_mod _ _).2))))
namespace K04
section
variable {w : World} {s₀ : Shared} {mg mb : Str → Option Value}
theorem law_rested_n {r1 : Addr} {v2 : Value} {n1 : Nat} {hi1 : Option Int} (h2 : IsEnd v2 hi1) {d : Int} {t : Tok} (hd : 0 < d) (dh : d ≤ T60 + 1) : D w s₀ mg mb 10 133 [(r1, tupO #[.none, v2] n1)] [.ref r1, .int d t] (Lays (IsPair (some 0) (some (d - 1))) [(r1, tupO #[.none, v2] n1)]) := by
  cases h2 <;> w_strict (w_top off; (dsimp only [D, Does, Hands, Lays, GivesV]); k_fill; (intro dp un gd cn cs a ccd cl outer A₀ base h₀ L m s Q E B F X N T hk hd hu hret); walk_at "my enter"; k_steps; (all_goals (first | walk_at "my end" | (exfalso; omega))))
theorem law_rested_xn {r1 : Addr} {a : Int} {u : Tok} {n1 : Nat} {d : Int} {t : Tok} (hd : 0 < d) (dh : d ≤ T60 + 1) : D w s₀ mg mb 10 133 [(r1, tupO #[.int a u, .none] n1)] [.ref r1, .int d t] (Lays (IsPair (some 0) (some (d - 1))) [(r1, tupO #[.int a u, .none] n1)]) := by
  w_strict (w_top off; (dsimp only [D, Does, Hands, Lays, GivesV]); k_fill; (intro dp un gd cn cs a ccd cl outer A₀ base h₀ L m s Q E B F X N T hk hd hu hret); walk_at "my enter"; k_steps; (all_goals (first | walk_at "my end" | (exfalso; omega))))
theorem law_rested_same {r1 : Addr} {a b : Int} {u1 u2 : Tok} {n1 : Nat} {d : Int} {t : Tok} (hd : 0 < d) (dh : d ≤ T60 + 1) (h : Int.fdiv a d = Int.fdiv b d) : D w s₀ mg mb 10 133 [(r1, tupO #[.int a u1, .int b u2] n1)] [.ref r1, .int d t] (Lays (IsPair (some (Int.fmod a d)) (some (Int.fmod b d))) [(r1, tupO #[.int a u1, .int b u2] n1)]) := by
  w_strict (w_top off; (dsimp only [D, Does, Hands, Lays, GivesV]); k_fill; (intro dp un gd cn cs a ccd cl outer A₀ base h₀ L m s Q E B F X N T hk hd hu hret); walk_at "my enter"; k_steps; (all_goals (first | walk_at "my end" | (exfalso; omega))))
theorem law_rested_apart {r1 : Addr} {a b : Int} {u1 u2 : Tok} {n1 : Nat} {d : Int} {t : Tok} (hd : 0 < d) (dh : d ≤ T60 + 1) (h : ¬ Int.fdiv a d = Int.fdiv b d) : D w s₀ mg mb 10 133 [(r1, tupO #[.int a u1, .int b u2] n1)] [.ref r1, .int d t] (Lays (IsPair (some 0) (some (d - 1))) [(r1, tupO #[.int a u1, .int b u2] n1)]) := by
  w_strict (w_top off; (dsimp only [D, Does, Hands, Lays, GivesV]); k_fill; (intro dp un gd cn cs a ccd cl outer A₀ base h₀ L m s Q E B F X N T hk hd hu hret); walk_at "my enter"; k_steps; (all_goals (first | walk_at "my end" | (exfalso; omega))))
theorem law_rested_does {r1 : Addr} {v1 v2 : Value} {n1 : Nat} {lo1 hi1 : Option Int} (h1 : IsEnd v1 lo1) (h2 : IsEnd v2 hi1) {d : Int} {t : Tok} (hd : 0 < d) (dh : d ≤ T60 + 1) : D w s₀ mg mb 10 133 [(r1, tupO #[v1, v2] n1)] [.ref r1, .int d t] (Lays (IsPair (restLo d lo1 hi1) (restHi d lo1 hi1)) [(r1, tupO #[v1, v2] n1)]) := by
  cases h1 with
  | none => exact law_rested_n h2 hd dh
  | @int a u => cases h2 with
    | none => exact law_rested_xn hd dh
    | @int b u2 =>
      by_cases h : Int.fdiv a d = Int.fdiv b d
      · rw [(rest_same h).1, (rest_same h).2]
        exact law_rested_same hd dh h
      · rw [(rest_apart h).1, (rest_apart h).2]
        exact law_rested_apart hd dh h
end
end K04
end
section
open PySem PySem.W PyProof.Rows My
set_option maxRecDepth 100000
set_option maxHeartbeats 8000000
local macro_rules | `(tactic| walk_at "pad 0") => `(tactic| skip)
local macro_rules | `(tactic| walk_at "pad 1") => `(tactic| skip)
local macro_rules | `(tactic| walk_at "pad 2") => `(tactic| skip)
local macro_rules | `(tactic| walk_at "pad 3") => `(tactic| skip)
local macro_rules | `(tactic| walk_at "pad 4") => `(tactic| skip)
local macro_rules | `(tactic| walk_at "pad 5") => `(tactic| skip)
local macro_rules | `(tactic| walk_at "pad 6") => `(tactic| skip)
local macro_rules | `(tactic| walk_at "pad 7") => `(tactic| skip)
local macro_rules | `(tactic| walk_at "pad 8") => `(tactic| skip)
local macro_rules | `(tactic| walk_at "pad 9") => `(tactic| skip)
local macro_rules | `(tactic| walk_at "pad 10") => `(tactic| skip)
local macro_rules | `(tactic| walk_at "pad 11") => `(tactic| skip)
local macro_rules | `(tactic| walk_at "pad 12") => `(tactic| skip)
local macro_rules | `(tactic| walk_at "pad 13") => `(tactic| skip)
local macro_rules | `(tactic| walk_at "pad 14") => `(tactic| skip)
local macro_rules | `(tactic| walk_at "pad 15") => `(tactic| skip)
local macro_rules | `(tactic| walk_at "pad 16") => `(tactic| skip)
local macro_rules | `(tactic| walk_at "pad 17") => `(tactic| skip)
local macro_rules | `(tactic| walk_at "pad 18") => `(tactic| skip)
local macro_rules | `(tactic| walk_at "binaryOp Pow int int") => `(tactic| (k_here; first | with_reducible refine' My.step_pow60 ?_ | with_reducible refine' My.step_pow9 ?_))
local macro_rules | `(tactic| walk_at "binaryOp Mod int int") => `(tactic| (k_here; first | with_reducible refine' My.step_mod60 ?_ | with_reducible refine' My.step_mod9 ?_))
local macro_rules | `(tactic| walk_at "binaryOp Mult int int") => `(tactic| (k_here; with_reducible refine' My.step_two ?_))
local macro_rules | `(tactic| walk_at "binaryOp Mult int int") => `(tactic| (k_here; (with_reducible refine' My.step_wide ?k1 ?_); (case k1 => assumption)))
local macro_rules | `(tactic| walk_at "call ref") => `(tactic| (k_here; k_dflt (refine wpAny_call ?_; (refine' code_def ?q1 ?q2 ?q3 ?q4 ?q5 ?qA ?qF ?qK ?q6 ?q7 ?q8 ?q9 ?qB ?_ ?d2 ?d3 ?d4 ?d5; (case qA => exact rfl); (case qF => exact rfl); (case qK => first | exact rfl | assumption); (case q1 => k_asm); (case q2 => k_asm); (case q3 => k_asm); (case q4 => k_asm); (case q5 => k_asm); (case q6 => k_is); (case q7 => k_is); (case q8 => ktr_room); (case q9 => exact BindsTo.of_eq rfl); (case d5 => decide); (case qB => exact locs rfl); (case d2 => exact rfl); (case d3 => exact rfl); (case d4 => exact rfl); k_whole; intro g' L' h' FG' F' N' B' X' T'; (try dsimp only); (try k_lift B'); (try k_fold)))))
local macro_rules | `(tactic| walk_at "my enter") => `(tactic| k_dflt (refine wpAny_call ?_; (refine' My.enter ?q1 ?q2 ?q3 ?q4 ?q5 ?qA ?qF ?qK ?q6 ?q7 ?q8 ?q9 ?qB ?_ ?d2 ?d3 ?d4 ?d5; (case qA => exact rfl); (case qF => exact rfl); (case qK => first | exact rfl | assumption); (case q1 => k_asm); (case q2 => k_asm); (case q3 => k_asm); (case q4 => k_asm); (case q5 => k_asm); (case q6 => k_is); (case q7 => k_is); (case q8 => ktr_room); (case q9 => exact BindsTo.of_eq rfl); (case d5 => decide); (case qB => exact locs rfl); (case d2 => exact rfl); (case d3 => exact rfl); (case d4 => exact rfl); k_whole; intro g' L' h' hStay FG' F' N' B' X' T'; (try dsimp only); (try k_lift B'); (try k_fold))))
local macro_rules | `(tactic| walk_at "my end") => `(tactic| ((first | refine My.retI (by assumption) ?e1 ?e2 ?e3 ?e4 | refine My.retB (by assumption) ?e1 ?e2 ?e3 ?e4); (case e2 => k_asm); (case e3 => first | k_asm | exact News.nil | exact cb_drop (by assumption) (by kcj_all)); (case e4 => exact My.stay_end (by assumption) (by assumption)); (case e1 => cb_eq)))
local macro_rules | `(tactic| walk_at "my use") => `(tactic| ((case q1 => k_asm); (case q2 => k_asm); (case q3 => k_asm); (case q4 => k_asm); (case q5 => k_asm); (case q6 => first | exact rfl | assumption); (case q7 => first | exact My.room1 (by assumption) (by decide) | exact My.room1 (My.room1 (by assumption) (by decide)) (by decide) | decide | ktr_room); (case q8 => first | exact My.units1 (by assumption) (by decide) | exact My.units1 (My.units1 (by assumption) (by decide)) (by decide) | decide | ktr_units); (case q9 => k_dflt (repeat (first | exact My.sub_nil | refine My.sub_cons (by k_mem) ?_)))))
local macro_rules | `(tactic| walk_at "my on") => `(tactic| (intro t9 h9 tk9 F9 N9; (try dsimp only); (try k_fold)))
local macro_rules | `(tactic| walk_at "my is end") => `(tactic| first | exact My.IsEnd.none | exact My.IsEnd.int | assumption)
local macro_rules | `(tactic| walk_at "InvEndN") => `(tactic| (k_dflt ksr_close))
local macro_rules | `(tactic| walk_at "my end") => `(tactic| (refine' My.lays_ret (by assumption) ?e1 ?e2 (by assumption) (by assumption) (by assumption) ?e5 ?e6 (by assumption) (by assumption); (case e2 => k_asm); (case e5 => k_dflt (repeat (first | exact My.sub_nil | refine My.sub_cons (by k_mem) ?_))); (case e6 => k_dflt (repeat (first | exact My.ne_nil | refine My.ne_cons (by k_ne) ?_))); (case e1 => k_dflt (refine ⟨_, _, _, rfl, ?z1, ?z2⟩; (case z1 => first | exact My.IsEnd.none | exact My.IsEnd.int | (refine My.IsEnd.int' ?_; walk_at "my ends alike")); (case z2 => first | exact My.IsEnd.none | exact My.IsEnd.int | (refine My.IsEnd.int' ?_; walk_at "my ends alike"))))))
local macro_rules | `(tactic| walk_at "my ends alike") => `(tactic| first | rfl | omega | (split <;> omega))
local macro_rules | `(tactic| walk_at "binaryOp Mult int int") => `(tactic| (k_here; (with_reducible refine' My.step_mul_mag ?k1 ?k2 ?k3 ?k4 ?_); (case k1 => k_dflt omega); (case k2 => k_dflt omega); (case k3 => k_dflt omega); (case k4 => k_dflt omega)))
local macro_rules | `(tactic| walk_at "my end") => `(tactic| (refine My.gives_ret (by assumption) ?e1 ?e2 ?e3 ?e4; (case e2 => k_asm); (case e3 => first | k_asm | exact News.nil | exact cb_drop (by assumption) (by kcj_all)); (case e4 => exact My.stay_end (by assumption) (by assumption)); (case e1 => first | exact My.IsEnd.none | exact My.IsEnd.int)))
local macro_rules | `(tactic| walk_at "binaryOp FloorDiv int int") => `(tactic| (k_here; (with_reducible refine' My.step_fdiv_t ?k1 ?k2 ?_); (case k1 => k_dflt (first | assumption | omega)); (case k2 => k_dflt (first | exact My.d_mag (by assumption) | assumption | omega))))
local macro_rules | `(tactic| walk_at "my end") => `(tactic| (refine' My.lays_ret (by assumption) ?e1 ?e2 (by assumption) (by assumption) (by assumption) ?e5 ?e6 (by assumption) (by assumption); (case e2 => k_asm); (case e5 => k_dflt (repeat (first | exact My.sub_nil | refine My.sub_cons (by k_mem) ?_))); (case e6 => k_dflt (repeat (first | exact My.ne_nil | refine My.ne_cons (by first | k_ne | exact My.ne_of (by assumption) (by k_mem)) ?_))); (case e1 => k_dflt (first | exact ⟨_, _, _, rfl, My.IsEnd.none, My.IsEnd.none⟩ | exact ⟨_, _, _, rfl, My.IsEnd.none, My.IsEnd.int⟩ | exact ⟨_, _, _, rfl, My.IsEnd.int, My.IsEnd.none⟩ | exact ⟨_, _, _, rfl, My.IsEnd.int, My.IsEnd.int⟩ | exact My.str_nn | exact My.str_ni (My.hi_ab _ _).1 | exact My.str_ni (My.hi_mod _ _).1 | exact My.str_in (My.numb_mag _) | exact My.str_ii (My.numb_mag _) (My.hi_ab _ _).1 (My.hi_ab _ _).2 | exact My.str_ii (My.numb_mag _) (My.hi_mod _ _).1 (My.hi_mod _ _).2))))
namespace K04
section
variable {w : World} {s₀ : Shared} {mg mb : Str → Option Value}
theorem law_plus_does {r1 r2 : Addr} {v1 v2 v3 v4 : Value} {n1 n2 : Nat} {lo1 hi1 lo2 hi2 : Option Int} (h1 : IsEnd v1 lo1) (h2 : IsEnd v2 hi1) (h3 : IsEnd v3 lo2) (h4 : IsEnd v4 hi2) : D w s₀ mg mb 8 112 [(r1, tupO #[v1, v2] n1), (r2, tupO #[v3, v4] n2)] [.ref r1, .ref r2] (Lays (IsPair (plusO lo1 lo2) (plusO hi1 hi2)) [(r1, tupO #[v1, v2] n1), (r2, tupO #[v3, v4] n2)]) := by
  cases h1 <;> cases h2 <;> cases h3 <;> cases h4 <;> w_strict (w_top off; (dsimp only [D, Does, Hands, Lays, GivesV]); k_fill; (intro dp un gd cn cs a ccd cl outer A₀ base h₀ L m s Q E B F X N T hk hd hu hret); walk_at "my enter"; k_steps; (all_goals (first | walk_at "my end" | (exfalso; omega))))
end
end K04
end
section
open PySem PySem.W PyProof.Rows My
set_option maxRecDepth 100000
set_option maxHeartbeats 8000000
local macro_rules | `(tactic| walk_at "pad 0") => `(tactic| skip)
local macro_rules | `(tactic| walk_at "pad 1") => `(tactic| skip)
local macro_rules | `(tactic| walk_at "pad 2") => `(tactic| skip)
local macro_rules | `(tactic| walk_at "pad 3") => `(tactic| skip)
local macro_rules | `(tactic| walk_at "pad 4") => `(tactic| skip)
local macro_rules | `(tactic| walk_at "pad 5") => `(tactic| skip)
local macro_rules | `(tactic| walk_at "pad 6") => `(tactic| skip)
local macro_rules | `(tactic| walk_at "pad 7") => `(tactic| skip)
local macro_rules | `(tactic| walk_at "pad 8") => `(tactic| skip)
local macro_rules | `(tactic| walk_at "pad 9") => `(tactic| skip)
local macro_rules | `(tactic| walk_at "pad 10") => `(tactic| skip)
local macro_rules | `(tactic| walk_at "pad 11") => `(tactic| skip)
local macro_rules | `(tactic| walk_at "pad 12") => `(tactic| skip)
local macro_rules | `(tactic| walk_at "pad 13") => `(tactic| skip)
local macro_rules | `(tactic| walk_at "pad 14") => `(tactic| skip)
local macro_rules | `(tactic| walk_at "pad 15") => `(tactic| skip)
local macro_rules | `(tactic| walk_at "pad 16") => `(tactic| skip)
local macro_rules | `(tactic| walk_at "pad 17") => `(tactic| skip)
local macro_rules | `(tactic| walk_at "pad 18") => `(tactic| skip)
local macro_rules | `(tactic| walk_at "pad 19") => `(tactic| skip)
local macro_rules | `(tactic| walk_at "pad 20") => `(tactic| skip)
local macro_rules | `(tactic| walk_at "pad 21") => `(tactic| skip)
local macro_rules | `(tactic| walk_at "pad 22") => `(tactic| skip)
local macro_rules | `(tactic| walk_at "pad 23") => `(tactic| skip)
local macro_rules | `(tactic| walk_at "binaryOp Pow int int") => `(tactic| (k_here; first | with_reducible refine' My.step_pow60 ?_ | with_reducible refine' My.step_pow9 ?_))
local macro_rules | `(tactic| walk_at "binaryOp Mod int int") => `(tactic| (k_here; first | with_reducible refine' My.step_mod60 ?_ | with_reducible refine' My.step_mod9 ?_))
local macro_rules | `(tactic| walk_at "binaryOp Mult int int") => `(tactic| (k_here; with_reducible refine' My.step_two ?_))
local macro_rules | `(tactic| walk_at "binaryOp Mult int int") => `(tactic| (k_here; (with_reducible refine' My.step_wide ?k1 ?_); (case k1 => assumption)))
local macro_rules | `(tactic| walk_at "call ref") => `(tactic| (k_here; k_dflt (refine wpAny_call ?_; (refine' code_def ?q1 ?q2 ?q3 ?q4 ?q5 ?qA ?qF ?qK ?q6 ?q7 ?q8 ?q9 ?qB ?_ ?d2 ?d3 ?d4 ?d5; (case qA => exact rfl); (case qF => exact rfl); (case qK => first | exact rfl | assumption); (case q1 => k_asm); (case q2 => k_asm); (case q3 => k_asm); (case q4 => k_asm); (case q5 => k_asm); (case q6 => k_is); (case q7 => k_is); (case q8 => ktr_room); (case q9 => exact BindsTo.of_eq rfl); (case d5 => decide); (case qB => exact locs rfl); (case d2 => exact rfl); (case d3 => exact rfl); (case d4 => exact rfl); k_whole; intro g' L' h' FG' F' N' B' X' T'; (try dsimp only); (try k_lift B'); (try k_fold)))))
local macro_rules | `(tactic| walk_at "my enter") => `(tactic| k_dflt (refine wpAny_call ?_; (refine' My.enter ?q1 ?q2 ?q3 ?q4 ?q5 ?qA ?qF ?qK ?q6 ?q7 ?q8 ?q9 ?qB ?_ ?d2 ?d3 ?d4 ?d5; (case qA => exact rfl); (case qF => exact rfl); (case qK => first | exact rfl | assumption); (case q1 => k_asm); (case q2 => k_asm); (case q3 => k_asm); (case q4 => k_asm); (case q5 => k_asm); (case q6 => k_is); (case q7 => k_is); (case q8 => ktr_room); (case q9 => exact BindsTo.of_eq rfl); (case d5 => decide); (case qB => exact locs rfl); (case d2 => exact rfl); (case d3 => exact rfl); (case d4 => exact rfl); k_whole; intro g' L' h' hStay FG' F' N' B' X' T'; (try dsimp only); (try k_lift B'); (try k_fold))))
local macro_rules | `(tactic| walk_at "my end") => `(tactic| ((first | refine My.retI (by assumption) ?e1 ?e2 ?e3 ?e4 | refine My.retB (by assumption) ?e1 ?e2 ?e3 ?e4); (case e2 => k_asm); (case e3 => first | k_asm | exact News.nil | exact cb_drop (by assumption) (by kcj_all)); (case e4 => exact My.stay_end (by assumption) (by assumption)); (case e1 => cb_eq)))
local macro_rules | `(tactic| walk_at "my use") => `(tactic| ((case q1 => k_asm); (case q2 => k_asm); (case q3 => k_asm); (case q4 => k_asm); (case q5 => k_asm); (case q6 => first | exact rfl | assumption); (case q7 => first | exact My.room1 (by assumption) (by decide) | exact My.room1 (My.room1 (by assumption) (by decide)) (by decide) | decide | ktr_room); (case q8 => first | exact My.units1 (by assumption) (by decide) | exact My.units1 (My.units1 (by assumption) (by decide)) (by decide) | decide | ktr_units); (case q9 => k_dflt (repeat (first | exact My.sub_nil | refine My.sub_cons (by k_mem) ?_)))))
local macro_rules | `(tactic| walk_at "my on") => `(tactic| (intro t9 h9 tk9 F9 N9; (try dsimp only); (try k_fold)))
local macro_rules | `(tactic| walk_at "my is end") => `(tactic| first | exact My.IsEnd.none | exact My.IsEnd.int | assumption)
local macro_rules | `(tactic| walk_at "InvEndN") => `(tactic| (k_dflt ksr_close))
local macro_rules | `(tactic| walk_at "my end") => `(tactic| (refine' My.lays_ret (by assumption) ?e1 ?e2 (by assumption) (by assumption) (by assumption) ?e5 ?e6 (by assumption) (by assumption); (case e2 => k_asm); (case e5 => k_dflt (repeat (first | exact My.sub_nil | refine My.sub_cons (by k_mem) ?_))); (case e6 => k_dflt (repeat (first | exact My.ne_nil | refine My.ne_cons (by k_ne) ?_))); (case e1 => k_dflt (refine ⟨_, _, _, rfl, ?z1, ?z2⟩; (case z1 => first | exact My.IsEnd.none | exact My.IsEnd.int | (refine My.IsEnd.int' ?_; walk_at "my ends alike")); (case z2 => first | exact My.IsEnd.none | exact My.IsEnd.int | (refine My.IsEnd.int' ?_; walk_at "my ends alike"))))))
local macro_rules | `(tactic| walk_at "my ends alike") => `(tactic| first | rfl | omega | (split <;> omega))
local macro_rules | `(tactic| walk_at "binaryOp Mult int int") => `(tactic| (k_here; (with_reducible refine' My.step_mul_mag ?k1 ?k2 ?k3 ?k4 ?_); (case k1 => k_dflt omega); (case k2 => k_dflt omega); (case k3 => k_dflt omega); (case k4 => k_dflt omega)))
local macro_rules | `(tactic| walk_at "my end") => `(tactic| (refine My.gives_ret (by assumption) ?e1 ?e2 ?e3 ?e4; (case e2 => k_asm); (case e3 => first | k_asm | exact News.nil | exact cb_drop (by assumption) (by kcj_all)); (case e4 => exact My.stay_end (by assumption) (by assumption)); (case e1 => first | exact My.IsEnd.none | exact My.IsEnd.int)))
local macro_rules | `(tactic| walk_at "binaryOp FloorDiv int int") => `(tactic| (k_here; (with_reducible refine' My.step_fdiv_t ?k1 ?k2 ?_); (case k1 => k_dflt (first | assumption | omega)); (case k2 => k_dflt (first | exact My.d_mag (by assumption) | assumption | omega))))
local macro_rules | `(tactic| walk_at "my end") => `(tactic| (refine' My.lays_ret (by assumption) ?e1 ?e2 (by assumption) (by assumption) (by assumption) ?e5 ?e6 (by assumption) (by assumption); (case e2 => k_asm); (case e5 => k_dflt (repeat (first | exact My.sub_nil | refine My.sub_cons (by k_mem) ?_))); (case e6 => k_dflt (repeat (first | exact My.ne_nil | refine My.ne_cons (by first | k_ne | exact My.ne_of (by assumption) (by k_mem)) ?_))); (case e1 => k_dflt (first | exact ⟨_, _, _, rfl, My.IsEnd.none, My.IsEnd.none⟩ | exact ⟨_, _, _, rfl, My.IsEnd.none, My.IsEnd.int⟩ | exact ⟨_, _, _, rfl, My.IsEnd.int, My.IsEnd.none⟩ | exact ⟨_, _, _, rfl, My.IsEnd.int, My.IsEnd.int⟩ | exact My.str_nn | exact My.str_ni (My.hi_ab _ _).1 | exact My.str_ni (My.hi_mod _ _).1 | exact My.str_in (My.numb_mag _) | exact My.str_ii (My.numb_mag _) (My.hi_ab _ _).1 (My.hi_ab _ _).2 | exact My.str_ii (My.numb_mag _) (My.hi_mod _ _).1 (My.hi_mod _ _).2))))
namespace K04
section
variable {w : World} {s₀ : Shared} {mg mb : Str → Option Value}
theorem law_times_zero {r1 : Addr} {v1 v2 : Value} {n1 : Nat} {lo1 hi1 : Option Int} (h1 : IsEnd v1 lo1) (h2 : IsEnd v2 hi1) {t : Tok} : D w s₀ mg mb 8 119 [(r1, tupO #[v1, v2] n1)] [.ref r1, .int 0 t] (Lays (IsPair (some 0) (some 0)) [(r1, tupO #[v1, v2] n1)]) := by
  w_strict (w_top off; (dsimp only [D, Does, Hands, Lays, GivesV]); k_fill; (intro dp un gd cn cs a ccd cl outer A₀ base h₀ L m s Q E B F X N T hk hd hu hret); walk_at "my enter"; k_steps; (all_goals (first | walk_at "my end" | (exfalso; omega))))
theorem law_times_neg {r1 : Addr} {v1 v2 : Value} {n1 : Nat} {lo1 hi1 : Option Int} (h1 : IsEnd v1 lo1) (h2 : IsEnd v2 hi1) {k : Int} {t : Tok} (b1 : EndIn (10 * T60) lo1) (b2 : EndIn (10 * T60) hi1) (k0 : -(10 * T60) ≤ k) (k1 : k < 0) (k2 : k ≤ 10 * T60) : D w s₀ mg mb 8 119 [(r1, tupO #[v1, v2] n1)] [.ref r1, .int k t] (Lays (IsPair (mulO k hi1) (mulO k lo1)) [(r1, tupO #[v1, v2] n1)]) := by
  cases h1 <;> cases h2 <;> (dsimp only [EndIn, mulO] at b1 b2 ⊢) <;> w_strict (w_top off; (dsimp only [D, Does, Hands, Lays, GivesV]); k_fill; (intro dp un gd cn cs a ccd cl outer A₀ base h₀ L m s Q E B F X N T hk hd hu hret); walk_at "my enter"; k_steps; (all_goals (first | walk_at "my end" | (exfalso; omega))))
theorem law_times_pos {r1 : Addr} {v1 v2 : Value} {n1 : Nat} {lo1 hi1 : Option Int} (h1 : IsEnd v1 lo1) (h2 : IsEnd v2 hi1) {k : Int} {t : Tok} (b1 : EndIn (10 * T60) lo1) (b2 : EndIn (10 * T60) hi1) (k0 : -(10 * T60) ≤ k) (k1 : 0 < k) (k2 : k ≤ 10 * T60) : D w s₀ mg mb 8 119 [(r1, tupO #[v1, v2] n1)] [.ref r1, .int k t] (Lays (IsPair (mulO k lo1) (mulO k hi1)) [(r1, tupO #[v1, v2] n1)]) := by
  cases h1 <;> cases h2 <;> (dsimp only [EndIn, mulO] at b1 b2 ⊢) <;> w_strict (w_top off; (dsimp only [D, Does, Hands, Lays, GivesV]); k_fill; (intro dp un gd cn cs a ccd cl outer A₀ base h₀ L m s Q E B F X N T hk hd hu hret); walk_at "my enter"; k_steps; (all_goals (first | walk_at "my end" | (exfalso; omega))))
theorem law_parted_does {r1 : Addr} {v1 v2 : Value} {n1 : Nat} {lo1 hi1 : Option Int} (h1 : IsEnd v1 lo1) (h2 : IsEnd v2 hi1) {d : Int} {t : Tok} (hd : 0 < d) (dh : d ≤ T60 + 1) : D w s₀ mg mb 8 126 [(r1, tupO #[v1, v2] n1)] [.ref r1, .int d t] (Lays (IsPair (fdivO d lo1) (fdivO d hi1)) [(r1, tupO #[v1, v2] n1)]) := by
  cases h1 <;> cases h2 <;> w_strict (w_top off; (dsimp only [D, Does, Hands, Lays, GivesV]); k_fill; (intro dp un gd cn cs a ccd cl outer A₀ base h₀ L m s Q E B F X N T hk hd hu hret); walk_at "my enter"; k_steps; (all_goals (first | walk_at "my end" | (exfalso; omega))))
theorem narrow_does {r1 : Addr} {v1 v2 : Value} {n1 : Nat} {lo1 hi1 : Option Int} (h1 : IsEnd v1 lo1) (h2 : IsEnd v2 hi1) : D w s₀ mg mb 6 105 [(r1, tupO #[v1, v2] n1)] [.ref r1] (Hands (fun _ => .bool (narrowB lo1 hi1)) [(r1, tupO #[v1, v2] n1)]) := by
  cases h1 <;> cases h2 <;> w_strict (w_top off; (dsimp only [D, Does, Hands, Lays, GivesV]); k_fill; (intro dp un gd cn cs a ccd cl outer A₀ base h₀ L m s Q E B F X N T hk hd hu hret); walk_at "my enter"; k_steps; (all_goals (first | walk_at "my end" | (exfalso; omega))))
end
end K04
end
section
open PySem PySem.W PyProof.Rows My
set_option maxRecDepth 100000
set_option maxHeartbeats 8000000
local macro_rules | `(tactic| walk_at "pad 0") => `(tactic| skip)
local macro_rules | `(tactic| walk_at "pad 1") => `(tactic| skip)
local macro_rules | `(tactic| walk_at "pad 2") => `(tactic| skip)
local macro_rules | `(tactic| walk_at "pad 3") => `(tactic| skip)
local macro_rules | `(tactic| walk_at "pad 4") => `(tactic| skip)
local macro_rules | `(tactic| walk_at "pad 5") => `(tactic| skip)
local macro_rules | `(tactic| walk_at "pad 6") => `(tactic| skip)
local macro_rules | `(tactic| walk_at "pad 7") => `(tactic| skip)
local macro_rules | `(tactic| walk_at "pad 8") => `(tactic| skip)
local macro_rules | `(tactic| walk_at "pad 9") => `(tactic| skip)
local macro_rules | `(tactic| walk_at "pad 10") => `(tactic| skip)
local macro_rules | `(tactic| walk_at "pad 11") => `(tactic| skip)
local macro_rules | `(tactic| walk_at "pad 12") => `(tactic| skip)
local macro_rules | `(tactic| walk_at "pad 13") => `(tactic| skip)
local macro_rules | `(tactic| walk_at "pad 14") => `(tactic| skip)
local macro_rules | `(tactic| walk_at "pad 15") => `(tactic| skip)
local macro_rules | `(tactic| walk_at "pad 16") => `(tactic| skip)
local macro_rules | `(tactic| walk_at "pad 17") => `(tactic| skip)
local macro_rules | `(tactic| walk_at "pad 18") => `(tactic| skip)
local macro_rules | `(tactic| walk_at "pad 19") => `(tactic| skip)
local macro_rules | `(tactic| walk_at "pad 20") => `(tactic| skip)
local macro_rules | `(tactic| walk_at "pad 21") => `(tactic| skip)
local macro_rules | `(tactic| walk_at "pad 22") => `(tactic| skip)
local macro_rules | `(tactic| walk_at "pad 23") => `(tactic| skip)
local macro_rules | `(tactic| walk_at "pad 24") => `(tactic| skip)
local macro_rules | `(tactic| walk_at "pad 25") => `(tactic| skip)
local macro_rules | `(tactic| walk_at "pad 26") => `(tactic| skip)
local macro_rules | `(tactic| walk_at "pad 27") => `(tactic| skip)
local macro_rules | `(tactic| walk_at "pad 28") => `(tactic| skip)
local macro_rules | `(tactic| walk_at "binaryOp Pow int int") => `(tactic| (k_here; first | with_reducible refine' My.step_pow60 ?_ | with_reducible refine' My.step_pow9 ?_))
local macro_rules | `(tactic| walk_at "binaryOp Mod int int") => `(tactic| (k_here; first | with_reducible refine' My.step_mod60 ?_ | with_reducible refine' My.step_mod9 ?_))
local macro_rules | `(tactic| walk_at "binaryOp Mult int int") => `(tactic| (k_here; with_reducible refine' My.step_two ?_))
local macro_rules | `(tactic| walk_at "binaryOp Mult int int") => `(tactic| (k_here; (with_reducible refine' My.step_wide ?k1 ?_); (case k1 => assumption)))
local macro_rules | `(tactic| walk_at "call ref") => `(tactic| (k_here; k_dflt (refine wpAny_call ?_; (refine' code_def ?q1 ?q2 ?q3 ?q4 ?q5 ?qA ?qF ?qK ?q6 ?q7 ?q8 ?q9 ?qB ?_ ?d2 ?d3 ?d4 ?d5; (case qA => exact rfl); (case qF => exact rfl); (case qK => first | exact rfl | assumption); (case q1 => k_asm); (case q2 => k_asm); (case q3 => k_asm); (case q4 => k_asm); (case q5 => k_asm); (case q6 => k_is); (case q7 => k_is); (case q8 => ktr_room); (case q9 => exact BindsTo.of_eq rfl); (case d5 => decide); (case qB => exact locs rfl); (case d2 => exact rfl); (case d3 => exact rfl); (case d4 => exact rfl); k_whole; intro g' L' h' FG' F' N' B' X' T'; (try dsimp only); (try k_lift B'); (try k_fold)))))
local macro_rules | `(tactic| walk_at "my enter") => `(tactic| k_dflt (refine wpAny_call ?_; (refine' My.enter ?q1 ?q2 ?q3 ?q4 ?q5 ?qA ?qF ?qK ?q6 ?q7 ?q8 ?q9 ?qB ?_ ?d2 ?d3 ?d4 ?d5; (case qA => exact rfl); (case qF => exact rfl); (case qK => first | exact rfl | assumption); (case q1 => k_asm); (case q2 => k_asm); (case q3 => k_asm); (case q4 => k_asm); (case q5 => k_asm); (case q6 => k_is); (case q7 => k_is); (case q8 => ktr_room); (case q9 => exact BindsTo.of_eq rfl); (case d5 => decide); (case qB => exact locs rfl); (case d2 => exact rfl); (case d3 => exact rfl); (case d4 => exact rfl); k_whole; intro g' L' h' hStay FG' F' N' B' X' T'; (try dsimp only); (try k_lift B'); (try k_fold))))
local macro_rules | `(tactic| walk_at "my end") => `(tactic| ((first | refine My.retI (by assumption) ?e1 ?e2 ?e3 ?e4 | refine My.retB (by assumption) ?e1 ?e2 ?e3 ?e4); (case e2 => k_asm); (case e3 => first | k_asm | exact News.nil | exact cb_drop (by assumption) (by kcj_all)); (case e4 => exact My.stay_end (by assumption) (by assumption)); (case e1 => cb_eq)))
local macro_rules | `(tactic| walk_at "my use") => `(tactic| ((case q1 => k_asm); (case q2 => k_asm); (case q3 => k_asm); (case q4 => k_asm); (case q5 => k_asm); (case q6 => first | exact rfl | assumption); (case q7 => first | exact My.room1 (by assumption) (by decide) | exact My.room1 (My.room1 (by assumption) (by decide)) (by decide) | decide | ktr_room); (case q8 => first | exact My.units1 (by assumption) (by decide) | exact My.units1 (My.units1 (by assumption) (by decide)) (by decide) | decide | ktr_units); (case q9 => k_dflt (repeat (first | exact My.sub_nil | refine My.sub_cons (by k_mem) ?_)))))
local macro_rules | `(tactic| walk_at "my on") => `(tactic| (intro t9 h9 tk9 F9 N9; (try dsimp only); (try k_fold)))
local macro_rules | `(tactic| walk_at "my is end") => `(tactic| first | exact My.IsEnd.none | exact My.IsEnd.int | assumption)
local macro_rules | `(tactic| walk_at "InvEndN") => `(tactic| (k_dflt ksr_close))
local macro_rules | `(tactic| walk_at "my end") => `(tactic| (refine' My.lays_ret (by assumption) ?e1 ?e2 (by assumption) (by assumption) (by assumption) ?e5 ?e6 (by assumption) (by assumption); (case e2 => k_asm); (case e5 => k_dflt (repeat (first | exact My.sub_nil | refine My.sub_cons (by k_mem) ?_))); (case e6 => k_dflt (repeat (first | exact My.ne_nil | refine My.ne_cons (by k_ne) ?_))); (case e1 => k_dflt (refine ⟨_, _, _, rfl, ?z1, ?z2⟩; (case z1 => first | exact My.IsEnd.none | exact My.IsEnd.int | (refine My.IsEnd.int' ?_; walk_at "my ends alike")); (case z2 => first | exact My.IsEnd.none | exact My.IsEnd.int | (refine My.IsEnd.int' ?_; walk_at "my ends alike"))))))
local macro_rules | `(tactic| walk_at "my ends alike") => `(tactic| first | rfl | omega | (split <;> omega))
local macro_rules | `(tactic| walk_at "my end") => `(tactic| (refine' My.lays_ret (by assumption) ?e1 ?e2 (by assumption) (by assumption) (by assumption) ?e5 ?e6 (by assumption) (by assumption); (case e2 => k_asm); (case e5 => k_dflt (repeat (first | exact My.sub_nil | refine My.sub_cons (by k_mem) ?_))); (case e6 => k_dflt (repeat (first | exact My.ne_nil | refine My.ne_cons (by first | k_ne | exact My.ne_of (by assumption) (by k_mem)) ?_))); (case e1 => k_dflt (first | exact ⟨_, _, _, rfl, My.IsEnd.none, My.IsEnd.none⟩ | exact ⟨_, _, _, rfl, My.IsEnd.none, My.IsEnd.int⟩ | exact ⟨_, _, _, rfl, My.IsEnd.int, My.IsEnd.none⟩ | exact ⟨_, _, _, rfl, My.IsEnd.int, My.IsEnd.int⟩ | exact My.str_nn | exact My.str_ni (My.hi_ab _ _).1 | exact My.str_ni (My.hi_mod _ _).1 | exact My.str_in (My.numb_mag _) | exact My.str_ii (My.numb_mag _) (My.hi_ab _ _).1 (My.hi_ab _ _).2 | exact My.str_ii (My.numb_mag _) (My.hi_mod _ _).1 (My.hi_mod _ _).2))))
local macro_rules | `(tactic| ke_room) => `(tactic| ktr_units)
local macro_rules | `(tactic| walk_at "call ref") => `(tactic| (k_here; first
  | (k_dflt (refine' My.use_hands (K04.number_does ?q0) ?q1 ?q2 ?q3 ?q4 ?q5 ?q6 ?q7 ?q8 ?q9 ?_); k_dflt (walk_at "my use"); (case q0 => k_dflt (first | assumption | exact My.cell_fdiv (by decide) (by assumption)));  k_dflt (walk_at "my on"))
  | (k_dflt (refine' My.use_hands (K04.end_does ?q0) ?q1 ?q2 ?q3 ?q4 ?q5 ?q6 ?q7 ?q8 ?q9 ?_); k_dflt (walk_at "my use"); (case q0 => k_dflt (first | exact My.IsEnd.none | exact My.IsEnd.int | assumption));  k_dflt (walk_at "my on"))))
local macro_rules | `(tactic| walk_at "compareOp Eq int int") => `(tactic| (k_here; (with_reducible refine' My.eq_split_mod ?_ ?_); (all_goals intro hdraw); (all_goals (try dsimp only))))
local macro_rules | `(tactic| walk_at "compareOp Lt int int") => `(tactic| (k_here; (with_reducible refine' My.lt_split_mod ?_ ?_); (all_goals intro hdraw); (all_goals (try dsimp only))))
namespace K04
section
variable {w : World} {s₀ : Shared} {mg mb : Str → Option Value}
theorem same_does {r1 r2 : Addr} {v1 v2 v3 v4 : Value} {n1 n2 : Nat} {lo hi : Option Int} (h1 : IsEnd v1 lo) (h2 : IsEnd v2 hi) (h3 : IsEnd v3 lo) (h4 : IsEnd v4 hi) :
    D w s₀ mg mb 10 98 [(r1, tupO #[v1, v2] n1), (r2, tupO #[v3, v4] n2)] [.ref r1, .ref r2] (Hands (fun _ => .bool true) [(r1, tupO #[v1, v2] n1), (r2, tupO #[v3, v4] n2)]) := by
  cases h1 <;> cases h2 <;> cases h3 <;> cases h4 <;> w_strict (w_top off; (dsimp only [D, Does, Hands, Lays, GivesV]); k_fill; (intro dp un gd cn cs a ccd cl outer A₀ base h₀ L m s Q E B F X N T hk hd hu hret); walk_at "my enter"; k_steps; (all_goals (first | walk_at "my end" | (exfalso; omega))))
theorem stretch_does {c m : Int} {t2 t3 : Tok} (hc : Cell c) (hm : Cell m) : D w s₀ mg mb 8 84 [] [.int c t2, .int m t3] (Lays StrOk []) := by
  w_strict (w_top off; (dsimp only [D, Does, Hands, Lays, GivesV]); k_fill; (intro dp un gd cn cs a ccd cl outer A₀ base h₀ L m s Q E B F X N T hk hd hu hret); walk_at "my enter"; k_steps; (all_goals (first | walk_at "my end" | (exfalso; omega))))
end
end K04
end
section
open PySem PySem.W PyProof.Rows My
set_option maxRecDepth 100000
set_option maxHeartbeats 8000000
namespace K04
section
variable {w : World} {s₀ : Shared} {mg mb : Str → Option Value}
theorem times_does {r1 : Addr} {v1 v2 : Value} {n1 : Nat} {lo1 hi1 : Option Int} (h1 : IsEnd v1 lo1) (h2 : IsEnd v2 hi1) {k : Int} {t : Tok} (b1 : EndIn (10 * T60) lo1) (b2 : EndIn (10 * T60) hi1) (k0 : -(10 * T60) ≤ k) (k2 : k ≤ 10 * T60) : D w s₀ mg mb 8 35 [(r1, tupO #[v1, v2] n1)] [.ref r1, .int k t] (Lays (IsPair (timesLo k lo1 hi1) (timesHi k lo1 hi1)) [(r1, tupO #[v1, v2] n1)]) := by
  rcases Int.lt_trichotomy k 0 with z | z | z
  · rw [(times_n z).1, (times_n z).2]
    exact times_neg h1 h2 b1 b2 k0 z k2
  · rw [(times_z z).1, (times_z z).2]
    subst z
    exact times_zero h1 h2
  · rw [(times_p z).1, (times_p z).2]
    exact times_pos h1 h2 b1 b2 k0 z k2
theorem law_times_does {r1 : Addr} {v1 v2 : Value} {n1 : Nat} {lo1 hi1 : Option Int} (h1 : IsEnd v1 lo1) (h2 : IsEnd v2 hi1) {k : Int} {t : Tok} (b1 : EndIn (10 * T60) lo1) (b2 : EndIn (10 * T60) hi1) (k0 : -(10 * T60) ≤ k) (k2 : k ≤ 10 * T60) : D w s₀ mg mb 8 119 [(r1, tupO #[v1, v2] n1)] [.ref r1, .int k t] (Lays (IsPair (timesLo k lo1 hi1) (timesHi k lo1 hi1)) [(r1, tupO #[v1, v2] n1)]) := by
  rcases Int.lt_trichotomy k 0 with z | z | z
  · rw [(times_n z).1, (times_n z).2]
    exact law_times_neg h1 h2 b1 b2 k0 z k2
  · rw [(times_z z).1, (times_z z).2]
    subst z
    exact law_times_zero h1 h2
  · rw [(times_p z).1, (times_p z).2]
    exact law_times_pos h1 h2 b1 b2 k0 z k2
end
end K04
end
section
open PySem PySem.W PyProof.Rows My
set_option maxRecDepth 100000
set_option maxHeartbeats 8000000
local macro_rules | `(tactic| walk_at "pad 0") => `(tactic| skip)
local macro_rules | `(tactic| walk_at "pad 1") => `(tactic| skip)
local macro_rules | `(tactic| walk_at "pad 2") => `(tactic| skip)
local macro_rules | `(tactic| walk_at "pad 3") => `(tactic| skip)
local macro_rules | `(tactic| walk_at "pad 4") => `(tactic| skip)
local macro_rules | `(tactic| walk_at "pad 5") => `(tactic| skip)
local macro_rules | `(tactic| walk_at "pad 6") => `(tactic| skip)
local macro_rules | `(tactic| walk_at "pad 7") => `(tactic| skip)
local macro_rules | `(tactic| walk_at "pad 8") => `(tactic| skip)
local macro_rules | `(tactic| walk_at "pad 9") => `(tactic| skip)
local macro_rules | `(tactic| walk_at "pad 10") => `(tactic| skip)
local macro_rules | `(tactic| walk_at "pad 11") => `(tactic| skip)
local macro_rules | `(tactic| walk_at "pad 12") => `(tactic| skip)
local macro_rules | `(tactic| walk_at "pad 13") => `(tactic| skip)
local macro_rules | `(tactic| walk_at "pad 14") => `(tactic| skip)
local macro_rules | `(tactic| walk_at "pad 15") => `(tactic| skip)
local macro_rules | `(tactic| walk_at "pad 16") => `(tactic| skip)
local macro_rules | `(tactic| walk_at "pad 17") => `(tactic| skip)
local macro_rules | `(tactic| walk_at "pad 18") => `(tactic| skip)
local macro_rules | `(tactic| walk_at "pad 19") => `(tactic| skip)
local macro_rules | `(tactic| walk_at "pad 20") => `(tactic| skip)
local macro_rules | `(tactic| walk_at "pad 21") => `(tactic| skip)
local macro_rules | `(tactic| walk_at "pad 22") => `(tactic| skip)
local macro_rules | `(tactic| walk_at "pad 23") => `(tactic| skip)
local macro_rules | `(tactic| walk_at "pad 24") => `(tactic| skip)
local macro_rules | `(tactic| walk_at "pad 25") => `(tactic| skip)
local macro_rules | `(tactic| walk_at "binaryOp Pow int int") => `(tactic| (k_here; first | with_reducible refine' My.step_pow60 ?_ | with_reducible refine' My.step_pow9 ?_))
local macro_rules | `(tactic| walk_at "binaryOp Mod int int") => `(tactic| (k_here; first | with_reducible refine' My.step_mod60 ?_ | with_reducible refine' My.step_mod9 ?_))
local macro_rules | `(tactic| walk_at "binaryOp Mult int int") => `(tactic| (k_here; with_reducible refine' My.step_two ?_))
local macro_rules | `(tactic| walk_at "binaryOp Mult int int") => `(tactic| (k_here; (with_reducible refine' My.step_wide ?k1 ?_); (case k1 => assumption)))
local macro_rules | `(tactic| walk_at "call ref") => `(tactic| (k_here; k_dflt (refine wpAny_call ?_; (refine' code_def ?q1 ?q2 ?q3 ?q4 ?q5 ?qA ?qF ?qK ?q6 ?q7 ?q8 ?q9 ?qB ?_ ?d2 ?d3 ?d4 ?d5; (case qA => exact rfl); (case qF => exact rfl); (case qK => first | exact rfl | assumption); (case q1 => k_asm); (case q2 => k_asm); (case q3 => k_asm); (case q4 => k_asm); (case q5 => k_asm); (case q6 => k_is); (case q7 => k_is); (case q8 => ktr_room); (case q9 => exact BindsTo.of_eq rfl); (case d5 => decide); (case qB => exact locs rfl); (case d2 => exact rfl); (case d3 => exact rfl); (case d4 => exact rfl); k_whole; intro g' L' h' FG' F' N' B' X' T'; (try dsimp only); (try k_lift B'); (try k_fold)))))
local macro_rules | `(tactic| walk_at "my enter") => `(tactic| k_dflt (refine wpAny_call ?_; (refine' My.enter ?q1 ?q2 ?q3 ?q4 ?q5 ?qA ?qF ?qK ?q6 ?q7 ?q8 ?q9 ?qB ?_ ?d2 ?d3 ?d4 ?d5; (case qA => exact rfl); (case qF => exact rfl); (case qK => first | exact rfl | assumption); (case q1 => k_asm); (case q2 => k_asm); (case q3 => k_asm); (case q4 => k_asm); (case q5 => k_asm); (case q6 => k_is); (case q7 => k_is); (case q8 => ktr_room); (case q9 => exact BindsTo.of_eq rfl); (case d5 => decide); (case qB => exact locs rfl); (case d2 => exact rfl); (case d3 => exact rfl); (case d4 => exact rfl); k_whole; intro g' L' h' hStay FG' F' N' B' X' T'; (try dsimp only); (try k_lift B'); (try k_fold))))
local macro_rules | `(tactic| walk_at "my end") => `(tactic| ((first | refine My.retI (by assumption) ?e1 ?e2 ?e3 ?e4 | refine My.retB (by assumption) ?e1 ?e2 ?e3 ?e4); (case e2 => k_asm); (case e3 => first | k_asm | exact News.nil | exact cb_drop (by assumption) (by kcj_all)); (case e4 => exact My.stay_end (by assumption) (by assumption)); (case e1 => cb_eq)))
local macro_rules | `(tactic| walk_at "my use") => `(tactic| ((case q1 => k_asm); (case q2 => k_asm); (case q3 => k_asm); (case q4 => k_asm); (case q5 => k_asm); (case q6 => first | exact rfl | assumption); (case q7 => first | exact My.room1 (by assumption) (by decide) | exact My.room1 (My.room1 (by assumption) (by decide)) (by decide) | decide | ktr_room); (case q8 => first | exact My.units1 (by assumption) (by decide) | exact My.units1 (My.units1 (by assumption) (by decide)) (by decide) | decide | ktr_units); (case q9 => k_dflt (repeat (first | exact My.sub_nil | refine My.sub_cons (by k_mem) ?_)))))
local macro_rules | `(tactic| walk_at "my on") => `(tactic| (intro t9 h9 tk9 F9 N9; (try dsimp only); (try k_fold)))
local macro_rules | `(tactic| walk_at "my is end") => `(tactic| first | exact My.IsEnd.none | exact My.IsEnd.int | assumption)
local macro_rules | `(tactic| walk_at "InvEndN") => `(tactic| (k_dflt ksr_close))
local macro_rules | `(tactic| walk_at "my end") => `(tactic| (refine' My.lays_ret (by assumption) ?e1 ?e2 (by assumption) (by assumption) (by assumption) ?e5 ?e6 (by assumption) (by assumption); (case e2 => k_asm); (case e5 => k_dflt (repeat (first | exact My.sub_nil | refine My.sub_cons (by k_mem) ?_))); (case e6 => k_dflt (repeat (first | exact My.ne_nil | refine My.ne_cons (by k_ne) ?_))); (case e1 => k_dflt (refine ⟨_, _, _, rfl, ?z1, ?z2⟩; (case z1 => first | exact My.IsEnd.none | exact My.IsEnd.int | (refine My.IsEnd.int' ?_; walk_at "my ends alike")); (case z2 => first | exact My.IsEnd.none | exact My.IsEnd.int | (refine My.IsEnd.int' ?_; walk_at "my ends alike"))))))
local macro_rules | `(tactic| walk_at "my ends alike") => `(tactic| first | rfl | omega | (split <;> omega))
local macro_rules | `(tactic| walk_at "binaryOp Mult int int") => `(tactic| (k_here; (with_reducible refine' My.step_mul_mag ?k1 ?k2 ?k3 ?k4 ?_); (case k1 => k_dflt omega); (case k2 => k_dflt omega); (case k3 => k_dflt omega); (case k4 => k_dflt omega)))
local macro_rules | `(tactic| walk_at "my end") => `(tactic| (refine My.gives_ret (by assumption) ?e1 ?e2 ?e3 ?e4; (case e2 => k_asm); (case e3 => first | k_asm | exact News.nil | exact cb_drop (by assumption) (by kcj_all)); (case e4 => exact My.stay_end (by assumption) (by assumption)); (case e1 => first | exact My.IsEnd.none | exact My.IsEnd.int)))
local macro_rules | `(tactic| walk_at "binaryOp FloorDiv int int") => `(tactic| (k_here; (with_reducible refine' My.step_fdiv_t ?k1 ?k2 ?_); (case k1 => k_dflt (first | assumption | omega)); (case k2 => k_dflt (first | exact My.d_mag (by assumption) | assumption | omega))))
local macro_rules | `(tactic| walk_at "my on gives") => `(tactic| (intro v9 h9 tk9 hP9 F9 N9; (try dsimp only); (try k_fold)))
local macro_rules | `(tactic| walk_at "my on lays") => `(tactic| (intro r9 o9 h9 tk9 hP9 F9 N9 hne9; (obtain ⟨v91, v92, k9, e9, he91, he92⟩ := hP9); (subst e9); (try dsimp only); (try k_fold)))
local macro_rules | `(tactic| walk_at "my enterC") => `(tactic| k_dflt (refine wpAny_call ?_; (refine' My.enterC ?q1 ?q2 ?q3 ?q4 ?q5 ?qA ?qF ?qK ?q6 ?q7 ?q8 ?q9 ?qB ?qD ?_ ?d2 ?d3 ?d4; (case qA => exact rfl); (case qF => exact rfl); (case qK => first | exact rfl | assumption); (case q1 => k_asm); (case q2 => k_asm); (case q3 => k_asm); (case q4 => k_asm); (case q5 => k_asm); (case q6 => k_is); (case q7 => k_is); (case q8 => ktr_room); (case q9 => exact BindsTo.of_eq rfl); (case qB => exact rfl); (case qD => decide +kernel); (case d2 => exact rfl); (case d3 => exact rfl); (case d4 => exact rfl); k_whole; intro g' L' h' tk' cells' hStay FG' F' N' Y' B' X' T' l1; (try k_lt l1); k_cells Y'; (try simp only [List.cons_append, List.nil_append] at N'); (try dsimp only); (try k_lift B'); (try k_fold))))
local macro_rules | `(tactic| walk_at "eval Call") => `(tactic| (k_here; k_dflt (refine Call_ ?_)))
local macro_rules | `(tactic| walk_at "call type:list") => `(tactic| (k_here; (with_reducible show wpAny _ _ (call (Value.type _) [Value.ref _]) _ _ _); (rename IsRange _ _ _ _ _ _ _ _ => rgX); k_dflt (refine' My.list_rng (by rfl) (by k_asm) (by k_asm) rgX (by omega) (by omega) ?_); (clear rgX); (intro l9 vs9 nn9 h9 tk9 hi9 F9 N9 lt9); (try k_lt lt9); (try dsimp only); (try k_fold)))
local macro_rules | `(tactic| walk_at "binaryOp Mult int int") => `(tactic| (k_here; (rename (_ : Int) ∈ rangeKs _ _ => hmem); (have hrk := mem_rangeKs hmem); (with_reducible refine' My.step_mul_mag ?k1 ?k2 ?k3 ?k4 ?_); (case k1 => k_dflt omega); (case k2 => k_dflt omega); (case k3 => k_dflt omega); (case k4 => k_dflt omega)))
local macro_rules | `(tactic| walk_at "my sum") => `(tactic| omega)
local macro_rules | `(tactic| walk_at "my is end") => `(tactic| first | assumption | exact My.IsEnd.int | exact K04.t_lo (by assumption) (by assumption) (by exact fun _ h => if_pos (mem_rangeKs h)) (by assumption) (by omega) | exact K04.t_hi (by assumption) (by assumption) (by exact fun _ h => if_pos (mem_rangeKs h)) (by assumption) (by omega) | exact K04.p_lo (by assumption) (by assumption) (by exact fun _ _ => rfl) (by assumption) (by omega) | exact K04.p_hi (by assumption) (by assumption) (by exact fun _ _ => rfl) (by assumption) (by assumption) (by omega) | exact K04.r_lo (by assumption) (by assumption) (by exact fun _ _ => rfl) (by assumption) (by assumption) (by omega) | exact K04.r_hi (by assumption) (by assumption) (by exact fun _ _ => rfl) (by assumption) (by assumption) (by omega))
local macro_rules | `(tactic| walk_at "call ref") => `(tactic| (k_here; first
  | (k_dflt (refine' My.use_lays (K04.times_does ?p0 ?p1 ?p2 ?p3 ?p4 ?p5) ?q1 ?q2 ?q3 ?q4 ?q5 ?q6 ?q7 ?q8 ?q9 ?_); k_dflt (walk_at "my use"); (case p0 => k_dflt (exact My.IsEnd.int)); (case p1 => k_dflt (exact My.IsEnd.int)); (case p2 => k_dflt (first | assumption | omega | exact ⟨by omega, by omega⟩)); (case p3 => k_dflt (first | assumption | omega | exact ⟨by omega, by omega⟩)); (case p4 => k_dflt (first | assumption | omega | exact ⟨by omega, by omega⟩)); (case p5 => k_dflt (first | assumption | omega | exact ⟨by omega, by omega⟩)); k_dflt (walk_at "my on lays"))
  | (k_dflt (refine' My.use_lays (K04.parted_does ?p0 ?p1 ?p2 ?p3) ?q1 ?q2 ?q3 ?q4 ?q5 ?q6 ?q7 ?q8 ?q9 ?_); k_dflt (walk_at "my use"); (case p0 => k_dflt (exact My.IsEnd.int)); (case p1 => k_dflt (exact My.IsEnd.int)); (case p2 => k_dflt (first | assumption | omega | exact ⟨by omega, by omega⟩)); (case p3 => k_dflt (first | assumption | omega | exact ⟨by omega, by omega⟩)); k_dflt (walk_at "my on lays"))
  | (k_dflt (refine' My.use_lays (K04.rested_does ?p0 ?p1 ?p2 ?p3) ?q1 ?q2 ?q3 ?q4 ?q5 ?q6 ?q7 ?q8 ?q9 ?_); k_dflt (walk_at "my use"); (case p0 => k_dflt (exact My.IsEnd.int)); (case p1 => k_dflt (exact My.IsEnd.int)); (case p2 => k_dflt (first | assumption | omega | exact ⟨by omega, by omega⟩)); (case p3 => k_dflt (first | assumption | omega | exact ⟨by omega, by omega⟩)); k_dflt (walk_at "my on lays"))
  | (k_dflt (refine' My.use_hands (K04.same_does ?p0 ?p1 ?p2 ?p3) ?q1 ?q2 ?q3 ?q4 ?q5 ?q6 ?q7 ?q8 ?q9 ?_); k_dflt (walk_at "my use"); (case p0 => k_dflt (walk_at "my is end")); (case p1 => k_dflt (walk_at "my is end")); (case p2 => k_dflt (walk_at "my is end")); (case p3 => k_dflt (walk_at "my is end")); k_dflt (walk_at "my on"))))
namespace K04
section
variable {w : World} {s₀ : Shared} {mg mb : Str → Option Value}
theorem numbers_does {r1 : Addr} {a b : Int} {u1 u2 : Tok} {n1 : Nat} {k d : Int} {t t' : Tok} (hab : a ≤ b) (h12 : b - a ≤ 12) (a0 : -(10 * T60) ≤ a) (a1 : a ≤ 10 * T60) (b0 : -(10 * T60) ≤ b) (b1 : b ≤ 10 * T60) (k0 : -(10 * T60) ≤ k) (k1 : k ≤ 10 * T60) (hd : 0 < d) (dh : d ≤ T60 + 1) :
    D w s₀ mg mb 16 138 [(r1, tupO #[.int a u1, .int b u2] n1)] [.ref r1, .int k t, .int d t'] (Hands (fun _ => .bool true) [(r1, tupO #[.int a u1, .int b u2] n1)]) := by
  w_strict (w_top off; (dsimp only [D, Does, Hands, Lays, GivesV]); k_fill; (intro dp un gd cn cs a ccd cl outer A₀ base h₀ L m s Q E B F X N T hk hd hu hret); walk_at "my enterC"; k_steps; (all_goals (first | walk_at "my end" | (exfalso; omega))))
end
end K04
end
section
open PySem PySem.W PyProof.Rows My
set_option maxRecDepth 100000
set_option maxHeartbeats 8000000
namespace K04
section
variable {w : World} {s₀ : Shared} {mg mb : Str → Option Value}
theorem numbers_gen {r1 : Addr} {v1 v2 : Value} {n1 : Nat} {lo1 hi1 : Option Int} (h1 : IsEnd v1 lo1) (h2 : IsEnd v2 hi1) {k d : Int} {t t' : Tok} (hn : narrowB lo1 hi1 = true) (ho : Ord2 lo1 hi1) (b1 : EndIn (10 * T60) lo1) (b2 : EndIn (10 * T60) hi1) (k0 : -(10 * T60) ≤ k) (k1 : k ≤ 10 * T60) (hd : 0 < d) (dh : d ≤ T60 + 1) :
    D w s₀ mg mb 16 138 [(r1, tupO #[v1, v2] n1)] [.ref r1, .int k t, .int d t'] (Hands (fun _ => .bool true) [(r1, tupO #[v1, v2] n1)]) := by
  obtain ⟨a, b, e1, e2, h3, h4⟩ := narrow_yes hn ho
  subst e1 e2
  cases h1
  cases h2
  exact numbers_does h3 h4 b1.1 b1.2 b2.1 b2.2 k0 k1 hd dh
end
end K04
end
section
open PySem PySem.W PyProof.Rows
local macro_rules | `(tactic| walk_at "pad 0") => `(tactic| skip)
local macro_rules | `(tactic| walk_at "pad 1") => `(tactic| skip)
local macro_rules | `(tactic| walk_at "pad 2") => `(tactic| skip)
local macro_rules | `(tactic| walk_at "pad 3") => `(tactic| skip)
local macro_rules | `(tactic| walk_at "pad 4") => `(tactic| skip)
local macro_rules | `(tactic| walk_at "pad 5") => `(tactic| skip)
local macro_rules | `(tactic| walk_at "pad 6") => `(tactic| skip)
local macro_rules | `(tactic| walk_at "pad 7") => `(tactic| skip)
local macro_rules | `(tactic| walk_at "pad 8") => `(tactic| skip)
local macro_rules | `(tactic| walk_at "pad 9") => `(tactic| skip)
local macro_rules | `(tactic| walk_at "pad 10") => `(tactic| skip)
local macro_rules | `(tactic| walk_at "pad 11") => `(tactic| skip)
local macro_rules | `(tactic| walk_at "pad 12") => `(tactic| skip)
local macro_rules | `(tactic| walk_at "pad 13") => `(tactic| skip)
local macro_rules | `(tactic| walk_at "pad 14") => `(tactic| skip)
local macro_rules | `(tactic| walk_at "pad 15") => `(tactic| skip)
local macro_rules | `(tactic| walk_at "pad 16") => `(tactic| skip)
local macro_rules | `(tactic| walk_at "pad 17") => `(tactic| skip)
local macro_rules | `(tactic| walk_at "pad 18") => `(tactic| skip)
local macro_rules | `(tactic| walk_at "pad 19") => `(tactic| skip)
local macro_rules | `(tactic| walk_at "pad 20") => `(tactic| skip)
local macro_rules | `(tactic| walk_at "pad 21") => `(tactic| skip)
local macro_rules | `(tactic| walk_at "pad 22") => `(tactic| skip)
local macro_rules | `(tactic| walk_at "pad 23") => `(tactic| skip)
local macro_rules | `(tactic| walk_at "pad 24") => `(tactic| skip)
local macro_rules | `(tactic| walk_at "pad 25") => `(tactic| skip)
local macro_rules | `(tactic| walk_at "pad 26") => `(tactic| skip)
local macro_rules | `(tactic| walk_at "pad 27") => `(tactic| skip)
local macro_rules | `(tactic| walk_at "pad 28") => `(tactic| skip)
local macro_rules | `(tactic| walk_at "pad 29") => `(tactic| skip)
local macro_rules | `(tactic| walk_at "pad 30") => `(tactic| skip)
local macro_rules | `(tactic| walk_at "pad 31") => `(tactic| skip)
local macro_rules | `(tactic| walk_at "pad 32") => `(tactic| skip)
local macro_rules | `(tactic| walk_at "pad 33") => `(tactic| skip)
local macro_rules | `(tactic| walk_at "pad 34") => `(tactic| skip)
local macro_rules | `(tactic| walk_at "pad 35") => `(tactic| skip)
local macro_rules | `(tactic| walk_at "pad 36") => `(tactic| skip)
local macro_rules | `(tactic| walk_at "pad 37") => `(tactic| skip)
local macro_rules | `(tactic| walk_at "pad 38") => `(tactic| skip)
local macro_rules | `(tactic| walk_at "pad 39") => `(tactic| skip)
local macro_rules | `(tactic| walk_at "pad 40") => `(tactic| skip)
local macro_rules | `(tactic| walk_at "pad 41") => `(tactic| skip)
local macro_rules | `(tactic| walk_at "pad 42") => `(tactic| skip)
local macro_rules | `(tactic| walk_at "pad 43") => `(tactic| skip)
local macro_rules | `(tactic| walk_at "pad 44") => `(tactic| skip)
local macro_rules | `(tactic| walk_at "InvEndN") => `(tactic| (k_dflt ksr_close))
local macro_rules | `(tactic| walk_at "my use") => `(tactic| ((case q1 => k_asm); (case q2 => k_asm); (case q3 => k_asm); (case q4 => k_asm); (case q5 => k_asm); (case q6 => first | exact rfl | assumption); (case q7 => first | decide | exact My.room1 (by decide) (by decide) | ktr_room); (case q8 => first | decide | exact My.units1 (by decide) (by decide) | ktr_units); (case q9 => k_dflt (repeat (first | exact My.sub_nil | refine My.sub_cons (by k_mem) ?_))); skip))
local macro_rules | `(tactic| walk_at "my on") => `(tactic| (intro t9 h9 tk9 F9 N9; (try dsimp only); (try k_fold)))
local macro_rules | `(tactic| walk_at "my on gives") => `(tactic| (intro v9 h9 tk9 hP9 F9 N9; (try dsimp only); (try k_fold)))
local macro_rules | `(tactic| walk_at "my on lays") => `(tactic| (intro r9 o9 h9 tk9 hP9 F9 N9 hne9; (obtain ⟨v91, v92, k9, e9, he91, he92⟩ := hP9); (subst e9); (try dsimp only); (try k_fold)))
local macro_rules | `(tactic| walk_at "my on str") => `(tactic| (intro r9 o9 h9 tk9 hP9 F9 N9 hne9; (obtain ⟨lo9, hi9, hpair9, hbl9, hbh9, hord9⟩ := hP9); (obtain ⟨v91, v92, k9, e9, he91, he92⟩ := hpair9); (subst e9); (try dsimp only); (try k_fold)))
local macro_rules | `(tactic| walk_at "call ref") => `(tactic| (k_here; first
  | (k_dflt (refine' cellTells_use ?q1 ?q2 ?q3 ?q4 ?q5 ?q6 ?qa ?qb ?qc ?qd K04.cell_tells ?q7 ?q8 ?_); k_dflt ((case q1 => k_asm); (case q2 => k_asm); (case q3 => k_asm); (case q4 => k_asm); (case q5 => k_asm); (case q6 => first | exact rfl | assumption); (case qa => k_asm); (case qb => assumption); (case qc => omega); (case qd => omega); (case q7 => first | decide | ktr_room); (case q8 => first | decide | ktr_units); (intro t9 h9 tk9 F9 N9; (try dsimp only); (try k_fold))))
  | (k_dflt (refine' My.use_lays (K04.stretch_does ?p0 ?p1) ?q1 ?q2 ?q3 ?q4 ?q5 ?q6 ?q7 ?q8 ?q9 ?_); k_dflt (walk_at "my use"); (case p0 => k_dflt (exact My.cell_at (by assumption) _)); (case p1 => k_dflt (exact My.cell_at (by assumption) _)); k_dflt (walk_at "my on str"))
  | (k_dflt (refine' My.use_lays (K04.plus_does ?p0 ?p1 ?p2 ?p3) ?q1 ?q2 ?q3 ?q4 ?q5 ?q6 ?q7 ?q8 ?q9 ?_); k_dflt (walk_at "my use"); (case p0 => k_dflt (assumption)); (case p1 => k_dflt (assumption)); (case p2 => k_dflt (assumption)); (case p3 => k_dflt (assumption)); k_dflt (walk_at "my on lays"))
  | (k_dflt (refine' My.use_lays (K04.law_plus_does ?p0 ?p1 ?p2 ?p3) ?q1 ?q2 ?q3 ?q4 ?q5 ?q6 ?q7 ?q8 ?q9 ?_); k_dflt (walk_at "my use"); (case p0 => k_dflt (assumption)); (case p1 => k_dflt (assumption)); (case p2 => k_dflt (assumption)); (case p3 => k_dflt (assumption)); k_dflt (walk_at "my on lays"))
  | (k_dflt (refine' My.use_lays (K04.times_does ?p0 ?p1 ?p2 ?p3 ?p4 ?p5) ?q1 ?q2 ?q3 ?q4 ?q5 ?q6 ?q7 ?q8 ?q9 ?_); k_dflt (walk_at "my use"); (case p0 => k_dflt (assumption)); (case p1 => k_dflt (assumption)); (case p2 => k_dflt (first | assumption | omega | exact My.mag_lo (My.numb_in _) | exact My.mag_hi (My.numb_in _) | exact My.d_pos _ | exact My.d_top _)); (case p3 => k_dflt (first | assumption | omega | exact My.mag_lo (My.numb_in _) | exact My.mag_hi (My.numb_in _) | exact My.d_pos _ | exact My.d_top _)); (case p4 => k_dflt (first | assumption | omega | exact My.mag_lo (My.numb_in _) | exact My.mag_hi (My.numb_in _) | exact My.d_pos _ | exact My.d_top _)); (case p5 => k_dflt (first | assumption | omega | exact My.mag_lo (My.numb_in _) | exact My.mag_hi (My.numb_in _) | exact My.d_pos _ | exact My.d_top _)); k_dflt (walk_at "my on lays"))
  | (k_dflt (refine' My.use_lays (K04.law_times_does ?p0 ?p1 ?p2 ?p3 ?p4 ?p5) ?q1 ?q2 ?q3 ?q4 ?q5 ?q6 ?q7 ?q8 ?q9 ?_); k_dflt (walk_at "my use"); (case p0 => k_dflt (assumption)); (case p1 => k_dflt (assumption)); (case p2 => k_dflt (first | assumption | omega | exact My.mag_lo (My.numb_in _) | exact My.mag_hi (My.numb_in _) | exact My.d_pos _ | exact My.d_top _)); (case p3 => k_dflt (first | assumption | omega | exact My.mag_lo (My.numb_in _) | exact My.mag_hi (My.numb_in _) | exact My.d_pos _ | exact My.d_top _)); (case p4 => k_dflt (first | assumption | omega | exact My.mag_lo (My.numb_in _) | exact My.mag_hi (My.numb_in _) | exact My.d_pos _ | exact My.d_top _)); (case p5 => k_dflt (first | assumption | omega | exact My.mag_lo (My.numb_in _) | exact My.mag_hi (My.numb_in _) | exact My.d_pos _ | exact My.d_top _)); k_dflt (walk_at "my on lays"))
  | (k_dflt (refine' My.use_lays (K04.parted_does ?p0 ?p1 ?p2 ?p3) ?q1 ?q2 ?q3 ?q4 ?q5 ?q6 ?q7 ?q8 ?q9 ?_); k_dflt (walk_at "my use"); (case p0 => k_dflt (assumption)); (case p1 => k_dflt (assumption)); (case p2 => k_dflt (first | assumption | omega | exact My.mag_lo (My.numb_in _) | exact My.mag_hi (My.numb_in _) | exact My.d_pos _ | exact My.d_top _)); (case p3 => k_dflt (first | assumption | omega | exact My.mag_lo (My.numb_in _) | exact My.mag_hi (My.numb_in _) | exact My.d_pos _ | exact My.d_top _)); k_dflt (walk_at "my on lays"))
  | (k_dflt (refine' My.use_lays (K04.law_parted_does ?p0 ?p1 ?p2 ?p3) ?q1 ?q2 ?q3 ?q4 ?q5 ?q6 ?q7 ?q8 ?q9 ?_); k_dflt (walk_at "my use"); (case p0 => k_dflt (assumption)); (case p1 => k_dflt (assumption)); (case p2 => k_dflt (first | assumption | omega | exact My.mag_lo (My.numb_in _) | exact My.mag_hi (My.numb_in _) | exact My.d_pos _ | exact My.d_top _)); (case p3 => k_dflt (first | assumption | omega | exact My.mag_lo (My.numb_in _) | exact My.mag_hi (My.numb_in _) | exact My.d_pos _ | exact My.d_top _)); k_dflt (walk_at "my on lays"))
  | (k_dflt (refine' My.use_lays (K04.rested_does ?p0 ?p1 ?p2 ?p3) ?q1 ?q2 ?q3 ?q4 ?q5 ?q6 ?q7 ?q8 ?q9 ?_); k_dflt (walk_at "my use"); (case p0 => k_dflt (assumption)); (case p1 => k_dflt (assumption)); (case p2 => k_dflt (first | assumption | omega | exact My.mag_lo (My.numb_in _) | exact My.mag_hi (My.numb_in _) | exact My.d_pos _ | exact My.d_top _)); (case p3 => k_dflt (first | assumption | omega | exact My.mag_lo (My.numb_in _) | exact My.mag_hi (My.numb_in _) | exact My.d_pos _ | exact My.d_top _)); k_dflt (walk_at "my on lays"))
  | (k_dflt (refine' My.use_lays (K04.law_rested_does ?p0 ?p1 ?p2 ?p3) ?q1 ?q2 ?q3 ?q4 ?q5 ?q6 ?q7 ?q8 ?q9 ?_); k_dflt (walk_at "my use"); (case p0 => k_dflt (assumption)); (case p1 => k_dflt (assumption)); (case p2 => k_dflt (first | assumption | omega | exact My.mag_lo (My.numb_in _) | exact My.mag_hi (My.numb_in _) | exact My.d_pos _ | exact My.d_top _)); (case p3 => k_dflt (first | assumption | omega | exact My.mag_lo (My.numb_in _) | exact My.mag_hi (My.numb_in _) | exact My.d_pos _ | exact My.d_top _)); k_dflt (walk_at "my on lays"))
  | (k_dflt (refine' My.use_hands (K04.same_does ?p0 ?p1 ?p2 ?p3) ?q1 ?q2 ?q3 ?q4 ?q5 ?q6 ?q7 ?q8 ?q9 ?_); k_dflt (walk_at "my use"); (case p0 => k_dflt (assumption)); (case p1 => k_dflt (assumption)); (case p2 => k_dflt (assumption)); (case p3 => k_dflt (assumption)); k_dflt (walk_at "my on"))
  | (k_dflt (refine' My.use_bool (K04.narrow_does ?p0 ?p1) ?q1 ?q2 ?q3 ?q4 ?q5 ?q6 ?q7 ?q8 ?q9 ?_ ?_); k_dflt (walk_at "my use"); (case p0 => k_dflt (assumption)); (case p1 => k_dflt (assumption)); all_goals (intro hyes9 h9 tk9 F9 N9; (try dsimp only); (try k_fold)))
  | (k_dflt (refine' My.use_hands (K04.numbers_gen ?p0 ?p1 ?p2 ?p3 ?p4 ?p5 ?p6 ?p7 ?p8 ?p9) ?q1 ?q2 ?q3 ?q4 ?q5 ?q6 ?q7 ?q8 ?q9 ?_); k_dflt (walk_at "my use"); (case p0 => k_dflt (assumption)); (case p1 => k_dflt (assumption)); (case p2 => k_dflt (assumption)); (case p3 => k_dflt (assumption)); (case p4 => k_dflt (assumption)); (case p5 => k_dflt (assumption)); (case p6 => k_dflt (first | assumption | omega | exact My.mag_lo (My.numb_in _) | exact My.mag_hi (My.numb_in _) | exact My.d_pos _ | exact My.d_top _)); (case p7 => k_dflt (first | assumption | omega | exact My.mag_lo (My.numb_in _) | exact My.mag_hi (My.numb_in _) | exact My.d_pos _ | exact My.d_top _)); (case p8 => k_dflt (first | assumption | omega | exact My.mag_lo (My.numb_in _) | exact My.mag_hi (My.numb_in _) | exact My.d_pos _ | exact My.d_top _)); (case p9 => k_dflt (first | assumption | omega | exact My.mag_lo (My.numb_in _) | exact My.mag_hi (My.numb_in _) | exact My.d_pos _ | exact My.d_top _)); k_dflt (walk_at "my on"))
  | ((first | (k_dflt (refine' My.with_cell (by assumption) ?_)) | (k_dflt (refine' My.with_cell_div (by assumption) (by decide) ?_))); intro hcell; k_dflt (refine' My.use_hands (K04.number_does ?q0) ?q1 ?q2 ?q3 ?q4 ?q5 ?q6 ?q7 ?q8 ?q9 ?_); (case q0 => assumption); k_dflt (walk_at "my use"); k_dflt (walk_at "my on"))))
local macro_rules | `(tactic| walk_at "compareOp Eq int int") => `(tactic| (k_here; (with_reducible refine' My.eq_split_mod ?_ ?_); (all_goals intro hdraw); (all_goals (try dsimp only))))
local macro_rules | `(tactic| walk_at "compareOp Lt int int") => `(tactic| (k_here; (with_reducible refine' My.lt_split_mod ?_ ?_); (all_goals intro hdraw); (all_goals (try dsimp only))))
local macro_rules | `(tactic| walk_at "eval Call") => `(tactic| (k_here; k_dflt (refine Call_ ?_)))
local macro_rules | `(tactic| walk_at "InvEndN") => `(tactic| (k_dflt (refine' My.inv_end (by assumption) (by assumption) ?s1 ?s2 ?s3; (case s1 => (repeat (first | exact My.all_left | refine My.all_cons ?_))); (case s2 => (repeat (first | exact My.all_right | refine My.all_cons ?_))); (case s3 => (intro z hz hs; first | rfl | ((try dsimp only [kstB]); (rw [if_neg hz]); first | rfl | (simp only [List.contains_nil, Bool.false_eq_true, if_false]; done)))))))
set_option maxRecDepth 100000 in
set_option maxHeartbeats 8000000 in
theorem PySem.Challenge.cw_seer_k04_stretches_reckoned_holds : PySem.Challenge.rw_seer_k04_stretches_reckoned.Holds :=
  head (by
    k_with "pyIter ref" => (k_of "_law_at" => ((with_reducible show wpAny _ _ (pyIter (Value.ref _)) (fun it s₂ => LoopAtV _ _ _ _ _ _ _ _ _ it s₂) _ _); k_here; (rename Fr _ _ _ _ => lF'); (rename News _ _ _ _ => lN'); (rename IsRange _ _ _ _ _ _ _ _ => rgX); (with_unfolding_all refine' My.step_loop [Str.ofString "_law_one", Str.ofString "_law_other", Str.ofString "_law_k", Str.ofString "_law_d", Str.ofString "_law_each"] (by rfl) rgX (by decide) (by decide) (by omega) (by omega) lF' lN' ?_ ?_); (all_goals (try clear lF' lN' rgX)); (rotate_left; (intro kU kH kTk kFr kNews; have kMark := kstMark; (try dsimp only [kstB] at kFr); (try dsimp only at kNews)); rotate_left; (intro kN kT kU kH kTk kOwn hk0 hkb kOff kFr kNews; have kMark := kstMark; (try dsimp only [kstB] at kFr); (try dsimp only at kNews); (try simp only [List.nil_append, List.cons_append, List.append_nil] at kNews); (try dsimp only at kOff); (try simp only [List.map_cons, List.map_nil] at kOff))); (all_goals (try k_fold))))
    k_with "pyIter ref" => (k_of "_law_each" => ((with_reducible show wpAny _ _ (pyIter (Value.ref _)) (fun it s₂ => LoopAtV _ _ _ _ _ _ _ _ _ it s₂) _ _); k_here; (rename Fr _ _ _ _ => lF'); (rename News _ _ _ _ => lN'); (with_unfolding_all refine' My.two_loop [] (by rfl) ?hl lF' lN' ?_ ?_); (case hl => k_mem); (all_goals (try clear lF' lN')); (rotate_left; (intro kU kH kTk kFr kNews; have kMark := kstMark; (try dsimp only [kstB] at kFr); (try dsimp only at kNews)); rotate_left; (intro kV hV kU kH kTk kOwn kOff kFr kNews; have kMark := kstMark; (try dsimp only [kstB] at kFr); (try dsimp only at kNews); (try simp only [List.nil_append, List.cons_append, List.append_nil] at kNews); (try dsimp only at kOff); (try simp only [List.map_cons, List.map_nil] at kOff); (rcases hV with hV | hV <;> subst hV))); (all_goals (try k_fold))))
    w_strict k_go)
end
