import PyProof.Rows.All
import Wide.All
import OpenK.AllK
import Wide.FinOn
import PySem.Challenge.RW_seer_k02_a_stretch
import KE.KState
import KE.KCellOne
import PyProof.FitsBits
import KE.KCallBy
import KE.KIsAll
import KE.RegKIsAll
import PyProof.Rows.CatchPack
import KE.KTryDeep
set_option Elab.async false
section
set_option maxRecDepth 100000
/-! What all four laws share: a for over range(0, b, c) that keeps nothing from turn to turn, and the numbers that a cell draws. -/
namespace My
open PySem PySem.W PySem.Calls PyProof.Rows PySem.Spec
theorem size_step {b c : Int} (hc : 0 < c) (hb : 0 < b) : Builtin.Range.rangeSize 0 b c = (((b - 1) / c + 1).toNat : Int) := by
  have h0 : 0 ≤ (b - 1) / c := Int.ediv_nonneg (by omega) (by omega)
  unfold Builtin.Range.rangeSize
  rw [if_pos hc, if_pos hb, Int.sub_zero]
  omega
theorem small_step {b c : Int} (hc : 0 < c) (hb : 0 < b) (hc9 : c ≤ 1000) (hb9 : b ≤ 1000) : Builtin.Range.small 0 b c = true := by
  have h0 : 0 ≤ (b - 1) / c := Int.ediv_nonneg (by omega) (by omega)
  have h1 : (b - 1) / c ≤ b - 1 := Int.ediv_le_self _ (by omega)
  unfold Builtin.Range.small
  rw [size_step hc hb]
  simp only [Builtin.Range.rangeFitsLong, Bool.and_eq_true, Bool.or_eq_true, decide_eq_true_eq, beq_iff_eq]
  rw [if_pos hc]
  simp only [Bool.and_eq_true, decide_eq_true_eq]
  refine ⟨⟨⟨⟨?_, ?_⟩, ?_⟩, ?_⟩, Or.inr ?_⟩ <;> omega
theorem under_step {b c : Int} {i : Nat} (hc : 0 < c) (hb : 0 < b) (hi : i < ((b - 1) / c + 1).toNat) : 0 ≤ (i : Int) * c ∧ (i : Int) * c < b := by
  have h0 : 0 ≤ (b - 1) / c := Int.ediv_nonneg (by omega) (by omega)
  have h1 : (i : Int) ≤ (b - 1) / c := by omega
  have h2 := Int.mul_le_of_le_ediv hc h1
  have h3 : 0 ≤ (i : Int) * c := Int.mul_nonneg (by omega) (by omega)
  omega
section
variable {prog : Program} {w : World} {A : Around} {E : Value → Shared → Prop} {s : Shared} {env : Env} {h₀ : Heap} {x : Str} {body : List Stmt} {Q : Flow → Shared → Prop}
abbrev Same (news : List (Addr × Obj)) (x : Str) (stored : List Str) (m₀ : Str → Option Value) : (Str → Option Value) → List (Addr × Obj) → Prop :=
  KstS (σ := Unit) (fun _ => news) (fun _ => []) (fun _ => True) x stored m₀ (fun _ _ => True) []
theorem step_loop {r : Addr} {b c : Int} {t₀ u₀ v₀ : Tok} {m₀ : Str → Option Value} {news : List (Addr × Obj)} (stored : List Str) (hh : A.handled = none)
    (hr : IsRange s.heap r 0 b c t₀ u₀ v₀) (hc : 0 < c) (hc9 : c ≤ 1000) (hb : 0 < b) (hb9 : b ≤ 1000) (F : Fr h₀ env.locals s.heap m₀) (N : News h₀ env.locals s.heap news)
    (turn : ∀ (k : Int) (t : Tok) (u : Str → Option Value) (h : Heap) (tk : Nat) (own : List (Addr × Obj)), 0 ≤ k → k < b → OwnOff own (news.map (·.1)) →
      Fr h₀ env.locals h (fun y => if y = x then some (.int k t) else kstB (fun z => if stored.contains z then u z else m₀ z) [] y) → News h₀ env.locals h (news ++ own) →
      wpAny (model prog w) A (execs body env) (InvPostN h₀ env.locals (KstS (σ := Unit) (fun _ => news) (fun _ => []) (fun _ => True) x stored m₀ (fun _ _ => True) []) own (news.map (·.1)) { s with heap := h, toks := tk } Q) E { s with heap := h, toks := tk })
    (done : ∀ (u : Str → Option Value) (h : Heap) (tk : Nat), Fr h₀ env.locals h (fun y => if y = x then u y else kstB (fun z => if stored.contains z then u z else m₀ z) [] y) → News h₀ env.locals h news →
      Q .next { s with heap := h, toks := tk }) :
    wpAny (model prog w) A (pyIter (.ref r)) (fun it s₂ => LoopAtV prog w A h₀ env x body Q E it s₂) E s := by
  refine wpAny_pyIter_range hr (small_step hc hb hc9 hb9) ?_
  have W := Walks.range (prog := prog) (w := w) hh s.heap.objs.size 0 c ((b - 1) / c + 1).toNat
  have no : ∀ p ∈ news, p.1 ∉ [s.heap.objs.size] := fun p hp q => absurd (Heap.lt_size (N p hp).1) (by rw [List.mem_singleton.mp q]; exact Nat.lt_irrefl _)
  have st : IsRangeIter (s.heap.push { cls := .type "range_iterator", data := .fields #[rawInt 0, rawInt (Builtin.Range.rangeSize 0 b c), rawInt c] }) s.heap.objs.size (0 + ((0 : Nat) : Int) * c) ((((b - 1) / c + 1).toNat : Int) - ((0 : Nat) : Int)) c := by
    show IsRangeIter _ _ _ _ _
    rw [size_step hc hb]
    simpa using Heap.get?_push_size _ rfl
  refine loop_invN (fun _ m nx => Same news x stored m₀ m nx) W (fun q => absurd F.ns.lt (by rw [List.mem_singleton.mp q]; exact Nat.lt_irrefl _)) (fun q hq => by rw [List.mem_singleton.mp hq]; exact next_is_new F) no no st (F.push _)
    (fun p hp => ⟨Heap.get?_push_of_some _ (N p hp).1, (N p hp).2⟩) ⟨(), rfl, True.intro, List.forall_mem_nil _, fun _ _ _ _ => rfl, True.intro⟩ ?_ ?_
  · rintro i v m₁ nx h tk own hi ⟨t, rfl⟩ _ off ⟨_, rfl, _, k1, k2, _⟩ F₁ N₁
    have lim := under_step hc hb hi
    rw [Int.zero_add] at F₁
    exact turn _ t m₁ h tk own lim.1 lim.2 off (kst_fr k1 k2 F₁) N₁
  · rintro m₁ nx h tk ⟨_, rfl, _, k1, k2, _⟩ F₁ N₁
    exact done m₁ h tk (kst_frOut k1 k2 F₁) N₁
end
end My
end
section
set_option maxRecDepth 100000
namespace My
open PySem PySem.W PySem.Calls PyProof.Rows PySem.Spec
/-- a cell of the script has at most 2 ^ 20 bits -/
structure Cell (v : Int) : Prop where
  bits : Builtin.Int.intBits v ≤ 2 ^ 20
theorem bits_zero : Builtin.Int.intBits 0 ≤ 2 ^ 20 := by unfold Builtin.Int.intBits; simp
theorem cell_at {ns : List Int} (h : PyData.layable0 (.list (ns.map .int)) = true) (i : Int) : Cell (cellAt ns i 0) := by
  refine ⟨?_⟩
  rw [cellAt_def, List.getD_eq_getElem?_getD]
  cases e : ns[i.toNat]? with
  | none => exact bits_zero
  | some v => exact PyData.bits_item_of_ints h (List.mem_of_getElem? e)
section
variable {prog : Program} {w : World} {A : Around} {E : Value → Shared → Prop} {s : Shared} {x y : Int} {t u : Tok} {Q : Value → Shared → Prop}
theorem with_cell {ns : List Int} {i : Int} {f : Value} (hL : PyData.layable0 (.list (ns.map .int)) = true) (h : Cell (cellAt ns i 0) → wpAny (model prog w) A (call f [.int (cellAt ns i 0) t]) Q E s) :
    wpAny (model prog w) A (call f [.int (cellAt ns i 0) t]) Q E s := h (cell_at hL i)
theorem bits_fdiv {v : Int} (h : Cell v) : Builtin.Int.intBits (Int.fdiv v 5) ≤ 2 ^ 20 := by
  have hb := h.bits
  unfold Builtin.Int.intBits at hb ⊢
  rw [Int.fdiv_eq_ediv_of_nonneg v (by decide)]
  by_cases z : v / 5 = 0
  · simp [z]
  · have hv : v ≠ 0 := by omega
    rw [if_neg (by simpa using hv)] at hb
    rw [if_neg (by simpa using z)]
    have hn : (v / 5).natAbs ≤ v.natAbs := by omega
    have h1 : v.natAbs.log2 < 2 ^ 20 := by omega
    have h2 : v.natAbs < 2 ^ (2 ^ 20) := (Nat.log2_lt (by omega)).mp h1
    have h3 : (v / 5).natAbs.log2 < 2 ^ 20 := (Nat.log2_lt (by omega)).mpr (Nat.lt_of_le_of_lt hn h2)
    omega
/-- the wide product of a cell -/
@[irreducible] def wide (v : Int) : Int := Int.fdiv v 5 * 48271 ^ Int.toNat 14
theorem step_wide {v : Int} (hv : Cell v) (h : Q (.int (wide v) s.toks) { s with toks := s.toks + 1 }) :
    wpAny (model prog w) A (binaryOp .Mult (.int (Int.fdiv v 5) t) (.int (48271 ^ Int.toNat 14) u)) Q E s := by
  unfold wide at h
  exact PyProof.Rows.mul_int h (IntMulOk.of_bits (bits_fdiv hv) (Nat.le_trans (PyProof.Rows.intBits_le (k := 256) (by decide +kernel)) (by decide)))
@[irreducible] def T60 : Int := 10 ^ 60
@[irreducible] def T9 : Int := 10 ^ 9
theorem T60_eq : T60 = 1000000000000000000000000000000000000000000000000000000000000 := by unfold T60; decide +kernel
theorem T9_eq : T9 = 1000000000 := by unfold T9; decide +kernel
theorem step_pow60 (h : Q (.int T60 s.toks) { s with toks := s.toks + 1 }) : wpAny (model prog w) A (binaryOp .Pow (.int 10 t) (.int 60 u)) Q E s := by
  refine PyProof.Rows.pow_int_small (by decide) (by decide) (by decide) ?_
  unfold T60 at h
  exact h
theorem step_pow9 (h : Q (.int T9 s.toks) { s with toks := s.toks + 1 }) : wpAny (model prog w) A (binaryOp .Pow (.int 10 t) (.int 9 u)) Q E s := by
  refine PyProof.Rows.pow_int_small (by decide) (by decide) (by decide) ?_
  unfold T9 at h
  exact h
theorem step_two (h : Q (.int (2 * y) s.toks) { s with toks := s.toks + 1 }) : wpAny (model prog w) A (binaryOp .Mult (.int 2 t) (.int y u)) Q E s :=
  PyProof.Rows.mul_int h (PySem.IntMulOk.of_left (PySem.intBits_le_64 (by decide) (by decide)))
theorem step_mod60 (h : Q (.int (Int.fmod x (2 * T60 - 1)) s.toks) { s with toks := s.toks + 1 }) : wpAny (model prog w) A (binaryOp .Mod (.int x t) (.int (2 * T60 - 1) u)) Q E s :=
  PyProof.Rows.mod_int (by have := T60_eq; omega) h
theorem step_mod9 (h : Q (.int (Int.fmod x (2 * T9 + 1)) s.toks) { s with toks := s.toks + 1 }) : wpAny (model prog w) A (binaryOp .Mod (.int x t) (.int (2 * T9 + 1) u)) Q E s :=
  PyProof.Rows.mod_int (by have := T9_eq; omega) h
/-- the number that a cell draws -/
def numb (v : Int) : Int :=
  if Int.fmod v 5 = 0 then Int.fmod (wide v) 13 - 6
  else if Int.fmod v 5 = 1 then Int.fmod (wide v) 2001 - 1000
  else if Int.fmod v 5 = 2 then Int.fmod (wide v) (2 * T60 - 1) - (T60 - 1)
  else if Int.fmod v 5 = 3 then Int.fmod (wide v) (2 * T9 + 1) - T9
  else Int.fmod (wide v) 9
theorem numb_in (n : Int) : -T60 ≤ numb n ∧ numb n ≤ T60 := by
  unfold numb
  generalize wide n = w
  have e := T60_eq
  have e9 := T9_eq
  have a1 := Int.fmod_nonneg_of_pos w (show (0 : Int) < 13 by decide)
  have b1 := Int.fmod_lt_of_pos w (show (0 : Int) < 13 by decide)
  have a2 := Int.fmod_nonneg_of_pos w (show (0 : Int) < 2001 by decide)
  have b2 := Int.fmod_lt_of_pos w (show (0 : Int) < 2001 by decide)
  have a3 := Int.fmod_nonneg_of_pos w (show (0 : Int) < 2 * T60 - 1 by omega)
  have b3 := Int.fmod_lt_of_pos w (show (0 : Int) < 2 * T60 - 1 by omega)
  have a4 := Int.fmod_nonneg_of_pos w (show (0 : Int) < 2 * T9 + 1 by omega)
  have b4 := Int.fmod_lt_of_pos w (show (0 : Int) < 2 * T9 + 1 by omega)
  have a5 := Int.fmod_nonneg_of_pos w (show (0 : Int) < 9 by decide)
  have b5 := Int.fmod_lt_of_pos w (show (0 : Int) < 9 by decide)
  refine ⟨?_, ?_⟩ <;> (repeat' split) <;> omega
theorem numb_bits (n : Int) : Builtin.Int.intBits (numb n) ≤ 256 := by
  have h := numb_in n
  rw [T60_eq] at h
  refine PyProof.Rows.intBits_le ?_
  have p : (2 : Nat) ^ 256 = 115792089237316195423570985008687907853269984665640564039457584007913129639936 := by decide
  rw [p]
  omega
theorem numb_0 {v : Int} (h : Int.fmod v 5 = 0) : Int.fmod (wide v) 13 - 6 = numb v := by unfold numb; rw [if_pos h]
theorem numb_1 {v : Int} (h : Int.fmod v 5 = 1) : Int.fmod (wide v) 2001 - 1000 = numb v := by
  unfold numb; rw [if_neg (by omega), if_pos h]
theorem numb_2 {v : Int} (h : Int.fmod v 5 = 2) : Int.fmod (wide v) (2 * T60 - 1) - (T60 - 1) = numb v := by
  unfold numb; rw [if_neg (by omega), if_neg (by omega), if_pos h]
theorem numb_3 {v : Int} (h : Int.fmod v 5 = 3) : Int.fmod (wide v) (2 * T9 + 1) - T9 = numb v := by
  unfold numb; rw [if_neg (by omega), if_neg (by omega), if_neg (by omega), if_pos h]
theorem numb_4 {v : Int} (h0 : ¬ Int.fmod v 5 = 0) (h1 : ¬ Int.fmod v 5 = 1) (h2 : ¬ Int.fmod v 5 = 2) (h3 : ¬ Int.fmod v 5 = 3) : Int.fmod (wide v) 9 = numb v := by
  unfold numb; rw [if_neg h0, if_neg h1, if_neg h2, if_neg h3]
end
end My
end
section
set_option maxRecDepth 100000
namespace My
open PySem PySem.W PySem.Calls PyProof.Rows PySem.Spec
/-- all that stood ahead of a call stands behind it, but what the call was lent -/
def Stay (lent : List (Addr × Obj)) (h h' : Heap) : Prop := ∀ b o, h.get? b = some o → b ∉ lent.map (·.1) → h'.get? b = some o
theorem stay_news {h₀ h h' : Heap} {L : Addr} {lent news : List (Addr × Obj)} (S : Stay lent h h') (N : News h₀ L h news) (N' : News h₀ L h' lent) (sub : ∀ p ∈ lent, h.get? p.1 = some p.2) : News h₀ L h' news := fun p hp => by
  obtain ⟨a, b, c⟩ := N p hp
  by_cases q : p.1 ∈ lent.map (·.1)
  · obtain ⟨r, hr, e⟩ := List.mem_map.mp q
    have x := sub r hr
    rw [e, a] at x
    have e2 : p = r := Prod.ext e.symm (Option.some.inj x)
    rw [e2]
    exact N' r hr
  · exact ⟨S _ _ a q, b, c⟩
section
variable {prog : Program} {w : World} {A A₀ : Around} {s : Shared} {base h₀ : Heap} {L : Addr} {m : Str → Option Value} {lent : List (Addr × Obj)} {K : Frag} {p : Program} {loose : List Str} {mean : ExcName → Option Value} {mg mb : Str → Option Value}
  {env : Env} {outer : List Env} {R : Result → Shared → Prop} {name qual : Str} {params : Arguments} {body : List Stmt} {scope : Scope} {dV kV doc pm cdv ct oc : Value} {an od : Option Addr} {osl : Array (Option Value)} {f : Addr} {args : Args} {binds : List (Str × Value)}
/-- a def is entered; its ledger holds what it is lent, the rest of the heap stays below it -/
theorem enter (B : Below A₀ base outer h₀) (F : Fr h₀ L s.heap m) (X₀ : K.In h₀) (N : News h₀ L s.heap lent) (T : Top p loose mean mg mb h₀) (hA : A.frames = some (env :: outer)) (hf : env.frame = some L) (hke : env.scope.kind = .function)
    (ho : K.lookup f = some ⟨oc, od, .func (fnOf name qual params body scope dV kV doc pm an cdv ct), osl⟩) (hcd : codeIn K cdv qual = true) (hroom : A.depth < recursionLimit)
    (hbind : BindsTo s (fnOf name qual params body scope dV kV doc pm an cdv ct) args binds) (hloc : ∀ y ∈ binds, scope.names.lookup y.1 = some .local)
    (h : ∀ g L' h₁, Stay lent s.heap g → Fr h₀ L g m → Fr g L' h₁ (fun y => binds.reverse.lookup y) → News g L' h₁ lent → Below A base (env :: outer) g → K.In g → Top p loose mean mg mb g →
      wpAny (model prog w) (A.deeper (envOf qual scope L' f cdv)) (execs body (envOf qual scope L' f cdv))
        (fun fl s' => LeaveK h₀ L m g R (match fl with | .ret v => v | _ => .none) s')
        (fun e s' => wpAny (model prog w) (A.deeper (envOf qual scope L' f cdv)) (leaving (envOf qual scope L' f cdv) e) (fun _ s'' => R (.error e) s'') (fun e' s'' => R (.error e') s'') s')
        { s with heap := h₁, toks := s.toks + binds.length })
    (hco : scope.isCoroutine = false) (hgen : scope.isGenerator = false) (hk : scope.kind = .function) (hcell : ∀ x ∈ scope.names, x.2 ≠ .cell) : codeAny (model prog w) A (.call (.ref f) args) R s := by
  obtain ⟨FG, BG, st, lv⟩ := groundX (R := R) B F N hA hf hke
  have X := X₀.keeps F.keep
  refine codeAny_call_def (fd := fnOf name qual params body scope dV kV doc pm an cdv ct) (body := body) (binds := binds) hroom (X _ _ ho) rfl (T.nolimit.keeps F.keep) (codeRec_of X hcd) rfl hbind hcell hloc (fun h₁ hns hk₁ => ?_) hco hgen hk
  refine wpAny_mono (h _ s.heap.objs.size h₁ (fun b o e nb => hideAll_get _ e nb) FG ⟨hns, fun b o e => hk₁ b o (of_hideAll _ e), Nat.le_of_eq (hideAll_size _ _)⟩ (fun q hq => ?_) BG (X₀.keeps st) (T.keeps st)) (fun fl s' hl => lv _ _ hl) fun _ _ y => y
  exact ⟨hk₁ _ _ (N q hq).1, Nat.ne_of_lt (Heap.lt_size (N q hq).1), hideAll_none _ (List.mem_map_of_mem hq)⟩
end
/-- what a def of the program's does at every call from a def that lends it the objects lent -/
abbrev Does (prog : Program) (w : World) (K : Frag) (p : Program) (loose : List Str) (mean : ExcName → Option Value) (mg mb : Str → Option Value) (room : Nat) (f : Addr) (lent : List (Addr × Obj)) (vs : List Value)
    (Ret : Heap → Addr → (Str → Option Value) → Shared → (Value → Shared → Prop) → (Value → Shared → Prop) → Prop) : Prop :=
  ∀ (dp un : Nat) (gd : Option (List Code)) (cn : Str) (cs : Scope) (a : Addr) (ccd : Value) (cl : List (Str × Addr)) (outer : List Env) (A₀ : Around) (base h₀ : Heap) (L : Addr) (m : Str → Option Value) (s : Shared) (Q E : Value → Shared → Prop),
    Below A₀ base outer h₀ → Fr h₀ L s.heap m → K.In h₀ → News h₀ L s.heap lent → Top p loose mean mg mb h₀ → cs.kind = .function → dp + room < recursionLimit → un + 10 * room < cLine → Ret h₀ L m s Q E →
      wpAny (model prog w) (ktrTop dp un gd cn cs L a ccd cl outer) (call (.ref f) vs) Q E s
/-- a value without objects of its own -/
abbrev Hands (r : Tok → Value) (lent : List (Addr × Obj)) : Heap → Addr → (Str → Option Value) → Shared → (Value → Shared → Prop) → (Value → Shared → Prop) → Prop := fun h₀ L m s Q _ =>
  ∀ (t : Tok) (h' : Heap) (tk' : Nat), Fr h₀ L h' m → News h₀ L h' lent → Stay lent s.heap h' → Q (r t) { s with heap := h', toks := tk' }
/-- a new object, told by P, at its address -/
abbrev Makes (P : Obj → Prop) (lent : List (Addr × Obj)) : Heap → Addr → (Str → Option Value) → Shared → (Value → Shared → Prop) → (Value → Shared → Prop) → Prop := fun h₀ L m s Q _ =>
  ∀ (r : Addr) (o : Obj) (h' : Heap) (tk' : Nat), P o → Fr h₀ L h' m → News h₀ L h' ((r, o) :: lent) → Stay lent s.heap h' → Q (.ref r) { s with heap := h', toks := tk' }
theorem stay_end {lent : List (Addr × Obj)} {h g h' : Heap} {L' : Addr} {m' : Str → Option Value} (S : Stay lent h g) (F : Fr g L' h' m') : Stay lent h h' := fun b o e nb => F.keep b o (S b o e nb)
section
variable {h₀ h' : Heap} {L : Addr} {m : Str → Option Value} {lent : List (Addr × Obj)} {s : Shared} {Q : Value → Shared → Prop} {t : Tok} {tk' : Nat}
theorem retI {x y : Int} (hret : ∀ (t : Tok) (h' : Heap) (tk' : Nat), Fr h₀ L h' m → News h₀ L h' lent → Stay lent s.heap h' → Q (.int x t) { s with heap := h', toks := tk' }) (e : y = x) (F : Fr h₀ L h' m) (N : News h₀ L h' lent) (S : Stay lent s.heap h') : Q (.int y t) { s with heap := h', toks := tk' } := by
  subst e
  exact hret t h' tk' F N S
theorem retB {x y : Bool} (hret : ∀ (t : Tok) (h' : Heap) (tk' : Nat), Fr h₀ L h' m → News h₀ L h' lent → Stay lent s.heap h' → Q (.bool x) { s with heap := h', toks := tk' }) (e : y = x) (F : Fr h₀ L h' m) (N : News h₀ L h' lent) (S : Stay lent s.heap h') : Q (.bool y) { s with heap := h', toks := tk' } := by
  subst e
  exact hret 0 h' tk' F N S
theorem retN (hret : ∀ (t : Tok) (h' : Heap) (tk' : Nat), Fr h₀ L h' m → News h₀ L h' lent → Stay lent s.heap h' → Q .none { s with heap := h', toks := tk' }) (F : Fr h₀ L h' m) (N : News h₀ L h' lent) (S : Stay lent s.heap h') : Q .none { s with heap := h', toks := tk' } :=
  hret 0 h' tk' F N S
end
/-- an end of a stretch: a number or none -/
inductive IsEnd : Value → Option Int → Prop where
  | none : IsEnd .none none
  | int {a : Int} {t : Tok} : IsEnd (.int a t) (some a)
def Crossed : Option Int → Option Int → Prop
  | some a, some b => b < a
  | _, _ => False
/-- whether a number lies between two ends -/
def hasB (lo hi : Option Int) (n : Int) : Bool := (match lo with | none => true | some a => decide (a ≤ n)) && (match hi with | none => true | some b => decide (n ≤ b))
abbrev tupO (its : Array Value) (k : Nat) : Obj := { cls := .type "tuple", data := .seq its k }
end My
end
section
set_option maxRecDepth 100000
namespace My
open PySem PySem.W PySem.Calls PyProof.Rows PySem.Spec
section
variable {prog : Program} {w : World} {A : Around} {E : Value → Shared → Prop} {s : Shared} {env : Env} {h₀ : Heap} {x : Str} {body : List Stmt} {Q : Flow → Shared → Prop}
/-- a for over a list of ints of the ledger that keeps nothing from turn to turn -/
theorem ints_loop {l : Addr} {vs : List Value} {ns : List Int} {nn : Nat} {m₀ : Str → Option Value} {news : List (Addr × Obj)} (stored : List Str) (hh : A.handled = none) (hl : (l, listOf vs.toArray nn) ∈ news) (hi : IntsAre vs ns)
    (F : Fr h₀ env.locals s.heap m₀) (N : News h₀ env.locals s.heap news)
    (turn : ∀ (k : Int) (t : Tok) (u : Str → Option Value) (h : Heap) (tk : Nat) (own : List (Addr × Obj)), OwnOff own (news.map (·.1)) →
      Fr h₀ env.locals h (fun y => if y = x then some (.int k t) else kstB (fun z => if stored.contains z then u z else m₀ z) [] y) → News h₀ env.locals h (news ++ own) →
      wpAny (model prog w) A (execs body env) (InvPostN h₀ env.locals (KstS (σ := Unit) (fun _ => news) (fun _ => []) (fun _ => True) x stored m₀ (fun _ _ => True) []) own (news.map (·.1)) { s with heap := h, toks := tk } Q) E { s with heap := h, toks := tk })
    (done : ∀ (u : Str → Option Value) (h : Heap) (tk : Nat), Fr h₀ env.locals h (fun y => if y = x then u y else kstB (fun z => if stored.contains z then u z else m₀ z) [] y) → News h₀ env.locals h news →
      Q .next { s with heap := h, toks := tk }) :
    wpAny (model prog w) A (pyIter (.ref l)) (fun it s₂ => LoopAtV prog w A h₀ env x body Q E it s₂) E s :=
  kst_listL (σ := Unit) (fun _ => news) (fun _ => []) (fun _ => True) stored (fun _ _ => True) () hh (fun _ => hl) hi F N True.intro (List.forall_mem_nil _) True.intro
    (fun _ _ _ n t u h tk own _ _ off _ _ F₁ N₁ => turn n t u h tk own off F₁ N₁) (fun _ u h tk _ _ F₁ N₁ => done u h tk F₁ N₁)
end
end My
end
section
set_option maxRecDepth 100000
namespace My
open PySem PySem.W PySem.Calls PyProof.Rows PySem.Spec
theorem room1 {dp r R : Nat} (h : dp + R < recursionLimit) (e : r + 1 ≤ R) : dp + 1 + r < recursionLimit := by omega
theorem units1 {un r R : Nat} (h : un + 10 * R < cLine) (e : r + 1 ≤ R) : un + 3 + 10 * r < cLine := by omega
theorem sub_one {q : Addr × Obj} {news : List (Addr × Obj)} (h : q ∈ news) : ∀ p ∈ [q], p ∈ news := fun _ hp => (List.mem_singleton.mp hp) ▸ h
theorem sub_two {q r : Addr × Obj} {news : List (Addr × Obj)} (h : q ∈ news) (h2 : r ∈ news) : ∀ p ∈ [q, r], p ∈ news := fun p hp => by
  rcases List.mem_cons.mp hp with e | e
  · exact e ▸ h
  · exact (List.mem_singleton.mp e) ▸ h2
section
variable {prog : Program} {w : World} {K : Frag} {p : Program} {loose : List Str} {mean : ExcName → Option Value} {mg mb : Str → Option Value} {room : Nat} {f : Addr} {vs : List Value} {news lent : List (Addr × Obj)}
  {dp un : Nat} {gd : Option (List Code)} {cn : Str} {cs : Scope} {a : Addr} {ccd : Value} {cl : List (Str × Addr)} {outer : List Env} {A₀ : Around} {base h₀ : Heap} {L : Addr} {m : Str → Option Value} {s : Shared} {Q E : Value → Shared → Prop}
/-- a call by what the def does: the whole ledger stays -/
theorem use_hands {r : Tok → Value} (D : Does prog w K p loose mean mg mb room f lent vs (Hands r lent)) (B : Below A₀ base outer h₀) (F : Fr h₀ L s.heap m) (X : K.In h₀) (N : News h₀ L s.heap news) (T : Top p loose mean mg mb h₀) (hk : cs.kind = .function)
    (hd : dp + room < recursionLimit) (hu : un + 10 * room < cLine) (sub : ∀ q ∈ lent, q ∈ news) (h : ∀ (t : Tok) (h' : Heap) (tk' : Nat), Fr h₀ L h' m → News h₀ L h' news → Q (r t) { s with heap := h', toks := tk' }) :
    wpAny (model prog w) (ktrTop dp un gd cn cs L a ccd cl outer) (call (.ref f) vs) Q E s :=
  D _ _ _ _ _ _ _ _ _ _ _ _ _ _ _ _ _ B F X (fun q hq => N q (sub q hq)) T hk hd hu fun t h' tk' F' N' S => h t h' tk' F' (stay_news S N N' fun q hq => (N q (sub q hq)).1)
end
section
variable {prog : Program} {w : World} {A : Around} {E : Value → Shared → Prop} {s : Shared} {x y : Int} {t u : Tok} {Q : Value → Shared → Prop}
/-- a draw's test: both ways at once -/
theorem eq_split (h1 : x = y → Q (.bool true) s) (h2 : ¬ x = y → Q (.bool false) s) : wpAny (model prog w) A (compareOp .Eq (.int x t) (.int y u)) Q E s := by
  refine PyProof.Rows.eq_int ?_
  by_cases e : x = y
  · have d : (x == y) = true := beq_iff_eq.mpr e
    rw [d]
    exact h1 e
  · have d : (x == y) = false := beq_eq_false_iff_ne.mpr e
    rw [d]
    exact h2 e
end
end My
end
section
set_option maxRecDepth 100000
namespace My
open PySem PySem.W PySem.Calls PyProof.Rows PySem.Spec
/-- a new object, told by P; its address is new -/
abbrev Lays (P : Obj → Prop) (lent : List (Addr × Obj)) : Heap → Addr → (Str → Option Value) → Shared → (Value → Shared → Prop) → (Value → Shared → Prop) → Prop := fun h₀ L m s Q _ =>
  ∀ (r : Addr) (o : Obj) (h' : Heap) (tk' : Nat), P o → Fr h₀ L h' m → News h₀ L h' ((r, o) :: lent) → Stay lent s.heap h' → s.heap.get? r = none → Q (.ref r) { s with heap := h', toks := tk' }
theorem lays_ret {h₀ h' g : Heap} {L L' : Addr} {m m' : Str → Option Value} {lent led : List (Addr × Obj)} {s : Shared} {Q : Value → Shared → Prop} {P : Obj → Prop} {r : Addr} {o : Obj} {tk' : Nat}
    (hret : ∀ (r : Addr) (o : Obj) (h' : Heap) (tk' : Nat), P o → Fr h₀ L h' m → News h₀ L h' ((r, o) :: lent) → Stay lent s.heap h' → s.heap.get? r = none → Q (.ref r) { s with heap := h', toks := tk' })
    (p : P o) (F : Fr h₀ L h' m) (S : Stay lent s.heap g) (F' : Fr g L' h' m') (N' : News g L' h' led) (sub : ∀ q ∈ (r, o) :: lent, q ∈ led) (ne : ∀ q ∈ lent, q.1 ≠ r) (F₀ : Fr h₀ L s.heap m) (N₀ : News h₀ L s.heap lent) : Q (.ref r) { s with heap := h', toks := tk' } := by
  have hr : s.heap.get? r = none := by
    cases e : s.heap.get? r with
    | none => rfl
    | some x =>
      have nb : r ∉ lent.map (·.1) := fun q => by
        obtain ⟨y, hy, e2⟩ := List.mem_map.mp q
        exact ne y hy e2
      have := S r x e nb
      rw [(N' _ (sub _ List.mem_cons_self)).2.2] at this
      cases this
  refine hret r o h' tk' p F (fun q hq => ?_) (stay_end S F') hr
  have a := (N' q (sub q hq)).1
  rcases List.mem_cons.mp hq with e | hl
  · subst e
    refine ⟨a, fun e => ?_, ?_⟩
    · obtain ⟨oL, _, _, hg, _⟩ := F₀.ns
      have e' : r = L := e
      rw [e', hg] at hr
      cases hr
    · cases e : h₀.get? r with
      | none => rfl
      | some x =>
        rw [F₀.keep r x e] at hr
        cases hr
  · exact ⟨a, (N₀ q hl).2.1, (N₀ q hl).2.2⟩
section
variable {prog : Program} {w : World} {K : Frag} {p : Program} {loose : List Str} {mean : ExcName → Option Value} {mg mb : Str → Option Value} {room : Nat} {f : Addr} {vs : List Value} {news lent : List (Addr × Obj)}
  {dp un : Nat} {gd : Option (List Code)} {cn : Str} {cs : Scope} {a : Addr} {ccd : Value} {cl : List (Str × Addr)} {outer : List Env} {A₀ : Around} {base h₀ : Heap} {L : Addr} {m : Str → Option Value} {s : Shared} {Q E : Value → Shared → Prop}
/-- a call that lays a new object -/
theorem use_lays {P : Obj → Prop} (D : Does prog w K p loose mean mg mb room f lent vs (Lays P lent)) (B : Below A₀ base outer h₀) (F : Fr h₀ L s.heap m) (X : K.In h₀) (N : News h₀ L s.heap news) (T : Top p loose mean mg mb h₀) (hk : cs.kind = .function)
    (hd : dp + room < recursionLimit) (hu : un + 10 * room < cLine) (sub : ∀ q ∈ lent, q ∈ news)
    (h : ∀ (r : Addr) (o : Obj) (h' : Heap) (tk' : Nat), P o → Fr h₀ L h' m → News h₀ L h' ((r, o) :: news) → (∀ q ∈ news, q.1 ≠ r) → Q (.ref r) { s with heap := h', toks := tk' }) :
    wpAny (model prog w) (ktrTop dp un gd cn cs L a ccd cl outer) (call (.ref f) vs) Q E s :=
  D _ _ _ _ _ _ _ _ _ _ _ _ _ _ _ _ _ B F X (fun q hq => N q (sub q hq)) T hk hd hu fun r o h' tk' hp F' N' S hr => by
    have NN := stay_news S N (fun q hq => N' q (List.mem_cons_of_mem _ hq)) fun q hq => (N q (sub q hq)).1
    refine h r o h' tk' hp F' (fun q hq => ?_) fun q hq e => ?_
    · rcases List.mem_cons.mp hq with e | hl
      · exact e ▸ N' _ List.mem_cons_self
      · exact NN q hl
    · have := (N q hq).1
      rw [e, hr] at this
      cases this
end
/-- a tuple of two ends -/
def IsPair (lo hi : Option Int) (o : Obj) : Prop := ∃ v1 v2 k, o = tupO #[v1, v2] k ∧ IsEnd v1 lo ∧ IsEnd v2 hi
theorem cell_fdiv {v k : Int} (hk : 0 < k) (h : Cell v) : Cell (Int.fdiv v k) := by
  refine ⟨?_⟩
  have hb := h.bits
  unfold Builtin.Int.intBits at hb ⊢
  rw [Int.fdiv_eq_ediv_of_nonneg v (Int.le_of_lt hk)]
  by_cases z : v / k = 0
  · simp [z]
  · have hv : v ≠ 0 := by
      intro e
      rw [e, Int.zero_ediv] at z
      exact z rfl
    rw [if_neg (by simpa using hv)] at hb
    rw [if_neg (by simpa using z)]
    have hn : (v / k).natAbs ≤ v.natAbs := by
      have h1 : (v / k).natAbs ≤ v.natAbs := by
        rcases Int.le_total 0 v with hv0 | hv0
        · have a := Int.ediv_nonneg hv0 (Int.le_of_lt hk)
          have b := Int.ediv_le_self k hv0
          omega
        · have a : v / k ≤ 0 := Int.ediv_nonpos_of_nonpos_of_neg hv0 hk
          have b : v ≤ v / k := by
            have c : v * k ≤ v := by
              have d := Int.mul_le_mul_of_nonpos_left hv0 (show (1 : Int) ≤ k by omega)
              omega
            exact (Int.le_ediv_iff_mul_le hk).mpr c
          omega
      exact h1
    have h1 : v.natAbs.log2 < 2 ^ 20 := by omega
    have h2 : v.natAbs < 2 ^ (2 ^ 20) := (Nat.log2_lt (by omega)).mp h1
    have h3 : (v / k).natAbs.log2 < 2 ^ 20 := (Nat.log2_lt (by omega)).mpr (Nat.lt_of_le_of_lt hn h2)
    omega
end My
namespace My
open PySem PySem.W PyProof.Rows
theorem sub_nil {led : List (Addr × Obj)} : ∀ q ∈ ([] : List (Addr × Obj)), q ∈ led := fun _ h => nomatch h
theorem sub_cons {a : Addr × Obj} {l led : List (Addr × Obj)} (h : a ∈ led) (hs : ∀ q ∈ l, q ∈ led) : ∀ q ∈ a :: l, q ∈ led := List.forall_mem_cons.mpr ⟨h, hs⟩
theorem ne_nil {r : Addr} : ∀ q ∈ ([] : List (Addr × Obj)), q.1 ≠ r := fun _ h => nomatch h
theorem ne_cons {b r : Addr} {o : Obj} {l : List (Addr × Obj)} (h : b ≠ r) (hs : ∀ q ∈ l, q.1 ≠ r) : ∀ q ∈ (b, o) :: l, q.1 ≠ r := List.forall_mem_cons.mpr ⟨h, hs⟩
theorem IsEnd.int' {a b : Int} {t : Nat} (h : a = b) : IsEnd (.int a t) (some b) := h ▸ IsEnd.int
def joinLo : Option Int → Option Int → Option Int
  | some a, some b => some (if b < a then b else a)
  | _, _ => none
def joinHi : Option Int → Option Int → Option Int
  | some a, some b => some (if b > a then b else a)
  | _, _ => none
end My
end
section
set_option maxRecDepth 100000
namespace My
open PySem PySem.W PySem.Calls PyProof.Rows PySem.Spec
/-- a statement behind which one name holds some int, and all else is as it was -/
def Cut (h₀ : Heap) (L : Addr) (m₀ : Str → Option Value) (x : Str) (news : List (Addr × Obj)) (s : Shared) (fl : Flow) (s' : Shared) : Prop :=
  fl = .next ∧ ∃ (k : Int) (t : Tok) (h : Heap) (tk : Nat), s' = { s with heap := h, toks := tk } ∧ Fr h₀ L h (fun y => if y = x then some (.int k t) else m₀ y) ∧ News h₀ L h news
structure CutMark : Prop where
theorem cut_exec {M : Model} {A : Around} {E : Value → Shared → Prop} {s : Shared} {env : Env} {h₀ : Heap} {L : Addr} {m₀ : Str → Option Value} {news : List (Addr × Obj)} {stmt : Stmt} {Q : Flow → Shared → Prop} (x : Str)
    (_F : Fr h₀ L s.heap m₀) (_N : News h₀ L s.heap news) (h : wpAny M A (exec stmt env) (fun fl s' => Cut h₀ L m₀ x news s fl s') E s)
    (k : ∀ (k : Int) (t : Tok) (h : Heap) (tk : Nat), Fr h₀ L h (fun y => if y = x then some (.int k t) else m₀ y) → News h₀ L h news → Q .next { s with heap := h, toks := tk }) : wpAny M A (exec stmt env) Q E s := by
  refine wpAny_mono h (fun fl s' c => ?_) fun _ _ e => e
  obtain ⟨rfl, i, t, h', tk, rfl, F', N'⟩ := c
  exact k i t h' tk F' N'
theorem fr_same {h₀ h : Heap} {L : Addr} {m₀ : Str → Option Value} {x : Str} {v : Value} (F : Fr h₀ L h m₀) (e : m₀ x = some v) : Fr h₀ L h (fun y => if y = x then some v else m₀ y) := by
  have em : (fun y => if y = x then some v else m₀ y) = m₀ := by
    funext y
    by_cases hy : y = x
    · rw [if_pos hy, hy, e]
    · rw [if_neg hy]
  rw [em]
  exact F
theorem cut_set {h₀ h : Heap} {L : Addr} {m₀ : Str → Option Value} {x : Str} {news : List (Addr × Obj)} {s : Shared} {k : Int} {t : Tok} {tk : Nat} (F : Fr h₀ L h (fun y => if y = x then some (.int k t) else m₀ y)) (N : News h₀ L h news) : Cut h₀ L m₀ x news s .next { s with heap := h, toks := tk } :=
  ⟨rfl, k, t, h, tk, rfl, F, N⟩
theorem cut_keep {h₀ h : Heap} {L : Addr} {m₀ : Str → Option Value} {x : Str} {news : List (Addr × Obj)} {s : Shared} {k : Int} {t : Tok} {tk : Nat} (F : Fr h₀ L h m₀) (N : News h₀ L h news) (e : m₀ x = some (.int k t)) : Cut h₀ L m₀ x news s .next { s with heap := h, toks := tk } :=
  cut_set (fr_same F e) N
end My
end
section
set_option maxRecDepth 100000
namespace My
open PySem PySem.W PySem.Spec PySem.Calls PyProof.Rows PySem.Builtin.ObjectAttr PySem.Builtin.Getset_descriptor
/-- an object of an own class, whatever its dict -/
def Of (x D : Addr) (h : Heap) : Prop := ∃ o : Obj, h.get? x = some o ∧ o.cls = .ref D
theorem Of.ty {x D : Addr} {M : Model} {h : Heap} (I : Of x D h) : Looks M h (typeOf (.ref x)) (.ref D) := by
  obtain ⟨o, ho, hc⟩ := I
  exact hc ▸ (Looks.ld ho).andThen .now
theorem of_got {h₀ h : Heap} {L e t D : Addr} {n : List (Addr × Obj)} {vs : List Value} (G : Got n e t (.ref D) vs) (N : News h₀ L h n) : Of e D h := by
  obtain ⟨oe, _, _, _, hm, _, hc, _⟩ := G
  exact ⟨oe, (N _ hm).1, hc⟩
/-- the class of an object that a ledger bears -/
structure OeCls (o : Obj) (D : Addr) : Prop where
  c : o.cls = .ref D
theorem got_more {h₀ h : Heap} {L e t D : Addr} {n news : List (Addr × Obj)} {vs : List Value} (G : Got n e t (.ref D) vs) (N₂ : News h₀ L h n) (N : News h₀ L h news) : ∃ oe, OeCls oe D ∧ News h₀ L h ((e, oe) :: news) := by
  obtain ⟨oe, _, _, _, hm, _, hc, _⟩ := G
  refine ⟨oe, ⟨hc⟩, fun p hp => ?_⟩
  rcases List.mem_cons.mp hp with q | q
  · exact q ▸ N₂ _ hm
  · exact N p q
theorem of_news {h₀ h : Heap} {L e D : Addr} {oe : Obj} {news : List (Addr × Obj)} (N : News h₀ L h news) (hm : (e, oe) ∈ news) (hc : OeCls oe D) : Of e D h := ⟨oe, (N _ hm).1, hc.c⟩
theorem find_data {K : Frag} {M : Model} {h : Heap} (X : K.In h) {x C : Addr} {name : Str} {a g : Value} (ha : findIn K (.ref C) name = some (some a)) (hg : specialIn K a "__get__" = some (some g)) (hd : takesIn K a = some true) :
    Looks M h (find (.ref x) (.ref C) name) (.bind g a) := by
  have l2 : Looks M h (getOf (some a)) (some g) := looks_specialIn X hg
  have l3 := looks_takesIn (M := M) X hd
  refine (looks_findIn (M := M) X ha).andThen (l2.andThen ?_)
  have l4 : Looks M h (dataDescriptor? (some a) (some g)) (some (g, a)) := l3.andThen .now
  exact l4.andThen (Looks.tag .now)
section
variable {prog : Program} {w : World} {A : Around} {E : Value → Shared → Prop} {s : Shared} {K : Frag} {x D : Addr} {name : Str}
theorem exc_class {R : Result → Shared → Prop} {tp : Value} (X : K.In s.heap) (I : Of x D s.heap) (hm : mroIn K D (.type "object") = some true)
    (h : R (.ok (.ret (.ref D))) s) : codeAny (model prog w) A (.call (.builtin "getset_descriptor.__get__") ⟨[.builtin "object.__class__", .ref x, tp], []⟩) R s := by
  obtain ⟨hh, g, dr, t, os⟩ := s
  have L0 := I.ty (M := model prog w)
  have L1 := looks_mroIn (M := model prog w) X hm
  refine codeAny_call_builtin KF.slot_gs.plain KF.entry_gs (KF.slot_gs.check _ _ _ _ _ _ _ _ KF.type_class (KF.args_gs _ _ _) ?_)
  unfold Builtin.«getset_descriptor.__get__» descrGet
  rw [dga_obj]
  refine wpAny_bind (wpAny_pure ?_)
  unfold descrGetter descrCheckInstance descrNameAndClass isInstance
  simp only [KF.owner_class]
  repeat lk
  refine ⟨Code.quiet_builtin _ (by decide +kernel), codeAny_builtin KF.entry_class ?_⟩
  unfold Builtin.«object.__class__» shownTypeOf
  repeat lk
  exact h
theorem ga_bind (v : Value) : bindSpecial (.builtin "BaseException.__getattribute__") v = pure (.builtin "BaseException.__getattribute__", [v]) := by kernel_rfl
theorem exc_attr {Q : Option Value → Shared → Prop} (X : K.In s.heap) (I : Of x D s.heap) (hga : findIn K (.ref D) "__getattribute__" = some (some (.builtin "BaseException.__getattribute__"))) (hk : findIn K (.ref D) "__getattr__" = some none)
    (ha : findIn K (.ref D) "__class__" = some (some (.builtin "object.__class__"))) (hn : specialIn K (.builtin "object.__class__") "__get__" = some (some (.builtin "getset_descriptor.__get__"))) (htk : takesIn K (.builtin "object.__class__") = some true)
    (hm : mroIn K D (.type "object") = some true) (hmB : mroIn K D (.type "BaseException") = some true) (h : Q (some (.ref D)) { s with toks := s.toks + 1 }) :
    wpAny (model prog w) A (getAttr? (.ref x) "__class__") Q E s := by
  obtain ⟨hh, g, d, t, os⟩ := s
  have l0 := I.ty (M := model prog w)
  have l1 := looks_findIn (M := model prog w) X hga
  have l2 := looks_findIn (M := model prog w) X hk
  unfold getAttr? getAttrBy? getAttrBy
  refine wpAny_bind (wpAny_mkText (wpAny_bind (wpAny_attempt (wpAny_holding (wpAny_bind (l0.at (wpAny_bind (l1.at ?_))))))))
  have hx2 : (Value.builtin "BaseException.__getattribute__" == Value.builtin "object.__getattribute__") = false := by decide +kernel
  simp only [hx2, Bool.and_false, Bool.false_eq_true, if_false]
  unfold getAttrByItsOwn hookBefore callGetattribute boundAndCalled
  have hon : onTheHeap (Value.ref D) = true := rfl
  simp only [hon, if_true, Bool.false_and, Bool.false_eq_true, if_false]
  refine wpAny_bind (l2.at (wpAny_bind (wpAny_attempt (wpAny_holding ?_))))
  refine wpAny_bind (wpAny_of_eq (ga_bind (.ref x)) ?_)
  dsimp only [List.cons_append, List.nil_append]
  refine wpAny_call (codeAny_call_builtin (by decide +kernel) F.entry_bexc_ga ?_)
  have hk' : builtinKind "BaseException.__getattribute__" = some .slot := by decide +kernel
  have hsp : splitId "BaseException.__getattribute__" = some ("BaseException", "__getattribute__") := by decide +kernel
  have hag := F.args_bexc_ga (.ref x) (.str (Str.ofString "__class__") t)
  have lB := looks_mroIn (M := model prog w) X hmB
  have l3 := find_data (M := model prog w) (x := x) X ha hn htk
  simp only [checkBuiltinCall, hk', hsp]
  unfold isInstance
  refine wpAny_bind (wpAny_bind (l0.at (lB.at ?_)))
  simp only [Bool.not_true, Bool.false_eq_true, if_false]
  refine wpAny_of_eq hag ?_
  unfold Builtin.«object.__getattribute__»
  refine wpAny_bind (wpAny_of_eq (show slotArgs "__getattribute__" 1 ⟨[Value.ref x, Value.str (Str.ofString "__class__") t], []⟩ = pure (Value.ref x, [Value.str (Str.ofString "__class__") t]) from rfl) ?_)
  refine wpAny_bind (wpAny_of_eq (show attrName (Value.str (Str.ofString "__class__") t) = pure (Str.ofString "__class__") from rfl) ?_)
  refine wpAny_bind (l0.at (wpAny_bind (l3.at ?_)))
  dsimp only
  unfold bindTo
  dsimp only
  refine wpAny_bind (wpAny_holding (wpAny_call (exc_class X I hm ?_)))
  show wpAny _ _ (ret _) _ _ _
  refine wpAny_pure ?_
  dsimp only
  exact handed_on rfl (wpAny_pure h)
end
theorem kitx_of {K : Frag} {x D : Addr} (hga : findIn K (.ref D) "__getattribute__" = some (some (.builtin "BaseException.__getattribute__"))) (hk : findIn K (.ref D) "__getattr__" = some none) (hmB : mroIn K D (.type "BaseException") = some true) (hdct : hasDictIn K D = true) (ha : findIn K (.ref D) "__class__" = some (some (.builtin "object.__class__")))
    (hn : specialIn K (.builtin "object.__class__") "__get__" = some (some (.builtin "getset_descriptor.__get__"))) (htk : takesIn K (.builtin "object.__class__") = some true) (hm : mroIn K D (.type "object") = some true) :
    KitX K (.ref x) (.ref D) (Of x D) where
  ty := fun _ _ _ I => I.ty
  it := fun _ _ X _ => by
    obtain ⟨_, hcD, _⟩ := any_some hdct
    unfold clsIn at hcD
    split at hcD
    · rename_i ho
      intro _ _ _ _ k q
      unfold isType loadHead
      exact wpAny_bind (wpAny_loadPart (k _ _ (X _ _ ho)) (wpAny_pure q))
    · cases hcD
  ne := fun h tp dd its n sl X htp => by
    obtain ⟨_, hcD, _⟩ := any_some hdct
    refine Bool.eq_false_iff.mpr fun q => ?_
    have e : D = tp := Value.ref.inj (beq_iff_eq.mp q)
    subst e
    unfold clsIn at hcD
    split at hcD
    · rename_i ho
      cases (X _ _ ho).symm.trans htp
    · cases hcD
  ca := fun X I k => exc_attr X I hga hk ha hn htk hm hmB k
end My
end
set_option maxRecDepth 100000 in
set_option maxHeartbeats 8000000 in
open_top head for PySem.Challenge.rw_seer_k02_a_stretch
section
open PySem PySem.W PyProof.Rows My
set_option maxRecDepth 100000
set_option maxHeartbeats 8000000
local macro_rules | `(tactic| walk_at "binaryOp Pow int int") => `(tactic| (k_here; first | with_reducible refine' My.step_pow60 ?_ | with_reducible refine' My.step_pow9 ?_))
local macro_rules | `(tactic| walk_at "binaryOp Mod int int") => `(tactic| (k_here; first | with_reducible refine' My.step_mod60 ?_ | with_reducible refine' My.step_mod9 ?_))
local macro_rules | `(tactic| walk_at "binaryOp Mult int int") => `(tactic| (k_here; with_reducible refine' My.step_two ?_))
local macro_rules | `(tactic| walk_at "binaryOp Mult int int") => `(tactic| (k_here; (with_reducible refine' My.step_wide ?k1 ?_); (case k1 => assumption)))
local macro_rules | `(tactic| walk_at "call ref") => `(tactic| (k_here; k_dflt (refine wpAny_call ?_; (refine' code_def ?q1 ?q2 ?q3 ?q4 ?q5 ?qA ?qF ?qK ?q6 ?q7 ?q8 ?q9 ?qB ?_ ?d2 ?d3 ?d4 ?d5; (case qA => exact rfl); (case qF => exact rfl); (case qK => first | exact rfl | assumption); (case q1 => k_asm); (case q2 => k_asm); (case q3 => k_asm); (case q4 => k_asm); (case q5 => k_asm); (case q6 => k_is); (case q7 => k_is); (case q8 => ktr_room); (case q9 => exact BindsTo.of_eq rfl); (case d5 => decide); (case qB => exact locs rfl); (case d2 => exact rfl); (case d3 => exact rfl); (case d4 => exact rfl); k_whole; intro g' L' h' FG' F' N' B' X' T'; (try dsimp only); (try k_lift B'); (try k_fold)))))
local macro_rules | `(tactic| walk_at "my enter") => `(tactic| k_dflt (refine wpAny_call ?_; (refine' My.enter ?q1 ?q2 ?q3 ?q4 ?q5 ?qA ?qF ?qK ?q6 ?q7 ?q8 ?q9 ?qB ?_ ?d2 ?d3 ?d4 ?d5; (case qA => exact rfl); (case qF => exact rfl); (case qK => first | exact rfl | assumption); (case q1 => k_asm); (case q2 => k_asm); (case q3 => k_asm); (case q4 => k_asm); (case q5 => k_asm); (case q6 => k_is); (case q7 => k_is); (case q8 => ktr_room); (case q9 => exact BindsTo.of_eq rfl); (case d5 => decide); (case qB => exact locs rfl); (case d2 => exact rfl); (case d3 => exact rfl); (case d4 => exact rfl); k_whole; intro g' L' h' hStay FG' F' N' B' X' T'; (try dsimp only); (try k_lift B'); (try k_fold))))
local macro_rules | `(tactic| walk_at "my end") => `(tactic| ((first | refine My.retI (by assumption) ?e1 ?e2 ?e3 ?e4 | refine My.retB (by assumption) ?e1 ?e2 ?e3 ?e4); (case e2 => k_asm); (case e3 => first | k_asm | exact News.nil); (case e4 => exact My.stay_end (by assumption) (by assumption)); (case e1 => cb_eq)))
local macro_rules | `(tactic| walk_at "InvEndN") => `(tactic| (k_dflt ksr_close))
namespace K02
section
variable {w : World} {s₀ : Shared} {mg mb : Str → Option Value}
abbrev D (w : World) (s₀ : Shared) (mg mb : Str → Option Value) := Does PySem.Challenge.rw_seer_k02_a_stretch.row.prog w (head.heap_39 w.params) head.view_39 (looseW head.view_39 []) (ExcName.means s₀.heap) mg mb
theorem number_does {v : Int} {t : Tok} (hv : Cell v) : D w s₀ mg mb 4 182 [] [.int v t] (Hands (fun t => .int (numb v) t) []) := by
  k_with "tree" => (first | exact My.numb_0 (by assumption) | exact My.numb_1 (by assumption) | exact My.numb_2 (by assumption) | exact My.numb_3 (by assumption) | exact My.numb_4 (by assumption) (by assumption) (by assumption) (by assumption))
  w_strict (w_top off; (dsimp only [D, Does, Hands]); k_fill; (intro dp un gd cn cs a ccd cl outer A₀ base h₀ L m s Q E B F X N T hk hd hu hret); walk_at "my enter"; k_steps; (all_goals walk_at "my end"))
abbrev CT (w : World) (s₀ : Shared) (mg mb : Str → Option Value) := CellTells PySem.Challenge.rw_seer_k02_a_stretch.row.prog w (head.heap_39 w.params) head.view_39 (looseW head.view_39 []) (ExcName.means s₀.heap) mg mb
theorem cell_tells : CT w s₀ mg mb 175 0 := by
  w_strict (w_top off; (dsimp only [CT]); k_fill; cell_step)
end
end K02
end
section
open PySem PySem.W PyProof.Rows My
set_option maxRecDepth 100000
set_option maxHeartbeats 8000000
local macro_rules | `(tactic| walk_at "pad 0") => `(tactic| skip)
local macro_rules | `(tactic| walk_at "pad 1") => `(tactic| skip)
local macro_rules | `(tactic| walk_at "pad 2") => `(tactic| skip)
local macro_rules | `(tactic| walk_at "pad 3") => `(tactic| skip)
local macro_rules | `(tactic| walk_at "pad 4") => `(tactic| skip)
local macro_rules | `(tactic| walk_at "binaryOp Pow int int") => `(tactic| (k_here; first | with_reducible refine' My.step_pow60 ?_ | with_reducible refine' My.step_pow9 ?_))
local macro_rules | `(tactic| walk_at "binaryOp Mod int int") => `(tactic| (k_here; first | with_reducible refine' My.step_mod60 ?_ | with_reducible refine' My.step_mod9 ?_))
local macro_rules | `(tactic| walk_at "binaryOp Mult int int") => `(tactic| (k_here; with_reducible refine' My.step_two ?_))
local macro_rules | `(tactic| walk_at "binaryOp Mult int int") => `(tactic| (k_here; (with_reducible refine' My.step_wide ?k1 ?_); (case k1 => assumption)))
local macro_rules | `(tactic| walk_at "call ref") => `(tactic| (k_here; k_dflt (refine wpAny_call ?_; (refine' code_def ?q1 ?q2 ?q3 ?q4 ?q5 ?qA ?qF ?qK ?q6 ?q7 ?q8 ?q9 ?qB ?_ ?d2 ?d3 ?d4 ?d5; (case qA => exact rfl); (case qF => exact rfl); (case qK => first | exact rfl | assumption); (case q1 => k_asm); (case q2 => k_asm); (case q3 => k_asm); (case q4 => k_asm); (case q5 => k_asm); (case q6 => k_is); (case q7 => k_is); (case q8 => ktr_room); (case q9 => exact BindsTo.of_eq rfl); (case d5 => decide); (case qB => exact locs rfl); (case d2 => exact rfl); (case d3 => exact rfl); (case d4 => exact rfl); k_whole; intro g' L' h' FG' F' N' B' X' T'; (try dsimp only); (try k_lift B'); (try k_fold)))))
local macro_rules | `(tactic| walk_at "my enter") => `(tactic| k_dflt (refine wpAny_call ?_; (refine' My.enter ?q1 ?q2 ?q3 ?q4 ?q5 ?qA ?qF ?qK ?q6 ?q7 ?q8 ?q9 ?qB ?_ ?d2 ?d3 ?d4 ?d5; (case qA => exact rfl); (case qF => exact rfl); (case qK => first | exact rfl | assumption); (case q1 => k_asm); (case q2 => k_asm); (case q3 => k_asm); (case q4 => k_asm); (case q5 => k_asm); (case q6 => k_is); (case q7 => k_is); (case q8 => ktr_room); (case q9 => exact BindsTo.of_eq rfl); (case d5 => decide); (case qB => exact locs rfl); (case d2 => exact rfl); (case d3 => exact rfl); (case d4 => exact rfl); k_whole; intro g' L' h' hStay FG' F' N' B' X' T'; (try dsimp only); (try k_lift B'); (try k_fold))))
local macro_rules | `(tactic| walk_at "my end") => `(tactic| ((first | refine My.retI (by assumption) ?e1 ?e2 ?e3 ?e4 | refine My.retB (by assumption) ?e1 ?e2 ?e3 ?e4); (case e2 => k_asm); (case e3 => first | k_asm | exact News.nil); (case e4 => exact My.stay_end (by assumption) (by assumption)); (case e1 => cb_eq)))
local macro_rules | `(tactic| walk_at "InvEndN") => `(tactic| (k_dflt ksr_close))
namespace K02
section
variable {w : World} {s₀ : Shared} {mg mb : Str → Option Value}
theorem crossed_yes {lo hi : Int} {tl th : Tok} (hc : hi < lo) : D w s₀ mg mb 4 161 [] [.int lo tl, .int hi th] (Hands (fun _ => .bool true) []) := by
  w_strict (w_top off; (dsimp only [D, Does, Hands]); k_fill; (intro dp un gd cn cs a ccd cl outer A₀ base h₀ L m s Q E B F X N T hk hd hu hret); walk_at "my enter"; k_steps; (all_goals walk_at "my end"))
theorem crossed_no {lo hi : Int} {tl th : Tok} (hc : ¬ hi < lo) : D w s₀ mg mb 4 161 [] [.int lo tl, .int hi th] (Hands (fun _ => .bool false) []) := by
  w_strict (w_top off; (dsimp only [D, Does, Hands]); k_fill; (intro dp un gd cn cs a ccd cl outer A₀ base h₀ L m s Q E B F X N T hk hd hu hret); walk_at "my enter"; k_steps; (all_goals walk_at "my end"))
theorem crossed_nx {v : Value} : D w s₀ mg mb 4 161 [] [.none, v] (Hands (fun _ => .bool false) []) := by
  w_strict (w_top off; (dsimp only [D, Does, Hands]); k_fill; (intro dp un gd cn cs a ccd cl outer A₀ base h₀ L m s Q E B F X N T hk hd hu hret); walk_at "my enter"; k_steps; (all_goals walk_at "my end"))
theorem crossed_xn {lo : Int} {tl : Tok} : D w s₀ mg mb 4 161 [] [.int lo tl, .none] (Hands (fun _ => .bool false) []) := by
  w_strict (w_top off; (dsimp only [D, Does, Hands]); k_fill; (intro dp un gd cn cs a ccd cl outer A₀ base h₀ L m s Q E B F X N T hk hd hu hret); walk_at "my enter"; k_steps; (all_goals walk_at "my end"))
theorem end_does {v : Value} {lo : Option Int} (h : IsEnd v lo) : D w s₀ mg mb 4 189 [] [v] (Hands (fun _ => .bool true) []) := by
  cases h <;> w_strict (w_top off; (dsimp only [D, Does, Hands]); k_fill; (intro dp un gd cn cs a ccd cl outer A₀ base h₀ L m s Q E B F X N T hk hd hu hret); walk_at "my enter"; k_steps; (all_goals walk_at "my end"))
theorem has_does {v1 v2 : Value} {lo hi : Option Int} {n : Int} {tn : Tok} (h1 : IsEnd v1 lo) (h2 : IsEnd v2 hi) : D w s₀ mg mb 4 203 [] [v1, v2, .int n tn] (Hands (fun _ => .bool (hasB lo hi n)) []) := by
  k_with "tree" => (simp only [hasB, Bool.true_and, Bool.and_true])
  cases h1 <;> cases h2 <;> w_strict (w_top off; (dsimp only [D, Does, Hands]); k_fill; (intro dp un gd cn cs a ccd cl outer A₀ base h₀ L m s Q E B F X N T hk hd hu hret); walk_at "my enter"; k_steps; (all_goals walk_at "my end"))
theorem stretch_has_does {r : Addr} {v1 v2 : Value} {nn : Nat} {lo hi : Option Int} {n : Int} {tn : Tok} (h1 : IsEnd v1 lo) (h2 : IsEnd v2 hi) : D w s₀ mg mb 4 168 [(r, tupO #[v1, v2] nn)] [.ref r, .int n tn] (Hands (fun _ => .bool (hasB lo hi n)) [(r, tupO #[v1, v2] nn)]) := by
  k_with "tree" => (simp only [hasB, Bool.true_and, Bool.and_true])
  cases h1 <;> cases h2 <;> w_strict (w_top off; (dsimp only [D, Does, Hands]); k_fill; (intro dp un gd cn cs a ccd cl outer A₀ base h₀ L m s Q E B F X N T hk hd hu hret); walk_at "my enter"; k_steps; (all_goals walk_at "my end"))
end
end K02
end
section
open PySem PySem.W PyProof.Rows My
set_option maxRecDepth 100000
set_option maxHeartbeats 8000000
local macro_rules | `(tactic| walk_at "pad 0") => `(tactic| skip)
local macro_rules | `(tactic| walk_at "pad 1") => `(tactic| skip)
local macro_rules | `(tactic| walk_at "pad 2") => `(tactic| skip)
local macro_rules | `(tactic| walk_at "pad 3") => `(tactic| skip)
local macro_rules | `(tactic| walk_at "pad 4") => `(tactic| skip)
local macro_rules | `(tactic| walk_at "binaryOp Pow int int") => `(tactic| (k_here; first | with_reducible refine' My.step_pow60 ?_ | with_reducible refine' My.step_pow9 ?_))
local macro_rules | `(tactic| walk_at "binaryOp Mod int int") => `(tactic| (k_here; first | with_reducible refine' My.step_mod60 ?_ | with_reducible refine' My.step_mod9 ?_))
local macro_rules | `(tactic| walk_at "binaryOp Mult int int") => `(tactic| (k_here; with_reducible refine' My.step_two ?_))
local macro_rules | `(tactic| walk_at "binaryOp Mult int int") => `(tactic| (k_here; (with_reducible refine' My.step_wide ?k1 ?_); (case k1 => assumption)))
local macro_rules | `(tactic| walk_at "call ref") => `(tactic| (k_here; k_dflt (refine wpAny_call ?_; (refine' code_def ?q1 ?q2 ?q3 ?q4 ?q5 ?qA ?qF ?qK ?q6 ?q7 ?q8 ?q9 ?qB ?_ ?d2 ?d3 ?d4 ?d5; (case qA => exact rfl); (case qF => exact rfl); (case qK => first | exact rfl | assumption); (case q1 => k_asm); (case q2 => k_asm); (case q3 => k_asm); (case q4 => k_asm); (case q5 => k_asm); (case q6 => k_is); (case q7 => k_is); (case q8 => ktr_room); (case q9 => exact BindsTo.of_eq rfl); (case d5 => decide); (case qB => exact locs rfl); (case d2 => exact rfl); (case d3 => exact rfl); (case d4 => exact rfl); k_whole; intro g' L' h' FG' F' N' B' X' T'; (try dsimp only); (try k_lift B'); (try k_fold)))))
local macro_rules | `(tactic| walk_at "my enter") => `(tactic| k_dflt (refine wpAny_call ?_; (refine' My.enter ?q1 ?q2 ?q3 ?q4 ?q5 ?qA ?qF ?qK ?q6 ?q7 ?q8 ?q9 ?qB ?_ ?d2 ?d3 ?d4 ?d5; (case qA => exact rfl); (case qF => exact rfl); (case qK => first | exact rfl | assumption); (case q1 => k_asm); (case q2 => k_asm); (case q3 => k_asm); (case q4 => k_asm); (case q5 => k_asm); (case q6 => k_is); (case q7 => k_is); (case q8 => ktr_room); (case q9 => exact BindsTo.of_eq rfl); (case d5 => decide); (case qB => exact locs rfl); (case d2 => exact rfl); (case d3 => exact rfl); (case d4 => exact rfl); k_whole; intro g' L' h' hStay FG' F' N' B' X' T'; (try dsimp only); (try k_lift B'); (try k_fold))))
local macro_rules | `(tactic| walk_at "my end") => `(tactic| ((first | refine My.retI (by assumption) ?e1 ?e2 ?e3 ?e4 | refine My.retB (by assumption) ?e1 ?e2 ?e3 ?e4); (case e2 => k_asm); (case e3 => first | k_asm | exact News.nil); (case e4 => exact My.stay_end (by assumption) (by assumption)); (case e1 => cb_eq)))
local macro_rules | `(tactic| walk_at "my use") => `(tactic| ((case q1 => k_asm); (case q2 => k_asm); (case q3 => k_asm); (case q4 => k_asm); (case q5 => k_asm); (case q6 => first | exact rfl | assumption); (case q7 => first | exact My.room1 (by assumption) (by decide) | exact My.room1 (My.room1 (by assumption) (by decide)) (by decide) | ktr_room); (case q8 => first | exact My.units1 (by assumption) (by decide) | exact My.units1 (My.units1 (by assumption) (by decide)) (by decide) | ktr_units); (case q9 => first | exact (fun _ hq => nomatch hq) | exact List.forall_mem_cons.mpr ⟨by k_mem, fun _ hq => nomatch hq⟩); (intro t9 h9 tk9 F9 N9; (try dsimp only); (try k_fold))))
local macro_rules | `(tactic| walk_at "my is end") => `(tactic| first | exact My.IsEnd.none | exact My.IsEnd.int)
local macro_rules | `(tactic| walk_at "call ref") => `(tactic| (k_here; first
  | (k_dflt (refine' My.use_hands K02.crossed_nx ?q1 ?q2 ?q3 ?q4 ?q5 ?q6 ?q7 ?q8 ?q9 ?_); k_dflt (walk_at "my use"))
  | (k_dflt (refine' My.use_hands K02.crossed_xn ?q1 ?q2 ?q3 ?q4 ?q5 ?q6 ?q7 ?q8 ?q9 ?_); k_dflt (walk_at "my use"))
  | (k_dflt (refine' My.use_hands (K02.crossed_no ?q0) ?q1 ?q2 ?q3 ?q4 ?q5 ?q6 ?q7 ?q8 ?q9 ?_); (case q0 => k_dflt (first | assumption | exact Int.not_lt.mpr (by assumption))); k_dflt (walk_at "my use"))
  | (k_dflt (refine' My.use_hands (K02.crossed_yes ?q0) ?q1 ?q2 ?q3 ?q4 ?q5 ?q6 ?q7 ?q8 ?q9 ?_); (case q0 => k_dflt (first | assumption)); k_dflt (walk_at "my use"))
  | (k_dflt (refine' My.use_hands (K02.end_does ?q0) ?q1 ?q2 ?q3 ?q4 ?q5 ?q6 ?q7 ?q8 ?q9 ?_); (case q0 => k_dflt (walk_at "my is end")); k_dflt (walk_at "my use"))
  | (k_dflt (refine' My.use_hands (K02.has_does ?q0 ?q01) ?q1 ?q2 ?q3 ?q4 ?q5 ?q6 ?q7 ?q8 ?q9 ?_); (case q0 => k_dflt (walk_at "my is end")); (case q01 => k_dflt (walk_at "my is end")); k_dflt (walk_at "my use"))
  | (k_dflt (refine' My.use_hands (K02.stretch_has_does ?q0 ?q01) ?q1 ?q2 ?q3 ?q4 ?q5 ?q6 ?q7 ?q8 ?q9 ?_); k_dflt (walk_at "my use lent"); (case q0 => k_dflt (walk_at "my is end")); (case q01 => k_dflt (walk_at "my is end")); k_dflt (walk_at "my on"))))
local macro_rules | `(tactic| walk_at "my use lent") => `(tactic| ((case q1 => k_asm); (case q2 => k_asm); (case q3 => k_asm); (case q4 => k_asm); (case q5 => k_asm); (case q6 => first | exact rfl | assumption); (case q7 => first | exact My.room1 (by assumption) (by decide) | exact My.room1 (My.room1 (by assumption) (by decide)) (by decide) | ktr_room); (case q8 => first | exact My.units1 (by assumption) (by decide) | exact My.units1 (My.units1 (by assumption) (by decide)) (by decide) | ktr_units); (case q9 => exact My.sub_one (by k_mem))))
local macro_rules | `(tactic| walk_at "my on") => `(tactic| (intro t9 h9 tk9 F9 N9; (try dsimp only); (try k_fold)))
local macro_rules | `(tactic| walk_at "InvEndN") => `(tactic| (k_dflt ksr_close))
namespace K02
section
variable {w : World} {s₀ : Shared} {mg mb : Str → Option Value}
theorem held_nn {n : Int} {tn : Tok} : D w s₀ mg mb 10 210 [] [.none, .none, .int n tn] (Hands (fun _ => .bool true) []) := by
  k_with "pyIter ref" => (k_of "_law_each" => (((with_reducible show wpAny _ _ (pyIter (Value.ref _)) (fun it s₂ => LoopAtV _ _ _ _ _ _ _ _ _ it s₂) _ _); k_here; (rename Fr _ _ _ _ => lF'); (rename News _ _ _ _ => lN'); (try simp only [List.push_toArray] at lN'); (with_unfolding_all refine' My.ints_loop [Str.ofString "_law_found"] (by rfl) ?kl ?ki lF' lN' ?_ ?_); (case kl => k_dflt (repeat (first | exact List.mem_cons_self | refine List.mem_cons_of_mem _ ?_))); (case ki => k_dflt (repeat (first | exact PyProof.Rows.IntsAre.nil | apply PyProof.Rows.IntsAre.cons))); (all_goals (try clear lF' lN')); (rotate_left; (intro kU kH kTk kFr kNews; have kMark := kstMark; (try dsimp only [kstB] at kFr); (try dsimp only at kNews)); rotate_left; (intro kN kT kU kH kTk kOwn kOff kFr kNews; have kMark := kstMark; (try dsimp only [kstB] at kFr); (try dsimp only at kNews); (try simp only [List.nil_append, List.cons_append, List.append_nil] at kNews); (try dsimp only at kOff); (try simp only [List.map_cons, List.map_nil] at kOff))); (all_goals (try k_fold)))))
  w_strict (w_top off; (dsimp only [D, Does, Hands]); k_fill; (intro dp un gd cn cs a ccd cl outer A₀ base h₀ L m s Q E B F X N T hk hd hu hret); walk_at "my enter"; k_steps; (all_goals walk_at "my end"))
end
end K02
end
section
open PySem PySem.W PyProof.Rows My
set_option maxRecDepth 100000
set_option maxHeartbeats 8000000
local macro_rules | `(tactic| walk_at "pad 0") => `(tactic| skip)
local macro_rules | `(tactic| walk_at "pad 1") => `(tactic| skip)
local macro_rules | `(tactic| walk_at "pad 2") => `(tactic| skip)
local macro_rules | `(tactic| walk_at "pad 3") => `(tactic| skip)
local macro_rules | `(tactic| walk_at "pad 4") => `(tactic| skip)
local macro_rules | `(tactic| walk_at "pad 5") => `(tactic| skip)
local macro_rules | `(tactic| walk_at "pad 6") => `(tactic| skip)
local macro_rules | `(tactic| walk_at "pad 7") => `(tactic| skip)
local macro_rules | `(tactic| walk_at "pad 8") => `(tactic| skip)
local macro_rules | `(tactic| walk_at "pad 9") => `(tactic| skip)
local macro_rules | `(tactic| walk_at "binaryOp Pow int int") => `(tactic| (k_here; first | with_reducible refine' My.step_pow60 ?_ | with_reducible refine' My.step_pow9 ?_))
local macro_rules | `(tactic| walk_at "binaryOp Mod int int") => `(tactic| (k_here; first | with_reducible refine' My.step_mod60 ?_ | with_reducible refine' My.step_mod9 ?_))
local macro_rules | `(tactic| walk_at "binaryOp Mult int int") => `(tactic| (k_here; with_reducible refine' My.step_two ?_))
local macro_rules | `(tactic| walk_at "binaryOp Mult int int") => `(tactic| (k_here; (with_reducible refine' My.step_wide ?k1 ?_); (case k1 => assumption)))
local macro_rules | `(tactic| walk_at "call ref") => `(tactic| (k_here; k_dflt (refine wpAny_call ?_; (refine' code_def ?q1 ?q2 ?q3 ?q4 ?q5 ?qA ?qF ?qK ?q6 ?q7 ?q8 ?q9 ?qB ?_ ?d2 ?d3 ?d4 ?d5; (case qA => exact rfl); (case qF => exact rfl); (case qK => first | exact rfl | assumption); (case q1 => k_asm); (case q2 => k_asm); (case q3 => k_asm); (case q4 => k_asm); (case q5 => k_asm); (case q6 => k_is); (case q7 => k_is); (case q8 => ktr_room); (case q9 => exact BindsTo.of_eq rfl); (case d5 => decide); (case qB => exact locs rfl); (case d2 => exact rfl); (case d3 => exact rfl); (case d4 => exact rfl); k_whole; intro g' L' h' FG' F' N' B' X' T'; (try dsimp only); (try k_lift B'); (try k_fold)))))
local macro_rules | `(tactic| walk_at "my enter") => `(tactic| k_dflt (refine wpAny_call ?_; (refine' My.enter ?q1 ?q2 ?q3 ?q4 ?q5 ?qA ?qF ?qK ?q6 ?q7 ?q8 ?q9 ?qB ?_ ?d2 ?d3 ?d4 ?d5; (case qA => exact rfl); (case qF => exact rfl); (case qK => first | exact rfl | assumption); (case q1 => k_asm); (case q2 => k_asm); (case q3 => k_asm); (case q4 => k_asm); (case q5 => k_asm); (case q6 => k_is); (case q7 => k_is); (case q8 => ktr_room); (case q9 => exact BindsTo.of_eq rfl); (case d5 => decide); (case qB => exact locs rfl); (case d2 => exact rfl); (case d3 => exact rfl); (case d4 => exact rfl); k_whole; intro g' L' h' hStay FG' F' N' B' X' T'; (try dsimp only); (try k_lift B'); (try k_fold))))
local macro_rules | `(tactic| walk_at "my end") => `(tactic| ((first | refine My.retI (by assumption) ?e1 ?e2 ?e3 ?e4 | refine My.retB (by assumption) ?e1 ?e2 ?e3 ?e4); (case e2 => k_asm); (case e3 => first | k_asm | exact News.nil); (case e4 => exact My.stay_end (by assumption) (by assumption)); (case e1 => cb_eq)))
local macro_rules | `(tactic| walk_at "my use") => `(tactic| ((case q1 => k_asm); (case q2 => k_asm); (case q3 => k_asm); (case q4 => k_asm); (case q5 => k_asm); (case q6 => first | exact rfl | assumption); (case q7 => first | exact My.room1 (by assumption) (by decide) | exact My.room1 (My.room1 (by assumption) (by decide)) (by decide) | ktr_room); (case q8 => first | exact My.units1 (by assumption) (by decide) | exact My.units1 (My.units1 (by assumption) (by decide)) (by decide) | ktr_units); (case q9 => first | exact (fun _ hq => nomatch hq) | exact List.forall_mem_cons.mpr ⟨by k_mem, fun _ hq => nomatch hq⟩); (intro t9 h9 tk9 F9 N9; (try dsimp only); (try k_fold))))
local macro_rules | `(tactic| walk_at "my is end") => `(tactic| first | exact My.IsEnd.none | exact My.IsEnd.int)
local macro_rules | `(tactic| walk_at "call ref") => `(tactic| (k_here; first
  | (k_dflt (refine' My.use_hands K02.crossed_nx ?q1 ?q2 ?q3 ?q4 ?q5 ?q6 ?q7 ?q8 ?q9 ?_); k_dflt (walk_at "my use"))
  | (k_dflt (refine' My.use_hands K02.crossed_xn ?q1 ?q2 ?q3 ?q4 ?q5 ?q6 ?q7 ?q8 ?q9 ?_); k_dflt (walk_at "my use"))
  | (k_dflt (refine' My.use_hands (K02.crossed_no ?q0) ?q1 ?q2 ?q3 ?q4 ?q5 ?q6 ?q7 ?q8 ?q9 ?_); (case q0 => k_dflt (first | assumption | exact Int.not_lt.mpr (by assumption))); k_dflt (walk_at "my use"))
  | (k_dflt (refine' My.use_hands (K02.crossed_yes ?q0) ?q1 ?q2 ?q3 ?q4 ?q5 ?q6 ?q7 ?q8 ?q9 ?_); (case q0 => k_dflt (first | assumption)); k_dflt (walk_at "my use"))
  | (k_dflt (refine' My.use_hands (K02.end_does ?q0) ?q1 ?q2 ?q3 ?q4 ?q5 ?q6 ?q7 ?q8 ?q9 ?_); (case q0 => k_dflt (walk_at "my is end")); k_dflt (walk_at "my use"))
  | (k_dflt (refine' My.use_hands (K02.has_does ?q0 ?q01) ?q1 ?q2 ?q3 ?q4 ?q5 ?q6 ?q7 ?q8 ?q9 ?_); (case q0 => k_dflt (walk_at "my is end")); (case q01 => k_dflt (walk_at "my is end")); k_dflt (walk_at "my use"))
  | (k_dflt (refine' My.use_hands (K02.stretch_has_does ?q0 ?q01) ?q1 ?q2 ?q3 ?q4 ?q5 ?q6 ?q7 ?q8 ?q9 ?_); k_dflt (walk_at "my use lent"); (case q0 => k_dflt (walk_at "my is end")); (case q01 => k_dflt (walk_at "my is end")); k_dflt (walk_at "my on"))))
local macro_rules | `(tactic| walk_at "my use lent") => `(tactic| ((case q1 => k_asm); (case q2 => k_asm); (case q3 => k_asm); (case q4 => k_asm); (case q5 => k_asm); (case q6 => first | exact rfl | assumption); (case q7 => first | exact My.room1 (by assumption) (by decide) | exact My.room1 (My.room1 (by assumption) (by decide)) (by decide) | ktr_room); (case q8 => first | exact My.units1 (by assumption) (by decide) | exact My.units1 (My.units1 (by assumption) (by decide)) (by decide) | ktr_units); (case q9 => exact My.sub_one (by k_mem))))
local macro_rules | `(tactic| walk_at "my on") => `(tactic| (intro t9 h9 tk9 F9 N9; (try dsimp only); (try k_fold)))
local macro_rules | `(tactic| walk_at "InvEndN") => `(tactic| (k_dflt ksr_close))
namespace K02
section
variable {w : World} {s₀ : Shared} {mg mb : Str → Option Value}
theorem held_ni {n hi : Int} {tn th : Tok} : D w s₀ mg mb 10 210 [] [.none, .int hi th, .int n tn] (Hands (fun _ => .bool true) []) := by
  k_with "pyIter ref" => (k_of "_law_each" => (((with_reducible show wpAny _ _ (pyIter (Value.ref _)) (fun it s₂ => LoopAtV _ _ _ _ _ _ _ _ _ it s₂) _ _); k_here; (rename Fr _ _ _ _ => lF'); (rename News _ _ _ _ => lN'); (try simp only [List.push_toArray] at lN'); (with_unfolding_all refine' My.ints_loop [Str.ofString "_law_found"] (by rfl) ?kl ?ki lF' lN' ?_ ?_); (case kl => k_dflt (repeat (first | exact List.mem_cons_self | refine List.mem_cons_of_mem _ ?_))); (case ki => k_dflt (repeat (first | exact PyProof.Rows.IntsAre.nil | apply PyProof.Rows.IntsAre.cons))); (all_goals (try clear lF' lN')); (rotate_left; (intro kU kH kTk kFr kNews; have kMark := kstMark; (try dsimp only [kstB] at kFr); (try dsimp only at kNews)); rotate_left; (intro kN kT kU kH kTk kOwn kOff kFr kNews; have kMark := kstMark; (try dsimp only [kstB] at kFr); (try dsimp only at kNews); (try simp only [List.nil_append, List.cons_append, List.append_nil] at kNews); (try dsimp only at kOff); (try simp only [List.map_cons, List.map_nil] at kOff))); (all_goals (try k_fold)))))
  w_strict (w_top off; (dsimp only [D, Does, Hands]); k_fill; (intro dp un gd cn cs a ccd cl outer A₀ base h₀ L m s Q E B F X N T hk hd hu hret); walk_at "my enter"; k_steps; (all_goals walk_at "my end"))
end
end K02
end
section
open PySem PySem.W PyProof.Rows My
set_option maxRecDepth 100000
set_option maxHeartbeats 8000000
local macro_rules | `(tactic| walk_at "pad 0") => `(tactic| skip)
local macro_rules | `(tactic| walk_at "pad 1") => `(tactic| skip)
local macro_rules | `(tactic| walk_at "pad 2") => `(tactic| skip)
local macro_rules | `(tactic| walk_at "pad 3") => `(tactic| skip)
local macro_rules | `(tactic| walk_at "pad 4") => `(tactic| skip)
local macro_rules | `(tactic| walk_at "pad 5") => `(tactic| skip)
local macro_rules | `(tactic| walk_at "pad 6") => `(tactic| skip)
local macro_rules | `(tactic| walk_at "pad 7") => `(tactic| skip)
local macro_rules | `(tactic| walk_at "pad 8") => `(tactic| skip)
local macro_rules | `(tactic| walk_at "pad 9") => `(tactic| skip)
local macro_rules | `(tactic| walk_at "pad 10") => `(tactic| skip)
local macro_rules | `(tactic| walk_at "pad 11") => `(tactic| skip)
local macro_rules | `(tactic| walk_at "pad 12") => `(tactic| skip)
local macro_rules | `(tactic| walk_at "pad 13") => `(tactic| skip)
local macro_rules | `(tactic| walk_at "pad 14") => `(tactic| skip)
local macro_rules | `(tactic| walk_at "binaryOp Pow int int") => `(tactic| (k_here; first | with_reducible refine' My.step_pow60 ?_ | with_reducible refine' My.step_pow9 ?_))
local macro_rules | `(tactic| walk_at "binaryOp Mod int int") => `(tactic| (k_here; first | with_reducible refine' My.step_mod60 ?_ | with_reducible refine' My.step_mod9 ?_))
local macro_rules | `(tactic| walk_at "binaryOp Mult int int") => `(tactic| (k_here; with_reducible refine' My.step_two ?_))
local macro_rules | `(tactic| walk_at "binaryOp Mult int int") => `(tactic| (k_here; (with_reducible refine' My.step_wide ?k1 ?_); (case k1 => assumption)))
local macro_rules | `(tactic| walk_at "call ref") => `(tactic| (k_here; k_dflt (refine wpAny_call ?_; (refine' code_def ?q1 ?q2 ?q3 ?q4 ?q5 ?qA ?qF ?qK ?q6 ?q7 ?q8 ?q9 ?qB ?_ ?d2 ?d3 ?d4 ?d5; (case qA => exact rfl); (case qF => exact rfl); (case qK => first | exact rfl | assumption); (case q1 => k_asm); (case q2 => k_asm); (case q3 => k_asm); (case q4 => k_asm); (case q5 => k_asm); (case q6 => k_is); (case q7 => k_is); (case q8 => ktr_room); (case q9 => exact BindsTo.of_eq rfl); (case d5 => decide); (case qB => exact locs rfl); (case d2 => exact rfl); (case d3 => exact rfl); (case d4 => exact rfl); k_whole; intro g' L' h' FG' F' N' B' X' T'; (try dsimp only); (try k_lift B'); (try k_fold)))))
local macro_rules | `(tactic| walk_at "my enter") => `(tactic| k_dflt (refine wpAny_call ?_; (refine' My.enter ?q1 ?q2 ?q3 ?q4 ?q5 ?qA ?qF ?qK ?q6 ?q7 ?q8 ?q9 ?qB ?_ ?d2 ?d3 ?d4 ?d5; (case qA => exact rfl); (case qF => exact rfl); (case qK => first | exact rfl | assumption); (case q1 => k_asm); (case q2 => k_asm); (case q3 => k_asm); (case q4 => k_asm); (case q5 => k_asm); (case q6 => k_is); (case q7 => k_is); (case q8 => ktr_room); (case q9 => exact BindsTo.of_eq rfl); (case d5 => decide); (case qB => exact locs rfl); (case d2 => exact rfl); (case d3 => exact rfl); (case d4 => exact rfl); k_whole; intro g' L' h' hStay FG' F' N' B' X' T'; (try dsimp only); (try k_lift B'); (try k_fold))))
local macro_rules | `(tactic| walk_at "my end") => `(tactic| ((first | refine My.retI (by assumption) ?e1 ?e2 ?e3 ?e4 | refine My.retB (by assumption) ?e1 ?e2 ?e3 ?e4); (case e2 => k_asm); (case e3 => first | k_asm | exact News.nil); (case e4 => exact My.stay_end (by assumption) (by assumption)); (case e1 => cb_eq)))
local macro_rules | `(tactic| walk_at "my use") => `(tactic| ((case q1 => k_asm); (case q2 => k_asm); (case q3 => k_asm); (case q4 => k_asm); (case q5 => k_asm); (case q6 => first | exact rfl | assumption); (case q7 => first | exact My.room1 (by assumption) (by decide) | exact My.room1 (My.room1 (by assumption) (by decide)) (by decide) | ktr_room); (case q8 => first | exact My.units1 (by assumption) (by decide) | exact My.units1 (My.units1 (by assumption) (by decide)) (by decide) | ktr_units); (case q9 => first | exact (fun _ hq => nomatch hq) | exact List.forall_mem_cons.mpr ⟨by k_mem, fun _ hq => nomatch hq⟩); (intro t9 h9 tk9 F9 N9; (try dsimp only); (try k_fold))))
local macro_rules | `(tactic| walk_at "my is end") => `(tactic| first | exact My.IsEnd.none | exact My.IsEnd.int)
local macro_rules | `(tactic| walk_at "call ref") => `(tactic| (k_here; first
  | (k_dflt (refine' My.use_hands K02.crossed_nx ?q1 ?q2 ?q3 ?q4 ?q5 ?q6 ?q7 ?q8 ?q9 ?_); k_dflt (walk_at "my use"))
  | (k_dflt (refine' My.use_hands K02.crossed_xn ?q1 ?q2 ?q3 ?q4 ?q5 ?q6 ?q7 ?q8 ?q9 ?_); k_dflt (walk_at "my use"))
  | (k_dflt (refine' My.use_hands (K02.crossed_no ?q0) ?q1 ?q2 ?q3 ?q4 ?q5 ?q6 ?q7 ?q8 ?q9 ?_); (case q0 => k_dflt (first | assumption | exact Int.not_lt.mpr (by assumption))); k_dflt (walk_at "my use"))
  | (k_dflt (refine' My.use_hands (K02.crossed_yes ?q0) ?q1 ?q2 ?q3 ?q4 ?q5 ?q6 ?q7 ?q8 ?q9 ?_); (case q0 => k_dflt (first | assumption)); k_dflt (walk_at "my use"))
  | (k_dflt (refine' My.use_hands (K02.end_does ?q0) ?q1 ?q2 ?q3 ?q4 ?q5 ?q6 ?q7 ?q8 ?q9 ?_); (case q0 => k_dflt (walk_at "my is end")); k_dflt (walk_at "my use"))
  | (k_dflt (refine' My.use_hands (K02.has_does ?q0 ?q01) ?q1 ?q2 ?q3 ?q4 ?q5 ?q6 ?q7 ?q8 ?q9 ?_); (case q0 => k_dflt (walk_at "my is end")); (case q01 => k_dflt (walk_at "my is end")); k_dflt (walk_at "my use"))
  | (k_dflt (refine' My.use_hands (K02.stretch_has_does ?q0 ?q01) ?q1 ?q2 ?q3 ?q4 ?q5 ?q6 ?q7 ?q8 ?q9 ?_); k_dflt (walk_at "my use lent"); (case q0 => k_dflt (walk_at "my is end")); (case q01 => k_dflt (walk_at "my is end")); k_dflt (walk_at "my on"))))
local macro_rules | `(tactic| walk_at "my use lent") => `(tactic| ((case q1 => k_asm); (case q2 => k_asm); (case q3 => k_asm); (case q4 => k_asm); (case q5 => k_asm); (case q6 => first | exact rfl | assumption); (case q7 => first | exact My.room1 (by assumption) (by decide) | exact My.room1 (My.room1 (by assumption) (by decide)) (by decide) | ktr_room); (case q8 => first | exact My.units1 (by assumption) (by decide) | exact My.units1 (My.units1 (by assumption) (by decide)) (by decide) | ktr_units); (case q9 => exact My.sub_one (by k_mem))))
local macro_rules | `(tactic| walk_at "my on") => `(tactic| (intro t9 h9 tk9 F9 N9; (try dsimp only); (try k_fold)))
local macro_rules | `(tactic| walk_at "InvEndN") => `(tactic| (k_dflt ksr_close))
namespace K02
section
variable {w : World} {s₀ : Shared} {mg mb : Str → Option Value}
theorem held_in {n lo : Int} {tn tl : Tok} : D w s₀ mg mb 10 210 [] [.int lo tl, .none, .int n tn] (Hands (fun _ => .bool true) []) := by
  k_with "pyIter ref" => (k_of "_law_each" => (((with_reducible show wpAny _ _ (pyIter (Value.ref _)) (fun it s₂ => LoopAtV _ _ _ _ _ _ _ _ _ it s₂) _ _); k_here; (rename Fr _ _ _ _ => lF'); (rename News _ _ _ _ => lN'); (try simp only [List.push_toArray] at lN'); (with_unfolding_all refine' My.ints_loop [Str.ofString "_law_found"] (by rfl) ?kl ?ki lF' lN' ?_ ?_); (case kl => k_dflt (repeat (first | exact List.mem_cons_self | refine List.mem_cons_of_mem _ ?_))); (case ki => k_dflt (repeat (first | exact PyProof.Rows.IntsAre.nil | apply PyProof.Rows.IntsAre.cons))); (all_goals (try clear lF' lN')); (rotate_left; (intro kU kH kTk kFr kNews; have kMark := kstMark; (try dsimp only [kstB] at kFr); (try dsimp only at kNews)); rotate_left; (intro kN kT kU kH kTk kOwn kOff kFr kNews; have kMark := kstMark; (try dsimp only [kstB] at kFr); (try dsimp only at kNews); (try simp only [List.nil_append, List.cons_append, List.append_nil] at kNews); (try dsimp only at kOff); (try simp only [List.map_cons, List.map_nil] at kOff))); (all_goals (try k_fold)))))
  w_strict (w_top off; (dsimp only [D, Does, Hands]); k_fill; (intro dp un gd cn cs a ccd cl outer A₀ base h₀ L m s Q E B F X N T hk hd hu hret); walk_at "my enter"; k_steps; (all_goals walk_at "my end"))
end
end K02
end
section
open PySem PySem.W PyProof.Rows My
set_option maxRecDepth 100000
set_option maxHeartbeats 8000000
local macro_rules | `(tactic| walk_at "pad 0") => `(tactic| skip)
local macro_rules | `(tactic| walk_at "pad 1") => `(tactic| skip)
local macro_rules | `(tactic| walk_at "pad 2") => `(tactic| skip)
local macro_rules | `(tactic| walk_at "pad 3") => `(tactic| skip)
local macro_rules | `(tactic| walk_at "pad 4") => `(tactic| skip)
local macro_rules | `(tactic| walk_at "pad 5") => `(tactic| skip)
local macro_rules | `(tactic| walk_at "pad 6") => `(tactic| skip)
local macro_rules | `(tactic| walk_at "pad 7") => `(tactic| skip)
local macro_rules | `(tactic| walk_at "pad 8") => `(tactic| skip)
local macro_rules | `(tactic| walk_at "pad 9") => `(tactic| skip)
local macro_rules | `(tactic| walk_at "pad 10") => `(tactic| skip)
local macro_rules | `(tactic| walk_at "pad 11") => `(tactic| skip)
local macro_rules | `(tactic| walk_at "pad 12") => `(tactic| skip)
local macro_rules | `(tactic| walk_at "pad 13") => `(tactic| skip)
local macro_rules | `(tactic| walk_at "pad 14") => `(tactic| skip)
local macro_rules | `(tactic| walk_at "pad 15") => `(tactic| skip)
local macro_rules | `(tactic| walk_at "pad 16") => `(tactic| skip)
local macro_rules | `(tactic| walk_at "pad 17") => `(tactic| skip)
local macro_rules | `(tactic| walk_at "pad 18") => `(tactic| skip)
local macro_rules | `(tactic| walk_at "pad 19") => `(tactic| skip)
local macro_rules | `(tactic| walk_at "binaryOp Pow int int") => `(tactic| (k_here; first | with_reducible refine' My.step_pow60 ?_ | with_reducible refine' My.step_pow9 ?_))
local macro_rules | `(tactic| walk_at "binaryOp Mod int int") => `(tactic| (k_here; first | with_reducible refine' My.step_mod60 ?_ | with_reducible refine' My.step_mod9 ?_))
local macro_rules | `(tactic| walk_at "binaryOp Mult int int") => `(tactic| (k_here; with_reducible refine' My.step_two ?_))
local macro_rules | `(tactic| walk_at "binaryOp Mult int int") => `(tactic| (k_here; (with_reducible refine' My.step_wide ?k1 ?_); (case k1 => assumption)))
local macro_rules | `(tactic| walk_at "call ref") => `(tactic| (k_here; k_dflt (refine wpAny_call ?_; (refine' code_def ?q1 ?q2 ?q3 ?q4 ?q5 ?qA ?qF ?qK ?q6 ?q7 ?q8 ?q9 ?qB ?_ ?d2 ?d3 ?d4 ?d5; (case qA => exact rfl); (case qF => exact rfl); (case qK => first | exact rfl | assumption); (case q1 => k_asm); (case q2 => k_asm); (case q3 => k_asm); (case q4 => k_asm); (case q5 => k_asm); (case q6 => k_is); (case q7 => k_is); (case q8 => ktr_room); (case q9 => exact BindsTo.of_eq rfl); (case d5 => decide); (case qB => exact locs rfl); (case d2 => exact rfl); (case d3 => exact rfl); (case d4 => exact rfl); k_whole; intro g' L' h' FG' F' N' B' X' T'; (try dsimp only); (try k_lift B'); (try k_fold)))))
local macro_rules | `(tactic| walk_at "my enter") => `(tactic| k_dflt (refine wpAny_call ?_; (refine' My.enter ?q1 ?q2 ?q3 ?q4 ?q5 ?qA ?qF ?qK ?q6 ?q7 ?q8 ?q9 ?qB ?_ ?d2 ?d3 ?d4 ?d5; (case qA => exact rfl); (case qF => exact rfl); (case qK => first | exact rfl | assumption); (case q1 => k_asm); (case q2 => k_asm); (case q3 => k_asm); (case q4 => k_asm); (case q5 => k_asm); (case q6 => k_is); (case q7 => k_is); (case q8 => ktr_room); (case q9 => exact BindsTo.of_eq rfl); (case d5 => decide); (case qB => exact locs rfl); (case d2 => exact rfl); (case d3 => exact rfl); (case d4 => exact rfl); k_whole; intro g' L' h' hStay FG' F' N' B' X' T'; (try dsimp only); (try k_lift B'); (try k_fold))))
local macro_rules | `(tactic| walk_at "my end") => `(tactic| ((first | refine My.retI (by assumption) ?e1 ?e2 ?e3 ?e4 | refine My.retB (by assumption) ?e1 ?e2 ?e3 ?e4); (case e2 => k_asm); (case e3 => first | k_asm | exact News.nil); (case e4 => exact My.stay_end (by assumption) (by assumption)); (case e1 => cb_eq)))
local macro_rules | `(tactic| walk_at "my use") => `(tactic| ((case q1 => k_asm); (case q2 => k_asm); (case q3 => k_asm); (case q4 => k_asm); (case q5 => k_asm); (case q6 => first | exact rfl | assumption); (case q7 => first | exact My.room1 (by assumption) (by decide) | exact My.room1 (My.room1 (by assumption) (by decide)) (by decide) | ktr_room); (case q8 => first | exact My.units1 (by assumption) (by decide) | exact My.units1 (My.units1 (by assumption) (by decide)) (by decide) | ktr_units); (case q9 => first | exact (fun _ hq => nomatch hq) | exact List.forall_mem_cons.mpr ⟨by k_mem, fun _ hq => nomatch hq⟩); (intro t9 h9 tk9 F9 N9; (try dsimp only); (try k_fold))))
local macro_rules | `(tactic| walk_at "my is end") => `(tactic| first | exact My.IsEnd.none | exact My.IsEnd.int)
local macro_rules | `(tactic| walk_at "call ref") => `(tactic| (k_here; first
  | (k_dflt (refine' My.use_hands K02.crossed_nx ?q1 ?q2 ?q3 ?q4 ?q5 ?q6 ?q7 ?q8 ?q9 ?_); k_dflt (walk_at "my use"))
  | (k_dflt (refine' My.use_hands K02.crossed_xn ?q1 ?q2 ?q3 ?q4 ?q5 ?q6 ?q7 ?q8 ?q9 ?_); k_dflt (walk_at "my use"))
  | (k_dflt (refine' My.use_hands (K02.crossed_no ?q0) ?q1 ?q2 ?q3 ?q4 ?q5 ?q6 ?q7 ?q8 ?q9 ?_); (case q0 => k_dflt (first | assumption | exact Int.not_lt.mpr (by assumption))); k_dflt (walk_at "my use"))
  | (k_dflt (refine' My.use_hands (K02.crossed_yes ?q0) ?q1 ?q2 ?q3 ?q4 ?q5 ?q6 ?q7 ?q8 ?q9 ?_); (case q0 => k_dflt (first | assumption)); k_dflt (walk_at "my use"))
  | (k_dflt (refine' My.use_hands (K02.end_does ?q0) ?q1 ?q2 ?q3 ?q4 ?q5 ?q6 ?q7 ?q8 ?q9 ?_); (case q0 => k_dflt (walk_at "my is end")); k_dflt (walk_at "my use"))
  | (k_dflt (refine' My.use_hands (K02.has_does ?q0 ?q01) ?q1 ?q2 ?q3 ?q4 ?q5 ?q6 ?q7 ?q8 ?q9 ?_); (case q0 => k_dflt (walk_at "my is end")); (case q01 => k_dflt (walk_at "my is end")); k_dflt (walk_at "my use"))
  | (k_dflt (refine' My.use_hands (K02.stretch_has_does ?q0 ?q01) ?q1 ?q2 ?q3 ?q4 ?q5 ?q6 ?q7 ?q8 ?q9 ?_); k_dflt (walk_at "my use lent"); (case q0 => k_dflt (walk_at "my is end")); (case q01 => k_dflt (walk_at "my is end")); k_dflt (walk_at "my on"))))
local macro_rules | `(tactic| walk_at "my use lent") => `(tactic| ((case q1 => k_asm); (case q2 => k_asm); (case q3 => k_asm); (case q4 => k_asm); (case q5 => k_asm); (case q6 => first | exact rfl | assumption); (case q7 => first | exact My.room1 (by assumption) (by decide) | exact My.room1 (My.room1 (by assumption) (by decide)) (by decide) | ktr_room); (case q8 => first | exact My.units1 (by assumption) (by decide) | exact My.units1 (My.units1 (by assumption) (by decide)) (by decide) | ktr_units); (case q9 => exact My.sub_one (by k_mem))))
local macro_rules | `(tactic| walk_at "my on") => `(tactic| (intro t9 h9 tk9 F9 N9; (try dsimp only); (try k_fold)))
local macro_rules | `(tactic| walk_at "InvEndN") => `(tactic| (k_dflt ksr_close))
namespace K02
section
variable {w : World} {s₀ : Shared} {mg mb : Str → Option Value}
theorem held_ii {n lo hi : Int} {tn tl th : Tok} (hc : ¬ hi < lo) : D w s₀ mg mb 10 210 [] [.int lo tl, .int hi th, .int n tn] (Hands (fun _ => .bool true) []) := by
  k_with "pyIter ref" => (k_of "_law_each" => (((with_reducible show wpAny _ _ (pyIter (Value.ref _)) (fun it s₂ => LoopAtV _ _ _ _ _ _ _ _ _ it s₂) _ _); k_here; (rename Fr _ _ _ _ => lF'); (rename News _ _ _ _ => lN'); (try simp only [List.push_toArray] at lN'); (with_unfolding_all refine' My.ints_loop [Str.ofString "_law_found"] (by rfl) ?kl ?ki lF' lN' ?_ ?_); (case kl => k_dflt (repeat (first | exact List.mem_cons_self | refine List.mem_cons_of_mem _ ?_))); (case ki => k_dflt (repeat (first | exact PyProof.Rows.IntsAre.nil | apply PyProof.Rows.IntsAre.cons))); (all_goals (try clear lF' lN')); (rotate_left; (intro kU kH kTk kFr kNews; have kMark := kstMark; (try dsimp only [kstB] at kFr); (try dsimp only at kNews)); rotate_left; (intro kN kT kU kH kTk kOwn kOff kFr kNews; have kMark := kstMark; (try dsimp only [kstB] at kFr); (try dsimp only at kNews); (try simp only [List.nil_append, List.cons_append, List.append_nil] at kNews); (try dsimp only at kOff); (try simp only [List.map_cons, List.map_nil] at kOff))); (all_goals (try k_fold)))))
  w_strict (w_top off; (dsimp only [D, Does, Hands]); k_fill; (intro dp un gd cn cs a ccd cl outer A₀ base h₀ L m s Q E B F X N T hk hd hu hret); walk_at "my enter"; k_steps; (all_goals walk_at "my end"))
end
end K02
end
section
open PySem PySem.W PyProof.Rows
local macro_rules | `(tactic| walk_at "pad 0") => `(tactic| skip)
local macro_rules | `(tactic| walk_at "pad 1") => `(tactic| skip)
local macro_rules | `(tactic| walk_at "pad 2") => `(tactic| skip)
local macro_rules | `(tactic| walk_at "pad 3") => `(tactic| skip)
local macro_rules | `(tactic| walk_at "pad 4") => `(tactic| skip)
local macro_rules | `(tactic| walk_at "pad 5") => `(tactic| skip)
local macro_rules | `(tactic| walk_at "pad 6") => `(tactic| skip)
local macro_rules | `(tactic| walk_at "pad 7") => `(tactic| skip)
local macro_rules | `(tactic| walk_at "pad 8") => `(tactic| skip)
local macro_rules | `(tactic| walk_at "pad 9") => `(tactic| skip)
local macro_rules | `(tactic| walk_at "pad 10") => `(tactic| skip)
local macro_rules | `(tactic| walk_at "pad 11") => `(tactic| skip)
local macro_rules | `(tactic| walk_at "pad 12") => `(tactic| skip)
local macro_rules | `(tactic| walk_at "pad 13") => `(tactic| skip)
local macro_rules | `(tactic| walk_at "pad 14") => `(tactic| skip)
local macro_rules | `(tactic| walk_at "pad 15") => `(tactic| skip)
local macro_rules | `(tactic| walk_at "pad 16") => `(tactic| skip)
local macro_rules | `(tactic| walk_at "pad 17") => `(tactic| skip)
local macro_rules | `(tactic| walk_at "pad 18") => `(tactic| skip)
local macro_rules | `(tactic| walk_at "pad 19") => `(tactic| skip)
local macro_rules | `(tactic| walk_at "pad 20") => `(tactic| skip)
local macro_rules | `(tactic| walk_at "pad 21") => `(tactic| skip)
local macro_rules | `(tactic| walk_at "pad 22") => `(tactic| skip)
local macro_rules | `(tactic| walk_at "pad 23") => `(tactic| skip)
local macro_rules | `(tactic| walk_at "pad 24") => `(tactic| skip)
local macro_rules | `(tactic| walk_at "pad 25") => `(tactic| skip)
local macro_rules | `(tactic| walk_at "pad 26") => `(tactic| skip)
local macro_rules | `(tactic| walk_at "InvEndN") => `(tactic| (k_dflt ksr_close))
local macro_rules | `(tactic| walk_at "my use") => `(tactic| ((case q1 => k_asm); (case q2 => k_asm); (case q3 => k_asm); (case q4 => k_asm); (case q5 => k_asm); (case q6 => first | exact rfl | assumption); (case q7 => first | decide | exact My.room1 (by decide) (by decide) | ktr_room); (case q8 => first | decide | exact My.units1 (by decide) (by decide) | ktr_units); (case q9 => exact (fun _ hq => nomatch hq)); (intro t9 h9 tk9 F9 N9; (try dsimp only); (try k_fold))))
local macro_rules | `(tactic| walk_at "call ref") => `(tactic| (k_here; first
  | (k_dflt (refine' cellTells_use ?q1 ?q2 ?q3 ?q4 ?q5 ?q6 ?qa ?qb ?qc ?qd K02.cell_tells ?q7 ?q8 ?_); k_dflt ((case q1 => k_asm); (case q2 => k_asm); (case q3 => k_asm); (case q4 => k_asm); (case q5 => k_asm); (case q6 => first | exact rfl | assumption); (case qa => k_asm); (case qb => assumption); (case qc => omega); (case qd => omega); (case q7 => first | decide | ktr_room); (case q8 => first | decide | ktr_units); (intro t9 h9 tk9 F9 N9; (try dsimp only); (try k_fold))))
  | (k_dflt (refine' My.use_hands (K02.crossed_yes ?q0) ?q1 ?q2 ?q3 ?q4 ?q5 ?q6 ?q7 ?q8 ?q9 ?_); (case q0 => k_dflt assumption); k_dflt (walk_at "my use"))
  | (k_dflt (refine' My.use_hands K02.held_nn ?q1 ?q2 ?q3 ?q4 ?q5 ?q6 ?q7 ?q8 ?q9 ?_); k_dflt (walk_at "my use"))
  | (k_dflt (refine' My.use_hands K02.held_ni ?q1 ?q2 ?q3 ?q4 ?q5 ?q6 ?q7 ?q8 ?q9 ?_); k_dflt (walk_at "my use"))
  | (k_dflt (refine' My.use_hands K02.held_in ?q1 ?q2 ?q3 ?q4 ?q5 ?q6 ?q7 ?q8 ?q9 ?_); k_dflt (walk_at "my use"))
  | (k_dflt (refine' My.use_hands (K02.held_ii ?q0) ?q1 ?q2 ?q3 ?q4 ?q5 ?q6 ?q7 ?q8 ?q9 ?_); (case q0 => k_dflt (first | assumption | exact Int.not_lt.mpr (by assumption) | omega)); k_dflt (walk_at "my use"))
  | (k_dflt (refine' My.with_cell (by assumption) ?_); intro hcell; k_dflt (refine' My.use_hands (K02.number_does ?q0) ?q1 ?q2 ?q3 ?q4 ?q5 ?q6 ?q7 ?q8 ?q9 ?_); (case q0 => assumption); k_dflt (walk_at "my use"))))
local macro_rules | `(tactic| walk_at "compareOp Eq int int") => `(tactic| (k_here; (with_reducible refine' My.eq_split ?_ ?_); (all_goals intro hdraw); (all_goals (try dsimp only))))
local macro_rules | `(tactic| walk_at "exec If") => `(tactic| (k_here; (with_reducible show wpAny _ _ (exec (Stmt.If _ [Stmt.Assign [Expr.Name (Str.ofString "_law_hi") _] (Expr.BinOp _ _ _ _) _] [] _) _) _ _ _); (fail_if_success (with_reducible rename My.CutMark => kc')); (try dsimp only); (rename Fr _ _ _ _ => lF'); (rename News _ _ _ _ => lN'); (with_unfolding_all refine' (My.cut_exec (Str.ofString "_law_hi") lF' lN' ?_ ?_)); (rotate_left; (clear lF' lN'; intro kK kT kH kTk kFr kNews); rotate_left; have kCut := My.CutMark.mk); (all_goals (try dsimp only)); (all_goals (try k_fold))))
local macro_rules | `(tactic| walk_at "exec If") => `(tactic| (k_here; (with_reducible show wpAny _ _ (exec (Stmt.If _ [Stmt.Assign [Expr.Name (Str.ofString "_law_number_here") _] (Expr.BinOp _ _ _ _) _] [] _) _) _ _ _); (fail_if_success (with_reducible rename My.CutMark => kc')); (try dsimp only); (rename Fr _ _ _ _ => lF'); (rename News _ _ _ _ => lN'); (with_unfolding_all refine' (My.cut_exec (Str.ofString "_law_number_here") lF' lN' ?_ ?_)); (rotate_left; (clear lF' lN'; intro kK kT kH kTk kFr kNews); rotate_left; have kCut := My.CutMark.mk); (all_goals (try dsimp only)); (all_goals (try k_fold))))
local macro_rules | `(tactic| walk_at "Cut") => `(tactic| ((k_dflt (first | exact My.cut_set (by assumption) (by assumption) | exact My.cut_keep (by assumption) (by assumption) (if_pos rfl)))))
local macro_rules | `(tactic| walk_at "Cut next") => `(tactic| ((k_dflt (first | exact My.cut_set (by assumption) (by assumption) | exact My.cut_keep (by assumption) (by assumption) (if_pos rfl)))))
local macro_rules | `(tactic| walk_at "call builtin:isinstance") => `(tactic| (k_here; (with_reducible show wpAny _ _ (call _ [Value.ref _, Value.ref _]) _ _ _); (k_dflt (refine' kia_tup (My.kitx_of ?ka ?kb ?kc ?k5 ?k6 ?k7 ?k8 ?k9) ?X ?I ?p ?ee ?nb ?_; (case I => (refine' My.of_news ?N9 ?m9 ?c9; (case N9 => k_asm); (case m9 => k_mem); (case c9 => assumption))); (case p => kit_tp); (case X => k_in); (case ee => kit_is); (case nb => kit_nb); (case ka => k_is); (case kb => k_is); (case kc => k_is); (case k5 => k_is); (case k6 => k_is); (case k7 => k_is); (case k8 => k_is); (case k9 => k_is); k_whole; intro _))))
local macro_rules | `(tactic| walk_at "call builtin:isinstance") => `(tactic| (k_here; (with_reducible show wpAny _ _ (call _ [Value.ref _, _]) _ _ _); (k_dflt (refine' kia_one (My.kitx_of ?ka ?kb ?kc ?k5 ?k6 ?k7 ?k8 ?k9) ?X ?I ?ee ?nb ?_; (case I => (refine' My.of_news ?N9 ?m9 ?c9; (case N9 => k_asm); (case m9 => k_mem); (case c9 => assumption))); (case X => k_in); (case ee => kit_is); (case nb => kit_nb); (case ka => k_is); (case kb => k_is); (case kc => k_is); (case k5 => k_is); (case k6 => k_is); (case k7 => k_is); (case k8 => k_is); (case k9 => k_is); k_whole; intro _))))
local macro_rules | `(tactic| walk_at "call builtin:isinstance") => `(tactic| (k_here; (with_reducible show wpAny _ _ (call _ [Value.ref _, _]) _ _ _); (fail_if_success (with_reducible rename My.OeCls _ _ => zc')); (rename News _ _ _ _ => lN'); (obtain ⟨oe', hoe', N'⟩ := My.got_more (by assumption) (by assumption) lN'); walk_at "call builtin:isinstance"))
set_option maxRecDepth 100000 in
set_option maxHeartbeats 8000000 in
theorem PySem.Challenge.cw_seer_k02_a_stretch_holds : PySem.Challenge.rw_seer_k02_a_stretch.Holds :=
  head (by
    k_with "pyIter ref" => (k_of "_law_at" => ((with_reducible show wpAny _ _ (pyIter (Value.ref _)) (fun it s₂ => LoopAtV _ _ _ _ _ _ _ _ _ it s₂) _ _); k_here; (rename Fr _ _ _ _ => lF'); (rename News _ _ _ _ => lN'); (rename IsRange _ _ _ _ _ _ _ _ => rgX); (with_unfolding_all refine' My.step_loop [Str.ofString "_law_lo", Str.ofString "_law_hi", Str.ofString "_law_number_here", Str.ofString "_law_ends"] (by rfl) rgX (by decide) (by decide) (by omega) (by omega) lF' lN' ?_ ?_); (all_goals (try clear lF' lN' rgX)); (rotate_left; (intro kU kH kTk kFr kNews; have kMark := kstMark; (try dsimp only [kstB] at kFr); (try dsimp only at kNews)); rotate_left; (intro kN kT kU kH kTk kOwn hk0 hkb kOff kFr kNews; have kMark := kstMark; (try dsimp only [kstB] at kFr); (try dsimp only at kNews); (try simp only [List.nil_append, List.cons_append, List.append_nil] at kNews); (try dsimp only at kOff); (try simp only [List.map_cons, List.map_nil] at kOff))); (all_goals (try k_fold))))
    w_strict k_go)
end
