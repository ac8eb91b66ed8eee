import PyProof.Rows.All
import Wide.All
import OpenK.AllK
import Wide.FinOn
import PySem.Challenge.RW_seer_k77_numbers_tried
import PyProof.Rows.News
import PyProof.Rows.Nodes
import PyProof.Rows.Chain
import PyProof.Rows.TupSub
import ObjForm.Fk.ObjNew
import ObjForm.Fk.InstLoad
import PyProof.PureInt
import PyProof.Rules2
import PyProof.Rules3
import PyProof.Rows.Globals
import PyProof.Rows.RuleB_mod
import PyProof.Rows.RuleB_floordiv
import PyProof.Rows.RuleB_small
import PyProof.NoPylong
import PyProof.Rows.RuleB_pow
import PyProof.Rows.EqDataRows
import PyProof.Rows.StrTemp
import PyProof.Rows.TupAdd
import PyProof.Rows.ListMul
import PyProof.ListIndexNeg
import PyProof.SliceList
import PyProof.Methods
import PyProof.Rows.Tup
import PyProof.IsiPairs
import PyProof.IsiHeapPairs
import PyProof.IsiNone
import PyProof.Rows.RuleN_abs
import PyProof.Rows.SumAny
import PyProof.WalkInts
import PyProof.PvWalk
import PyProof.RulesRaise
import PyProof.Raises
import PyProof.Dict
import PyProof.Seq
import PyProof.Rows.ListAppend
import PyProof.ForAppend
import PyProof.ForAny
import PyProof.Walks
import PyProof.WalksT
import KE.KItem
import PyProof.WalksMore
import PyProof.RangeFor
import PyProof.Rows.Range3
import OpenK.KCell
import KE.KTree
import KE.RegLcTurns
import KE.KCompFold
import KE.KLcPair
import KE.LcTurns
import PyProof.CompUse
import PyProof.Rows.ZipGen
import OpenK.KLine
import KE.KState
import Wide.Well
import PyProof.ListCopy
import PyProof.Rows.TupleOfSeqD
import KE.LcSums
import KE.KCellOne
import PyProof.FitsBits
import KE.KEqDeep
import PyProof.Rows.TupMore
import PyProof.Rows.NestLooks
import PyProof.EnumMake
import PyProof.WalksEnum
import OpenK.KWalk
import OpenK.KMake
import PyProof.AssignAttr
import PyProof.Rows.AttrNodeAny
import PyProof.Draws
import PyProof.Rows.CallKwBuiltin
import PyProof.Rows.SortWalk
import PyProof.DictStraight
import PyProof.EqAt
import PyProof.Rows.SeqMore2
import KE.KSortTup
import PyProof.WalksPairs
import KE.KAnyBase
import PyProof.Rows.SeqSlice
import PyProof.Rows.SetFrom
import PyProof.FactsAll.set_1
import PyProof.FactsAll.set_2
import PyProof.ListRange
import PyProof.LongRange
import KE.KRevIter
namespace My
end My
set_option Elab.async false
set_option compiler.extract_closed false
section
set_option maxRecDepth 100000
set_option linter.all false
set_option autoImplicit false
/-! The plain machine: values as trees, lists as places; and how it stands for the model's heap. -/
namespace PM
open PySem PyProof.Rows
inductive V where
  | none
  | bool (b : Bool)
  | int (i : Int)
  | str (s : Str)
  | tup (vs : List V)
  | ref (a : Nat)
  | obj (c : Nat × List Str) (a : Nat)
noncomputable abbrev Hp := List (List V)
noncomputable abbrev Lc := Nat → Option V
noncomputable def LEN : Nat := 100000
theorem LEN_eq : LEN = 100000 := rfl
theorem LEN_size {n : Nat} (h : n ≤ LEN) : n ≤ sizeLine := by
  have : sizeLine = 2 ^ 24 := rfl
  rw [this]; rw [LEN_eq] at h; omega
noncomputable abbrev tupB (xs : List Value) (k : Nat) : Obj := { cls := .type "tuple", data := .seq xs.toArray k }
noncomputable abbrev lstB (xs : List Value) (k : Nat) : Obj := { cls := .type "list", data := .seq xs.toArray k }
structure Wd where
  pi : List Addr
  tups : List (Addr × Obj)
  sc : Addr × Obj
  ins : List (Nat × List Str)
structure Wd.Le (W W' : Wd) : Prop where
  pi : W.pi <+: W'.pi
  tups : ∀ q ∈ W.tups, q ∈ W'.tups
  sc : W'.sc = W.sc
  ins : ∀ q ∈ W.ins, q ∈ W'.ins
  inew : ∀ q ∈ W'.ins, q ∈ W.ins ∨ W.pi.length ≤ q.1
theorem Wd.Le.refl (W : Wd) : W.Le W := ⟨List.prefix_refl _, fun _ h => h, rfl, fun _ h => h, fun _ h => .inl h⟩
theorem Wd.Le.trans {W W' W'' : Wd} (a : W.Le W') (b : W'.Le W'') : W.Le W'' := ⟨a.pi.trans b.pi, fun q h => b.tups q (a.tups q h), b.sc.trans a.sc, fun q h => b.ins q (a.ins q h), fun q h => by
  rcases b.inew q h with z | z
  · exact a.inew q z
  · exact .inr (Nat.le_trans a.pi.length_le z)⟩
noncomputable def Wd.At (W : Wd) (i : Nat) (a : Addr) : Prop := W.pi[i]? = some a ∧ ∀ q ∈ W.ins, q.1 ≠ i
noncomputable def InstO (o : Obj) (C dx : Addr) : Prop := o = { cls := .ref C, dict := some dx, data := .plain }
inductive FE : List Str → List Value → List DictEntry → Prop where
  | nil {fs : List Str} : FE fs [] []
  | cons {f : Str} {fs : List Str} {x : Value} {xs : List Value} {hs : Int} {t : Tok} {es : List DictEntry} : FE fs xs es → FE (f :: fs) (x :: xs) (⟨hs, .str f t, x⟩ :: es)
noncomputable def DictO (o : Obj) (fs : List Str) (xs : List Value) : Prop := ∃ es n, o = { cls := .type "dict", data := .dict es.toArray n } ∧ FE fs xs es
theorem Wd.Le.piAt {W W' : Wd} (h : W.Le W') {i : Nat} {a : Addr} (e : W.pi[i]? = some a) : W'.pi[i]? = some a := by
  obtain ⟨t, ht⟩ := h.pi
  have hi : i < W.pi.length := (List.getElem?_eq_some_iff.mp e).1
  rw [← ht, List.getElem?_append_left hi]
  exact e
theorem Wd.Le.at {W W' : Wd} (h : W.Le W') {i : Nat} {a : Addr} (e : W.At i a) : W'.At i a := ⟨h.piAt e.1, fun q hq z => by
  rcases h.inew q hq with y | y
  · exact e.2 q y z
  · have := (List.getElem?_eq_some_iff.mp e.1).1
    omega⟩
mutual
inductive VR (W : Wd) : V → Value → Prop where
  | none : VR W .none .none
  | bool (b : Bool) : VR W (.bool b) (.bool b)
  | int (i : Int) (t : Tok) : VR W (.int i) (.int i t)
  | str (s : Str) (t : Tok) : VR W (.str s) (.str s t)
  | tup {vs : List V} {a : Addr} {xs : List Value} {k : Nat} : (a, tupB xs k) ∈ W.tups → vs.length ≤ LEN → VRs W vs xs → VR W (.tup vs) (.ref a)
  | ref {i : Nat} {a : Addr} : W.At i a → VR W (.ref i) (.ref a)
  | obj {c : Nat × List Str} {i : Nat} {a x : Addr} {ox : Obj} : W.pi[i]? = some a → (i, c.2) ∈ W.ins → (x, ox) ∈ W.tups → InstO ox c.1 a → VR W (.obj c i) (.ref x)
inductive VRs (W : Wd) : List V → List Value → Prop where
  | nil : VRs W [] []
  | cons {v : V} {x : Value} {vs : List V} {xs : List Value} : VR W v x → VRs W vs xs → VRs W (v :: vs) (x :: xs)
end
mutual
theorem VR.mono {W W' : Wd} (h : W.Le W') {v : V} {x : Value} (r : VR W v x) : VR W' v x := by
  cases r with
  | none => exact .none
  | bool b => exact .bool b
  | int i t => exact .int i t
  | str s t => exact .str s t
  | tup hm hl hs => exact .tup (h.tups _ hm) hl (VRs.mono h hs)
  | ref e => exact .ref (h.at e)
  | obj h1 h2 h3 h4 => exact .obj (h.piAt h1) (h.ins _ h2) (h.tups _ h3) h4
theorem VRs.mono {W W' : Wd} (h : W.Le W') {vs : List V} {xs : List Value} (r : VRs W vs xs) : VRs W' vs xs := by
  cases r with
  | nil => exact .nil
  | cons a b => exact .cons (VR.mono h a) (VRs.mono h b)
end
theorem VRs.length {W : Wd} : ∀ {vs : List V} {xs : List Value}, VRs W vs xs → xs.length = vs.length
  | _, _, .nil => rfl
  | _, _, .cons _ r => by rw [List.length_cons, List.length_cons, r.length]
theorem VRs.at {W : Wd} : ∀ {vs : List V} {xs : List Value} {i : Nat} {v : V}, VRs W vs xs → vs[i]? = some v → ∃ x, xs[i]? = some x ∧ VR W v x
  | _, _, _, _, .nil, e => by simp at e
  | _, _, 0, _, .cons a _, e => by
    simp at e
    exact ⟨_, by simp, e ▸ a⟩
  | _, _, i + 1, _, .cons _ r, e => by
    simp at e
    obtain ⟨x, hx, hr⟩ := r.at e
    exact ⟨x, by simpa using hx, hr⟩
theorem VRs.append {W : Wd} : ∀ {vs us : List V} {xs ys : List Value}, VRs W vs xs → VRs W us ys → VRs W (vs ++ us) (xs ++ ys)
  | _, _, _, _, .nil, h => h
  | _, _, _, _, .cons a r, h => .cons a (r.append h)
theorem VRs.snoc {W : Wd} {vs : List V} {xs : List Value} {v : V} {x : Value} (h : VRs W vs xs) (r : VR W v x) : VRs W (vs ++ [v]) (xs ++ [x]) := h.append (.cons r .nil)
theorem VRs.set {W : Wd} : ∀ {vs : List V} {xs : List Value} {v : V} {x : Value} (i : Nat), VRs W vs xs → VR W v x → VRs W (vs.set i v) (xs.set i x)
  | _, _, _, _, _, .nil, _ => .nil
  | _, _, _, _, 0, .cons _ r, h => .cons h r
  | _, _, _, _, i + 1, .cons a r, h => .cons a (r.set i h)
structure HR (W : Wd) (H : Hp) (led : List (Addr × Obj)) : Prop where
  len : W.pi.length = H.length
  nd : W.pi.Nodup
  lists : ∀ (i : Nat) (vs : List V), H[i]? = some vs → (∀ q ∈ W.ins, q.1 ≠ i) → vs.length ≤ LEN ∧ ∃ a xs k, W.pi[i]? = some a ∧ (a, lstB xs k) ∈ led ∧ VRs W vs xs
  tups : ∀ q ∈ W.tups, q ∈ led
  kind : ∀ q ∈ W.tups, (∃ xs k, q.2 = tupB xs k) ∨ ∃ C dx, InstO q.2 C dx
  objs : ∀ (i : Nat) (vs : List V) (fs : List Str), H[i]? = some vs → (i, fs) ∈ W.ins → vs.length ≤ fs.length ∧ ∃ a od xs, W.pi[i]? = some a ∧ (a, od) ∈ led ∧ DictO od fs xs ∧ VRs W vs xs
  inlt : ∀ q ∈ W.ins, q.1 < H.length
  iuni : ∀ q ∈ W.ins, ∀ r ∈ W.ins, q.1 = r.1 → q = r
theorem HR.mono {W : Wd} {H : Hp} {led led' : List (Addr × Obj)} (R : HR W H led) (h : ∀ q ∈ led, q ∈ led') : HR W H led' :=
  ⟨R.len, R.nd, fun i vs e ni => by
    obtain ⟨l, a, xs, k, h1, h2, h3⟩ := R.lists i vs e ni
    exact ⟨l, a, xs, k, h1, h _ h2, h3⟩, fun q hq => h q (R.tups q hq), R.kind, fun i vs fs e hi => by
    obtain ⟨l, a, od, xs, h1, h2, h3⟩ := R.objs i vs fs e hi
    exact ⟨l, a, od, xs, h1, h _ h2, h3⟩, R.inlt, R.iuni⟩
theorem HR.any {W : Wd} {H : Hp} {led : List (Addr × Obj)} (R : HR W H led) {i : Nat} {vs : List V} (e : H[i]? = some vs) : ∃ a o, W.pi[i]? = some a ∧ (a, o) ∈ led ∧ (o.cls = .type "list" ∨ o.cls = .type "dict") := by
  by_cases ni : ∀ q ∈ W.ins, q.1 ≠ i
  · obtain ⟨_, a, xs, k, h1, h2, _⟩ := R.lists i vs e ni
    exact ⟨a, _, h1, h2, .inl rfl⟩
  · obtain ⟨⟨j, fs⟩, hq⟩ := Classical.not_forall.mp ni
    obtain ⟨hq', z⟩ := Classical.not_imp.mp hq
    have z : j = i := Classical.not_not.mp z
    rw [z] at hq'
    obtain ⟨_, a, od, xs, h1, h2, h3, _⟩ := R.objs i vs fs e hq'
    obtain ⟨es, n, eo, _⟩ := h3
    exact ⟨a, od, h1, h2, .inr (by rw [eo])⟩
theorem kind_off {o : Obj} (k : (∃ xs k, o = tupB xs k) ∨ ∃ C dx, InstO o C dx) : o.cls ≠ .type "list" ∧ o.cls ≠ .type "dict" := by
  rcases k with ⟨xs, k, e⟩ | ⟨C, dx, e⟩
  · rw [e]; exact ⟨by simp, by simp⟩
  · rw [show o = _ from e]; exact ⟨by simp, by simp⟩
structure Cx where
  A : Around
  env : Env
  h₀ : Heap
  L : Addr
  hh : A.handled = none
  hu : A.units + 200 < cLine
  Own : Wd → Lc → (Str → Option Value) → List (Addr × Obj) → Prop
  mono : ∀ {W W' : Wd} {ρ : Lc} {m : Str → Option Value} {c : List (Addr × Obj)}, W.Le W' → Own W ρ m c → Own W' ρ m c
structure Rep' (Γ : Cx) (W : Wd) (ρ : Lc) (H : Hp) (fr : List (Addr × Obj)) (h : Heap) (m : Str → Option Value) (cells led : List (Addr × Obj)) : Prop where
  F : Fr Γ.h₀ Γ.L h m
  N : News Γ.h₀ Γ.L h led
  R : HR W H (W.sc :: led)
  sc : Γ.h₀.get? W.sc.1 = some W.sc.2
  sc0 : W.pi[0]? = some W.sc.1
  frIn : ∀ q ∈ fr, q ∈ led
  frOff : ∀ q ∈ fr, q.1 ∉ W.pi
  clIn : ∀ q ∈ cells, q ∈ led
  clOff : ∀ q ∈ cells, q.1 ∉ W.pi
  apart : ∀ q ∈ cells, ∀ r ∈ fr, q.1 ≠ r.1
  frTup : ∀ q ∈ fr, ∀ t ∈ W.tups, q.1 ≠ t.1
  clTup : ∀ q ∈ cells, ∀ t ∈ W.tups, q.1 ≠ t.1
  own : Γ.Own W ρ m cells
noncomputable def Rep (Γ : Cx) (W : Wd) (ρ : Lc) (H : Hp) (fr : List (Addr × Obj)) (h : Heap) : Prop := ∃ m cells led, Rep' Γ W ρ H fr h m cells led
theorem Rep.grown {Γ : Cx} {W : Wd} {ρ : Lc} {H : Hp} {fr : List (Addr × Obj)} {h h' : Heap} (r : Rep Γ W ρ H fr h) (up : ∀ b o, h.get? b = some o → h'.get? b = some o) : Rep Γ W ρ H fr h' := by
  obtain ⟨m, c, led, r⟩ := r
  refine ⟨m, c, led, ⟨⟨?_, fun b o e => up b o (r.F.keep b o e), r.F.above⟩, fun q hq => ⟨up _ _ (r.N q hq).1, (r.N q hq).2⟩, r.R, r.sc, r.sc0, r.frIn, r.frOff, r.clIn, r.clOff, r.apart, r.frTup, r.clTup, r.own⟩⟩
  obtain ⟨o, es, ep, h1, h2⟩ := r.F.ns
  exact ⟨o, es, ep, up _ _ h1, h2⟩
theorem Rep.push {Γ : Cx} {W : Wd} {ρ : Lc} {H : Hp} {fr : List (Addr × Obj)} {h : Heap} (r : Rep Γ W ρ H fr h) (o : Obj) : Rep Γ W ρ H fr (h.push o) := r.grown fun _ _ e => Heap.get?_push_of_some _ e
theorem memF {q s : Addr × Obj} {l l' : List (Addr × Obj)} (h : q ∈ s :: l) (m : q ∈ l → q ∈ l') : q ∈ s :: l' := by
  rcases List.mem_cons.mp h with e | h
  · exact e ▸ List.mem_cons_self
  · exact List.mem_cons_of_mem _ (m h)
theorem memSc {q s : Addr × Obj} {l l' : List (Addr × Obj)} (h : q ∈ s :: l) (m : ∀ x ∈ l, x ∈ l') : q ∈ s :: l' := by
  rcases List.mem_cons.mp h with e | h
  · exact e ▸ List.mem_cons_self
  · exact List.mem_cons_of_mem _ (m q h)
theorem Rep'.get {Γ : Cx} {W : Wd} {ρ : Lc} {H : Hp} {fr : List (Addr × Obj)} {h : Heap} {m : Str → Option Value} {c led : List (Addr × Obj)} (r : Rep' Γ W ρ H fr h m c led) {q : Addr × Obj} (hq : q ∈ W.sc :: led) : h.get? q.1 = some q.2 := by
  rcases List.mem_cons.mp hq with e | hq
  · rw [e]
    exact r.F.keep _ _ r.sc
  · exact (r.N q hq).1
theorem Rep'.off {Γ : Cx} {W : Wd} {ρ : Lc} {H : Hp} {fr : List (Addr × Obj)} {h : Heap} {m : Str → Option Value} {c led : List (Addr × Obj)} (r : Rep' Γ W ρ H fr h m c led) : ∀ q ∈ W.sc :: led, q.1 ≠ h.objs.size := fun q hq => Nat.ne_of_lt (Heap.lt_size (r.get hq))
theorem Rep'.piIn {Γ : Cx} {W : Wd} {ρ : Lc} {H : Hp} {fr : List (Addr × Obj)} {h : Heap} {m : Str → Option Value} {c led : List (Addr × Obj)} (r : Rep' Γ W ρ H fr h m c led) : ∀ a ∈ W.pi, ∃ o, (a, o) ∈ W.sc :: led := by
  intro a ha
  obtain ⟨i, hi, e⟩ := List.getElem_of_mem ha
  have hi' : i < H.length := r.R.len ▸ hi
  obtain ⟨b, o, h1, h2, _⟩ := r.R.any (List.getElem?_eq_getElem hi')
  have : b = a := by rw [List.getElem?_eq_getElem hi, e] at h1; exact (Option.some.inj h1).symm
  exact ⟨_, this ▸ h2⟩
theorem Rep'.inLed {Γ : Cx} {W : Wd} {ρ : Lc} {H : Hp} {fr : List (Addr × Obj)} {h : Heap} {m : Str → Option Value} {c led : List (Addr × Obj)} (r : Rep' Γ W ρ H fr h m c led) {i : Nat} {a : Addr} {o : Obj} (hi : i ≠ 0) (ea : W.pi[i]? = some a) (hm : (a, o) ∈ W.sc :: led) : (a, o) ∈ led := by
  rcases List.mem_cons.mp hm with e | hm
  · have e1 : a = W.sc.1 := congrArg (·.1) e
    have hl : i < W.pi.length := (List.getElem?_eq_some_iff.mp ea).1
    have : i = 0 := (List.getElem?_inj hl r.R.nd).mp (by rw [ea, r.sc0, e1])
    exact absurd this hi
  · exact hm
theorem Rep'.notSc {Γ : Cx} {W : Wd} {ρ : Lc} {H : Hp} {fr : List (Addr × Obj)} {h : Heap} {m : Str → Option Value} {c led : List (Addr × Obj)} (r : Rep' Γ W ρ H fr h m c led) : ∀ q ∈ led, q.1 ≠ W.sc.1 := fun q hq e => by
  have := (r.N q hq).2.2
  rw [e, r.sc] at this
  cases this
theorem Rep'.newTup {Γ : Cx} {W : Wd} {ρ : Lc} {H : Hp} {fr : List (Addr × Obj)} {h h' : Heap} {m : Str → Option Value} {c led : List (Addr × Obj)} {vs : List V} {xs : List Value} {k : Nat} {n : Addr} (r : Rep' Γ W ρ H fr h m c led) (F' : Fr Γ.h₀ Γ.L h' m) (N' : News Γ.h₀ Γ.L h' ((n, tupB xs k) :: led)) (hn : ∀ q ∈ W.sc :: led, q.1 ≠ n) (hv : VRs W vs xs) (hl : vs.length ≤ LEN) :
    ∃ W', W.Le W' ∧ Rep Γ W' ρ H fr h' ∧ VR W' (.tup vs) (.ref n) := by
  have le : W.Le ⟨W.pi, (n, tupB xs k) :: W.tups, W.sc, W.ins⟩ := ⟨List.prefix_refl _, fun q hq => List.mem_cons_of_mem _ hq, rfl, fun _ h => h, fun _ h => .inl h⟩
  refine ⟨⟨W.pi, (n, tupB xs k) :: W.tups, W.sc, W.ins⟩, le, ⟨m, c, (n, tupB xs k) :: led, ⟨F', N', ?_, r.sc, r.sc0, fun q hq => List.mem_cons_of_mem _ (r.frIn q hq), r.frOff, fun q hq => List.mem_cons_of_mem _ (r.clIn q hq), r.clOff, r.apart, fun q hq t ht => ?_, fun q hq t ht => ?_, Γ.mono le r.own⟩⟩, .tup List.mem_cons_self hl (hv.mono le)⟩
  · refine ⟨r.R.len, r.R.nd, fun i us e ni => ?_, fun q hq => ?_, fun q hq => ?_, fun i us fs e hi => ?_, r.R.inlt, r.R.iuni⟩
    · obtain ⟨l, a, ys, j, h1, h2, h3⟩ := r.R.lists i us e ni
      exact ⟨l, a, ys, j, h1, memSc h2 fun x hx => List.mem_cons_of_mem _ hx, h3.mono le⟩
    · rcases List.mem_cons.mp hq with e | hq
      · exact e ▸ List.mem_cons_of_mem _ List.mem_cons_self
      · exact memSc (r.R.tups q hq) fun x hx => List.mem_cons_of_mem _ hx
    · rcases List.mem_cons.mp hq with e | hq
      · exact .inl ⟨xs, k, by rw [e]⟩
      · exact r.R.kind q hq
    · obtain ⟨l, a, od, ys, h1, h2, h3, h4⟩ := r.R.objs i us fs e hi
      exact ⟨l, a, od, ys, h1, memSc h2 fun x hx => List.mem_cons_of_mem _ hx, h3, h4.mono le⟩
  · rcases List.mem_cons.mp ht with e | ht
    · rw [e]
      exact hn q (List.mem_cons_of_mem _ (r.frIn q hq))
    · exact r.frTup q hq t ht
  · rcases List.mem_cons.mp ht with e | ht
    · rw [e]
      exact hn q (List.mem_cons_of_mem _ (r.clIn q hq))
    · exact r.clTup q hq t ht
theorem Rep.tuple {Γ : Cx} {W : Wd} {ρ : Lc} {H : Hp} {fr : List (Addr × Obj)} {h : Heap} {vs : List V} {xs : List Value} {k : Nat} (r : Rep Γ W ρ H fr h) (hv : VRs W vs xs) (hl : vs.length ≤ LEN) :
    ∃ W', W.Le W' ∧ Rep Γ W' ρ H fr (h.push (tupB xs k)) ∧ VR W' (.tup vs) (.ref h.objs.size) := by
  obtain ⟨m, c, led, r⟩ := r
  exact r.newTup (r.F.push _) (News.push r.F r.N _) r.off hv hl
theorem Rep'.newList {Γ : Cx} {W : Wd} {ρ : Lc} {H : Hp} {fr : List (Addr × Obj)} {h h' : Heap} {m : Str → Option Value} {c led : List (Addr × Obj)} {vs : List V} {xs : List Value} {k : Nat} {n : Addr} (r : Rep' Γ W ρ H fr h m c led) (F' : Fr Γ.h₀ Γ.L h' m) (N' : News Γ.h₀ Γ.L h' ((n, lstB xs k) :: led)) (hn : ∀ q ∈ W.sc :: led, q.1 ≠ n) (hv : VRs W vs xs) (hl : vs.length ≤ LEN) :
    ∃ W', W.Le W' ∧ Rep Γ W' ρ (H ++ [vs]) fr h' ∧ VR W' (.ref H.length) (.ref n) := by
  have le : W.Le ⟨W.pi ++ [n], W.tups, W.sc, W.ins⟩ := ⟨List.prefix_append _ _, fun q hq => hq, rfl, fun _ h => h, fun _ h => .inl h⟩
  have h0 : 0 < W.pi.length := (List.getElem?_eq_some_iff.mp r.sc0).1
  have at_n : (W.pi ++ [n])[H.length]? = some n := by rw [← r.R.len]; simp
  have nin : ∀ q ∈ W.ins, q.1 ≠ H.length := fun q hq e => by have := r.R.inlt q hq; omega
  refine ⟨⟨W.pi ++ [n], W.tups, W.sc, W.ins⟩, le, ⟨m, c, (n, lstB xs k) :: led, ⟨F', N', ?_, r.sc, (List.getElem?_append_left h0).trans r.sc0, fun q hq => List.mem_cons_of_mem _ (r.frIn q hq), fun q hq => ?_, fun q hq => List.mem_cons_of_mem _ (r.clIn q hq), fun q hq => ?_, r.apart, r.frTup, r.clTup, Γ.mono le r.own⟩⟩, .ref ⟨at_n, nin⟩⟩
  · refine ⟨by simp [r.R.len], ?_, fun i us e ni => ?_, fun q hq => memSc (r.R.tups q hq) fun x hx => List.mem_cons_of_mem _ hx, r.R.kind, fun i us fs e hi => ?_, fun q hq => by have := r.R.inlt q hq; simp; omega, r.R.iuni⟩
    · show (W.pi ++ [n]).Nodup
      rw [List.nodup_append]
      refine ⟨r.R.nd, by simp, fun a ha b hb => ?_⟩
      rw [List.mem_singleton.mp hb]
      obtain ⟨o, ho⟩ := r.piIn a ha
      exact hn _ ho
    · by_cases hi : i < H.length
      · rw [List.getElem?_append_left hi] at e
        obtain ⟨l, a, ys, j, h1, h2, h3⟩ := r.R.lists i us e ni
        exact ⟨l, a, ys, j, le.piAt h1, memSc h2 fun x hx => List.mem_cons_of_mem _ hx, h3.mono le⟩
      · have : i = H.length := by
          have := (List.getElem?_eq_some_iff.mp e).1
          simp at this
          omega
        subst this
        simp at e
        subst e
        exact ⟨hl, n, xs, k, at_n, List.mem_cons_of_mem _ List.mem_cons_self, hv.mono le⟩
    · have hi' : i < H.length := r.R.inlt _ hi
      rw [List.getElem?_append_left hi'] at e
      obtain ⟨l, a, od, ys, h1, h2, h3, h4⟩ := r.R.objs i us fs e hi
      exact ⟨l, a, od, ys, le.piAt h1, memSc h2 fun x hx => List.mem_cons_of_mem _ hx, h3, h4.mono le⟩
  · intro hm
    rcases List.mem_append.mp hm with hm | hm
    · exact r.frOff q hq hm
    · exact hn q (List.mem_cons_of_mem _ (r.frIn q hq)) (List.mem_singleton.mp hm)
  · intro hm
    rcases List.mem_append.mp hm with hm | hm
    · exact r.clOff q hq hm
    · exact hn q (List.mem_cons_of_mem _ (r.clIn q hq)) (List.mem_singleton.mp hm)
theorem Rep.list {Γ : Cx} {W : Wd} {ρ : Lc} {H : Hp} {fr : List (Addr × Obj)} {h : Heap} {vs : List V} {xs : List Value} {k : Nat} (r : Rep Γ W ρ H fr h) (hv : VRs W vs xs) (hl : vs.length ≤ LEN) :
    ∃ W', W.Le W' ∧ Rep Γ W' ρ (H ++ [vs]) fr (h.push (lstB xs k)) ∧ VR W' (.ref H.length) (.ref h.objs.size) := by
  obtain ⟨m, c, led, r⟩ := r
  exact r.newList (r.F.push _) (News.push r.F r.N _) r.off hv hl
theorem Rep.at {Γ : Cx} {W : Wd} {ρ : Lc} {H : Hp} {fr : List (Addr × Obj)} {h : Heap} {i : Nat} {a : Addr} {vs : List V} (r : Rep Γ W ρ H fr h) (e : H[i]? = some vs) (ea : W.At i a) : vs.length ≤ LEN ∧ ∃ xs k, h.get? a = some (lstB xs k) ∧ VRs W vs xs := by
  obtain ⟨m, c, led, r⟩ := r
  obtain ⟨l, b, xs, k, h1, h2, h3⟩ := r.R.lists i vs e ea.2
  rw [ea.1] at h1
  cases h1
  exact ⟨l, xs, k, r.get h2, h3⟩
theorem Rep.tupAt {Γ : Cx} {W : Wd} {ρ : Lc} {H : Hp} {fr : List (Addr × Obj)} {h : Heap} {q : Addr × Obj} (r : Rep Γ W ρ H fr h) (e : q ∈ W.tups) : h.get? q.1 = some q.2 := by
  obtain ⟨m, c, led, r⟩ := r
  exact r.get (r.R.tups _ e)
theorem Rep'.changed {Γ : Cx} {W : Wd} {ρ : Lc} {H : Hp} {fr : List (Addr × Obj)} {h h' : Heap} {m : Str → Option Value} {c led : List (Addr × Obj)} {i : Nat} {a : Addr} {vs us : List V} {ys : List Value} {k : Nat} (r : Rep' Γ W ρ H fr h m c led) (i0 : i ≠ 0) (e : H[i]? = some vs) (ea : W.At i a) (F' : Fr Γ.h₀ Γ.L h' m) (N' : News Γ.h₀ Γ.L h' ((a, lstB ys k) :: led.filter (fun q => decide (q.1 ≠ a)))) (hv : VRs W us ys) (hl : us.length ≤ LEN) :
    Rep Γ W ρ (H.set i us) fr h' := by
  obtain ⟨_, b, xs, j, h1, h2, h3⟩ := r.R.lists i vs e ea.2
  rw [ea.1] at h1
  cases h1
  have h2 := r.inLed i0 ea.1 h2
  have hN := r.N _ h2
  have hm : a ∈ W.pi := List.mem_of_getElem? ea.1
  have hi : i < H.length := (List.getElem?_eq_some_iff.mp e).1
  refine ⟨m, c, (a, lstB ys k) :: led.filter (fun q => decide (q.1 ≠ a)), ⟨F', N', ?_, r.sc, r.sc0, fun q hq => ?_, r.frOff, fun q hq => ?_, r.clOff, r.apart, r.frTup, r.clTup, r.own⟩⟩
  · refine ⟨by simp [r.R.len], r.R.nd, fun n ws en ni => ?_, fun q hq => ?_, r.R.kind, fun n ws fs en hi' => ?_, fun q hq => by have := r.R.inlt q hq; simpa using this, r.R.iuni⟩
    · by_cases hn : n = i
      · subst hn
        rw [List.getElem?_set_self hi] at en
        cases en
        exact ⟨hl, a, ys, k, ea.1, List.mem_cons_of_mem _ List.mem_cons_self, hv⟩
      · rw [List.getElem?_set_ne (Ne.symm hn)] at en
        obtain ⟨l, d, zs, j', g1, g2, g3⟩ := r.R.lists n ws en ni
        refine ⟨l, d, zs, j', g1, memF g2 fun g2 => List.mem_cons_of_mem _ (List.mem_filter.mpr ⟨g2, ?_⟩), g3⟩
        have : d ≠ a := fun e => by
          subst e
          exact hn ((List.getElem?_inj (List.getElem?_eq_some_iff.mp g1).1 r.R.nd).mp (g1.trans ea.1.symm))
        simpa using this
    · refine memF (r.R.tups q hq) fun g2 => List.mem_cons_of_mem _ (List.mem_filter.mpr ⟨g2, ?_⟩)
      have : q.1 ≠ a := fun e => by
        have hk := kind_off (r.R.kind q hq)
        have g := r.get (r.R.tups q hq)
        rw [e, hN.1] at g
        have c := congrArg Obj.cls (Option.some.inj g)
        exact hk.1 c.symm
      simpa using this
    · have hn : n ≠ i := fun q => ea.2 _ hi' q
      rw [List.getElem?_set_ne (Ne.symm hn)] at en
      obtain ⟨l, d, od, zs, g1, g2, g3, g4⟩ := r.R.objs n ws fs en hi'
      refine ⟨l, d, od, zs, g1, memF g2 fun g2 => List.mem_cons_of_mem _ (List.mem_filter.mpr ⟨g2, ?_⟩), g3, g4⟩
      have : d ≠ a := fun e => by
        subst e
        exact hn ((List.getElem?_inj (List.getElem?_eq_some_iff.mp g1).1 r.R.nd).mp (g1.trans ea.1.symm))
      simpa using this
  · refine List.mem_cons_of_mem _ (List.mem_filter.mpr ⟨r.frIn q hq, ?_⟩)
    have : q.1 ≠ a := fun e => r.frOff q hq (e ▸ hm)
    simpa using this
  · refine List.mem_cons_of_mem _ (List.mem_filter.mpr ⟨r.clIn q hq, ?_⟩)
    have : q.1 ≠ a := fun e => r.clOff q hq (e ▸ hm)
    simpa using this
theorem Rep.change {Γ : Cx} {W : Wd} {ρ : Lc} {H : Hp} {fr : List (Addr × Obj)} {h h' : Heap} {i : Nat} {a : Addr} {vs us : List V} {ys : List Value} {k : Nat} (r : Rep Γ W ρ H fr h) (i0 : i ≠ 0) (e : H[i]? = some vs) (ea : W.At i a) (sb : Heap.SameBut a h h') (ha : h'.get? a = some (lstB ys k)) (hv : VRs W us ys) (hl : us.length ≤ LEN) :
    Rep Γ W ρ (H.set i us) fr h' := by
  obtain ⟨m, c, led, r⟩ := r
  obtain ⟨_, b, xs, j, h1, h2, h3⟩ := r.R.lists i vs e ea.2
  rw [ea.1] at h1
  cases h1
  have h2 := r.inLed i0 ea.1 h2
  have hN := r.N _ h2
  have keep : ∀ q ∈ led, q.1 ≠ a → h'.get? q.1 = some q.2 := fun q hq hn => sb.extBut _ _ hn (r.N q hq).1
  refine r.changed (k := k) i0 e ea ⟨r.F.ns.sameBut sb (Ne.symm hN.2.1), fun b o eb => sb.extBut b o (fun q => ?_) (r.F.keep b o eb), r.F.above⟩ (fun q hq => ?_) hv hl
  · subst q
    rw [hN.2.2] at eb
    cases eb
  · rcases List.mem_cons.mp hq with e | hq
    · subst e
      exact ⟨ha, hN.2⟩
    · obtain ⟨h1, h2⟩ := List.mem_filter.mp hq
      exact ⟨keep q h1 (by simpa using h2), (r.N q h1).2⟩
theorem Rep.swap {Γ : Cx} {W : Wd} {ρ : Lc} {H : Hp} {fs fs' fr : List (Addr × Obj)} {h h' : Heap} (r : Rep Γ W ρ H (fs ++ fr) h) (ap : ∀ q ∈ fs, ∀ t ∈ fr, q.1 ≠ t.1) (keep : ∀ b o, b ∉ fs.map (·.1) → h.get? b = some o → h'.get? b = some o) (new : ∀ q ∈ fs', h'.get? q.1 = some q.2 ∧ q.1 ∈ fs.map (·.1)) : Rep Γ W ρ H (fs' ++ fr) h' := by
  obtain ⟨m, c, led, r⟩ := r
  have inF : ∀ q ∈ fs, q ∈ fs ++ fr := fun q hq => List.mem_append_left _ hq
  have nL : ∀ a ∈ fs.map (·.1), a ≠ Γ.L ∧ Γ.h₀.get? a = none := fun a ha => by
    obtain ⟨q, hq, e⟩ := List.mem_map.mp ha
    exact e ▸ (r.N q (r.frIn q (inF q hq))).2
  have kp : ∀ q ∈ led, q.1 ∉ fs.map (·.1) → h'.get? q.1 = some q.2 := fun q hq hn => keep _ _ hn (r.N q hq).1
  refine ⟨m, c, fs' ++ led.filter (fun q => decide (q.1 ∉ fs.map (·.1))), ⟨⟨?_, fun b o e => ?_, r.F.above⟩, fun q hq => ?_, ⟨r.R.len, r.R.nd, fun i vs e ni => ?_, fun q hq => ?_, r.R.kind, fun i vs fn e hi => ?_, r.R.inlt, r.R.iuni⟩, r.sc, r.sc0, fun q hq => ?_, fun q hq => ?_, fun q hq => ?_, r.clOff, fun q hq t ht => ?_, fun q hq t ht => ?_, r.clTup, r.own⟩⟩
  · obtain ⟨o, es, ep, h1, h2⟩ := r.F.ns
    exact ⟨o, es, ep, keep _ _ (fun q => (nL _ q).1 rfl) h1, h2⟩
  · refine keep b o (fun q => ?_) (r.F.keep b o e)
    rw [(nL b q).2] at e
    cases e
  · rcases List.mem_append.mp hq with hq | hq
    · obtain ⟨h1, h2⟩ := new q hq
      exact ⟨h1, nL _ h2⟩
    · obtain ⟨h1, h2⟩ := List.mem_filter.mp hq
      exact ⟨kp q h1 (by simpa using h2), (r.N q h1).2⟩
  · obtain ⟨l, a, xs, k, h1, h2, h3⟩ := r.R.lists i vs e ni
    refine ⟨l, a, xs, k, h1, memF h2 fun h2 => List.mem_append_right _ (List.mem_filter.mpr ⟨h2, ?_⟩), h3⟩
    have : a ∉ fs.map (·.1) := fun q => by
      obtain ⟨t, ht, e⟩ := List.mem_map.mp q
      exact r.frOff t (inF t ht) (e ▸ List.mem_of_getElem? h1)
    simpa using this
  · refine memF (r.R.tups q hq) fun h2 => List.mem_append_right _ (List.mem_filter.mpr ⟨h2, ?_⟩)
    have : q.1 ∉ fs.map (·.1) := fun z => by
      obtain ⟨t, ht, e⟩ := List.mem_map.mp z
      exact r.frTup t (inF t ht) q hq e
    simpa using this
  · obtain ⟨l, a, od, xs, h1, h2, h3⟩ := r.R.objs i vs fn e hi
    refine ⟨l, a, od, xs, h1, memF h2 fun h2 => List.mem_append_right _ (List.mem_filter.mpr ⟨h2, ?_⟩), h3⟩
    have : a ∉ fs.map (·.1) := fun q => by
      obtain ⟨t, ht, e⟩ := List.mem_map.mp q
      exact r.frOff t (inF t ht) (e ▸ List.mem_of_getElem? h1)
    simpa using this
  · rcases List.mem_append.mp hq with hq | hq
    · exact List.mem_append_left _ hq
    · refine List.mem_append_right _ (List.mem_filter.mpr ⟨r.frIn q (List.mem_append_right _ hq), ?_⟩)
      have : q.1 ∉ fs.map (·.1) := fun z => by
        obtain ⟨t, ht, e⟩ := List.mem_map.mp z
        exact ap t ht q hq e
      simpa using this
  · rcases List.mem_append.mp hq with hq | hq
    · obtain ⟨t, ht, e⟩ := List.mem_map.mp (new q hq).2
      exact e ▸ r.frOff t (inF t ht)
    · exact r.frOff q (List.mem_append_right _ hq)
  · refine List.mem_append_right _ (List.mem_filter.mpr ⟨r.clIn q hq, ?_⟩)
    have : q.1 ∉ fs.map (·.1) := fun z => by
      obtain ⟨t, ht, e⟩ := List.mem_map.mp z
      exact r.apart q hq t (inF t ht) e.symm
    simpa using this
  · rcases List.mem_append.mp ht with ht | ht
    · obtain ⟨u, hu, e⟩ := List.mem_map.mp (new t ht).2
      exact e ▸ r.apart q hq u (inF u hu)
    · exact r.apart q hq t (List.mem_append_right _ ht)
  · rcases List.mem_append.mp hq with hq | hq
    · obtain ⟨u, hu, e⟩ := List.mem_map.mp (new q hq).2
      exact e ▸ r.frTup u (inF u hu) t ht
    · exact r.frTup q (List.mem_append_right _ hq) t ht
theorem Rep.more {Γ : Cx} {W : Wd} {ρ : Lc} {H : Hp} {fs fr : List (Addr × Obj)} {h h' : Heap} (r : Rep Γ W ρ H fr h) (up : ∀ b o, h.get? b = some o → h'.get? b = some o) (new : ∀ q ∈ fs, h'.get? q.1 = some q.2 ∧ h.objs.size ≤ q.1) : Rep Γ W ρ H (fs ++ fr) h' ∧ ∀ q ∈ fs, ∀ t ∈ fr, q.1 ≠ t.1 := by
  have r' := r.grown up
  obtain ⟨m, c, led, r⟩ := r
  have lt : ∀ q ∈ W.sc :: led, q.1 < h.objs.size := fun q hq => Heap.lt_size (r.get hq)
  have ne : ∀ q ∈ fs, ∀ t ∈ W.sc :: led, q.1 ≠ t.1 := fun q hq t ht => Nat.ne_of_gt (Nat.lt_of_lt_of_le (lt t ht) (new q hq).2)
  refine ⟨⟨m, c, fs ++ led, ⟨⟨?_, fun b o e => up b o (r.F.keep b o e), r.F.above⟩, fun q hq => ?_, r.R.mono fun q hq => memSc hq fun x hx => List.mem_append_right _ hx, r.sc, r.sc0, fun q hq => ?_, fun q hq => ?_, fun q hq => List.mem_append_right _ (r.clIn q hq), r.clOff, fun q hq t ht => ?_, fun q hq t ht => ?_, r.clTup, r.own⟩⟩, fun q hq t ht => ne q hq t (List.mem_cons_of_mem _ (r.frIn t ht))⟩
  · obtain ⟨o, es, ep, h1, h2⟩ := r.F.ns
    exact ⟨o, es, ep, up _ _ h1, h2⟩
  · rcases List.mem_append.mp hq with hq | hq
    · obtain ⟨h1, h2⟩ := new q hq
      refine ⟨h1, fun e => ?_, ?_⟩
      · exact absurd (e ▸ r.F.ns.lt) (Nat.not_lt.mpr h2)
      · cases e : Γ.h₀.get? q.1 with
        | none => rfl
        | some o => exact absurd (Heap.lt_size (r.F.keep _ _ e)) (Nat.not_lt.mpr h2)
    · exact ⟨up _ _ (r.N q hq).1, (r.N q hq).2⟩
  · rcases List.mem_append.mp hq with hq | hq
    · exact List.mem_append_left _ hq
    · exact List.mem_append_right _ (r.frIn q hq)
  · rcases List.mem_append.mp hq with hq | hq
    · intro hm
      obtain ⟨o, ho⟩ := r.piIn _ hm
      exact ne q hq _ ho rfl
    · exact r.frOff q hq
  · rcases List.mem_append.mp ht with ht | ht
    · exact (ne t ht q (List.mem_cons_of_mem _ (r.clIn q hq))).symm
    · exact r.apart q hq t ht
  · rcases List.mem_append.mp hq with hq | hq
    · exact ne q hq t (r.R.tups t ht)
    · exact r.frTup q hq t ht
theorem Rep.less {Γ : Cx} {W : Wd} {ρ : Lc} {H : Hp} {fs fr : List (Addr × Obj)} {h : Heap} (r : Rep Γ W ρ H fs h) (sub : ∀ q ∈ fr, q ∈ fs) : Rep Γ W ρ H fr h := by
  obtain ⟨m, c, led, r⟩ := r
  exact ⟨m, c, led, ⟨r.F, r.N, r.R, r.sc, r.sc0, fun q hq => r.frIn q (sub q hq), fun q hq => r.frOff q (sub q hq), r.clIn, r.clOff, fun q hq t ht => r.apart q hq t (sub t ht), fun q hq => r.frTup q (sub q hq), r.clTup, r.own⟩⟩
theorem Rep.frAt {Γ : Cx} {W : Wd} {ρ : Lc} {H : Hp} {fr : List (Addr × Obj)} {h : Heap} {q : Addr × Obj} (r : Rep Γ W ρ H fr h) (hq : q ∈ fr) : h.get? q.1 = some q.2 := by
  obtain ⟨m, c, led, r⟩ := r
  exact (r.N q (r.frIn q hq)).1
end PM
end
section
set_option maxRecDepth 100000
set_option linter.all false
set_option autoImplicit false
namespace PM
open PySem PyProof.Rows PyProof
noncomputable abbrev Ex := Lc → Hp → Option (V × Hp)
noncomputable abbrev Exs := Lc → Hp → Option (List V × Hp)
noncomputable abbrev Ts := Lc → Hp → Option (Bool × Hp)
noncomputable abbrev Post (Γ : Cx) (W : Wd) (ρ : Lc) (H : Hp) (fr : List (Addr × Obj)) (s : Shared) (Q : Value → Shared → Prop) (v : V) : Prop :=
  ∀ (W' : Wd) (h' : Heap) (tk' : Nat) (x : Value), W.Le W' → Rep Γ W' ρ H fr h' → VR W' v x → Q x { s with heap := h', toks := tk' }
noncomputable abbrev PostB (Γ : Cx) (W : Wd) (ρ : Lc) (H : Hp) (fr : List (Addr × Obj)) (s : Shared) (Q : Bool → Shared → Prop) (b : Bool) : Prop :=
  ∀ (W' : Wd) (h' : Heap) (tk' : Nat), W.Le W' → Rep Γ W' ρ H fr h' → Q b { s with heap := h', toks := tk' }
section
variable (prog : Program) (w : World)
noncomputable def J (Γ : Cx) (e : Expr) (f : Ex) : Prop := ∀ (W : Wd) (ρ : Lc) (H : Hp) (fr : List (Addr × Obj)) (s : Shared) (Q E : Value → Shared → Prop) (v : V) (H' : Hp),
  Rep Γ W ρ H fr s.heap → f ρ H = some (v, H') → Post Γ W ρ H' fr s Q v → wpAny (model prog w) Γ.A (eval e Γ.env) Q E s
noncomputable def Js (Γ : Cx) (es : List Expr) (f : Exs) : Prop := ∀ (pos : Pos) (W : Wd) (ρ : Lc) (H : Hp) (fr : List (Addr × Obj)) (s : Shared) (Q : List Value → Shared → Prop) (E : Value → Shared → Prop) (vs : List V) (H' : Hp),
  Rep Γ W ρ H fr s.heap → f ρ H = some (vs, H') → (∀ (W' : Wd) (h' : Heap) (tk' : Nat) (xs : List Value), W.Le W' → Rep Γ W' ρ H' fr h' → VRs W' vs xs → Q xs { s with heap := h', toks := tk' }) → wpAny (model prog w) Γ.A (spliced (backTo pos (starEach es Γ.env))) Q E s
noncomputable def JT (Γ : Cx) (e : Expr) (f : Ts) : Prop := ∀ (W : Wd) (ρ : Lc) (H : Hp) (fr : List (Addr × Obj)) (s : Shared) (Q : Bool → Shared → Prop) (E : Value → Shared → Prop) (b : Bool) (H' : Hp),
  Rep Γ W ρ H fr s.heap → f ρ H = some (b, H') → PostB Γ W ρ H' fr s Q b → wpAny (model prog w) Γ.A (isTrue e Γ.env (eval e Γ.env)) Q E s
noncomputable def Op2 (m : Value → Value → Sem Value) (o : V → V → Hp → Option (V × Hp)) : Prop := ∀ (Γ : Cx) (W : Wd) (ρ : Lc) (H : Hp) (fr : List (Addr × Obj)) (s : Shared) (Q E : Value → Shared → Prop) (a b : V) (x y : Value) (v : V) (H' : Hp),
  Rep Γ W ρ H fr s.heap → VR W a x → VR W b y → o a b H = some (v, H') → Post Γ W ρ H' fr s Q v → wpAny (model prog w) Γ.A (m x y) Q E s
noncomputable def OpT (m : Value → Sem Bool) (o : V → Hp → Option Bool) : Prop := ∀ (Γ : Cx) (W : Wd) (ρ : Lc) (H : Hp) (fr : List (Addr × Obj)) (s : Shared) (Q : Bool → Shared → Prop) (E : Value → Shared → Prop) (a : V) (x : Value) (b : Bool),
  Rep Γ W ρ H fr s.heap → VR W a x → o a H = some b → PostB Γ W ρ H fr s Q b → wpAny (model prog w) Γ.A (m x) Q E s
end
noncomputable def eInt (k : Int) : Ex := fun _ H => some (.int k, H)
noncomputable def eNone : Ex := fun _ H => some (.none, H)
noncomputable def eBool (b : Bool) : Ex := fun _ H => some (.bool b, H)
noncomputable def eStr (x : Str) : Ex := fun _ H => some (.str x, H)
noncomputable def eVar (i : Nat) : Ex := fun ρ H => (ρ i).map fun v => (v, H)
noncomputable def eBin (o : V → V → Hp → Option (V × Hp)) (f g : Ex) : Ex := fun ρ H => (f ρ H).bind fun p => (g ρ p.2).bind fun q => o p.1 q.1 q.2
noncomputable def eNil : Exs := fun _ H => some ([], H)
noncomputable def eCons (f : Ex) (g : Exs) : Exs := fun ρ H => (f ρ H).bind fun p => (g ρ p.2).bind fun q => some (p.1 :: q.1, q.2)
noncomputable def eTup (g : Exs) : Ex := fun ρ H => (g ρ H).bind fun p => if p.1.length ≤ LEN then some (.tup p.1, p.2) else none
noncomputable def eList (g : Exs) : Ex := fun ρ H => (g ρ H).bind fun p => if p.1.length ≤ LEN then some (.ref p.2.length, p.2 ++ [p.1]) else none
noncomputable def oTruth : V → Hp → Option Bool
  | .bool b, _ => some b
  | .int i, _ => some (i != 0)
  | .none, _ => some false
  | _, _ => none
noncomputable def tVal (f : Ex) : Ts := fun ρ H => (f ρ H).bind fun p => (oTruth p.1 p.2).map fun b => (b, p.2)
noncomputable def tNot (t : Ts) : Ts := fun ρ H => (t ρ H).map fun p => (!p.1, p.2)
noncomputable def tTrue : Ts := fun _ H => some (true, H)
noncomputable def tFalse : Ts := fun _ H => some (false, H)
noncomputable def tAnd (t u : Ts) : Ts := fun ρ H => (t ρ H).bind fun p => if p.1 then u ρ p.2 else some (false, p.2)
noncomputable def tOr (t u : Ts) : Ts := fun ρ H => (t ρ H).bind fun p => if p.1 then some (true, p.2) else u ρ p.2
noncomputable def eNot (f : Ex) : Ex := fun ρ H => (f ρ H).bind fun p => (oTruth p.1 p.2).map fun b => (.bool (!b), p.2)
noncomputable def eAnd (f g : Ex) : Ex := fun ρ H => (f ρ H).bind fun p => (oTruth p.1 p.2).bind fun b => if b then g ρ p.2 else some p
section
variable {prog : Program} {w : World} {Γ : Cx}
theorem J.int (k : Int) (n : Nat) (pos : Pos) : J prog w Γ (.Constant (.int k) n pos) (eInt k) := fun W ρ H fr s Q E v H' r e post => by
  cases e
  exact wpAny_Constant_int (post W s.heap _ _ (.refl W) r (.int k _))
theorem J.none (n : Nat) (pos : Pos) : J prog w Γ (.Constant .none n pos) eNone := fun W ρ H fr s Q E v H' r e post => by
  cases e
  exact wpAny_Constant_none (post W s.heap s.toks _ (.refl W) r .none)
theorem J.bool (b : Bool) (n : Nat) (pos : Pos) : J prog w Γ (.Constant (.bool b) n pos) (eBool b) := fun W ρ H fr s Q E v H' r e post => by
  cases e
  exact wpAny_Constant_bool (post W s.heap s.toks _ (.refl W) r (.bool b))
theorem J.str (x : Str) (n : Nat) (pos : Pos) : J prog w Γ (.Constant (.str x) n pos) (eStr x) := fun W ρ H fr s Q E v H' r e post => by
  cases e
  exact wpAny_Constant_str (post W s.heap _ _ (.refl W) r (.str x _))
theorem J.bin {e1 e2 : Expr} {op : Operator} {pos : Pos} {f g : Ex} {o : V → V → Hp → Option (V × Hp)} (h1 : J prog w Γ e1 f) (h2 : J prog w Γ e2 g) (ho : Op2 prog w (binaryOp op) o) : J prog w Γ (.BinOp e1 op e2 pos) (eBin o f g) := by
  intro W ρ H fr s Q E v H' r hf post
  obtain ⟨p, e1, hf⟩ := Option.bind_eq_some_iff.mp hf
  obtain ⟨q, e2, e3⟩ := Option.bind_eq_some_iff.mp hf
  refine wpAny_BinOp (h1 W ρ H fr s _ E _ _ r e1 fun W1 k1 t1 x l1 r1 x1 => ?_)
  refine h2 W1 ρ _ fr _ _ E _ _ r1 e2 fun W2 k2 t2 y l2 r2 y2 => ?_
  exact ho Γ W2 ρ _ fr _ Q E _ _ x y v H' r2 (x1.mono l2) y2 e3 fun W3 k3 t3 z l3 r3 z3 => post W3 k3 t3 z ((l1.trans l2).trans l3) r3 z3
theorem J.cmp {e1 e2 : Expr} {op : CmpOp} {pos : Pos} {f g : Ex} {o : V → V → Hp → Option (V × Hp)} (h1 : J prog w Γ e1 f) (h2 : J prog w Γ e2 g) (ho : Op2 prog w (compareOp op) o) (hm : behindInMarks op e2 = false := by with_unfolding_all rfl) : J prog w Γ (.Compare e1 [op] [e2] pos) (eBin o f g) := by
  intro W ρ H fr s Q E v H' r hf post
  obtain ⟨p, e1, hf⟩ := Option.bind_eq_some_iff.mp hf
  obtain ⟨q, e2, e3⟩ := Option.bind_eq_some_iff.mp hf
  refine wpAny_Compare1 (h1 W ρ H fr s _ E _ _ r e1 fun W1 k1 t1 x l1 r1 x1 => ?_) hm
  refine h2 W1 ρ _ fr _ _ E _ _ r1 e2 fun W2 k2 t2 y l2 r2 y2 => ?_
  exact ho Γ W2 ρ _ fr _ Q E _ _ x y v H' r2 (x1.mono l2) y2 e3 fun W3 k3 t3 z l3 r3 z3 => post W3 k3 t3 z ((l1.trans l2).trans l3) r3 z3
theorem truth : OpT prog w truthy oTruth := by
  intro Γ W ρ H fr s Q E a x b r hx ho post
  cases hx with
  | none => cases ho; exact truthy_none (post W s.heap s.toks (.refl W) r)
  | bool c => cases ho; exact fun _ _ _ => post W s.heap s.toks (.refl W) r
  | int i t => cases ho; exact P.truthy_int (post W s.heap s.toks (.refl W) r)
  | str _ _ => cases ho
  | tup _ _ _ => cases ho
  | ref _ => cases ho
  | obj _ _ _ _ => cases ho
theorem J.not {e1 : Expr} {pos : Pos} {f : Ex} (h1 : J prog w Γ e1 f) : J prog w Γ (.UnaryOp .Not e1 pos) (eNot f) := by
  intro W ρ H fr s Q E v H' r hf post
  obtain ⟨p, e1, hf⟩ := Option.bind_eq_some_iff.mp hf
  obtain ⟨b, e2, e3⟩ := Option.map_eq_some_iff.mp hf
  cases e3
  refine wpAny_UnaryOp (h1 W ρ H fr s _ E _ _ r e1 fun W1 k1 t1 x l1 r1 x1 => ?_)
  exact not_of (truth Γ W1 ρ _ fr _ _ E _ x b r1 x1 e2 fun W2 k2 t2 l2 r2 => post W2 k2 t2 _ (l1.trans l2) r2 (.bool _))
theorem J.and {e1 e2 : Expr} {pos : Pos} {f g : Ex} (h1 : J prog w Γ e1 f) (h2 : J prog w Γ e2 g) : J prog w Γ (.BoolOp .And [e1, e2] pos) (eAnd f g) := by
  intro W ρ H fr s Q E v H' r hf post
  obtain ⟨p, e1, hf⟩ := Option.bind_eq_some_iff.mp hf
  obtain ⟨b, e2, e3⟩ := Option.bind_eq_some_iff.mp hf
  refine wpAny_And2 (h1 W ρ H fr s _ E _ _ r e1 fun W1 k1 t1 x l1 r1 x1 => ?_)
  refine truth Γ W1 ρ _ fr _ _ E _ x b r1 x1 e2 fun W2 k2 t2 l2 r2 => ?_
  cases b with
  | true => exact h2 W2 ρ _ fr _ Q E v H' r2 e3 fun W3 k3 t3 z l3 r3 z3 => post W3 k3 t3 z ((l1.trans l2).trans l3) r3 z3
  | false =>
    cases e3
    exact post W2 k2 t2 x (l1.trans l2) r2 (x1.mono l2)
theorem Js.nil : Js prog w Γ [] eNil := fun pos W ρ H fr s Q E vs H' r hf post => by
  cases hf
  exact wpAny_items_nil (post W s.heap s.toks [] (.refl W) r .nil)
theorem Js.cons {e : Expr} {es : List Expr} {f : Ex} {g : Exs} (h1 : J prog w Γ e f) (h2 : Js prog w Γ es g) (he : starEach (e :: es) Γ.env = (false, eval e Γ.env) :: starEach es Γ.env := by rfl) : Js prog w Γ (e :: es) (eCons f g) := by
  intro pos W ρ H fr s Q E vs H' r hf post
  obtain ⟨p, e1, hf⟩ := Option.bind_eq_some_iff.mp hf
  obtain ⟨q, e2, e3⟩ := Option.bind_eq_some_iff.mp hf
  cases e3
  refine wpAny_items_cons (h1 W ρ H fr s _ E _ _ r e1 fun W1 k1 t1 x l1 r1 x1 => ?_) he
  exact h2 pos W1 ρ _ fr _ _ E _ _ r1 e2 fun W2 k2 t2 ys l2 r2 y2 => post W2 k2 t2 _ (l1.trans l2) r2 (.cons (x1.mono l2) y2)
theorem J.tup {es : List Expr} {k : Nat} {pos : Pos} {g : Exs} (h : Js prog w Γ es g) : J prog w Γ (.Tuple es k pos) (eTup g) := by
  intro W ρ H fr s Q E v H' r hf post
  obtain ⟨p, e1, hf⟩ := Option.bind_eq_some_iff.mp hf
  by_cases hl : p.1.length ≤ LEN
  · rw [if_pos hl] at hf
    cases hf
    refine wpAny_Tuple (h pos W ρ H fr s _ E _ _ r e1 fun W1 k1 t1 xs l1 r1 x1 => ⟨LEN_size (by rw [x1.length]; exact hl), ?_⟩)
    obtain ⟨W2, l2, r2, v2⟩ := r1.tuple (k := 0) x1 hl
    exact post W2 _ _ _ (l1.trans l2) r2 v2
  · rw [if_neg hl] at hf
    cases hf
theorem J.list {es : List Expr} {pos : Pos} {g : Exs} (h : Js prog w Γ es g) : J prog w Γ (.List es pos) (eList g) := by
  intro W ρ H fr s Q E v H' r hf post
  obtain ⟨p, e1, hf⟩ := Option.bind_eq_some_iff.mp hf
  by_cases hl : p.1.length ≤ LEN
  · rw [if_pos hl] at hf
    cases hf
    refine wpAny_List (h pos W ρ H fr s _ E _ _ r e1 fun W1 k1 t1 xs l1 r1 x1 => ⟨LEN_size (by rw [x1.length]; exact hl), ?_⟩)
    obtain ⟨W2, l2, r2, v2⟩ := r1.list (k := 0) x1 hl
    exact post W2 _ _ _ (l1.trans l2) r2 v2
  · rw [if_neg hl] at hf
    cases hf
theorem JT.not {e : Expr} {pos : Pos} {t : Ts} (h : JT prog w Γ e t) : JT prog w Γ (.UnaryOp .Not e pos) (tNot t) := by
  intro W ρ H fr s Q E b H' r hf post
  obtain ⟨p, e1, e2⟩ := Option.map_eq_some_iff.mp hf
  cases e2
  exact isTrue_not (h W ρ H fr s _ E _ _ r e1 post)
noncomputable def JA (prog : Program) (w : World) (Γ : Cx) (op : BoolOp) (es : List Expr) (f : Ts) : Prop := ∀ (W : Wd) (ρ : Lc) (H : Hp) (fr : List (Addr × Obj)) (s : Shared) (Q : Bool → Shared → Prop) (E : Value → Shared → Prop) (b : Bool) (H' : Hp),
  Rep Γ W ρ H fr s.heap → f ρ H = some (b, H') → PostB Γ W ρ H' fr s Q b → wpAny (model prog w) Γ.A (allTrue op es Γ.env) Q E s
theorem JA.andNil : JA prog w Γ .And [] tTrue := fun W ρ H fr s Q E b H' r hf post => by
  cases hf
  exact wpAny_allTrue_And_nil (post W s.heap s.toks (.refl W) r)
theorem JA.orNil : JA prog w Γ .Or [] tFalse := fun W ρ H fr s Q E b H' r hf post => by
  cases hf
  exact wpAny_allTrue_Or_nil (post W s.heap s.toks (.refl W) r)
theorem JA.andCons {e : Expr} {es : List Expr} {t u : Ts} (h1 : JT prog w Γ e t) (h2 : JA prog w Γ .And es u) : JA prog w Γ .And (e :: es) (tAnd t u) := by
  intro W ρ H fr s Q E b H' r hf post
  obtain ⟨p, e1, hf⟩ := Option.bind_eq_some_iff.mp hf
  refine wpAny_allTrue_And_cons (h1 W ρ H fr s _ E _ _ r e1 fun W1 k1 t1 l1 r1 => ?_)
  obtain ⟨c, H1⟩ := p
  cases c with
  | true => exact h2 W1 ρ _ fr _ Q E b H' r1 hf fun W3 k3 t3 l3 r3 => post W3 k3 t3 (l1.trans l3) r3
  | false =>
    cases hf
    exact post W1 k1 t1 l1 r1
theorem JA.orCons {e : Expr} {es : List Expr} {t u : Ts} (h1 : JT prog w Γ e t) (h2 : JA prog w Γ .Or es u) : JA prog w Γ .Or (e :: es) (tOr t u) := by
  intro W ρ H fr s Q E b H' r hf post
  obtain ⟨p, e1, hf⟩ := Option.bind_eq_some_iff.mp hf
  refine wpAny_allTrue_Or_cons (h1 W ρ H fr s _ E _ _ r e1 fun W1 k1 t1 l1 r1 => ?_)
  obtain ⟨c, H1⟩ := p
  cases c with
  | false => exact h2 W1 ρ _ fr _ Q E b H' r1 hf fun W3 k3 t3 l3 r3 => post W3 k3 t3 (l1.trans l3) r3
  | true =>
    cases hf
    exact post W1 k1 t1 l1 r1
theorem JT.bools {op : BoolOp} {es : List Expr} {pos : Pos} {t : Ts} (h : JA prog w Γ op es t) : JT prog w Γ (.BoolOp op es pos) t := fun W ρ H fr s Q E b H' r hf post => wpAny_isTrue_BoolOp (h W ρ H fr s Q E b H' r hf post)
theorem JT.val {e : Expr} {f : Ex} (h : J prog w Γ e f) (he : isTrue e Γ.env (eval e Γ.env) = (do let v ← eval e Γ.env; standAt e.pos; holding [v] (truthy v)) := by rfl) : JT prog w Γ e (tVal f) := by
  intro W ρ H fr s Q E b H' r hf post
  obtain ⟨p, e1, hf⟩ := Option.bind_eq_some_iff.mp hf
  obtain ⟨c, e2, e3⟩ := Option.map_eq_some_iff.mp hf
  cases e3
  refine isTrue_plain (h W ρ H fr s _ E _ _ r e1 fun W1 k1 t1 x l1 r1 x1 => ?_) he
  exact truth Γ W1 ρ _ fr _ _ E _ x b r1 x1 e2 fun W2 k2 t2 l2 r2 => post W2 k2 t2 (l1.trans l2) r2
theorem JT.cmp {e1 e2 : Expr} {op : CmpOp} {pos : Pos} {f g : Ex} {o : V → V → Hp → Option (V × Hp)} (h1 : J prog w Γ e1 f) (h2 : J prog w Γ e2 g) (ho : Op2 prog w (compareOp op) o) (hm : behindInMarks op e2 = false := by with_unfolding_all rfl) : JT prog w Γ (.Compare e1 [op] [e2] pos) (tVal (eBin o f g)) := by
  intro W ρ H fr s Q E b H' r hf post
  obtain ⟨pp, e0, hf0⟩ := Option.bind_eq_some_iff.mp hf
  obtain ⟨c, e4, e5⟩ := Option.map_eq_some_iff.mp hf0
  cases e5
  obtain ⟨p, e1, hf⟩ := Option.bind_eq_some_iff.mp e0
  obtain ⟨q, e2, e3⟩ := Option.bind_eq_some_iff.mp hf
  refine wpAny_isTrue_Compare1 (h1 W ρ H fr s _ E _ _ r e1 fun W1 k1 t1 x l1 r1 x1 => ?_) hm
  refine h2 W1 ρ _ fr _ _ E _ _ r1 e2 fun W2 k2 t2 y l2 r2 y2 => ?_
  refine ho Γ W2 ρ _ fr _ _ E _ _ x y _ _ r2 (x1.mono l2) y2 e3 fun W3 k3 t3 z l3 r3 z3 => ?_
  exact truth Γ W3 ρ _ fr _ _ E _ z b r3 z3 e4 fun W4 k4 t4 l4 r4 => post W4 k4 t4 (((l1.trans l2).trans l3).trans l4) r4
end
end PM
end
section
set_option maxRecDepth 100000
set_option linter.all false
set_option autoImplicit false
namespace PM
open PySem PyProof.Rows PyProof
noncomputable def mulOk (a b : Int) : Bool := !(decide (Builtin.Int.intBits a > shortFactorBits) && decide (Builtin.Int.intBits b > shortFactorBits) && Builtin.Int.intTooBig (Builtin.Int.intBits a + Builtin.Int.intBits b))
theorem mulOk_ok {a b : Int} (h : mulOk a b = true) : IntMulOk a b := by
  unfold mulOk at h
  unfold IntMulOk
  intro c
  rw [c] at h
  cases h
noncomputable def oSub : V → V → Hp → Option (V × Hp)
  | .int a, .int b, H => some (.int (a - b), H)
  | _, _, _ => none
noncomputable def oDiv : V → V → Hp → Option (V × Hp)
  | .int a, .int b, H => if b ≠ 0 ∧ Builtin.divisionGoesByPylong a b = false then some (.int (a.fdiv b), H) else none
  | _, _, _ => none
noncomputable def oMod : V → V → Hp → Option (V × Hp)
  | .int a, .int b, H => if b ≠ 0 then some (.int (a.fmod b), H) else none
  | _, _, _ => none
noncomputable def oPow : V → V → Hp → Option (V × Hp)
  | .int a, .int b, H => if 0 ≤ b ∧ (Builtin.Int.intBits a : Int) * b ≤ 2 ^ 27 then some (.int (a ^ b.toNat), H) else none
  | _, _, _ => none
noncomputable def oCmp (p : Int → Int → Bool) : V → V → Hp → Option (V × Hp)
  | .int a, .int b, H => some (.bool (p a b), H)
  | _, _, _ => none
noncomputable def oLt := oCmp fun a b => decide (a < b)
noncomputable def oGt := oCmp fun a b => decide (b < a)
section
variable {prog : Program} {w : World}
theorem ok_sub : Op2 prog w (binaryOp .Sub) oSub := by
  intro Γ W ρ H fr s Q E a b x y v H' r hx hy ho post
  cases hx <;> first | (cases ho; done) | skip
  cases hy <;> first | (cases ho; done) | skip
  cases ho
  exact PySem.P.sub_int (post W s.heap _ _ (.refl W) r (.int _ _))
theorem ok_mod : Op2 prog w (binaryOp .Mod) oMod := by
  intro Γ W ρ H fr s Q E a b x y v H' r hx hy ho post
  cases hx <;> first | (cases ho; done) | skip
  cases hy <;> first | (cases ho; done) | skip
  rename_i i t j u
  simp only [oMod] at ho
  by_cases hb : j ≠ 0
  · rw [if_pos hb] at ho
    cases ho
    exact mod_int' hb (post W s.heap _ _ (.refl W) r (.int _ _))
  · rw [if_neg hb] at ho
    cases ho
theorem ok_div : Op2 prog w (binaryOp .FloorDiv) oDiv := by
  intro Γ W ρ H fr s Q E a b x y v H' r hx hy ho post
  cases hx <;> first | (cases ho; done) | skip
  cases hy <;> first | (cases ho; done) | skip
  rename_i i t j u
  simp only [oDiv] at ho
  by_cases hb : j ≠ 0 ∧ Builtin.divisionGoesByPylong i j = false
  · rw [if_pos hb] at ho
    cases ho
    exact floordiv_int hb.1 (post W s.heap _ _ (.refl W) r (.int _ _)) (.inl hb.2)
  · rw [if_neg hb] at ho
    cases ho
theorem ok_pow : Op2 prog w (binaryOp .Pow) oPow := by
  intro Γ W ρ H fr s Q E a b x y v H' r hx hy ho post
  cases hx <;> first | (cases ho; done) | skip
  cases hy <;> first | (cases ho; done) | skip
  rename_i i t j u
  simp only [oPow] at ho
  by_cases hb : 0 ≤ j ∧ (Builtin.Int.intBits i : Int) * j ≤ 2 ^ 27
  · rw [if_pos hb] at ho
    cases ho
    exact pow_int hb.1 hb.2 (post W s.heap _ _ (.refl W) r (.int _ _))
  · rw [if_neg hb] at ho
    cases ho
theorem ok_lt : Op2 prog w (compareOp .Lt) oLt := by
  intro Γ W ρ H fr s Q E a b x y v H' r hx hy ho post
  cases hx <;> first | (cases ho; done) | skip
  cases hy <;> first | (cases ho; done) | skip
  cases ho
  exact PySem.P.lt_int (post W s.heap s.toks _ (.refl W) r (.bool _))
theorem ok_gt : Op2 prog w (compareOp .Gt) oGt := by
  intro Γ W ρ H fr s Q E a b x y v H' r hx hy ho post
  cases hx <;> first | (cases ho; done) | skip
  cases hy <;> first | (cases ho; done) | skip
  cases ho
  exact PySem.P.gt_int (post W s.heap s.toks _ (.refl W) r (.bool _))
end
end PM
end
section
set_option maxRecDepth 100000
set_option linter.all false
set_option autoImplicit false
namespace PM
open PySem PyProof.Rows PyProof
noncomputable def toDs (f : V → Option PyData) : List V → Option (List PyData)
  | [] => some []
  | v :: vs => (f v).bind fun d => (toDs f vs).bind fun ds => some (d :: ds)
noncomputable def toD (H : Hp) : Nat → V → Option PyData
  | _, .none => some .none
  | _, .bool b => some (.bool b)
  | _, .int i => some (.int i)
  | _, .str x => some (.str x)
  | n + 1, .tup vs => (toDs (toD H n) vs).map .tuple
  | n + 1, .ref a => H[a]?.bind fun vs => (toDs (toD H n) vs).map .list
  | 0, .tup _ => none
  | 0, .ref _ => none
  | _, .obj _ _ => none
theorem toDs_reads {W : Wd} {h : Heap} {f : V → Option PyData} (ih : ∀ v x d, VR W v x → f v = some d → ∃ as, Reads h x d as) : ∀ {vs : List V} {xs : List Value} {ds : List PyData}, VRs W vs xs → toDs f vs = some ds → ∃ as, ReadsAll h xs ds as
  | _, _, _, .nil, e => by
    cases e
    exact ⟨_, .nil⟩
  | _, _, _, .cons a r, e => by
    obtain ⟨d, e1, e⟩ := Option.bind_eq_some_iff.mp e
    obtain ⟨ds, e2, e3⟩ := Option.bind_eq_some_iff.mp e
    cases e3
    obtain ⟨as, h1⟩ := ih _ _ _ a e1
    obtain ⟨bs, h2⟩ := toDs_reads ih r e2
    exact ⟨_, .cons h1 h2⟩
theorem toD_reads {Γ : Cx} {W : Wd} {ρ : Lc} {H : Hp} {fr : List (Addr × Obj)} {h : Heap} (r : Rep Γ W ρ H fr h) : ∀ (n : Nat) (v : V) (x : Value) (d : PyData), VR W v x → toD H n v = some d → ∃ as, Reads h x d as := by
  intro n
  induction n with
  | zero =>
    intro v x d hv e
    cases hv with
    | none => cases e; exact ⟨_, .none⟩
    | bool b => cases e; exact ⟨_, .bool b⟩
    | int i t => cases e; exact ⟨_, .int i t⟩
    | str y t => cases e; exact ⟨_, .str y t⟩
    | tup _ _ _ => cases e
    | ref _ => cases e
    | obj _ _ _ _ => cases e
  | succ n ih =>
    intro v x d hv e
    cases hv with
    | none => cases e; exact ⟨_, .none⟩
    | bool b => cases e; exact ⟨_, .bool b⟩
    | int i t => cases e; exact ⟨_, .int i t⟩
    | str y t => cases e; exact ⟨_, .str y t⟩
    | @tup vs a xs k hm hl hs =>
      obtain ⟨ds, e1, e2⟩ := Option.map_eq_some_iff.mp e
      subst e2
      obtain ⟨as, h1⟩ := toDs_reads ih hs e1
      exact ⟨_, .tuple (r.tupAt hm) rfl rfl (by simpa using h1)⟩
    | @ref i a ea =>
      obtain ⟨vs, e0, e⟩ := Option.bind_eq_some_iff.mp e
      obtain ⟨ds, e1, e2⟩ := Option.map_eq_some_iff.mp e
      subst e2
      obtain ⟨hl, xs, k, hg, hs⟩ := r.at e0 ea
      obtain ⟨as, h1⟩ := toDs_reads ih hs e1
      exact ⟨_, .list hg rfl rfl (by simpa using h1)⟩
    | obj _ _ _ _ => cases e
noncomputable def DEEP : Nat := 40
noncomputable def oEqB (a b : V) (H : Hp) : Option Bool := (toD H DEEP a).bind fun d => (toD H DEEP b).bind fun e => if SeqAt.shaped d = true ∧ SeqAt.shaped e = true then some (PyData.eqv d e) else none
noncomputable def oEq (a b : V) (H : Hp) : Option (V × Hp) := (oEqB a b H).map fun c => (.bool c, H)
noncomputable def oNe (a b : V) (H : Hp) : Option (V × Hp) := (oEqB a b H).map fun c => (.bool (!c), H)
noncomputable def oIs : V → V → Hp → Option (V × Hp)
  | .none, .none, H => some (.bool true, H)
  | .bool _, .none, H => some (.bool false, H)
  | .int _, .none, H => some (.bool false, H)
  | .str _, .none, H => some (.bool false, H)
  | .tup _, .none, H => some (.bool false, H)
  | .ref _, .none, H => some (.bool false, H)
  | .obj _ _, .none, H => some (.bool false, H)
  | _, _, _ => none
noncomputable def oIsNot (a b : V) (H : Hp) : Option (V × Hp) := (oIs a b H).bind fun p => match p.1 with | .bool c => some (.bool (!c), p.2) | _ => none
section
variable {prog : Program} {w : World}
theorem ok_eq : Op2 prog w (compareOp .Eq) oEq := by
  intro Γ W ρ H fr s Q E a b x y v H' r hx hy ho post
  obtain ⟨c, e1, e2⟩ := Option.map_eq_some_iff.mp ho
  cases e2
  obtain ⟨d, h1, e1⟩ := Option.bind_eq_some_iff.mp e1
  obtain ⟨e, h2, e1⟩ := Option.bind_eq_some_iff.mp e1
  by_cases hs : SeqAt.shaped d = true ∧ SeqAt.shaped e = true
  · rw [if_pos hs] at e1
    cases e1
    obtain ⟨as, R1⟩ := toD_reads r DEEP a x d hx h1
    obtain ⟨bs, R2⟩ := toD_reads r DEEP b y e hy h2
    exact eq_dataH R1 R2 hs.1 hs.2 (by have := Γ.hu; omega) (post W s.heap s.toks _ (.refl W) r (.bool _))
  · rw [if_neg hs] at e1
    cases e1
theorem ok_ne : Op2 prog w (compareOp .NotEq) oNe := by
  intro Γ W ρ H fr s Q E a b x y v H' r hx hy ho post
  obtain ⟨c, e1, e2⟩ := Option.map_eq_some_iff.mp ho
  cases e2
  obtain ⟨d, h1, e1⟩ := Option.bind_eq_some_iff.mp e1
  obtain ⟨e, h2, e1⟩ := Option.bind_eq_some_iff.mp e1
  by_cases hs : SeqAt.shaped d = true ∧ SeqAt.shaped e = true
  · rw [if_pos hs] at e1
    cases e1
    obtain ⟨as, R1⟩ := toD_reads r DEEP a x d hx h1
    obtain ⟨bs, R2⟩ := toD_reads r DEEP b y e hy h2
    exact ne_dataH R1 R2 hs.1 hs.2 (by have := Γ.hu; omega) (post W s.heap s.toks _ (.refl W) r (.bool _))
  · rw [if_neg hs] at e1
    cases e1
theorem ok_isNot : Op2 prog w (compareOp .IsNot) oIsNot := by
  intro Γ W ρ H fr s Q E a b x y v H' r hx hy ho post
  cases hy <;> first | (cases hx <;> cases ho; done) | skip
  refine PySem.isNot_none ?_
  cases hx <;> (cases ho; exact post W s.heap s.toks _ (.refl W) r (.bool _))
end
end PM
end
section
set_option maxRecDepth 100000
set_option linter.all false
set_option autoImplicit false
namespace PM
open PySem PyProof.Rows PyProof
noncomputable def oIdx : V → V → Hp → Option (V × Hp)
  | .ref a, .int k, H => H[a]?.bind fun vs => (seqIndex? k vs.length).bind fun j => vs[j]?.map fun v => (v, H)
  | .tup vs, .int k, H => (seqIndex? k vs.length).bind fun j => vs[j]?.map fun v => (v, H)
  | _, _, _ => none
theorem seqIndex_lt {k : Int} {n j : Nat} (h : seqIndex? k n = some j) : j < n ∧ (k : Int) < n ∧ -(n : Int) ≤ k ∧ (0 ≤ k → k.toNat = j) ∧ (k < 0 → (k + n).toNat = j) := by
  unfold seqIndex? at h
  by_cases c : k < 0
  · simp only [c, if_true] at h
    split at h
    · rename_i d
      simp at d h
      omega
    · cases h
  · simp only [c, if_false] at h
    split at h
    · rename_i d
      simp at d h
      omega
    · cases h
section
variable {prog : Program} {w : World} {Γ : Cx}
theorem J.idx {e1 e2 : Expr} {pos : Pos} {f g : Ex} (h1 : J prog w Γ e1 f) (h2 : J prog w Γ e2 g) (hs : ∀ a k u, subscripted e2 false (.ref a) (.int k u) = operate [.ref a, .int k u] (getItem (.ref a) (.int k u)) := by intros; with_unfolding_all rfl) : J prog w Γ (.Subscript e1 e2 pos) (eBin oIdx f g) := by
  intro W ρ H fr s Q E v H' r hf post
  obtain ⟨p, e1, hf⟩ := Option.bind_eq_some_iff.mp hf
  obtain ⟨q, e2, e3⟩ := Option.bind_eq_some_iff.mp hf
  refine Subscript_ (h1 W ρ H fr s _ E _ _ r e1 fun W1 k1 t1 x l1 r1 x1 => ?_)
  refine h2 W1 ρ _ fr _ _ E _ _ r1 e2 fun W2 k2 t2 y l2 r2 y2 => ?_
  have x2 := x1.mono l2
  obtain ⟨v1, H1⟩ := p
  obtain ⟨v2, H2⟩ := q
  simp only at e3 r2 x2 y2
  cases y2 <;> first | (cases x2 <;> cases e3; done) | skip
  rename_i k u
  cases x2 <;> first | (cases e3; done) | skip
  · rename_i vs a xs kk hm hl hv
    obtain ⟨j, hj, e4⟩ := Option.bind_eq_some_iff.mp e3
    obtain ⟨z, hz, e5⟩ := Option.map_eq_some_iff.mp e4
    cases e5
    obtain ⟨z', hz', rz⟩ := hv.at hz
    have hx : xs.length = vs.length := hv.length
    have hb := seqIndex_lt hj
    rw [LEN_eq] at hl
    have it : IsTup k2 a xs.toArray := ⟨_, r2.tupAt hm, rfl, kk, rfl⟩
    exact item_tupleT it (by omega) (by omega) (by rw [hx]; exact hj) hz' (post W2 k2 t2 z' (l1.trans l2) r2 rz) (hs _ _ _)
  · rename_i i a ea
    obtain ⟨vs, hvs, e3⟩ := Option.bind_eq_some_iff.mp e3
    obtain ⟨j, hj, e4⟩ := Option.bind_eq_some_iff.mp e3
    obtain ⟨z, hz, e5⟩ := Option.map_eq_some_iff.mp e4
    cases e5
    obtain ⟨hl, xs, kk, hg, hv⟩ := r2.at hvs ea
    obtain ⟨z', hz', rz⟩ := hv.at hz
    have hx : xs.length = vs.length := hv.length
    have hb := seqIndex_lt hj
    rw [LEN_eq] at hl
    have isl : k2.IsList a xs.toArray := ⟨_, hg, rfl, kk, rfl⟩
    refine tail_any (s := { s with heap := k2, toks := t2 }) isl.typeIs slot_list_getitem.lookup ?_ (hs _ _ _)
    by_cases hk : 0 ≤ k
    · exact wpAny_getItem_list isl hk (by omega) (by rw [hb.2.2.2.1 hk]; simpa using hz') (post W2 k2 t2 z' (l1.trans l2) r2 rz)
    · refine wpAny_getItem_list_neg isl (by omega) (by simp; omega) (by omega) ?_ (post W2 k2 t2 z' (l1.trans l2) r2 rz)
      have := hb.2.2.2.2 (by omega)
      rw [← hx] at this
      simpa [this] using hz'
end
noncomputable def pickV {α : Type} (vs : List α) (lo hi : Option Int) : List α := (sliceRange (sliceBounds lo hi none vs.length).1 (sliceBounds lo hi none vs.length).2.1 (sliceBounds lo hi none vs.length).2.2).filterMap fun i => vs[i]?
theorem VRs.pick {W : Wd} {vs : List V} {xs : List Value} (h : VRs W vs xs) (l : List Nat) : VRs W (l.filterMap fun i => vs[i]?) (l.filterMap fun i => xs[i]?) := by
  induction l with
  | nil => exact .nil
  | cons i l ih =>
    simp only [List.filterMap_cons]
    have hl := h.length
    cases e : vs[i]? with
    | none =>
      have : xs[i]? = none := by rw [List.getElem?_eq_none_iff] at e ⊢; omega
      rw [this]
      exact ih
    | some v =>
      obtain ⟨x, hx, hr⟩ := h.at e
      rw [hx]
      exact .cons hr ih
theorem pick_len {α : Type} (vs : List α) (lo hi : Option Int) : (pickV vs lo hi).length ≤ vs.length := by
  unfold pickV
  refine Nat.le_trans (List.length_filterMap_le _ _) ?_
  refine sliceRange_length_le _ _ _ _ (fun _ => ?_) fun c => ?_
  · unfold sliceBounds
    cases lo <;> cases hi <;> simp <;> omega
  · exact absurd (by unfold sliceBounds; simp) c
theorem run_pick {α : Type} (vs : List α) (a : Nat) : ∀ m : Nat, a + m ≤ vs.length → ((List.range m).map fun k => a + k).filterMap (fun i => vs[i]?) = (vs.drop a).take m := by
  intro m
  induction m with
  | zero => intro _; simp
  | succ m ih =>
    intro h
    rw [List.range_succ, List.map_append, List.filterMap_append, ih (by omega), List.take_add_one]
    congr 1
    simp only [List.map_cons, List.map_nil, List.filterMap_cons, List.filterMap_nil, List.getElem?_drop]
    cases e : vs[a + m]? with
    | none => rw [List.getElem?_eq_none_iff] at e; omega
    | some v => rfl
theorem pick_eq {α : Type} (vs : List α) (lo hi : Option Int) {a b : Nat} (ha : (sliceBounds lo hi none vs.length).1 = (a : Int)) (hb : (sliceBounds lo hi none vs.length).2.1 = (b : Int)) (h : b ≤ vs.length) : pickV vs lo hi = (vs.drop a).take (b - a) := by
  have hc : (sliceBounds lo hi none vs.length).2.2 = 1 := by unfold sliceBounds; rfl
  unfold pickV
  rw [ha, hb, hc]
  have e : sliceRange (a : Int) (b : Int) 1 = (List.range (b - a)).map fun k => a + k := by
    unfold sliceRange
    simp only [show (1 : Int) > 0 from by decide, if_true]
    by_cases c : (a : Int) < b
    · rw [if_pos c]
      have : ((b : Int) - a + 1 - 1) / 1 = ((b - a : Nat) : Int) := by omega
      rw [this]
      simp only [Int.toNat_natCast]
      refine List.map_congr_left fun k _ => ?_
      omega
    · rw [if_neg c]
      have : b - a = 0 := by omega
      rw [this]
      rfl
  rw [e]
  by_cases c : a ≤ b
  · exact run_pick vs a (b - a) (by omega)
  · have : b - a = 0 := by omega
    rw [this]
    simp
theorem pick_to {α : Type} (vs : List α) {k : Int} {a : Nat} (e : k = (a : Int)) : pickV vs none (some k) = vs.take a := by
  by_cases h : a ≤ vs.length
  · rw [pick_eq vs none (some k) (a := 0) (b := a) (by unfold sliceBounds; simp) (by unfold sliceBounds; simp; omega) h]
    simp
  · rw [pick_eq vs none (some k) (a := 0) (b := vs.length) (by unfold sliceBounds; simp) (by unfold sliceBounds; simp; omega) (Nat.le_refl _)]
    rw [List.drop_zero, Nat.sub_zero, List.take_of_length_le (Nat.le_refl _), List.take_of_length_le (by omega)]
noncomputable def partV : Option V → Option (Option Int)
  | none => some none
  | some (.int k) => some (some k)
  | _ => none
noncomputable abbrev Pt := Lc → Hp → Option (Option V × Hp)
noncomputable def pNone : Pt := fun _ H => some (none, H)
noncomputable def pSome (f : Ex) : Pt := fun ρ H => (f ρ H).map fun p => (some p.1, p.2)
noncomputable def eSlice (f : Ex) (lo hi : Pt) : Ex := fun ρ H => (f ρ H).bind fun p => (lo ρ p.2).bind fun q => (hi ρ q.2).bind fun u => (partV q.1).bind fun a => (partV u.1).bind fun b => match p.1 with
  | .ref i => u.2[i]?.bind fun vs => some (.ref u.2.length, u.2 ++ [pickV vs a b])
  | _ => none
inductive VP (W : Wd) : Option V → Value → Prop where
  | none : VP W none .none
  | some {v : V} {x : Value} : VR W v x → VP W (some v) x
theorem VP.mono {W W' : Wd} {v : Option V} {x : Value} (l : W.Le W') (h : VP W v x) : VP W' v x := by
  cases h with
  | none => exact .none
  | some h => exact .some (h.mono l)
theorem VP.part {W : Wd} {v : Option V} {x : Value} {k : Option Int} (h : VP W v x) (e : partV v = Option.some k) : IsPart x k := by
  cases h with
  | none => cases e; exact .none
  | some h => cases h <;> cases e; exact .int _ _
noncomputable def JP (prog : Program) (w : World) (Γ : Cx) (e : Option Expr) (f : Pt) : Prop := ∀ (W : Wd) (ρ : Lc) (H : Hp) (fr : List (Addr × Obj)) (s : Shared) (Q E : Value → Shared → Prop) (v : Option V) (H' : Hp),
  Rep Γ W ρ H fr s.heap → f ρ H = some (v, H') → (∀ (W' : Wd) (h' : Heap) (tk' : Nat) (x : Value), W.Le W' → Rep Γ W' ρ H' fr h' → VP W' v x → Q x { s with heap := h', toks := tk' }) → wpAny (model prog w) Γ.A (evalPart e Γ.env) Q E s
section
variable {prog : Program} {w : World} {Γ : Cx}
theorem JP.none : JP prog w Γ none pNone := fun W ρ H fr s Q E v H' r hf post => by
  cases hf
  exact wpAny_evalPart_none (post W s.heap s.toks _ (.refl W) r .none)
theorem JP.some {e : Expr} {f : Ex} (h : J prog w Γ e f) : JP prog w Γ (some e) (pSome f) := fun W ρ H fr s Q E v H' r hf post => by
  obtain ⟨p, e1, e2⟩ := Option.map_eq_some_iff.mp hf
  cases e2
  exact wpAny_evalPart_some (h W ρ H fr s _ E _ _ r e1 fun W1 k1 t1 x l1 r1 x1 => post W1 k1 t1 x l1 r1 (.some x1))
theorem J.slice {e : Expr} {lo hi : Option Expr} {p pos : Pos} {f : Ex} {a b : Pt} (h : J prog w Γ e f) (hlo : JP prog w Γ lo a) (hhi : JP prog w Γ hi b) (ht : ∀ o r, letTemporaryGo e o r = pure () := by intro _ _; rfl) : J prog w Γ (.Subscript e (.Slice lo hi Option.none p) pos) (eSlice f a b) := by
  intro W ρ H fr s Q E v H' r hf post
  obtain ⟨p, e1, hf⟩ := Option.bind_eq_some_iff.mp hf
  obtain ⟨q, e2, hf⟩ := Option.bind_eq_some_iff.mp hf
  obtain ⟨u, e3, hf⟩ := Option.bind_eq_some_iff.mp hf
  obtain ⟨ka, e4, hf⟩ := Option.bind_eq_some_iff.mp hf
  obtain ⟨kb, e5, hf⟩ := Option.bind_eq_some_iff.mp hf
  refine wpAny_Subscript_list_slice (h W ρ H fr s _ E _ _ r e1 fun W1 k1 t1 x l1 r1 x1 => ?_) ht
  refine hlo W1 ρ _ fr _ _ E _ _ r1 e2 fun W2 k2 t2 y l2 r2 y2 => ?_
  refine hhi W2 ρ _ fr _ _ E _ _ r2 e3 fun W3 k3 t3 z l3 r3 z3 => ?_
  have x3 := x1.mono (l2.trans l3)
  obtain ⟨v1, H1⟩ := p
  simp only at hf x3
  cases x3 with
  | none => cases hf
  | bool _ => cases hf
  | int _ _ => cases hf
  | str _ _ => cases hf
  | tup _ _ _ => cases hf
  | obj _ _ _ _ => cases hf
  | @ref i a ea =>
    obtain ⟨vs, hvs, e6⟩ := Option.bind_eq_some_iff.mp hf
    cases e6
    obtain ⟨hl, xs, kk, hg, hv⟩ := r3.at hvs ea
    have isl : k3.IsList a xs.toArray := ⟨_, hg, rfl, kk, rfl⟩
    refine ⟨a, xs.toArray, ka, kb, rfl, isl, LEN_size (by simp [hv.length]; exact hl), (y2.mono l3).part e4, z3.part e5, ?_⟩
    have hp : VRs W3 (pickV vs ka kb) (pickV xs ka kb) := by
      unfold pickV
      rw [hv.length]
      exact hv.pick _
    have hx : slicePick xs.toArray ka kb Option.none = (pickV xs ka kb).toArray := by
      unfold slicePick pickV
      simp
    obtain ⟨W4, l4, r4, v4⟩ := (r3.push { cls := .type "slice", data := .fields #[y, z, .none] }).list (k := 0) hp (Nat.le_trans (pick_len vs ka kb) hl)
    rw [hx]
    have := post W4 _ t3 _ (((l1.trans l2).trans l3).trans l4) r4 v4
    rw [Heap.size_push] at this
    exact this
end
end PM
end
section
set_option maxRecDepth 100000
set_option linter.all false
set_option autoImplicit false
namespace PM
open PySem PyProof.Rows PyProof
noncomputable def Nm (prog : Program) (w : World) (Γ : Cx) (x : Str) (v : Value) : Prop := ∀ (pos : Pos) (m : Str → Option Value) (s : Shared) (Q E : Value → Shared → Prop), Fr Γ.h₀ Γ.L s.heap m → Q v s → wpAny (model prog w) Γ.A (eval (.Name x pos) Γ.env) Q E s
theorem Nm.use {prog : Program} {w : World} {Γ : Cx} {x : Str} {y : Value} (h : Nm prog w Γ x y) {pos : Pos} {W : Wd} {ρ : Lc} {H : Hp} {fr : List (Addr × Obj)} {s : Shared} {Q E : Value → Shared → Prop} (r : Rep Γ W ρ H fr s.heap) (q : Q y s) : wpAny (model prog w) Γ.A (eval (.Name x pos) Γ.env) Q E s := by
  obtain ⟨m, c, led, r⟩ := r
  exact h pos m s Q E r.F q
noncomputable def OpN (prog : Program) (w : World) (m : List Value → Sem Value) (o : List V → Hp → Option (V × Hp)) : Prop := ∀ (Γ : Cx) (W : Wd) (ρ : Lc) (H : Hp) (fr : List (Addr × Obj)) (s : Shared) (Q E : Value → Shared → Prop) (as : List V) (xs : List Value) (v : V) (H' : Hp),
  Rep Γ W ρ H fr s.heap → VRs W as xs → o as H = some (v, H') → Post Γ W ρ H' fr s Q v → wpAny (model prog w) Γ.A (m xs) Q E s
noncomputable def eCall (o : List V → Hp → Option (V × Hp)) (g : Exs) : Ex := fun ρ H => (g ρ H).bind fun p => o p.1 p.2
section
variable {prog : Program} {w : World} {Γ : Cx}
theorem J.callB {x : Str} {np pos : Pos} {id : String} {e : Expr} {es : List Expr} {g : Exs} {o : List V → Hp → Option (V × Hp)} (hn : Nm prog w Γ x (.builtin id)) (h : Js prog w Γ (e :: es) g) (ho : OpN prog w (fun xs => call (.builtin id) xs) o)
    (he : starEach (e :: es) Γ.env = (false, eval e Γ.env) :: starEach es Γ.env := by rfl) (hp : ∀ pos, (backTo pos (starEach es Γ.env)).any (·.1) = false := by intro _; rfl) : J prog w Γ (.Call (.Name x np) (e :: es) [] pos) (eCall o g) := by
  intro W ρ H fr s Q E v H' r hf post
  obtain ⟨p, e1, hf⟩ := Option.bind_eq_some_iff.mp hf
  refine wpAny_Call_ofName (hn.use r ?_)
  refine callWith_builtin1 (h pos W ρ H fr s _ E _ _ r e1 fun W1 k1 t1 xs l1 r1 x1 => ?_) he (hp pos)
  exact ho Γ W1 ρ _ fr _ Q E _ xs v H' r1 x1 hf fun W2 k2 t2 y l2 r2 y2 => post W2 k2 t2 y (l1.trans l2) r2 y2
theorem J.callT {x : Str} {np pos : Pos} {T : String} {e : Expr} {es : List Expr} {g : Exs} {o : List V → Hp → Option (V × Hp)} (hn : Nm prog w Γ x (.type T)) (h : Js prog w Γ (e :: es) g) (ho : OpN prog w (fun xs => call (.type T) xs) o)
    (he : starEach (e :: es) Γ.env = (false, eval e Γ.env) :: starEach es Γ.env := by rfl) (hp : ∀ pos, (backTo pos (starEach es Γ.env)).any (·.1) = false := by intro _; rfl) : J prog w Γ (.Call (.Name x np) (e :: es) [] pos) (eCall o g) := by
  intro W ρ H fr s Q E v H' r hf post
  obtain ⟨p, e1, hf⟩ := Option.bind_eq_some_iff.mp hf
  refine wpAny_Call_ofName (hn.use r ?_)
  refine PySem.Pv.callWith_type1 (h pos W ρ H fr s _ E _ _ r e1 fun W1 k1 t1 xs l1 r1 x1 => ?_) he (hp pos)
  exact ho Γ W1 ρ _ fr _ Q E _ xs v H' r1 x1 hf fun W2 k2 t2 y l2 r2 y2 => post W2 k2 t2 y (l1.trans l2) r2 y2
end
noncomputable def kindOfV : V → String
  | .none => "NoneType"
  | .bool _ => "bool"
  | .int _ => "int"
  | .str _ => "str"
  | .tup _ => "tuple"
  | .ref _ => "list"
  | .obj _ _ => "object"
noncomputable def isKind (T : String) (v : V) : Bool := kindOfV v == T || (T == "int" && kindOfV v == "bool")
noncomputable def isObj : V → Bool
  | .obj _ _ => true
  | _ => false
noncomputable def eIs (T : String) (f : Ex) : Ex := fun ρ H => (f ρ H).bind fun p => if isObj p.1 then none else some (.bool (isKind T p.1), p.2)
section
variable {prog : Program} {w : World} {Γ : Cx}
theorem isinst {T : String} (hT : T = "int" ∨ T = "bool" ∨ T = "list" ∨ T = "tuple") {W : Wd} {ρ : Lc} {H : Hp} {fr : List (Addr × Obj)} {s : Shared} {Q E : Value → Shared → Prop} {a : V} {x : Value} (r : Rep Γ W ρ H fr s.heap) (hx : VR W a x) (hin : ∀ i, a = .ref i → i < H.length) (hob : isObj a = false)
    (post : ∀ tk, Q (.bool (isKind T a)) { s with toks := tk }) : wpAny (model prog w) Γ.A (call (.builtin "isinstance") [x, .type T]) Q E s := by
  cases hx with
  | none => rcases hT with e | e | e | e <;> subst e
            · exact call_isinstance (isinstance_false_none (by decide +kernel) F.isi_meta_int (by rw [isSubtype_type]; kernel_rfl)) (post _)
            · exact call_isinstance (isinstance_false_none (by decide +kernel) F.isi_meta_bool (by rw [isSubtype_type]; kernel_rfl)) (post _)
            · exact call_isinstance (isinstance_false_none (by decide +kernel) F.isi_meta_list (by rw [isSubtype_type]; kernel_rfl)) (post _)
            · exact call_isinstance (isinstance_false_none (by decide +kernel) F.isi_meta_tuple (by rw [isSubtype_type]; kernel_rfl)) (post _)
  | bool b => rcases hT with e | e | e | e <;> subst e
              · exact IsiPair.bool_int (post s.toks)
              · exact IsiPair.bool_bool (post s.toks)
              · exact IsiPair.bool_list (post _)
              · exact IsiPair.bool_tuple (post _)
  | int i t => rcases hT with e | e | e | e <;> subst e
               · exact IsiPair.int_int (post s.toks)
               · exact IsiPair.int_bool (post _)
               · exact IsiPair.int_list (post _)
               · exact IsiPair.int_tuple (post _)
  | str y t => rcases hT with e | e | e | e <;> subst e
               · exact IsiPair.str_int (post _)
               · exact IsiPair.str_bool (post _)
               · exact IsiPair.str_list (post _)
               · exact IsiPair.str_tuple (post _)
  | tup hm hl hs =>
    have hg := r.tupAt hm
    rcases hT with e | e | e | e <;> subst e
    · exact IsiPair.tuple_int hg rfl (post _)
    · exact IsiPair.tuple_bool hg rfl (post _)
    · exact IsiPair.tuple_list hg rfl (post _)
    · exact IsiPair.tuple_tuple hg rfl (post s.toks)
  | @ref i a ea =>
    obtain ⟨hl, xs, k, hg, hv⟩ := r.at (List.getElem?_eq_getElem (hin i rfl)) ea
    rcases hT with e | e | e | e <;> subst e
    · exact IsiPair.list_int hg rfl (post _)
    · exact IsiPair.list_bool hg rfl (post _)
    · exact IsiPair.list_list hg rfl (post s.toks)
    · exact IsiPair.list_tuple hg rfl (post _)
  | obj _ _ _ _ => cases hob
end
theorem Rep.refIn {Γ : Cx} {W : Wd} {ρ : Lc} {H : Hp} {fr : List (Addr × Obj)} {h : Heap} {i : Nat} {x : Value} (r : Rep Γ W ρ H fr h) (hx : VR W (.ref i) x) : i < H.length := by
  obtain ⟨m, c, led, r⟩ := r
  cases hx with
  | ref e => rw [← r.R.len]; exact (List.getElem?_eq_some_iff.mp e.1).1
section
variable {prog : Program} {w : World} {Γ : Cx}
theorem J.isinst {np tp pos : Pos} {x y : Str} {T : String} {e : Expr} {f : Ex} (hn : Nm prog w Γ x (.builtin "isinstance")) (hy : Nm prog w Γ y (.type T)) (hT : T = "int" ∨ T = "bool" ∨ T = "list" ∨ T = "tuple") (h : J prog w Γ e f)
    (he : starEach [e, .Name y tp] Γ.env = (false, eval e Γ.env) :: starEach [.Name y tp] Γ.env := by rfl) (hp : ∀ pos, (backTo pos (starEach [.Name y tp] Γ.env)).any (·.1) = false := by intro _; rfl) : J prog w Γ (.Call (.Name x np) [e, .Name y tp] [] pos) (eIs T f) := by
  intro W ρ H fr s Q E v H' r hf post
  obtain ⟨p, e1, e2⟩ := Option.bind_eq_some_iff.mp hf
  by_cases hob : isObj p.1 = true
  · rw [if_pos hob] at e2; cases e2
  rw [if_neg hob] at e2
  cases e2
  refine wpAny_Call_ofName (hn.use r ?_)
  refine callWith_builtin1 (wpAny_items_cons (h W ρ H fr s _ E _ _ r e1 fun W1 k1 t1 z l1 r1 z1 => ?_) he) he (hp pos)
  refine wpAny_items_cons (hy.use (s := { s with heap := k1, toks := t1 }) r1 ?_)
  refine wpAny_items_nil ?_
  exact PM.isinst hT r1 z1 (fun i e => by rw [e] at z1; exact r1.refIn z1) (by simpa using hob) fun tk => post W1 k1 tk _ l1 r1 (.bool _)
end
noncomputable def oLen : List V → Hp → Option (V × Hp)
  | [.ref a], H => H[a]?.map fun vs => (.int vs.length, H)
  | [.tup vs], H => some (.int vs.length, H)
  | _, _ => none
noncomputable def oAbs : List V → Hp → Option (V × Hp)
  | [.int a], H => some (.int (if a < 0 then -a else a), H)
  | _, _ => none
noncomputable def toInts : List V → Option (List Int)
  | [] => some []
  | .int k :: vs => (toInts vs).map fun ks => k :: ks
  | _ :: _ => none
noncomputable def oSum : List V → Hp → Option (V × Hp)
  | [.ref a], H => H[a]?.bind fun vs => (toInts vs).map fun ks => (.int ks.sum, H)
  | _, _ => none
theorem VRs.one {W : Wd} {v : V} {xs : List Value} (h : VRs W [v] xs) : ∃ x, xs = [x] ∧ VR W v x := by
  cases h with
  | cons a b => cases b; exact ⟨_, rfl, a⟩
theorem VRs.two {W : Wd} {v u : V} {xs : List Value} (h : VRs W [v, u] xs) : ∃ x y, xs = [x, y] ∧ VR W v x ∧ VR W u y := by
  cases h with
  | cons a b => obtain ⟨y, e, r⟩ := b.one; subst e; exact ⟨_, _, rfl, a, r⟩
noncomputable def oAdd : V → V → Hp → Option (V × Hp)
  | .int a, .int b, H => some (.int (a + b), H)
  | .ref a, .ref b, H => H[a]?.bind fun vs => H[b]?.bind fun us => if (vs ++ us).length ≤ LEN then some (.ref H.length, H ++ [vs ++ us]) else none
  | .tup vs, .tup us, H => if (vs ++ us).length ≤ LEN then some (.tup (vs ++ us), H) else none
  | _, _, _ => none
noncomputable def repV (vs : List V) : Nat → List V
  | 0 => []
  | n + 1 => repV vs n ++ vs
noncomputable def oMul : V → V → Hp → Option (V × Hp)
  | .int a, .int b, H => if mulOk a b = true then some (.int (a * b), H) else none
  | .ref a, .int k, H => H[a]?.bind fun vs => if vs.length * k.toNat ≤ LEN ∧ -(2 ^ 63 : Int) ≤ k ∧ k < 2 ^ 63 then some (.ref H.length, H ++ [repV vs k.toNat]) else none
  | _, _, _ => none
section
variable {prog : Program} {w : World}
theorem ok_len : OpN prog w (fun xs => call (.builtin "len") xs) oLen := by
  intro Γ W ρ H fr s Q E as xs v H' r hx ho post
  unfold oLen at ho
  split at ho
  · rename_i a
    obtain ⟨vs, e1, e2⟩ := Option.map_eq_some_iff.mp ho
    cases e2
    obtain ⟨x, ex, rx⟩ := hx.one
    subst ex
    cases rx with
    | ref ea =>
      obtain ⟨hl, ys, k, hg, hv⟩ := r.at e1 ea
      have isl : s.heap.IsList _ ys.toArray := ⟨_, hg, rfl, k, rfl⟩
      have e3 : (ys.toArray.size : Int) = vs.length := by simp [hv.length]
      rw [LEN_eq] at hl
      refine Calls.call_len_list isl (by rw [e3]; omega) ?_
      rw [e3]
      exact post W s.heap _ _ (.refl W) r (.int _ _)
  · rename_i vs
    cases ho
    obtain ⟨x, ex, rx⟩ := hx.one
    subst ex
    cases rx with
    | @tup _ a ys k hm hl hs =>
      have it : IsTup s.heap a ys.toArray := ⟨_, r.tupAt hm, rfl, k, rfl⟩
      have e3 : (ys.toArray.size : Int) = vs.length := by simp [hs.length]
      rw [LEN_eq] at hl
      refine len_tuple it (by rw [e3]; omega) ?_
      rw [e3]
      exact post W s.heap _ _ (.refl W) r (.int _ _)
  · cases ho
theorem ok_add : Op2 prog w (binaryOp .Add) oAdd := by
  intro Γ W ρ H fr s Q E a b x y v H' r hx hy ho post
  unfold oAdd at ho
  split at ho
  · cases ho
    cases hx; cases hy
    exact PySem.P.add_int (post W s.heap _ _ (.refl W) r (.int _ _))
  · obtain ⟨vs, e1, ho⟩ := Option.bind_eq_some_iff.mp ho
    obtain ⟨us, e2, ho⟩ := Option.bind_eq_some_iff.mp ho
    by_cases hl : (vs ++ us).length ≤ LEN
    · rw [if_pos hl] at ho
      cases ho
      cases hx with
      | ref ea =>
      cases hy with
      | ref eb =>
      obtain ⟨l1, ys, k, hg, hv⟩ := r.at e1 ea
      obtain ⟨l2, zs, k2, hg2, hv2⟩ := r.at e2 eb
      obtain ⟨m, c, led, r'⟩ := r
      have i1 : s.heap.IsList _ ys.toArray := ⟨_, hg, rfl, k, rfl⟩
      have i2 : s.heap.IsList _ zs.toArray := ⟨_, hg2, rfl, k2, rfl⟩
      refine add_lists (hsz := LEN_size (by rw [hv.length, hv2.length, ← List.length_append]; exact hl)) r'.F r'.N i1 i2 fun h' F' N' => ?_
      obtain ⟨W2, le2, r2, v2⟩ := r'.newList F' N' r'.off (hv.append hv2) hl
      exact post W2 h' s.toks _ le2 r2 v2
    · rw [if_neg hl] at ho
      cases ho
  · rename_i vs us
    by_cases hl : (vs ++ us).length ≤ LEN
    · rw [if_pos hl] at ho
      cases ho
      cases hx with
      | @tup _ a ys k hm h1 hv =>
      cases hy with
      | @tup _ b zs k2 hm2 h2 hv2 =>
      have t1 : IsTup s.heap a ys.toArray := ⟨_, r.tupAt hm, rfl, k, rfl⟩
      have t2 : IsTup s.heap b zs.toArray := ⟨_, r.tupAt hm2, rfl, k2, rfl⟩
      have r0 := r
      obtain ⟨m, c, led, r'⟩ := r
      refine add_tuples (hsz := LEN_size (by rw [hv.length, hv2.length, ← List.length_append]; exact hl)) r'.F r'.N t1 t2 (fun e => ?_) (fun _ e => ?_) fun _ _ h' F' N' => ?_
      · have : vs = [] := List.length_eq_zero_iff.mp (by rw [← hv.length, e]; rfl)
        subst this
        exact post W s.heap s.toks _ (.refl W) r0 (.tup hm2 h2 hv2)
      · have : us = [] := List.length_eq_zero_iff.mp (by rw [← hv2.length, e]; rfl)
        subst this
        rw [List.append_nil] at post
        exact post W s.heap s.toks _ (.refl W) r0 (.tup hm h1 hv)
      · obtain ⟨W2, le2, r2, v2⟩ := r'.newTup F' N' r'.off (hv.append hv2) hl
        exact post W2 h' s.toks _ le2 r2 v2
    · rw [if_neg hl] at ho
      cases ho
  · cases ho
theorem repV_len (vs : List V) : ∀ n, (repV vs n).length = vs.length * n
  | 0 => rfl
  | n + 1 => by rw [repV, List.length_append, repV_len vs n, Nat.mul_succ]
theorem rep_items (xs : List Value) (n : Nat) : ∀ acc : Array Value, (List.foldl (fun x1 x2 => x1 ++ x2) acc (List.replicate n xs.toArray)) = acc ++ (List.replicate n xs).flatten.toArray := by
  induction n with
  | zero => intro acc; simp
  | succ n ih =>
    intro acc
    rw [List.replicate_succ, List.foldl_cons, ih, List.replicate_succ, List.flatten_cons]
    simp [Array.append_assoc]
theorem rep_rel {W : Wd} {vs : List V} {xs : List Value} (h : VRs W vs xs) : ∀ n, VRs W (repV vs n) (List.replicate n xs).flatten
  | 0 => .nil
  | n + 1 => by
    rw [repV, List.replicate_succ', List.flatten_append]
    simp only [List.flatten_cons, List.flatten_nil, List.append_nil]
    exact (rep_rel h n).append h
theorem ok_mul : Op2 prog w (binaryOp .Mult) oMul := by
  intro Γ W ρ H fr s Q E a b x y v H' r hx hy ho post
  unfold oMul at ho
  split at ho
  · rename_i i j
    by_cases hm : mulOk i j = true
    · rw [if_pos hm] at ho
      cases ho
      cases hx; cases hy
      exact PySem.P.mul_int (post W s.heap _ _ (.refl W) r (.int _ _)) (mulOk_ok hm)
    · rw [if_neg hm] at ho
      cases ho
  · rename_i i k
    obtain ⟨vs, e1, ho⟩ := Option.bind_eq_some_iff.mp ho
    by_cases hc : vs.length * k.toNat ≤ LEN ∧ -(2 ^ 63 : Int) ≤ k ∧ k < 2 ^ 63
    · rw [if_pos hc] at ho
      cases ho
      cases hx with
      | ref ea =>
      cases hy with
      | int _ u =>
      obtain ⟨l1, ys, kk, hg, hv⟩ := r.at e1 ea
      obtain ⟨m, c, led, r'⟩ := r
      have hl := hc.1
      rw [LEN_eq] at hl
      refine mul_list r'.F r'.N hg hc.2.1 hc.2.2 (by rw [List.size_toArray, hv.length]; omega) fun h' F' N' => ?_
      have e2 : (List.foldl (fun x1 x2 => x1 ++ x2) #[] (List.replicate (if ys.toArray.isEmpty = true then 0 else k.toNat) ys.toArray)) = (List.replicate k.toNat ys).flatten.toArray := by
        cases ys with
        | nil =>
          simp
        | cons y0 ys0 =>
          have : ((y0 :: ys0).toArray.isEmpty = true) = False := by simp
          simp only [this, if_false]
          rw [rep_items]
          simp
      rw [e2] at N'
      obtain ⟨W2, le2, r2, v2⟩ := r'.newList F' N' r'.off (rep_rel hv k.toNat) (by rw [repV_len]; exact hc.1)
      exact post W2 h' s.toks _ le2 r2 v2
    · rw [if_neg hc] at ho
      cases ho
  · cases ho
end
end PM
end
section
set_option maxRecDepth 100000
set_option linter.all false
set_option autoImplicit false
namespace PM
open PySem PyProof.Rows PyProof
noncomputable def upd (ρ : Lc) (i : Nat) (v : V) : Lc := fun j => if j = i then some v else ρ j
noncomputable abbrev Sm := Lc → Hp → Option (Option V × Lc × Hp)
noncomputable def sNext : Sm := fun ρ H => some (none, ρ, H)
noncomputable def sSeq (a b : Sm) : Sm := fun ρ H => (a ρ H).bind fun p => match p.1 with
  | some _ => some p
  | none => b p.2.1 p.2.2
noncomputable def sRet (f : Ex) : Sm := fun ρ H => (f ρ H).map fun p => (some p.1, ρ, p.2)
noncomputable def sSet (i : Nat) (f : Ex) : Sm := fun ρ H => (f ρ H).map fun p => (none, upd ρ i p.1, p.2)
noncomputable def sIf (t : Ts) (a b : Sm) : Sm := fun ρ H => (t ρ H).bind fun p => if p.1 then a ρ p.2 else b ρ p.2
noncomputable def sExp (f : Ex) : Sm := fun ρ H => (f ρ H).map fun p => (none, ρ, p.2)
noncomputable def oPut : V → V → V → Hp → Option Hp
  | .ref a, .int k, v, H => H[a]?.bind fun vs => if a ≠ 0 ∧ 0 ≤ k ∧ k < vs.length then some (H.set a (vs.set k.toNat v)) else none
  | _, _, _, _ => none
noncomputable def sPut (f o i : Ex) : Sm := fun ρ H => (f ρ H).bind fun p => (o ρ p.2).bind fun q => (i ρ q.2).bind fun u => (oPut q.1 u.1 p.1 u.2).map fun K => (none, ρ, K)
noncomputable def PostS (Γ : Cx) (W : Wd) (fr : List (Addr × Obj)) (s : Shared) (Q : Flow → Shared → Prop) : Option V × Lc × Hp → Prop
  | (none, ρ', H') => ∀ (W' : Wd) (h' : Heap) (tk' : Nat), W.Le W' → Rep Γ W' ρ' H' fr h' → Q .next { s with heap := h', toks := tk' }
  | (some v, ρ', H') => ∀ (W' : Wd) (h' : Heap) (tk' : Nat) (x : Value), W.Le W' → Rep Γ W' ρ' H' fr h' → VR W' v x → Q (.ret x) { s with heap := h', toks := tk' }
theorem PostS.le {Γ : Cx} {W W' : Wd} {fr : List (Addr × Obj)} {s : Shared} {h : Heap} {tk : Nat} {Q : Flow → Shared → Prop} {r : Option V × Lc × Hp} (l : W.Le W') (p : PostS Γ W fr s Q r) : PostS Γ W' fr { s with heap := h, toks := tk } Q r := by
  obtain ⟨o, ρ', H'⟩ := r
  cases o with
  | none => exact fun W2 h2 t2 l2 r2 => p W2 h2 t2 (l.trans l2) r2
  | some v => exact fun W2 h2 t2 x l2 r2 x2 => p W2 h2 t2 x (l.trans l2) r2 x2
section
variable (prog : Program) (w : World)
noncomputable def S1 (Γ : Cx) (st : Stmt) (g : Sm) : Prop := ∀ (W : Wd) (ρ : Lc) (H : Hp) (fr : List (Addr × Obj)) (s : Shared) (Q : Flow → Shared → Prop) (E : Value → Shared → Prop) (r : Option V × Lc × Hp),
  Rep Γ W ρ H fr s.heap → g ρ H = some r → PostS Γ W fr s Q r → wpAny (model prog w) Γ.A (exec st Γ.env) Q E s
noncomputable def Ss (Γ : Cx) (ss : List Stmt) (g : Sm) : Prop := ∀ (W : Wd) (ρ : Lc) (H : Hp) (fr : List (Addr × Obj)) (s : Shared) (Q : Flow → Shared → Prop) (E : Value → Shared → Prop) (r : Option V × Lc × Hp),
  Rep Γ W ρ H fr s.heap → g ρ H = some r → PostS Γ W fr s Q r → wpAny (model prog w) Γ.A (execs ss Γ.env) Q E s
noncomputable def Sto (Γ : Cx) (x : Str) (i : Nat) : Prop := ∀ (W : Wd) (ρ : Lc) (H : Hp) (fr : List (Addr × Obj)) (s : Shared) (Q : Unit → Shared → Prop) (E : Value → Shared → Prop) (v : V) (y : Value),
  Rep Γ W ρ H fr s.heap → VR W v y → (∀ (h' : Heap) (tk' : Nat), Rep Γ W (upd ρ i v) H fr h' → Q () { s with heap := h', toks := tk' }) → wpAny (model prog w) Γ.A (storeName Γ.env x y) Q E s
noncomputable def Rd (Γ : Cx) (x : Str) (i : Nat) : Prop := ∀ (W : Wd) (ρ : Lc) (H : Hp) (fr : List (Addr × Obj)) (s : Shared) (Q E : Value → Shared → Prop) (v : V) (pos : Pos),
  Rep Γ W ρ H fr s.heap → ρ i = some v → (∀ y, VR W v y → Q y s) → wpAny (model prog w) Γ.A (eval (.Name x pos) Γ.env) Q E s
end
section
variable {prog : Program} {w : World} {Γ : Cx}
theorem J.var {x : Str} {i : Nat} {pos : Pos} (h : Rd prog w Γ x i) : J prog w Γ (.Name x pos) (eVar i) := by
  intro W ρ H fr s Q E v H' r hf post
  obtain ⟨u, e1, e2⟩ := Option.map_eq_some_iff.mp hf
  cases e2
  exact h W ρ H fr s Q E v pos r e1 fun y hy => post W s.heap s.toks y (.refl W) r hy
theorem Ss.nil : Ss prog w Γ [] sNext := fun W ρ H fr s Q E r rp hf post => by
  cases hf
  exact wpAny_execs_nil (post W s.heap s.toks (.refl W) rp)
theorem Ss.cons {st : Stmt} {ss : List Stmt} {a b : Sm} (h1 : S1 prog w Γ st a) (h2 : Ss prog w Γ ss b) : Ss prog w Γ (st :: ss) (sSeq a b) := by
  intro W ρ H fr s Q E r rp hf post
  obtain ⟨p, e1, hf⟩ := Option.bind_eq_some_iff.mp hf
  refine wpAny_execs_cons (h1 W ρ H fr s _ E p rp e1 ?_)
  obtain ⟨o, ρ1, H1⟩ := p
  cases o with
  | some v =>
    cases hf
    exact fun W1 k1 t1 x l1 r1 x1 => post W1 k1 t1 x l1 r1 x1
  | none => exact fun W1 k1 t1 l1 r1 => h2 W1 ρ1 H1 fr _ Q E r r1 hf (post.le l1)
theorem Ss.one {st : Stmt} {a : Sm} (h1 : S1 prog w Γ st a) : Ss prog w Γ [st] a := by
  intro W ρ H fr s Q E r rp hf post
  refine wpAny_execs_cons (h1 W ρ H fr s _ E r rp hf ?_)
  obtain ⟨o, ρ1, H1⟩ := r
  cases o with
  | some v => exact fun W1 k1 t1 x l1 r1 x1 => post W1 k1 t1 x l1 r1 x1
  | none => exact fun W1 k1 t1 l1 r1 => wpAny_execs_nil (post W1 k1 t1 l1 r1)
theorem S1.ret {e : Expr} {pos : Pos} {f : Ex} (h : J prog w Γ e f) : S1 prog w Γ (.Return (some e) pos) (sRet f) := by
  intro W ρ H fr s Q E r rp hf post
  obtain ⟨p, e1, e2⟩ := Option.map_eq_some_iff.mp hf
  cases e2
  exact wpAny_Return_some (h W ρ H fr s _ E _ _ rp e1 post)
theorem S1.ife {t : Expr} {a b : List Stmt} {pos : Pos} {u : Ts} {f g : Sm} (ht : JT prog w Γ t u) (h1 : Ss prog w Γ a f) (h2 : Ss prog w Γ b g) : S1 prog w Γ (.If t a b pos) (sIf u f g) := by
  intro W ρ H fr s Q E r rp hf post
  obtain ⟨p, e1, hf⟩ := Option.bind_eq_some_iff.mp hf
  refine wpAny_If (ht W ρ H fr s _ E _ _ rp e1 fun W1 k1 t1 l1 r1 => ?_)
  obtain ⟨c, H1⟩ := p
  cases c with
  | true => exact h1 W1 ρ H1 fr _ Q E r r1 hf (post.le l1)
  | false => exact h2 W1 ρ H1 fr _ Q E r r1 hf (post.le l1)
theorem S1.exp {e : Expr} {pos : Pos} {f : Ex} (h : J prog w Γ e f) (hi : interactive Γ.env = false := by rfl) (hs : swapsWith e none pos.line Γ.env = pure false := by rfl) : S1 prog w Γ (.Expr e pos) (sExp f) := by
  intro W ρ H fr s Q E r rp hf post
  obtain ⟨p, e1, e2⟩ := Option.map_eq_some_iff.mp hf
  cases e2
  exact wpAny_Expr_any (h W ρ H fr s _ E _ _ rp e1 fun W1 k1 t1 x l1 r1 x1 => post W1 k1 t1 l1 r1) hi hs
theorem S1.set {x : Str} {i : Nat} {e : Expr} {pos' pos : Pos} {f : Ex} (hx : Sto prog w Γ x i) (h : J prog w Γ e f) (hs : swapsWith e (some (.Name x pos')) pos.line Γ.env = pure false := by rfl) : S1 prog w Γ (.Assign [.Name x pos'] e pos) (sSet i f) := by
  intro W ρ H fr s Q E r rp hf post
  obtain ⟨p, e1, e2⟩ := Option.map_eq_some_iff.mp hf
  cases e2
  refine wpAny_Assign_Name (h W ρ H fr s _ E _ _ rp e1 fun W1 k1 t1 y l1 r1 y1 => ?_) hs
  exact hx W1 ρ _ fr _ _ E _ y r1 y1 fun h' tk' r2 => post W1 h' tk' l1 r2
end
noncomputable def oAppend : List V → Hp → Option (V × Hp)
  | [.ref a, v], H => H[a]?.bind fun vs => if a ≠ 0 ∧ vs.length < LEN then some (.none, H.set a (vs ++ [v])) else none
  | _, _ => none
section
variable {prog : Program} {w : World} {Γ : Cx}
theorem ok_append : OpN prog w (fun xs => call (.builtin "list.append") xs) oAppend := by
  intro Γ W ρ H fr s Q E as xs v H' r hx ho post
  unfold oAppend at ho
  split at ho
  · obtain ⟨vs, e1, e2⟩ := Option.bind_eq_some_iff.mp ho
    obtain ⟨x, y, ex, rx, ry⟩ := hx.two
    subst ex
    split at e2
    · rename_i hl
      cases e2
      cases rx with
      | @ref _ a0 ea =>
        obtain ⟨_, ys, k, hg, hv⟩ := r.at e1 ea
        refine append_at (hsz := LEN_size (by rw [List.size_toArray, hv.length]; omega)) hg fun h' sb hg' => ?_
        have hg2 : h'.get? a0 = some (lstB (ys ++ [y]) (k + 1)) := by rw [hg']; simp
        exact post W h' s.toks _ (.refl W) (r.change hl.1 e1 ea sb hg2 (hv.snoc ry) (by simp; omega)) .none
    · cases e2
  · cases ho
end
end PM
end
section
set_option maxRecDepth 100000
set_option linter.all false
set_option autoImplicit false
namespace PM
open PySem PySem.W PyProof.Rows PyProof
theorem setL_eq : ∀ {l : List Value} {k : Nat} {v : Value}, k < l.length → ki_setL l k v = some (l.set k v)
  | [], _, _, h => by simp at h
  | x :: r, 0, v, _ => by simp [ki_setL]
  | x :: r, k + 1, v, h => by
    have := setL_eq (l := r) (k := k) (v := v) (by simpa using h)
    simp [ki_setL, this]
theorem oPut_some {a k v : V} {H K : Hp} (h : oPut a k v H = some K) : ∃ i j vs, a = .ref i ∧ k = .int j ∧ H[i]? = some vs ∧ (i ≠ 0 ∧ 0 ≤ j ∧ j < vs.length) ∧ K = H.set i (vs.set j.toNat v) := by
  cases a <;> first | (cases h; done) | skip
  cases k <;> first | (cases h; done) | skip
  obtain ⟨vs, e1, e2⟩ := Option.bind_eq_some_iff.mp h
  split at e2
  · rename_i c
    cases e2
    exact ⟨_, _, vs, rfl, rfl, e1, c, rfl⟩
  · cases e2
theorem oAppend_some {a v x : V} {H K : Hp} (h : oAppend [a, v] H = some (x, K)) : ∃ i, a = .ref i := by
  cases a <;> first | (cases h; done) | skip
  exact ⟨_, rfl⟩
noncomputable def eAppend (o f : Ex) : Ex := fun ρ H => (o ρ H).bind fun p => (f ρ p.2).bind fun q => oAppend [p.1, q.1] q.2
section
variable {prog : Program} {w : World} {Γ : Cx}
theorem S1.put {o i value : Expr} {pos' pos : Pos} {f g k : Ex} (hf : J prog w Γ value f) (ho : J prog w Γ o g) (hi : J prog w Γ i k) (hs : swapsWith value (some (.Subscript o i pos')) pos.line Γ.env = pure false := by rfl) : S1 prog w Γ (.Assign [.Subscript o i pos'] value pos) (sPut f g k) := by
  intro W ρ H fr s Q E r rp hx post
  obtain ⟨p, e1, hx⟩ := Option.bind_eq_some_iff.mp hx
  obtain ⟨q, e2, hx⟩ := Option.bind_eq_some_iff.mp hx
  obtain ⟨u, e3, hx⟩ := Option.bind_eq_some_iff.mp hx
  obtain ⟨K, e4, e5⟩ := Option.map_eq_some_iff.mp hx
  cases e5
  refine wpAny_Assign_Subscript (hf W ρ H fr s _ E _ _ rp e1 fun W1 k1 t1 x l1 r1 x1 => ?_) hs
  refine ho W1 ρ _ fr _ _ E _ _ r1 e2 fun W2 k2 t2 y l2 r2 y2 => ?_
  refine hi W2 ρ _ fr _ _ E _ _ r2 e3 fun W3 k3 t3 z l3 r3 z3 => ?_
  have x3 := x1.mono (l2.trans l3)
  have y3 := y2.mono l3
  obtain ⟨b, kk, vs, eb, ek, hvs, hc, e6⟩ := oPut_some e4
  subst e6
  rw [eb] at y3
  rw [ek] at z3
  cases y3 with
  | @ref _ a ea =>
  cases z3 with
  | int _ tz =>
  obtain ⟨hl, xs, n, hg, hv⟩ := r3.at hvs ea
  obtain ⟨m, c, led, r'⟩ := r3
  have hll := hl
  rw [LEN_eq] at hll
  have hk : kk.toNat < xs.length := by rw [hv.length]; omega
  obtain ⟨_, a', xs', n', h1, h2, h3⟩ := r'.R.lists b vs hvs ea.2
  rw [ea.1] at h1
  cases h1
  have h2 := r'.inLed hc.1 ea.1 h2
  have N2 : News Γ.h₀ Γ.L k3 ((a, lstB xs n) :: led.filter (fun q => decide (q.1 ≠ a))) := by
    intro q hq
    rcases List.mem_cons.mp hq with e | hq
    · subst e
      exact ⟨hg, (r'.N _ h2).2⟩
    · exact r'.N q (List.mem_filter.mp hq).1
  refine ki_set (its := xs.toArray) (n := n) (q := xs.set kk.toNat x) r'.F N2 hc.2.1 (by omega) (by simpa using setL_eq hk) (Upd.head fun q hq => by simpa using (List.mem_filter.mp hq).2) fun h' F' N' => ?_
  exact post W3 h' t3 ((l1.trans l2).trans l3) (r'.changed hc.1 hvs ea F' N' (hv.set _ x3) (by simpa using hl))
theorem J.append {o e : Expr} {apos pos : Pos} {f g : Ex} (ho : J prog w Γ o f) (he : J prog w Γ e g) (hbase : attributeBase o "append" Γ.env (eval o Γ.env) = eval o Γ.env := by rfl)
    (hfew : ((backTo pos (starEach [e] Γ.env)).all (fun x => !x.1) && (backToKw pos (keywordEach [] Γ.env)).all (fun x => x.1.isSome) && decide (([e] : List Expr).length + ([] : List Keyword).length + (if ([] : List Keyword).isEmpty then 0 else 1) < 30)) = true := by rfl)
    (hline : (apos.endLine == pos.line) = true := by rfl) (htrees : backTo pos (starEach [e] Γ.env) = [(false, eval e Γ.env)] := by rfl) : J prog w Γ (.Call (.Attribute o "append" apos) [e] [] pos) (eAppend f g) := by
  intro W ρ H fr s Q E v H' r hx post
  obtain ⟨p, e1, hx⟩ := Option.bind_eq_some_iff.mp hx
  obtain ⟨q, e2, e3⟩ := Option.bind_eq_some_iff.mp hx
  refine wpAny_Call_append hbase hfew hline htrees (ho W ρ H fr s _ E _ _ r e1 fun W1 k1 t1 x l1 r1 x1 => ?_)
  obtain ⟨v1, H1⟩ := p
  obtain ⟨b, hb⟩ := oAppend_some e3
  subst hb
  have hb := r1.refIn x1
  cases x1 with
  | @ref _ a ea =>
  obtain ⟨_, xs, n, hg, hv⟩ := r1.at (List.getElem?_eq_getElem hb) ea
  refine ⟨a, xs.toArray, rfl, ⟨_, n, hg, rfl, rfl, rfl⟩, ?_⟩
  refine he W1 ρ _ fr _ _ E _ _ r1 e2 fun W2 k2 t2 y l2 r2 y2 => ?_
  exact ok_append Γ W2 ρ _ fr _ Q E _ [.ref a, y] v H' r2 (.cons (.ref (l2.at ea)) (.cons y2 .nil)) e3 fun W3 k3 t3 z l3 r3 z3 => post W3 k3 t3 z ((l1.trans l2).trans l3) r3 z3
end
end PM
end
section
set_option maxRecDepth 100000
set_option linter.all false
set_option autoImplicit false
namespace PM
open PySem PySem.W PyProof.Rows PyProof
noncomputable abbrev Nx := Nat → Hp → Option (Option V)
noncomputable def PostN (Γ : Cx) (W : Wd) (ρ : Lc) (H : Hp) (fr : List (Addr × Obj)) (s : Shared) (It : Nat → List (Addr × Obj) → Prop) (i : Nat) (Q : Option Value → Shared → Prop) : Option V → Prop
  | none => ∀ (h' : Heap) (tk' : Nat), Rep Γ W ρ H fr h' → Q none { s with heap := h', toks := tk' }
  | some v => ∀ (fs' : List (Addr × Obj)) (h' : Heap) (tk' : Nat) (x : Value), It (i + 1) fs' → Rep Γ W ρ H (fs' ++ fr) h' → VR W v x → Q (some x) { s with heap := h', toks := tk' }
structure Itr (prog : Program) (w : World) (Γ : Cx) (W0 : Wd) (it : Value) (as : List Addr) (It : Nat → List (Addr × Obj) → Prop) (nx : Nx) : Prop where
  adr : ∀ i fs, It i fs → fs.map (·.1) = as
  next : ∀ (i : Nat) (W : Wd) (ρ : Lc) (H : Hp) (fr fs : List (Addr × Obj)) (s : Shared) (Q : Option Value → Shared → Prop) (E : Value → Shared → Prop) (o : Option V), W0.Le W → Rep Γ W ρ H (fs ++ fr) s.heap → (∀ a ∈ as, ∀ t ∈ fr, a ≠ t.1) → It i fs → nx i H = some o →
    PostN Γ W ρ H fr s It i Q o → wpAny (model prog w) Γ.A (pyNext it) Q E s
  self : ∀ (i : Nat) (W : Wd) (ρ : Lc) (H : Hp) (fr fs : List (Addr × Obj)) (s : Shared) (Q E : Value → Shared → Prop), W0.Le W → Rep Γ W ρ H (fs ++ fr) s.heap → It i fs → Q it s → wpAny (model prog w) Γ.A (pyIter it) Q E s
noncomputable abbrev Src := Lc → Hp → Option (Nx × Nat × Hp)
noncomputable def JI (prog : Program) (w : World) (Γ : Cx) (e : Expr) (g : Src) : Prop := ∀ (W : Wd) (ρ : Lc) (H : Hp) (fr : List (Addr × Obj)) (s : Shared) (Q E : Value → Shared → Prop) (nx : Nx) (n : Nat) (H' : Hp),
  Rep Γ W ρ H fr s.heap → g ρ H = some (nx, n, H') →
  (∀ (W' : Wd) (h' : Heap) (tk' : Nat) (it : Value) (as : List Addr) (It : Nat → List (Addr × Obj) → Prop) (fs : List (Addr × Obj)), W.Le W' → It 0 fs → Rep Γ W' ρ H' (fs ++ fr) h' → (∀ a ∈ as, ∀ t ∈ fr, a ≠ t.1) → Itr prog w Γ W' it as It nx → Q it { s with heap := h', toks := tk' }) →
  wpAny (model prog w) Γ.A (eval e Γ.env) (fun xv s₁ => wpAny (model prog w) Γ.A (pyIter xv) Q E s₁) E s
noncomputable def nxList (a : Nat) : Nx := fun i H => H[a]?.map fun vs => vs[i]?
noncomputable def nxVals (vs : List V) : Nx := fun i _ => some vs[i]?
noncomputable def nxRange (a c : Int) (n : Nat) : Nx := fun i _ => some (if i < n then some (.int (a + i * c)) else none)
noncomputable def gSeq (f : Ex) : Src := fun ρ H => (f ρ H).bind fun p => match p.1 with
  | .ref a => p.2[a]?.map fun vs => (nxList a, vs.length + 1, p.2)
  | .tup vs => some (nxVals vs, vs.length + 1, p.2)
  | _ => none
noncomputable def rngN (a b c : Int) : Nat := (Builtin.Range.rangeSize a b c).toNat
noncomputable def mkRange (a b c : Int) (H : Hp) : Option (Nx × Nat × Hp) := if c ≠ 0 ∧ Builtin.Range.small a b c = true ∧ 0 ≤ Builtin.Range.rangeSize a b c ∧ rngN a b c ≤ LEN ∧ Builtin.divisionGoesByPylong (b - a) c = false then some (nxRange a c (rngN a b c), rngN a b c + 1, H) else none
noncomputable def gRange (g : Exs) : Src := fun ρ H => (g ρ H).bind fun p => match p.1 with
  | [.int b] => mkRange 0 b 1 p.2
  | [.int a, .int b] => mkRange a b 1 p.2
  | [.int a, .int b, .int c] => mkRange a b c p.2
  | _ => none
section
variable {prog : Program} {w : World} {Γ : Cx}
theorem oneItr {W0 : Wd} {I : Addr} {nx : Nx} (P : Nat → Obj → Prop)
    (next : ∀ (i : Nat) (W : Wd) (ρ : Lc) (H : Hp) (fr : List (Addr × Obj)) (ob : Obj) (s : Shared) (Q : Option Value → Shared → Prop) (E : Value → Shared → Prop) (o : Option V), W0.Le W → Rep Γ W ρ H ((I, ob) :: fr) s.heap → P i ob → nx i H = some o →
      (match o with
        | none => ∀ (h' : Heap) (tk' : Nat), (∀ b o, b ≠ I → s.heap.get? b = some o → h'.get? b = some o) → Q none { s with heap := h', toks := tk' }
        | some v => ∀ (ob' : Obj) (h' : Heap) (tk' : Nat) (x : Value), P (i + 1) ob' → h'.get? I = some ob' → (∀ b o, b ≠ I → s.heap.get? b = some o → h'.get? b = some o) → VR W v x → Q (some x) { s with heap := h', toks := tk' }) → wpAny (model prog w) Γ.A (pyNext (.ref I)) Q E s)
    (self : ∀ (i : Nat) (W : Wd) (ρ : Lc) (H : Hp) (fr : List (Addr × Obj)) (ob : Obj) (s : Shared) (Q E : Value → Shared → Prop), W0.Le W → Rep Γ W ρ H ((I, ob) :: fr) s.heap → P i ob → Q (.ref I) s → wpAny (model prog w) Γ.A (pyIter (.ref I)) Q E s) :
    Itr prog w Γ W0 (.ref I) [I] (fun i fs => ∃ ob, fs = [(I, ob)] ∧ P i ob) nx := by
  refine ⟨?_, ?_, ?_⟩
  · rintro i fs ⟨ob, e, _⟩
    rw [e]
    rfl
  · rintro i W ρ H fr fs s Q E o le r ap ⟨ob, e, hp⟩ hn post
    subst e
    refine next i W ρ H fr ob s Q E o le r hp hn ?_
    have ap' : ∀ q ∈ [(I, ob)], ∀ t ∈ fr, q.1 ≠ t.1 := fun q hq t ht => by rw [List.mem_singleton.mp hq]; exact ap I List.mem_cons_self t ht
    cases o with
    | none =>
      intro h' tk' keep
      have := Rep.swap (fs := [(I, ob)]) (fs' := []) r ap' (fun b o hb e => keep b o (fun q => hb (by simp [q])) e) (fun q hq => nomatch hq)
      exact post h' tk' this
    | some v =>
      intro ob' h' tk' x hp' hg keep hx
      have := Rep.swap (fs := [(I, ob)]) (fs' := [(I, ob')]) r ap' (fun b o hb e => keep b o (fun q => hb (by simp [q])) e) (fun q hq => by rw [List.mem_singleton.mp hq]; exact ⟨hg, by simp⟩)
      exact post [(I, ob')] h' tk' x ⟨ob', rfl, hp'⟩ this hx
  · rintro i W ρ H fr fs s Q E le r ⟨ob, e, hp⟩ q
    subst e
    exact self i W ρ H fr ob s Q E le r hp q
theorem JI.seq {e : Expr} {f : Ex} (h : J prog w Γ e f) : JI prog w Γ e (gSeq f) := by
  intro W ρ H fr s Q E nx n H' r hf post
  obtain ⟨p, e1, hf⟩ := Option.bind_eq_some_iff.mp hf
  refine h W ρ H fr s _ E _ _ r e1 fun W1 k1 t1 x l1 r1 x1 => ?_
  obtain ⟨v, H1⟩ := p
  cases x1 with
  | none => cases hf
  | bool _ => cases hf
  | int _ _ => cases hf
  | str _ _ => cases hf
  | obj _ _ _ _ => cases hf
  | @tup vs a xs k hm hl hs =>
    cases hf
    have it : k1.IsTuple a xs.toArray := ⟨_, r1.tupAt hm, rfl, k, rfl⟩
    refine wpAny_pyIter_tuple it ?_
    obtain ⟨r2, ap⟩ := r1.more (fs := [(k1.objs.size, { cls := .type "tuple_iterator", data := .fields #[.ref a, .int 0 0] })]) (fun b o e => Heap.get?_push_of_some { cls := .type "tuple_iterator", data := .fields #[.ref a, .int 0 0] } e) (fun q hq => by rw [List.mem_singleton.mp hq]; exact ⟨Heap.get?_push_size _ rfl, Nat.le_refl _⟩)
    refine post W1 _ t1 _ [k1.objs.size] _ _ l1 ⟨_, rfl, ?_⟩ r2 (fun b hb t ht => by rw [List.mem_singleton.mp hb]; exact ap _ List.mem_cons_self t ht)
      (oneItr (fun i ob => ob.cls = .type "tuple_iterator" ∧ ob.data = .fields #[.ref a, .int i 0]) ?_ ?_)
    · intro i W ρ H fr ob s Q E o le r hp hn post
      have g1 : s.heap.IsTupleIter k1.objs.size a i := ⟨ob, r.frAt List.mem_cons_self, hp.1, hp.2⟩
      have g2 : s.heap.IsTuple a xs.toArray := ⟨_, r.tupAt (le.tups _ hm), rfl, k, rfl⟩
      have ne : a ≠ k1.objs.size := Nat.ne_of_lt (Heap.lt_size (r1.tupAt hm))
      have Wk := Walks.tuple (prog := prog) (w := w) Γ.hh k1.objs.size a ne xs.toArray
      cases hn
      cases ev : vs[i]? with
      | none =>
        rw [ev] at post
        have hi : xs.toArray[i]? = none := by have := List.getElem?_eq_none_iff.mp ev; rw [← hs.length] at this; simpa using this
        exact wpAny_pyNext_tuple_end Γ.hh g1 g2 hi fun h' he' => post h' s.toks fun b o hb e => he' b o hb e
      | some v =>
        rw [ev] at post
        obtain ⟨y, hy, ry⟩ := hs.at ev
        refine wpAny_pyNext_tuple_item g1 g2 (x := y) (by simpa using hy) fun h' hit' hs' => ?_
        obtain ⟨ob', h1, h2, h3⟩ := hit'
        exact post ob' h' s.toks y ⟨h2, h3⟩ h1 (fun b o hb e => hs'.extBut b o hb e) (ry.mono le)
    · intro i W ρ H fr ob s Q E le r hp q
      exact wpAny_pyIter_tupleiter (⟨ob, r.frAt List.mem_cons_self, hp.1, hp.2⟩ : s.heap.IsTupleIter k1.objs.size a i) q
    · exact ⟨rfl, rfl⟩
  | @ref i0 a ea =>
    obtain ⟨vs, e2, e3⟩ := Option.map_eq_some_iff.mp hf
    cases e3
    obtain ⟨hl, xs, k, hg, hv⟩ := r1.at e2 ea
    have isl : k1.IsList a xs.toArray := ⟨_, hg, rfl, k, rfl⟩
    refine wpAny_pyIter_list isl ?_
    obtain ⟨r2, ap⟩ := r1.more (fs := [(k1.objs.size, { cls := .type "list_iterator", data := .fields #[.ref a, .int 0 0] })]) (fun b o e => Heap.get?_push_of_some { cls := .type "list_iterator", data := .fields #[.ref a, .int 0 0] } e) (fun q hq => by rw [List.mem_singleton.mp hq]; exact ⟨Heap.get?_push_size _ rfl, Nat.le_refl _⟩)
    refine post W1 _ t1 _ [k1.objs.size] _ _ l1 ⟨_, rfl, ?_⟩ r2 (fun b hb t ht => by rw [List.mem_singleton.mp hb]; exact ap _ List.mem_cons_self t ht)
      (oneItr (fun i ob => ob.cls = .type "list_iterator" ∧ ob.data = .fields #[.ref a, .int i 0]) ?_ ?_)
    · intro i W ρ H fr ob s Q E o le r hp hn post
      obtain ⟨us, eu, e4⟩ := Option.map_eq_some_iff.mp hn
      subst e4
      obtain ⟨hl2, ys, k2, hg2, hv2⟩ := r.at eu (le.at ea)
      have g1 : s.heap.IsListIter k1.objs.size a i := ⟨ob, r.frAt List.mem_cons_self, hp.1, hp.2⟩
      have g2 : s.heap.IsList a ys.toArray := ⟨_, hg2, rfl, k2, rfl⟩
      cases ev : us[i]? with
      | none =>
        rw [ev] at post
        have hi : ys.toArray[i]? = none := by have := List.getElem?_eq_none_iff.mp ev; rw [← hv2.length] at this; simpa using this
        exact wpAny_pyNext_list_end Γ.hh g1 g2 hi fun h' he' => post h' s.toks fun b o hb e => he' b o hb e
      | some v =>
        rw [ev] at post
        obtain ⟨y, hy, ry⟩ := hv2.at ev
        refine wpAny_pyNext_list_item g1 g2 (x := y) (by simpa using hy) fun h' hit' hs' => ?_
        obtain ⟨ob', h1, h2, h3⟩ := hit'
        exact post ob' h' s.toks y ⟨h2, h3⟩ h1 (fun b o hb e => hs'.extBut b o hb e) ry
    · intro i W ρ H fr ob s Q E le r hp q
      exact wpAny_pyIter_listiter (⟨ob, r.frAt List.mem_cons_self, hp.1, hp.2⟩ : s.heap.IsListIter k1.objs.size a i) q
    · exact ⟨rfl, rfl⟩
theorem mkRange_some {a b c : Int} {H : Hp} {z : Nx × Nat × Hp} (h : mkRange a b c H = some z) : c ≠ 0 ∧ Builtin.divisionGoesByPylong (b - a) c = false := by
  unfold mkRange at h
  split at h
  · rename_i hc
    exact ⟨hc.1, hc.2.2.2.2⟩
  · cases h
theorem rangeItr {W0 : Wd} {I : Addr} {a c : Int} {n : Nat} : Itr prog w Γ W0 (.ref I) [I] (fun i fs => ∃ ob, fs = [(I, ob)] ∧ (i ≤ n ∧ ob = { cls := .type "range_iterator", dict := none, data := .fields #[rawInt (a + (i : Nat) * c), rawInt ((n : Int) - (i : Nat)), rawInt c], slots := #[] })) (nxRange a c n) := by
  have Wk := Walks.range (prog := prog) (w := w) Γ.hh I a c n
  refine oneItr (fun i ob => i ≤ n ∧ ob = { cls := .type "range_iterator", dict := none, data := .fields #[rawInt (a + (i : Nat) * c), rawInt ((n : Int) - (i : Nat)), rawInt c], slots := #[] }) ?_ ?_
  · intro i W ρ H fr ob s Q E o le r hp hn post
    have g : IsRangeIter s.heap I (a + (i : Nat) * c) ((n : Int) - (i : Nat)) c := (r.frAt List.mem_cons_self).trans (congrArg some hp.2)
    cases hn
    by_cases hi : i < n
    · rw [if_pos hi] at post
      refine Wk.item i s Q E hi g fun v h' tk hv st keep => ?_
      obtain ⟨t, e⟩ := hv
      subst e
      exact post _ h' tk _ ⟨hi, rfl⟩ st (fun b o hb e => keep b o (by simpa using hb) e) (.int _ _)
    · rw [if_neg hi] at post
      have e : i = n := by have := hp.1; omega
      subst e
      exact Wk.done s Q E g fun h' tk keep => post h' tk fun b o hb e => keep b o (by simpa using hb) e
  · intro i W ρ H fr ob s Q E le r hp q
    have g : IsRangeIter s.heap I (a + (i : Nat) * c) ((n : Int) - (i : Nat)) c := (r.frAt List.mem_cons_self).trans (congrArg some hp.2)
    exact Wk.self i s Q E g q
theorem afterRange {a b c : Int} {t u v : Tok} {W : Wd} {ρ : Lc} {H : Hp} {fr : List (Addr × Obj)} {s : Shared} {k : Heap} {tk : Nat} {Q E : Value → Shared → Prop} {nx : Nx} {n : Nat} {H' : Hp} (r : Rep Γ W ρ H fr k) (hm : mkRange a b c H = some (nx, n, H'))
    (post : ∀ (W' : Wd) (h' : Heap) (tk' : Nat) (it : Value) (as : List Addr) (It : Nat → List (Addr × Obj) → Prop) (fs : List (Addr × Obj)), W.Le W' → It 0 fs → Rep Γ W' ρ H' (fs ++ fr) h' → (∀ a ∈ as, ∀ t ∈ fr, a ≠ t.1) → Itr prog w Γ W' it as It nx → Q it { s with heap := h', toks := tk' }) :
    wpAny (model prog w) Γ.A (pyIter (.ref k.objs.size)) Q E { s with heap := k.push { cls := .type "range", data := .fields #[.int a t, .int b u, .int c v] }, toks := tk } := by
  unfold mkRange at hm
  split at hm
  · rename_i hc
    cases hm
    have hr : IsRange (k.push { cls := .type "range", data := .fields #[.int a t, .int b u, .int c v] }) k.objs.size a b c t u v := IsRange.new ..
    refine wpAny_pyIter_range hr hc.2.1 ?_
    have rp := r.push { cls := .type "range", data := .fields #[.int a t, .int b u, .int c v] }
    have en : Builtin.Range.rangeSize a b c = ((rngN a b c : Nat) : Int) := (Int.toNat_of_nonneg hc.2.2.1).symm
    dsimp only
    generalize hk : k.push { cls := .type "range", data := .fields #[.int a t, .int b u, .int c v] } = k2 at rp ⊢
    obtain ⟨r2, ap⟩ := rp.more (fs := [(k2.objs.size, { cls := .type "range_iterator", data := .fields #[rawInt a, rawInt (Builtin.Range.rangeSize a b c), rawInt c] })]) (fun b' o e => Heap.get?_push_of_some { cls := .type "range_iterator", data := .fields #[rawInt a, rawInt (Builtin.Range.rangeSize a b c), rawInt c] } e) (fun q hq => by rw [List.mem_singleton.mp hq]; exact ⟨Heap.get?_push_size _ rfl, Nat.le_refl _⟩)
    refine post W _ tk _ [k2.objs.size] _ _ (.refl W) ⟨_, rfl, Nat.zero_le _, ?_⟩ r2 (fun b hb t ht => by rw [List.mem_singleton.mp hb]; exact ap _ List.mem_cons_self t ht) (rangeItr (a := a) (c := c) (n := rngN a b c))
    rw [en]
    simp
  · cases hm
theorem JI.range {x : Str} {np pos : Pos} {e : Expr} {es : List Expr} {g : Exs} (hn : Nm prog w Γ x (.type "range")) (h : Js prog w Γ (e :: es) g)
    (he : starEach (e :: es) Γ.env = (false, eval e Γ.env) :: starEach es Γ.env := by rfl) (hp : ∀ pos, (backTo pos (starEach es Γ.env)).any (·.1) = false := by intro _; rfl) : JI prog w Γ (.Call (.Name x np) (e :: es) [] pos) (gRange g) := by
  intro W ρ H fr s Q E nx n H' r hf post
  obtain ⟨p, e1, hf⟩ := Option.bind_eq_some_iff.mp hf
  refine wpAny_Call_ofName (hn.use r ?_)
  refine PySem.Pv.callWith_type1 (h pos W ρ H fr s _ E _ _ r e1 fun W1 k1 t1 xs l1 r1 x1 => ?_) he (hp pos)
  obtain ⟨vs, H1⟩ := p
  dsimp only at hf x1 r1
  have post1 := fun W' h' tk' it as It fs (l : W1.Le W') => post W' h' tk' it as It fs (l1.trans l)
  split at hf
  · obtain ⟨y, ex, ry⟩ := x1.one
    subst ex
    cases ry
    exact call_range_1 (afterRange r1 hf post1)
  · obtain ⟨y, z, ex, ry, rz⟩ := x1.two
    subst ex
    cases ry
    cases rz
    exact call_range_2 (afterRange r1 hf post1)
  · cases x1 with
    | cons ry x1 =>
    obtain ⟨y, z, ex, rz, ru⟩ := x1.two
    subst ex
    cases ry
    cases rz
    cases ru
    have hc := mkRange_some hf
    exact call_range_3 hc.1 (afterRange r1 hf post1) (.inl hc.2)
  · cases hf
end
noncomputable def sForI (nx : Nx) (put : V → Lc → Option Lc) (b : Sm) : Nat → Nat → Sm
  | 0, _ => fun _ _ => none
  | n + 1, i => fun ρ H => (nx i H).bind fun o => match o with
    | none => some (none, ρ, H)
    | some v => (put v ρ).bind fun ρ1 => (b ρ1 H).bind fun q => match q.1 with
      | some _ => some q
      | none => sForI nx put b n (i + 1) q.2.1 q.2.2
noncomputable def sFor (g : Src) (put : V → Lc → Option Lc) (b : Sm) : Sm := fun ρ H => (g ρ H).bind fun z => sForI z.1 put b z.2.1 0 ρ z.2.2
noncomputable def put1 (i : Nat) : V → Lc → Option Lc := fun v ρ => some (upd ρ i v)
section
variable {prog : Program} {w : World} {Γ : Cx}
theorem S1.for {x : Str} {i : Nat} {px pos : Pos} {it : Expr} {body : List Stmt} {g : Src} {b : Sm} (hx : Sto prog w Γ x i) (hg : JI prog w Γ it g) (hb : Ss prog w Γ body b) (hs : ∀ x, foldedSetIterable it Γ.env x = pure x := by intro _; rfl) : S1 prog w Γ (.For (.Name x px) it body [] pos) (sFor g (put1 i) b) := by
  intro W ρ H fr s Q E r rp hf post
  obtain ⟨z, e1, hf⟩ := Option.bind_eq_some_iff.mp hf
  obtain ⟨nx, n, H0⟩ := z
  refine wpAny_For (hg W ρ H fr s _ E nx n H0 rp e1 fun W1 k1 t1 itv as It fs l1 i1 r1 ap I1 => ?_) hs
  refine codeAny_forLoop (fun k s' => ∃ W' ρ' H' h' tk' j fs', s' = { s with heap := h', toks := tk' } ∧ W1.Le W' ∧ It j fs' ∧ Rep Γ W' ρ' H' (fs' ++ fr) h' ∧ sForI nx (put1 i) b k j ρ' H' = some r) ?_ n ⟨W1, ρ, H0, k1, t1, 0, fs, rfl, .refl _, i1, r1, hf⟩
  rintro k s' ⟨W2, ρ2, H2, k2, t2, j, fs2, rfl, l2, i2, r2, e⟩
  cases k with
  | zero => cases e
  | succ k =>
    obtain ⟨o, e2, e⟩ := Option.bind_eq_some_iff.mp e
    refine I1.next j W2 ρ2 H2 fr fs2 _ _ _ o l2 r2 ap i2 e2 ?_
    cases o with
    | none =>
      cases e
      intro h' tk' r3
      exact wpAny_execs_nil (post W2 h' tk' (l1.trans l2) r3)
    | some v =>
      intro fs3 k3 t3 y i3 r3 y3
      obtain ⟨ρ3, e3, e⟩ := Option.bind_eq_some_iff.mp e
      cases e3
      obtain ⟨q, e4, e⟩ := Option.bind_eq_some_iff.mp e
      refine wpAny_assign_Name (hx W2 ρ2 H2 (fs3 ++ fr) _ _ _ v y r3 y3 fun k4 t4 r4 => ?_)
      refine hb W2 _ H2 (fs3 ++ fr) _ _ _ q r4 e4 ?_
      obtain ⟨u, ρ5, H5⟩ := q
      cases u with
      | some u =>
        cases e
        exact fun W5 k5 t5 x5 l5 r5 v5 => post W5 k5 t5 x5 ((l1.trans l2).trans l5) (r5.less fun q hq => List.mem_append_right _ hq) v5
      | none => exact fun W5 k5 t5 l5 r5 => ⟨k, Nat.lt_succ_self k, W5, ρ5, H5, k5, t5, j + 1, fs3, rfl, l2.trans l5, i3, r5, e⟩
end
end PM
end
section
set_option maxRecDepth 100000
set_option linter.all false
set_option autoImplicit false
namespace PM
open PySem PySem.W PySem.Calls PyProof.Rows PyProof
structure OwnF (names : List Str) (cs : Scope) (cl : List (Str × Addr)) (W : Wd) (ρ : Lc) (m : Str → Option Value) (cells : List (Addr × Obj)) : Prop where
  loc : ∀ (i : Nat) (x : Str) (v : V), names[i]? = some x → cs.names.lookup x = some .local → ρ i = some v → ∃ y, m x = some y ∧ VR W v y
  cel : ∀ (i : Nat) (x : Str) (v : V), names[i]? = some x → cs.names.lookup x = some .cell → ρ i = some v → ∃ c o y, cl.lookup x = some c ∧ (c, o) ∈ cells ∧ o.data = .cell (some y) ∧ VR W v y
  all : ∀ (x : Str) (c : Addr), cl.lookup x = some c → ∃ o v₀, (c, o) ∈ cells ∧ o.data = .cell v₀
  one : ∀ (x y : Str) (c : Addr), cl.lookup x = some c → cl.lookup y = some c → x = y
theorem OwnF.mono {names : List Str} {cs : Scope} {cl : List (Str × Addr)} {W W' : Wd} {ρ : Lc} {m : Str → Option Value} {cells : List (Addr × Obj)} (l : W.Le W') (h : OwnF names cs cl W ρ m cells) : OwnF names cs cl W' ρ m cells :=
  ⟨fun i x v a b c => by
    obtain ⟨y, h1, h2⟩ := h.loc i x v a b c
    exact ⟨y, h1, h2.mono l⟩, fun i x v a b c => by
    obtain ⟨d, o, y, h1, h2, h3, h4⟩ := h.cel i x v a b c
    exact ⟨d, o, y, h1, h2, h3, h4.mono l⟩, h.all, h.one⟩
noncomputable def fnCx (dp un : Nat) (gd : Option (List Code)) (cn : Str) (cs : Scope) (L a : Addr) (ccd : Value) (cl : List (Str × Addr)) (outer : List Env) (h₀ : Heap) (hu : un + 200 < cLine) (names : List Str) : Cx where
  A := ktrTop dp un gd cn cs L a ccd cl outer
  env := envX cn cs L a ccd cl
  h₀ := h₀
  L := L
  hh := rfl
  hu := hu
  Own := OwnF names cs cl
  mono := OwnF.mono
section
variable {prog : Program} {w : World} {dp un : Nat} {gd : Option (List Code)} {cn : Str} {cs : Scope} {L a : Addr} {ccd : Value} {cl : List (Str × Addr)} {outer : List Env} {h₀ : Heap} {hu : un + 200 < cLine} {names : List Str}
theorem rd_loc {x : Str} {i : Nat} (hi : names[i]? = some x) (hx : cs.names.lookup x = some .local) (hk : cs.kind = .function) (hd : (x == ("__debug__" : Str)) = false) : Rd prog w (fnCx dp un gd cn cs L a ccd cl outer h₀ hu names) x i := by
  intro W ρ H fr s Q E v pos r e q
  obtain ⟨m, c, led, r⟩ := r
  obtain ⟨y, h1, h2⟩ := r.own.loc i x v hi hx e
  exact nameX_L r.F h1 (q y h2) hk hx hd
theorem rd_cel {x : Str} {i : Nat} (hi : names[i]? = some x) (hx : cs.names.lookup x = some .cell) (hk : cs.kind = .function) (hd : (x == ("__debug__" : Str)) = false) : Rd prog w (fnCx dp un gd cn cs L a ccd cl outer h₀ hu names) x i := by
  intro W ρ H fr s Q E v pos r e q
  obtain ⟨m, c, led, r⟩ := r
  obtain ⟨d, o, y, h1, h2, h3, h4⟩ := r.own.cel i x v hi hx e
  exact nameX_C r.N h1 (r.clIn _ h2) h3 (q y h4) hk hx hd
theorem sto_loc {x : Str} {i : Nat} (nd : names.Nodup) (hi : names[i]? = some x) (hx : cs.names.lookup x = some .local) (hk : cs.kind = .function) : Sto prog w (fnCx dp un gd cn cs L a ccd cl outer h₀ hu names) x i := by
  intro W ρ H fr s Q E v y r vy q
  obtain ⟨m, c, led, r⟩ := r
  have hi' : i < names.length := (List.getElem?_eq_some_iff.mp hi).1
  refine storeX_L r.F r.N (fun h' F' N' => q h' _ ⟨_, c, led, ⟨F', N', r.R, r.sc, r.sc0, r.frIn, r.frOff, r.clIn, r.clOff, r.apart, r.frTup, r.clTup, ⟨fun j z u hj hz hu => ?_, fun j z u hj hz hu => ?_, r.own.all, r.own.one⟩⟩⟩) hk hx
  · by_cases e : j = i
    · subst e
      rw [hi] at hj
      cases hj
      simp only [upd, if_true] at hu
      cases hu
      exact ⟨y, by simp, vy⟩
    · have hzx : z ≠ x := fun e' => by
        subst e'
        exact e ((List.getElem?_inj (List.getElem?_eq_some_iff.mp hj).1 nd).mp (hj.trans hi.symm))
      simp only [upd, if_neg e] at hu
      obtain ⟨y', h1, h2⟩ := r.own.loc j z u hj hz hu
      exact ⟨y', by simp [hzx, h1], h2⟩
  · by_cases e : j = i
    · subst e
      rw [hi] at hj
      cases hj
      rw [hx] at hz
      cases hz
    · simp only [upd, if_neg e] at hu
      exact r.own.cel j z u hj hz hu
end
end PM
end
section
set_option maxRecDepth 100000
set_option linter.all false
set_option autoImplicit false
namespace PM
open PySem PySem.W PySem.Calls PyProof.Rows PyProof PyProof.Rows.LCg
theorem Rep.adopt {Γ : Cx} {W : Wd} {ρ : Lc} {H : Hp} {fr : List (Addr × Obj)} {h : Heap} {D : Addr} {ys : List Value} {k : Nat} {vs : List V} (r : Rep Γ W ρ H ((D, lstB ys k) :: fr) h) (ap : ∀ t ∈ fr, D ≠ t.1) (hv : VRs W vs ys) (hl : vs.length ≤ LEN) :
    ∃ W', W.Le W' ∧ Rep Γ W' ρ (H ++ [vs]) fr h ∧ VR W' (.ref H.length) (.ref D) := by
  obtain ⟨m, c, led, r⟩ := r
  have le : W.Le ⟨W.pi ++ [D], W.tups, W.sc, W.ins⟩ := ⟨List.prefix_append _ _, fun q hq => hq, rfl, fun _ h => h, fun _ h => .inl h⟩
  have nin : ∀ q ∈ W.ins, q.1 ≠ H.length := fun q hq e => by have := r.R.inlt q hq; omega
  have h0 : 0 < W.pi.length := (List.getElem?_eq_some_iff.mp r.sc0).1
  have at_n : (W.pi ++ [D])[H.length]? = some D := by rw [← r.R.len]; simp
  have off := r.frOff _ List.mem_cons_self
  refine ⟨⟨W.pi ++ [D], W.tups, W.sc, W.ins⟩, le, ⟨m, c, led, ⟨r.F, r.N, ⟨by simp [r.R.len], ?_, fun i us e ni => ?_, r.R.tups, r.R.kind, fun i us fs e hi => ?_, fun q hq => by have := r.R.inlt q hq; simp; omega, r.R.iuni⟩, r.sc, (List.getElem?_append_left h0).trans r.sc0, fun q hq => r.frIn q (List.mem_cons_of_mem _ hq), fun q hq => ?_, r.clIn, fun q hq => ?_, fun q hq t ht => r.apart q hq t (List.mem_cons_of_mem _ ht), fun q hq => r.frTup q (List.mem_cons_of_mem _ hq), r.clTup, Γ.mono le r.own⟩⟩, .ref ⟨at_n, nin⟩⟩
  · show (W.pi ++ [D]).Nodup
    rw [List.nodup_append]
    refine ⟨r.R.nd, by simp, fun a ha b hb => ?_⟩
    rw [List.mem_singleton.mp hb]
    exact fun e => off (e ▸ ha)
  · by_cases hi : i < H.length
    · rw [List.getElem?_append_left hi] at e
      obtain ⟨l, a, zs, j, h1, h2, h3⟩ := r.R.lists i us e ni
      exact ⟨l, a, zs, j, le.piAt h1, h2, h3.mono le⟩
    · have : i = H.length := by
        have := (List.getElem?_eq_some_iff.mp e).1
        simp at this
        omega
      subst this
      simp at e
      subst e
      exact ⟨hl, D, ys, k, at_n, List.mem_cons_of_mem _ (r.frIn _ List.mem_cons_self), hv.mono le⟩
  · have hi' : i < H.length := r.R.inlt _ hi
    rw [List.getElem?_append_left hi'] at e
    obtain ⟨l, a, od, zs, h1, h2, h3, h4⟩ := r.R.objs i us fs e hi
    exact ⟨l, a, od, zs, le.piAt h1, h2, h3, h4.mono le⟩
  · intro hm
    rcases List.mem_append.mp hm with hm | hm
    · exact r.frOff q (List.mem_cons_of_mem _ hq) hm
    · exact ap q hq (List.mem_singleton.mp hm).symm
  · intro hm
    rcases List.mem_append.mp hm with hm | hm
    · exact r.clOff q hq hm
    · exact r.apart q hq _ List.mem_cons_self (List.mem_singleton.mp hm)
noncomputable def OwnC (Γ : Cx) (C : Addr) (ts : List (Str × Nat)) (ρ0 : Lc) (W : Wd) (ρ : Lc) (m : Str → Option Value) (cells : List (Addr × Obj)) : Prop :=
  ∃ oC m₂ cs, cells = (C, oC) :: cs ∧ (∀ q ∈ cs, q.1 ≠ C) ∧ NsObj oC m₂ ∧ (∀ p ∈ ts, ∃ v y, ρ p.2 = some v ∧ m₂ p.1 = some y ∧ VR W v y) ∧ (∀ j, (∀ p ∈ ts, p.2 ≠ j) → ρ j = ρ0 j) ∧ Γ.Own W ρ0 m cs
noncomputable def cpCx (Γ : Cx) (scope : Scope) (cl : List (Str × Addr)) (C : Addr) (ts : List (Str × Nat)) (ρ0 : Lc) : Cx where
  A := Γ.A
  env := compEnvC scope cl C Γ.env
  h₀ := Γ.h₀
  L := Γ.L
  hh := Γ.hh
  hu := Γ.hu
  Own := OwnC Γ C ts ρ0
  mono := fun l h => by
    obtain ⟨oC, m₂, cs, e, h0, h1, h2, h3, h4⟩ := h
    exact ⟨oC, m₂, cs, e, h0, h1, fun p hp => by
      obtain ⟨v, y, a, b, c⟩ := h2 p hp
      exact ⟨v, y, a, b, c.mono l⟩, h3, Γ.mono l h4⟩
section
variable {Γ : Cx} {scope : Scope} {cl : List (Str × Addr)} {C : Addr} {ts : List (Str × Nat)} {ρ0 : Lc} {W : Wd} {ρ : Lc} {H : Hp} {fr : List (Addr × Obj)} {h : Heap}
theorem Rep.toC {oC : Obj} {m₂ : Str → Option Value} (r : Rep Γ W ρ0 H ((C, oC) :: fr) h) (ap : ∀ t ∈ fr, C ≠ t.1) (hC : NsObj oC m₂) (ht : ∀ p ∈ ts, ∃ v y, ρ p.2 = some v ∧ m₂ p.1 = some y ∧ VR W v y) (hj : ∀ j, (∀ p ∈ ts, p.2 ≠ j) → ρ j = ρ0 j) : Rep (cpCx Γ scope cl C ts ρ0) W ρ H fr h := by
  obtain ⟨m, c, led, r⟩ := r
  refine ⟨m, (C, oC) :: c, led, ⟨r.F, r.N, r.R, r.sc, r.sc0, fun q hq => r.frIn q (List.mem_cons_of_mem _ hq), fun q hq => r.frOff q (List.mem_cons_of_mem _ hq), fun q hq => ?_, fun q hq => ?_, fun q hq t ht => ?_, fun q hq => r.frTup q (List.mem_cons_of_mem _ hq), fun q hq t ht => ?_, ⟨oC, m₂, c, rfl, fun q hq => r.apart q hq _ List.mem_cons_self, hC, ht, hj, r.own⟩⟩⟩
  · rcases List.mem_cons.mp hq with e | hq
    · exact e ▸ r.frIn _ List.mem_cons_self
    · exact r.clIn q hq
  · rcases List.mem_cons.mp hq with e | hq
    · exact e ▸ r.frOff _ List.mem_cons_self
    · exact r.clOff q hq
  · rcases List.mem_cons.mp hq with e | hq
    · exact e ▸ ap t ht
    · exact r.apart q hq t (List.mem_cons_of_mem _ ht)
  · rcases List.mem_cons.mp hq with e | hq
    · exact e ▸ r.frTup _ List.mem_cons_self t ht
    · exact r.clTup q hq t ht
theorem Rep.fromC (r : Rep (cpCx Γ scope cl C ts ρ0) W ρ H fr h) : ∃ oC m₂, NsObj oC m₂ ∧ Rep Γ W ρ0 H ((C, oC) :: fr) h := by
  obtain ⟨m, c, led, r⟩ := r
  obtain ⟨oC, m₂, cs, e, h0, h1, h2, h3, h4⟩ := r.own
  subst e
  refine ⟨oC, m₂, h1, m, cs, led, ⟨r.F, r.N, r.R, r.sc, r.sc0, fun q hq => ?_, fun q hq => ?_, fun q hq => r.clIn q (List.mem_cons_of_mem _ hq), fun q hq => r.clOff q (List.mem_cons_of_mem _ hq), fun q hq t ht => ?_, fun q hq t ht => ?_, fun q hq => r.clTup q (List.mem_cons_of_mem _ hq), h4⟩⟩
  · rcases List.mem_cons.mp hq with e | hq
    · exact e ▸ r.clIn _ List.mem_cons_self
    · exact r.frIn q hq
  · rcases List.mem_cons.mp hq with e | hq
    · exact e ▸ r.clOff _ List.mem_cons_self
    · exact r.frOff q hq
  · rcases List.mem_cons.mp ht with e | ht
    · rw [e]
      exact h0 q hq
    · exact r.apart q (List.mem_cons_of_mem _ hq) t ht
  · rcases List.mem_cons.mp hq with e | hq
    · exact e ▸ r.clTup _ List.mem_cons_self t ht
    · exact r.frTup q hq t ht
end
noncomputable def JF (prog : Program) (w : World) (Γ : Cx) (ifs : List Expr) (f : Ts) : Prop := ∀ (W : Wd) (ρ : Lc) (H : Hp) (fr : List (Addr × Obj)) (s : Shared) (Q : Bool → Shared → Prop) (E : Value → Shared → Prop) (b : Bool) (H' : Hp),
  Rep Γ W ρ H fr s.heap → f ρ H = some (b, H') → PostB Γ W ρ H' fr s Q b →
  wpAny (model prog w) Γ.A (forIn ifs true fun c r => if r = true then do let ok ← isTrue c Γ.env (eval c Γ.env); pure (ForInStep.yield ok) else pure (ForInStep.yield r)) Q E s
section
variable {prog : Program} {w : World} {Γ : Cx}
theorem JF.one {e : Expr} {t : Ts} (h : JT prog w Γ e t) : JF prog w Γ [e] t := fun W ρ H fr s Q E b H' r hf post => by
  rw [List.forIn_cons]
  simp only [if_true, List.forIn_nil]
  refine wpAny_bind (wpAny_bind (h W ρ H fr s _ E b H' r hf fun W1 k1 t1 l1 r1 => wpAny_pure ?_))
  exact wpAny_pure (post W1 k1 t1 l1 r1)
end
end PM
end
section
set_option maxRecDepth 100000
set_option linter.all false
set_option autoImplicit false
namespace PM
open PySem PySem.W PySem.Calls PyProof.Rows PyProof PyProof.Rows.LCg
noncomputable def cLoop (nx : Nx) (put : V → Lc → Option Lc) (c : Ts) (f : Ex) (ρ : Lc) : Nat → Nat → List V → Hp → Option (List V × Hp)
  | 0, _, _, _ => none
  | n + 1, i, acc, H => (nx i H).bind fun o => match o with
    | none => some (acc, H)
    | some v => (put v ρ).bind fun ρ1 => (c ρ1 H).bind fun b => if b.1 then (f ρ1 b.2).bind fun p => (if acc.length < LEN then cLoop nx put c f ρ n (i + 1) (acc ++ [p.1]) p.2 else none) else cLoop nx put c f ρ n (i + 1) acc b.2
noncomputable def eComp (g : Src) (put : V → Lc → Option Lc) (c : Ts) (f : Ex) : Ex := fun ρ H => (g ρ H).bind fun z => (cLoop z.1 put c f ρ z.2.1 0 [] z.2.2).map fun q => (.ref q.2.length, q.2 ++ [q.1])
noncomputable def CInv (Γ : Cx) (W0 : Wd) (ρ : Lc) (fr : List (Addr × Obj)) (C D : Addr) (It : Nat → List (Addr × Obj) → Prop) (nx : Nx) (put : V → Lc → Option Lc) (c : Ts) (f : Ex) (q : List V × Hp) (s : Shared) (k : Nat) (s' : Shared) : Prop :=
  ∃ W' H' h' tk' j fs acc ys oC m₂, s' = { s with heap := h', toks := tk' } ∧ W0.Le W' ∧ It j fs ∧ NsObj oC m₂ ∧ VRs W' acc ys ∧ acc.length ≤ LEN ∧ Rep Γ W' ρ H' ((C, oC) :: (D, lst ys) :: (fs ++ fr)) h' ∧ cLoop nx put c f ρ k j acc H' = some q
section
variable {prog : Program} {w : World} {Γ : Cx}
theorem comp_elt0 {scope : Scope} {cl : List (Str × Addr)} {elt : Expr} {ts : List (Str × Nat)} {W0 W : Wd} {ρ ρ1 : Lc} {H : Hp} {fr fs : List (Addr × Obj)} {C D : Addr} {It : Nat → List (Addr × Obj) → Prop} {nx : Nx} {put : V → Lc → Option Lc} {c : Ts} {f : Ex} {q : List V × Hp} {s : Shared} {h : Heap} {tk : Nat} {k j : Nat} {acc : List V} {ys : List Value} {E : Value → Shared → Prop}
    (hel : J prog w (cpCx Γ scope cl C ts ρ) elt f) (aD : ∀ t ∈ fs ++ fr, D ≠ t.1) (cd : C ≠ D) (l0 : W0.Le W) (hit : It (j + 1) fs) (hv : VRs W acc ys) (r : Rep (cpCx Γ scope cl C ts ρ) W ρ1 H ((D, lst ys) :: (fs ++ fr)) h)
    (e : ((f ρ1 H).bind fun p => (if acc.length < LEN then cLoop nx put c f ρ k (j + 1) (acc ++ [p.1]) p.2 else none)) = some q) :
    wpAny (model prog w) Γ.A (eval elt (compEnvC scope cl C Γ.env)) (fun x s₄ => wpAny (model prog w) Γ.A (call (.builtin "list.append") [.ref D, x]) (fun _ s₅ => ∃ m, m < k + 1 ∧ CInv Γ W0 ρ fr C D It nx put c f q s m s₅) E s₄) E { s with heap := h, toks := tk } := by
  obtain ⟨p, e2, e⟩ := Option.bind_eq_some_iff.mp e
  by_cases hlt : acc.length < LEN
  · rw [if_pos hlt] at e
    refine hel W ρ1 H _ _ _ E _ _ r e2 fun W2 k2 t2 x l2 r2 x2 => ?_
    obtain ⟨oC', m₃, hC', r3⟩ := r2.fromC
    have hD : k2.get? D = some (lst ys) := r3.frAt (q := (D, lst ys)) (List.mem_cons_of_mem _ List.mem_cons_self)
    refine append_at (hsz := LEN_size (by rw [List.size_toArray, hv.length]; omega)) hD fun h' sb hg => ?_
    have hg' : h'.get? D = some (lst (ys ++ [x])) := hg.trans (congrArg some (lst_snoc ys x))
    have r4 : Rep Γ W2 ρ p.2 ([(D, lst ys)] ++ ((C, oC') :: (fs ++ fr))) k2 := r3.less fun q hq => by
      rcases List.mem_append.mp hq with hq | hq
      · rw [List.mem_singleton.mp hq]
        exact List.mem_cons_of_mem _ List.mem_cons_self
      · rcases List.mem_cons.mp hq with e | hq
        · exact e ▸ List.mem_cons_self
        · exact List.mem_cons_of_mem _ (List.mem_cons_of_mem _ hq)
    have r5 : Rep Γ W2 ρ p.2 ([(D, lst (ys ++ [x]))] ++ ((C, oC') :: (fs ++ fr))) h' := by
      refine r4.swap (fun q hq t ht => ?_) (fun b o hb e => sb.extBut b o (fun z => hb (by simp [z])) e) fun q hq => ?_
      · rw [List.mem_singleton.mp hq]
        rcases List.mem_cons.mp ht with e | ht
        · rw [e]
          exact cd.symm
        · exact aD t ht
      · rw [List.mem_singleton.mp hq]
        exact ⟨hg', by simp⟩
    have r6 : Rep Γ W2 ρ p.2 ((C, oC') :: (D, lst (ys ++ [x])) :: (fs ++ fr)) h' := r5.less fun q hq => by
      rcases List.mem_cons.mp hq with e | hq
      · exact e ▸ List.mem_append_right _ List.mem_cons_self
      · rcases List.mem_cons.mp hq with e | hq
        · exact e ▸ List.mem_append_left _ List.mem_cons_self
        · exact List.mem_append_right _ (List.mem_cons_of_mem _ hq)
    exact ⟨k, Nat.lt_succ_self k, W2, p.2, h', t2, j + 1, fs, acc ++ [p.1], ys ++ [x], oC', m₃, rfl, l0.trans l2, hit, hC', (hv.mono l2).snoc x2, by simp; omega, r6, e⟩
  · rw [if_neg hlt] at e
    cases e
theorem comp_elt {scope : Scope} {cl : List (Str × Addr)} {elt : Expr} {ifs : List Expr} {ts : List (Str × Nat)} {W0 W : Wd} {ρ ρ1 : Lc} {H : Hp} {fr fs : List (Addr × Obj)} {C D : Addr} {It : Nat → List (Addr × Obj) → Prop} {nx : Nx} {put : V → Lc → Option Lc} {c : Ts} {f : Ex} {q : List V × Hp} {s s1 : Shared} {k j : Nat} {acc : List V} {ys : List Value} {oC : Obj} {m₂ : Str → Option Value} {E : Value → Shared → Prop}
    (hel : J prog w (cpCx Γ scope cl C ts ρ) elt f) (hif : JF prog w (cpCx Γ scope cl C ts ρ) ifs c) (hs : ∃ h tk, s1 = { s with heap := h, toks := tk })
    (aC : ∀ t ∈ (D, lst ys) :: (fs ++ fr), C ≠ t.1) (aD : ∀ t ∈ fs ++ fr, D ≠ t.1) (l0 : W0.Le W) (hit : It (j + 1) fs) (hC : NsObj oC m₂) (hv : VRs W acc ys) (hl : acc.length ≤ LEN) (r : Rep Γ W ρ H ((C, oC) :: (D, lst ys) :: (fs ++ fr)) s1.heap)
    (ht : ∀ p ∈ ts, ∃ v y, ρ1 p.2 = some v ∧ m₂ p.1 = some y ∧ VR W v y) (hj : ∀ i, (∀ p ∈ ts, p.2 ≠ i) → ρ1 i = ρ i)
    (e : ((c ρ1 H).bind fun b => if b.1 then (f ρ1 b.2).bind fun p => (if acc.length < LEN then cLoop nx put c f ρ k (j + 1) (acc ++ [p.1]) p.2 else none) else cLoop nx put c f ρ k (j + 1) acc b.2) = some q) :
    wpAny (model prog w) Γ.A (forIn ifs true fun c r => if r = true then do let ok ← isTrue c (compEnvC scope cl C Γ.env) (eval c (compEnvC scope cl C Γ.env)); pure (ForInStep.yield ok) else pure (ForInStep.yield r)) (fun ok s₃ =>
      if ok = true then wpAny (model prog w) Γ.A (eval elt (compEnvC scope cl C Γ.env)) (fun x s₄ => wpAny (model prog w) Γ.A (call (.builtin "list.append") [.ref D, x]) (fun _ s₅ => ∃ m, m < k + 1 ∧ CInv Γ W0 ρ fr C D It nx put c f q s m s₅) E s₄) E s₃
      else ∃ m, m < k + 1 ∧ CInv Γ W0 ρ fr C D It nx put c f q s m s₃) E s1 := by
  obtain ⟨h, tk, rfl⟩ := hs
  obtain ⟨b, e1, e⟩ := Option.bind_eq_some_iff.mp e
  obtain ⟨b, H1⟩ := b
  have rc := Rep.toC (scope := scope) (cl := cl) r aC hC ht hj
  refine hif W ρ1 H _ _ _ E b H1 rc e1 fun W1 k1 t1 l1 r1 => ?_
  cases b with
  | false =>
    obtain ⟨oC', m₃, hC', r2⟩ := r1.fromC
    exact ⟨k, Nat.lt_succ_self k, W1, H1, k1, t1, j + 1, fs, acc, ys, oC', m₃, rfl, l0.trans l1, hit, hC', hv.mono l1, hl, r2, e⟩
  | true => exact comp_elt0 hel aD (aC (D, lst ys) List.mem_cons_self) (l0.trans l1) hit (hv.mono l1) r1 e
theorem comp_core {elt iter : Expr} {x : Str} {px : Pos} {ifs : List Expr} {scope : Scope} {pos : Pos} {cl : List (Str × Addr)} {t : Nat} {g : Src} {c : Ts} {f : Ex} (hg : JI prog w Γ iter g) (hel : ∀ C ρ, J prog w (cpCx Γ scope cl C [(x, t)] ρ) elt f) (hif : ∀ C ρ, JF prog w (cpCx Γ scope cl C [(x, t)] ρ) ifs c)
    (hcell : ∀ y ∈ scope.names, y.2 ≠ .cell) (hkind : scope.kind = .function) (hx : scope.names.lookup x = some .local)
    {W : Wd} {ρ : Lc} {H : Hp} {fr : List (Addr × Obj)} {s : Shared} {E : Value → Shared → Prop} {q : List V × Hp} {RR : Value → Addr → Result → Shared → Prop} (r : Rep Γ W ρ H fr s.heap) (hf : ((g ρ H).bind fun z => cLoop z.1 (put1 t) c f ρ z.2.1 0 [] z.2.2) = some q)
    (hR : ∀ (W' : Wd) (h' : Heap) (tk' : Nat) (C D : Addr) (oC : Obj) (m₂ : Str → Option Value) (ys : List Value), W.Le W' → NsObj oC m₂ → VRs W' q.1 ys → q.1.length ≤ LEN → (∀ t ∈ fr, D ≠ t.1) → (∀ t ∈ fr, C ≠ t.1) → C ≠ D → Rep Γ W' ρ q.2 ((C, oC) :: (D, lst ys) :: fr) h' → RR (.ref D) C (.ok .next) { s with heap := h', toks := tk' }) :
    wpAny (model prog w) Γ.A (eval iter Γ.env) (fun xv s₁ => wpAny (model prog w) Γ.A (pyIter xv) (fun it s₂ => wpAny (model prog w) Γ.A (newList []) (fun acc s₃ => wpAny (model prog w) Γ.A (newFunctionEnv scope Γ.env.globals cl [] Γ.env.qual none .none (some Γ.env)) (fun cenv s₄ =>
      codeAny (model prog w) Γ.A (.compStart (.ListComp elt [⟨.Name x px, iter, ifs, 0⟩] scope pos) 0 it acc { cenv with scope := relabel scope Γ.env }) (RR acc cenv.locals) s₄) E s₃) E s₂) E s₁) E s := by
  obtain ⟨z, e1, e2⟩ := Option.bind_eq_some_iff.mp hf
  obtain ⟨nx, n, H0⟩ := z
  refine hg W ρ H fr s _ E nx n H0 r e1 fun W1 k1 t1 itv as It fs l1 i1 r1 ap I1 => ?_
  refine wpAny_newObj_type (wpAny_newFunctionEnv hcell (fun y hy => by simp at hy) (fun h₂ hns hsb => ?_) hkind)
  dsimp only at hns hsb ⊢
  obtain ⟨rD, aD⟩ := r1.more (fs := [(k1.objs.size, lst [])]) (fun b o e => Heap.get?_push_of_some (lst []) e) (fun q hq => by rw [List.mem_singleton.mp hq]; exact ⟨Heap.get?_push_size _ rfl, Nat.le_refl _⟩)
  generalize eH : k1.push { cls := .type "list", dict := none, data := .seq ([] : List Value).toArray } = K at hns hsb ⊢
  have eK : k1.push (lst []) = K := eH
  rw [eK] at rD
  obtain ⟨oC, gC, nC⟩ := ns_obj hns
  have up : ∀ b o, K.get? b = some o → h₂.get? b = some o := fun b o e => hsb.extBut b o (Nat.ne_of_lt (Heap.lt_size e)) (Heap.get?_push_of_some _ e)
  obtain ⟨rC, aC⟩ := rD.more (fs := [(K.objs.size, oC)]) up (fun q hq => by rw [List.mem_singleton.mp hq]; exact ⟨gC, Nat.le_refl _⟩)
  have adr0 := I1.adr 0 fs i1
  have offs : ∀ b ∈ as, b ≠ k1.objs.size ∧ b ≠ K.objs.size := fun b hb => by
    rw [← adr0] at hb
    obtain ⟨q, hq, e⟩ := List.mem_map.mp hb
    exact ⟨e ▸ (aD _ List.mem_cons_self q (List.mem_append_left _ hq)).symm, e ▸ (aC _ List.mem_cons_self q (List.mem_append_right _ (List.mem_append_left _ hq))).symm⟩
  have cd : K.objs.size ≠ k1.objs.size := aC _ List.mem_cons_self (k1.objs.size, lst []) (List.mem_append_left _ List.mem_cons_self)
  have cfr : ∀ t ∈ fr, K.objs.size ≠ t.1 := fun t ht => aC _ List.mem_cons_self t (List.mem_append_right _ (List.mem_append_right _ ht))
  have dfr : ∀ t ∈ fr, k1.objs.size ≠ t.1 := fun t ht => aD _ List.mem_cons_self t (List.mem_append_right _ ht)
  generalize k1.objs.size = D at *
  generalize K.objs.size = C at *
  have loop : ∀ s₃ : Shared, s₃ = { s with heap := h₂, toks := t1 + ([] : List (Str × Value)).length } →
      codeAny (model prog w) Γ.A (.compLoop (.ListComp elt [⟨.Name x px, iter, ifs, 0⟩] scope pos) 0 itv (.ref D) (compEnvC scope cl C Γ.env)) (RR (.ref D) C) s₃ := by
    intro s₃ hs₃
    subst hs₃
    refine codeAny_compLoop_tests (CInv Γ W1 ρ fr C D It nx (put1 t) c f q s) ?_ n ⟨W1, H0, h₂, _, 0, fs, [], [], oC, _, rfl, .refl _, i1, nC, .nil, Nat.zero_le _, rC, e2⟩
    rintro k s' ⟨W2, H2, k2, t2, j, fs2, acc, ys, oC2, m₂, rfl, l2, i2, hC2, hv2, hl2, r2, e⟩
    cases k with
    | zero => cases e
    | succ k =>
      obtain ⟨o, e4, e⟩ := Option.bind_eq_some_iff.mp e
      have r2' : Rep Γ W2 ρ H2 (fs2 ++ ((C, oC2) :: (D, lst ys) :: fr)) k2 := r2.less fun q hq => by
        rcases List.mem_append.mp hq with hq | hq
        · exact List.mem_cons_of_mem _ (List.mem_cons_of_mem _ (List.mem_append_left _ hq))
        · rcases List.mem_cons.mp hq with e | hq
          · exact e ▸ List.mem_cons_self
          · rcases List.mem_cons.mp hq with e | hq
            · exact e ▸ List.mem_cons_of_mem _ List.mem_cons_self
            · exact List.mem_cons_of_mem _ (List.mem_cons_of_mem _ (List.mem_append_right _ hq))
      have ap2 : ∀ b ∈ as, ∀ t ∈ (C, oC2) :: (D, lst ys) :: fr, b ≠ t.1 := fun b hb t ht => by
        rcases List.mem_cons.mp ht with e | ht
        · rw [e]
          exact (offs b hb).2
        · rcases List.mem_cons.mp ht with e | ht
          · rw [e]
            exact (offs b hb).1
          · exact ap b hb t ht
      refine I1.next j W2 ρ H2 _ fs2 _ _ _ o l2 r2' ap2 i2 e4 ?_
      cases o with
      | none =>
        cases e
        intro h' tk' r3
        exact hR W2 h' tk' C D oC2 m₂ ys (l1.trans l2) hC2 hv2 hl2 dfr cfr cd r3
      | some v =>
        intro fs3 k3 t3 y i3 r3 y3
        obtain ⟨ρ3, e5, e⟩ := Option.bind_eq_some_iff.mp e
        cases e5
        have a3 : ∀ t ∈ fs3, t.1 ∈ as := fun t ht => by
          rw [← I1.adr _ _ i3]
          exact List.mem_map_of_mem ht
        have gC3 : k3.get? C = some oC2 := r3.frAt (q := (C, oC2)) (List.mem_append_right _ List.mem_cons_self)
        have nC3 : k3.Ns C m₂ := hC2.ns gC3
        refine wpAny_assign_Name (wpAny_storeName_local (lookup_relabel_local hx) nC3 (fun h4 hn4 sb4 => ?_) (by simp [compEnvC, relabel, hkind]))
        obtain ⟨oC4, gC4, nC4⟩ := ns_obj hn4
        have r3' : Rep Γ W2 ρ H2 ([(C, oC2)] ++ ((D, lst ys) :: (fs3 ++ fr))) k3 := r3.less fun q hq => by
          rcases List.mem_append.mp hq with hq | hq
          · rw [List.mem_singleton.mp hq]
            exact List.mem_append_right _ List.mem_cons_self
          · rcases List.mem_cons.mp hq with e | hq
            · exact e ▸ List.mem_append_right _ (List.mem_cons_of_mem _ List.mem_cons_self)
            · rcases List.mem_append.mp hq with hq | hq
              · exact List.mem_append_left _ hq
              · exact List.mem_append_right _ (List.mem_cons_of_mem _ (List.mem_cons_of_mem _ hq))
        have aC3 : ∀ t ∈ (D, lst ys) :: (fs3 ++ fr), C ≠ t.1 := fun t ht => by
          rcases List.mem_cons.mp ht with e | ht
          · rw [e]
            exact cd
          · rcases List.mem_append.mp ht with ht | ht
            · exact (offs _ (a3 t ht)).2.symm
            · exact cfr t ht
        have aD3 : ∀ t ∈ fs3 ++ fr, D ≠ t.1 := fun t ht => by
          rcases List.mem_append.mp ht with ht | ht
          · exact (offs _ (a3 t ht)).1.symm
          · exact dfr t ht
        have r4 : Rep Γ W2 ρ H2 ([(C, oC4)] ++ ((D, lst ys) :: (fs3 ++ fr))) h4 := by
          refine r3'.swap (fun q hq t ht => ?_) (fun b o hb e => sb4.extBut b o (fun z => hb (by simp [z, compEnvC])) e) fun q hq => ?_
          · rw [List.mem_singleton.mp hq]
            exact aC3 t ht
          · rw [List.mem_singleton.mp hq]
            exact ⟨gC4, by simp⟩
        refine comp_elt (hel C ρ) (hif C ρ) ⟨h4, _, rfl⟩ aC3 aD3 l2 i3 nC4 hv2 hl2 r4 (fun p hp => ?_) (fun i hi => ?_) e
        · rw [List.mem_singleton.mp hp]
          exact ⟨v, y, by simp [upd], by simp, y3⟩
        · have : i ≠ t := fun e => hi (x, t) List.mem_cons_self e.symm
          simp [upd, this]
  refine codeAny_compStart_list (loop _ rfl) ?_
  exact I1.self 0 W1 ρ H0 (([(C, oC)] ++ [(D, lst [])]) ++ fr) fs _ _ _ (.refl _) (rC.less fun q hq => by
    rcases List.mem_append.mp hq with hq | hq
    · exact List.mem_append_right _ (List.mem_append_right _ (List.mem_append_left _ hq))
    · rcases List.mem_append.mp hq with hq | hq
      · rcases List.mem_append.mp hq with hq | hq
        · exact List.mem_append_left _ hq
        · exact List.mem_append_right _ (List.mem_append_left _ hq)
      · exact List.mem_append_right _ (List.mem_append_right _ (List.mem_append_right _ hq))) i1 (loop _ rfl)
theorem comp_end {W : Wd} {ρ : Lc} {q : List V × Hp} {fr : List (Addr × Obj)} {C D : Addr} {oC : Obj} {ys : List Value} {h' h'' : Heap} (hv : VRs W q.1 ys) (hl : q.1.length ≤ LEN) (aD : ∀ t ∈ fr, D ≠ t.1) (aC : ∀ t ∈ fr, C ≠ t.1) (cd : C ≠ D) (r : Rep Γ W ρ q.2 ((C, oC) :: (D, lst ys) :: fr) h') (sb : Heap.SameBut C h' h'') :
    ∃ W', W.Le W' ∧ Rep Γ W' ρ (q.2 ++ [q.1]) fr h'' ∧ VR W' (.ref q.2.length) (.ref D) := by
  have r4 : Rep Γ W ρ q.2 ([] ++ ((D, lst ys) :: fr)) h'' := by
    refine Rep.swap (fs := [(C, oC)]) (fs' := []) r (fun q hq t ht => ?_) (fun b o hb e => sb.extBut b o (fun z => hb (by simp [z])) e) fun q hq => nomatch hq
    rw [List.mem_singleton.mp hq]
    rcases List.mem_cons.mp ht with e | ht
    · rw [e]
      exact cd
    · exact aC t ht
  exact Rep.adopt r4 aD hv hl
theorem J.comp {elt iter : Expr} {x : Str} {px : Pos} {ifs : List Expr} {scope : Scope} {pos : Pos} {cl : List (Str × Addr)} {t : Nat} {g : Src} {c : Ts} {f : Ex} (hg : JI prog w Γ iter g) (hel : ∀ C ρ, J prog w (cpCx Γ scope cl C [(x, t)] ρ) elt f) (hif : ∀ C ρ, JF prog w (cpCx Γ scope cl C [(x, t)] ρ) ifs c)
    (hclos : closureFor scope Γ.env = pure cl) (hcell : ∀ y ∈ scope.names, y.2 ≠ .cell) (hkind : scope.kind = .function) (hnames : ∀ y ∈ scope.names, y.2 = .local → scope.names.lookup y.1 = some .local) (hx : scope.names.lookup x = some .local) (hs : ∀ x, foldedSetIterable iter Γ.env x = pure x := by intro _; rfl) :
    J prog w Γ (.ListComp elt [⟨.Name x px, iter, ifs, 0⟩] scope pos) (eComp g (put1 t) c f) := by
  intro W ρ H fr s Q E v H' r hf post
  obtain ⟨z, e1, hf⟩ := Option.bind_eq_some_iff.mp hf
  obtain ⟨q, e2, e3⟩ := Option.map_eq_some_iff.mp hf
  cases e3
  rw [eval_ListComp]
  refine wpAny_comprehension_free (use := Option.none) rfl hs hclos hkind hnames ?_
  refine comp_core (RR := fun acc C => compPost (model prog w) Γ.A E Option.none Q acc C) hg hel hif hcell hkind hx r (q := q) (by rw [e1]; exact e2) fun W2 h' tk' C D oC m₂ ys l2 hC hv hl aD aC cd r3 => ?_
  refine ⟨m₂, hC.ns (r3.frAt (q := (C, oC)) List.mem_cons_self), fun h'' sb => ?_⟩
  obtain ⟨W5, l5, r5, v5⟩ := comp_end hv hl aD aC cd r3 sb
  exact post W5 h'' tk' _ (l2.trans l5) r5 v5
theorem S1.setComp {elt iter : Expr} {x y : Str} {px py pos spos : Pos} {ifs : List Expr} {scope : Scope} {cl : List (Str × Addr)} {t i : Nat} {g : Src} {c : Ts} {f : Ex} (hy : Sto prog w Γ y i) (hg : JI prog w Γ iter g) (hel : ∀ C ρ, J prog w (cpCx Γ scope cl C [(x, t)] ρ) elt f) (hif : ∀ C ρ, JF prog w (cpCx Γ scope cl C [(x, t)] ρ) ifs c)
    (hsw : swapsWith (.ListComp elt [⟨.Name x px, iter, ifs, 0⟩] scope pos) (some (.Name y py)) spos.line Γ.env = pure true)
    (hclos : closureFor scope Γ.env = pure cl) (hcell : ∀ y ∈ scope.names, y.2 ≠ .cell) (hkind : scope.kind = .function) (hnames : ∀ y ∈ scope.names, y.2 = .local → scope.names.lookup y.1 = some .local) (hx : scope.names.lookup x = some .local) (hs : ∀ x, foldedSetIterable iter Γ.env x = pure x := by intro _; rfl) :
    S1 prog w Γ (.Assign [.Name y py] (.ListComp elt [⟨.Name x px, iter, ifs, 0⟩] scope pos) spos) (sSet i (eComp g (put1 t) c f)) := by
  intro W ρ H fr s Q E r rp hf post
  obtain ⟨p, e0, e9⟩ := Option.map_eq_some_iff.mp hf
  cases e9
  obtain ⟨z, e1, hf⟩ := Option.bind_eq_some_iff.mp e0
  obtain ⟨q, e2, e3⟩ := Option.map_eq_some_iff.mp hf
  cases e3
  rw [exec_Assign_Name_used _ _ _ _ hsw]
  refine wpAny_bind (wpAny_standAt (wpAny_bind ?_))
  show wpAny _ Γ.A (do let _ ← comprehension (.ListComp elt [⟨.Name x px, iter, ifs, 0⟩] scope pos) scope Γ.env _ (newList []) false (eval iter Γ.env) (some (assign (.Name y py) Γ.env))) _ _ s
  refine wpAny_bind (wpAny_mono (wpAny_comprehension_free (use := some (assign (.Name y py) Γ.env)) (Q := fun _ s' => Q .next s') rfl hs hclos hkind hnames ?_) (fun _ s' h' => wpAny_pure (wpAny_pure h')) fun _ _ e => e)
  refine comp_core (RR := fun acc C => compPost (model prog w) Γ.A E (some (assign (.Name y py) Γ.env)) (fun _ s' => Q .next s') acc C) hg hel hif hcell hkind hx rp (q := q) (by rw [e1]; exact e2) fun W2 h' tk' C D oC m₂ ys l2 hC hv hl aD aC cd r3 => ?_
  have r4 : Rep Γ W2 ρ q.2 ((D, lst ys) :: (C, oC) :: fr) h' := r3.less fun t ht => by
    rcases List.mem_cons.mp ht with e | ht
    · exact e ▸ List.mem_cons_of_mem _ List.mem_cons_self
    · rcases List.mem_cons.mp ht with e | ht
      · exact e ▸ List.mem_cons_self
      · exact List.mem_cons_of_mem _ (List.mem_cons_of_mem _ ht)
  obtain ⟨W5, l5, r5, v5⟩ := Rep.adopt r4 (fun t ht => by
    rcases List.mem_cons.mp ht with e | ht
    · rw [e]
      exact cd.symm
    · exact aD t ht) hv hl
  refine wpAny_assign_Name (hy W5 ρ _ _ _ _ _ _ _ r5 v5 fun h6 t6 r6 => ?_)
  refine ⟨m₂, hC.ns (r6.frAt (q := (C, oC)) List.mem_cons_self), fun h'' sb => ?_⟩
  have r7 : Rep Γ W5 (upd ρ i (.ref q.2.length)) (q.2 ++ [q.1]) ([] ++ fr) h'' :=
    Rep.swap (fs := [(C, oC)]) (fs' := []) r6 (fun q hq t ht => by rw [List.mem_singleton.mp hq]; exact aC t ht) (fun b o hb e => sb.extBut b o (fun z => hb (by simp [z])) e) fun q hq => nomatch hq
  exact post W5 h'' t6 (l2.trans l5) r7
end
end PM
end
section
set_option maxRecDepth 100000
set_option linter.all false
set_option autoImplicit false
namespace PM
open PySem PySem.W PySem.Calls PyProof.Rows PyProof PyProof.Rows.LCg PyProof.Rows.LCp
structure Itr2 (prog : Program) (w : World) (Γ : Cx) (W0 : Wd) (it : Value) (as : List Addr) (It : Nat → List (Addr × Obj) → Prop) (nx : Nx) : Prop where
  adr : ∀ i fs, It i fs → fs.map (·.1) = as
  pair : ∀ i H v, nx i H = some (some v) → ∃ a b, v = .tup [a, b]
  item : ∀ (i : Nat) (W : Wd) (ρ : Lc) (H : Hp) (fr fs : List (Addr × Obj)) (s : Shared) (Q : Option Value → Shared → Prop) (E : Value → Shared → Prop) (a b : V), W0.Le W → Rep Γ W ρ H (fs ++ fr) s.heap → (∀ a ∈ as, ∀ t ∈ fr, a ≠ t.1) → It i fs → nx i H = some (some (.tup [a, b])) →
    (∀ (T : Addr) (h1 : Heap) (t1 : Nat) , (∀ (elts : List Expr) (k : Nat) (pos : Pos) (s1 : Shared) (Q1 : Unit → Shared → Prop) (E1 : Value → Shared → Prop), s1 = { s with heap := h1, toks := t1 } →
        (∀ (fs' : List (Addr × Obj)) (h' : Heap) (x y : Value), It (i + 1) fs' → Rep Γ W ρ H (fs' ++ fr) h' → IsTup h' T #[x, y] → VR W a x → VR W b y → Q1 () { s with heap := h', toks := t1 }) → wpAny (model prog w) Γ.A (letOwnedTupleGo (.Tuple elts k pos) it (.ref T)) Q1 E1 s1) → Q (some (.ref T)) { s with heap := h1, toks := t1 }) → wpAny (model prog w) Γ.A (pyNext it) Q E s
  done : ∀ (i : Nat) (W : Wd) (ρ : Lc) (H : Hp) (fr fs : List (Addr × Obj)) (s : Shared) (Q : Option Value → Shared → Prop) (E : Value → Shared → Prop), W0.Le W → Rep Γ W ρ H (fs ++ fr) s.heap → (∀ a ∈ as, ∀ t ∈ fr, a ≠ t.1) → It i fs → nx i H = some none →
    (∀ (h' : Heap) (tk' : Nat), Rep Γ W ρ H fr h' → Q none { s with heap := h', toks := tk' }) → wpAny (model prog w) Γ.A (pyNext it) Q E s
  self : ∀ (i : Nat) (W : Wd) (ρ : Lc) (H : Hp) (fr fs : List (Addr × Obj)) (s : Shared) (Q E : Value → Shared → Prop) (o : Option V), W0.Le W → Rep Γ W ρ H (fs ++ fr) s.heap → It i fs → nx i H = some o → Q it s → wpAny (model prog w) Γ.A (pyIter it) Q E s
noncomputable def JI2 (prog : Program) (w : World) (Γ : Cx) (e : Expr) (g : Src) : Prop := ∀ (W : Wd) (ρ : Lc) (H : Hp) (fr : List (Addr × Obj)) (s : Shared) (Q E : Value → Shared → Prop) (nx : Nx) (n : Nat) (H' : Hp),
  Rep Γ W ρ H fr s.heap → g ρ H = some (nx, n, H') →
  (∀ (W' : Wd) (h' : Heap) (tk' : Nat) (it : Value) (as : List Addr) (It : Nat → List (Addr × Obj) → Prop) (fs : List (Addr × Obj)), W.Le W' → It 0 fs → Rep Γ W' ρ H' (fs ++ fr) h' → (∀ a ∈ as, ∀ t ∈ fr, a ≠ t.1) → Itr2 prog w Γ W' it as It nx → (∃ o, nx 0 H' = some o) → Q it { s with heap := h', toks := tk' }) →
  wpAny (model prog w) Γ.A (eval e Γ.env) (fun xv s₁ => wpAny (model prog w) Γ.A (pyIter xv) Q E s₁) E s
section
variable {prog : Program} {w : World} {Γ : Cx}
end
end PM
end
section
set_option maxRecDepth 100000
set_option linter.all false
set_option autoImplicit false
namespace PM
open PySem PySem.W PySem.Calls PyProof.Rows PyProof PySem.Spec
theorem enterD {prog : Program} {w : World} {A A₀ : Around} {s : Shared} {base h₀ : Heap} {L : Addr} {m : Str → Option Value} {lent : List (Addr × Obj)} {K : Frag} {p : Program} {loose : List Str} {mean : ExcName → Option Value} {mg mb : Str → Option Value}
    {env : Env} {outer : List Env} {R : Result → Shared → Prop} {name qual : Str} {params : Arguments} {body : List Stmt} {scope : Scope} {dV kV doc pm cdv ct oc : Value} {an od : Option Addr} {osl : Array (Option Value)} {f : Addr} {args : Args} {binds : List (Str × Value)}
    (B : Below A₀ base outer h₀) (F : Fr h₀ L s.heap m) (X₀ : K.In h₀) (N : News h₀ L s.heap lent) (T : Top p loose mean mg mb h₀) (hA : A.frames = some (env :: outer)) (hf : env.frame = some L) (hke : env.scope.kind = .function)
    (ho : K.lookup f = some ⟨oc, od, .func (fnOf name qual params body scope dV kV doc pm an cdv ct), osl⟩) (hcd : codeIn K cdv qual = true) (hroom : A.depth < recursionLimit)
    (hbind : BindsTo s (fnOf name qual params body scope dV kV doc pm an cdv ct) args binds) (hall : (binds.all fun y => scope.names.lookup y.1 == some .local || scope.names.lookup y.1 == some .cell) = true) (hone : ((cellsFrom 0 scope.names []).map (·.1)).Nodup)
    (h : ∀ g L' h₁ tk cells, (∀ b o, s.heap.get? b = some o → b ∉ lent.map (·.1) → g.get? b = some o) → Fr g L' h₁ (bindL (envOfC qual scope L' f cdv).kindOf binds fun _ => none) → News g L' h₁ (cells ++ lent) → CellsAre (bindC (envOfC qual scope L' f cdv).kindOf binds fun _ => none) (cellsFrom (L' + 1) scope.names []) cells →
      (cellsFrom (L' + 1) scope.names []).Pairwise (fun x y => x.2 ≠ y.2) → (∀ n c, (n, c) ∈ cellsFrom (L' + 1) scope.names [] → L' < c) → Below A base (env :: outer) g → K.In g → Top p loose mean mg mb g → (∀ q ∈ lent, q.1 < L') → s.heap.objs.size ≤ L' →
      wpAny (model prog w) (A.deeper (envOfC qual scope L' f cdv)) (execs body (envOfC qual scope L' f cdv)) (fun fl s' => LeaveK h₀ L m g R (match fl with | .ret v => v | _ => .none) s')
        (fun e s' => wpAny (model prog w) (A.deeper (envOfC qual scope L' f cdv)) (leaving (envOfC qual scope L' f cdv) e) (fun _ s'' => R (.error e) s'') (fun e' s'' => R (.error e') s'') s') { s with heap := h₁, toks := tk })
    (hco : scope.isCoroutine = false) (hgen : scope.isGenerator = false) (hk : scope.kind = .function) : codeAny (model prog w) A (.call (.ref f) args) R s := by
  obtain ⟨FG, BG, st, lv⟩ := groundX (R := R) B F N hA hf hke
  have X := X₀.keeps F.keep
  refine codeAny_call_function (fd := fnOf name qual params body scope dV kV doc pm an cdv ct) hroom (X _ _ ho) rfl hco hgen rfl (codeRec_of X hcd) (hbind _ _ _ _ ?_)
  refine wpAny_newFunctionEnv_cells hk (kindsX hall _) fun fresh hfr s' inC => ?_
  subst hfr
  have up := inC.toInCall.keep
  refine ⟨(T.nolimit.keeps F.keep).keeps up, codeAny_func ?_⟩
  obtain ⟨h₁, tk, hs', _⟩ := inC.done
  subst hs'
  have nod := cellsFrom_names scope.names 0 (s.heap.objs.size + 1) [] [] rfl ▸ hone
  obtain ⟨cells, NC, Y⟩ := Cl.news (h₀ := s.heap) (L := s.heap.objs.size) (Nat.le_refl _) fun n c hm => ⟨inC.cell n c (lookup_of_mem_nodup nod hm), inC.above n c hm⟩
  have old : ∀ q ∈ lent, q.1 < s.heap.objs.size := fun q hq => Heap.lt_size (N q hq).1
  refine wpAny_mono (h _ s.heap.objs.size h₁ tk cells (fun b o e nb => hideAll_get _ e nb) ⟨inC.toInCall.ns, fun b o e => up b o (of_hideAll _ e), Nat.le_of_eq (hideAll_size _ _)⟩ (fun q hq => ?_) Y inC.apart inC.above BG (X₀.keeps st) (T.keeps st) old (Nat.le_refl _)) (fun fl s' hl => lv _ _ hl) fun _ _ y => y
  rcases List.mem_append.mp hq with hq | hq
  · obtain ⟨c1, c2, c3⟩ := NC q hq
    refine ⟨c1, c2, ?_⟩
    cases e : (hideAll s.heap (lent.map (·.1))).get? q.1 with
    | none => rfl
    | some o =>
      have z := of_hideAll _ e
      rw [c3] at z
      cases z
  · exact ⟨up _ _ (N q hq).1, Nat.ne_of_lt (old q hq), hideAll_none _ (List.mem_map_of_mem hq)⟩
section
variable (prog : Program) (w : World) (K : Frag) (p : Program) (loose : List Str) (mean : ExcName → Option Value) (mg mb : Str → Option Value)
noncomputable def Clr (Γ : Cx) (dp un : Nat) : Prop := ∃ (gd : Option (List Code)) (cn : Str) (cs : Scope) (a : Addr) (ccd : Value) (cl : List (Str × Addr)) (outer : List Env) (A₀ : Around) (base : Heap),
  Γ.A = ktrTop dp un gd cn cs Γ.L a ccd cl outer ∧ Below A₀ base outer Γ.h₀ ∧ K.In Γ.h₀ ∧ Top p loose mean mg mb Γ.h₀ ∧ cs.kind = .function
noncomputable def Def (f : Addr) (room : Nat) (F : List V → Hp → Option (V × Hp)) : Prop := ∀ (Γ : Cx) (dp un : Nat), Clr K p loose mean mg mb Γ dp un → dp + room < recursionLimit → un + 10 * room + 300 < cLine →
  ∀ (W : Wd) (ρ : Lc) (H : Hp) (fr : List (Addr × Obj)) (s : Shared) (Q E : Value → Shared → Prop) (as : List V) (xs : List Value) (v : V) (H' : Hp),
    Rep Γ W ρ H fr s.heap → VRs W as xs → F as H = some (v, H') → Post Γ W ρ H' fr s Q v → codeAny (model prog w) Γ.A (.call (.ref f) ⟨xs, []⟩) (fun r s' => match r with | .ok (.ret v) => Q v s' | .ok _ => False | .error e => E e s') s
end
noncomputable def runF (n : Nat) (g : Sm) : List V → Hp → Option (V × Hp) := fun as H => if as.length = n then (g (fun i => as[i]?) H).map fun r => ((r.1.getD .none), r.2.2) else none
theorem bindL_zip {kindOf : Str → Option NameKind} : ∀ {ps : List Str} {xs : List Value} {m : Str → Option Value} {x : Str} {i : Nat} {y : Value}, ps.Nodup → ps[i]? = some x → xs[i]? = some y → kindOf x = some .local → bindL kindOf (ps.zip xs) m x = some y := by
  have skip : ∀ {ps : List Str} {xs : List Value} {m : Str → Option Value} {x : Str}, x ∉ ps → bindL kindOf (ps.zip xs) m x = m x := by
    intro ps
    induction ps with
    | nil => intro xs m x _; rfl
    | cons p ps ih =>
      intro xs m x hx
      cases xs with
      | nil => rfl
      | cons z xs =>
        simp only [List.zip_cons_cons, bindL]
        rw [ih (fun h => hx (List.mem_cons_of_mem _ h))]
        have : x ≠ p := fun e => hx (e ▸ List.mem_cons_self)
        split <;> simp [this]
  intro ps
  induction ps with
  | nil => intro xs m x i y _ h; simp at h
  | cons p ps ih =>
    intro xs m x i y nd hp hx hk
    cases xs with
    | nil => simp at hx
    | cons z xs =>
      obtain ⟨n1, n2⟩ := List.nodup_cons.mp nd
      cases i with
      | zero =>
        simp at hp hx
        subst hp hx
        simp only [List.zip_cons_cons, bindL]
        rw [skip n1, if_pos hk]
        simp
      | succ i =>
        simp at hp hx
        simp only [List.zip_cons_cons, bindL]
        exact ih n2 hp hx hk
theorem bindC_zip {kindOf : Str → Option NameKind} : ∀ {ps : List Str} {xs : List Value} {m : Str → Option Value} {x : Str} {i : Nat} {y : Value}, ps.Nodup → ps[i]? = some x → xs[i]? = some y → kindOf x = some .cell → bindC kindOf (ps.zip xs) m x = some y := by
  have skip : ∀ {ps : List Str} {xs : List Value} {m : Str → Option Value} {x : Str}, x ∉ ps → bindC kindOf (ps.zip xs) m x = m x := by
    intro ps
    induction ps with
    | nil => intro xs m x _; rfl
    | cons p ps ih =>
      intro xs m x hx
      cases xs with
      | nil => rfl
      | cons z xs =>
        simp only [List.zip_cons_cons, bindC]
        rw [ih (fun h => hx (List.mem_cons_of_mem _ h))]
        have : x ≠ p := fun e => hx (e ▸ List.mem_cons_self)
        split <;> simp [this]
  intro ps
  induction ps with
  | nil => intro xs m x i y _ h; simp at h
  | cons p ps ih =>
    intro xs m x i y nd hp hx hk
    cases xs with
    | nil => simp at hx
    | cons z xs =>
      obtain ⟨n1, n2⟩ := List.nodup_cons.mp nd
      cases i with
      | zero =>
        simp at hp hx
        subst hp hx
        simp only [List.zip_cons_cons, bindC]
        rw [skip n1, if_neg (by rw [hk]; simp)]
        simp
      | succ i =>
        simp at hp hx
        simp only [List.zip_cons_cons, bindC]
        exact ih n2 hp hx hk
theorem cellsAt {cm : Str → Option Value} : ∀ {cs : List (Str × Addr)} {cells : List (Addr × Obj)} {x : Str} {c : Addr}, CellsAre cm cs cells → (x, c) ∈ cs → ∃ o, (c, o) ∈ cells ∧ o.data = .cell (cm x)
  | _, _, _, _, .nil, h => nomatch h
  | _, _, _, _, .cons hd r, h => by
    rcases List.mem_cons.mp h with e | h
    · cases e
      exact ⟨_, List.mem_cons_self, hd⟩
    · obtain ⟨o, h1, h2⟩ := cellsAt r h
      exact ⟨o, List.mem_cons_of_mem _ h1, h2⟩
theorem cellsIn {cm : Str → Option Value} : ∀ {cs : List (Str × Addr)} {cells : List (Addr × Obj)} {q : Addr × Obj}, CellsAre cm cs cells → q ∈ cells → ∃ x, (x, q.1) ∈ cs
  | _, _, _, .nil, h => nomatch h
  | _, _, _, .cons hd r, h => by
    rcases List.mem_cons.mp h with e | h
    · cases e
      exact ⟨_, List.mem_cons_self⟩
    · obtain ⟨x, h1⟩ := cellsIn r h
      exact ⟨x, List.mem_cons_of_mem _ h1⟩
theorem lookup_mem {α β : Type} [BEq α] [LawfulBEq α] : ∀ {l : List (α × β)} {x : α} {y : β}, l.lookup x = some y → (x, y) ∈ l
  | [], _, _, h => by simp at h
  | (a, b) :: r, x, y, h => by
    rw [List.lookup_cons] at h
    split at h
    · rename_i e
      cases h
      have := eq_of_beq e
      subst this
      exact List.mem_cons_self
    · exact List.mem_cons_of_mem _ (lookup_mem h)
end PM
end
section
set_option maxRecDepth 100000
set_option linter.all false
set_option autoImplicit false
namespace PM
open PySem PySem.W PySem.Calls PyProof.Rows PyProof PySem.Spec
section
variable {prog : Program} {w : World} {K : Frag} {p : Program} {loose : List Str} {mean : ExcName → Option Value} {mg mb : Str → Option Value}
theorem Def.of {name qual : Str} {params : Arguments} {body : List Stmt} {scope : Scope} {dV kV doc pm cdv ct oc : Value} {an od : Option Addr} {osl : Array (Option Value)} {f : Addr} {names : List Str} {n room : Nat} {g : Sm}
    (ho : K.lookup f = some ⟨oc, od, .func (fnOf name qual params body scope dV kV doc pm an cdv ct), osl⟩) (hcd : codeIn K cdv qual = true) (nd : names.Nodup) (hn : n ≤ names.length)
    (hbind : ∀ s xs, xs.length = n → BindsTo s (fnOf name qual params body scope dV kV doc pm an cdv ct) ⟨xs, []⟩ ((names.take n).zip xs)) (hkinds : ∀ x ∈ names.take n, scope.names.lookup x = some .local ∨ scope.names.lookup x = some .cell) (hone : ((cellsFrom 0 scope.names []).map (·.1)).Nodup)
    (hco : scope.isCoroutine = false) (hgen : scope.isGenerator = false) (hk : scope.kind = .function)
    (hbody : ∀ (dp un : Nat) (gd : Option (List Code)) (L : Addr) (outer : List Env) (h₀ : Heap) (hu : un + 200 < cLine), Clr K p loose mean mg mb (fnCx dp un gd qual scope L f cdv (cellsFrom (L + 1) scope.names []) outer h₀ hu names) dp un → dp + room < recursionLimit → un + 10 * room + 300 < cLine →
      Ss prog w (fnCx dp un gd qual scope L f cdv (cellsFrom (L + 1) scope.names []) outer h₀ hu names) body g) :
    Def prog w K p loose mean mg mb f (room + 1) (runF n g) := by
  intro Γ dp un clr hd hu W ρ H fr s Q E as xs v H' r hx hF post
  obtain ⟨gd, cn, cs, a, ccd, cl, outer, A₀, base, eA, B, X, T, hke⟩ := clr
  unfold runF at hF
  split at hF
  · rename_i hlen
    obtain ⟨res, e1, e2⟩ := Option.map_eq_some_iff.mp hF
    obtain ⟨o, ρ', K'⟩ := res
    cases e2
    obtain ⟨m, c, led, r⟩ := r
    have hxl : xs.length = n := by rw [hx.length, hlen]
    have inn : ∀ q ∈ led, (q.1 ∈ W.pi ∨ q.1 ∈ W.tups.map (·.1)) ↔ q ∈ led.filter (fun q => decide (q.1 ∈ W.pi ∨ q.1 ∈ W.tups.map (·.1))) := fun q hq => ⟨fun h => List.mem_filter.mpr ⟨hq, by simpa using h⟩, fun h => by simpa using (List.mem_filter.mp h).2⟩
    have isub : ∀ q ∈ led.filter (fun q => decide (q.1 ∈ W.pi ∨ q.1 ∈ W.tups.map (·.1))), q ∈ led := fun q hq => (List.mem_filter.mp hq).1
    generalize hlent : led.filter (fun q => decide (q.1 ∈ W.pi ∨ q.1 ∈ W.tups.map (·.1))) = lent at inn isub
    have notin : ∀ q ∈ led, q.1 ∉ W.pi → (∀ t ∈ W.tups, q.1 ≠ t.1) → q.1 ∉ lent.map (·.1) := fun q hq h1 h2 h3 => by
      obtain ⟨t, ht, e⟩ := List.mem_map.mp h3
      rcases (inn t (isub t ht)).mpr ht with z | z
      · exact h1 (e ▸ z)
      · obtain ⟨u, hu, e'⟩ := List.mem_map.mp z
        exact h2 u hu (e ▸ e'.symm)
    rw [eA]
    refine enterD (env := envX cn cs Γ.L a ccd cl) (lent := lent) B r.F X (fun q hq => r.N q (isub q hq)) T rfl rfl hke ho hcd (by show dp < recursionLimit; omega) (hbind s xs hxl) ?_ hone ?_ hco hgen hk
    · refine List.all_eq_true.mpr fun y hy => ?_
      rcases hkinds y.1 (List.of_mem_zip hy).1 with h | h <;> simp [h]
    intro g0 L' h₁ tk cells stay F' N' Y ap ab B' X' T' old szL
    have hu' : (un + 3) + 200 < cLine := by omega
    have clr' : Clr K p loose mean mg mb (fnCx (dp + 1) (un + 3) gd qual scope L' f cdv (cellsFrom (L' + 1) scope.names []) (envX cn cs Γ.L a ccd cl :: outer) g0 hu' names) (dp + 1) (un + 3) :=
      ⟨gd, qual, scope, f, cdv, cellsFrom (L' + 1) scope.names [], envX cn cs Γ.L a ccd cl :: outer, _, base, rfl, B', X', T', hk⟩
    have below : ∀ q ∈ cells, L' < q.1 := fun q hq => by
      obtain ⟨x, hx⟩ := cellsIn Y hq
      exact ab x _ hx
    have piLt : ∀ b ∈ W.pi, b < L' := fun b hb => by
      obtain ⟨o, ho⟩ := r.piIn b hb
      exact Nat.lt_of_lt_of_le (Heap.lt_size (r.get ho)) szL
    have tuLt : ∀ t ∈ W.tups, t.1 < L' := fun t ht => Nat.lt_of_lt_of_le (Heap.lt_size (r.get (r.R.tups t ht))) szL
    have scN : W.sc.1 ∉ lent.map (·.1) := fun z => by
      obtain ⟨t, ht, e⟩ := List.mem_map.mp z
      exact r.notSc t (isub t ht) e
    have tkn : ∀ {i : Nat} {x : Str} {u : V}, names[i]? = some x → as[i]? = some u → (names.take n)[i]? = some x ∧ ∃ y, xs[i]? = some y ∧ VR W u y := fun {i x u} h1 h2 => by
      have hi : i < n := by rw [← hlen]; exact (List.getElem?_eq_some_iff.mp h2).1
      exact ⟨by rw [List.getElem?_take_of_lt hi]; exact h1, hx.at h2⟩
    have ndt : (names.take n).Nodup := nd.sublist (List.take_sublist _ _)
    have rep : Rep (fnCx (dp + 1) (un + 3) gd qual scope L' f cdv (cellsFrom (L' + 1) scope.names []) (envX cn cs Γ.L a ccd cl :: outer) g0 hu' names) W (fun i => as[i]?) H [] h₁ := by
      refine ⟨_, cells, cells ++ lent, ⟨F', N', ⟨r.R.len, r.R.nd, fun i vs e ni => ?_, fun q hq => ?_, r.R.kind, fun i vs fs e hi => ?_, r.R.inlt, r.R.iuni⟩, stay _ _ (r.F.keep _ _ r.sc) scN, r.sc0, fun q hq => (nomatch hq), fun q hq => (nomatch hq), fun q hq => List.mem_append_left _ hq, fun q hq z => ?_, fun q _ t ht => (nomatch ht), fun q hq => (nomatch hq), fun q hq t ht => ?_, ⟨fun i x u hi hk1 hu1 => ?_, fun i x u hi hk1 hu1 => ?_, fun x c1 hc => ?_, fun x y c1 h1 h2 => ?_⟩⟩⟩
      · obtain ⟨l, b, ys, k, h1, h2, h3⟩ := r.R.lists i vs e ni
        exact ⟨l, b, ys, k, h1, memF h2 fun z => List.mem_append_right _ ((inn _ z).mp (.inl (List.mem_of_getElem? h1))), h3⟩
      · exact memF (r.R.tups q hq) fun z => List.mem_append_right _ ((inn _ z).mp (.inr (List.mem_map_of_mem hq)))
      · obtain ⟨l, b, od, ys, h1, h2, h3⟩ := r.R.objs i vs fs e hi
        exact ⟨l, b, od, ys, h1, memF h2 fun z => List.mem_append_right _ ((inn _ z).mp (.inl (List.mem_of_getElem? h1))), h3⟩
      · exact absurd (Nat.lt_trans (piLt _ z) (below q hq)) (Nat.lt_irrefl _)
      · exact Nat.ne_of_gt (Nat.lt_trans (tuLt t ht) (below q hq))
      · obtain ⟨h1, y, h2, h3⟩ := tkn hi hu1
        exact ⟨y, bindL_zip ndt h1 h2 hk1, h3⟩
      · obtain ⟨h1, y, h2, h3⟩ := tkn hi hu1
        have hs := cellsFrom_some scope.names (L' + 1) [] (.inl hk1)
        obtain ⟨c1, hc1⟩ := Option.isSome_iff_exists.mp hs
        obtain ⟨o1, ho1, hd1⟩ := cellsAt Y (lookup_mem hc1)
        refine ⟨c1, o1, y, hc1, ho1, ?_, h3⟩
        rw [hd1, bindC_zip ndt h1 h2 hk1]
      · obtain ⟨o1, ho1, hd1⟩ := cellsAt Y (lookup_mem hc)
        exact ⟨o1, _, ho1, hd1⟩
      · exact name_of_addr ap (lookup_mem h1) (lookup_mem h2)
    have hb := hbody (dp + 1) (un + 3) gd L' (envX cn cs Γ.L a ccd cl :: outer) g0 hu' clr' (by omega) (by omega)
    have back : ∀ (W' : Wd) (h' : Heap) (tk' : Nat) (x : Value), W.Le W' → Rep (fnCx (dp + 1) (un + 3) gd qual scope L' f cdv (cellsFrom (L' + 1) scope.names []) (envX cn cs Γ.L a ccd cl :: outer) g0 hu' names) W' ρ' K' [] h' → VR W' (o.getD .none) x →
        LeaveK Γ.h₀ Γ.L m g0 (fun r s' => match r with | .ok (.ret v) => Q v s' | .ok _ => False | .error e => E e s') x { s with heap := h', toks := tk' } := by
      intro W' h' tk' x l' r' x'
      obtain ⟨m', c', led', r'⟩ := r'
      refine ⟨L', m', led', r'.F, r'.N, fun FG NG => post W' h' tk' x l' ?_ x'⟩
      have g0at : ∀ q ∈ led, q.1 ∉ lent.map (·.1) → g0.get? q.1 = some q.2 := fun q hq hn => stay _ _ (r.N q hq).1 hn
      have frN : ∀ q ∈ fr, q.1 ∉ lent.map (·.1) := fun q hq => notin q (r.frIn q hq) (r.frOff q hq) (r.frTup q hq)
      have clN : ∀ q ∈ c, q.1 ∉ lent.map (·.1) := fun q hq => notin q (r.clIn q hq) (r.clOff q hq) (r.clTup q hq)
      have newN : ∀ t ∈ led', g0.get? t.1 = none := fun t ht => (r'.N t ht).2.2
      have far : ∀ q ∈ led, q.1 ∉ lent.map (·.1) → ∀ t ∈ W'.sc :: led', q.1 ≠ t.1 := fun q hq hn t ht e => by
        rcases List.mem_cons.mp ht with e2 | ht
        · rw [e2, l'.sc] at e
          exact r.notSc q hq e
        · have := g0at q hq hn
          rw [e, newN t ht] at this
          cases this
      have farPi : ∀ q ∈ led, q.1 ∉ lent.map (·.1) → q.1 ∉ W'.pi := fun q hq hn z => by
        obtain ⟨o2, h2⟩ := r'.piIn _ z
        exact far q hq hn _ h2 rfl
      have keep : ∀ q ∈ led, q.1 ∉ lent.map (·.1) → q ∈ led' ++ led.filter (fun q => decide (q.1 ∉ lent.map (·.1))) := fun q hq hn => List.mem_append_right _ (List.mem_filter.mpr ⟨hq, by simpa using hn⟩)
      refine ⟨m, c, led' ++ led.filter (fun q => decide (q.1 ∉ lent.map (·.1))), ⟨FG, fun q hq => ?_, r'.R.mono fun q hq => memSc hq fun x hx => List.mem_append_left _ hx, l'.sc ▸ r.sc, r'.sc0, fun q hq => keep q (r.frIn q hq) (frN q hq), fun q hq => farPi q (r.frIn q hq) (frN q hq), fun q hq => keep q (r.clIn q hq) (clN q hq), fun q hq => farPi q (r.clIn q hq) (clN q hq), r.apart, fun q hq t ht => far q (r.frIn q hq) (frN q hq) t (r'.R.tups t ht), fun q hq t ht => far q (r.clIn q hq) (clN q hq) t (r'.R.tups t ht), Γ.mono l' r.own⟩⟩
      rcases List.mem_append.mp hq with hq | hq
      · exact NG q hq
      · obtain ⟨h1, h2⟩ := List.mem_filter.mp hq
        exact ⟨r'.F.keep _ _ (g0at q h1 (by simpa using h2)), (r.N q h1).2⟩
    refine hb W _ H [] _ _ _ (o, ρ', K') rep e1 ?_
    cases o with
    | none => exact fun W' h' tk' l' r' => back W' h' tk' .none l' r' .none
    | some v0 => exact fun W' h' tk' x l' r' x' => back W' h' tk' x l' r' x'
  · cases hF
theorem J.callF {Γ : Cx} {dp un : Nat} {x : Str} {np pos : Pos} {f : Addr} {room : Nat} {e : Expr} {es : List Expr} {g : Exs} {o : List V → Hp → Option (V × Hp)} (clr : Clr K p loose mean mg mb Γ dp un) (hn : Nm prog w Γ x (.ref f)) (hkeep : keepIn K (.ref f) = true) (D : Def prog w K p loose mean mg mb f room o) (hd : dp + room < recursionLimit) (hu : un + 10 * room + 300 < cLine)
    (h : Js prog w Γ (e :: es) g) (he : starEach (e :: es) Γ.env = (false, eval e Γ.env) :: starEach es Γ.env := by rfl) (hp : ∀ pos, (backTo pos (starEach es Γ.env)).any (·.1) = false := by intro _; rfl) : J prog w Γ (.Call (.Name x np) (e :: es) [] pos) (eCall o g) := by
  intro W ρ H fr s Q E v H' r hf post
  obtain ⟨q, e1, hf⟩ := Option.bind_eq_some_iff.mp hf
  have X : K.In Γ.h₀ := by
    obtain ⟨_, _, _, _, _, _, _, _, _, _, _, X, _⟩ := clr
    exact X
  refine wpAny_Call_ofName (hn.use r ?_)
  refine callWith_K (first := []) X hkeep (h pos W ρ H fr s _ E _ _ r e1 fun W1 k1 t1 xs l1 r1 x1 => ⟨?_, ?_⟩) he (hp pos)
  · obtain ⟨m, c, led, r1⟩ := r1
    exact X.keeps r1.F.keep
  · exact wpAny_call (D Γ dp un clr hd hu W1 ρ _ fr _ Q E _ xs v H' r1 x1 hf fun W2 k2 t2 y l2 r2 y2 => post W2 k2 t2 y (l1.trans l2) r2 y2)
theorem Clr.comp {Γ : Cx} {dp un : Nat} {scope : Scope} {cl : List (Str × Addr)} {C : Addr} {ts : List (Str × Nat)} {ρ0 : Lc} (h : Clr K p loose mean mg mb Γ dp un) : Clr K p loose mean mg mb (cpCx Γ scope cl C ts ρ0) dp un := h
end
end PM
end
section
set_option maxRecDepth 100000
set_option linter.all false
set_option autoImplicit false
namespace PM
open PySem PySem.W PySem.Calls PyProof.Rows PyProof PySem.Spec
theorem cellsFrom_far {lo : Nat} : ∀ (names : List (Str × NameKind)) (n : Nat) (acc : List (Str × Addr)), acc.Pairwise (fun x y => x.2 ≠ y.2) → (∀ q ∈ acc, lo < q.2 ∧ q.2 < n) → lo < n → (cellsFrom n names acc).Pairwise (fun x y => x.2 ≠ y.2) ∧ ∀ q ∈ cellsFrom n names acc, lo < q.2
  | [], n, acc, h1, h2, _ => ⟨h1, fun q hq => (h2 q hq).1⟩
  | (y, k) :: r, n, acc, h1, h2, h3 => by
    unfold cellsFrom
    by_cases hk : (k == .cell) = true
    · rw [if_pos hk]
      refine cellsFrom_far r (n + 1) ((y, n) :: acc) (List.pairwise_cons.mpr ⟨fun q hq => Nat.ne_of_gt (h2 q hq).2, h1⟩) (fun q hq => ?_) (Nat.lt_succ_of_lt h3)
      rcases List.mem_cons.mp hq with e | hq
      · rw [e]
        exact ⟨h3, Nat.lt_succ_self n⟩
      · exact ⟨(h2 q hq).1, Nat.lt_succ_of_lt (h2 q hq).2⟩
    · rw [if_neg hk]
      exact cellsFrom_far r n acc h1 h2 h3
theorem script_of {P : Params} {h : Heap} {a : Addr} {ns : List Int} (w1 : Well P h (.ref a) (ofPy (.list (ns.map PyData.int)))) (W : Wd) : ∃ vs, h.get? a = some (lstB vs 0) ∧ VRs W (ns.map V.int) vs := by
  have key : ∀ {ns : List Int} {vs : List Value} {xs : List WData}, xs = (ns.map PyData.int).map ofPy → WellAll P h vs xs → VRs W (ns.map V.int) vs := by
    intro ns
    induction ns with
    | nil => intro vs xs e h; subst e; cases h; exact .nil
    | cons n ns ih =>
      intro vs xs e h
      subst e
      cases h with
      | cons h1 h2 =>
        cases h1 with
        | int i t => exact .cons (.int _ _) (ih rfl h2)
  have e : ofPy (.list (ns.map PyData.int)) = .list ((ns.map PyData.int).map ofPy) := by rw [ofPy, ofPys_eq]
  rw [e] at w1
  cases w1 with
  | list hg ha => exact ⟨_, hg, key rfl ha⟩
section
variable {prog : Program} {w : World} {K : Frag} {p : Program} {loose : List Str} {mean : ExcName → Option Value} {mg mb : Str → Option Value}
theorem top_law {P : Params} {h₀ : Heap} {s : Shared} {sa fa : Addr} {cd : Value} {ns : List Int} {qual pname : Str} {scope : Scope} {body : List Stmt} {names : List Str} {g : Sm} {cells : List (Addr × Obj)} {Q : Flow → Shared → Prop} {E : Value → Shared → Prop} {room : Nat} {H' : Hp}
    (hbody : ∀ (dp un : Nat) (gd : Option (List Code)) (L a : Addr) (ccd : Value) (outer : List Env) (h₀ : Heap) (hu : un + 200 < cLine), Clr K p loose mean mg mb (fnCx dp un gd qual scope L a ccd (cellsFrom (L + 1) scope.names []) outer h₀ hu names) dp un → dp + room < recursionLimit → un + 10 * room + 300 < cLine →
      Ss prog w (fnCx dp un gd qual scope L a ccd (cellsFrom (L + 1) scope.names []) outer h₀ hu names) body g)
    (hd : callerA.depth + 1 + room < recursionLimit) (hun : callerA.units + 3 + 10 * room + 300 < cLine) (hk : scope.kind = .function) (h0 : names[0]? = some pname)
    (KX : K.In h₀) (T : Top p loose mean mg mb h₀) (w1 : Well P h₀ (.ref sa) (ofPy (.list (ns.map PyData.int)))) (hlen : ns.length ≤ LEN)
    (F : Fr h₀ h₀.objs.size s.heap (bindL (envOfC qual scope h₀.objs.size fa cd).kindOf [(pname, .ref sa)] fun _ => none)) (N : News h₀ h₀.objs.size s.heap cells) (X0 : CellsAre (bindC (envOfC qual scope h₀.objs.size fa cd).kindOf [(pname, .ref sa)] fun _ => none) (cellsFrom (h₀.objs.size + 1) scope.names []) cells)
    (hg : runF 1 g [.ref 0] [ns.map V.int] = some (.bool true, H')) (post : ∀ h' tk' m', Fr h₀ h₀.objs.size h' m' → Q (.ret (.bool true)) { s with heap := h', toks := tk' }) :
    wpAny (model prog w) (callerA.deeper (envOfC qual scope h₀.objs.size fa cd)) (execs body (envOfC qual scope h₀.objs.size fa cd)) Q E s := by
  have hu' : (callerA.units + 3) + 200 < cLine := by omega
  have clr : Clr K p loose mean mg mb (fnCx (callerA.depth + 1) (callerA.units + 3) callerA.guards qual scope h₀.objs.size fa cd (cellsFrom (h₀.objs.size + 1) scope.names []) [] h₀ hu' names) (callerA.depth + 1) (callerA.units + 3) :=
    ⟨callerA.guards, qual, scope, fa, cd, cellsFrom (h₀.objs.size + 1) scope.names [], [], _, _, rfl, below_caller h₀, KX, T, hk⟩
  have hb := hbody (callerA.depth + 1) (callerA.units + 3) callerA.guards h₀.objs.size fa cd [] h₀ hu' clr hd hun
  obtain ⟨vs, hsc, hv⟩ := script_of w1 ⟨[sa], [], (sa, lstB [] 0), []⟩
  have hv' : VRs ⟨[sa], [], (sa, lstB vs 0), []⟩ (ns.map V.int) vs := by
    clear hg post w1 hlen hsc
    generalize ns.map V.int = us at hv
    have key : ∀ {us : List V} {xs : List Value}, VRs ⟨[sa], [], (sa, lstB [] 0), []⟩ us xs → VRs ⟨[sa], [], (sa, lstB vs 0), []⟩ us xs := by
      intro us
      induction us with
      | nil => intro xs h; cases h; exact .nil
      | cons u us ih =>
        intro xs h
        cases h with
        | cons a b =>
          refine .cons ?_ (ih b)
          cases a with
          | none => exact .none
          | bool b => exact .bool b
          | int i t => exact .int i t
          | str s t => exact .str s t
          | tup hm _ _ => exact nomatch hm
          | ref e => exact .ref e
          | obj _ h2 _ _ => exact nomatch h2
    exact key hv
  have far := cellsFrom_far (lo := h₀.objs.size) scope.names (h₀.objs.size + 1) [] .nil (fun q hq => nomatch hq) (Nat.lt_succ_self _)
  unfold runF at hg
  rw [if_pos (show ([V.ref 0] : List V).length = 1 from rfl)] at hg
  obtain ⟨res, e1, e2⟩ := Option.map_eq_some_iff.mp hg
  obtain ⟨o, ρ', K'⟩ := res
  have eo : o = some (.bool true) := by
    cases o with
    | none => simp at e2
    | some v => simp at e2; rw [e2.1]
  subst eo
  have pick : ∀ {i : Nat} {x : Str} {u : V}, names[i]? = some x → ([V.ref 0] : List V)[i]? = some u → x = pname ∧ u = .ref 0 := fun {i x u} h1 h2 => by
    have hi : i < 1 := (List.getElem?_eq_some_iff.mp h2).1
    have : i = 0 := by omega
    subst this
    rw [h0] at h1
    simp at h1 h2
    exact ⟨h1.symm, h2.symm⟩
  have rep : Rep (fnCx (callerA.depth + 1) (callerA.units + 3) callerA.guards qual scope h₀.objs.size fa cd (cellsFrom (h₀.objs.size + 1) scope.names []) [] h₀ hu' names) ⟨[sa], [], (sa, lstB vs 0), []⟩ (fun i => [V.ref 0][i]?) [ns.map V.int] [] s.heap := by
    refine ⟨_, cells, cells, ⟨F, N, ⟨rfl, by simp, fun i us e _ => ?_, fun q hq => (nomatch hq), fun q hq => (nomatch hq), fun i us fs e hi => (nomatch hi), fun q hq => (nomatch hq), fun q hq => (nomatch hq)⟩, hsc, rfl, fun q hq => (nomatch hq), fun q hq => (nomatch hq), fun q hq => hq, fun q hq z => ?_, fun q _ t ht => (nomatch ht), fun q hq => (nomatch hq), fun q hq t ht => (nomatch ht), ⟨fun i x u hi hk1 hu1 => ?_, fun i x u hi hk1 hu1 => ?_, fun x c1 hc => ?_, fun x y c1 h1 h2 => ?_⟩⟩⟩
    · have hi : i < 1 := (List.getElem?_eq_some_iff.mp e).1
      have : i = 0 := by omega
      subst this
      simp at e
      subst e
      exact ⟨by simpa using hlen, sa, vs, 0, rfl, List.mem_cons_self, hv'⟩
    · have := (N q hq).2.2
      rw [List.mem_singleton.mp z, hsc] at this
      cases this
    · obtain ⟨e3, e4⟩ := pick hi hu1
      subst e3 e4
      refine ⟨.ref sa, ?_, .ref ⟨rfl, fun q hq => nomatch hq⟩⟩
      show bindL _ _ _ _ = _
      unfold bindL bindL
      rw [if_pos (show (envOfC qual scope h₀.objs.size fa cd).kindOf x = some .local from hk1)]
      simp
    · obtain ⟨e3, e4⟩ := pick hi hu1
      subst e3 e4
      have hs := cellsFrom_some scope.names (h₀.objs.size + 1) [] (.inl hk1)
      obtain ⟨c1, hc1⟩ := Option.isSome_iff_exists.mp hs
      obtain ⟨o1, ho1, hd1⟩ := cellsAt X0 (lookup_mem hc1)
      refine ⟨c1, o1, .ref sa, hc1, ho1, ?_, .ref ⟨rfl, fun q hq => nomatch hq⟩⟩
      rw [hd1]
      unfold bindC bindC
      rw [if_neg (show ¬ (envOfC qual scope h₀.objs.size fa cd).kindOf x = some .local by show ¬ scope.names.lookup x = some .local; rw [hk1]; simp)]
      simp
    · obtain ⟨o1, ho1, hd1⟩ := cellsAt X0 (lookup_mem hc)
      exact ⟨o1, _, ho1, hd1⟩
    · exact name_of_addr far.1 (lookup_mem h1) (lookup_mem h2)
  refine hb _ _ _ [] s Q E _ rep e1 ?_
  intro W' h' tk' x l' r' x'
  cases x' with
  | bool _ =>
    obtain ⟨m', c', led', r'⟩ := r'
    exact post h' tk' m' r'.F
end
end PM
end
section
set_option maxRecDepth 100000
set_option linter.all false
set_option autoImplicit false
namespace PM
open PySem PySem.W PySem.Calls PyProof.Rows PyProof PyProof.Rows.LCg PyProof.Rows.LSm
theorem Rep.listAt {Γ : Cx} {W : Wd} {ρ : Lc} {H : Hp} {fr : List (Addr × Obj)} {h h' : Heap} {vs : List V} {xs : List Value} {k : Nat} (r : Rep Γ W ρ H fr h) (up : ∀ b o, h.get? b = some o → h'.get? b = some o) (hg : h'.get? h.objs.size = some (lstB xs k)) (hv : VRs W vs xs) (hl : vs.length ≤ LEN) :
    ∃ W', W.Le W' ∧ Rep Γ W' ρ (H ++ [vs]) fr h' ∧ VR W' (.ref H.length) (.ref h.objs.size) := by
  obtain ⟨r2, ap⟩ := r.more (fs := [(h.objs.size, lstB xs k)]) up (fun q hq => by rw [List.mem_singleton.mp hq]; exact ⟨hg, Nat.le_refl _⟩)
  exact Rep.adopt r2 (fun t ht => ap _ List.mem_cons_self t ht) hv hl
noncomputable def oList1 : List V → Hp → Option (V × Hp)
  | [.ref a], H => H[a]?.map fun vs => (.ref H.length, H ++ [vs])
  | [.tup vs], H => some (.ref H.length, H ++ [vs])
  | _, _ => none
section
variable {prog : Program} {w : World}
theorem ok_list1 : OpN prog w (fun xs => call (.type "list") xs) oList1 := by
  intro Γ W ρ H fr s Q E as xs v H' r hx ho post
  unfold oList1 at ho
  split at ho
  · obtain ⟨vs, e1, e2⟩ := Option.map_eq_some_iff.mp ho
    cases e2
    obtain ⟨x, ex, rx⟩ := hx.one
    subst ex
    cases rx with
    | @ref _ a ea =>
      obtain ⟨hl, ys, k, hg, hv⟩ := r.at e1 ea
      refine call_list_seq (hsz := LEN_size (by rw [List.size_toArray, hv.length]; exact hl)) a (.inl rfl) hg rfl rfl fun h' c' up hg' => ?_
      obtain ⟨W2, l2, r2, v2⟩ := r.listAt up hg' hv hl
      exact post W2 h' s.toks _ l2 r2 v2
  · cases ho
    obtain ⟨x, ex, rx⟩ := hx.one
    subst ex
    cases rx with
    | @tup _ a ys k hm hl hv =>
      refine call_list_seq (hsz := LEN_size (by rw [List.size_toArray, hv.length]; exact hl)) a (.inr rfl) (r.tupAt hm) rfl rfl fun h' c' up hg' => ?_
      obtain ⟨W2, l2, r2, v2⟩ := r.listAt up hg' hv hl
      exact post W2 h' s.toks _ l2 r2 v2
  · cases ho
end
section
variable {prog : Program} {w : World} {K : Frag} {p : Program} {loose : List Str} {mean : ExcName → Option Value} {mg mb : Str → Option Value} {Γ : Cx} {dp un : Nat}
theorem nm_def {x : Str} {v : Value} (clr : Clr K p loose mean mg mb Γ dp un) (e : nsIn K mainGlobals x = some (some v)) (hg : Γ.env.globals = mainGlobals) (hk : Γ.env.scope.kind = .function) (hx : Γ.env.kindOf x = some .globalImplicit) (hd : (x == ("__debug__" : Str)) = false) : Nm prog w Γ x v := by
  obtain ⟨_, _, _, _, _, _, _, _, _, _, _, X, T, _⟩ := clr
  intro pos m s Q E F q
  exact Name_function_global hk hx (loadGlobal_global (env := Γ.env) (by rw [hg]; exact T.g.keeps F.keep) (mg_of X T.g e) q) hd
theorem nm_built {x : Str} {v : Value} (clr : Clr K p loose mean mg mb Γ dp un) (e : nsIn K mainGlobals x = some none) (hv : bootBuiltins x = some v) (hn : x ≠ "__name__") (hg : Γ.env.globals = mainGlobals) (hb : Γ.env.builtins = builtinsNs) (hk : Γ.env.scope.kind = .function) (hx : Γ.env.kindOf x = some .globalImplicit) (hd : (x == ("__debug__" : Str)) = false) : Nm prog w Γ x v := by
  obtain ⟨_, _, _, _, _, _, _, _, _, _, _, X, T, _⟩ := clr
  intro pos m s Q E F q
  exact Name_function_global hk hx (loadGlobal_builtin (env := Γ.env) (by rw [hg]; exact T.g.keeps F.keep) (mg_none_of X T.g e) (by rw [hb]; exact T.b.keeps F.keep) ((T.builtins x hn).trans hv) q) hd
end
section
variable {prog : Program} {w : World} {Γ : Cx} {scope : Scope} {cl : List (Str × Addr)} {C : Addr} {ts : List (Str × Nat)} {ρ0 : Lc}
theorem rdc_own {x : Str} {t : Nat} (hm : (x, t) ∈ ts) (hk : scope.kind = .function) (hl : (compEnvC scope cl C Γ.env).kindOf x = some .local) (hd : (x == ("__debug__" : Str)) = false) : Rd prog w (cpCx Γ scope cl C ts ρ0) x t := by
  intro W ρ H fr s Q E v pos r e q
  obtain ⟨m, c, led, r⟩ := r
  obtain ⟨oC, m₂, cs, ec, h0, h1, h2, h3, h4⟩ := r.own
  obtain ⟨v', y, e1, e2, e3⟩ := h2 _ hm
  rw [e] at e1
  cases e1
  exact LCgL.ld_own r.N (r.clIn _ (by rw [ec]; exact List.mem_cons_self)) h1 e2 (q y e3) hk hl hd
end
section
variable {prog : Program} {w : World} {dp un : Nat} {gd : Option (List Code)} {cn : Str} {cs : Scope} {L a : Addr} {ccd : Value} {clf : List (Str × Addr)} {outer : List Env} {h₀ : Heap} {hu : un + 200 < cLine} {names : List Str} {scope : Scope} {cl : List (Str × Addr)} {C : Addr} {ts : List (Str × Nat)} {ρ0 : Lc}
theorem rdc_cel {x : Str} {i : Nat} (hi : names[i]? = some x) (hx : cs.names.lookup x = some .cell) (hne : ∀ p ∈ ts, p.2 ≠ i) (hcl : cl.lookup x = clf.lookup x) (hk : scope.kind = .function) (hl : (compEnvC scope cl C (envX cn cs L a ccd clf)).kindOf x = some .cell) (hd : (x == ("__debug__" : Str)) = false) :
    Rd prog w (cpCx (fnCx dp un gd cn cs L a ccd clf outer h₀ hu names) scope cl C ts ρ0) x i := by
  intro W ρ H fr s Q E v pos r e q
  obtain ⟨m, c, led, r⟩ := r
  obtain ⟨oC, m₂, cs', ec, h0, h1, h2, h3, h4⟩ := r.own
  rw [h3 i hne] at e
  obtain ⟨d, o, y, g1, g2, g3, g4⟩ := h4.cel i x v hi hx e
  exact kcf_cell r.N (hcl.trans g1) (r.clIn _ (by rw [ec]; exact List.mem_cons_of_mem _ g2)) g3 (q y g4) hk hl hd
end
end PM
end
section
set_option maxRecDepth 100000
namespace My
open PySem PySem.W PySem.Calls PyProof.Rows PySem.Spec
section
variable {prog : Program} {w : World} {A : Around} {E : Value → Shared → Prop} {s : Shared} {x y : Int} {t u : Tok} {Q : Value → Shared → Prop}
@[irreducible] noncomputable def T60 : Int := 10 ^ 60
theorem T60_eq : T60 = 1000000000000000000000000000000000000000000000000000000000000 := by unfold T60; decide +kernel
end
end My
end
section
set_option maxRecDepth 100000
set_option linter.all false
set_option autoImplicit false
/-! Reckoning with the plain machine. -/
namespace PM
open PySem PySem.W PyProof.Rows
section
variable (ρ : Lc) (H : Hp)
end
section
variable (a b : Int) (H : Hp)
end
noncomputable def Ext (H H' : Hp) : Prop := ∃ X, H' = H ++ X
theorem Ext.refl (H : Hp) : Ext H H := ⟨[], by simp⟩
theorem size1 {b : Int} (hb : 0 ≤ b) : Builtin.Range.rangeSize 0 b 1 = b := by
  unfold Builtin.Range.rangeSize
  rw [if_pos (by decide)]
  by_cases h : (0 : Int) < b
  · rw [if_pos h]
    omega
  · rw [if_neg h]
    omega
theorem range1 {b : Int} {H : Hp} (hb : 0 ≤ b) (hb9 : b ≤ 1000) : mkRange 0 b 1 H = some (nxRange 0 1 b.toNat, b.toNat + 1, H) := by
  unfold mkRange rngN
  rw [size1 hb, if_pos]
  refine ⟨by decide, ?_, hb, by rw [LEN_eq]; omega, ?_⟩
  · unfold Builtin.Range.small
    rw [size1 hb]
    simp only [Builtin.Range.rangeFitsLong, Bool.and_eq_true, Bool.or_eq_true, decide_eq_true_eq, beq_iff_eq]
    rw [if_pos (by decide)]
    simp only [Bool.and_eq_true, decide_eq_true_eq]
    by_cases h : (0 : Int) < b
    · refine ⟨⟨⟨⟨?_, ?_⟩, ?_⟩, ?_⟩, Or.inr ?_⟩ <;> omega
    · refine ⟨⟨⟨⟨?_, ?_⟩, ?_⟩, ?_⟩, ?_⟩ <;> first | omega | (left; omega)
  · exact PyProof.noPylong_small (by omega)
end PM
end
section
set_option maxRecDepth 100000
set_option linter.all false
set_option autoImplicit false
namespace PM
open PySem PySem.W PyProof.Rows My
theorem mulOk_of {a b : Int} (h : IntMulOk a b) : mulOk a b = true := by
  unfold IntMulOk at h
  unfold mulOk
  cases e : (decide (Builtin.Int.intBits a > shortFactorBits) && decide (Builtin.Int.intBits b > shortFactorBits) && Builtin.Int.intTooBig (Builtin.Int.intBits a + Builtin.Int.intBits b)) with
  | true => exact absurd e h
  | false => rfl
theorem o_pow {a b : Int} {H : Hp} (h : 0 ≤ b ∧ (Builtin.Int.intBits a : Int) * b ≤ 2 ^ 27) : oPow (.int a) (.int b) H = some (.int (a ^ b.toNat), H) := by simp only [oPow]; rw [if_pos h]
theorem pow_60 (H : Hp) : oPow (.int 10) (.int 60) H = some (.int T60, H) := by rw [o_pow (by decide +kernel)]; unfold T60; rfl
end PM
end
section
set_option maxRecDepth 100000
set_option linter.all false
set_option autoImplicit false
namespace PM
open PySem PySem.W PyProof.Rows PyProof
section
variable {prog : Program} {w : World} {Γ : Cx}
end
section
variable {ρ : Lc} {H : Hp} {Q : V → Hp → Prop}
theorem size3 {a b c : Int} (hc : 0 < c) (hb : a < b) : Builtin.Range.rangeSize a b c = (b - a - 1) / c + 1 := by
  unfold Builtin.Range.rangeSize
  rw [if_pos hc, if_pos hb]
theorem range3 {a b c : Int} {H : Hp} (ha : 0 ≤ a) (hb : a < b) (hb9 : b ≤ 1000) (hc : 0 < c) (hc9 : c ≤ 1000) : mkRange a b c H = some (nxRange a c (rngN a b c), rngN a b c + 1, H) := by
  have e := size3 hc hb
  have h0 : 0 ≤ (b - a - 1) / c := Int.ediv_nonneg (by omega) (by omega)
  have h2 : (b - a - 1) / c ≤ b - a - 1 := Int.ediv_le_self _ (by omega)
  unfold mkRange
  rw [if_pos]
  refine ⟨by omega, ?_, by omega, by unfold rngN; rw [LEN_eq]; omega, PyProof.noPylong_small (by omega)⟩
  unfold Builtin.Range.small
  rw [e]
  simp only [Builtin.Range.rangeFitsLong, Bool.and_eq_true, Bool.or_eq_true, decide_eq_true_eq, beq_iff_eq]
  rw [if_pos hc]
  simp only [Bool.and_eq_true, decide_eq_true_eq]
  refine ⟨⟨⟨⟨?_, ?_⟩, ?_⟩, ?_⟩, ?_⟩ <;> first | omega | (left; omega) | (right; omega)
end
end PM
end
section
set_option maxRecDepth 100000
set_option linter.all false
set_option autoImplicit false
namespace PM
open PySem PySem.W PyProof.Rows PyProof My
section
variable {ρ : Lc} {H : Hp} {Q : V → Hp → Prop} {L : List V → Hp → Prop}
end
noncomputable def oi : Option Int → V
  | none => .none
  | some k => .int k
noncomputable def od : Option Int → PyData
  | none => .none
  | some k => .int k
theorem mul_shortL {a b : Int} (h1 : -(2 ^ 64) < a) (h2 : a < 2 ^ 64) : mulOk a b = true := mulOk_of (IntMulOk.of_left (intBits_le_64 h1 h2))
section
variable {H : Hp} {Q : V → Hp → Prop} {a b : Int}
end
end PM
end
section
set_option maxRecDepth 100000
set_option linter.all false
set_option autoImplicit false
/-! The tree machine: values without places; lists that nobody else holds may be changed. -/
namespace TM
open PySem PM
inductive T where
  | none
  | bool (b : Bool)
  | int (i : Int)
  | str (s : Str)
  | tup (ts : List T)
  | lst (ts : List T)
  | ob (c : Nat × List Str) (ts : List T)
mutual
inductive RF (H : Hp) : V → T → List Nat → Prop where
  | none : RF H .none .none []
  | bool (b : Bool) : RF H (.bool b) (.bool b) []
  | int (i : Int) : RF H (.int i) (.int i) []
  | str (s : Str) : RF H (.str s) (.str s) []
  | tup {vs : List V} {ts : List T} {F : List Nat} : RFs H vs ts F → RF H (.tup vs) (.tup ts) F
  | ref {a : Nat} {vs : List V} {ts : List T} {F : List Nat} : H[a]? = some vs → RFs H vs ts F → RF H (.ref a) (.lst ts) (a :: F)
  | obj {c : Nat × List Str} {a : Nat} {vs : List V} {ts : List T} {F : List Nat} : H[a]? = some vs → RFs H vs ts F → RF H (.obj c a) (.ob c ts) (a :: F)
inductive RFs (H : Hp) : List V → List T → List Nat → Prop where
  | nil : RFs H [] [] []
  | cons {v : V} {t : T} {F : List Nat} {vs : List V} {ts : List T} {G : List Nat} : RF H v t F → RFs H vs ts G → RFs H (v :: vs) (t :: ts) (F ++ G)
end
mutual
theorem RF.frame {H H' : Hp} {v : V} {t : T} {F : List Nat} (r : RF H v t F) (h : ∀ a ∈ F, H'[a]? = H[a]?) : RF H' v t F := by
  cases r with
  | none => exact .none
  | bool b => exact .bool b
  | int i => exact .int i
  | str s => exact .str s
  | tup hs => exact .tup (RFs.frame hs h)
  | ref e hs => exact .ref ((h _ List.mem_cons_self).trans e) (RFs.frame hs fun a m => h a (List.mem_cons_of_mem _ m))
  | obj e hs => exact .obj ((h _ List.mem_cons_self).trans e) (RFs.frame hs fun a m => h a (List.mem_cons_of_mem _ m))
theorem RFs.frame {H H' : Hp} {vs : List V} {ts : List T} {F : List Nat} (r : RFs H vs ts F) (h : ∀ a ∈ F, H'[a]? = H[a]?) : RFs H' vs ts F := by
  cases r with
  | nil => exact .nil
  | cons a b => exact .cons (RF.frame a fun x m => h x (List.mem_append_left _ m)) (RFs.frame b fun x m => h x (List.mem_append_right _ m))
end
mutual
theorem RF.lt {H : Hp} {v : V} {t : T} {F : List Nat} (r : RF H v t F) : ∀ a ∈ F, a < H.length := by
  cases r with
  | none => intro a m; cases m
  | bool b => intro a m; cases m
  | int i => intro a m; cases m
  | str s => intro a m; cases m
  | tup hs => exact RFs.lt hs
  | ref e hs =>
    intro x m
    rcases List.mem_cons.mp m with rfl | m
    · exact (List.getElem?_eq_some_iff.mp e).1
    · exact RFs.lt hs x m
  | obj e hs =>
    intro x m
    rcases List.mem_cons.mp m with rfl | m
    · exact (List.getElem?_eq_some_iff.mp e).1
    · exact RFs.lt hs x m
theorem RFs.lt {H : Hp} {vs : List V} {ts : List T} {F : List Nat} (r : RFs H vs ts F) : ∀ a ∈ F, a < H.length := by
  cases r with
  | nil => intro a m; cases m
  | cons a b =>
    intro x m
    rcases List.mem_append.mp m with m | m
    · exact RF.lt a x m
    · exact RFs.lt b x m
end
theorem RF.ext {H : Hp} {v : V} {t : T} {F : List Nat} (r : RF H v t F) (X : Hp) : RF (H ++ X) v t F := r.frame fun a m => List.getElem?_append_left (r.lt a m)
theorem RFs.ext {H : Hp} {vs : List V} {ts : List T} {F : List Nat} (r : RFs H vs ts F) (X : Hp) : RFs (H ++ X) vs ts F := r.frame fun a m => List.getElem?_append_left (r.lt a m)
theorem RFs.length {H : Hp} : ∀ {vs : List V} {ts : List T} {F : List Nat}, RFs H vs ts F → vs.length = ts.length
  | _, _, _, .nil => rfl
  | _, _, _, .cons _ r => by rw [List.length_cons, List.length_cons, r.length]
theorem RFs.append {H : Hp} : ∀ {vs us : List V} {ts ss : List T} {F G : List Nat}, RFs H vs ts F → RFs H us ss G → RFs H (vs ++ us) (ts ++ ss) (F ++ G)
  | _, _, _, _, _, _, .nil, h => h
  | _, _, _, _, _, _, .cons a r, h => by rw [List.append_assoc]; exact .cons a (r.append h)
theorem RFs.one {H : Hp} {v : V} {t : T} {F : List Nat} (r : RF H v t F) : RFs H [v] [t] F := by
  have := RFs.cons r RFs.nil
  rwa [List.append_nil] at this
theorem RFs.snoc {H : Hp} {vs : List V} {ts : List T} {F G : List Nat} {v : V} {t : T} (r : RFs H vs ts F) (x : RF H v t G) : RFs H (vs ++ [v]) (ts ++ [t]) (F ++ G) := r.append (.one x)
theorem RFs.at {H : Hp} : ∀ {vs : List V} {ts : List T} {F : List Nat} {i : Nat} {t : T}, RFs H vs ts F → ts[i]? = some t → ∃ v G, vs[i]? = some v ∧ RF H v t G ∧ G.Sublist F
  | _, _, _, _, _, .nil, e => by simp at e
  | _, _, _, 0, _, .cons a _, e => by
    simp at e
    exact ⟨_, _, by simp, e ▸ a, List.sublist_append_left _ _⟩
  | _, _, _, i + 1, _, .cons _ r, e => by
    simp at e
    obtain ⟨x, G, hx, hr, hs⟩ := r.at e
    exact ⟨x, G, by simpa using hx, hr, hs.trans (List.sublist_append_right _ _)⟩
theorem RFs.split {H : Hp} : ∀ {vs : List V} {ts : List T} {F : List Nat} {i : Nat} {t : T}, RFs H vs ts F → ts[i]? = some t →
    ∃ v G F1 F2, vs[i]? = some v ∧ RF H v t G ∧ F = F1 ++ (G ++ F2) ∧ ∀ (H' : Hp) (w : V) (t' : T) (G' : List Nat), RF H' w t' G' → (∀ a ∈ F1, H'[a]? = H[a]?) → (∀ a ∈ F2, H'[a]? = H[a]?) → RFs H' (vs.set i w) (ts.set i t') (F1 ++ (G' ++ F2))
  | _, _, _, _, _, .nil, e => by simp at e
  | _, _, _, 0, _, .cons (G := G1) a r, e => by
    simp at e
    subst e
    exact ⟨_, _, [], G1, by simp, a, by simp, fun H' w t' G' x _ h2 => by simpa using RFs.cons x (r.frame h2)⟩
  | _, _, _, i + 1, _, .cons (F := F0) a r, e => by
    simp at e
    obtain ⟨v, G, F1, F2, h1, h2, h3, h4⟩ := r.split e
    refine ⟨v, G, F0 ++ F1, F2, by simpa using h1, h2, by rw [h3]; simp, fun H' w t' G' x k1 k2 => ?_⟩
    have := RFs.cons (a.frame fun b m => k1 b (List.mem_append_left _ m)) (h4 H' w t' G' x (fun b m => k1 b (List.mem_append_right _ m)) k2)
    simpa using this
theorem set_same {α : Type} {xs : List α} {i : Nat} {x : α} (h : xs[i]? = some x) : xs.set i x = xs := by
  obtain ⟨hi, e⟩ := List.getElem?_eq_some_iff.mp h
  rw [← e]
  exact List.set_getElem_self hi
theorem nd3 {F1 G F2 G' Gn : List Nat} (nd : (F1 ++ (G ++ F2)).Nodup) (n' : G'.Nodup) (sub : ∀ a ∈ G', a ∈ G ∨ a ∈ Gn) (ds : ∀ a ∈ Gn, a ∉ F1 ++ (G ++ F2)) : (F1 ++ (G' ++ F2)).Nodup := by
  rw [List.nodup_append, List.nodup_append] at nd ⊢
  obtain ⟨a1, ⟨a2, a3, a4⟩, a5⟩ := nd
  refine ⟨a1, ⟨n', a3, fun x hx y hy e => ?_⟩, fun x hx y hy e => ?_⟩
  · rcases sub x hx with m | m
    · exact a4 x m y hy e
    · exact ds x m (List.mem_append_right _ (List.mem_append_right _ (e ▸ hy)))
  · rcases List.mem_append.mp hy with m | m
    · rcases sub y m with q | q
      · exact a5 x hx y (List.mem_append_left _ q) e
      · exact ds y q (List.mem_append_left _ (e ▸ hx))
    · exact a5 x hx y (List.mem_append_right _ m) e
theorem in3 {F1 G F2 G' Gn : List Nat} (sub : ∀ a ∈ G', a ∈ G ∨ a ∈ Gn) : ∀ a ∈ F1 ++ (G' ++ F2), a ∈ F1 ++ (G ++ F2) ∨ a ∈ Gn := by
  intro a m
  rcases List.mem_append.mp m with m | m
  · exact .inl (List.mem_append_left _ m)
  · rcases List.mem_append.mp m with m | m
    · exact (sub a m).imp (fun q => List.mem_append_right _ (List.mem_append_left _ q)) id
    · exact .inl (List.mem_append_right _ (List.mem_append_right _ m))
mutual
noncomputable def T.flat : T → Bool
  | .lst _ => false
  | .tup ts => T.flats ts
  | .none => true
  | .bool _ => true
  | .int _ => true
  | .str _ => true
  | .ob _ _ => false
noncomputable def T.flats : List T → Bool
  | [] => true
  | t :: ts => t.flat && T.flats ts
end
mutual
theorem RF.flat {H : Hp} {v : V} {t : T} {F : List Nat} (r : RF H v t F) (h : t.flat = true) : F = [] := by
  cases r with
  | none => rfl
  | bool b => rfl
  | int i => rfl
  | str s => rfl
  | tup hs => exact RFs.flats hs (by simpa [T.flat] using h)
  | ref e hs => simp [T.flat] at h
  | obj e hs => simp [T.flat] at h
theorem RFs.flats {H : Hp} {vs : List V} {ts : List T} {F : List Nat} (r : RFs H vs ts F) (h : T.flats ts = true) : F = [] := by
  cases r with
  | nil => rfl
  | cons a b =>
    simp only [T.flats, Bool.and_eq_true] at h
    rw [RF.flat a h.1, RFs.flats b h.2]
    rfl
end
noncomputable def T.flatIn : T → Bool
  | .lst ts => T.flats ts
  | t => t.flat
noncomputable def tmod (f : List T → Option (List T)) : List Int → T → Option T
  | [], .lst ts => (f ts).map .lst
  | k :: ks, .lst ts => (seqIndex? k ts.length).bind fun j => ts[j]?.bind fun t => (tmod f ks t).map fun u => .lst (ts.set j u)
  | k :: ks, .tup ts => (seqIndex? k ts.length).bind fun j => ts[j]?.bind fun t => (tmod f ks t).map fun u => .tup (ts.set j u)
  | _, _ => none
inductive Lead (H : Hp) : List Int → V → Nat → Prop where
  | nil {a : Nat} : Lead H [] (.ref a) a
  | ref {k : Int} {ks : List Int} {b : Nat} {vs : List V} {j : Nat} {v : V} {a : Nat} : H[b]? = some vs → seqIndex? k vs.length = some j → vs[j]? = some v → Lead H ks v a → Lead H (k :: ks) (.ref b) a
  | tup {k : Int} {ks : List Int} {vs : List V} {j : Nat} {v : V} {a : Nat} : seqIndex? k vs.length = some j → vs[j]? = some v → Lead H ks v a → Lead H (k :: ks) (.tup vs) a
theorem RF.mod {H : Hp} {Gn : List Nat} {f : List T → Option (List T)} : ∀ (ks : List Int) {v : V} {t t' : T} {F : List Nat}, RF H v t F → F.Nodup → (∀ a ∈ Gn, a ∉ F) → tmod f ks t = some t' →
    ∃ a vs ts ts' G, Lead H ks v a ∧ a ∈ F ∧ H[a]? = some vs ∧ RFs H vs ts G ∧ f ts = some ts' ∧ G.Nodup ∧ a ∉ G ∧ (∀ x ∈ G, x ∈ F) ∧
      ∀ vs' G', RFs H vs' ts' G' → G'.Nodup → a ∉ G' → (∀ x ∈ G', x ∈ G ∨ x ∈ Gn) → ∃ F', RF (H.set a vs') v t' F' ∧ F'.Nodup ∧ ∀ x ∈ F', x ∈ F ∨ x ∈ Gn
  | [], v, t, t', F, r, nd, ds, e => by
    cases r with
    | @ref a vs ts G e1 hs =>
      obtain ⟨ts', h1, h2⟩ := Option.map_eq_some_iff.mp e
      subst h2
      rw [List.nodup_cons] at nd
      refine ⟨a, vs, ts, ts', G, .nil, List.mem_cons_self, e1, hs, h1, nd.2, nd.1, fun x m => List.mem_cons_of_mem _ m, fun vs' G' r' n' na sub => ⟨a :: G', ?_, ?_, ?_⟩⟩
      · have ha := (List.getElem?_eq_some_iff.mp e1).1
        refine .ref (List.getElem?_set_self ha) (r'.frame fun b m => List.getElem?_set_ne ?_)
        intro q
        subst q
        exact na m
      · exact List.nodup_cons.mpr ⟨na, n'⟩
      · intro x m
        rcases List.mem_cons.mp m with rfl | m
        · exact .inl List.mem_cons_self
        · exact (sub x m).imp (List.mem_cons_of_mem _) id
    | none => cases e
    | bool _ => cases e
    | int _ => cases e
    | str _ => cases e
    | tup _ => cases e
    | obj _ _ => cases e
  | k :: ks, v, t, t', F, r, nd, ds, e => by
    cases r with
    | none => cases e
    | bool _ => cases e
    | int _ => cases e
    | str _ => cases e
    | obj _ _ => cases e
    | @tup vs ts _ hs =>
      obtain ⟨j, e1, e⟩ := Option.bind_eq_some_iff.mp e
      obtain ⟨u, e2, e⟩ := Option.bind_eq_some_iff.mp e
      obtain ⟨u', e3, e⟩ := Option.map_eq_some_iff.mp e
      subst e
      obtain ⟨w, G1, F1, F2, e4, g1, eF, rb⟩ := hs.split e2
      subst eF
      have nd1 : G1.Nodup := (List.nodup_append.mp (List.nodup_append.mp nd).2.1).1
      have hin : ∀ x ∈ G1, x ∈ F1 ++ (G1 ++ F2) := fun x m => List.mem_append_right _ (List.mem_append_left _ m)
      obtain ⟨a, us, qs, qs', G, l, am, ea, hq, hf, gn, na, gs, go⟩ := RF.mod ks g1 nd1 (fun b m q => ds b m (hin b q)) e3
      refine ⟨a, us, qs, qs', G, .tup (by rw [hs.length]; exact e1) e4 l, hin a am, ea, hq, hf, gn, na, fun x m => hin x (gs x m), fun vs' G' r' n' na' sub => ?_⟩
      obtain ⟨G2, f1, f2, f3⟩ := go vs' G' r' n' na' sub
      obtain ⟨a1, a2, a5⟩ := List.nodup_append.mp nd
      obtain ⟨_, a3, a4⟩ := List.nodup_append.mp a2
      have := rb (H.set a vs') w u' G2 f1 (fun b m => List.getElem?_set_ne fun q => a5 b m a (List.mem_append_left _ am) q.symm) (fun b m => List.getElem?_set_ne fun q => a4 a am b m q)
      rw [set_same e4] at this
      exact ⟨_, .tup this, nd3 nd f2 f3 ds, in3 f3⟩
    | @ref b vs ts F' e0 hs =>
      obtain ⟨j, e1, e⟩ := Option.bind_eq_some_iff.mp e
      obtain ⟨u, e2, e⟩ := Option.bind_eq_some_iff.mp e
      obtain ⟨u', e3, e⟩ := Option.map_eq_some_iff.mp e
      subst e
      obtain ⟨w, G1, F1, F2, e4, g1, eF, rb⟩ := hs.split e2
      subst eF
      rw [List.nodup_cons] at nd
      obtain ⟨nb, nd⟩ := nd
      have nd1 : G1.Nodup := (List.nodup_append.mp (List.nodup_append.mp nd).2.1).1
      have hin : ∀ x ∈ G1, x ∈ F1 ++ (G1 ++ F2) := fun x m => List.mem_append_right _ (List.mem_append_left _ m)
      have ds' : ∀ a ∈ Gn, a ∉ F1 ++ (G1 ++ F2) := fun a m q => ds a m (List.mem_cons_of_mem _ q)
      obtain ⟨a, us, qs, qs', G, l, am, ea, hq, hf, gn, na, gs, go⟩ := RF.mod ks g1 nd1 (fun b m q => ds' b m (hin b q)) e3
      refine ⟨a, us, qs, qs', G, .ref e0 (by rw [hs.length]; exact e1) e4 l, List.mem_cons_of_mem _ (hin a am), ea, hq, hf, gn, na, fun x m => List.mem_cons_of_mem _ (hin x (gs x m)), fun vs' G' r' n' na' sub => ?_⟩
      obtain ⟨G2, f1, f2, f3⟩ := go vs' G' r' n' na' sub
      obtain ⟨a1, a2, a5⟩ := List.nodup_append.mp nd
      obtain ⟨_, a3, a4⟩ := List.nodup_append.mp a2
      have := rb (H.set a vs') w u' G2 f1 (fun b m => List.getElem?_set_ne fun q => a5 b m a (List.mem_append_left _ am) q.symm) (fun b m => List.getElem?_set_ne fun q => a4 a am b m q)
      rw [set_same e4] at this
      have hab : a ≠ b := fun q => nb (hin b (q ▸ am))
      refine ⟨_, .ref ((List.getElem?_set_ne hab).trans e0) this, List.nodup_cons.mpr ⟨fun q => ?_, nd3 nd f2 f3 ds'⟩, fun x m => ?_⟩
      · rcases in3 f3 b q with m | m
        · exact nb m
        · exact ds b m List.mem_cons_self
      · rcases List.mem_cons.mp m with rfl | m
        · exact .inl List.mem_cons_self
        · exact (in3 f3 x m).imp (List.mem_cons_of_mem _) id
end TM
end
section
set_option maxRecDepth 100000
set_option linter.all false
set_option autoImplicit false
namespace TM
open PySem PM
noncomputable abbrev TL := Nat → Option T
noncomputable abbrev PE := TL → Option T
noncomputable abbrev PEs := TL → Option (List T)
noncomputable abbrev PB := TL → Option Bool
noncomputable abbrev PG := TL → Option (List T)
noncomputable def updT (σ : TL) (i : Nat) (t : T) : TL := fun j => if j = i then some t else σ j
noncomputable def delT (σ : TL) (i : Nat) : TL := fun j => if j = i then none else σ j
structure Ctx where
  H0 : Hp
  F0 : List Nat
  P : Nat → Prop
structure St (c : Ctx) (O : List Nat) (ρ : Lc) (σ : TL) (H : Hp) (Φ : Nat → List Nat) : Prop where
  slot : ∀ i t, σ i = some t → ∃ v, ρ i = some v ∧ RF H v t (Φ i)
  src : ∀ i t, σ i = some t → ∀ a ∈ Φ i, c.H0.length ≤ a ∨ c.P a
  own : ∀ i ∈ O, ∀ t, σ i = some t → (Φ i).Nodup ∧ (∀ a ∈ Φ i, c.H0.length ≤ a ∨ a ∈ c.F0) ∧ ∀ j u, j ≠ i → σ j = some u → ∀ a ∈ Φ i, a ∉ Φ j
  len : c.H0.length ≤ H.length
  keep : ∀ a, a < c.H0.length → a ∉ c.F0 → H[a]? = c.H0[a]?
  pos : 0 < c.H0.length
  f0 : 0 ∉ c.F0
theorem St.ext {c : Ctx} {O : List Nat} {ρ : Lc} {σ : TL} {H : Hp} {Φ : Nat → List Nat} (s : St c O ρ σ H Φ) (X : Hp) : St c O ρ σ (H ++ X) Φ :=
  ⟨fun i t e => by obtain ⟨v, h1, h2⟩ := s.slot i t e; exact ⟨v, h1, h2.ext X⟩, s.src, s.own, by have := s.len; rw [List.length_append]; omega, fun a ha hn => by
    rw [List.getElem?_append_left (Nat.lt_of_lt_of_le ha s.len)]; exact s.keep a ha hn, s.pos, s.f0⟩
theorem St.less {c : Ctx} {O O' : List Nat} {ρ : Lc} {σ : TL} {H : Hp} {Φ : Nat → List Nat} (s : St c O ρ σ H Φ) (h : ∀ i ∈ O', i ∈ O) : St c O' ρ σ H Φ := ⟨s.slot, s.src, fun i hi => s.own i (h i hi), s.len, s.keep, s.pos, s.f0⟩
noncomputable def From (H : Hp) (N : List Nat) (σ : TL) (Φ : Nat → List Nat) (a : Nat) : Prop := H.length ≤ a ∨ ∃ i ∈ N, (∃ t, σ i = some t) ∧ a ∈ Φ i
theorem From.mono {H : Hp} {N N' : List Nat} {σ : TL} {Φ : Nat → List Nat} {a : Nat} (f : From H N σ Φ a) (h : ∀ i ∈ N, i ∈ N') : From H N' σ Φ a := f.imp id fun ⟨i, hi, q⟩ => ⟨i, h i hi, q⟩
theorem From.back {H X : Hp} {N : List Nat} {σ : TL} {Φ : Nat → List Nat} {a : Nat} (f : From (H ++ X) N σ Φ a) : From H N σ Φ a := f.imp (fun h => by rw [List.length_append] at h; omega) id
theorem From.nil {H : Hp} {σ : TL} {Φ : Nat → List Nat} {a : Nat} (f : From H [] σ Φ a) : H.length ≤ a := f.elim id fun ⟨_, hi, _⟩ => by cases hi
noncomputable def E (O N : List Nat) (u : Bool) (e : Ex) (p : PE) : Prop := ∀ (c : Ctx) (ρ : Lc) (σ : TL) (H : Hp) (Φ : Nat → List Nat) (t : T), St c O ρ σ H Φ → p σ = some t →
  ∃ v X F, e ρ H = some (v, H ++ X) ∧ RF (H ++ X) v t F ∧ (∀ a ∈ F, From H N σ Φ a) ∧ (u = true → F.Nodup)
noncomputable def Es (O N : List Nat) (u : Bool) (n : Nat) (e : Exs) (p : PEs) : Prop := ∀ (c : Ctx) (ρ : Lc) (σ : TL) (H : Hp) (Φ : Nat → List Nat) (ts : List T), St c O ρ σ H Φ → p σ = some ts →
  ts.length = n ∧ ∃ vs X F, e ρ H = some (vs, H ++ X) ∧ RFs (H ++ X) vs ts F ∧ (∀ a ∈ F, From H N σ Φ a) ∧ (u = true → F.Nodup)
noncomputable def Bt (O : List Nat) (e : Ts) (p : PB) : Prop := ∀ (c : Ctx) (ρ : Lc) (σ : TL) (H : Hp) (Φ : Nat → List Nat) (b : Bool), St c O ρ σ H Φ → p σ = some b → ∃ X, e ρ H = some (b, H ++ X)
section
variable {O N : List Nat} {u : Bool}
theorem E.rel {O' : List Nat} {e : Ex} {p : PE} (x : E O' N u e p) (h : ∀ i ∈ O', i ∈ O) : E O N u e p := fun c ρ σ H Φ t s => x c ρ σ H Φ t (s.less h)
theorem E.sh {e : Ex} {p : PE} (x : E O N u e p) : E O N false e p := fun c ρ σ H Φ t s q => by
  obtain ⟨v, X, F, a1, a2, a3, a4⟩ := x c ρ σ H Φ t s q
  exact ⟨v, X, F, a1, a2, a3, by simp⟩
noncomputable def pInt (k : Int) : PE := fun _ => some (.int k)
noncomputable def pNon : PE := fun _ => some .none
noncomputable def pBool (b : Bool) : PE := fun _ => some (.bool b)
noncomputable def pStr (x : Str) : PE := fun _ => some (.str x)
noncomputable def pVar (i : Nat) : PE := fun σ => σ i
theorem E.int (k : Int) : E O [] true (eInt k) (pInt k) := fun c ρ σ H Φ t s q => by
  cases q; exact ⟨_, [], [], by simp [eInt], .int k, by simp, by simp⟩
theorem E.none : E O [] true eNone pNon := fun c ρ σ H Φ t s q => by
  cases q; exact ⟨_, [], [], by simp [eNone], .none, by simp, by simp⟩
theorem E.bool (k : Bool) : E O [] true (eBool k) (pBool k) := fun c ρ σ H Φ t s q => by
  cases q; exact ⟨_, [], [], by simp [eBool], .bool k, by simp, by simp⟩
theorem E.str (k : Str) : E O [] true (eStr k) (pStr k) := fun c ρ σ H Φ t s q => by
  cases q; exact ⟨_, [], [], by simp [eStr], .str k, by simp, by simp⟩
theorem E.var (i : Nat) : E O [i] false (eVar i) (pVar i) := fun c ρ σ H Φ t s q => by
  obtain ⟨v, h1, h2⟩ := s.slot i t q
  exact ⟨v, [], Φ i, by simp [eVar, h1], by simpa using h2, fun a m => .inr ⟨i, List.mem_cons_self, ⟨t, q⟩, m⟩, by simp⟩
noncomputable def pFlat (p : PE) : PE := fun σ => (p σ).bind fun t => if t.flat then some t else none
theorem E.flat {e : Ex} {p : PE} (x : E O N u e p) : E O [] true e (pFlat p) := fun c ρ σ H Φ t s q => by
  obtain ⟨t', e1, e2⟩ := Option.bind_eq_some_iff.mp q
  by_cases h : t'.flat = true
  · rw [if_pos h] at e2
    cases e2
    obtain ⟨v, X, F, a1, a2, a3, a4⟩ := x c ρ σ H Φ t s e1
    have := a2.flat h
    subst this
    exact ⟨v, X, [], a1, a2, by simp, by simp⟩
  · rw [if_neg h] at e2; cases e2
noncomputable def pNil : PEs := fun _ => some []
noncomputable def pCons (p : PE) (q : PEs) : PEs := fun σ => (p σ).bind fun t => (q σ).bind fun ts => some (t :: ts)
theorem Es.nil : Es O [] true 0 eNil pNil := fun c ρ σ H Φ ts s q => by
  cases q; exact ⟨rfl, [], [], [], by simp [eNil], .nil, by simp, by simp⟩
theorem Es.cons {M : List Nat} {u' : Bool} {n : Nat} {e : Ex} {p : PE} {es : Exs} {ps : PEs} (x : E O N u e p) (y : Es O M u' n es ps) : Es O (N ++ M) false (n + 1) (eCons e es) (pCons p ps) := fun c ρ σ H Φ ts s q => by
  obtain ⟨t, e1, q⟩ := Option.bind_eq_some_iff.mp q
  obtain ⟨rs, e2, q⟩ := Option.bind_eq_some_iff.mp q
  cases q
  obtain ⟨v, X, F, a1, a2, a3, a4⟩ := x c ρ σ H Φ t s e1
  obtain ⟨hl, vs, Y, G, b1, b2, b3, b4⟩ := y c ρ σ (H ++ X) Φ rs (s.ext X) e2
  refine ⟨by simp [hl], v :: vs, X ++ Y, F ++ G, by simp [eCons, a1, b1], ?_, fun a m => ?_, by simp⟩
  · rw [← List.append_assoc]; exact .cons (a2.ext Y) b2
  · rcases List.mem_append.mp m with m | m
    · exact (a3 a m).mono fun i hi => List.mem_append_left _ hi
    · exact (b3 a m).back.mono fun i hi => List.mem_append_right _ hi
theorem Es.consO {M : List Nat} {n : Nat} {e : Ex} {p : PE} {es : Exs} {ps : PEs} (x : E O N true e p) (y : Es O M true n es ps) (hN : ∀ i ∈ N, i ∈ O) (hM : ∀ i ∈ N, i ∉ M) : Es O (N ++ M) true (n + 1) (eCons e es) (pCons p ps) := fun c ρ σ H Φ ts s q => by
  obtain ⟨t, e1, q⟩ := Option.bind_eq_some_iff.mp q
  obtain ⟨rs, e2, q⟩ := Option.bind_eq_some_iff.mp q
  cases q
  obtain ⟨v, X, F, a1, a2, a3, a4⟩ := x c ρ σ H Φ t s e1
  obtain ⟨hl, vs, Y, G, b1, b2, b3, b4⟩ := y c ρ σ (H ++ X) Φ rs (s.ext X) e2
  refine ⟨by simp [hl], v :: vs, X ++ Y, F ++ G, by simp [eCons, a1, b1], ?_, fun a m => ?_, fun _ => ?_⟩
  · rw [← List.append_assoc]; exact .cons (a2.ext Y) b2
  · rcases List.mem_append.mp m with m | m
    · exact (a3 a m).mono fun i hi => List.mem_append_left _ hi
    · exact (b3 a m).back.mono fun i hi => List.mem_append_right _ hi
  · rw [List.nodup_append]
    refine ⟨a4 rfl, b4 rfl, fun a ha b hb e => ?_⟩
    subst e
    have hlt := a2.lt a ha
    rcases b3 a hb with h | ⟨j, hj, ⟨tj, ej⟩, mj⟩
    · omega
    · obtain ⟨vj, _, rj⟩ := s.slot j tj ej
      have := rj.lt a mj
      rcases a3 a ha with h | ⟨i, hi, ⟨ti, ei⟩, mi⟩
      · omega
      · exact (s.own i (hN i hi) ti ei).2.2 j tj (fun q => hM i hi (q ▸ hj)) ej a mi mj
noncomputable def pTup (p : PEs) : PE := fun σ => (p σ).map .tup
noncomputable def pList (p : PEs) : PE := fun σ => (p σ).map .lst
theorem E.tup {n : Nat} {e : Exs} {p : PEs} (x : Es O N u n e p) (hn : n ≤ LEN) : E O N u (eTup e) (pTup p) := fun c ρ σ H Φ t s q => by
  obtain ⟨ts, e1, e2⟩ := Option.map_eq_some_iff.mp q
  subst e2
  obtain ⟨hl, vs, Y, G, b1, b2, b3, b4⟩ := x c ρ σ H Φ ts s e1
  have := b2.length
  refine ⟨.tup vs, Y, G, ?_, .tup b2, b3, b4⟩
  simp only [eTup, b1, Option.bind_some]
  rw [if_pos (by omega)]
theorem E.list {n : Nat} {e : Exs} {p : PEs} (x : Es O N u n e p) (hn : n ≤ LEN) : E O N u (eList e) (pList p) := fun c ρ σ H Φ t s q => by
  obtain ⟨ts, e1, e2⟩ := Option.map_eq_some_iff.mp q
  subst e2
  obtain ⟨hl, vs, Y, G, b1, b2, b3, b4⟩ := x c ρ σ H Φ ts s e1
  have := b2.length
  refine ⟨.ref (H ++ Y).length, Y ++ [vs], (H ++ Y).length :: G, ?_, ?_, fun a m => ?_, fun hu => ?_⟩
  · simp only [eList, b1, Option.bind_some]
    rw [if_pos (by omega), List.append_assoc]
  · rw [← List.append_assoc]; exact .ref (by simp) (b2.ext _)
  · rcases List.mem_cons.mp m with rfl | m
    · exact .inl (by simp)
    · exact b3 a m
  · rw [List.nodup_cons]
    exact ⟨fun m => Nat.lt_irrefl _ (b2.lt _ m), b4 hu⟩
noncomputable def OA2 (o : V → V → Hp → Option (V × Hp)) (q : T → T → Option T) : Prop := ∀ (H : Hp) (v1 v2 : V) (t1 t2 t : T) (F1 F2 : List Nat), RF H v1 t1 F1 → RF H v2 t2 F2 → q t1 t2 = some t → ∃ v, o v1 v2 H = some (v, H) ∧ RF H v t []
noncomputable def OI2 (o : V → V → Hp → Option (V × Hp)) (q : T → T → Option T) : Prop := ∀ (H : Hp) (v1 v2 : V) (t1 t2 t : T) (F1 F2 : List Nat), RF H v1 t1 F1 → RF H v2 t2 F2 → q t1 t2 = some t → ∃ v F, o v1 v2 H = some (v, H) ∧ RF H v t F ∧ F.Sublist F1
noncomputable def OC2 (o : V → V → Hp → Option (V × Hp)) (q : T → T → Option T) : Prop := ∀ (H : Hp) (v1 v2 : V) (t1 t2 t : T) (F1 F2 : List Nat), RF H v1 t1 F1 → RF H v2 t2 F2 → q t1 t2 = some t → ∃ v X F, o v1 v2 H = some (v, H ++ X) ∧ RF (H ++ X) v t F ∧ (∀ a ∈ F, H.length ≤ a ∨ a ∈ F1 ∨ a ∈ F2) ∧ (t.flatIn = true → F.Nodup ∧ ∀ a ∈ F, H.length ≤ a)
noncomputable def OAn (o : List V → Hp → Option (V × Hp)) (q : List T → Option T) : Prop := ∀ (H : Hp) (vs : List V) (ts : List T) (t : T) (F : List Nat), RFs H vs ts F → q ts = some t → ∃ v, o vs H = some (v, H) ∧ RF H v t []
noncomputable def OCn (o : List V → Hp → Option (V × Hp)) (q : List T → Option T) : Prop := ∀ (H : Hp) (vs : List V) (ts : List T) (t : T) (F1 : List Nat), 0 < H.length → RFs H vs ts F1 → q ts = some t → ∃ v X F, o vs H = some (v, H ++ X) ∧ RF (H ++ X) v t F ∧ (∀ a ∈ F, H.length ≤ a ∨ a ∈ F1) ∧ (t.flatIn = true → F.Nodup ∧ ∀ a ∈ F, H.length ≤ a)
noncomputable def pBin (q : T → T → Option T) (p1 p2 : PE) : PE := fun σ => (p1 σ).bind fun x => (p2 σ).bind fun y => q x y
noncomputable def pCall (q : List T → Option T) (ps : PEs) : PE := fun σ => (ps σ).bind fun xs => q xs
noncomputable def pFl (p : PE) : PE := fun σ => (p σ).bind fun t => if t.flatIn then some t else none
theorem bin_parts {M : List Nat} {u' : Bool} {e1 e2 : Ex} {p1 p2 : PE} {q : T → T → Option T} {o : V → V → Hp → Option (V × Hp)} {c : Ctx} {ρ : Lc} {σ : TL} {H : Hp} {Φ : Nat → List Nat} {t : T} (x : E O N u e1 p1) (y : E O M u' e2 p2) (s : St c O ρ σ H Φ) (h : pBin q p1 p2 σ = some t) :
    ∃ t1 t2 v1 v2 X F1 F2, q t1 t2 = some t ∧ RF (H ++ X) v1 t1 F1 ∧ RF (H ++ X) v2 t2 F2 ∧ (∀ a ∈ F1, From H N σ Φ a) ∧ (∀ a ∈ F2, From H M σ Φ a) ∧ (u = true → F1.Nodup) ∧ eBin o e1 e2 ρ H = o v1 v2 (H ++ X) := by
  obtain ⟨t1, h1, h⟩ := Option.bind_eq_some_iff.mp h
  obtain ⟨t2, h2, h⟩ := Option.bind_eq_some_iff.mp h
  obtain ⟨v, X, F, a1, a2, a3, a4⟩ := x c ρ σ H Φ t1 s h1
  obtain ⟨w, Y, G, b1, b2, b3, b4⟩ := y c ρ σ (H ++ X) Φ t2 (s.ext X) h2
  rw [List.append_assoc] at b1 b2
  refine ⟨t1, t2, v, w, X ++ Y, F, G, h, ?_, b2, a3, fun a m => (b3 a m).back, a4, by simp only [eBin, a1, b1, Option.bind_some]⟩
  rw [← List.append_assoc]; exact a2.ext Y
theorem E.binA {M : List Nat} {u' : Bool} {e1 e2 : Ex} {p1 p2 : PE} {q : T → T → Option T} {o : V → V → Hp → Option (V × Hp)} (k : OA2 o q) (x : E O N u e1 p1) (y : E O M u' e2 p2) : E O [] true (eBin o e1 e2) (pBin q p1 p2) := fun c ρ σ H Φ t s h => by
  obtain ⟨t1, t2, v1, v2, X, F1, F2, hq, r1, r2, _, _, _, e⟩ := bin_parts (o := o) x y s h
  obtain ⟨v, h1, h2⟩ := k _ v1 v2 t1 t2 t F1 F2 r1 r2 hq
  exact ⟨v, X, [], e.trans h1, h2, by simp, by simp⟩
theorem E.binI {M : List Nat} {u' : Bool} {e1 e2 : Ex} {p1 p2 : PE} {q : T → T → Option T} {o : V → V → Hp → Option (V × Hp)} (k : OI2 o q) (x : E O N u e1 p1) (y : E O M u' e2 p2) : E O N u (eBin o e1 e2) (pBin q p1 p2) := fun c ρ σ H Φ t s h => by
  obtain ⟨t1, t2, v1, v2, X, F1, F2, hq, r1, r2, h1, _, hu, e⟩ := bin_parts (o := o) x y s h
  obtain ⟨v, F, k1, k2, k3⟩ := k _ v1 v2 t1 t2 t F1 F2 r1 r2 hq
  exact ⟨v, X, F, e.trans k1, k2, fun a m => h1 a (k3.subset m), fun h => (hu h).sublist k3⟩
theorem E.binC {M : List Nat} {u' : Bool} {e1 e2 : Ex} {p1 p2 : PE} {q : T → T → Option T} {o : V → V → Hp → Option (V × Hp)} (k : OC2 o q) (x : E O N u e1 p1) (y : E O M u' e2 p2) : E O (N ++ M) false (eBin o e1 e2) (pBin q p1 p2) := fun c ρ σ H Φ t s h => by
  obtain ⟨t1, t2, v1, v2, X, F1, F2, hq, r1, r2, h1, h2, hu, e⟩ := bin_parts (o := o) x y s h
  obtain ⟨v, Y, F, k1, k2, k3, k4⟩ := k _ v1 v2 t1 t2 t F1 F2 r1 r2 hq
  rw [List.append_assoc] at k1 k2
  refine ⟨v, X ++ Y, F, e.trans k1, k2, fun a m => ?_, by simp⟩
  rcases k3 a m with h | h | h
  · exact .inl (by rw [List.length_append] at h; omega)
  · exact (h1 a h).mono fun i hi => List.mem_append_left _ hi
  · exact (h2 a h).mono fun i hi => List.mem_append_right _ hi
theorem E.callA {n : Nat} {es : Exs} {ps : PEs} {q : List T → Option T} {o : List V → Hp → Option (V × Hp)} (k : OAn o q) (x : Es O N u n es ps) : E O [] true (eCall o es) (pCall q ps) := fun c ρ σ H Φ t s h => by
  obtain ⟨ts, h1, h⟩ := Option.bind_eq_some_iff.mp h
  obtain ⟨_, vs, X, F, a1, a2, a3, a4⟩ := x c ρ σ H Φ ts s h1
  obtain ⟨w, b1, b2⟩ := k _ vs ts t F a2 h
  exact ⟨w, X, [], by simp only [eCall, a1, Option.bind_some, b1], b2, by simp, by simp⟩
theorem E.callC {n : Nat} {es : Exs} {ps : PEs} {q : List T → Option T} {o : List V → Hp → Option (V × Hp)} (k : OCn o q) (x : Es O N u n es ps) : E O N false (eCall o es) (pCall q ps) := fun c ρ σ H Φ t s h => by
  obtain ⟨ts, h1, h⟩ := Option.bind_eq_some_iff.mp h
  obtain ⟨_, vs, X, F, a1, a2, a3, a4⟩ := x c ρ σ H Φ ts s h1
  have hp : 0 < (H ++ X).length := by have := s.pos; have := s.len; rw [List.length_append]; omega
  obtain ⟨w, Y, G, b1, b2, b3, b4⟩ := k _ vs ts t F hp a2 h
  rw [List.append_assoc] at b1 b2
  refine ⟨w, X ++ Y, G, by simp only [eCall, a1, Option.bind_some, b1], b2, fun a m => ?_, by simp⟩
  rcases b3 a m with h | h
  · exact .inl (by rw [List.length_append] at h; omega)
  · exact a3 a h
theorem E.callF {n : Nat} {es : Exs} {ps : PEs} {q : List T → Option T} {o : List V → Hp → Option (V × Hp)} (k : OCn o q) (x : Es O N u n es ps) : E O [] true (eCall o es) (pFl (pCall q ps)) := fun c ρ σ H Φ t s h => by
  obtain ⟨t', h, hf⟩ := Option.bind_eq_some_iff.mp h
  by_cases fl : t'.flatIn = true
  · rw [if_pos fl] at hf
    cases hf
    obtain ⟨ts, h1, h⟩ := Option.bind_eq_some_iff.mp h
    obtain ⟨_, vs, X, F, a1, a2, a3, a4⟩ := x c ρ σ H Φ ts s h1
    have hp : 0 < (H ++ X).length := by have := s.pos; have := s.len; rw [List.length_append]; omega
    obtain ⟨w, Y, G, b1, b2, b3, b4⟩ := k _ vs ts t F hp a2 h
    rw [List.append_assoc] at b1 b2
    exact ⟨w, X ++ Y, G, by simp only [eCall, a1, Option.bind_some, b1], b2, fun a m => .inl (by have := (b4 fl).2 a m; rw [List.length_append] at this; omega), fun _ => (b4 fl).1⟩
  · rw [if_neg fl] at hf; cases hf
noncomputable def SimF (fr : Bool) (f : List V → Hp → Option (V × Hp)) (p : List T → Option T) : Prop := ∀ (H : Hp) (vs : List V) (ts : List T) (t : T) (F1 : List Nat), 0 < H.length → RFs H vs ts F1 → p ts = some t → ∃ v X F, f vs H = some (v, H ++ X) ∧ RF (H ++ X) v t F ∧ (∀ a ∈ F, H.length ≤ a ∨ a ∈ F1) ∧ (fr = true → F.Nodup ∧ ∀ a ∈ F, H.length ≤ a)
theorem E.fn {fr : Bool} {n : Nat} {es : Exs} {ps : PEs} {q : List T → Option T} {o : List V → Hp → Option (V × Hp)} (k : SimF fr o q) (x : Es O N u n es ps) : E O N false (eCall o es) (pCall q ps) := fun c ρ σ H Φ t s h => by
  obtain ⟨ts, h1, h⟩ := Option.bind_eq_some_iff.mp h
  obtain ⟨_, vs, X, F, a1, a2, a3, a4⟩ := x c ρ σ H Φ ts s h1
  have hp : 0 < (H ++ X).length := by have := s.pos; have := s.len; rw [List.length_append]; omega
  obtain ⟨w, Y, G, b1, b2, b3, b4⟩ := k _ vs ts t F hp a2 h
  rw [List.append_assoc] at b1 b2
  refine ⟨w, X ++ Y, G, by simp only [eCall, a1, Option.bind_some, b1], b2, fun a m => ?_, by simp⟩
  rcases b3 a m with h | h
  · exact .inl (by rw [List.length_append] at h; omega)
  · exact a3 a h
theorem E.fnF {n : Nat} {es : Exs} {ps : PEs} {q : List T → Option T} {o : List V → Hp → Option (V × Hp)} (k : SimF true o q) (x : Es O N u n es ps) : E O [] true (eCall o es) (pCall q ps) := fun c ρ σ H Φ t s h => by
  obtain ⟨ts, h1, h⟩ := Option.bind_eq_some_iff.mp h
  obtain ⟨_, vs, X, F, a1, a2, a3, a4⟩ := x c ρ σ H Φ ts s h1
  have hp : 0 < (H ++ X).length := by have := s.pos; have := s.len; rw [List.length_append]; omega
  obtain ⟨w, Y, G, b1, b2, b3, b4⟩ := k _ vs ts t F hp a2 h
  rw [List.append_assoc] at b1 b2
  exact ⟨w, X ++ Y, G, by simp only [eCall, a1, Option.bind_some, b1], b2, fun a m => .inl (by have := (b4 rfl).2 a m; rw [List.length_append] at this; omega), fun _ => (b4 rfl).1⟩
noncomputable def qTruth : T → Option Bool
  | .bool b => some b
  | .none => some false
  | .int i => some (i != 0)
  | _ => none
theorem truth_ok {H : Hp} {v : V} {t : T} {F : List Nat} {b : Bool} (r : RF H v t F) (h : qTruth t = some b) : oTruth v H = some b := by
  cases r <;> first | (cases h; rfl) | cases h
noncomputable def bVal (p : PE) : PB := fun σ => (p σ).bind qTruth
noncomputable def bNot (p : PB) : PB := fun σ => (p σ).map fun b => !b
noncomputable def bTrue : PB := fun _ => some true
noncomputable def bFalse : PB := fun _ => some false
noncomputable def bAnd (p q : PB) : PB := fun σ => (p σ).bind fun b => if b then q σ else some false
noncomputable def bOr (p q : PB) : PB := fun σ => (p σ).bind fun b => if b then some true else q σ
theorem Bt.val {e : Ex} {p : PE} (x : E O N u e p) : Bt O (tVal e) (bVal p) := fun c ρ σ H Φ b s h => by
  obtain ⟨t, h1, h⟩ := Option.bind_eq_some_iff.mp h
  obtain ⟨v, X, F, a1, a2, a3, a4⟩ := x c ρ σ H Φ t s h1
  exact ⟨X, by simp only [tVal, a1, Option.bind_some, truth_ok a2 h, Option.map_some]⟩
theorem Bt.not {e : Ts} {p : PB} (x : Bt O e p) : Bt O (tNot e) (bNot p) := fun c ρ σ H Φ b s h => by
  obtain ⟨t, h1, h⟩ := Option.map_eq_some_iff.mp h
  subst h
  obtain ⟨X, a1⟩ := x c ρ σ H Φ t s h1
  exact ⟨X, by simp only [tNot, a1, Option.map_some]⟩
theorem Bt.true : Bt O tTrue bTrue := fun c ρ σ H Φ b s h => by
  cases h; exact ⟨[], by simp [tTrue]⟩
theorem Bt.false : Bt O tFalse bFalse := fun c ρ σ H Φ b s h => by
  cases h; exact ⟨[], by simp [tFalse]⟩
theorem Bt.and {e f : Ts} {p q : PB} (x : Bt O e p) (y : Bt O f q) : Bt O (tAnd e f) (bAnd p q) := fun c ρ σ H Φ b s h => by
  obtain ⟨t, h1, h⟩ := Option.bind_eq_some_iff.mp h
  obtain ⟨X, a1⟩ := x c ρ σ H Φ t s h1
  cases t with
  | true =>
    obtain ⟨Y, b1⟩ := y c ρ σ (H ++ X) Φ b (s.ext X) (by simpa using h)
    exact ⟨X ++ Y, by simp [tAnd, a1, b1]⟩
  | false => cases h; exact ⟨X, by simp [tAnd, a1]⟩
theorem Bt.or {e f : Ts} {p q : PB} (x : Bt O e p) (y : Bt O f q) : Bt O (tOr e f) (bOr p q) := fun c ρ σ H Φ b s h => by
  obtain ⟨t, h1, h⟩ := Option.bind_eq_some_iff.mp h
  obtain ⟨X, a1⟩ := x c ρ σ H Φ t s h1
  cases t with
  | false =>
    obtain ⟨Y, b1⟩ := y c ρ σ (H ++ X) Φ b (s.ext X) (by simpa using h)
    exact ⟨X ++ Y, by simp [tOr, a1, b1]⟩
  | true => cases h; exact ⟨X, by simp [tOr, a1]⟩
noncomputable def pNot (p : PE) : PE := fun σ => (p σ).bind fun t => (qTruth t).map fun b => .bool !b
noncomputable def pAnd (p q : PE) : PE := fun σ => (p σ).bind fun t => (qTruth t).bind fun b => if b then q σ else some t
theorem E.not {e : Ex} {p : PE} (x : E O N u e p) : E O [] true (eNot e) (pNot p) := fun c ρ σ H Φ t s h => by
  obtain ⟨t1, h1, h⟩ := Option.bind_eq_some_iff.mp h
  obtain ⟨b, h2, h⟩ := Option.map_eq_some_iff.mp h
  subst h
  obtain ⟨v, X, F, a1, a2, a3, a4⟩ := x c ρ σ H Φ t1 s h1
  exact ⟨.bool !b, X, [], by simp only [eNot, a1, Option.bind_some, truth_ok a2 h2, Option.map_some], .bool _, by simp, by simp⟩
theorem E.and {M : List Nat} {e f : Ex} {p q : PE} (x : E O N u e p) (y : E O M u f q) : E O (N ++ M) u (eAnd e f) (pAnd p q) := fun c ρ σ H Φ t s h => by
  obtain ⟨t1, h1, h⟩ := Option.bind_eq_some_iff.mp h
  obtain ⟨b, h2, h⟩ := Option.bind_eq_some_iff.mp h
  obtain ⟨v, X, F, a1, a2, a3, a4⟩ := x c ρ σ H Φ t1 s h1
  cases b with
  | true =>
    obtain ⟨w, Y, F', b1, b2, b3, b4⟩ := y c ρ σ (H ++ X) Φ t (s.ext X) (by simpa using h)
    exact ⟨w, X ++ Y, F', by simp [eAnd, a1, truth_ok a2 h2, b1], by rw [← List.append_assoc]; exact b2, fun a m => (b3 a m).back.mono fun i hi => List.mem_append_right _ hi, b4⟩
  | false =>
    cases h
    exact ⟨v, X, F, by simp [eAnd, a1, truth_ok a2 h2], a2, fun a m => (a3 a m).mono fun i hi => List.mem_append_left _ hi, a4⟩
noncomputable def kindOfT : T → String
  | .none => "NoneType"
  | .bool _ => "bool"
  | .int _ => "int"
  | .str _ => "str"
  | .tup _ => "tuple"
  | .lst _ => "list"
  | .ob _ _ => "object"
end
end TM
end
section
set_option maxRecDepth 100000
set_option linter.all false
set_option autoImplicit false
namespace TM
open PySem PM
section
variable {O N : List Nat} {u : Bool}
noncomputable def isKindT (K : String) (t : T) : Bool := kindOfT t == K || (K == "int" && kindOfT t == "bool")
noncomputable def isObT : T → Bool
  | .ob _ _ => true
  | _ => false
theorem isObT_eq {H : Hp} {v : V} {t : T} {F : List Nat} (r : RF H v t F) : isObj v = isObT t := by cases r <;> rfl
noncomputable def pIs (K : String) (p : PE) : PE := fun σ => (p σ).bind fun t => if isObT t then none else some (.bool (isKindT K t))
theorem kind_eq {H : Hp} {v : V} {t : T} {F : List Nat} (r : RF H v t F) : kindOfV v = kindOfT t := by cases r <;> rfl
theorem E.is {K : String} {e : Ex} {p : PE} (x : E O N u e p) : E O [] true (eIs K e) (pIs K p) := fun c ρ σ H Φ t s h => by
  obtain ⟨t1, h1, h⟩ := Option.bind_eq_some_iff.mp h
  by_cases ob : isObT t1 = true
  · rw [if_pos ob] at h; cases h
  rw [if_neg ob] at h
  cases h
  obtain ⟨v, X, F, a1, a2, a3, a4⟩ := x c ρ σ H Φ t1 s h1
  refine ⟨.bool (isKindT K t1), X, [], ?_, .bool _, by simp, by simp⟩
  simp only [eIs, a1, Option.bind_some, isKind, isKindT, kind_eq a2, isObT_eq a2]
  rw [if_neg ob]
noncomputable def qSub : T → T → Option T
  | .int a, .int b => some (.int (a - b))
  | _, _ => none
noncomputable def qDiv : T → T → Option T
  | .int a, .int b => if b ≠ 0 ∧ Builtin.divisionGoesByPylong a b = false then some (.int (a.fdiv b)) else none
  | _, _ => none
noncomputable def qMod : T → T → Option T
  | .int a, .int b => if b ≠ 0 then some (.int (a.fmod b)) else none
  | _, _ => none
noncomputable def qPow : T → T → Option T
  | .int a, .int b => if 0 ≤ b ∧ (Builtin.Int.intBits a : Int) * b ≤ 2 ^ 27 then some (.int (a ^ b.toNat)) else none
  | _, _ => none
noncomputable def qCmp (p : Int → Int → Bool) : T → T → Option T
  | .int a, .int b => some (.bool (p a b))
  | _, _ => none
noncomputable def qLt := qCmp fun a b => decide (a < b)
noncomputable def qGt := qCmp fun a b => decide (b < a)
theorem a_sub : OA2 oSub qSub := fun H v1 v2 t1 t2 t F1 F2 r1 r2 h => by
  cases r1 <;> first | (cases h; done) | (cases r2 <;> first | (cases h; done) | (cases h; exact ⟨_, rfl, .int _⟩))
theorem a_div : OA2 oDiv qDiv := fun H v1 v2 t1 t2 t F1 F2 r1 r2 h => by
  cases r1 <;> first | (cases h; done) | skip
  cases r2 <;> first | (cases h; done) | skip
  simp only [qDiv] at h
  split at h
  · rename_i hc; cases h; exact ⟨_, by simp only [oDiv]; rw [if_pos hc], .int _⟩
  · cases h
theorem a_mod : OA2 oMod qMod := fun H v1 v2 t1 t2 t F1 F2 r1 r2 h => by
  cases r1 <;> first | (cases h; done) | skip
  cases r2 <;> first | (cases h; done) | skip
  simp only [qMod] at h
  split at h
  · rename_i hc; cases h; exact ⟨_, by simp only [oMod]; rw [if_pos hc], .int _⟩
  · cases h
theorem a_pow : OA2 oPow qPow := fun H v1 v2 t1 t2 t F1 F2 r1 r2 h => by
  cases r1 <;> first | (cases h; done) | skip
  cases r2 <;> first | (cases h; done) | skip
  simp only [qPow] at h
  split at h
  · rename_i hc; cases h; exact ⟨_, by simp only [oPow]; rw [if_pos hc], .int _⟩
  · cases h
theorem a_cmp (p : Int → Int → Bool) : OA2 (oCmp p) (qCmp p) := fun H v1 v2 t1 t2 t F1 F2 r1 r2 h => by
  cases r1 <;> first | (cases h; done) | (cases r2 <;> first | (cases h; done) | (cases h; exact ⟨_, rfl, .bool _⟩))
theorem a_lt : OA2 oLt qLt := a_cmp _
theorem a_gt : OA2 oGt qGt := a_cmp _
noncomputable def datTs (f : T → Option PyData) : List T → Option (List PyData)
  | [] => some []
  | v :: vs => (f v).bind fun d => (datTs f vs).bind fun ds => some (d :: ds)
noncomputable def datT : Nat → T → Option PyData
  | _, .none => some .none
  | _, .bool b => some (.bool b)
  | _, .int i => some (.int i)
  | _, .str x => some (.str x)
  | n + 1, .tup vs => (datTs (datT n) vs).map .tuple
  | n + 1, .lst vs => (datTs (datT n) vs).map .list
  | 0, .tup _ => none
  | 0, .lst _ => none
  | _, .ob _ _ => none
theorem dats_eq {H : Hp} {f : V → Option PyData} {g : T → Option PyData} (h : ∀ v t F, RF H v t F → f v = g t) : ∀ {vs : List V} {ts : List T} {F : List Nat}, RFs H vs ts F → toDs f vs = datTs g ts
  | _, _, _, .nil => rfl
  | _, _, _, .cons a b => by simp only [toDs, datTs, h _ _ _ a, dats_eq h b]
theorem dat_eq {H : Hp} : ∀ (n : Nat) (v : V) (t : T) (F : List Nat), RF H v t F → toD H n v = datT n t := by
  intro n
  induction n with
  | zero => intro v t F r; cases r <;> rfl
  | succ n ih =>
    intro v t F r
    cases r with
    | none => rfl
    | bool => rfl
    | int => rfl
    | str => rfl
    | tup hs => simp only [toD, datT, dats_eq ih hs]
    | ref e hs => simp only [toD, datT, e, Option.bind_some, dats_eq ih hs]
    | obj e hs => rfl
noncomputable def qEqB (a b : T) : Option Bool := (datT DEEP a).bind fun d => (datT DEEP b).bind fun e => if SeqAt.shaped d = true ∧ SeqAt.shaped e = true then some (PyData.eqv d e) else none
noncomputable def qEq (a b : T) : Option T := (qEqB a b).map .bool
noncomputable def qNe (a b : T) : Option T := (qEqB a b).map fun c => .bool !c
theorem eqB_ok {H : Hp} {v1 v2 : V} {t1 t2 : T} {F1 F2 : List Nat} (r1 : RF H v1 t1 F1) (r2 : RF H v2 t2 F2) : oEqB v1 v2 H = qEqB t1 t2 := by
  simp only [oEqB, qEqB, dat_eq DEEP _ _ _ r1, dat_eq DEEP _ _ _ r2]
theorem a_eq : OA2 oEq qEq := fun H v1 v2 t1 t2 t F1 F2 r1 r2 h => by
  obtain ⟨c, h1, h⟩ := Option.map_eq_some_iff.mp h
  subst h
  exact ⟨_, by simp only [oEq, eqB_ok r1 r2, h1, Option.map_some], .bool _⟩
theorem a_ne : OA2 oNe qNe := fun H v1 v2 t1 t2 t F1 F2 r1 r2 h => by
  obtain ⟨c, h1, h⟩ := Option.map_eq_some_iff.mp h
  subst h
  exact ⟨_, by simp only [oNe, eqB_ok r1 r2, h1, Option.map_some], .bool _⟩
noncomputable def qIs : T → T → Option T
  | .none, .none => some (.bool true)
  | _, .none => some (.bool false)
  | _, _ => none
noncomputable def qIsNot : T → T → Option T
  | .none, .none => some (.bool false)
  | _, .none => some (.bool true)
  | _, _ => none
theorem a_isNot : OA2 oIsNot qIsNot := fun H v1 v2 t1 t2 t F1 F2 r1 r2 h => by
  cases r1 <;> cases r2 <;> first | (cases h; done) | (cases h; exact ⟨_, rfl, .bool _⟩)
noncomputable def qIdx : T → T → Option T
  | .lst ts, .int k => (seqIndex? k ts.length).bind fun j => ts[j]?
  | .tup ts, .int k => (seqIndex? k ts.length).bind fun j => ts[j]?
  | _, _ => none
theorem i_idx : OI2 oIdx qIdx := fun H v1 v2 t1 t2 t F1 F2 r1 r2 h => by
  cases r1 with
  | none => cases h
  | bool => cases h
  | int => cases h
  | str => cases h
  | obj => cases h
  | tup hs =>
    cases r2 <;> first | (cases h; done) | skip
    obtain ⟨j, h1, h2⟩ := Option.bind_eq_some_iff.mp h
    obtain ⟨v, G, e1, e2, e3⟩ := hs.at h2
    exact ⟨v, G, by simp only [oIdx, hs.length, h1, Option.bind_some, e1, Option.map_some], e2, e3⟩
  | ref e hs =>
    cases r2 <;> first | (cases h; done) | skip
    obtain ⟨j, h1, h2⟩ := Option.bind_eq_some_iff.mp h
    obtain ⟨v, G, e1, e2, e3⟩ := hs.at h2
    exact ⟨v, G, by simp only [oIdx, e, Option.bind_some, hs.length, h1, e1, Option.map_some], e2, e3.trans (List.sublist_cons_self _ _)⟩
noncomputable def qLen : List T → Option T
  | [.lst ts] => some (.int ts.length)
  | [.tup ts] => some (.int ts.length)
  | _ => none
theorem RFs.one_inv {H : Hp} {vs : List V} {t : T} {F : List Nat} (r : RFs H vs [t] F) : ∃ v, vs = [v] ∧ RF H v t F := by
  cases r with
  | cons a b => cases b; rw [List.append_nil]; exact ⟨_, rfl, a⟩
theorem RFs.two_inv {H : Hp} {vs : List V} {t t' : T} {F : List Nat} (r : RFs H vs [t, t'] F) : ∃ v v' F1 F2, vs = [v, v'] ∧ RF H v t F1 ∧ RF H v' t' F2 ∧ F = F1 ++ F2 := by
  cases r with
  | cons a b => obtain ⟨v', h1, h2⟩ := b.one_inv; subst h1; exact ⟨_, _, _, _, rfl, a, h2, rfl⟩
theorem a_len : OAn oLen qLen := fun H vs ts t F r h => by
  unfold qLen at h
  split at h
  · obtain ⟨v, rfl, r'⟩ := r.one_inv
    cases r' with
    | ref e hs => cases h; exact ⟨_, by simp only [oLen, e, Option.map_some, hs.length], .int _⟩
  · obtain ⟨v, rfl, r'⟩ := r.one_inv
    cases r' with
    | tup hs => cases h; exact ⟨_, by simp only [oLen, hs.length], .int _⟩
  · cases h
noncomputable def intsT : List T → Option (List Int)
  | [] => some []
  | .int k :: vs => (intsT vs).map fun ks => k :: ks
  | _ :: _ => none
theorem ints_ok {H : Hp} : ∀ {vs : List V} {ts : List T} {F : List Nat} {ks : List Int}, RFs H vs ts F → intsT ts = some ks → toInts vs = some ks
  | _, _, _, _, .nil, h => h
  | _, _, _, _, .cons a b, h => by
    cases a <;> first | (cases h; done) | skip
    obtain ⟨js, h1, h2⟩ := Option.map_eq_some_iff.mp h
    subst h2
    simp only [toInts, ints_ok b h1, Option.map_some]
noncomputable def qSum : List T → Option T
  | [.lst ts] => (intsT ts).map fun ks => .int ks.sum
  | _ => none
theorem newL {H : Hp} {vs : List V} {ts : List T} {F : List Nat} (r : RFs H vs ts F) : RF (H ++ [vs]) (.ref H.length) (.lst ts) (H.length :: F) := .ref (by simp) (r.ext _)
theorem newL_flat {H : Hp} {vs : List V} {ts : List T} {F : List Nat} (r : RFs H vs ts F) (h : T.flatIn (.lst ts) = true) : (H.length :: F).Nodup ∧ ∀ a ∈ H.length :: F, H.length ≤ a := by
  rw [r.flats (by simpa [T.flatIn] using h)]
  simp
theorem flat_nil {H : Hp} {v : V} {t : T} {F : List Nat} (r : RF H v t F) (h : F = []) : F.Nodup ∧ ∀ a ∈ F, H.length ≤ a := by subst h; simp
noncomputable def repT (ts : List T) : Nat → List T
  | 0 => []
  | n + 1 => repT ts n ++ ts
noncomputable def qAdd : T → T → Option T
  | .int a, .int b => some (.int (a + b))
  | .lst a, .lst b => if (a ++ b).length ≤ LEN then some (.lst (a ++ b)) else none
  | .tup a, .tup b => if (a ++ b).length ≤ LEN then some (.tup (a ++ b)) else none
  | _, _ => none
noncomputable def qMul : T → T → Option T
  | .int a, .int b => if mulOk a b = true then some (.int (a * b)) else none
  | .lst a, .int k => if a.length * k.toNat ≤ LEN ∧ -(2 ^ 63 : Int) ≤ k ∧ k < 2 ^ 63 then some (.lst (repT a k.toNat)) else none
  | _, _ => none
theorem rep_ok {H : Hp} {vs : List V} {ts : List T} {F : List Nat} (r : RFs H vs ts F) : ∀ n, ∃ G, RFs H (repV vs n) (repT ts n) G ∧ ∀ a ∈ G, a ∈ F
  | 0 => ⟨_, .nil, by simp⟩
  | n + 1 => by
    obtain ⟨G, h1, h2⟩ := rep_ok r n
    exact ⟨_, h1.append r, fun a m => (List.mem_append.mp m).elim (h2 a) id⟩
theorem c_add : OC2 oAdd qAdd := fun H v1 v2 t1 t2 t F1 F2 r1 r2 h => by
  cases r1 with
  | none => cases h
  | bool => cases h
  | str => cases h
  | obj => cases h
  | int a =>
    cases r2 <;> first | (cases h; done) | skip
    cases h; exact ⟨_, [], [], by simp [oAdd], .int _, by simp, by simp⟩
  | tup hs1 =>
    cases r2 with
    | none => cases h
    | bool => cases h
    | str => cases h
    | obj => cases h
    | int => cases h
    | ref => cases h
    | tup hs2 =>
      simp only [qAdd] at h
      split at h
      · rename_i hl
        cases h
        refine ⟨_, [], _, ?_, .tup (by simpa using hs1.append hs2), fun a m => .inr (List.mem_append.mp m), fun hf => flat_nil (H := H) (.tup (hs1.append hs2)) ((RF.tup (hs1.append hs2)).flat (by simpa [T.flatIn] using hf))⟩
        simp only [oAdd, List.append_nil]
        rw [if_pos (by rw [List.length_append] at hl ⊢; rw [hs1.length, hs2.length]; exact hl)]
      · cases h
  | ref e1 hs1 =>
    cases r2 with
    | none => cases h
    | bool => cases h
    | str => cases h
    | obj => cases h
    | int => cases h
    | tup => cases h
    | ref e2 hs2 =>
      simp only [qAdd] at h
      split at h
      · rename_i hl
        cases h
        refine ⟨_, _, _, ?_, newL (hs1.append hs2), fun a m => ?_, newL_flat (hs1.append hs2)⟩
        · simp only [oAdd, e1, e2, Option.bind_some]
          rw [if_pos (by rw [List.length_append] at hl ⊢; rw [hs1.length, hs2.length]; exact hl)]
        · rcases List.mem_cons.mp m with rfl | m
          · exact .inl (Nat.le_refl _)
          · rcases List.mem_append.mp m with m | m
            · exact .inr (.inl (List.mem_cons_of_mem _ m))
            · exact .inr (.inr (List.mem_cons_of_mem _ m))
      · cases h
theorem c_mul : OC2 oMul qMul := fun H v1 v2 t1 t2 t F1 F2 r1 r2 h => by
  cases r1 with
  | none => cases h
  | bool => cases h
  | str => cases h
  | obj => cases h
  | tup => cases h
  | int a =>
    cases r2 <;> first | (cases h; done) | skip
    simp only [qMul] at h
    split at h
    · rename_i hm
      cases h; exact ⟨_, [], [], by simp only [oMul]; rw [if_pos hm]; simp, .int _, by simp, by simp⟩
    · cases h
  | ref e1 hs1 =>
    cases r2 with
    | none => cases h
    | bool => cases h
    | str => cases h
    | obj => cases h
    | tup => cases h
    | ref => cases h
    | int k =>
      simp only [qMul] at h
      split at h
      · rename_i hl
        cases h
        obtain ⟨G, h1, h2⟩ := rep_ok hs1 k.toNat
        refine ⟨_, _, _, ?_, newL h1, fun a m => ?_, newL_flat h1⟩
        · simp only [oMul, e1, Option.bind_some]
          rw [if_pos (by rw [hs1.length]; exact hl)]
        · rcases List.mem_cons.mp m with rfl | m
          · exact .inl (Nat.le_refl _)
          · exact .inr (.inl (List.mem_cons_of_mem _ (h2 a m)))
      · cases h
noncomputable def qList1 : List T → Option T
  | [.lst ts] => some (.lst ts)
  | [.tup ts] => some (.lst ts)
  | _ => none
theorem c_list1 : OCn oList1 qList1 := fun H vs ts t F hp r h => by
  unfold qList1 at h
  split at h
  · obtain ⟨v, rfl, r'⟩ := r.one_inv
    cases r' with
    | ref e hs => cases h; exact ⟨_, _, _, by simp only [oList1, e, Option.map_some], newL hs, fun a m => (List.mem_cons.mp m).imp (fun q => Nat.le_of_eq q.symm) (List.mem_cons_of_mem _), newL_flat hs⟩
  · obtain ⟨v, rfl, r'⟩ := r.one_inv
    cases r' with
    | tup hs => cases h; exact ⟨_, _, _, by simp only [oList1], newL hs, fun a m => (List.mem_cons.mp m).imp (fun q => Nat.le_of_eq q.symm) id, newL_flat hs⟩
  · cases h
end
end TM
end
section
set_option maxRecDepth 100000
set_option linter.all false
set_option autoImplicit false
namespace TM
open PySem PM
theorem St.from_src {c : Ctx} {O N : List Nat} {ρ : Lc} {σ : TL} {H : Hp} {Φ : Nat → List Nat} (s : St c O ρ σ H Φ) {a : Nat} (f : From H N σ Φ a) : c.H0.length ≤ a ∨ c.P a := by
  rcases f with h | ⟨i, hi, ⟨t, e⟩, m⟩
  · exact .inl (Nat.le_trans s.len h)
  · exact s.src i t e a m
theorem St.from_off {c : Ctx} {O N : List Nat} {ρ : Lc} {σ : TL} {H : Hp} {Φ : Nat → List Nat} (s : St c O ρ σ H Φ) (hN : ∀ i ∈ N, i ∉ O) {a : Nat} (f : From H N σ Φ a) {i : Nat} (hi : i ∈ O) {t : T} (e : σ i = some t) : a ∉ Φ i := by
  intro m
  obtain ⟨v, _, r⟩ := s.slot i t e
  have hl := r.lt a m
  rcases f with h | ⟨j, hj, ⟨t', e'⟩, m'⟩
  · omega
  · exact (s.own i hi t e).2.2 j t' (fun q => hN j hj (q ▸ hi)) e' a m m'
noncomputable abbrev PPt := TL → Option (Option Int)
noncomputable def ppNone : PPt := fun _ => some none
noncomputable def ppSome (p : PE) : PPt := fun σ => (p σ).bind fun t => match t with
  | .int k => some (some k)
  | _ => none
noncomputable def Pe (O : List Nat) (f : Pt) (p : PPt) : Prop := ∀ (c : Ctx) (ρ : Lc) (σ : TL) (H : Hp) (Φ : Nat → List Nat) (k : Option Int), St c O ρ σ H Φ → p σ = some k → ∃ o X, f ρ H = some (o, H ++ X) ∧ partV o = some k
section
variable {O N : List Nat} {u : Bool}
theorem Pe.none : Pe O PM.pNone ppNone := fun c ρ σ H Φ k s h => by
  cases h; exact ⟨Option.none, [], by simp [PM.pNone], rfl⟩
theorem Pe.some {e : Ex} {p : PE} (x : E O N u e p) : Pe O (pSome e) (ppSome p) := fun c ρ σ H Φ k s h => by
  obtain ⟨t, h1, h⟩ := Option.bind_eq_some_iff.mp h
  obtain ⟨v, X, F, a1, a2, a3, a4⟩ := x c ρ σ H Φ t s h1
  cases a2 <;> first | (cases h; done) | skip
  rename_i k'
  cases h
  exact ⟨Option.some (.int k'), X, by simp only [pSome, a1, Option.map_some], rfl⟩
noncomputable def pSlice (p : PE) (lo hi : PPt) : PE := fun σ => (p σ).bind fun t => (lo σ).bind fun a => (hi σ).bind fun b => match t with
  | .lst ts => Option.some (.lst (pickV ts a b))
  | _ => Option.none
theorem RFs.pick {H : Hp} {vs : List V} {ts : List T} {F : List Nat} (h : RFs H vs ts F) (l : List Nat) : ∃ G, RFs H (l.filterMap fun i => vs[i]?) (l.filterMap fun i => ts[i]?) G ∧ ∀ a ∈ G, a ∈ F := by
  induction l with
  | nil => exact ⟨_, .nil, by simp⟩
  | cons i l ih =>
    obtain ⟨G, h1, h2⟩ := ih
    simp only [List.filterMap_cons]
    have hl := h.length
    cases e : ts[i]? with
    | none =>
      have : vs[i]? = none := by rw [List.getElem?_eq_none_iff] at e ⊢; omega
      rw [this]
      exact ⟨G, h1, h2⟩
    | some t =>
      obtain ⟨x, G', hx, hr, hs⟩ := h.at e
      rw [hx]
      exact ⟨_, .cons hr h1, fun a m => (List.mem_append.mp m).elim (fun q => hs.subset q) (h2 a)⟩
theorem slice_core {c : Ctx} {ρ : Lc} {σ : TL} {H : Hp} {Φ : Nat → List Nat} {t : T} {e : Ex} {p : PE} {lo hi : Pt} {plo phi : PPt} (x : E O N u e p) (y : Pe O lo plo) (z : Pe O hi phi) (s : St c O ρ σ H Φ) (h : pSlice p plo phi σ = Option.some t) :
    ∃ v X F, eSlice e lo hi ρ H = Option.some (v, H ++ X) ∧ RF (H ++ X) v t F ∧ (∀ a ∈ F, From H N σ Φ a) ∧ (t.flatIn = true → F.Nodup ∧ ∀ a ∈ F, H.length ≤ a) := by
  obtain ⟨t1, h1, h⟩ := Option.bind_eq_some_iff.mp h
  obtain ⟨a, h2, h⟩ := Option.bind_eq_some_iff.mp h
  obtain ⟨b, h3, h⟩ := Option.bind_eq_some_iff.mp h
  obtain ⟨v, X, F, a1, a2, a3, a4⟩ := x c ρ σ H Φ t1 s h1
  obtain ⟨o1, Y, b1, b2⟩ := y c ρ σ (H ++ X) Φ a (s.ext X) h2
  obtain ⟨o2, Z, c1, c2⟩ := z c ρ σ (H ++ X ++ Y) Φ b ((s.ext X).ext Y) h3
  cases a2 with
  | none => cases h
  | bool => cases h
  | int => cases h
  | str => cases h
  | obj => cases h
  | tup => cases h
  | @ref i vs ts F e1 hs =>
  cases h
  have e3 : ((H ++ X) ++ (Y ++ Z))[i]? = Option.some vs := by rw [List.getElem?_append_left (List.getElem?_eq_some_iff.mp e1).1]; exact e1
  have hs' := hs.ext (Y ++ Z)
  have hlen := hs.length
  obtain ⟨G, g1, g2⟩ := hs'.pick (sliceRange (sliceBounds a b none vs.length).1 (sliceBounds a b none vs.length).2.1 (sliceBounds a b none vs.length).2.2)
  have g1' : RFs (H ++ X ++ (Y ++ Z)) (pickV vs a b) (pickV ts a b) G := by unfold pickV; rw [← hlen]; exact g1
  refine ⟨.ref (H ++ X ++ (Y ++ Z)).length, X ++ (Y ++ Z) ++ [pickV vs a b], (H ++ X ++ (Y ++ Z)).length :: G, ?_, ?_, fun q m => ?_, fun hf => ?_⟩
  · simp only [eSlice, a1, Option.bind_some, b1, c1, b2, c2]
    rw [List.append_assoc (H ++ X), e3]
    simp
  · have := newL g1'
    simpa using this
  · rcases List.mem_cons.mp m with rfl | m
    · exact .inl (by simp)
    · exact a3 q (List.mem_cons_of_mem _ (g2 q m))
  · have := newL_flat g1' hf
    exact ⟨this.1, fun q m => by have := this.2 q m; simp at this; omega⟩
theorem E.slice {e : Ex} {p : PE} {lo hi : Pt} {plo phi : PPt} (x : E O N u e p) (y : Pe O lo plo) (z : Pe O hi phi) : E O N false (eSlice e lo hi) (pSlice p plo phi) := fun c ρ σ H Φ t s h => by
  obtain ⟨v, X, F, a1, a2, a3, a4⟩ := slice_core x y z s h
  exact ⟨v, X, F, a1, a2, a3, by simp⟩
noncomputable def pFrom (p : PE) (k : Nat) : PE := fun σ => (p σ).bind fun t => match t with
  | .lst ts => Option.some (.lst (ts.drop k))
  | .tup ts => if 1 ≤ k ∧ k ≤ ts.length then Option.some (.tup (ts.drop k)) else Option.none
  | _ => Option.none
end
noncomputable def Gs (O N : List Nat) (g : Src) (q : PG) : Prop := ∀ (c : Ctx) (ρ : Lc) (σ : TL) (H : Hp) (Φ : Nat → List Nat) (ts : List T), St c O ρ σ H Φ → q σ = some ts →
  ∃ (nx : Nx) (X : Hp) (vs : List V) (F G : List Nat), g ρ H = some (nx, ts.length + 1, H ++ X) ∧ RFs (H ++ X) vs ts F ∧ (∀ a ∈ F, a ∈ G) ∧ (∀ a ∈ G, a < (H ++ X).length ∧ From H N σ Φ a) ∧ ∀ K : Hp, (∀ a ∈ G, K[a]? = (H ++ X)[a]?) → ∀ i, i ≤ vs.length → nx i K = some vs[i]?
section
variable {O N M : List Nat} {u u' : Bool}
noncomputable def pSeq (p : PE) : PG := fun σ => (p σ).bind fun t => match t with
  | .lst ts => some ts
  | .tup ts => some ts
  | _ => none
theorem Gs.seq {e : Ex} {p : PE} (x : E O N u e p) : Gs O N (gSeq e) (pSeq p) := fun c ρ σ H Φ ts s h => by
  obtain ⟨t1, h1, h⟩ := Option.bind_eq_some_iff.mp h
  obtain ⟨v, X, F, a1, a2, a3, a4⟩ := x c ρ σ H Φ t1 s h1
  have hlt := a2.lt
  cases a2 with
  | none => cases h
  | bool => cases h
  | int => cases h
  | str => cases h
  | obj => cases h
  | @tup vs _ _ hs =>
    cases h
    exact ⟨nxVals vs, X, vs, F, F, by simp only [gSeq, a1, Option.bind_some, hs.length], hs, fun _ m => m, fun a m => ⟨hlt a m, a3 a m⟩, fun K _ i hi => rfl⟩
  | @ref b vs _ F' e1 hs =>
    cases h
    refine ⟨nxList b, X, vs, F', b :: F', by simp only [gSeq, a1, Option.bind_some, e1, Option.map_some, hs.length], hs, fun _ m => List.mem_cons_of_mem _ m, fun a m => ⟨hlt a m, a3 a m⟩, fun K hK i hi => ?_⟩
    simp only [nxList, hK b List.mem_cons_self, e1, Option.map_some]
noncomputable def rngT (a b c : Int) : Option (List T) := if c ≠ 0 ∧ Builtin.Range.small a b c = true ∧ 0 ≤ Builtin.Range.rangeSize a b c ∧ rngN a b c ≤ LEN ∧ Builtin.divisionGoesByPylong (b - a) c = false then some ((List.range (rngN a b c)).map fun (i : Nat) => .int (a + (i : Int) * c)) else none
noncomputable def pRange (p : PEs) : PG := fun σ => (p σ).bind fun ts => match ts with
  | [.int b] => rngT 0 b 1
  | [.int a, .int b] => rngT a b 1
  | [.int a, .int b, .int c] => rngT a b c
  | _ => none
theorem rng_vals (H : Hp) (a c : Int) : ∀ (l : List Nat), RFs H (l.map fun (i : Nat) => .int (a + (i : Int) * c)) (l.map fun (i : Nat) => .int (a + (i : Int) * c)) []
  | [] => .nil
  | i :: l => by have := RFs.cons (RF.int (H := H) (a + i * c)) (rng_vals H a c l); exact this
theorem rng_core {a b c : Int} {H : Hp} {ts : List T} (h : rngT a b c = some ts) : ∃ (nx : Nx) (vs : List V), mkRange a b c H = some (nx, ts.length + 1, H) ∧ RFs H vs ts [] ∧ ∀ K : Hp, ∀ i, i ≤ vs.length → nx i K = some vs[i]? := by
  unfold rngT at h
  split at h
  · rename_i hc
    cases h
    refine ⟨nxRange a c (rngN a b c), (List.range (rngN a b c)).map fun (i : Nat) => .int (a + (i : Int) * c), ?_, rng_vals H a c _, fun K i hi => ?_⟩
    · unfold mkRange
      rw [if_pos hc]
      simp
    · simp only [nxRange, List.getElem?_map]
      by_cases q : i < rngN a b c
      · rw [if_pos q, List.getElem?_range q]; rfl
      · rw [if_neg q, List.getElem?_eq_none (by simpa using Nat.le_of_not_lt q)]; rfl
  · cases h
theorem RFs.three_inv {H : Hp} {vs : List V} {t t' t'' : T} {F : List Nat} (r : RFs H vs [t, t', t''] F) : ∃ v v' v'' F1 F2 F3, vs = [v, v', v''] ∧ RF H v t F1 ∧ RF H v' t' F2 ∧ RF H v'' t'' F3 := by
  cases r with
  | cons a b => obtain ⟨v', v'', F2, F3, h1, h2, h3, _⟩ := b.two_inv; subst h1; exact ⟨_, _, _, _, _, _, rfl, a, h2, h3⟩
theorem Gs.range {n : Nat} {e : Exs} {p : PEs} (x : Es O N u n e p) : Gs O [] (gRange e) (pRange p) := fun c ρ σ H Φ ts s h => by
  obtain ⟨t1, h1, h⟩ := Option.bind_eq_some_iff.mp h
  obtain ⟨_, vs, X, F, a1, a2, a3, a4⟩ := x c ρ σ H Φ t1 s h1
  split at h
  · obtain ⟨v, rfl, r⟩ := a2.one_inv
    cases r
    obtain ⟨nx, us, q1, q2, q3⟩ := rng_core (H := H ++ X) h
    exact ⟨nx, X, us, [], [], by simp only [gRange, a1, Option.bind_some, q1], q2, by simp, by simp, fun K _ => q3 K⟩
  · obtain ⟨v, v', F1, F2, rfl, r, r', _⟩ := a2.two_inv
    cases r; cases r'
    obtain ⟨nx, us, q1, q2, q3⟩ := rng_core (H := H ++ X) h
    exact ⟨nx, X, us, [], [], by simp only [gRange, a1, Option.bind_some, q1], q2, by simp, by simp, fun K _ => q3 K⟩
  · obtain ⟨v, v', v'', F1, F2, F3, rfl, r, r', r''⟩ := a2.three_inv
    cases r; cases r'; cases r''
    obtain ⟨nx, us, q1, q2, q3⟩ := rng_core (H := H ++ X) h
    exact ⟨nx, X, us, [], [], by simp only [gRange, a1, Option.bind_some, q1], q2, by simp, by simp, fun K _ => q3 K⟩
  · cases h
end
noncomputable def PutOk (O J : List Nat) (put : V → Lc → Option Lc) (q : T → TL → Option TL) : Prop := ∀ (c : Ctx) (ρ : Lc) (σ : TL) (H : Hp) (Φ : Nat → List Nat) (v : V) (t : T) (F : List Nat) (σ1 : TL), St c O ρ σ H Φ → RF H v t F → (∀ a ∈ F, c.H0.length ≤ a ∨ c.P a) → (∀ i ∈ O, ∀ t', σ i = some t' → ∀ a ∈ Φ i, a ∉ F) → q t σ = some σ1 →
  ∃ ρ1 Φ1, put v ρ = some ρ1 ∧ St c O ρ1 σ1 H Φ1 ∧ (∀ i, i ∉ J → σ1 i = σ i ∧ Φ1 i = Φ i) ∧ ∀ i ∈ J, ∀ a ∈ Φ1 i, a ∈ F
noncomputable def updF (Φ : Nat → List Nat) (j : Nat) (F : List Nat) : Nat → List Nat := fun i => if i = j then F else Φ i
theorem St.put {c : Ctx} {O : List Nat} {ρ : Lc} {σ : TL} {H : Hp} {Φ : Nat → List Nat} {v : V} {t : T} {F : List Nat} {j : Nat} (s : St c O ρ σ H Φ) (hj : j ∉ O) (r : RF H v t F) (hs : ∀ a ∈ F, c.H0.length ≤ a ∨ c.P a) (ho : ∀ i ∈ O, ∀ t', σ i = some t' → ∀ a ∈ Φ i, a ∉ F) : St c O (upd ρ j v) (updT σ j t) H (updF Φ j F) := by
  refine ⟨fun i u e => ?_, fun i u e => ?_, fun i hi u e => ?_, s.len, s.keep, s.pos, s.f0⟩
  · by_cases q : i = j
    · subst q
      simp [updT] at e
      subst e
      exact ⟨v, by simp [upd], by simpa [updF] using r⟩
    · simp [updT, q] at e
      simpa [upd, updF, q] using s.slot i u e
  · by_cases q : i = j
    · subst q; simpa [updF] using hs
    · simp [updT, q] at e
      simpa [updF, q] using s.src i u e
  · have q : i ≠ j := fun q => hj (q ▸ hi)
    simp [updT, q] at e
    obtain ⟨h1, h2, h3⟩ := s.own i hi u e
    refine ⟨by simpa [updF, q] using h1, by simpa [updF, q] using h2, fun k w hk ek => ?_⟩
    by_cases q2 : k = j
    · subst q2
      simpa [updF, q] using ho i hi u e
    · simp [updT, q2] at ek
      simpa [updF, q, q2] using h3 k w hk ek
noncomputable def pput1 (j : Nat) : T → TL → Option TL := fun t σ => some (updT σ j t)
theorem PutOk.one {O : List Nat} {j : Nat} (hj : j ∉ O) : PutOk O [j] (put1 j) (pput1 j) := fun c ρ σ H Φ v t F σ1 s r hs ho h => by
  cases h
  refine ⟨_, _, rfl, s.put hj r hs ho, fun i hi => ?_, fun i hi a m => ?_⟩
  · have : i ≠ j := fun q => hi (by simp [q])
    simp [updT, updF, this]
  · simp at hi; subst hi; simpa [updF] using m
noncomputable def compL (put : T → TL → Option TL) (c : PB) (f : PE) (σ : TL) : List T → Option (List T)
  | [] => some []
  | t :: ts => (put t σ).bind fun σ1 => (c σ1).bind fun b => if b then (f σ1).bind fun x => (compL put c f σ ts).map fun xs => x :: xs else compL put c f σ ts
noncomputable def pComp (g : PG) (put : T → TL → Option TL) (c : PB) (f : PE) : PE := fun σ => (g σ).bind fun ts => if ts.length ≤ LEN then (compL put c f σ ts).map .lst else none
section
variable {O Ns Ne J : List Nat} {u : Bool}
theorem comp_core {put : V → Lc → Option Lc} {pput : T → TL → Option TL} {tc : Ts} {pc : PB} {f : Ex} {pf : PE} (hj : PutOk O J put pput) (hN : ∀ i ∈ Ns, i ∉ O) (hc : Bt O tc pc) (hf : E O Ne u f pf) (hu : u = true → Ne = [])
    {c : Ctx} {ρ : Lc} {σ : TL} {Φ : Nat → List Nat} {H0 H1 : Hp} {nx : Nx} {vs : List V} {G : List Nat} (h0 : H0.length ≤ H1.length)
    (hG : ∀ a ∈ G, a < H1.length ∧ From H0 Ns σ Φ a) (hoff : ∀ a ∈ G, ∀ i ∈ O, ∀ t, σ i = some t → a ∉ Φ i) (hsrc : ∀ a ∈ G, c.H0.length ≤ a ∨ c.P a) (hnx : ∀ K : Hp, (∀ a ∈ G, K[a]? = H1[a]?) → ∀ i, i ≤ vs.length → nx i K = some vs[i]?) :
    ∀ (rs : List T) (ws : List V) (i : Nat) (acc : List V) (K : Hp) (Fr : List Nat) (out : List T), (∀ j, vs[i + j]? = ws[j]?) → i + ws.length = vs.length → St c O ρ σ K Φ → H1.length ≤ K.length → (∀ a ∈ G, K[a]? = H1[a]?) → RFs K ws rs Fr → (∀ a ∈ Fr, a ∈ G) → acc.length + rs.length ≤ LEN → compL pput pc pf σ rs = some out →
      ∃ xs X F, cLoop nx put tc f ρ (rs.length + 1) i acc K = some (acc ++ xs, K ++ X) ∧ RFs (K ++ X) xs out F ∧ (∀ a ∈ F, (u = true → K.length ≤ a) ∧ From H0 (Ns ++ Ne) σ Φ a) ∧ (u = true → F.Nodup)
  | [], ws, i, acc, K, Fr, out, hat, hlen, s, hl, hk, r, hfr, hacc, h => by
    cases r
    cases h
    have e := hnx K hk i (by simp at hlen; omega)
    have e2 : vs[i]? = none := by have := hat 0; simpa using this
    refine ⟨[], [], [], ?_, .nil, by simp, by simp⟩
    simp [cLoop, e, e2]
  | t :: rs, ws0, i, acc, K, Fr0, out, hat, hlen, s, hl, hk, r, hfr, hacc, h => by
    cases r with
    | @cons v _ F1 ws _ F2 a b =>
    simp only [List.length_cons] at hlen hacc
    obtain ⟨σ1, h1, h⟩ := Option.bind_eq_some_iff.mp h
    obtain ⟨bb, h2, h⟩ := Option.bind_eq_some_iff.mp h
    have e := hnx K hk i (by omega)
    have e2 : vs[i]? = some v := by have := hat 0; simpa using this
    have hat' : ∀ j, vs[i + 1 + j]? = ws[j]? := fun j => by have := hat (j + 1); rw [show i + 1 + j = i + (j + 1) by omega, this]; simp
    obtain ⟨ρ1, Φ1, p1, s1, p3, p4⟩ := hj c ρ σ K Φ v t F1 σ1 s a (fun x m => hsrc x (hfr x (List.mem_append_left _ m))) (fun k hk t' e x m q => hoff x (hfr x (List.mem_append_left _ q)) k hk t' e m) h1
    obtain ⟨X1, c1⟩ := hc c ρ1 σ1 K Φ1 bb s1 h2
    cases bb with
    | true =>
      obtain ⟨y, h3, h⟩ := Option.bind_eq_some_iff.mp h
      obtain ⟨ys, h4, h⟩ := Option.map_eq_some_iff.mp h
      subst h
      obtain ⟨w, X2, Fw, d1, d2, d3, d4⟩ := hf c ρ1 σ1 (K ++ X1) Φ1 y (s1.ext X1) h3
      have hext : ∀ a ∈ G, (K ++ X1 ++ X2)[a]? = H1[a]? := fun a m => by
        have := (hG a m).1
        rw [List.append_assoc, List.getElem?_append_left (by omega)]; exact hk a m
      obtain ⟨xs, X3, F3, f1, f2, f3, f4⟩ := comp_core hj hN hc hf hu h0 hG hoff hsrc hnx rs ws (i + 1) (acc ++ [w]) (K ++ X1 ++ X2) F2 ys hat' (by omega) ((s.ext X1).ext X2) (by simp; omega) hext (by rw [List.append_assoc]; exact b.ext _) (fun x m => hfr x (List.mem_append_right _ m)) (by simp; omega) h4
      refine ⟨w :: xs, X1 ++ X2 ++ X3, Fw ++ F3, ?_, ?_, fun x m => ?_, fun hu' => ?_⟩
      · rw [List.length_cons, cLoop, e, e2]
        simp only [Option.bind_some, p1, c1, d1, if_true]
        rw [if_pos (by omega)]
        simpa using f1
      · have := RFs.cons (d2.ext X3) f2
        simpa using this
      · rcases List.mem_append.mp m with m | m
        · refine ⟨fun hu' => ?_, ?_⟩
          · have hne := hu hu'
            subst hne
            have := (d3 x m).nil
            simp at this; omega
          · rcases d3 x m with q | ⟨k, hk1, ⟨tk, ek⟩, mk⟩
            · exact .inl (by simp at q; omega)
            · by_cases hkJ : k ∈ J
              · exact (hG x (hfr x (List.mem_append_left _ (p4 k hkJ x mk)))).2.mono fun i hi => List.mem_append_left _ hi
              · obtain ⟨q1, q2⟩ := p3 k hkJ
                exact .inr ⟨k, List.mem_append_right _ hk1, ⟨tk, q1 ▸ ek⟩, q2 ▸ mk⟩
        · obtain ⟨g1, g2⟩ := f3 x m
          exact ⟨fun hu' => by have := g1 hu'; simp at this; omega, g2⟩
      · rw [List.nodup_append]
        refine ⟨d4 hu', f4 hu', fun x hx y hy e => ?_⟩
        have l1 := d2.lt x hx
        have l2 := (f3 y hy).1 hu'
        omega
    | false =>
      have hext : ∀ a ∈ G, (K ++ X1)[a]? = H1[a]? := fun a m => by
        have := (hG a m).1
        rw [List.getElem?_append_left (by omega)]; exact hk a m
      obtain ⟨xs, X3, F3, f1, f2, f3, f4⟩ := comp_core hj hN hc hf hu h0 hG hoff hsrc hnx rs ws (i + 1) acc (K ++ X1) F2 out hat' (by omega) (s.ext X1) (by simp; omega) hext (b.ext _) (fun x m => hfr x (List.mem_append_right _ m)) (by omega) (by simpa using h)
      refine ⟨xs, X1 ++ X3, F3, ?_, by simpa using f2, fun x m => ?_, f4⟩
      · rw [List.length_cons, cLoop, e, e2]
        simp only [Option.bind_some, p1, c1]
        simpa using f1
      · obtain ⟨g1, g2⟩ := f3 x m
        exact ⟨fun hu' => by have := g1 hu'; simp at this; omega, g2⟩
theorem E.comp {g : Src} {q : PG} {put : V → Lc → Option Lc} {pput : T → TL → Option TL} {tc : Ts} {pc : PB} {f : Ex} {pf : PE} (hg : Gs O Ns g q) (hj : PutOk O J put pput) (hN : ∀ i ∈ Ns, i ∉ O) (hc : Bt O tc pc) (hf : E O Ne u f pf) (hu : u = true → Ne = []) : E O (if u then [] else Ns ++ Ne) u (eComp g put tc f) (pComp q pput pc pf) := fun c ρ σ H Φ t s h => by
  obtain ⟨ts, h1, h⟩ := Option.bind_eq_some_iff.mp h
  split at h
  · rename_i hl
    obtain ⟨out, h2, h⟩ := Option.map_eq_some_iff.mp h
    subst h
    obtain ⟨nx, X, vs, F, G, g1, g2, g3, g4, g5⟩ := hg c ρ σ H Φ ts s h1
    obtain ⟨xs, Y, F', d1, d2, d3, d4⟩ := comp_core hj hN hc hf hu (H0 := H) (H1 := H ++ X) (by simp) g4 (fun a m i hi t e => s.from_off hN (g4 a m).2 hi e) (fun a m => s.from_src (g4 a m).2) g5 ts vs 0 [] (H ++ X) F out (by simp) (by simp) (s.ext X) (Nat.le_refl _) (fun _ _ => rfl) g2 g3 (by simpa using hl) h2
    refine ⟨.ref (H ++ X ++ Y).length, X ++ Y ++ [xs], (H ++ X ++ Y).length :: F', ?_, ?_, fun a m => ?_, fun hu' => ?_⟩
    · simp only [eComp, g1, Option.bind_some, d1, Option.map_some, List.nil_append, List.append_assoc]
    · have := newL d2
      simpa using this
    · rcases List.mem_cons.mp m with rfl | m
      · exact .inl (by simp)
      · obtain ⟨q1, q2⟩ := d3 a m
        cases u with
        | true => exact .inl (by have := q1 rfl; simp at this; omega)
        | false => exact q2
    · rw [List.nodup_cons]
      exact ⟨fun m => Nat.lt_irrefl _ (d2.lt _ m), d4 hu'⟩
  · cases h
end
end TM
end
section
set_option maxRecDepth 100000
set_option linter.all false
set_option autoImplicit false
namespace TM
open PySem PM
noncomputable abbrev PS := TL → Option (Option T × TL)
noncomputable def delTs (σ : TL) (N : List Nat) : TL := fun j => if j ∈ N then none else σ j
noncomputable def Held (O : List Nat) (σ : TL) (Φ : Nat → List Nat) (a : Nat) : Prop := ∃ j ∈ O, (∃ t, σ j = some t) ∧ a ∈ Φ j
noncomputable def Aft (c : Ctx) (O O' R : List Nat) (fr : Bool) (σ : TL) (H : Hp) (Φ : Nat → List Nat) (g : Option (Option V × Lc × Hp)) (r : Option T × TL) : Prop :=
  ∃ ρ' H' Φ', H.length ≤ H'.length ∧ (∀ a, a < H.length → ¬ Held O σ Φ a → H'[a]? = H[a]?) ∧
    ((r.1 = none ∧ g = some (none, ρ', H') ∧ St c O' ρ' r.2 H' Φ' ∧ ∀ a, Held O' r.2 Φ' a → H.length ≤ a ∨ Held O σ Φ a) ∨
     ∃ t v F, r.1 = some t ∧ g = some (some v, ρ', H') ∧ RF H' v t F ∧ St c R ρ' r.2 H' Φ' ∧ (∀ a ∈ F, c.H0.length ≤ a ∨ c.P a) ∧ (fr = true → F.Nodup ∧ ∀ a ∈ F, c.H0.length ≤ a ∨ a ∈ c.F0))
noncomputable def S (O O' R : List Nat) (fr : Bool) (g : Sm) (q : PS) : Prop := ∀ (c : Ctx) (ρ : Lc) (σ : TL) (H : Hp) (Φ : Nat → List Nat) (r : Option T × TL), St c O ρ σ H Φ → q σ = some r → Aft c O O' R fr σ H Φ (g ρ H) r
theorem Held.mono {O O' : List Nat} {σ : TL} {Φ : Nat → List Nat} {a : Nat} (h : Held O σ Φ a) (s : ∀ i ∈ O, i ∈ O') : Held O' σ Φ a := by
  obtain ⟨j, hj, q⟩ := h; exact ⟨j, s j hj, q⟩
theorem Held.lt {c : Ctx} {O O' : List Nat} {ρ : Lc} {σ : TL} {H : Hp} {Φ : Nat → List Nat} {a : Nat} (s : St c O ρ σ H Φ) (h : Held O' σ Φ a) : a < H.length := by
  obtain ⟨j, hj, ⟨t, e⟩, m⟩ := h
  obtain ⟨v, _, r⟩ := s.slot j t e
  exact r.lt a m
section
variable {O O' R : List Nat} {fr : Bool}
noncomputable def qNext : PS := fun σ => some (none, σ)
theorem S.next : S O O R fr sNext qNext := fun c ρ σ H Φ r s e => by
  cases e
  exact ⟨ρ, H, Φ, Nat.le_refl _, fun _ _ _ => rfl, .inl ⟨rfl, rfl, s, fun a m => .inr m⟩⟩
noncomputable def qSeq (a b : PS) : PS := fun σ => (a σ).bind fun r => match r.1 with
  | some _ => some r
  | none => b r.2
theorem S.seq {O1 : List Nat} {a b : Sm} {p q : PS} (x : S O O1 R fr a p) (y : S O1 O' R fr b q) : S O O' R fr (sSeq a b) (qSeq p q) := fun c ρ σ H Φ r s e => by
  obtain ⟨r1, e1, e⟩ := Option.bind_eq_some_iff.mp e
  obtain ⟨ρ1, H1, Φ1, h1, h2, h3⟩ := x c ρ σ H Φ r1 s e1
  rcases h3 with ⟨k1, k2, k3, k4⟩ | ⟨t, v, F, k1, k2, k3⟩
  · rw [k1] at e
    obtain ⟨ρ2, H2, Φ2, g1, g2, g3⟩ := y c ρ1 r1.2 H1 Φ1 r k3 e
    refine ⟨ρ2, H2, Φ2, Nat.le_trans h1 g1, fun a ha hn => ?_, ?_⟩
    · rw [g2 a (by omega) fun q => (k4 a q).elim (fun q => by omega) hn, h2 a ha hn]
    · have eg : sSeq a b ρ H = b ρ1 H1 := by simp only [sSeq, k2, Option.bind_some]
      rw [eg]
      rcases g3 with ⟨l1, l2, l3, l4⟩ | l
      · refine .inl ⟨l1, l2, l3, fun a m => ?_⟩
        rcases l4 a m with q | q
        · exact .inl (by omega)
        · exact k4 a q
      · exact .inr l
  · rw [k1] at e
    cases e
    exact ⟨ρ1, H1, Φ1, h1, h2, .inr ⟨t, v, F, k1, by simp only [sSeq, k2, Option.bind_some], k3⟩⟩
noncomputable def qRet (p : PE) : PS := fun σ => (p σ).map fun t => (some t, σ)
theorem S.ret {N : List Nat} {u : Bool} {e : Ex} {p : PE} (x : E O N u e p) (hR : ∀ i ∈ R, i ∈ O) : S O O' R false (sRet e) (qRet p) := fun c ρ σ H Φ r s q => by
  obtain ⟨t, h1, h⟩ := Option.map_eq_some_iff.mp q
  subst h
  obtain ⟨v, X, F, a1, a2, a3, a4⟩ := x c ρ σ H Φ t s h1
  refine ⟨ρ, H ++ X, Φ, by simp, fun a ha _ => List.getElem?_append_left ha, .inr ⟨t, v, F, rfl, by simp only [sRet, a1, Option.map_some], a2, (s.ext X).less hR, fun a m => s.from_src (a3 a m), by simp⟩⟩
theorem S.retF {N : List Nat} {e : Ex} {p : PE} (x : E O N true e p) (hN : ∀ i ∈ N, i ∈ O) (hR : ∀ i ∈ R, i ∈ O) : S O O' R fr (sRet e) (qRet p) := fun c ρ σ H Φ r s q => by
  obtain ⟨t, h1, h⟩ := Option.map_eq_some_iff.mp q
  subst h
  obtain ⟨v, X, F, a1, a2, a3, a4⟩ := x c ρ σ H Φ t s h1
  refine ⟨ρ, H ++ X, Φ, by simp, fun a ha _ => List.getElem?_append_left ha, .inr ⟨t, v, F, rfl, by simp only [sRet, a1, Option.map_some], a2, (s.ext X).less hR, fun a m => s.from_src (a3 a m), fun _ => ⟨a4 rfl, fun a m => ?_⟩⟩⟩
  rcases a3 a m with q | ⟨i, hi, ⟨t', e'⟩, m'⟩
  · exact .inl (Nat.le_trans s.len q)
  · exact (s.own i (hN i hi) t' e').2.1 a m'
noncomputable def qSet (i : Nat) (p : PE) : PS := fun σ => (p σ).map fun t => (none, updT σ i t)
theorem S.set {N : List Nat} {u : Bool} {i : Nat} {e : Ex} {p : PE} (x : E O N u e p) (hi : i ∉ O') (hN : ∀ j ∈ N, j ∉ O') (hO : ∀ j ∈ O', j ∈ O) : S O O' R fr (sSet i e) (qSet i p) := fun c ρ σ H Φ r s q => by
  obtain ⟨t, h1, h⟩ := Option.map_eq_some_iff.mp q
  subst h
  obtain ⟨v, X, F, a1, a2, a3, a4⟩ := x c ρ σ H Φ t s h1
  have s' := s.less hO
  refine ⟨upd ρ i v, H ++ X, updF Φ i F, by simp, fun a ha _ => List.getElem?_append_left ha, .inl ⟨rfl, by simp only [sSet, a1, Option.map_some], (s'.ext X).put hi a2 (fun a m => s.from_src (a3 a m)) (fun k hk t' e' a m q => ?_), fun a m => ?_⟩⟩
  · exact s'.from_off hN (a3 a q) hk e' m
  · obtain ⟨k, hk, ⟨t', e'⟩, m⟩ := m
    have : k ≠ i := fun q => hi (q ▸ hk)
    simp [updT, this] at e'
    simp [updF, this] at m
    exact .inr ⟨k, hO k hk, ⟨t', e'⟩, m⟩
theorem S.setO {i : Nat} {e : Ex} {p : PE} (x : E O [] true e p) (hO : ∀ j ∈ O', j ∈ O ∨ j = i) : S O O' R fr (sSet i e) (qSet i p) := fun c ρ σ H Φ r s q => by
  obtain ⟨t, h1, h⟩ := Option.map_eq_some_iff.mp q
  subst h
  obtain ⟨v, X, F, a1, a2, a3, a4⟩ := x c ρ σ H Φ t s h1
  have hnew : ∀ a ∈ F, H.length ≤ a := fun a m => (a3 a m).nil
  have hold : ∀ k t', σ k = some t' → ∀ a ∈ Φ k, a < H.length := fun k t' e a m => by
    obtain ⟨_, _, r⟩ := s.slot k t' e
    exact r.lt a m
  refine ⟨upd ρ i v, H ++ X, updF Φ i F, by simp, fun a ha _ => List.getElem?_append_left ha, .inl ⟨rfl, by simp only [sSet, a1, Option.map_some], ⟨fun k t' e' => ?_, fun k t' e' => ?_, fun k hk t' e' => ?_, (s.ext X).len, (s.ext X).keep, s.pos, s.f0⟩, fun a m => ?_⟩⟩
  · by_cases q : k = i
    · subst q
      simp [updT] at e'
      subst e'
      exact ⟨v, by simp [upd], by simpa [updF] using a2⟩
    · simp [updT, q] at e'
      simpa [upd, updF, q] using (s.ext X).slot k t' e'
  · by_cases q : k = i
    · subst q; simpa [updF] using fun a m => s.from_src (a3 a m)
    · simp [updT, q] at e'
      simpa [updF, q] using s.src k t' e'
  · by_cases q : k = i
    · subst q
      simp only [updF, if_true]
      refine ⟨a4 rfl, fun a m => .inl (Nat.le_trans s.len (hnew a m)), fun j w hj ej a m q => ?_⟩
      simp [updT, hj] at ej
      rw [if_neg hj] at q
      have := hold j w ej a q
      have := hnew a m
      omega
    · have hk' := (hO k hk).resolve_right q
      simp [updT, q] at e'
      obtain ⟨o1, o2, o3⟩ := s.own k hk' t' e'
      refine ⟨by simpa [updF, q] using o1, by simpa [updF, q] using o2, fun j w hj ej a m => ?_⟩
      simp [updF, q] at m
      by_cases q2 : j = i
      · subst q2
        simp only [updF, if_true]
        intro m2
        have := hold k t' e' a m
        have := hnew a m2
        omega
      · simp [updT, q2] at ej
        simpa [updF, q2] using o3 j w hj ej a m
  · obtain ⟨k, hk, ⟨t', e'⟩, m⟩ := m
    by_cases q : k = i
    · subst q
      simp [updF] at m
      exact .inl (hnew a m)
    · simp [updT, q] at e'
      simp [updF, q] at m
      exact .inr ⟨k, (hO k hk).resolve_right q, ⟨t', e'⟩, m⟩
noncomputable def qIf (b : PB) (p q : PS) : PS := fun σ => (b σ).bind fun x => if x then p σ else q σ
theorem Aft.grow {c : Ctx} {σ : TL} {H X : Hp} {Φ : Nat → List Nat} {g : Option (Option V × Lc × Hp)} {r : Option T × TL} (h : Aft c O O' R fr σ (H ++ X) Φ g r) : Aft c O O' R fr σ H Φ g r := by
  obtain ⟨ρ', H', Φ', h1, h2, h3⟩ := h
  rw [List.length_append] at h1
  refine ⟨ρ', H', Φ', by omega, fun a ha hn => ?_, ?_⟩
  · rw [h2 a (by rw [List.length_append]; omega) hn, List.getElem?_append_left ha]
  · rcases h3 with ⟨k1, k2, k3, k4⟩ | k
    · exact .inl ⟨k1, k2, k3, fun a m => (k4 a m).imp (fun q => by rw [List.length_append] at q; omega) id⟩
    · exact .inr k
theorem S.ife {t : Ts} {pb : PB} {a b : Sm} {p q : PS} (z : Bt O t pb) (x : S O O' R fr a p) (y : S O O' R fr b q) : S O O' R fr (sIf t a b) (qIf pb p q) := fun c ρ σ H Φ r s e => by
  obtain ⟨bb, e1, e⟩ := Option.bind_eq_some_iff.mp e
  obtain ⟨X, h1⟩ := z c ρ σ H Φ bb s e1
  cases bb with
  | true =>
    have := x c ρ σ (H ++ X) Φ r (s.ext X) (by simpa using e)
    have eg : sIf t a b ρ H = a ρ (H ++ X) := by simp [sIf, h1]
    rw [eg]
    exact this.grow
  | false =>
    have := y c ρ σ (H ++ X) Φ r (s.ext X) (by simpa using e)
    have eg : sIf t a b ρ H = b ρ (H ++ X) := by simp [sIf, h1]
    rw [eg]
    exact this.grow
noncomputable def follow (H : Hp) : List Int → V → Option V
  | [], v => some v
  | k :: ks, v => (oIdx v (.int k) H).bind fun q => follow H ks q.1
theorem Lead.follow {H : Hp} {ks : List Int} {v : V} {a : Nat} (l : Lead H ks v a) : follow H ks v = some (.ref a) := by
  induction l with
  | nil => rfl
  | ref h1 h2 h3 _ ih => simp only [TM.follow, oIdx, h1, Option.bind_some, h2, h3, Option.map_some, ih]
  | tup h2 h3 _ ih => simp only [TM.follow, oIdx, Option.bind_some, h2, h3, Option.map_some, ih]
theorem idx_keeps {H : Hp} {v w z : V} {K : Hp} (h : oIdx v z H = some (w, K)) (X : Hp) : K = H ∧ oIdx v z (H ++ X) = some (w, H ++ X) := by
  unfold oIdx at h
  split at h
  · obtain ⟨vs, e1, h⟩ := Option.bind_eq_some_iff.mp h
    obtain ⟨j, e2, h⟩ := Option.bind_eq_some_iff.mp h
    obtain ⟨x, e3, h⟩ := Option.map_eq_some_iff.mp h
    cases h
    exact ⟨rfl, by simp only [oIdx, List.getElem?_append_left (List.getElem?_eq_some_iff.mp e1).1, e1, Option.bind_some, e2, e3, Option.map_some]⟩
  · obtain ⟨j, e2, h⟩ := Option.bind_eq_some_iff.mp h
    obtain ⟨x, e3, h⟩ := Option.map_eq_some_iff.mp h
    cases h
    exact ⟨rfl, by simp only [oIdx, Option.bind_some, e2, e3, Option.map_some]⟩
  · cases h
noncomputable abbrev PPa := TL → Option (List Int)
noncomputable def paNil : PPa := fun _ => some []
noncomputable def Pa (O : List Nat) (x : Nat) (e : Ex) (p : PPa) : Prop := ∀ (c : Ctx) (ρ : Lc) (σ : TL) (H : Hp) (Φ : Nat → List Nat) (ks : List Int) (v w : V), St c O ρ σ H Φ → p σ = some ks → ρ x = some v → follow H ks v = some w → ∃ X, e ρ H = some (w, H ++ X)
theorem Pa.var {x : Nat} : Pa O x (eVar x) paNil := fun c ρ σ H Φ ks v w s h e f => by
  cases h; cases f
  exact ⟨[], by simp [eVar, e]⟩
theorem St.mut {c : Ctx} {ρ : Lc} {σ : TL} {H : Hp} {Φ : Nat → List Nat} {N : List Nat} {x a b : Nat} {t t' : T} {v : V} {Fw F' : List Nat} {vs' : List V} (s : St c O ρ σ H Φ) (hx : x ∈ O) (ex : σ x = some t) (ev : ρ x = some v) (hb : c.H0.length ≤ b) (hlow : ∀ k t, σ k = some t → ∀ a ∈ Φ k, a < b)
    (hFw : ∀ a ∈ Fw, b ≤ a ∨ ∃ j ∈ N, (∃ t, σ j = some t) ∧ a ∈ Φ j) (hN : ∀ j ∈ N, j ∈ O ∧ j ≠ x) (ha : a ∈ Φ x) (r : RF (H.set a vs') v t' F') (nd : F'.Nodup) (sub : ∀ y ∈ F', y ∈ Φ x ∨ y ∈ Fw) (hO : ∀ j ∈ O', j ∈ O ∧ j ∉ N) :
    St c O' ρ (delTs (updT σ x t') N) (H.set a vs') (updF Φ x F') ∧ (∀ y, Held O' (delTs (updT σ x t') N) (updF Φ x F') y → b ≤ y ∨ Held O σ Φ y) := by
  obtain ⟨o1, o2, o3⟩ := s.own x hx t ex
  have old : ∀ k u, k ≠ x → delTs (updT σ x t') N k = some u → σ k = some u ∧ k ∉ N := fun k u hk e => by
    unfold delTs at e
    split at e
    · cases e
    · rename_i hn
      simp [updT, hk] at e
      exact ⟨e, hn⟩
  have self : ∀ u, delTs (updT σ x t') N x = some u → u = t' := fun u e => by
    unfold delTs at e
    split at e
    · cases e
    · simp [updT] at e; exact e.symm
  have foff : ∀ y ∈ F', ∀ k u, k ≠ x → σ k = some u → k ∉ N → y ∉ Φ k := fun y hy k u hk e hkn m => by
    rcases sub y hy with q | q
    · exact o3 k u hk e y q m
    · rcases hFw y q with q | ⟨j, hj, ⟨tj, ej⟩, mj⟩
      · have := hlow k u e y m; omega
      · exact (s.own j (hN j hj).1 tj ej).2.2 k u (fun q => hkn (q ▸ hj)) e y mj m
  refine ⟨⟨fun k u e => ?_, fun k u e => ?_, fun k hk u e => ?_, by simpa using s.len, fun y hy hn => ?_, s.pos, s.f0⟩, fun y hy => ?_⟩
  · by_cases q : k = x
    · subst q
      have := self u e
      subst this
      exact ⟨v, ev, by simpa [updF] using r⟩
    · obtain ⟨e1, e2⟩ := old k u q e
      obtain ⟨w, h1, h2⟩ := s.slot k u e1
      refine ⟨w, h1, ?_⟩
      simp only [updF, q, if_false]
      refine h2.frame fun y hy => List.getElem?_set_ne fun q' => ?_
      exact o3 k u q e1 a ha (q' ▸ hy)
  · by_cases q : k = x
    · subst q
      simp only [updF, if_true]
      intro y hy
      rcases sub y hy with q | q
      · exact s.src k t ex y q
      · rcases hFw y q with q | ⟨j, hj, ⟨tj, ej⟩, mj⟩
        · exact .inl (by omega)
        · exact s.src j tj ej y mj
    · obtain ⟨e1, e2⟩ := old k u q e
      simpa [updF, q] using s.src k u e1
  · by_cases q : k = x
    · subst q
      simp only [updF, if_true]
      refine ⟨nd, fun y hy => ?_, fun j w hj ej y hy => ?_⟩
      · rcases sub y hy with q | q
        · exact o2 y q
        · rcases hFw y q with q | ⟨j, hj, ⟨tj, ej⟩, mj⟩
          · exact .inl (by omega)
          · exact (s.own j (hN j hj).1 tj ej).2.1 y mj
      · obtain ⟨e1, e2⟩ := old j w hj ej
        simpa [hj] using foff y hy j w hj e1 e2
    · obtain ⟨e1, e2⟩ := old k u q e
      obtain ⟨p1, p2, p3⟩ := s.own k (hO k hk).1 u e1
      simp only [updF, q, if_false]
      refine ⟨p1, p2, fun j w hj ej y hy => ?_⟩
      by_cases q2 : j = x
      · subst q2
        simp only [if_true]
        exact fun m => foff y m k u q e1 e2 hy
      · obtain ⟨f1, f2⟩ := old j w q2 ej
        simpa [q2] using p3 j w hj f1 y hy
  · have : a ≠ y := fun q => by
      subst q
      rcases o2 a ha with q | q
      · omega
      · exact hn q
    rw [List.getElem?_set_ne this]
    exact s.keep y hy hn
  · obtain ⟨k, hk, ⟨u, e⟩, m⟩ := hy
    by_cases q : k = x
    · subst q
      simp only [updF, if_true] at m
      rcases sub y m with q | q
      · exact .inr ⟨k, hx, ⟨t, ex⟩, q⟩
      · rcases hFw y q with q | ⟨j, hj, q⟩
        · exact .inl q
        · exact .inr ⟨j, (hN j hj).1, q⟩
    · obtain ⟨e1, e2⟩ := old k u q e
      simp only [updF, q, if_false] at m
      exact .inr ⟨k, (hO k hk).1, ⟨u, e1⟩, m⟩
theorem own_ne0 {c : Ctx} {ρ : Lc} {σ : TL} {H : Hp} {Φ : Nat → List Nat} {x a : Nat} {t : T} (s : St c O ρ σ H Φ) (hx : x ∈ O) (ex : σ x = some t) (ha : a ∈ Φ x) : a ≠ 0 := by
  have := s.pos
  rcases (s.own x hx t ex).2.1 a ha with q | q
  · omega
  · exact fun e => s.f0 (e ▸ q)
noncomputable def appT (w : T) (ts : List T) : Option (List T) := if ts.length < LEN then some (ts ++ [w]) else none
noncomputable def putT (k : Int) (w : T) (ts : List T) : Option (List T) := if 0 ≤ k ∧ k < ts.length then some (ts.set k.toNat w) else none
noncomputable def qApp (x : Nat) (N : List Nat) (po : PPa) (p : PE) : PS := fun σ => (po σ).bind fun ks => (p σ).bind fun w => (σ x).bind fun t => (tmod (appT w) ks t).map fun t' => (none, delTs (updT σ x t') N)
theorem follow_ext {H : Hp} (X : Hp) : ∀ {ks : List Int} {v w : V}, follow H ks v = some w → follow (H ++ X) ks v = some w
  | [], _, _, h => h
  | k :: ks, v, w, h => by
    obtain ⟨⟨w1, K⟩, h1, h2⟩ := Option.bind_eq_some_iff.mp h
    simp only [follow, (idx_keeps h1 X).2, Option.bind_some]
    exact follow_ext X h2
theorem S.app {x : Nat} {N : List Nat} {o e : Ex} {po : PPa} {p : PE} (hx : x ∈ O) (y : Pa O x o po) (z : E O N true e p) (hN : ∀ j ∈ N, j ∈ O ∧ j ≠ x) (hO : ∀ j ∈ O', j ∈ O ∧ j ∉ N) : S O O' R fr (sExp (eAppend o e)) (qApp x N po p) := fun c ρ σ H Φ r s q => by
  obtain ⟨ks, h1, q⟩ := Option.bind_eq_some_iff.mp q
  obtain ⟨w, h2, q⟩ := Option.bind_eq_some_iff.mp q
  obtain ⟨t, h3, q⟩ := Option.bind_eq_some_iff.mp q
  obtain ⟨t', h4, q⟩ := Option.map_eq_some_iff.mp q
  subst q
  obtain ⟨v, ev, rv⟩ := s.slot x t h3
  have hlow : ∀ k t, σ k = some t → ∀ a ∈ Φ k, a < H.length := fun k t e a m => by
    obtain ⟨_, _, r⟩ := s.slot k t e
    exact r.lt a m
  obtain ⟨o1, o2, o3⟩ := s.own x hx t h3
  obtain ⟨a, vs0, ts0, ts0', G0, l0, _⟩ := RF.mod (Gn := []) ks rv o1 (by simp) h4
  obtain ⟨X, a1⟩ := y c ρ σ H Φ ks v (.ref a) s h1 ev l0.follow
  obtain ⟨vw, Y, Fw, b1, b2, b3, b4⟩ := z c ρ σ (H ++ X) Φ w (s.ext X) h2
  have s2 := (s.ext X).ext Y
  have rv2 : RF (H ++ X ++ Y) v t (Φ x) := (rv.ext X).ext Y
  have hFw : ∀ a ∈ Fw, H.length ≤ a ∨ ∃ j ∈ N, (∃ t, σ j = some t) ∧ a ∈ Φ j := fun a m => (b3 a m).back
  have dsj : ∀ a ∈ Fw, a ∉ Φ x := fun a m q => by
    rcases hFw a m with h | ⟨j, hj, ⟨tj, ej⟩, mj⟩
    · have := hlow x t h3 a q; omega
    · exact o3 j tj (hN j hj).2 ej a q mj
  obtain ⟨a', vs, ts, ts', G, l, am, ea, hs, hf, gn, na, gs, go⟩ := RF.mod (Gn := Fw) ks rv2 o1 dsj h4
  have haa : a' = a := by
    have f2 := follow_ext Y (follow_ext X l0.follow)
    rw [l.follow] at f2
    cases f2
    rfl
  subst haa
  unfold appT at hf
  split at hf
  · rename_i hl
    cases hf
    obtain ⟨F', r', n', sub'⟩ := go (vs ++ [vw]) (G ++ Fw) (hs.snoc b2) (by
      rw [List.nodup_append]
      exact ⟨gn, b4 rfl, fun y hy z hz e => dsj z hz (e ▸ gs y hy)⟩) (fun m => (List.mem_append.mp m).elim na fun m => dsj _ m am) (fun y m => List.mem_append.mp m)
    obtain ⟨st, com⟩ := St.mut (O' := O') (b := H.length) s2 hx h3 ev s.len hlow hFw hN am r' n' sub' hO
    refine ⟨ρ, (H ++ X ++ Y).set a' (vs ++ [vw]), updF Φ x F', by simp, fun y hy hn => ?_, .inl ⟨rfl, ?_, st, com⟩⟩
    · have : a' ≠ y := fun q => hn ⟨x, hx, ⟨t, h3⟩, q ▸ am⟩
      rw [List.getElem?_set_ne this, List.append_assoc, List.getElem?_append_left hy]
    · simp only [sExp, eAppend, a1, Option.bind_some, b1, oAppend, ea]
      rw [if_pos ⟨own_ne0 s hx h3 am, by rw [hs.length]; exact hl⟩]
      rfl
  · cases hf
noncomputable def forL (put : T → TL → Option TL) (b : PS) : TL → List T → Option (Option T × TL)
  | σ, [] => some (none, σ)
  | σ, t :: ts => (put t σ).bind fun σ1 => (b σ1).bind fun r => match r.1 with
    | some _ => some r
    | none => forL put b r.2 ts
noncomputable def qFor (g : PG) (put : T → TL → Option TL) (b : PS) : PS := fun σ => (g σ).bind fun ts => forL put b σ ts
theorem for_core {J : List Nat} {put : V → Lc → Option Lc} {pput : T → TL → Option TL} {b : Sm} {qb : PS} (hj : PutOk O J put pput) (hJ : ∀ i ∈ J, i ∉ O) (hb : S O O R fr b qb) {c : Ctx} {nx : Nx} {vs : List V} {G : List Nat} {H1 : Hp} (hG : ∀ a ∈ G, a < H1.length) (hsrc : ∀ a ∈ G, c.H0.length ≤ a ∨ c.P a) (hnx : ∀ K : Hp, (∀ a ∈ G, K[a]? = H1[a]?) → ∀ i, i ≤ vs.length → nx i K = some vs[i]?) :
    ∀ (rs : List T) (ws : List V) (i : Nat) (ρ : Lc) (σ : TL) (K : Hp) (Φ : Nat → List Nat) (Fr : List Nat) (r : Option T × TL), (∀ j, vs[i + j]? = ws[j]?) → i + ws.length = vs.length → St c O ρ σ K Φ → H1.length ≤ K.length → (∀ a ∈ G, K[a]? = H1[a]?) → (∀ a ∈ G, ¬ Held O σ Φ a) → RFs K ws rs Fr → (∀ a ∈ Fr, a ∈ G) → forL pput qb σ rs = some r →
      Aft c O O R fr σ K Φ (sForI nx put b (rs.length + 1) i ρ K) r
  | [], ws, i, ρ, σ, K, Φ, Fr, r, hat, hlen, s, hl, hk, hoff, rr, hfr, h => by
    cases rr
    cases h
    have e := hnx K hk i (by simp at hlen; omega)
    have e2 : vs[i]? = none := by have := hat 0; simpa using this
    exact ⟨ρ, K, Φ, Nat.le_refl _, fun _ _ _ => rfl, .inl ⟨rfl, by simp [sForI, e, e2], s, fun a m => .inr m⟩⟩
  | t :: rs, ws0, i, ρ, σ, K, Φ, Fr0, r, hat, hlen, s, hl, hk, hoff, rr, hfr, h => by
    cases rr with
    | @cons v _ F1 ws _ F2 a b' =>
    simp only [List.length_cons] at hlen
    obtain ⟨σ1, h1, h⟩ := Option.bind_eq_some_iff.mp h
    obtain ⟨r1, h2, h⟩ := Option.bind_eq_some_iff.mp h
    have e := hnx K hk i (by omega)
    have e2 : vs[i]? = some v := by have := hat 0; simpa using this
    have hat' : ∀ j, vs[i + 1 + j]? = ws[j]? := fun j => by have := hat (j + 1); rw [show i + 1 + j = i + (j + 1) by omega, this]; simp
    obtain ⟨ρ1, Φ1, p1, s1, p3, p4⟩ := hj c ρ σ K Φ v t F1 σ1 s a (fun x m => hsrc x (hfr x (List.mem_append_left _ m))) (fun k hk t' e x m q => hoff x (hfr x (List.mem_append_left _ q)) ⟨k, hk, ⟨t', e⟩, m⟩) h1
    have hh : ∀ x, Held O σ1 Φ1 x → Held O σ Φ x := fun x ⟨k, hk, ⟨t', e⟩, m⟩ => by
      obtain ⟨q1, q2⟩ := p3 k fun q => hJ k q hk
      exact ⟨k, hk, ⟨t', q1 ▸ e⟩, q2 ▸ m⟩
    obtain ⟨ρ2, K2, Φ2, g1, g2, g3⟩ := hb c ρ1 σ1 K Φ1 r1 s1 h2
    have estep : sForI nx put b ((t :: rs).length + 1) i ρ K = (b ρ1 K).bind fun q => match q.1 with
        | some _ => some q
        | none => sForI nx put b (rs.length + 1) (i + 1) q.2.1 q.2.2 := by
      rw [List.length_cons]
      show (nx i K).bind _ = _
      rw [e, e2]
      first | (simp only [Option.bind_some, p1]; done) | (simp only [Option.bind_some, p1]; rfl)
    rcases g3 with ⟨k1, k2, k3, k4⟩ | ⟨t', v', F', k1, k2, k3⟩
    · rw [k1] at h
      have hG2 : ∀ a ∈ G, K2[a]? = K[a]? := fun x m => g2 x (by have := hG x m; omega) fun q => hoff x m (hh x q)
      have hoff2 : ∀ a ∈ G, ¬ Held O r1.2 Φ2 a := fun x m q => by
        rcases k4 x q with q | q
        · have := hG x m; omega
        · exact hoff x m (hh x q)
      have ih := for_core hj hJ hb hG hsrc hnx rs ws (i + 1) ρ2 r1.2 K2 Φ2 F2 r hat' (by omega) k3 (by omega) (fun x m => (hG2 x m).trans (hk x m)) hoff2 (b'.frame fun x m => hG2 x (hfr x (List.mem_append_right _ m))) (fun x m => hfr x (List.mem_append_right _ m)) h
      rw [estep, k2]
      simp only [Option.bind_some]
      obtain ⟨ρ3, K3, Φ3, l1, l2, l3⟩ := ih
      refine ⟨ρ3, K3, Φ3, by omega, fun x hx hn => ?_, ?_⟩
      · rw [l2 x (by omega) fun q => (k4 x q).elim (fun q => by omega) fun q => hn (hh x q), g2 x hx fun q => hn (hh x q)]
      · rcases l3 with ⟨m1, m2, m3, m4⟩ | l
        · refine .inl ⟨m1, m2, m3, fun x q => ?_⟩
          rcases m4 x q with q | q
          · exact .inl (by omega)
          · exact (k4 x q).imp id (hh x)
        · exact .inr l
    · rw [k1] at h
      cases h
      refine ⟨ρ2, K2, Φ2, g1, fun x hx hn => g2 x hx fun q => hn (hh x q), .inr ⟨t', v', F', k1, ?_, k3⟩⟩
      rw [estep, k2]
      rfl
theorem S.for {J Ns : List Nat} {g : Src} {q : PG} {put : V → Lc → Option Lc} {pput : T → TL → Option TL} {b : Sm} {qb : PS} (hg : Gs O Ns g q) (hj : PutOk O J put pput) (hJ : ∀ i ∈ J, i ∉ O) (hN : ∀ i ∈ Ns, i ∉ O) (hb : S O O R fr b qb) : S O O R fr (sFor g put b) (qFor q pput qb) := fun c ρ σ H Φ r s h => by
  obtain ⟨ts, h1, h⟩ := Option.bind_eq_some_iff.mp h
  obtain ⟨nx, X, vs, F, G, g1, g2, g3, g4, g5⟩ := hg c ρ σ H Φ ts s h1
  have := for_core hj hJ hb (H1 := H ++ X) (fun a m => (g4 a m).1) (fun a m => s.from_src (g4 a m).2) g5 ts vs 0 ρ σ (H ++ X) Φ F r (by simp) (by simp) (s.ext X) (Nat.le_refl _) (fun _ _ => rfl) (fun a m ⟨k, hk, ⟨t, e⟩, q⟩ => s.from_off hN (g4 a m).2 hk e q) g2 g3 h
  have eg : sFor g put b ρ H = sForI nx put b (ts.length + 1) 0 ρ (H ++ X) := by simp only [sFor, g1, Option.bind_some]
  rw [eg]
  exact this.grow
noncomputable def qWhile (t : PB) (b : PS) : Nat → PS
  | 0 => fun _ => none
  | n + 1 => fun σ => (t σ).bind fun p => if p then (b σ).bind fun q => (match q.1 with
      | some _ => some q
      | none => qWhile t b n q.2) else some (none, σ)
end
noncomputable def runP (n : Nat) (q : PS) : List T → Option T := fun ts => if ts.length = n then (q fun i => ts[i]?).map fun r => r.1.getD .none else none
theorem RFs.slots {H : Hp} : ∀ {vs : List V} {ts : List T} {F : List Nat}, RFs H vs ts F → ∃ Φ : Nat → List Nat, ∀ i t, ts[i]? = some t → ∃ v, vs[i]? = some v ∧ RF H v t (Φ i) ∧ ∀ a ∈ Φ i, a ∈ F
  | _, _, _, .nil => ⟨fun _ => [], fun i t e => by simp at e⟩
  | _, _, _, .cons (F := F1) a b => by
    obtain ⟨Φ, h⟩ := b.slots
    refine ⟨fun i => match i with | 0 => F1 | i + 1 => Φ i, fun i t e => ?_⟩
    cases i with
    | zero => simp at e; subst e; exact ⟨_, by simp, a, fun x m => List.mem_append_left _ m⟩
    | succ i =>
      simp at e
      obtain ⟨v, h1, h2, h3⟩ := h i t e
      exact ⟨v, by simpa using h1, h2, fun x m => List.mem_append_right _ (h3 x m)⟩
theorem same_below {H H' : Hp} (hl : H.length ≤ H'.length) (h : ∀ a, a < H.length → H'[a]? = H[a]?) : H' = H ++ H'.drop H.length := by
  conv => lhs; rw [← List.take_append_drop H.length H']
  congr 1
  refine List.ext_getElem? fun i => ?_
  by_cases q : i < H.length
  · rw [List.getElem?_take_of_lt q, h i q]
  · rw [List.getElem?_eq_none (by simp; omega), List.getElem?_eq_none (by omega)]
theorem SimF.of {O' : List Nat} {fr : Bool} {n : Nat} {g : Sm} {q : PS} (h : S [] O' [] fr g q) : SimF fr (runF n g) (runP n q) := fun H vs ts t F1 hp r e => by
  unfold runP at e
  split at e
  · rename_i hl
    obtain ⟨r1, e1, e2⟩ := Option.map_eq_some_iff.mp e
    obtain ⟨Φ, hΦ⟩ := r.slots
    have st : St ⟨H, [], fun a => a ∈ F1⟩ [] (fun i => vs[i]?) (fun i => ts[i]?) H Φ :=
      ⟨(fun i t e => by obtain ⟨v, h1, h2, _⟩ := hΦ i t e; exact ⟨v, h1, h2⟩), fun i t e a m => (by obtain ⟨v, h1, h2, h3⟩ := hΦ i t e; exact .inr (h3 a m)), (fun i hi => nomatch hi), Nat.le_refl _, fun a _ _ => rfl, hp, by simp⟩
    obtain ⟨ρ', H', Φ', h1, h2, h3⟩ := h _ _ _ _ _ _ st e1
    rcases h3 with ⟨k1, k2, k3, k4⟩ | ⟨t', v', F', k1, k2, k3, k4, k5, k6⟩
    · have eh := same_below k3.len fun a ha => k3.keep a ha (by simp)
      refine ⟨.none, H'.drop H.length, [], ?_, ?_, by simp, by simp⟩
      · have hv : vs.length = n := r.length.trans hl
        simp only [runF, hv, if_true, k2, Option.map_some, Option.getD_none]
        rw [← eh]
      · rw [k1] at e2
        subst e2
        exact .none
    · have eh := same_below k4.len fun a ha => k4.keep a ha (by simp)
      refine ⟨v', H'.drop H.length, F', ?_, ?_, k5, fun hf => ⟨(k6 hf).1, fun a m => ((k6 hf).2 a m).elim id fun q => by cases q⟩⟩
      · have hv : vs.length = n := r.length.trans hl
        simp only [runF, hv, if_true, k2, Option.map_some, Option.getD_some]
        rw [← eh]
      · rw [k1] at e2
        subst e2
        rw [← eh]
        exact k3
  · cases e
theorem law_trees {f : List V → Hp → Option (V × Hp)} {p : List T → Option T} {fr : Bool} (h : SimF fr f p) (ns : List Int) (e : p [.lst (ns.map T.int)] = some (.bool true)) : ∃ H', f [.ref 0] [ns.map V.int] = some (.bool true, H') := by
  have intsAre : ∀ l : List Int, RFs [ns.map V.int] (l.map V.int) (l.map T.int) [] := fun l => by
    induction l with
    | nil => exact .nil
    | cons a l ih => exact .cons (.int a) ih
  obtain ⟨v, X, F, h1, h2, _⟩ := h [ns.map V.int] [.ref 0] [.lst (ns.map T.int)] _ _ (by simp) (.one (.ref rfl (intsAre ns))) e
  cases h2
  exact ⟨_, h1⟩
end TM
end
section
set_option maxRecDepth 100000
set_option linter.all false
set_option autoImplicit false
namespace TM
open PySem PM
section
variable {O Ns Ne J : List Nat}
theorem E.compS {u : Bool} {g : Src} {q : PG} {put : V → Lc → Option Lc} {pput : T → TL → Option TL} {tc : Ts} {pc : PB} {f : Ex} {pf : PE} (hg : Gs O Ns g q) (hj : PutOk O J put pput) (hN : ∀ i ∈ Ns, i ∉ O) (hc : Bt O tc pc) (hf : E O Ne u f pf) : E O (Ns ++ Ne) false (eComp g put tc f) (pComp q pput pc pf) :=
  E.comp hg hj hN hc hf.sh (by simp)
end
end TM
end
section
set_option maxRecDepth 100000
set_option linter.all false
set_option autoImplicit false
/-! Forward reckoning over trees. -/
namespace TM
open PySem PM
noncomputable def dec (P : Prop) : Bool := @decide P (Classical.propDecidable P)
theorem dec_iff {P : Prop} : dec P = true ↔ P := by unfold dec; exact @decide_eq_true_iff P (Classical.propDecidable P)
theorem dec_t {P : Prop} (h : P) : dec P = true := dec_iff.mpr h
theorem dec_f {P : Prop} (h : ¬ P) : dec P = false := by
  cases e : dec P with
  | true => exact absurd (dec_iff.mp e) h
  | false => rfl
theorem dec_eq {P : Prop} {b : Bool} (h : b = true ↔ P) : dec P = b := by
  cases b with
  | true => exact dec_t (h.mp rfl)
  | false => exact dec_f fun p => by simpa using h.mpr p
noncomputable def tab {α : Type} (n : Nat) (f : Nat → α) : List α := (List.range n).map f
theorem tab_len {α : Type} {n : Nat} {f : Nat → α} : (tab n f).length = n := by simp [tab]
theorem tab_at {α : Type} {n : Nat} {f : Nat → α} {i : Nat} (h : i < n) : (tab n f)[i]? = some (f i) := by simp [tab, h]
noncomputable def cn {α : Type} (a : α) (f : Nat → α) : Nat → α
  | 0 => a
  | i + 1 => f i
noncomputable def Pk (c : Option T) (Q : T → Prop) : Prop := ∃ t, c = some t ∧ Q t
noncomputable def Pl (c : Option (List T)) (Q : List T → Prop) : Prop := ∃ t, c = some t ∧ Q t
noncomputable def Pb (c : Option Bool) (Q : Bool → Prop) : Prop := ∃ t, c = some t ∧ Q t
noncomputable def Psk (c : Option (Option T × TL)) (R : T → Prop) (N : TL → Prop) : Prop := ∃ o σ, c = some (o, σ) ∧ (∀ t, o = some t → R t) ∧ (o = none → N σ)
theorem Pk.of {c : Option T} {Q : T → Prop} {t : T} (h : c = some t) (k : Q t) : Pk c Q := ⟨t, h, k⟩
theorem Pk.eq {c : Option T} {t : T} (h : Pk c fun v => v = t) : c = some t := by obtain ⟨v, e, rfl⟩ := h; exact e
theorem Pk.mono {c : Option T} {Q Q' : T → Prop} (h : Pk c Q) (k : ∀ t, Q t → Q' t) : Pk c Q' := by obtain ⟨v, e, q⟩ := h; exact ⟨v, e, k v q⟩
section
variable {σ : TL} {Q : T → Prop} {L : List T → Prop} {B : Bool → Prop} {R : T → Prop} {N : TL → Prop}
theorem tk_int {k : Int} (h : Q (.int k)) : Pk (pInt k σ) Q := ⟨_, rfl, h⟩
theorem tk_non (h : Q .none) : Pk (pNon σ) Q := ⟨_, rfl, h⟩
theorem tk_var {i : Nat} {t : T} (e : σ i = some t) (h : Q t) : Pk (pVar i σ) Q := ⟨_, e, h⟩
theorem tk_bin {q : T → T → Option T} {f g : PE} (h : Pk (f σ) fun x => Pk (g σ) fun y => Pk (q x y) Q) : Pk (pBin q f g σ) Q := by
  obtain ⟨x, a, y, b, z, c, k⟩ := h
  exact ⟨z, by simp only [pBin, a, b, Option.bind_some, c], k⟩
theorem tk_call {q : List T → Option T} {f : PEs} (h : Pl (f σ) fun x => Pk (q x) Q) : Pk (pCall q f σ) Q := by
  obtain ⟨x, a, z, c, k⟩ := h
  exact ⟨z, by simp only [pCall, a, Option.bind_some, c], k⟩
theorem tk_nil (h : L []) : Pl (pNil σ) L := ⟨_, rfl, h⟩
theorem tk_cons {f : PE} {g : PEs} (h : Pk (f σ) fun x => Pl (g σ) fun xs => L (x :: xs)) : Pl (pCons f g σ) L := by
  obtain ⟨x, a, y, b, k⟩ := h
  exact ⟨_, by simp only [pCons, a, b, Option.bind_some], k⟩
theorem tk_tup {g : PEs} (h : Pl (g σ) fun xs => Q (.tup xs)) : Pk (pTup g σ) Q := by
  obtain ⟨x, a, k⟩ := h; exact ⟨_, by simp only [pTup, a, Option.map_some], k⟩
theorem tk_list {g : PEs} (h : Pl (g σ) fun xs => Q (.lst xs)) : Pk (pList g σ) Q := by
  obtain ⟨x, a, k⟩ := h; exact ⟨_, by simp only [pList, a, Option.map_some], k⟩
theorem tk_flat {f : PE} (h : Pk (f σ) fun t => t.flat = true ∧ Q t) : Pk (pFlat f σ) Q := by
  obtain ⟨x, a, b, k⟩ := h; exact ⟨_, by simp only [pFlat, a, Option.bind_some, b, if_true], k⟩
theorem tk_fl {f : PE} (h : Pk (f σ) fun t => t.flatIn = true ∧ Q t) : Pk (pFl f σ) Q := by
  obtain ⟨x, a, b, k⟩ := h; exact ⟨_, by simp only [pFl, a, Option.bind_some, b, if_true], k⟩
theorem tk_not {f : PE} (h : Pk (f σ) fun x => Pb (qTruth x) fun b => Q (.bool (!b))) : Pk (pNot f σ) Q := by
  obtain ⟨x, a, b, e, q⟩ := h; exact ⟨_, by simp only [pNot, a, Option.bind_some, e, Option.map_some], q⟩
theorem tk_and {f g : PE} (h : Pk (f σ) fun x => Pb (qTruth x) fun b => (b = true → Pk (g σ) Q) ∧ (b = false → Q x)) : Pk (pAnd f g σ) Q := by
  obtain ⟨x, a, b, e, h1, h2⟩ := h
  cases b with
  | true => obtain ⟨t, c, q⟩ := h1 rfl; exact ⟨t, by simp [pAnd, a, e, c], q⟩
  | false => exact ⟨x, by simp [pAnd, a, e], h2 rfl⟩
theorem tk_is {K : String} {f : PE} (h : Pk (f σ) fun x => isObT x = false ∧ Q (.bool (isKindT K x))) : Pk (pIs K f σ) Q := by
  obtain ⟨x, a, ob, q⟩ := h; exact ⟨_, by simp [pIs, a, ob], q⟩
theorem tk_val {f : PE} (h : Pk (f σ) fun x => Pb (qTruth x) B) : Pb (bVal f σ) B := by
  obtain ⟨x, a, b, e, q⟩ := h; exact ⟨_, by simp only [bVal, a, Option.bind_some, e], q⟩
theorem tk_bnot {f : PB} (h : Pb (f σ) fun b => B (!b)) : Pb (bNot f σ) B := by
  obtain ⟨x, a, q⟩ := h; exact ⟨_, by simp only [bNot, a, Option.map_some], q⟩
theorem tk_true (h : B true) : Pb (bTrue σ) B := ⟨_, rfl, h⟩
theorem tk_false (h : B false) : Pb (bFalse σ) B := ⟨_, rfl, h⟩
theorem tk_band {f g : PB} (h : Pb (f σ) fun b => (b = true → Pb (g σ) B) ∧ (b = false → B false)) : Pb (bAnd f g σ) B := by
  obtain ⟨x, a, h1, h2⟩ := h
  cases x with
  | true => obtain ⟨t, c, q⟩ := h1 rfl; exact ⟨t, by simp [bAnd, a, c], q⟩
  | false => exact ⟨_, by simp [bAnd, a], h2 rfl⟩
theorem tk_bor {f g : PB} (h : Pb (f σ) fun b => (b = true → B true) ∧ (b = false → Pb (g σ) B)) : Pb (bOr f g σ) B := by
  obtain ⟨x, a, h1, h2⟩ := h
  cases x with
  | false => obtain ⟨t, c, q⟩ := h2 rfl; exact ⟨t, by simp [bOr, a, c], q⟩
  | true => exact ⟨_, by simp [bOr, a], h1 rfl⟩
theorem tk_truth_b {b : Bool} (h : B b) : Pb (qTruth (.bool b)) B := ⟨_, rfl, h⟩
theorem tk_next (h : N σ) : Psk (qNext σ) R N := ⟨_, _, rfl, by simp, fun _ => h⟩
theorem tk_ret {f : PE} (h : Pk (f σ) R) : Psk (qRet f σ) R N := by
  obtain ⟨x, a, q⟩ := h; exact ⟨some x, σ, by simp only [qRet, a, Option.map_some], fun t e => by cases e; exact q, by simp⟩
theorem tk_set {i : Nat} {f : PE} (h : Pk (f σ) fun t => N (updT σ i t)) : Psk (qSet i f σ) R N := by
  obtain ⟨x, a, q⟩ := h; exact ⟨none, updT σ i x, by simp only [qSet, a, Option.map_some], by simp, fun _ => q⟩
theorem tk_seq {a b : PS} (h : Psk (a σ) R fun σ1 => Psk (b σ1) R N) : Psk (qSeq a b σ) R N := by
  obtain ⟨o, σ1, e, h1, h2⟩ := h
  cases o with
  | some t => exact ⟨some t, σ1, by simp only [qSeq, e, Option.bind_some], h1, by simp⟩
  | none =>
    obtain ⟨o2, σ2, e2, k1, k2⟩ := h2 rfl
    exact ⟨o2, σ2, by simp only [qSeq, e, Option.bind_some, e2], k1, k2⟩
theorem tk_sif {b : PB} {f g : PS} (h : Pb (b σ) fun x => (x = true → Psk (f σ) R N) ∧ (x = false → Psk (g σ) R N)) : Psk (qIf b f g σ) R N := by
  obtain ⟨x, a, h1, h2⟩ := h
  cases x with
  | true => obtain ⟨o, s, c, q⟩ := h1 rfl; exact ⟨o, s, by simp [qIf, a, c], q⟩
  | false => obtain ⟨o, s, c, q⟩ := h2 rfl; exact ⟨o, s, by simp [qIf, a, c], q⟩
theorem tk_run {n : Nat} {q : PS} {ts : List T} (hn : ts.length = n) (h : Psk (q fun i => ts[i]?) Q fun _ => Q .none) : Pk (runP n q ts) Q := by
  obtain ⟨o, s, e, h1, h2⟩ := h
  cases o with
  | some t => exact ⟨t, by simp only [runP, hn, if_true, e, Option.map_some, Option.getD_some], h1 t rfl⟩
  | none => exact ⟨.none, by simp only [runP, hn, if_true, e, Option.map_some, Option.getD_none], h2 rfl⟩
theorem tand_t {b : Bool} {A C : Prop} (h : b = true) (k : A) : (b = true → A) ∧ (b = false → C) := ⟨fun _ => k, fun e => (by rw [h] at e; cases e)⟩
theorem tand_f {b : Bool} {A C : Prop} (h : b = false) (k : C) : (b = true → A) ∧ (b = false → C) := ⟨fun e => (by rw [h] at e; cases e), fun _ => k⟩
theorem tk_add {a b : Int} (h : Q (.int (a + b))) : Pk (qAdd (.int a) (.int b)) Q := ⟨_, rfl, h⟩
theorem tk_sub {a b : Int} (h : Q (.int (a - b))) : Pk (qSub (.int a) (.int b)) Q := ⟨_, rfl, h⟩
theorem tk_lt {a b : Int} (h : Q (.bool (decide (a < b)))) : Pk (qLt (.int a) (.int b)) Q := ⟨_, rfl, h⟩
theorem tk_gt {a b : Int} (h : Q (.bool (decide (b < a)))) : Pk (qGt (.int a) (.int b)) Q := ⟨_, rfl, h⟩
theorem tk_mod {a b : Int} (hb : b ≠ 0) (h : Q (.int (a.fmod b))) : Pk (qMod (.int a) (.int b)) Q := ⟨_, by simp only [qMod]; rw [if_pos hb], h⟩
theorem tk_div {a b : Int} (hb : b ≠ 0) (hd : Builtin.divisionGoesByPylong a b = false) (h : Q (.int (a.fdiv b))) : Pk (qDiv (.int a) (.int b)) Q := ⟨_, by simp only [qDiv]; rw [if_pos ⟨hb, hd⟩], h⟩
theorem tk_mul {a b : Int} (hm : mulOk a b = true) (h : Q (.int (a * b))) : Pk (qMul (.int a) (.int b)) Q := ⟨_, by simp only [qMul]; rw [if_pos hm], h⟩
theorem eqB_int (a b : Int) : qEqB (.int a) (.int b) = some (decide (a = b)) := by
  simp [qEqB, datT, SeqAt.shaped, PyData.canLay0, PyData.depth, PyData.eqv]
  by_cases h : a = b <;> simp [h]
theorem tk_eq {a b : Int} (h : Q (.bool (decide (a = b)))) : Pk (qEq (.int a) (.int b)) Q := ⟨_, by simp only [qEq, eqB_int, Option.map_some], h⟩
theorem tk_ne {a b : Int} (h : Q (.bool (decide (a ≠ b)))) : Pk (qNe (.int a) (.int b)) Q := ⟨.bool (decide (a ≠ b)), by simp only [qNe, eqB_int, Option.map_some]; simp, h⟩
theorem tk_notn (h : Q (.bool false)) : Pk (qIsNot .none .none) Q := ⟨_, rfl, h⟩
theorem tk_noti {a : Int} (h : Q (.bool true)) : Pk (qIsNot (.int a) .none) Q := ⟨_, rfl, h⟩
theorem tk_len {ts : List T} (h : Q (.int ts.length)) : Pk (qLen [.lst ts]) Q := ⟨_, rfl, h⟩
theorem seqAt {k : Int} {n : Nat} (h0 : 0 ≤ k) (h1 : k < n) : seqIndex? k n = some k.toNat := by
  unfold seqIndex?
  have : ¬ k < 0 := by omega
  simp [this]
  omega
theorem tk_idxL {ts : List T} {k : Int} {t : T} (h0 : 0 ≤ k) (e : ts[k.toNat]? = some t) (h : Q t) : Pk (qIdx (.lst ts) (.int k)) Q := ⟨_, by
  simp only [qIdx]
  rw [seqAt h0 (by have := (List.getElem?_eq_some_iff.mp e).1; omega)]
  exact e, h⟩
theorem tk_idxP {ts : List T} {k : Int} {t : T} (h0 : 0 ≤ k) (e : ts[k.toNat]? = some t) (h : Q t) : Pk (qIdx (.tup ts) (.int k)) Q := ⟨_, by
  simp only [qIdx]
  rw [seqAt h0 (by have := (List.getElem?_eq_some_iff.mp e).1; omega)]
  exact e, h⟩
theorem tk_list1 {ts : List T} (h : Q (.lst ts)) : Pk (qList1 [.lst ts]) Q := ⟨_, rfl, h⟩
noncomputable def SqP (x : T) (L : List T → Prop) : Prop := ∃ ts, (x = .lst ts ∨ x = .tup ts) ∧ L ts
theorem tk_seqT {f : PE} (h : Pk (f σ) fun t => SqP t L) : Pl (pSeq f σ) L := by
  obtain ⟨t, a, ts, rfl | rfl, q⟩ := h <;> exact ⟨_, by simp only [pSeq, a, Option.bind_some], q⟩
theorem Sq.lst {ts : List T} (h : L ts) : SqP (.lst ts) L := ⟨ts, .inl rfl, h⟩
theorem Sq.tup {ts : List T} (h : L ts) : SqP (.tup ts) L := ⟨ts, .inr rfl, h⟩
theorem rng_of {a b c : Int} {H : Hp} {z : Nx × Nat × Hp} (h : mkRange a b c H = some z) : rngT a b c = some ((List.range (rngN a b c)).map fun (i : Nat) => .int (a + (i : Int) * c)) := by
  unfold mkRange at h
  split at h
  · rename_i hc
    unfold rngT
    rw [if_pos hc]
  · cases h
theorem rng_tab0 {n : Nat} (hn : n ≤ 1000) : rngT 0 n 1 = some (tab n fun i => .int i) := by
  rw [rng_of (range1 (H := []) (b := n) (by omega) (by omega))]
  have e : rngN 0 n 1 = n := by
    unfold rngN Builtin.Range.rangeSize
    by_cases q : (0 : Int) < n
    · rw [if_pos (by decide), if_pos (by omega)]; omega
    · rw [if_pos (by decide), if_neg (by omega)]; omega
  rw [e]
  simp [tab]
theorem rng_tab {a n : Nat} (ha : 0 < n) (hn : a + n ≤ 1000) : rngT a (a + n) 1 = some (tab n fun i => .int (a + i)) := by
  rw [rng_of (range3 (H := []) (a := a) (b := a + n) (c := 1) (by omega) (by omega) (by omega) (by omega) (by omega))]
  have e : rngN a (a + n) 1 = n := by
    unfold rngN
    rw [size3 (by omega) (by omega)]
    omega
  rw [e]
  simp [tab]
theorem range_1 {g : PEs} {b : Int} {o : Option (List T)} (e : g σ = some [.int b]) (h : rngT 0 b 1 = o) : pRange g σ = o := by
  subst h; unfold pRange; rw [e]; rfl
theorem range_2 {g : PEs} {a b : Int} {o : Option (List T)} (e : g σ = some [.int a, .int b]) (h : rngT a b 1 = o) : pRange g σ = o := by
  subst h; unfold pRange; rw [e]; rfl
noncomputable def RnP (xs : List T) (L : List T → Prop) : Prop := (∃ n : Nat, xs = [.int n] ∧ n ≤ 1000 ∧ L (tab n fun i => .int i)) ∨ ∃ (a : Nat) (n : Nat), xs = [.int a, .int (a + n)] ∧ 0 < n ∧ a + n ≤ 1000 ∧ L (tab n fun i => .int (a + i))
theorem tk_range {g : PEs} (h : Pl (g σ) fun xs => RnP xs L) : Pl (pRange g σ) L := by
  obtain ⟨xs, e, h⟩ := h
  rcases h with ⟨n, h0, h1, q⟩ | ⟨a, n, h0, h1, h2, q⟩
  · subst h0; exact ⟨_, range_1 e (rng_tab0 h1), q⟩
  · subst h0; exact ⟨_, range_2 e (rng_tab h1 h2), q⟩
theorem Rn.one {n : Nat} (hn : n ≤ 1000) (h : L (tab n fun i => .int i)) : RnP [.int n] L := .inl ⟨n, rfl, hn, h⟩
theorem for_ix {put : T → TL → Option TL} {b : PS} : ∀ {ts : List T} (P : Nat → TL → Prop) {σ : TL}, P 0 σ → (∀ (i : Nat) t σ, ts[i]? = some t → P i σ → ∃ σ1, put t σ = some σ1 ∧ Psk (b σ1) R (P (i + 1))) → (∀ σ, P ts.length σ → N σ) → Psk (forL put b σ ts) R N
  | [], P, σ, h0, _, h2 => ⟨_, _, rfl, by simp, fun _ => h2 _ h0⟩
  | t :: ts, P, σ, h0, h1, h2 => by
    obtain ⟨σ1, e1, o, σ2, e2, k1, k2⟩ := h1 0 t σ (by simp) h0
    cases o with
    | some v => exact ⟨some v, σ2, by simp only [forL, e1, Option.bind_some, e2], k1, by simp⟩
    | none =>
      obtain ⟨o3, σ3, e3, l1, l2⟩ := for_ix (ts := ts) (fun i => P (i + 1)) (k2 rfl) (fun i t' σ' h3 h4 => h1 (i + 1) t' σ' (by simpa using h3) h4) (fun σ' h => h2 σ' (by simpa using h))
      exact ⟨o3, σ3, by simp only [forL, e1, Option.bind_some, e2, e3], l1, l2⟩
theorem tk_forL {g : PG} {j : Nat} {ts : List T} {b : PS} (hg : Pl (g σ) fun us => us = ts) (P : Nat → TL → Prop) (h0 : P 0 σ) (h1 : ∀ (i : Nat) t σ, ts[i]? = some t → P i σ → Psk (b (updT σ j t)) R (P (i + 1))) (h2 : ∀ σ, P ts.length σ → N σ) : Psk (qFor g (pput1 j) b σ) R N := by
  obtain ⟨us, e, rfl⟩ := hg
  obtain ⟨o, s, e2, q⟩ := for_ix (R := R) (N := N) (put := pput1 j) (b := b) (ts := us) P h0 (fun i t σ' h3 h4 => ⟨_, rfl, h1 i t σ' h3 h4⟩) h2
  exact ⟨o, s, by simp only [qFor, e, Option.bind_some, e2], q⟩
theorem delTs_nil : delTs σ [] = σ := by funext i; simp [delTs]
noncomputable def AppP (σ : TL) (x : Nat) (w : T) (N : TL → Prop) : Prop := ∃ ts, σ x = some (.lst ts) ∧ ts.length < 10000 ∧ N (updT σ x (.lst (ts ++ [w])))
theorem tk_app {x : Nat} {f : PE} (h : Pk (f σ) fun w => AppP σ x w N) : Psk (qApp x [] paNil f σ) R N := by
  obtain ⟨w, e, ts, h1, h2, q⟩ := h
  refine ⟨none, _, ?_, by simp, fun _ => q⟩
  simp only [qApp, paNil, Option.bind_some, e, h1, tmod, appT]
  rw [if_pos (by rw [LEN_eq]; omega)]
  simp only [Option.map_some, delTs_nil]
theorem updT_no {i j : Nat} {t : T} {o : Option T} (h : j ≠ i) (e : σ j = o) : updT σ i t j = o := by simp [updT, h, e]
theorem delTs_no {j : Nat} {J : List Nat} {o : Option T} (h : j ∉ J) (e : σ j = o) : delTs σ J j = o := by simp [delTs, h, e]
end
end TM
end
section
set_option maxRecDepth 100000
set_option linter.all false
set_option autoImplicit false
namespace TM
open PySem PM
inductive Pln : Nat → T → Prop where
  | none {n : Nat} : Pln n .none
  | int {n : Nat} {i : Int} : Pln n (.int i)
  | str {n : Nat} {x : Str} : PyData.strOk x = true → Pln n (.str x)
  | tup {n : Nat} {ts : List T} : (∀ t ∈ ts, Pln n t) → Pln (n + 1) (.tup ts)
  | lst {n : Nat} {ts : List T} : (∀ t ∈ ts, Pln n t) → Pln (n + 1) (.lst ts)
mutual
noncomputable def dd : T → PyData
  | .none => .none
  | .bool b => .bool b
  | .int i => .int i
  | .str x => .str x
  | .tup ts => .tuple (dds ts)
  | .lst ts => .list (dds ts)
  | .ob _ _ => .none
noncomputable def dds : List T → List PyData
  | [] => []
  | t :: ts => dd t :: dds ts
end
theorem datTs_dd {f : T → Option PyData} : ∀ {ts : List T}, (∀ t ∈ ts, f t = some (dd t)) → datTs f ts = some (dds ts)
  | [], _ => rfl
  | t :: ts, h => by simp only [datTs, h t List.mem_cons_self, datTs_dd fun t m => h t (List.mem_cons_of_mem _ m), Option.bind_some, dds]
theorem lays_dd : ∀ {ts : List T}, (∀ t ∈ ts, PyData.canLay0 (dd t) = true) → PyData.canLayAll0 (dds ts) = true
  | [], _ => rfl
  | t :: ts, h => by simp only [dds, PyData.canLayAll0, h t List.mem_cons_self, lays_dd fun t m => h t (List.mem_cons_of_mem _ m), Bool.and_self]
theorem deps_dd {n : Nat} : ∀ {ts : List T}, (∀ t ∈ ts, PyData.depth (dd t) ≤ n) → PyData.depthAll (dds ts) ≤ n
  | [], _ => by simp [dds, PyData.depthAll]
  | t :: ts, h => by
    have h1 := h t List.mem_cons_self
    have h2 := deps_dd fun t m => h t (List.mem_cons_of_mem _ m)
    simp only [dds, PyData.depthAll]
    omega
theorem Pln.dat {n : Nat} {t : T} (h : Pln n t) : datT n t = some (dd t) ∧ PyData.canLay0 (dd t) = true ∧ PyData.depth (dd t) ≤ n := by
  induction h with
  | @none n => cases n <;> exact ⟨rfl, rfl, by simp [dd, PyData.depth]⟩
  | @int n i => cases n <;> exact ⟨rfl, rfl, by simp [dd, PyData.depth]⟩
  | @str n x h => cases n <;> exact ⟨rfl, by simpa [dd, PyData.canLay0] using h, by simp [dd, PyData.depth]⟩
  | @tup n ts _ ih =>
    refine ⟨?_, ?_, ?_⟩
    · simp only [datT, datTs_dd fun t m => (ih t m).1, Option.map_some, dd]
    · simp only [dd, PyData.canLay0]; exact lays_dd fun t m => (ih t m).2.1
    · simp only [dd, PyData.depth]
      have := deps_dd fun t m => (ih t m).2.2
      omega
  | @lst n ts _ ih =>
    refine ⟨?_, ?_, ?_⟩
    · simp only [datT, datTs_dd fun t m => (ih t m).1, Option.map_some, dd]
    · simp only [dd, PyData.canLay0]; exact lays_dd fun t m => (ih t m).2.1
    · simp only [dd, PyData.depth]
      have := deps_dd fun t m => (ih t m).2.2
      omega
theorem eqvs_dd : ∀ {ts us : List T}, (∀ t ∈ ts, ∀ u ∈ us, (PyData.eqv (dd t) (dd u) = true ↔ t = u)) → (PyData.eqvAll (dds ts) (dds us) = true ↔ ts = us)
  | [], [], _ => by simp [dds, PyData.eqvAll]
  | [], _ :: _, _ => by simp [dds, PyData.eqvAll]
  | _ :: _, [], _ => by simp [dds, PyData.eqvAll]
  | t :: ts, u :: us, h => by
    simp only [dds, PyData.eqvAll, Bool.and_eq_true, h t List.mem_cons_self u List.mem_cons_self, eqvs_dd fun t m u n => h t (List.mem_cons_of_mem _ m) u (List.mem_cons_of_mem _ n), List.cons.injEq]
theorem Pln.eqv {n : Nat} {t : T} (h : Pln n t) : ∀ {m : Nat} {u : T}, Pln m u → (PyData.eqv (dd t) (dd u) = true ↔ t = u) := by
  induction h with
  | none => intro m u h; cases h <;> simp [dd, PyData.eqv]
  | int => intro m u h; cases h <;> simp [dd, PyData.eqv]
  | str _ => intro m u h; cases h <;> simp [dd, PyData.eqv]
  | tup hs ih =>
    intro m u h
    cases h with
    | tup hu => simp only [dd, PyData.eqv, T.tup.injEq]; exact eqvs_dd fun t a u b => ih t a (hu u b)
    | none => simp [dd, PyData.eqv]
    | int => simp [dd, PyData.eqv]
    | str => simp [dd, PyData.eqv]
    | lst => simp [dd, PyData.eqv]
  | lst hs ih =>
    intro m u h
    cases h with
    | lst hu => simp only [dd, PyData.eqv, T.lst.injEq]; exact eqvs_dd fun t a u b => ih t a (hu u b)
    | none => simp [dd, PyData.eqv]
    | int => simp [dd, PyData.eqv]
    | str => simp [dd, PyData.eqv]
    | tup => simp [dd, PyData.eqv]
theorem Pln.mono {n : Nat} {t : T} (h : Pln n t) : ∀ {m : Nat}, n ≤ m → Pln m t := by
  induction h with
  | none => intro m _; exact .none
  | int => intro m _; exact .int
  | str h => intro m _; exact .str h
  | tup hs ih =>
    intro m hm
    cases m with
    | zero => omega
    | succ m => exact .tup fun t a => ih t a (by omega)
  | lst hs ih =>
    intro m hm
    cases m with
    | zero => omega
    | succ m => exact .lst fun t a => ih t a (by omega)
section
variable {Q : T → Prop}
end
noncomputable def oT : Option Int → T
  | none => .none
  | some x => .int x
theorem updT_self {σ : TL} {i : Nat} {t : T} : updT σ i t i = some t := by simp [updT]
end TM
end
section
set_option maxRecDepth 100000
set_option linter.all false
set_option autoImplicit false
namespace PM
open PySem PySem.W PySem.Calls PyProof.Rows PyProof PyProof.Rows.LCg PyProof.Rows.LCp
noncomputable def inD (d : PyData) : PyData → Option Bool
  | .list xs => if PyData.canLayAll0 xs = true ∧ d.canLay0 = true ∧ d.depth ≤ 64 then some (xs.any fun y => PyData.eqv y d) else none
  | .tuple xs => if PyData.canLayAll0 xs = true ∧ d.canLay0 = true ∧ d.depth ≤ 64 then some (xs.any fun y => PyData.eqv y d) else none
  | _ => none
noncomputable def oInB (a b : V) (H : Hp) : Option Bool := (toD H DEEP a).bind fun d => (toD H DEEP b).bind fun e => inD d e
noncomputable def oNotIn (a b : V) (H : Hp) : Option (V × Hp) := (oInB a b H).map fun c => (.bool (!c), H)
section
variable {prog : Program} {w : World} {Γ : Cx}
theorem ok_notIn : Op2 prog w (compareOp .NotIn) oNotIn := by
  intro Γ W ρ H fr s Q E a b x y v H' r hx hy ho post
  obtain ⟨c, e1, e2⟩ := Option.map_eq_some_iff.mp ho
  cases e2
  obtain ⟨d, h1, e1⟩ := Option.bind_eq_some_iff.mp e1
  obtain ⟨e, h2, e1⟩ := Option.bind_eq_some_iff.mp e1
  obtain ⟨as, R1⟩ := toD_reads r DEEP a x d hx h1
  obtain ⟨bs, R2⟩ := toD_reads r DEEP b y e hy h2
  have hu := Γ.hu
  unfold inD at e1
  split at e1
  · split at e1
    · rename_i hs
      cases e1
      exact SeqAt.notIn_list_reads R2 R1 hs.1 hs.2.1 (by omega) (post W s.heap s.toks _ (.refl W) r (.bool _))
    · cases e1
  · split at e1
    · rename_i hs
      cases e1
      exact SeqAt.notIn_tuple_reads R2 R1 hs.1 hs.2.1 (by omega) (post W s.heap s.toks _ (.refl W) r (.bool _))
    · cases e1
  · cases e1
theorem J.andC {e1 e2 e3 : Expr} {es : List Expr} {pos : Pos} {f g : Ex} (h1 : J prog w Γ e1 f) (h2 : J prog w Γ (.BoolOp .And (e2 :: e3 :: es) pos) g) (he : eval (.BoolOp .And (e1 :: e2 :: e3 :: es) pos) Γ.env = (do
    let v ← eval e1 Γ.env
    standAt pos
    let t ← holding [v] (truthy v)
    match BoolOp.And, t with
    | .And, false | .Or, true => pure v
    | _, _ => eval (.BoolOp .And (e2 :: e3 :: es) pos) Γ.env) := by rfl) : J prog w Γ (.BoolOp .And (e1 :: e2 :: e3 :: es) pos) (eAnd f g) := by
  intro W ρ H fr s Q E v H' r hf post
  obtain ⟨p, a1, hf⟩ := Option.bind_eq_some_iff.mp hf
  obtain ⟨b, a2, a3⟩ := Option.bind_eq_some_iff.mp hf
  rw [he]
  refine wpAny_bind (wpAny_mono (h1 W ρ H fr s (fun x s₁ => wpAny (model prog w) Γ.A (truthy x) (fun t s₂ => if t then wpAny (model prog w) Γ.A (eval (.BoolOp .And (e2 :: e3 :: es) pos) Γ.env) Q E s₂ else Q x s₂) E s₁) E _ _ r a1 fun W1 k1 t1 x l1 r1 x1 => ?_) (fun v s₁ h₁ => wpAny_bind (wpAny_standAt (wpAny_bind (wpAny_holding (wpAny_mono h₁ (fun t s₂ h₂ => ?_) fun _ _ x => x))))) fun _ _ x => x)
  · refine truth Γ W1 ρ _ fr _ _ E _ x b r1 x1 a2 fun W2 k2 t2 l2 r2 => ?_
    cases b with
    | true => exact h2 W2 ρ _ fr _ Q E _ H' r2 a3 fun W3 k3 t3 z l3 r3 z3 => post W3 k3 t3 z ((l1.trans l2).trans l3) r3 z3
    | false =>
      cases a3
      exact post W2 k2 t2 x (l1.trans l2) r2 (x1.mono l2)
  · cases t with
    | false => exact wpAny_pure h₂
    | true => exact h₂
end
end PM
end
section
set_option maxRecDepth 100000
set_option linter.all false
set_option autoImplicit false
namespace TM
open PySem PM
noncomputable def qInB (a b : T) : Option Bool := (datT DEEP a).bind fun d => (datT DEEP b).bind fun e => inD d e
noncomputable def qIn (a b : T) : Option T := (qInB a b).map .bool
noncomputable def qNotIn (a b : T) : Option T := (qInB a b).map fun c => .bool !c
theorem inB_ok {H : Hp} {v1 v2 : V} {t1 t2 : T} {F1 F2 : List Nat} (r1 : RF H v1 t1 F1) (r2 : RF H v2 t2 F2) : oInB v1 v2 H = qInB t1 t2 := by
  simp only [oInB, qInB, dat_eq DEEP _ _ _ r1, dat_eq DEEP _ _ _ r2]
theorem a_notIn : OA2 oNotIn qNotIn := fun H v1 v2 t1 t2 t F1 F2 r1 r2 h => by
  obtain ⟨c, h1, h⟩ := Option.map_eq_some_iff.mp h
  subst h
  exact ⟨_, by simp only [oNotIn, inB_ok r1 r2, h1, Option.map_some], .bool _⟩
theorem any_dd {d : T} : ∀ {ts : List T}, (∀ t ∈ ts, (PyData.eqv (dd t) (dd d) = true ↔ t = d)) → ((dds ts).any fun y => PyData.eqv y (dd d)) = dec (d ∈ ts)
  | [], _ => by simp [dds, dec_f]
  | t :: ts, h => by
    have ih := any_dd (d := d) (ts := ts) fun t m => h t (List.mem_cons_of_mem _ m)
    simp only [dds, List.any_cons, ih]
    symm
    apply dec_eq
    rw [Bool.or_eq_true, h t List.mem_cons_self, dec_iff]
    simp [eq_comm]
theorem in_pln {n m : Nat} {a : T} {ts : List T} (ha : Pln n a) (hb : Pln m (.lst ts)) (hn : n ≤ 40 := by decide) (hm : m ≤ 40 := by decide) : qInB a (.lst ts) = some (dec (a ∈ ts)) := by
  have ha := ha.mono hn
  have hb := hb.mono hm
  obtain ⟨a1, a2, a3⟩ := ha.dat
  obtain ⟨b1, b2, b3⟩ := hb.dat
  unfold qInB DEEP
  rw [a1, b1]
  simp only [Option.bind_some, dd, inD]
  simp only [dd, PyData.canLay0] at b2
  rw [if_pos ⟨b2, a2, by omega⟩, any_dd]
  intro t m
  cases hb with
  | lst hs => exact (hs t m).eqv ha
section
variable {Q : T → Prop}
theorem tk_in {n m : Nat} {a : T} {ts : List T} (ha : Pln n a) (hb : Pln m (.lst ts)) (h : Q (.bool (dec (a ∈ ts)))) (hn : n ≤ 40 := by decide) (hm : m ≤ 40 := by decide) : Pk (qIn a (.lst ts)) Q := ⟨_, by simp only [qIn, in_pln ha hb hn hm, Option.map_some], h⟩
end
section
variable {σ : TL} {L : List T → Prop}
end
end TM
end
section
set_option maxRecDepth 100000
set_option linter.all false
set_option autoImplicit false
/-! Lists of which only the upper part is own: down to a depth the lists are own, what lies below is lent. -/
namespace TM
open PySem PM
noncomputable def plc : V → Bool
  | .ref _ => true
  | .obj _ _ => true
  | _ => false
mutual
inductive RD (H : Hp) : Nat → V → T → List Nat → List Nat → Prop where
  | leaf {d : Nat} {v : V} {t : T} {R : List Nat} : RF H v t R → (d = 0 ∨ (plc v = false ∧ d ≠ 999)) → RD H d v t [] R
  | ref {d a : Nat} {vs : List V} {ts : List T} {F R : List Nat} : d ≠ 998 → H[a]? = some vs → RDs H d vs ts F R → RD H (d + 1) (.ref a) (.lst ts) (a :: F) R
  | obj {d a : Nat} {c : Nat × List Str} {vs : List V} {ts : List T} {F R : List Nat} : d ≠ 998 → H[a]? = some vs → RDs H d vs ts F R → RD H (d + 1) (.obj c a) (.ob c ts) (a :: F) R
  | all {v : V} {t : T} {F : List Nat} : RF H v t F → RD H 999 v t F []
inductive RDs (H : Hp) : Nat → List V → List T → List Nat → List Nat → Prop where
  | nil {d : Nat} : RDs H d [] [] [] []
  | cons {d : Nat} {v : V} {t : T} {F R : List Nat} {vs : List V} {ts : List T} {G Q : List Nat} : RD H d v t F R → RDs H d vs ts G Q → RDs H d (v :: vs) (t :: ts) (F ++ G) (R ++ Q)
end
theorem perm4 {A B C D X Y : List Nat} (h : (A ++ B).Perm X) (k : (C ++ D).Perm Y) : ((A ++ C) ++ (B ++ D)).Perm (X ++ Y) := by
  rw [List.perm_iff_count] at *
  intro a
  have h1 := h a
  have h2 := k a
  simp only [List.count_append] at *
  omega
mutual
theorem RD.rf {H : Hp} {d : Nat} {v : V} {t : T} {F R : List Nat} (r : RD H d v t F R) : ∃ G, RF H v t G ∧ (F ++ R).Perm G := by
  cases r with
  | leaf h _ => exact ⟨R, h, List.Perm.refl _⟩
  | ref _ e hs =>
    obtain ⟨G, h1, h2⟩ := RDs.rf hs
    exact ⟨_, .ref e h1, List.Perm.cons _ h2⟩
  | obj _ e hs =>
    obtain ⟨G, h1, h2⟩ := RDs.rf hs
    exact ⟨_, .obj e h1, List.Perm.cons _ h2⟩
  | all h => exact ⟨F, h, by rw [List.append_nil]⟩
theorem RDs.rf {H : Hp} {d : Nat} {vs : List V} {ts : List T} {F R : List Nat} (r : RDs H d vs ts F R) : ∃ G, RFs H vs ts G ∧ (F ++ R).Perm G := by
  cases r with
  | nil => exact ⟨_, .nil, List.Perm.refl _⟩
  | cons a b =>
    obtain ⟨G, h1, h2⟩ := RD.rf a
    obtain ⟨Q, k1, k2⟩ := RDs.rf b
    exact ⟨_, .cons h1 k1, perm4 h2 k2⟩
end
mutual
theorem RF.det {H : Hp} {v : V} {t t' : T} {F F' : List Nat} (r : RF H v t F) (r' : RF H v t' F') : t = t' ∧ F = F' := by
  cases r with
  | none => cases r'; exact ⟨rfl, rfl⟩
  | bool b => cases r'; exact ⟨rfl, rfl⟩
  | int i => cases r'; exact ⟨rfl, rfl⟩
  | str s => cases r'; exact ⟨rfl, rfl⟩
  | tup hs =>
    cases r' with
    | tup hs' => obtain ⟨h1, h2⟩ := RFs.det hs hs'; exact ⟨by rw [h1], h2⟩
  | ref e hs =>
    cases r' with
    | ref e' hs' =>
      rw [e] at e'
      cases e'
      obtain ⟨h1, h2⟩ := RFs.det hs hs'; exact ⟨by rw [h1], by rw [h2]⟩
  | obj e hs =>
    cases r' with
    | obj e' hs' =>
      rw [e] at e'
      cases e'
      obtain ⟨h1, h2⟩ := RFs.det hs hs'; exact ⟨by rw [h1], by rw [h2]⟩
theorem RFs.det {H : Hp} {vs : List V} {ts ts' : List T} {F F' : List Nat} (r : RFs H vs ts F) (r' : RFs H vs ts' F') : ts = ts' ∧ F = F' := by
  cases r with
  | nil => cases r'; exact ⟨rfl, rfl⟩
  | cons a b =>
    cases r' with
    | cons a' b' =>
      obtain ⟨h1, h2⟩ := RF.det a a'
      obtain ⟨k1, k2⟩ := RFs.det b b'
      exact ⟨by rw [h1, k1], by rw [h2, k2]⟩
end
mutual
theorem RD.frame {H H' : Hp} {d : Nat} {v : V} {t : T} {F R : List Nat} (r : RD H d v t F R) (h : ∀ a ∈ F, H'[a]? = H[a]?) (k : ∀ a ∈ R, H'[a]? = H[a]?) : RD H' d v t F R := by
  cases r with
  | leaf q z => exact .leaf (q.frame k) z
  | ref n e hs => exact .ref n ((h _ List.mem_cons_self).trans e) (RDs.frame hs (fun a m => h a (List.mem_cons_of_mem _ m)) k)
  | obj n e hs => exact .obj n ((h _ List.mem_cons_self).trans e) (RDs.frame hs (fun a m => h a (List.mem_cons_of_mem _ m)) k)
  | all q => exact .all (q.frame h)
theorem RDs.frame {H H' : Hp} {d : Nat} {vs : List V} {ts : List T} {F R : List Nat} (r : RDs H d vs ts F R) (h : ∀ a ∈ F, H'[a]? = H[a]?) (k : ∀ a ∈ R, H'[a]? = H[a]?) : RDs H' d vs ts F R := by
  cases r with
  | nil => exact .nil
  | cons a b => exact .cons (RD.frame a (fun x m => h x (List.mem_append_left _ m)) (fun x m => k x (List.mem_append_left _ m))) (RDs.frame b (fun x m => h x (List.mem_append_right _ m)) (fun x m => k x (List.mem_append_right _ m)))
end
mutual
theorem RF.rd {H : Hp} {v : V} {t : T} {G : List Nat} (d : Nat) (r : RF H v t G) : ∃ F R, RD H d v t F R ∧ (F ++ R).Perm G := by
  by_cases q : d = 999
  · subst q; exact ⟨G, [], .all r, by rw [List.append_nil]⟩
  cases r with
  | none => exact ⟨[], [], .leaf .none (.inr ⟨rfl, q⟩), List.Perm.refl _⟩
  | bool b => exact ⟨[], [], .leaf (.bool b) (.inr ⟨rfl, q⟩), List.Perm.refl _⟩
  | int i => exact ⟨[], [], .leaf (.int i) (.inr ⟨rfl, q⟩), List.Perm.refl _⟩
  | str s => exact ⟨[], [], .leaf (.str s) (.inr ⟨rfl, q⟩), List.Perm.refl _⟩
  | tup hs => exact ⟨[], G, .leaf (.tup hs) (.inr ⟨rfl, q⟩), List.Perm.refl _⟩
  | ref e hs =>
    cases d with
    | zero => exact ⟨[], _, .leaf (.ref e hs) (.inl rfl), List.Perm.refl _⟩
    | succ d =>
      obtain ⟨F, R, h1, h2⟩ := RFs.rd d hs
      exact ⟨_, R, .ref (by omega) e h1, List.Perm.cons _ h2⟩
  | obj e hs =>
    cases d with
    | zero => exact ⟨[], _, .leaf (.obj e hs) (.inl rfl), List.Perm.refl _⟩
    | succ d =>
      obtain ⟨F, R, h1, h2⟩ := RFs.rd d hs
      exact ⟨_, R, .obj (by omega) e h1, List.Perm.cons _ h2⟩
theorem RFs.rd {H : Hp} {vs : List V} {ts : List T} {G : List Nat} (d : Nat) (r : RFs H vs ts G) : ∃ F R, RDs H d vs ts F R ∧ (F ++ R).Perm G := by
  cases r with
  | nil => exact ⟨[], [], .nil, List.Perm.refl _⟩
  | cons a b =>
    obtain ⟨F, R, h1, h2⟩ := RF.rd d a
    obtain ⟨F', R', k1, k2⟩ := RFs.rd d b
    exact ⟨_, _, .cons h1 k1, perm4 h2 k2⟩
end
theorem RFs.rd0 {H : Hp} : ∀ {vs : List V} {ts : List T} {G : List Nat}, RFs H vs ts G → RDs H 0 vs ts [] G
  | _, _, _, .nil => .nil
  | _, _, _, .cons a b => by
    have := RDs.cons (RD.leaf (d := 0) a (.inl rfl)) (RFs.rd0 b)
    simpa using this
theorem RDs.length {H : Hp} {d : Nat} : ∀ {vs : List V} {ts : List T} {F R : List Nat}, RDs H d vs ts F R → vs.length = ts.length
  | _, _, _, _, .nil => rfl
  | _, _, _, _, .cons _ r => by rw [List.length_cons, List.length_cons, r.length]
theorem RDs.split {H : Hp} {d : Nat} : ∀ {vs : List V} {ts : List T} {F R : List Nat} {i : Nat} {t : T}, RDs H d vs ts F R → ts[i]? = some t →
    ∃ v G Q F1 F2 R1 R2, vs[i]? = some v ∧ RD H d v t G Q ∧ F = F1 ++ (G ++ F2) ∧ R = R1 ++ (Q ++ R2) ∧ ∀ (H' : Hp) (w : V) (t' : T) (G' Q' : List Nat), RD H' d w t' G' Q' → (∀ a ∈ F1 ++ F2, H'[a]? = H[a]?) → (∀ a ∈ R1 ++ R2, H'[a]? = H[a]?) → RDs H' d (vs.set i w) (ts.set i t') (F1 ++ (G' ++ F2)) (R1 ++ (Q' ++ R2))
  | _, _, _, _, _, _, .nil, e => by simp at e
  | _, _, _, _, 0, _, .cons (G := G1) (Q := Q1) a r, e => by
    simp at e
    subst e
    exact ⟨_, _, _, [], G1, [], Q1, by simp, a, by simp, by simp, fun H' w t' G' Q' x h1 h2 => by simpa using RDs.cons x (r.frame (fun b m => h1 b (by simpa using m)) (fun b m => h2 b (by simpa using m)))⟩
  | _, _, _, _, i + 1, _, .cons (F := F0) (R := R0) a r, e => by
    simp at e
    obtain ⟨v, G, Q, F1, F2, R1, R2, h1, h2, h3, h3', h4⟩ := r.split e
    refine ⟨v, G, Q, F0 ++ F1, F2, R0 ++ R1, R2, by simpa using h1, h2, by rw [h3]; simp, by rw [h3']; simp, fun H' w t' G' Q' x k1 k2 => ?_⟩
    have := RDs.cons (a.frame (fun b m => k1 b (by simp [m])) (fun b m => k2 b (by simp [m]))) (h4 H' w t' G' Q' x (fun b m => k1 b (by rcases List.mem_append.mp m with m | m <;> simp [m])) (fun b m => k2 b (by rcases List.mem_append.mp m with m | m <;> simp [m])))
    simpa using this
theorem RDs.alls {H : Hp} : ∀ {vs : List V} {ts : List T} {F : List Nat}, RFs H vs ts F → RDs H 999 vs ts F []
  | _, _, _, .nil => .nil
  | _, _, _, .cons a b => by have := RDs.cons (RD.all a) (RDs.alls b); simpa using this
theorem RDs.unall {H : Hp} : ∀ {vs : List V} {ts : List T} {F R : List Nat}, RDs H 999 vs ts F R → RFs H vs ts F ∧ R = []
  | _, _, _, _, .nil => ⟨.nil, rfl⟩
  | _, _, _, _, .cons a b => by
    obtain ⟨h1, h2⟩ := b.unall
    cases a with
    | leaf _ q => exact absurd q (by simp)
    | ref q _ _ => exact absurd rfl q
    | obj q _ _ => exact absurd rfl q
    | all h => exact ⟨.cons h h1, by simp [h2]⟩
noncomputable def dn (d : Nat) : Nat := if d = 999 then 999 else d - 1
theorem RD.inR {H : Hp} {d a : Nat} {t : T} {F R : List Nat} (r : RD H d (.ref a) t F R) (hd : 0 < d) : ∃ vs ts F', t = .lst ts ∧ F = a :: F' ∧ H[a]? = some vs ∧ RDs H (dn d) vs ts F' R ∧ ∀ (H' : Hp) (vs' : List V) (ts' : List T) (G Q : List Nat), H'[a]? = some vs' → RDs H' (dn d) vs' ts' G Q → RD H' d (.ref a) (.lst ts') (a :: G) Q := by
  cases r with
  | leaf h q => rcases q with q | q; omega; exact absurd q.1 (by simp [plc])
  | @ref d _ vs ts F' _ n e hs =>
    have : dn (d + 1) = d := by unfold dn; rw [if_neg (by omega)]; omega
    rw [this]
    exact ⟨vs, ts, F', rfl, rfl, e, hs, fun H' vs' ts' G Q e' hs' => .ref n e' hs'⟩
  | all h =>
    cases h with
    | @ref _ vs ts F' e hs =>
      refine ⟨vs, ts, F', rfl, rfl, e, RDs.alls hs, fun H' vs' ts' G Q e' hs' => ?_⟩
      obtain ⟨h1, h2⟩ := hs'.unall
      subst h2
      exact .all (.ref e' h1)
theorem RD.inO {H : Hp} {d a : Nat} {c : Nat × List Str} {t : T} {F R : List Nat} (r : RD H d (.obj c a) t F R) (hd : 0 < d) : ∃ vs ts F', t = .ob c ts ∧ F = a :: F' ∧ H[a]? = some vs ∧ RDs H (dn d) vs ts F' R ∧ ∀ (H' : Hp) (vs' : List V) (ts' : List T) (G Q : List Nat), H'[a]? = some vs' → RDs H' (dn d) vs' ts' G Q → RD H' d (.obj c a) (.ob c ts') (a :: G) Q := by
  cases r with
  | leaf h q => rcases q with q | q; omega; exact absurd q.1 (by simp [plc])
  | @obj d _ _ vs ts F' _ n e hs =>
    have : dn (d + 1) = d := by unfold dn; rw [if_neg (by omega)]; omega
    rw [this]
    exact ⟨vs, ts, F', rfl, rfl, e, hs, fun H' vs' ts' G Q e' hs' => .obj n e' hs'⟩
  | all h =>
    cases h with
    | @obj _ _ vs ts F' e hs =>
      refine ⟨vs, ts, F', rfl, rfl, e, RDs.alls hs, fun H' vs' ts' G Q e' hs' => ?_⟩
      obtain ⟨h1, h2⟩ := hs'.unall
      subst h2
      exact .all (.obj e' h1)
noncomputable def fldOf (k : Int) : Option Nat := if k ≤ -1000000 then some (-1000000 - k).toNat else none
noncomputable def idxOf (k : Int) (n : Nat) : Option Nat := if k ≤ -1000000 then none else seqIndex? k n
noncomputable def tmodL (f : List T → Option (List T)) : List Int → T → Option T
  | [], .lst ts => (f ts).map .lst
  | k :: ks, .lst ts => (idxOf k ts.length).bind fun j => ts[j]?.bind fun t => (tmodL f ks t).map fun u => .lst (ts.set j u)
  | k :: ks, .ob c ts => (fldOf k).bind fun j => ts[j]?.bind fun t => (tmodL f ks t).map fun u => .ob c (ts.set j u)
  | _, _ => none
inductive LeadU (H : Hp) : List Int → V → Nat → Prop where
  | nil {a : Nat} : LeadU H [] (.ref a) a
  | ref {k : Int} {ks : List Int} {b : Nat} {vs : List V} {j : Nat} {v : V} {a : Nat} : H[b]? = some vs → idxOf k vs.length = some j → vs[j]? = some v → LeadU H ks v a → LeadU H (k :: ks) (.ref b) a
  | obj {k : Int} {ks : List Int} {c : Nat × List Str} {b : Nat} {vs : List V} {j : Nat} {v : V} {a : Nat} : H[b]? = some vs → fldOf k = some j → vs[j]? = some v → LeadU H ks v a → LeadU H (k :: ks) (.obj c b) a
noncomputable def dnn (d m : Nat) : Nat := if d = 999 then 999 else d - m - 1
theorem dnn0 {d : Nat} : dnn d 0 = dn d := by unfold dnn dn; split <;> simp
theorem dnnS {d m : Nat} (h9 : d ≤ 999) : dnn (dn d) m = dnn d (m + 1) := by
  unfold dnn dn
  by_cases h : d = 999
  · simp [h]
  · rw [if_neg h, if_neg h]
    split
    · omega
    · omega
theorem RD.mod {H : Hp} {Fn Rn : List Nat} {f : List T → Option (List T)} : ∀ (ks : List Int) {d : Nat} {v : V} {t t' : T} {F R : List Nat}, RD H d v t F R → F.Nodup → (∀ a ∈ F, a ∉ R) → (∀ a ∈ Fn, a ∉ F) → ks.length < d → d ≤ 999 → tmodL f ks t = some t' →
    ∃ a vs ts ts' Fa Ra, LeadU H ks v a ∧ a ∈ F ∧ H[a]? = some vs ∧ RDs H (dnn d ks.length) vs ts Fa Ra ∧ f ts = some ts' ∧ Fa.Nodup ∧ a ∉ Fa ∧ (∀ x ∈ Fa, x ∈ F) ∧ (∀ x ∈ Ra, x ∈ R) ∧
      ∀ vs' F' R', RDs H (dnn d ks.length) vs' ts' F' R' → F'.Nodup → a ∉ F' → a ∉ R' → (∀ x ∈ F', x ∈ Fa ∨ x ∈ Fn) → (∀ x ∈ R', x ∈ Ra ∨ x ∈ Rn) → ∃ F2 R2, RD (H.set a vs') d v t' F2 R2 ∧ F2.Nodup ∧ (∀ x ∈ F2, x ∈ F ∨ x ∈ Fn) ∧ ∀ x ∈ R2, x ∈ R ∨ x ∈ Rn
  | [], d, v, t, t', F, R, r, nd, ds, dnw, hd, h9, e => by
    cases t with
    | none => cases e
    | bool => cases e
    | int => cases e
    | str => cases e
    | tup => cases e
    | ob => cases e
    | lst ts0 =>
    obtain ⟨ts', h1, h2⟩ := Option.map_eq_some_iff.mp e
    subst h2
    have hv : ∃ a, v = .ref a := by
      obtain ⟨G, rg, _⟩ := r.rf
      cases rg with
      | ref _ _ => exact ⟨_, rfl⟩
    obtain ⟨a, rfl⟩ := hv
    obtain ⟨vs, ts, G, et, eF, e1, hs, back⟩ := r.inR (by simpa using hd)
    cases et
    subst eF
    rw [List.nodup_cons] at nd
    rw [List.length_nil, dnn0]
    refine ⟨a, vs, ts0, ts', G, R, .nil, List.mem_cons_self, e1, hs, h1, nd.2, nd.1, fun x m => List.mem_cons_of_mem _ m, fun x m => m, fun vs' F' R' r' n' na nr sub subR => ⟨a :: F', R', ?_, ?_, ?_, subR⟩⟩
    · have ha := (List.getElem?_eq_some_iff.mp e1).1
      refine back _ _ _ _ _ (List.getElem?_set_self ha) (r'.frame (fun b m => List.getElem?_set_ne ?_) (fun b m => List.getElem?_set_ne ?_))
      · intro q; subst q; exact na m
      · intro q; subst q; exact nr m
    · exact List.nodup_cons.mpr ⟨na, n'⟩
    · intro x m
      rcases List.mem_cons.mp m with rfl | m
      · exact .inl List.mem_cons_self
      · exact (sub x m).imp (List.mem_cons_of_mem _) id
  | k :: ks, d, v, t, t', F, R, r, nd, ds, dnw, hd, h9, e => by
    have hlen : ks.length < dn d := by
      simp only [List.length_cons] at hd
      unfold dn; split <;> omega
    have h9' : dn d ≤ 999 := by unfold dn; split <;> omega
    have main : ∀ (b j : Nat) (vs : List V) (ts : List T) (F' : List Nat) (u u' : T) (mk : List T → T), F = b :: F' → t' = mk (ts.set j u') → H[b]? = some vs → RDs H (dn d) vs ts F' R → ts[j]? = some u → tmodL f ks u = some u' → (∀ w a, vs[j]? = some w → LeadU H ks w a → LeadU H (k :: ks) v a) → (∀ (H' : Hp) (vs' : List V) (ts' : List T) (G Q : List Nat), H'[b]? = some vs' → RDs H' (dn d) vs' ts' G Q → RD H' d v (mk ts') (b :: G) Q) →
      ∃ a vs ts ts' Fa Ra, LeadU H (k :: ks) v a ∧ a ∈ F ∧ H[a]? = some vs ∧ RDs H (dnn d (k :: ks).length) vs ts Fa Ra ∧ f ts = some ts' ∧ Fa.Nodup ∧ a ∉ Fa ∧ (∀ x ∈ Fa, x ∈ F) ∧ (∀ x ∈ Ra, x ∈ R) ∧
        ∀ vs' F' R', RDs H (dnn d (k :: ks).length) vs' ts' F' R' → F'.Nodup → a ∉ F' → a ∉ R' → (∀ x ∈ F', x ∈ Fa ∨ x ∈ Fn) → (∀ x ∈ R', x ∈ Ra ∨ x ∈ Rn) → ∃ F2 R2, RD (H.set a vs') d v t' F2 R2 ∧ F2.Nodup ∧ (∀ x ∈ F2, x ∈ F ∨ x ∈ Fn) ∧ ∀ x ∈ R2, x ∈ R ∨ x ∈ Rn := by
      intro b j vs ts F' u u' mk eF et' e0 hs e2 e3 lead back
      subst eF
      subst et'
      obtain ⟨w, G1, Q1, F1, F2, R1, R2, e4, g1, eF, eR, rb⟩ := hs.split e2
      subst eF
      subst eR
      rw [List.nodup_cons] at nd
      obtain ⟨nb, nd⟩ := nd
      obtain ⟨a1, a2, a5⟩ := List.nodup_append.mp nd
      obtain ⟨nd1, a3, a4⟩ := List.nodup_append.mp a2
      have hin : ∀ x ∈ G1, x ∈ F1 ++ (G1 ++ F2) := fun x m => List.mem_append_right _ (List.mem_append_left _ m)
      have hinR : ∀ x ∈ Q1, x ∈ R1 ++ (Q1 ++ R2) := fun x m => List.mem_append_right _ (List.mem_append_left _ m)
      obtain ⟨a, us, qs, qs', Fa, Ra, l, am, ea, hq, hf, gn, na, gs, gr, go⟩ := RD.mod ks g1 nd1 (fun x m q => ds x (List.mem_cons_of_mem _ (hin x m)) (hinR x q)) (fun x m q => dnw x m (List.mem_cons_of_mem _ (hin x q))) hlen h9' e3
      have ed : dnn d (k :: ks).length = dnn (dn d) ks.length := by rw [List.length_cons, dnnS h9]
      rw [ed]
      refine ⟨a, us, qs, qs', Fa, Ra, lead w a e4 l, List.mem_cons_of_mem _ (hin a am), ea, hq, hf, gn, na, fun x m => List.mem_cons_of_mem _ (hin x (gs x m)), fun x m => hinR x (gr x m), fun vs' Fx Rx r' n' na' nr' sub subR => ?_⟩
      obtain ⟨G2, Q2, f1, f2, f3, f4⟩ := go vs' Fx Rx r' n' na' nr' sub subR
      have aF : a ∈ b :: (F1 ++ (G1 ++ F2)) := List.mem_cons_of_mem _ (hin a am)
      have := rb (H.set a vs') w u' G2 Q2 f1 (fun x m => List.getElem?_set_ne fun q => by
        subst q
        rcases List.mem_append.mp m with m | m
        · exact a5 a m a (List.mem_append_left _ am) rfl
        · exact a4 a am a m rfl) (fun x m => List.getElem?_set_ne fun q => by
        subst q
        exact ds a aF (by rcases List.mem_append.mp m with m | m <;> simp [m]))
      rw [set_same e4] at this
      have hab : a ≠ b := fun q => nb (hin b (q ▸ am))
      refine ⟨_, _, back _ _ _ _ _ ((List.getElem?_set_ne hab).trans e0) this, List.nodup_cons.mpr ⟨fun q => ?_, nd3 nd f2 f3 (fun x m q => dnw x m (List.mem_cons_of_mem _ q))⟩, fun x m => ?_, in3 f4⟩
      · rcases in3 f3 b q with m | m
        · exact nb m
        · exact dnw b m List.mem_cons_self
      · rcases List.mem_cons.mp m with rfl | m
        · exact .inl List.mem_cons_self
        · exact (in3 f3 x m).imp (List.mem_cons_of_mem _) id
    have d0 : 0 < d := by omega
    cases t with
    | none => cases e
    | bool => cases e
    | int => cases e
    | str => cases e
    | tup => cases e
    | lst ts0 =>
      obtain ⟨j, e1, e⟩ := Option.bind_eq_some_iff.mp e
      obtain ⟨u, e2, e⟩ := Option.bind_eq_some_iff.mp e
      obtain ⟨u', e3, e⟩ := Option.map_eq_some_iff.mp e
      have hv : ∃ a, v = .ref a := by
        obtain ⟨G, rg, _⟩ := r.rf
        cases rg with
        | ref _ _ => exact ⟨_, rfl⟩
      obtain ⟨b, rfl⟩ := hv
      obtain ⟨vs, ts, G, et, eF, e0, hs, back⟩ := r.inR d0
      cases et
      exact main b j vs ts0 G u u' .lst eF e.symm e0 hs e2 e3 (fun w a ew l => .ref e0 (by rw [hs.length]; exact e1) ew l) back
    | ob c ts0 =>
      obtain ⟨j, e1, e⟩ := Option.bind_eq_some_iff.mp e
      obtain ⟨u, e2, e⟩ := Option.bind_eq_some_iff.mp e
      obtain ⟨u', e3, e⟩ := Option.map_eq_some_iff.mp e
      have hv : ∃ a, v = .obj c a := by
        obtain ⟨G, rg, _⟩ := r.rf
        cases rg with
        | obj _ _ => exact ⟨_, rfl⟩
      obtain ⟨b, rfl⟩ := hv
      obtain ⟨vs, ts, G, et, eF, e0, hs, back⟩ := r.inO d0
      cases et
      exact main b j vs ts0 G u u' (.ob c) eF e.symm e0 hs e2 e3 (fun w a ew l => .obj e0 e1 ew l) back
noncomputable def oStepU : V → Int → Hp → Option V
  | .obj c a, k, H => (fldOf k).bind fun j => H[a]?.bind fun vs => vs[j]?
  | v, k, H => if k ≤ -1000000 then none else (oIdx v (.int k) H).map (·.1)
noncomputable def followU (H : Hp) : List Int → V → Option V
  | [], v => some v
  | k :: ks, v => (oStepU v k H).bind fun q => followU H ks q
theorem idx_of {k : Int} {n j : Nat} (h : idxOf k n = some j) : ¬ k ≤ -1000000 ∧ seqIndex? k n = some j := by
  unfold idxOf at h
  split at h
  · cases h
  · rename_i q; exact ⟨q, h⟩
theorem LeadU.follow {H : Hp} {ks : List Int} {v : V} {a : Nat} (l : LeadU H ks v a) : followU H ks v = some (.ref a) := by
  induction l with
  | nil => rfl
  | ref h1 h2 h3 _ ih =>
    obtain ⟨q1, q2⟩ := idx_of h2
    simp only [followU, oStepU, if_neg q1, oIdx, h1, Option.bind_some, q2, h3, Option.map_some, ih]
  | obj h1 h2 h3 _ ih => simp only [followU, oStepU, h1, h2, Option.bind_some, h3, ih]
theorem step_ext {H : Hp} (X : Hp) {v w : V} {k : Int} (h : oStepU v k H = some w) : oStepU v k (H ++ X) = some w := by
  cases v with
  | obj c a =>
    simp only [oStepU] at h ⊢
    obtain ⟨j, h1, h⟩ := Option.bind_eq_some_iff.mp h
    obtain ⟨vs, h2, h⟩ := Option.bind_eq_some_iff.mp h
    rw [h1, Option.bind_some, List.getElem?_append_left (List.getElem?_eq_some_iff.mp h2).1, h2, Option.bind_some, h]
  | none => simp only [oStepU] at h ⊢; split at h; cases h; rename_i q; rw [if_neg q]; cases h
  | bool => simp only [oStepU] at h ⊢; split at h; cases h; rename_i q; rw [if_neg q]; cases h
  | int => simp only [oStepU] at h ⊢; split at h; cases h; rename_i q; rw [if_neg q]; cases h
  | str => simp only [oStepU] at h ⊢; split at h; cases h; rename_i q; rw [if_neg q]; cases h
  | tup vs =>
    simp only [oStepU] at h ⊢
    split at h
    · cases h
    · rename_i q
      rw [if_neg q]
      obtain ⟨⟨w', K⟩, h1, h2⟩ := Option.map_eq_some_iff.mp h
      rw [(idx_keeps h1 X).2]
      exact congrArg some h2
  | ref a =>
    simp only [oStepU] at h ⊢
    split at h
    · cases h
    · rename_i q
      rw [if_neg q]
      obtain ⟨⟨w', K⟩, h1, h2⟩ := Option.map_eq_some_iff.mp h
      rw [(idx_keeps h1 X).2]
      exact congrArg some h2
theorem followU_ext {H : Hp} (X : Hp) : ∀ {ks : List Int} {v w : V}, followU H ks v = some w → followU (H ++ X) ks v = some w
  | [], _, _, h => h
  | k :: ks, v, w, h => by
    obtain ⟨w1, h1, h2⟩ := Option.bind_eq_some_iff.mp h
    simp only [followU, step_ext X h1, Option.bind_some]
    exact followU_ext X h2
noncomputable def PaU (O : List Nat) (x : Nat) (e : Ex) (p : PPa) : Prop := ∀ (c : Ctx) (ρ : Lc) (σ : TL) (H : Hp) (Φ : Nat → List Nat) (ks : List Int) (v w : V), St c O ρ σ H Φ → p σ = some ks → ρ x = some v → followU H ks v = some w → ∃ X, e ρ H = some (w, H ++ X)
section
variable {O : List Nat}
theorem PaU.var {x : Nat} : PaU O x (eVar x) paNil := fun c ρ σ H Φ ks v w s h e f => by
  cases h; cases f
  exact ⟨[], by simp [eVar, e]⟩
end
noncomputable def Sp (H : Hp) (d : Nat) (v : V) (t : T) (F : List Nat) : Prop := ∃ R, RD H d v t F R ∧ F.Nodup ∧ ∀ a ∈ F, a ∉ R
theorem Sp.sub {H : Hp} {d : Nat} {v : V} {t : T} {F G : List Nat} (s : Sp H d v t F) (r : RF H v t G) : ∀ a ∈ F, a ∈ G := fun a m => by
  obtain ⟨R, h1, _⟩ := s
  obtain ⟨G', h2, h3⟩ := h1.rf
  obtain ⟨_, e⟩ := r.det h2
  rw [e]
  exact h3.subset (List.mem_append_left _ m)
theorem Sp.frame {H H' : Hp} {d : Nat} {v : V} {t : T} {F G : List Nat} (s : Sp H d v t F) (r : RF H v t G) (h : ∀ a ∈ G, H'[a]? = H[a]?) : Sp H' d v t F := by
  obtain ⟨R, h1, h4⟩ := s
  obtain ⟨G', h2, h3⟩ := h1.rf
  obtain ⟨_, e⟩ := r.det h2
  subst e
  exact ⟨R, h1.frame (fun a m => h a (h3.subset (List.mem_append_left _ m))) (fun a m => h a (h3.subset (List.mem_append_right _ m))), h4⟩
end TM
end
section
set_option maxRecDepth 100000
set_option linter.all false
set_option autoImplicit false
namespace TM
open PySem PM
noncomputable abbrev PX := TL → Option (T × TL)
noncomputable abbrev PBX := TL → Option (Bool × TL)
noncomputable abbrev Sps := List (Nat × Nat)
structure Cu extends Ctx where
  Fs : Nat → List Nat
  fs : ∀ i, ∀ a ∈ Fs i, a ∈ F0
structure Su (c : Cu) (O : List Nat) (S : Sps) (ρ : Lc) (σ : TL) (H : Hp) (Φ Ψ : Nat → List Nat) : Prop where
  st : St c.toCtx O ρ σ H Φ
  sp : ∀ i d, (i, d) ∈ S → ∀ t, σ i = some t → ∃ v, ρ i = some v ∧ Sp H d v t (Ψ i) ∧ (∀ a ∈ Ψ i, c.H0.length ≤ a ∨ a ∈ c.Fs i) ∧ ∀ j u, j ≠ i → σ j = some u → ∀ a ∈ Ψ i, a ∉ Φ j
  ap : ∀ i ∈ O, ∀ d, (i, d) ∉ S
  nw : ∀ i ∈ O, ∀ t, σ i = some t → ∀ a ∈ Φ i, c.H0.length ≤ a
noncomputable def SH (S : Sps) (σ : TL) (Ψ : Nat → List Nat) (a : Nat) : Prop := ∃ i d, (i, d) ∈ S ∧ (∃ t, σ i = some t) ∧ a ∈ Ψ i
section
variable {c : Cu} {O : List Nat} {S : Sps} {ρ : Lc} {σ : TL} {H : Hp} {Φ Ψ : Nat → List Nat}
theorem Su.low (s : Su c O S ρ σ H Φ Ψ) {k : Nat} {t : T} (e : σ k = some t) : ∀ a ∈ Φ k, a < H.length := fun a m => by
  obtain ⟨_, _, r⟩ := s.st.slot k t e
  exact r.lt a m
theorem Su.up (s : Su c O S ρ σ H Φ Ψ) {i d : Nat} (hi : (i, d) ∈ S) {t : T} (e : σ i = some t) : ∀ a ∈ Ψ i, a ∈ Φ i := fun a m => by
  obtain ⟨v, h1, h2, _⟩ := s.sp i d hi t e
  obtain ⟨v', k1, k2⟩ := s.st.slot i t e
  rw [h1] at k1
  cases k1
  exact h2.sub k2 a m
theorem Su.shlow (s : Su c O S ρ σ H Φ Ψ) {a : Nat} (h : SH S σ Ψ a) : a < H.length := by
  obtain ⟨i, d, hi, ⟨t, e⟩, m⟩ := h
  exact s.low e a (s.up hi e a m)
theorem Su.shoff (s : Su c O S ρ σ H Φ Ψ) {a n : Nat} {t : T} (h : SH S σ Ψ a) (hn : ∀ d, (n, d) ∉ S) (e : σ n = some t) : a ∉ Φ n := by
  obtain ⟨i, d, hi, ⟨t', e'⟩, m⟩ := h
  obtain ⟨_, _, _, _, k⟩ := s.sp i d hi t' e'
  exact k n t (fun q => hn d (q ▸ hi)) e a m
theorem Su.ext (s : Su c O S ρ σ H Φ Ψ) (X : Hp) : Su c O S ρ σ (H ++ X) Φ Ψ := ⟨s.st.ext X, fun i d hi t e => by
  obtain ⟨v, h1, h2, h3⟩ := s.sp i d hi t e
  obtain ⟨v', k1, k2⟩ := s.st.slot i t e
  rw [h1] at k1
  cases k1
  exact ⟨v, h1, h2.frame k2 fun a m => List.getElem?_append_left (k2.lt a m), h3⟩, s.ap, s.nw⟩
theorem Su.less {O' : List Nat} {S' : Sps} (s : Su c O S ρ σ H Φ Ψ) (h : ∀ i ∈ O', i ∈ O) (k : ∀ q ∈ S', q ∈ S) : Su c O' S' ρ σ H Φ Ψ := ⟨s.st.less h, fun i d hi => s.sp i d (k _ hi), fun i hi d m => s.ap i (h i hi) d (k _ m), fun i hi => s.nw i (h i hi)⟩
theorem delT_some {k j : Nat} {t : T} (e : delT σ k j = some t) : j ≠ k ∧ σ j = some t := by
  unfold delT at e
  split at e
  · cases e
  · rename_i h; exact ⟨h, e⟩
theorem delTs_some {N : List Nat} {j : Nat} {t : T} (e : delTs σ N j = some t) : j ∉ N ∧ σ j = some t := by
  unfold delTs at e
  split at e
  · cases e
  · rename_i h; exact ⟨h, e⟩
theorem Su.fewer {τ : TL} (s : Su c O S ρ σ H Φ Ψ) (h : ∀ j t, τ j = some t → σ j = some t) : Su c O S ρ τ H Φ Ψ :=
  ⟨⟨fun i t e => s.st.slot i t (h _ _ e), fun i t e => s.st.src i t (h _ _ e), fun i hi t e => by
    obtain ⟨h1, h2, h3⟩ := s.st.own i hi t (h _ _ e)
    exact ⟨h1, h2, fun j u hj ej => h3 j u hj (h _ _ ej)⟩, s.st.len, s.st.keep, s.st.pos, s.st.f0⟩, fun i d hi t e => by
    obtain ⟨v, h1, h2, h3, h4⟩ := s.sp i d hi t (h _ _ e)
    exact ⟨v, h1, h2, h3, fun j u hj ej => h4 j u hj (h _ _ ej)⟩, s.ap, fun i hi t e => s.nw i hi t (h _ _ e)⟩
theorem Su.del (s : Su c O S ρ σ H Φ Ψ) (k : Nat) : Su c O S ρ (delT σ k) H Φ Ψ := s.fewer fun j t e => (delT_some e).2
theorem SH.fewer {τ : TL} {a : Nat} (h : ∀ j t, τ j = some t → σ j = some t) (x : SH S τ Ψ a) : SH S σ Ψ a := by
  obtain ⟨i, d, hi, ⟨t, e⟩, m⟩ := x
  exact ⟨i, d, hi, ⟨t, h _ _ e⟩, m⟩
theorem SH.del {k a : Nat} (hS : ∀ d, (k, d) ∉ S) : SH S (delT σ k) Ψ a ↔ SH S σ Ψ a := by
  constructor
  · exact SH.fewer fun j t e => (delT_some e).2
  · rintro ⟨i, d, hi, ⟨t, e⟩, m⟩
    exact ⟨i, d, hi, ⟨t, by unfold delT; rw [if_neg (fun q : i = k => hS d (q ▸ hi))]; exact e⟩, m⟩
theorem updT_cases {k j : Nat} {t u : T} (e : updT σ k t j = some u) : (j = k ∧ u = t) ∨ (j ≠ k ∧ σ j = some u) := by
  unfold updT at e
  split at e
  · rename_i h; cases e; exact .inl ⟨h, rfl⟩
  · rename_i h; exact .inr ⟨h, e⟩
theorem updT_ne {k j : Nat} {t u : T} (e : updT σ k t j = some u) (h : j ≠ k) : σ j = some u := by
  rcases updT_cases e with ⟨q, _⟩ | ⟨_, e⟩
  · exact absurd q h
  · exact e
theorem SH.upd {k a : Nat} {t1 : T} (hS : ∀ d, (k, d) ∉ S) : SH S (updT σ k t1) Ψ a ↔ SH S σ Ψ a := by
  constructor
  · rintro ⟨i, d, hi, ⟨t, e⟩, m⟩
    exact ⟨i, d, hi, ⟨t, updT_ne e fun q => hS d (q ▸ hi)⟩, m⟩
  · rintro ⟨i, d, hi, ⟨t, e⟩, m⟩
    exact ⟨i, d, hi, ⟨t, by unfold updT; rw [if_neg (fun q : i = k => hS d (q ▸ hi))]; exact e⟩, m⟩
theorem Su.putL {k : Nat} {v : V} {t : T} {F : List Nat} (s : Su c O S ρ σ H Φ Ψ) (hk : k ∉ O) (hS : ∀ d, (k, d) ∉ S) (r : RF H v t F) (hs : ∀ a ∈ F, c.H0.length ≤ a ∨ c.P a) (ho : ∀ i ∈ O, ∀ t', σ i = some t' → ∀ a ∈ Φ i, a ∉ F) (hp : ∀ a, SH S σ Ψ a → a ∉ F) : Su c O S (upd ρ k v) (updT σ k t) H (updF Φ k F) Ψ :=
  ⟨s.st.put hk r hs ho, fun i d hi u e => by
    have ne : i ≠ k := fun q => hS d (q ▸ hi)
    have e0 := updT_ne e ne
    obtain ⟨w, h1, h2, h3, h4⟩ := s.sp i d hi u e0
    refine ⟨w, by simp [PM.upd, ne, h1], h2, h3, fun j u' hj ej a m => ?_⟩
    by_cases q : j = k
    · rw [q]; simpa [updF] using hp a ⟨i, d, hi, ⟨u, e0⟩, m⟩
    · simpa [updF, q] using h4 j u' hj (updT_ne ej q) a m, s.ap, fun i hi t e => by
    have q : i ≠ k := fun q => hk (q ▸ hi)
    simpa [updF, q] using s.nw i hi t (updT_ne e q)⟩
theorem Su.putO {k : Nat} {v : V} {t : T} {F : List Nat} {O' : List Nat} (s : Su c O S ρ σ H Φ Ψ) (hO : ∀ j ∈ O', j ∈ O ∨ j = k) (hS : ∀ d, (k, d) ∉ S) (r : RF H v t F) (nd : F.Nodup) (hn : ∀ a ∈ F, c.H0.length ≤ a) (hd : ∀ j u, j ≠ k → σ j = some u → ∀ a ∈ F, a ∉ Φ j) : Su c O' S (upd ρ k v) (updT σ k t) H (updF Φ k F) Ψ := by
  refine ⟨⟨fun i u e => ?_, fun i u e => ?_, fun i hi u e => ?_, s.st.len, s.st.keep, s.st.pos, s.st.f0⟩, fun i d hi u e => ?_, fun i hi d m => ?_, fun i hi u e => ?_⟩
  · by_cases q : i = k
    · subst q
      rcases updT_cases e with ⟨_, q'⟩ | ⟨q', _⟩
      · subst q'; exact ⟨v, by simp [PM.upd], by simpa [updF] using r⟩
      · exact absurd rfl q'
    · simpa [PM.upd, updF, q] using s.st.slot i u (updT_ne e q)
  · by_cases q : i = k
    · subst q; simpa [updF] using fun a m => Or.inl (hn a m)
    · simpa [updF, q] using s.st.src i u (updT_ne e q)
  · by_cases q : i = k
    · subst q
      simp only [updF, if_true]
      refine ⟨nd, fun a m => .inl (hn a m), fun j w hj ej a m => ?_⟩
      simpa [hj] using hd j w hj (updT_ne ej hj) a m
    · have hi' := (hO i hi).resolve_right q
      have e0 := updT_ne e q
      obtain ⟨h1, h2, h3⟩ := s.st.own i hi' u e0
      simp only [updF, q, if_false]
      refine ⟨h1, h2, fun j w hj ej a m => ?_⟩
      by_cases q2 : j = k
      · simp only [q2, if_true]
        exact fun m2 => hd i u q e0 a m2 m
      · simpa [q2] using h3 j w hj (updT_ne ej q2) a m
  · have ne : i ≠ k := fun q => hS d (q ▸ hi)
    have e0 := updT_ne e ne
    obtain ⟨w, h1, h2, h3, h4⟩ := s.sp i d hi u e0
    refine ⟨w, by simp [PM.upd, ne, h1], h2, h3, fun j u' hj ej a m => ?_⟩
    by_cases q : j = k
    · simp only [updF, q, if_true]
      exact fun m2 => hd i u ne e0 a m2 (s.up hi e0 a m)
    · simpa [updF, q] using h4 j u' hj (updT_ne ej q) a m
  · rcases hO i hi with q | q
    · exact s.ap i q d m
    · exact hS d (q ▸ m)
  · by_cases q : i = k
    · subst q; simpa [updF] using hn
    · simpa [updF, q] using s.nw i ((hO i hi).resolve_right q) u (updT_ne e q)
theorem Su.drop {O1 : List Nat} {k : Nat} {v : V} (s : Su c O1 S (upd ρ k v) σ H Φ Ψ) (hO : ∀ i ∈ O, i ∈ O1) : Su c O S ρ (delT σ k) H Φ Ψ := by
  have s := (s.del k).less hO (fun q h => h)
  refine ⟨⟨fun i t e => ?_, s.st.src, s.st.own, s.st.len, s.st.keep, s.st.pos, s.st.f0⟩, fun i d hi t e => ?_, s.ap, s.nw⟩
  · obtain ⟨w, h1, h2⟩ := s.st.slot i t e
    exact ⟨w, by simpa [PM.upd, (delT_some e).1] using h1, h2⟩
  · obtain ⟨w, h1, h2⟩ := s.sp i d hi t e
    exact ⟨w, by simpa [PM.upd, (delT_some e).1] using h1, h2⟩
end
noncomputable def EX (O : List Nat) (S : Sps) (N : List Nat) (u : Bool) (e : Ex) (p : PX) : Prop := ∀ (c : Cu) (ρ : Lc) (σ : TL) (H : Hp) (Φ Ψ : Nat → List Nat) (t : T) (σ' : TL), Su c O S ρ σ H Φ Ψ → p σ = some (t, σ') →
  ∃ v H' Φ' Ψ' F, e ρ H = some (v, H') ∧ H.length ≤ H'.length ∧ (∀ a, a < H.length → ¬ SH S σ Ψ a → H'[a]? = H[a]?) ∧ Su c O S ρ σ' H' Φ' Ψ' ∧ (∀ j t, (∀ d, (j, d) ∉ S) → σ' j = some t → σ j = some t ∧ Φ' j = Φ j) ∧ (∀ a, SH S σ' Ψ' a → H.length ≤ a ∨ SH S σ Ψ a) ∧ (∀ s d, (s, d) ∈ S → (∃ t, σ' s = some t) → ∀ a ∈ Φ' s, H.length ≤ a ∨ ∃ j, (∃ t, σ j = some t) ∧ a ∈ Φ j) ∧ RF H' v t F ∧ (∀ a ∈ F, From H N σ Φ a) ∧ (∀ a, SH S σ' Ψ' a → a ∉ F) ∧
    (u = true → F.Nodup ∧ ((∀ n ∈ N, n ∈ O ∧ ∀ d, (n, d) ∉ S) → ∀ s d, (s, d) ∈ S → (∃ t, σ' s = some t) → ∀ a ∈ Φ' s, a ∉ F))
noncomputable def BX (O : List Nat) (S : Sps) (e : Ts) (p : PBX) : Prop := ∀ (c : Cu) (ρ : Lc) (σ : TL) (H : Hp) (Φ Ψ : Nat → List Nat) (b : Bool) (σ' : TL), Su c O S ρ σ H Φ Ψ → p σ = some (b, σ') →
  ∃ H' Φ' Ψ', e ρ H = some (b, H') ∧ H.length ≤ H'.length ∧ (∀ a, a < H.length → ¬ SH S σ Ψ a → H'[a]? = H[a]?) ∧ Su c O S ρ σ' H' Φ' Ψ' ∧ (∀ j t, (∀ d, (j, d) ∉ S) → σ' j = some t → σ j = some t ∧ Φ' j = Φ j) ∧ (∀ a, SH S σ' Ψ' a → H.length ≤ a ∨ SH S σ Ψ a)
noncomputable def xP (p : PE) : PX := fun σ => (p σ).map fun t => (t, σ)
noncomputable def xB (p : PB) : PBX := fun σ => (p σ).map fun t => (t, σ)
section
variable {O N : List Nat} {S : Sps} {u : Bool}
theorem EX.pure {e : Ex} {p : PE} (x : E O N u e p) (hN : ∀ n ∈ N, ∀ q ∈ S, q.1 ≠ n) : EX O S N u e (xP p) := fun c ρ σ H Φ Ψ t σ' s h => by
  have hN : ∀ n ∈ N, ∀ d, (n, d) ∉ S := fun n hn d m => hN n hn _ m rfl
  obtain ⟨t', h1, h⟩ := Option.map_eq_some_iff.mp h
  cases h
  obtain ⟨v, X, F, a1, a2, a3, a4⟩ := x c.toCtx ρ σ H Φ t s.st h1
  refine ⟨v, H ++ X, Φ, Ψ, F, a1, by simp, fun a ha _ => List.getElem?_append_left ha, s.ext X, fun j t _ e => ⟨e, rfl⟩, fun a h => .inr h, fun s' d _ ⟨t, e⟩ a m => .inr ⟨s', ⟨t, e⟩, m⟩, a2, a3, fun a h q => ?_, fun hu => ⟨a4 hu, fun hN' s' d hs ⟨t', e⟩ a m q => ?_⟩⟩
  · rcases a3 a q with h' | ⟨n, hn, ⟨tn, en⟩, mn⟩
    · have := s.shlow h; omega
    · exact s.shoff h (hN n hn) en mn
  · rcases a3 a q with h' | ⟨n, hn, ⟨tn, en⟩, mn⟩
    · have := s.low e a m; omega
    · exact (s.st.own n (hN' n hn).1 tn en).2.2 s' t' (fun q => hN n hn d (q ▸ hs)) e a mn m
theorem BX.pure {e : Ts} {p : PB} (x : Bt O e p) : BX O S e (xB p) := fun c ρ σ H Φ Ψ t σ' s h => by
  obtain ⟨t', h1, h⟩ := Option.map_eq_some_iff.mp h
  cases h
  obtain ⟨X, a1⟩ := x c.toCtx ρ σ H Φ t s.st h1
  exact ⟨H ++ X, Φ, Ψ, a1, by simp, fun a ha _ => List.getElem?_append_left ha, s.ext X, fun j t _ e => ⟨e, rfl⟩, fun a h => .inr h⟩
theorem step_frame {σ σ1 : TL} {H H1 H2 : Hp} {Ψ Ψ1 : Nat → List Nat} (l : H.length ≤ H1.length) (a3 : ∀ a, a < H.length → ¬ SH S σ Ψ a → H1[a]? = H[a]?) (a6 : ∀ a, SH S σ1 Ψ1 a → H.length ≤ a ∨ SH S σ Ψ a) (b3 : ∀ a, a < H1.length → ¬ SH S σ1 Ψ1 a → H2[a]? = H1[a]?) : ∀ a, a < H.length → ¬ SH S σ Ψ a → H2[a]? = H[a]? := fun a ha hn => by
  rw [b3 a (by omega) fun q => (a6 a q).elim (fun q => by omega) hn, a3 a ha hn]
theorem step_held {σ σ1 σ2 : TL} {H H1 : Hp} {Ψ Ψ1 Ψ2 : Nat → List Nat} (l : H.length ≤ H1.length) (a6 : ∀ a, SH S σ1 Ψ1 a → H.length ≤ a ∨ SH S σ Ψ a) (b6 : ∀ a, SH S σ2 Ψ2 a → H1.length ≤ a ∨ SH S σ1 Ψ1 a) : ∀ a, SH S σ2 Ψ2 a → H.length ≤ a ∨ SH S σ Ψ a := fun a h => by
  rcases b6 a h with q | q
  · exact .inl (by omega)
  · exact a6 a q
end
noncomputable def Ct (k : Nat) (C : Ex → Ex) : Prop := ∀ e ρ H, C e ρ H = (e ρ H).bind fun p => C (eVar k) (upd ρ k p.1) p.2
noncomputable def Vl (k : Nat) (f : Ex) : Prop := ∃ g : Lc → Option V, (∀ ρ H, f ρ H = (g ρ).map fun v => (v, H)) ∧ ∀ ρ v, g (upd ρ k v) = g ρ
noncomputable def Of (k : Nat) (f : Ex) : Prop := ∀ ρ v H, f (upd ρ k v) H = f ρ H
noncomputable def Ofs (k : Nat) (f : Exs) : Prop := ∀ ρ v H, f (upd ρ k v) H = f ρ H
noncomputable def Cts (k : Nat) (C : Ex → Exs) : Prop := ∀ e ρ H, C e ρ H = (e ρ H).bind fun p => C (eVar k) (upd ρ k p.1) p.2
section
variable {k : Nat}
theorem Ct.id : Ct k fun e => e := fun e ρ H => by
  show e ρ H = (e ρ H).bind fun p => eVar k (upd ρ k p.1) p.2
  cases e ρ H with
  | none => rfl
  | some p => simp [eVar, upd]
theorem Ct.binL {o : V → V → Hp → Option (V × Hp)} {C : Ex → Ex} {g : Ex} (h : Ct k C) (hg : Of k g) : Ct k fun e => eBin o (C e) g := fun e ρ H => by
  simp only [eBin]
  rw [h e ρ H]
  cases e ρ H with
  | none => rfl
  | some p => simp only [Option.bind_some, hg ρ p.1]
theorem Ct.binR {o : V → V → Hp → Option (V × Hp)} {C : Ex → Ex} {f : Ex} (h : Ct k C) (hf : Vl k f) : Ct k fun e => eBin o f (C e) := fun e ρ H => by
  obtain ⟨g, h1, h2⟩ := hf
  simp only [eBin, h1, h2]
  cases g ρ with
  | none => cases e ρ H <;> rfl
  | some v =>
    simp only [Option.map_some, Option.bind_some]
    rw [h e ρ H]
    cases e ρ H with
    | none => rfl
    | some p => rfl
theorem Cts.head {C : Ex → Ex} {g : Exs} (h : Ct k C) (hg : Ofs k g) : Cts k fun e => eCons (C e) g := fun e ρ H => by
  simp only [eCons]
  rw [h e ρ H]
  cases e ρ H with
  | none => rfl
  | some p => simp only [Option.bind_some, hg ρ p.1]
theorem Cts.tail {C : Ex → Exs} {f : Ex} (h : Cts k C) (hf : Vl k f) : Cts k fun e => eCons f (C e) := fun e ρ H => by
  obtain ⟨g, h1, h2⟩ := hf
  simp only [eCons, h1, h2]
  cases g ρ with
  | none => cases e ρ H <;> rfl
  | some v =>
    simp only [Option.map_some, Option.bind_some]
    rw [h e ρ H]
    cases e ρ H with
    | none => rfl
    | some p => rfl
theorem Ct.tup {C : Ex → Exs} (h : Cts k C) : Ct k fun e => eTup (C e) := fun e ρ H => by
  simp only [eTup]
  rw [h e ρ H]
  cases e ρ H with
  | none => rfl
  | some p => rfl
theorem Ct.list {C : Ex → Exs} (h : Cts k C) : Ct k fun e => eList (C e) := fun e ρ H => by
  simp only [eList]
  rw [h e ρ H]
  cases e ρ H with
  | none => rfl
  | some p => rfl
theorem Vl.var {i : Nat} (h : i ≠ k) : Vl k (eVar i) := ⟨fun ρ => ρ i, fun ρ H => rfl, fun ρ v => by simp [upd, h]⟩
theorem Vl.int {i : Int} : Vl k (eInt i) := ⟨fun _ => some (.int i), fun ρ H => rfl, fun ρ v => rfl⟩
theorem Vl.none : Vl k eNone := ⟨fun _ => some .none, fun ρ H => rfl, fun ρ v => rfl⟩
theorem Vl.bool {i : Bool} : Vl k (eBool i) := ⟨fun _ => some (.bool i), fun ρ H => rfl, fun ρ v => rfl⟩
theorem Vl.str {i : Str} : Vl k (eStr i) := ⟨fun _ => some (.str i), fun ρ H => rfl, fun ρ v => rfl⟩
end
noncomputable def xLift (k : Nat) (p1 p2 : PX) : PX := fun σ => (p1 (delT σ k)).bind fun r => (p2 (updT r.2 k r.1)).map fun r2 => (r2.1, delT r2.2 k)
section
variable {O N : List Nat} {S : Sps} {u : Bool}
theorem lift_core {O1 N1 : List Nat} {u1 : Bool} {k : Nat} {C : Ex → Ex} {e : Ex} {p1 p2 : PX} (hC : Ct k C) (x : EX O S N1 u1 e p1) (y : EX O1 S N u (C (eVar k)) p2) (hO1 : ∀ i ∈ O, i ∈ O1) (hS : ∀ d, (k, d) ∉ S) (hN : ∀ n ∈ N, ∀ d, (n, d) ∉ S)
    (go : ∀ (c : Cu) (ρ : Lc) (σ σ1 : TL) (H H1 : Hp) (Φ Ψ Φ1 Ψ1 : Nat → List Nat) (v : V) (t : T) (F : List Nat), Su c O S ρ σ H Φ Ψ → H.length ≤ H1.length → Su c O S ρ σ1 H1 Φ1 Ψ1 → (∀ j t, (∀ d, (j, d) ∉ S) → σ1 j = some t → σ j = some t ∧ Φ1 j = Φ j) → RF H1 v t F → (∀ a ∈ F, From H N1 σ Φ a) → (∀ a, SH S σ1 Ψ1 a → a ∉ F) → (u1 = true → F.Nodup ∧ ((∀ n ∈ N1, n ∈ O ∧ ∀ d, (n, d) ∉ S) → ∀ s d, (s, d) ∈ S → (∃ t, σ1 s = some t) → ∀ a ∈ Φ1 s, a ∉ F)) → Su c O1 S (upd ρ k v) (updT σ1 k t) H1 (updF Φ1 k F) Ψ1)
    (c : Cu) (ρ : Lc) (σ : TL) (H : Hp) (Φ Ψ : Nat → List Nat) (t : T) (σ' : TL) (s : Su c O S ρ σ H Φ Ψ) (h : xLift k p1 p2 σ = some (t, σ')) :
    ∃ v H' Φ' Ψ' F, C e ρ H = some (v, H') ∧ H.length ≤ H'.length ∧ (∀ a, a < H.length → ¬ SH S σ Ψ a → H'[a]? = H[a]?) ∧ Su c O S ρ σ' H' Φ' Ψ' ∧ (∀ j t, (∀ d, (j, d) ∉ S) → σ' j = some t → σ j = some t ∧ Φ' j = Φ j) ∧ (∀ a, SH S σ' Ψ' a → H.length ≤ a ∨ SH S σ Ψ a) ∧ (∀ s d, (s, d) ∈ S → (∃ t, σ' s = some t) → ∀ a ∈ Φ' s, H.length ≤ a ∨ ∃ j, (∃ t, σ j = some t) ∧ a ∈ Φ j) ∧ RF H' v t F ∧ (∀ a ∈ F, H.length ≤ a ∨ ∃ n ∈ N.filter (fun n => n != k) ++ (if k ∈ N then N1 else []), (∃ t, σ n = some t) ∧ a ∈ Φ n) ∧ (∀ a, SH S σ' Ψ' a → a ∉ F) ∧
      (u = true → F.Nodup ∧ ((∀ n ∈ N, n ∈ O1 ∧ ∀ d, (n, d) ∉ S) → ∀ s d, (s, d) ∈ S → (∃ t, σ' s = some t) → ∀ a ∈ Φ' s, a ∉ F)) := by
  obtain ⟨⟨t1, σ1⟩, h1, h⟩ := Option.bind_eq_some_iff.mp h
  obtain ⟨⟨t2, σ2⟩, h2, h⟩ := Option.map_eq_some_iff.mp h
  cases h
  have sd := s.del k
  obtain ⟨v1, H1, Φ1, Ψ1, F1, a1, a2, a3, a4, a5, a6, a11, a7, a8, a9, a10⟩ := x c ρ (delT σ k) H Φ Ψ t1 σ1 sd h1
  have s1 := go c ρ (delT σ k) σ1 H H1 Φ Ψ Φ1 Ψ1 v1 t1 F1 sd a2 a4 a5 a7 a8 a9 a10
  simp only [SH.del hS] at a3 a6
  obtain ⟨v2, H2, Φ2, Ψ2, F2, b1, b2, b3, b4, b5, b6, b11, b7, b8, b9, b10⟩ := y c (upd ρ k v1) (updT σ1 k t1) H1 (updF Φ1 k F1) Ψ1 t2 σ2 s1 h2
  simp only [SH.upd hS] at b3 b6
  have shd2 : ∀ a, SH S (delT σ2 k) Ψ2 a → SH S σ2 Ψ2 a := fun a => (SH.del hS).mp
  refine ⟨v2, H2, Φ2, Ψ2, F2, by rw [hC e ρ H, a1]; exact b1, by omega, step_frame a2 a3 a6 b3, b4.drop hO1, fun j w hj ej => ?_, fun a h => step_held a2 a6 b6 a (shd2 a h), fun s' d hs ⟨w, ew⟩ a m => ?_, b7, fun a m => ?_, fun a h => b9 a (shd2 a h), fun hu => ⟨(b10 hu).1, fun hn s' d hs hw => ?_⟩⟩
  · obtain ⟨q, ej⟩ := delT_some ej
    obtain ⟨e1, e2⟩ := b5 j w hj ej
    obtain ⟨e3, e4⟩ := a5 j w hj (updT_ne e1 q)
    exact ⟨(delT_some e3).2, by rw [e2]; simpa [updF, q] using e4⟩
  · rcases b11 s' d hs ⟨w, (delT_some ew).2⟩ a m with q | ⟨j, ⟨w', e'⟩, mj⟩
    · exact .inl (by omega)
    · by_cases q : j = k
      · subst q
        simp only [updF, if_true] at mj
        rcases a8 a mj with q | ⟨n', _, ⟨w', e'⟩, mn'⟩
        · exact .inl q
        · exact .inr ⟨n', ⟨w', (delT_some e').2⟩, mn'⟩
      · simp only [updF, q, if_false] at mj
        have e1 := updT_ne e' q
        by_cases hjs : ∀ d, (j, d) ∉ S
        · obtain ⟨e3, e4⟩ := a5 j w' hjs e1
          exact .inr ⟨j, ⟨w', (delT_some e3).2⟩, e4 ▸ mj⟩
        · obtain ⟨d', hd⟩ := Classical.not_forall.mp hjs
          rcases a11 j d' (Classical.not_not.mp hd) ⟨w', e1⟩ a mj with q | ⟨j', ⟨w2, e2⟩, m2⟩
          · exact .inl q
          · exact .inr ⟨j', ⟨w2, (delT_some e2).2⟩, m2⟩
  · rcases b8 a m with q | ⟨n, hn, ⟨w, e⟩, mn⟩
    · exact .inl (by omega)
    · by_cases q : n = k
      · subst q
        simp only [updF, if_true] at mn
        rcases a8 a mn with q | ⟨n', hn', ⟨w', e'⟩, mn'⟩
        · exact .inl q
        · refine .inr ⟨n', List.mem_append_right _ ?_, ⟨w', (delT_some e').2⟩, mn'⟩
          rw [if_pos hn]; exact hn'
      · simp only [updF, q, if_false] at mn
        obtain ⟨e3, e4⟩ := a5 n w (hN n hn) (updT_ne e q)
        exact .inr ⟨n, List.mem_append_left _ (List.mem_filter.mpr ⟨hn, by simpa using q⟩), ⟨w, (delT_some e3).2⟩, e4 ▸ mn⟩
  · obtain ⟨w, ew⟩ := hw
    exact (b10 hu).2 hn s' d hs ⟨w, (delT_some ew).2⟩
theorem EX.lift {k : Nat} {C : Ex → Ex} {e : Ex} {p1 p2 : PX} (hC : Ct k C) (x : EX O S [] true e p1) (y : EX (k :: O) S N u (C (eVar k)) p2) (hS : ∀ q ∈ S, q.1 ≠ k) (hN : ∀ n ∈ N, ∀ q ∈ S, q.1 ≠ n) : EX O S (N.filter (fun n => n != k)) u (C e) (xLift k p1 p2) := fun c ρ σ H Φ Ψ t σ' s h => by
  have hS : ∀ d, (k, d) ∉ S := fun d m => hS _ m rfl
  have hN : ∀ n ∈ N, ∀ d, (n, d) ∉ S := fun n hn d m => hN n hn _ m rfl
  obtain ⟨v, H', Φ', Ψ', F, a1, a2, a3, a4, a5, a6, a11, a7, a8, a9, a10⟩ := lift_core hC x y (fun i hi => List.mem_cons_of_mem _ hi) hS hN (fun c ρ σ σ1 H H1 Φ Ψ Φ1 Ψ1 v t F s l s1 old r fr sh un => by
    have new1 : ∀ a ∈ F, H.length ≤ a := fun a m => (fr a m).nil
    obtain ⟨nd1, of1⟩ := un rfl
    refine s1.putO (fun j hj => by rcases List.mem_cons.mp hj with h | h; exact .inr h; exact .inl h) hS r nd1 (fun a m => Nat.le_trans s.st.len (new1 a m)) (fun j w hj ej a m q => ?_)
    by_cases hjs : ∀ d, (j, d) ∉ S
    · obtain ⟨e1, e2⟩ := old j w hjs ej
      have := s.low e1 a (e2 ▸ q)
      have := new1 a m
      omega
    · obtain ⟨d, hd⟩ := Classical.not_forall.mp hjs
      exact of1 (by simp) j d (Classical.not_not.mp hd) ⟨w, ej⟩ a q m) c ρ σ H Φ Ψ t σ' s h
  refine ⟨v, H', Φ', Ψ', F, a1, a2, a3, a4, a5, a6, a11, a7, fun a m => ?_, a9, fun hu => ⟨(a10 hu).1, fun hn => (a10 hu).2 fun n hn' => ?_⟩⟩
  · have := a8 a m
    have e0 : (if k ∈ N then ([] : List Nat) else []) = [] := by split <;> rfl
    rw [e0, List.append_nil] at this
    exact this
  · by_cases q : n = k
    · subst q; exact ⟨List.mem_cons_self, hS⟩
    · obtain ⟨k1, k2⟩ := hn n (List.mem_filter.mpr ⟨hn', by simpa using q⟩)
      exact ⟨List.mem_cons_of_mem _ k1, k2⟩
theorem EX.liftL {k : Nat} {N1 : List Nat} {u1 : Bool} {C : Ex → Ex} {e : Ex} {p1 p2 : PX} (hC : Ct k C) (x : EX O S N1 u1 e p1) (y : EX O S N u (C (eVar k)) p2) (hk : k ∉ O) (hS : ∀ q ∈ S, q.1 ≠ k) (hN1 : ∀ n ∈ N1, n ∉ O ∧ ∀ q ∈ S, q.1 ≠ n) (hN : ∀ n ∈ N, ∀ q ∈ S, q.1 ≠ n) : EX O S (N.filter (fun n => n != k) ++ (if k ∈ N then N1 else [])) (u && !(N.contains k)) (C e) (xLift k p1 p2) := fun c ρ σ H Φ Ψ t σ' s h => by
  have hS : ∀ d, (k, d) ∉ S := fun d m => hS _ m rfl
  have hN : ∀ n ∈ N, ∀ d, (n, d) ∉ S := fun n hn d m => hN n hn _ m rfl
  have hN1' : ∀ n ∈ N1, ∀ d, (n, d) ∉ S := fun n hn d m => (hN1 n hn).2 _ m rfl
  obtain ⟨v, H', Φ', Ψ', F, a1, a2, a3, a4, a5, a6, a11, a7, a8, a9, a10⟩ := lift_core hC x y (fun i hi => hi) hS hN (fun c ρ σ σ1 H H1 Φ Ψ Φ1 Ψ1 v t F s l s1 old r fr sh un => by
    refine s1.putL hk hS r (fun a m => s.st.from_src (fr a m)) (fun i hi w e a m q => ?_) sh
    obtain ⟨e1, e2⟩ := old i w (s.ap i hi) e
    rw [e2] at m
    rcases fr a q with q | ⟨n, hn, ⟨w', e'⟩, mn⟩
    · have := s.low e1 a m; omega
    · exact (s.st.own i hi w e1).2.2 n w' (fun q => (hN1 n hn).1 (q ▸ hi)) e' a m mn) c ρ σ H Φ Ψ t σ' s h
  refine ⟨v, H', Φ', Ψ', F, a1, a2, a3, a4, a5, a6, a11, a7, a8, a9, fun hu => ?_⟩
  simp only [Bool.and_eq_true, Bool.not_eq_true', List.contains_eq_mem, decide_eq_false_iff_not] at hu
  refine ⟨(a10 hu.1).1, fun hn => (a10 hu.1).2 fun n hn' => hn n ?_⟩
  exact List.mem_append_left _ (List.mem_filter.mpr ⟨hn', by simpa using fun q : n = k => hu.2 (q ▸ hn')⟩)
end
end TM
end
section
set_option maxRecDepth 100000
set_option linter.all false
set_option autoImplicit false
namespace TM
open PySem PM
noncomputable def SimX (n : Nat) (sd : Sps) (fr : Bool) (f : List V → Hp → Option (V × Hp)) (p : List T → Option (T × List T)) : Prop :=
  ∀ (H : Hp) (vs : List V) (ts : List T) (t : T) (us : List T) (Φ Ψ : Nat → List Nat), 0 < H.length → vs.length = n → ts.length = n →
  (∀ (i : Nat) (t : T), ts[i]? = some t → ∃ v, vs[i]? = some v ∧ RF H v t (Φ i)) →
  (∀ (i d : Nat), (i, d) ∈ sd → ∀ (v : V) (t : T), vs[i]? = some v → ts[i]? = some t → Sp H d v t (Ψ i) ∧ 0 ∉ Ψ i ∧ ∀ (j : Nat) (u : T), j ≠ i → ts[j]? = some u → ∀ a ∈ Ψ i, a ∉ Φ j) →
  p ts = some (t, us) →
  ∃ (v : V) (H' : Hp) (Φ' Ψ' : Nat → List Nat) (F : List Nat), f vs H = some (v, H') ∧ H.length ≤ H'.length ∧ (∀ a, a < H.length → (∀ i d, (i, d) ∈ sd → a ∉ Ψ i) → H'[a]? = H[a]?) ∧ us.length = sd.length ∧
   (∀ (k i d : Nat) (v : V) (u : T), sd[k]? = some (i, d) → vs[i]? = some v → us[k]? = some u → RF H' v u (Φ' i) ∧ Sp H' d v u (Ψ' i) ∧ (∀ a ∈ Ψ' i, H.length ≤ a ∨ a ∈ Ψ i) ∧ (∀ a ∈ Φ' i, H.length ≤ a ∨ ∃ j, j < n ∧ a ∈ Φ j) ∧ (∀ a ∈ Ψ' i, a ∉ F) ∧ (∀ j d', j ≠ i → (j, d') ∈ sd → ∀ a ∈ Ψ' i, a ∉ Φ' j) ∧ (fr = true → ∀ a ∈ Φ' i, a ∉ F)) ∧
   RF H' v t F ∧ (∀ a ∈ F, H.length ≤ a ∨ ∃ j, j < n ∧ a ∈ Φ j) ∧ (fr = true → F.Nodup ∧ ∀ a ∈ F, H.length ≤ a)
noncomputable def XAs (O M : List Nat) (as : List (Option Nat)) (es : Exs) (ps : PEs) : Prop := ∀ (c : Ctx) (ρ : Lc) (σ : TL) (H : Hp) (Φ : Nat → List Nat) (ts : List T), St c O ρ σ H Φ → ps σ = some ts → ts.length = as.length ∧ ∃ (vs : List V) (X : Hp), es ρ H = some (vs, H ++ X) ∧ vs.length = as.length ∧ (∀ (i x : Nat), as[i]? = some (some x) → vs[i]? = ρ x ∧ ts[i]? = σ x) ∧ ∀ (i : Nat) (t : T), as[i]? = some none → ts[i]? = some t → ∃ v F, vs[i]? = some v ∧ RF (H ++ X) v t F ∧ ∀ a ∈ F, From H M σ Φ a
section
variable {O M : List Nat}
theorem XAs.nil : XAs O M [] eNil pNil := fun c ρ σ H Φ ts s h => by
  cases h
  exact ⟨rfl, [], [], by simp [eNil], rfl, by simp, by simp⟩
theorem XAs.slot {x : Nat} {as : List (Option Nat)} {es : Exs} {ps : PEs} (y : XAs O M as es ps) : XAs O M (some x :: as) (eCons (eVar x) es) (pCons (pVar x) ps) := fun c ρ σ H Φ ts s h => by
  obtain ⟨t, h1, h⟩ := Option.bind_eq_some_iff.mp h
  obtain ⟨rs, h2, h⟩ := Option.bind_eq_some_iff.mp h
  cases h
  obtain ⟨v, e1, _⟩ := s.slot x t h1
  obtain ⟨l, vs, X, a1, a2, a3, a4⟩ := y c ρ σ H Φ rs s h2
  refine ⟨by simp [l], v :: vs, X, by simp [eCons, eVar, e1, a1], by simp [a2], fun i z e => ?_, fun i t' e e' => ?_⟩
  · cases i with
    | zero => simp at e; subst e; exact ⟨by simp [e1], by rw [List.getElem?_cons_zero]; exact h1.symm⟩
    | succ i => simpa using a3 i z (by simpa using e)
  · cases i with
    | zero => simp at e
    | succ i => simpa using a4 i t' (by simpa using e) (by simpa using e')
theorem XAs.lent {N : List Nat} {u : Bool} {e : Ex} {p : PE} {as : List (Option Nat)} {es : Exs} {ps : PEs} (x : E O N u e p) (hN : ∀ n ∈ N, n ∈ M) (y : XAs O M as es ps) : XAs O M (none :: as) (eCons e es) (pCons p ps) := fun c ρ σ H Φ ts s h => by
  obtain ⟨t, h1, h⟩ := Option.bind_eq_some_iff.mp h
  obtain ⟨rs, h2, h⟩ := Option.bind_eq_some_iff.mp h
  cases h
  obtain ⟨v, X, F, e1, e2, e3, _⟩ := x c ρ σ H Φ t s h1
  obtain ⟨l, vs, Y, a1, a2, a3, a4⟩ := y c ρ σ (H ++ X) Φ rs (s.ext X) h2
  refine ⟨by simp [l], v :: vs, X ++ Y, by simp [eCons, e1, a1], by simp [a2], fun i z e => ?_, fun i t' e e' => ?_⟩
  · cases i with
    | zero => simp at e
    | succ i => simpa using a3 i z (by simpa using e)
  · cases i with
    | zero =>
      simp at e'
      subst e'
      exact ⟨v, F, by simp, by rw [← List.append_assoc]; exact e2.ext Y, fun a m => (e3 a m).mono hN⟩
    | succ i =>
      obtain ⟨w, G, k1, k2, k3⟩ := a4 i t' (by simpa using e) (by simpa using e')
      exact ⟨w, G, by simpa using k1, by rw [← List.append_assoc]; exact k2, fun a m => (k3 a m).back⟩
end
noncomputable def pick {α : Type} : List Nat → List α → (Nat → α) → Nat → α
  | x :: xs, u :: us, g => fun j => if j = x then u else pick xs us g j
  | _, _, g => g
theorem pick_cases {α : Type} {g : Nat → α} : ∀ {xs : List Nat} {us : List α}, xs.length = us.length → ∀ j, (∃ (k : Nat) (u : α), xs[k]? = some j ∧ us[k]? = some u ∧ pick xs us g j = u) ∨ (j ∉ xs ∧ pick xs us g j = g j)
  | [], [], _, j => .inr ⟨by simp, rfl⟩
  | x :: xs, u :: us, h, j => by
    by_cases q : j = x
    · exact .inl ⟨0, u, by simp [q], by simp, by simp [pick, q]⟩
    · rcases pick_cases (g := g) (xs := xs) (us := us) (by simpa using h) j with ⟨k, w, h1, h2, h3⟩ | ⟨h1, h2⟩
      · exact .inl ⟨k + 1, w, by simpa using h1, by simpa using h2, by simpa [pick, q] using h3⟩
      · exact .inr ⟨by simp [q, h1], by simpa [pick, q] using h2⟩
theorem pick_at {α : Type} {g : Nat → α} : ∀ {xs : List Nat} {us : List α} {k j : Nat} {u : α}, xs.Nodup → xs[k]? = some j → us[k]? = some u → pick xs us g j = u
  | [], _, _, _, _, _, h, _ => by simp at h
  | x :: xs, [], _, _, _, _, _, h => by simp at h
  | x :: xs, w :: us, 0, j, u, nd, h1, h2 => by
    simp at h1 h2
    simp [pick, h1, h2]
  | x :: xs, w :: us, k + 1, j, u, nd, h1, h2 => by
    simp at h1 h2
    have : j ≠ x := fun q => (List.nodup_cons.mp nd).1 (q ▸ List.mem_of_getElem? h1)
    simp only [pick, this, if_false]
    exact pick_at (List.nodup_cons.mp nd).2 h1 h2
noncomputable def xCall (b : Bool) (xs : List Nat) (p : List T → Option (T × List T)) (ps : PEs) : PX := fun σ => (ps σ).bind fun ts => (p ts).bind fun r => if b = true → r.1.flat = true then some (r.1, pick xs (r.2.map some) σ) else none
section
variable {O M : List Nat} {S : Sps}
theorem EX.call {n : Nat} {sd : Sps} {fr b : Bool} {f : List V → Hp → Option (V × Hp)} {p : List T → Option (T × List T)} {as : List (Option Nat)} {es : Exs} {ps : PEs} {xs : List Nat} (k : SimX n sd fr f p) (y : XAs O M as es ps) (hb : fr = true ∨ b = true) (hn : as.length = n)
    (hx : xs.length = sd.length) (nd : xs.Nodup) (hS : ∀ k, k < sd.length → (xs.getD k 0, (sd.getD k (0, 0)).2) ∈ S ∧ as[(sd.getD k (0, 0)).1]? = some (some (xs.getD k 0))) (ha : ∀ i, i < as.length → (as.getD i none = none ∨ i ∈ sd.map (·.1))) (nds : (sd.map (·.1)).Nodup)
    (uq : ∀ q ∈ S, ∀ r ∈ S, q.1 = r.1 → q.2 = r.2) (hM : ∀ m ∈ M, m ∉ O ∧ ∀ q ∈ S, q.1 ≠ m) : EX O S [] true (eCall f es) (xCall b xs p ps) := fun c ρ σ H Φ Ψ t σ' s h => by
  have hM' : ∀ m ∈ M, ∀ d, (m, d) ∉ S := fun m hm d q => (hM m hm).2 _ q rfl
  have at_k : ∀ (k i d : Nat), sd[k]? = some (i, d) → ∃ x, xs[k]? = some x ∧ (x, d) ∈ S ∧ as[i]? = some (some x) := fun k i d e => by
    have hk := (List.getElem?_eq_some_iff.mp e).1
    obtain ⟨h1, h2⟩ := hS k hk
    have e1 : sd.getD k (0, 0) = (i, d) := by simp [List.getD, e]
    rw [e1] at h1 h2
    have : k < xs.length := by omega
    refine ⟨xs[k], List.getElem?_eq_getElem this, ?_, ?_⟩
    · simpa [List.getD, List.getElem?_eq_getElem this] using h1
    · simpa [List.getD, List.getElem?_eq_getElem this] using h2
  have slotS : ∀ (i x : Nat), as[i]? = some (some x) → ∃ (k d : Nat), sd[k]? = some (i, d) ∧ xs[k]? = some x ∧ (x, d) ∈ S := fun i x e => by
    have hi := (List.getElem?_eq_some_iff.mp e).1
    rcases ha i hi with q | q
    · simp [List.getD, e] at q
    · obtain ⟨k, hk, q⟩ := List.getElem_of_mem q
      rw [List.length_map] at hk
      have q : (sd.getD k (0, 0)).1 = i := by simpa [List.getD, List.getElem?_eq_getElem hk] using q
      have e1 : sd[k]? = some (i, (sd.getD k (0, 0)).2) := by
        rw [List.getElem?_eq_getElem hk]
        have : sd.getD k (0, 0) = sd[k] := by simp [List.getD, List.getElem?_eq_getElem hk]
        rw [this] at q ⊢
        rw [← q]
      obtain ⟨x', h1, h2, h3⟩ := at_k k i _ e1
      rw [e] at h3
      cases h3
      exact ⟨k, _, e1, h1, h2⟩
  obtain ⟨ts, h1, h⟩ := Option.bind_eq_some_iff.mp h
  obtain ⟨⟨t0, us⟩, h2, h⟩ := Option.bind_eq_some_iff.mp h
  split at h
  case isFalse => cases h
  rename_i hfl
  cases h
  obtain ⟨l, vs, X, a1, a2, a3, a4⟩ := y c.toCtx ρ σ H Φ ts s.st h1
  have sX := s.ext X
  have len : (H ++ X).length = H.length + X.length := List.length_append
  have ex : ∀ i : Nat, ∃ G : List Nat, ∀ t : T, ts[i]? = some t → ∃ v, vs[i]? = some v ∧ RF (H ++ X) v t G ∧ (as[i]? = some none → ∀ a ∈ G, From H M σ Φ a) ∧ ∀ x, as[i]? = some (some x) → G = Φ x := fun i => by
    cases e : as[i]? with
    | none => exact ⟨[], fun t et => by
        have := (List.getElem?_eq_some_iff.mp et).1
        have := List.getElem?_eq_none_iff.mp e
        omega⟩
    | some o =>
      cases o with
      | none =>
        cases et : ts[i]? with
        | none => exact ⟨[], fun t q => by cases q⟩
        | some t =>
          obtain ⟨v, F, k1, k2, k3⟩ := a4 i t e et
          exact ⟨F, fun t' q => by cases q; exact ⟨v, k1, k2, (fun _ => k3), (fun x q => by cases q)⟩⟩
      | some x =>
        obtain ⟨k1, k2⟩ := a3 i x e
        refine ⟨Φ x, fun t q => ?_⟩
        rw [k2] at q
        obtain ⟨v, e1, e2⟩ := sX.st.slot x t q
        exact ⟨v, k1.trans e1, e2, (fun q => by cases q), (fun x' q => by cases q; rfl)⟩
  let Φc : Nat → List Nat := fun i => Classical.choose (ex i)
  have hΦ : ∀ (i : Nat) (t : T), ts[i]? = some t → ∃ v, vs[i]? = some v ∧ RF (H ++ X) v t (Φc i) ∧ (as[i]? = some none → ∀ a ∈ Φc i, From H M σ Φ a) ∧ ∀ x, as[i]? = some (some x) → Φc i = Φ x := fun i => Classical.choose_spec (ex i)
  let Ψc : Nat → List Nat := fun i => match as[i]? with
    | some (some x) => Ψ x
    | _ => []
  have hΨ : ∀ (i x : Nat), as[i]? = some (some x) → Ψc i = Ψ x := fun i x e => by simp only [Ψc, e]
  have hp : 0 < (H ++ X).length := by have := s.st.pos; have := s.st.len; omega
  have argsrc : ∀ j, j < n → ∀ a ∈ Φc j, H.length ≤ a ∨ (∃ x d, (x, d) ∈ S ∧ x ∈ xs ∧ (∃ t, σ x = some t) ∧ a ∈ Φ x) ∨ ∃ m ∈ M, (∃ t, σ m = some t) ∧ a ∈ Φ m := fun j hj a m => by
    have hjt : j < ts.length := by omega
    obtain ⟨v, k1, k2, k3, k4⟩ := hΦ j ts[j] (List.getElem?_eq_getElem hjt)
    have hja : j < as.length := by omega
    cases e : as[j]? with
    | none => have := List.getElem?_eq_none_iff.mp e; omega
    | some o =>
      cases o with
      | none =>
        rcases k3 e a m with q | q
        · exact .inl q
        · exact .inr (.inr q)
      | some x =>
        obtain ⟨k, d, q1, q2, q3⟩ := slotS j x e
        have := k4 x e
        rw [this] at m
        obtain ⟨_, et⟩ := a3 j x e
        exact .inr (.inl ⟨x, d, q3, List.mem_of_getElem? q2, ⟨ts[j], by rw [← et]; exact List.getElem?_eq_getElem hjt⟩, m⟩)
  obtain ⟨v, H', Φ', Ψ', F, b1, b2, b3, b4, b5, b6, b7, b8⟩ := k (H ++ X) vs ts t0 us Φc Ψc hp (by omega) (by omega) (fun i t e => by
      obtain ⟨v, k1, k2, _⟩ := hΦ i t e
      exact ⟨v, k1, k2⟩) (fun i d hi v t ev et => by
      obtain ⟨k, hk, ek⟩ := List.getElem_of_mem hi
      obtain ⟨x, x1, x2, x3⟩ := at_k k i d (by rw [List.getElem?_eq_getElem hk, ek])
      obtain ⟨e1, e2⟩ := a3 i x x3
      rw [e1] at ev
      rw [e2] at et
      obtain ⟨v', q1, q2, q3, q4⟩ := sX.sp x d x2 t et
      rw [ev] at q1
      cases q1
      rw [hΨ i x x3]
      refine ⟨q2, fun m => ?_, fun j u hj ej a m q => ?_⟩
      · have := s.st.pos
        rcases q3 0 m with q | q
        · omega
        · exact s.st.f0 (c.fs _ _ q)
      · obtain ⟨v', k1, k2, k3, k4⟩ := hΦ j u ej
        have hjn : j < as.length := by have := (List.getElem?_eq_some_iff.mp ej).1; omega
        cases e : as[j]? with
        | none => have := List.getElem?_eq_none_iff.mp e; omega
        | some o =>
          cases o with
          | none =>
            rcases k3 e a q with q | ⟨m', hm', ⟨tm, em⟩, mm⟩
            · have := s.low et a (s.up x2 et a m); omega
            · exact q4 m' tm (fun q => hM' m' hm' d (q ▸ x2)) em a m mm
          | some z =>
            rw [k4 z e] at q
            obtain ⟨_, ez⟩ := a3 j z e
            obtain ⟨k', d', z1, z2, z3⟩ := slotS j z e
            have : z ≠ x := fun q => by
              subst q
              have hk1 := (List.getElem?_eq_some_iff.mp z2).1
              have : k' = k := (List.getElem?_inj hk1 nd).mp (z2.trans x1.symm)
              subst this
              rw [List.getElem?_eq_getElem hk, ek] at z1
              cases z1
              exact hj rfl
            exact q4 z u this (by rw [← ez]; exact ej) a m q) h2
  have same : ∀ a, a < H.length → (∀ x ∈ xs, a ∉ Ψ x) → H'[a]? = H[a]? := fun a ha hn => by
    rw [b3 a (by omega) fun i d hi m => ?_, List.getElem?_append_left ha]
    obtain ⟨k, hk, ek⟩ := List.getElem_of_mem hi
    obtain ⟨x, x1, x2, x3⟩ := at_k k i d (by rw [List.getElem?_eq_getElem hk, ek])
    rw [hΨ i x x3] at m
    exact hn x (List.mem_of_getElem? x1) m
  have lus : xs.length = (us.map some).length := by simp [b4, hx]
  have lsd1 : xs.length = (sd.map fun q => Φ' q.1).length := by simp [hx]
  have lsd2 : xs.length = (sd.map fun q => Ψ' q.1).length := by simp [hx]
  have chg : ∀ (kk x : Nat) (w : T), xs[kk]? = some x → us[kk]? = some w → ∃ (i d : Nat) (v0 : V) (t0 : T), sd[kk]? = some (i, d) ∧ (x, d) ∈ S ∧ as[i]? = some (some x) ∧ ρ x = some v0 ∧ σ x = some t0 ∧ vs[i]? = some v0 ∧ pick xs (sd.map fun q => Φ' q.1) Φ x = Φ' i ∧ pick xs (sd.map fun q => Ψ' q.1) Ψ x = Ψ' i := fun kk x w ex' ew => by
    have hk : kk < sd.length := by have := (List.getElem?_eq_some_iff.mp ex').1; omega
    obtain ⟨x', x1, x2, x3⟩ := at_k kk sd[kk].1 sd[kk].2 (List.getElem?_eq_getElem hk)
    rw [ex'] at x1
    cases x1
    obtain ⟨e1, e2⟩ := a3 _ x x3
    have hi : sd[kk].1 < as.length := (List.getElem?_eq_some_iff.mp x3).1
    have et : σ x = some ts[sd[kk].1] := by rw [← e2]; exact List.getElem?_eq_getElem (by omega)
    obtain ⟨v0, ev0, _⟩ := s.st.slot x _ et
    refine ⟨sd[kk].1, sd[kk].2, v0, _, List.getElem?_eq_getElem hk, x2, x3, ev0, et, e1.trans ev0, pick_at nd ex' (by simp [List.getElem?_eq_getElem hk]), pick_at nd ex' (by simp [List.getElem?_eq_getElem hk])⟩
  have unch : ∀ j, j ∉ xs → pick xs (us.map some) σ j = σ j ∧ pick xs (sd.map fun q => Φ' q.1) Φ j = Φ j ∧ pick xs (sd.map fun q => Ψ' q.1) Ψ j = Ψ j := fun j hj => by
    refine ⟨?_, ?_, ?_⟩
    · rcases pick_cases (g := σ) lus j with ⟨k, u, q, _⟩ | ⟨_, q⟩
      · exact absurd (List.mem_of_getElem? q) hj
      · exact q
    · rcases pick_cases (g := Φ) lsd1 j with ⟨k, u, q, _⟩ | ⟨_, q⟩
      · exact absurd (List.mem_of_getElem? q) hj
      · exact q
    · rcases pick_cases (g := Ψ) lsd2 j with ⟨k, u, q, _⟩ | ⟨_, q⟩
      · exact absurd (List.mem_of_getElem? q) hj
      · exact q
  have slot_cases : ∀ (j : Nat) (w : T), pick xs (us.map some) σ j = some w → (∃ kk : Nat, xs[kk]? = some j ∧ us[kk]? = some w) ∨ (j ∉ xs ∧ σ j = some w) := fun j w e => by
    rcases pick_cases (g := σ) lus j with ⟨k, u, q1, q2, q3⟩ | ⟨q1, q2⟩
    · rw [q3] at e
      subst e
      rw [List.getElem?_map] at q2
      obtain ⟨z, z1, z2⟩ := Option.map_eq_some_iff.mp q2
      cases z2
      exact .inl ⟨k, q1, z1⟩
    · exact .inr ⟨q1, by rw [← q2]; exact e⟩
  have xsS : ∀ x ∈ xs, ∃ d, (x, d) ∈ S := fun x hx' => by
    obtain ⟨k, hk, e⟩ := List.getElem_of_mem hx'
    obtain ⟨x', x1, x2, x3⟩ := at_k k sd[k].1 sd[k].2 (List.getElem?_eq_getElem (by omega))
    rw [List.getElem?_eq_getElem hk, e] at x1
    cases x1
    exact ⟨_, x2⟩
  have xsσ : ∀ x ∈ xs, ∃ t, σ x = some t := fun x hx' => by
    obtain ⟨k, hk, e⟩ := List.getElem_of_mem hx'
    have hu : k < us.length := by omega
    obtain ⟨_, _, _, t', _, _, _, _, q, _⟩ := chg k x us[k] (by rw [List.getElem?_eq_getElem hk, e]) (List.getElem?_eq_getElem hu)
    exact ⟨t', q⟩
  have xsΨ : ∀ x ∈ xs, ∀ j u, j ≠ x → σ j = some u → ∀ a ∈ Ψ x, a ∉ Φ j := fun x hx' j u hj ej a m => by
    obtain ⟨d, hd⟩ := xsS x hx'
    obtain ⟨t', et⟩ := xsσ x hx'
    exact (s.sp x d hd t' et).choose_spec.2.2.2 j u hj ej a m
  have spsrc : ∀ i' d', (i', d') ∈ sd → ∀ a ∈ Ψc i', ∃ x ∈ xs, a ∈ Ψ x := fun i' d' hi a m => by
    obtain ⟨k, hk, ek⟩ := List.getElem_of_mem hi
    obtain ⟨x, x1, x2, x3⟩ := at_k k i' d' (by rw [List.getElem?_eq_getElem hk, ek])
    rw [hΨ i' x x3] at m
    exact ⟨x, List.mem_of_getElem? x1, m⟩
  have fnew : ∀ a ∈ F, H.length ≤ a := fun a m => by
    rcases hb with q | q
    · have := (b8 q).2 a m; omega
    · have := b6.flat (hfl q); rw [this] at m; cases m
  have keepsl : ∀ j w, j ∉ xs → σ j = some w → ∀ a ∈ Φ j, H'[a]? = H[a]? := fun j w hj ej a m => same a (s.low ej a m) fun x hx' q => xsΨ x hx' j w (fun e => hj (e ▸ hx')) ej a q m
  have foff : ∀ x ∈ xs, ∀ (kk : Nat) (w : T), xs[kk]? = some x → us[kk]? = some w → ∀ a ∈ pick xs (sd.map fun q => Φ' q.1) Φ x, H.length ≤ a ∨ (∃ x d, (x, d) ∈ S ∧ x ∈ xs ∧ (∃ t, σ x = some t) ∧ a ∈ Φ x) ∨ ∃ m ∈ M, (∃ t, σ m = some t) ∧ a ∈ Φ m := fun x hx' kk w ex' ew a m => by
    obtain ⟨i, d, v0, t1, q1, q2, q3, q4, q5, q6, q7, q8⟩ := chg kk x w ex' ew
    rw [q7] at m
    rcases (b5 kk i d v0 w q1 q6 ew).2.2.2.1 a m with q | ⟨j, hj, q⟩
    · exact .inl (by omega)
    · exact argsrc j hj a q
  refine ⟨v, H', pick xs (sd.map fun q => Φ' q.1) Φ, pick xs (sd.map fun q => Ψ' q.1) Ψ, F, by simp only [eCall, a1, Option.bind_some, b1], by omega, fun a ha hn => same a ha fun x hx' m => ?_, ?_, fun j w hj ej => ?_, fun a hh => ?_, fun s' d hs ⟨w, ew⟩ a m => ?_, b6, fun a m => .inl (fnew a m), fun a hh m => ?_, fun _ => ⟨?_, fun _ s' d hs ⟨w, ew⟩ a m q => ?_⟩⟩
  · obtain ⟨d, hd⟩ := xsS x hx'
    exact hn ⟨x, d, hd, xsσ x hx', m⟩
  · refine ⟨⟨fun j w ej => ?_, fun j w ej a m => ?_, fun i hi w ei => ?_, by have := s.st.len; omega, fun a ha hn => ?_, s.st.pos, s.st.f0⟩, fun i d hi w ei => ?_, s.ap, fun i hi w ei => ?_⟩
    · rcases slot_cases j w ej with ⟨kk, e1, e2⟩ | ⟨e1, e2⟩
      · obtain ⟨i, d, v0, t1, q1, q2, q3, q4, q5, q6, q7, q8⟩ := chg kk j w e1 e2
        rw [q7]
        exact ⟨v0, q4, (b5 kk i d v0 w q1 q6 e2).1⟩
      · obtain ⟨v0, r1, r2⟩ := s.st.slot j w e2
        rw [(unch j e1).2.1]
        exact ⟨v0, r1, r2.frame (keepsl j w e1 e2)⟩
    · rcases slot_cases j w ej with ⟨kk, e1, e2⟩ | ⟨e1, e2⟩
      · rcases foff j (List.mem_of_getElem? e1) kk w e1 e2 a m with q | ⟨x, d, _, _, ⟨t1, et⟩, mx⟩ | ⟨m', _, ⟨tm, em⟩, mm⟩
        · exact .inl (by have := s.st.len; omega)
        · exact s.st.src x t1 et a mx
        · exact s.st.src m' tm em a mm
      · rw [(unch j e1).2.1] at m
        exact s.st.src j w e2 a m
    · have hix : i ∉ xs := fun q => by obtain ⟨d, hd⟩ := xsS i q; exact s.ap i hi d hd
      obtain ⟨u1, u2, _⟩ := unch i hix
      rw [u1] at ei
      rw [u2]
      obtain ⟨o1, o2, o3⟩ := s.st.own i hi w ei
      refine ⟨o1, o2, fun j z hj ej a m q => ?_⟩
      rcases slot_cases j z ej with ⟨kk, e1, e2⟩ | ⟨e1, e2⟩
      · rcases foff j (List.mem_of_getElem? e1) kk z e1 e2 a q with q | ⟨x, d, _, hxx, ⟨t1, et⟩, mx⟩ | ⟨m', hm', ⟨tm, em⟩, mm⟩
        · have := s.low ei a m; omega
        · exact o3 x t1 (fun q => hix (q ▸ hxx)) et a m mx
        · exact o3 m' tm (fun q => (hM m' hm').1 (q ▸ hi)) em a m mm
      · rw [(unch j e1).2.1] at q
        exact o3 j z hj e2 a m q
    · rw [same a (by have := s.st.len; omega) fun x hx' m => ?_]
      · exact s.st.keep a ha hn
      · obtain ⟨d, hd⟩ := xsS x hx'
        obtain ⟨t', et⟩ := xsσ x hx'
        rcases (s.sp x d hd t' et).choose_spec.2.2.1 a m with q | q
        · omega
        · exact hn (c.fs _ _ q)
    · rcases slot_cases i w ei with ⟨kk, e1, e2⟩ | ⟨e1, e2⟩
      · obtain ⟨i', d', v0, t1, q1, q2, q3, q4, q5, q6, q7, q8⟩ := chg kk i w e1 e2
        have : d = d' := uq _ hi _ q2 rfl
        subst this
        obtain ⟨c1, c2, c3, c4, c5, c6, c7⟩ := b5 kk i' d v0 w q1 q6 e2
        rw [q8]
        refine ⟨v0, q4, c2, fun a m => ?_, fun j z hj ej a m q => ?_⟩
        · rcases c3 a m with q | q
          · exact .inl (by have := s.st.len; omega)
          · rw [hΨ i' i q3] at q
            exact (s.sp i d hi t1 q5).choose_spec.2.2.1 a q
        · rcases slot_cases j z ej with ⟨kj, f1, f2⟩ | ⟨f1, f2⟩
          · obtain ⟨ij, dj, vj, tj, r1, r2, r3, r4, r5, r6, r7, r8⟩ := chg kj j z f1 f2
            rw [r7] at q
            have hne : ij ≠ i' := fun e => by
              subst e
              have hk1 : kj < (sd.map (·.1)).length := by simp; exact (List.getElem?_eq_some_iff.mp r1).1
              have : kj = kk := (List.getElem?_inj hk1 nds).mp (by simp [List.getElem?_map, r1, q1])
              subst this
              rw [e1] at f1
              cases f1
              exact hj rfl
            exact c6 ij dj hne (List.mem_of_getElem? r1) a m q
          · rw [(unch j f1).2.1] at q
            rcases c3 a m with q' | q'
            · have := s.low f2 a q; omega
            · rw [hΨ i' i q3] at q'
              exact xsΨ i (List.mem_of_getElem? e1) j z hj f2 a q' q
      · obtain ⟨u1, u2, u3⟩ := unch i e1
        rw [u3]
        obtain ⟨v0, p1, p2, p3, p4⟩ := s.sp i d hi w e2
        obtain ⟨v0', r1, r2⟩ := s.st.slot i w e2
        rw [p1] at r1
        cases r1
        refine ⟨v0, p1, p2.frame r2 (keepsl i w e1 e2), p3, fun j z hj ej a m q => ?_⟩
        rcases slot_cases j z ej with ⟨kj, f1, f2⟩ | ⟨f1, f2⟩
        · rcases foff j (List.mem_of_getElem? f1) kj z f1 f2 a q with q | ⟨x, dx, _, hxx, ⟨t1, et⟩, mx⟩ | ⟨m', hm', ⟨tm, em⟩, mm⟩
          · have := s.low e2 a (s.up hi e2 a m); omega
          · exact p4 x t1 (fun q => e1 (q ▸ hxx)) et a m mx
          · exact p4 m' tm (fun q => hM' m' hm' d (q ▸ hi)) em a m mm
        · rw [(unch j f1).2.1] at q
          exact p4 j z hj f2 a m q
    · have hix : i ∉ xs := fun q => by obtain ⟨d, hd⟩ := xsS i q; exact s.ap i hi d hd
      obtain ⟨u1, u2, _⟩ := unch i hix
      rw [u1] at ei
      rw [u2]
      exact s.nw i hi w ei
  · have hjx : j ∉ xs := fun q => by obtain ⟨d, hd⟩ := xsS j q; exact hj d hd
    obtain ⟨u1, u2, u3⟩ := unch j hjx
    exact ⟨by rw [← u1]; exact ej, u2⟩
  · obtain ⟨i, d, hi, ⟨w, ei⟩, m⟩ := hh
    rcases slot_cases i w ei with ⟨kk, e1, e2⟩ | ⟨e1, e2⟩
    · obtain ⟨i', d', v0, t1, q1, q2, q3, q4, q5, q6, q7, q8⟩ := chg kk i w e1 e2
      rw [q8] at m
      rcases (b5 kk i' d' v0 w q1 q6 e2).2.2.1 a m with q | q
      · exact .inl (by omega)
      · rw [hΨ i' i q3] at q
        exact .inr ⟨i, d', q2, ⟨t1, q5⟩, q⟩
    · rw [(unch i e1).2.2] at m
      exact .inr ⟨i, d, hi, ⟨w, e2⟩, m⟩
  · rcases slot_cases s' w ew with ⟨kk, e1, e2⟩ | ⟨e1, e2⟩
    · rcases foff s' (List.mem_of_getElem? e1) kk w e1 e2 a m with q | ⟨x, d, _, _, ht, mx⟩ | ⟨m', _, ht, mm⟩
      · exact .inl q
      · exact .inr ⟨x, ht, mx⟩
      · exact .inr ⟨m', ht, mm⟩
    · rw [(unch s' e1).2.1] at m
      exact .inr ⟨s', ⟨w, e2⟩, m⟩
  · obtain ⟨i, d, hi, ⟨w, ei⟩, m'⟩ := hh
    rcases slot_cases i w ei with ⟨kk, e1, e2⟩ | ⟨e1, e2⟩
    · obtain ⟨i', d', v0, t1, q1, q2, q3, q4, q5, q6, q7, q8⟩ := chg kk i w e1 e2
      rw [q8] at m'
      exact (b5 kk i' d' v0 w q1 q6 e2).2.2.2.2.1 a m' m
    · rw [(unch i e1).2.2] at m'
      have := s.low e2 a (s.up hi e2 a m')
      have := fnew a m
      omega
  · rcases hb with q | q
    · exact (b8 q).1
    · have := b6.flat (hfl q); rw [this]; exact List.nodup_nil
  · rcases slot_cases s' w ew with ⟨kk, e1, e2⟩ | ⟨e1, e2⟩
    · obtain ⟨i', d', v0, t1, q1, q2, q3, q4, q5, q6, q7, q8⟩ := chg kk s' w e1 e2
      rw [q7] at m
      rcases hb with qb | qb
      · exact (b5 kk i' d' v0 w q1 q6 e2).2.2.2.2.2.2 qb a m q
      · have := b6.flat (hfl qb); rw [this] at q; cases q
    · rw [(unch s' e1).2.1] at m
      have := s.low e2 a m
      have := fnew a q
      omega
end
end TM
end
section
set_option maxRecDepth 100000
set_option linter.all false
set_option autoImplicit false
namespace TM
open PySem PM
noncomputable def HU (O : List Nat) (S : Sps) (σ : TL) (Φ Ψ : Nat → List Nat) (a : Nat) : Prop := Held O σ Φ a ∨ SH S σ Ψ a
noncomputable def AftU (c : Cu) (O : List Nat) (S : Sps) (O' : List Nat) (S' SR : Sps) (fr : Bool) (ρ : Lc) (σ : TL) (H : Hp) (Φ Ψ : Nat → List Nat) (g : Option (Option V × Lc × Hp)) (r : Option T × TL) : Prop :=
  ∃ (ρ' : Lc) (H' : Hp) (Φ' Ψ' : Nat → List Nat), H.length ≤ H'.length ∧ (∀ a, a < H.length → ¬ HU O S σ Φ Ψ a → H'[a]? = H[a]?) ∧ (∀ q ∈ SR, ρ' q.1 = ρ q.1) ∧
    ((r.1 = none ∧ g = some (none, ρ', H') ∧ Su c O' S' ρ' r.2 H' Φ' Ψ' ∧ ∀ a, HU O' S' r.2 Φ' Ψ' a → H.length ≤ a ∨ HU O S σ Φ Ψ a) ∨
     ∃ t v F, r.1 = some t ∧ g = some (some v, ρ', H') ∧ RF H' v t F ∧ Su c [] SR ρ' r.2 H' Φ' Ψ' ∧ (∀ a ∈ F, c.H0.length ≤ a ∨ c.P a) ∧ (∀ a, SH SR r.2 Ψ' a → a ∉ F) ∧ (fr = true → F.Nodup ∧ (∀ a ∈ F, c.H0.length ≤ a) ∧ ∀ s d, (s, d) ∈ SR → (∃ t, r.2 s = some t) → ∀ a ∈ Φ' s, a ∉ F))
noncomputable def SU (O : List Nat) (S : Sps) (O' : List Nat) (S' SR : Sps) (fr : Bool) (g : Sm) (q : PS) : Prop := ∀ (c : Cu) (ρ : Lc) (σ : TL) (H : Hp) (Φ Ψ : Nat → List Nat) (r : Option T × TL), (∀ i, (∀ q ∈ SR, q.1 ≠ i) → c.Fs i = []) → Su c O S ρ σ H Φ Ψ → q σ = some r → AftU c O S O' S' SR fr ρ σ H Φ Ψ (g ρ H) r
section
variable {O O' : List Nat} {S S' SR : Sps} {fr : Bool}
theorem HU.mono {O1 : List Nat} {S1 : Sps} {σ : TL} {Φ Ψ : Nat → List Nat} {a : Nat} (h : HU O S σ Φ Ψ a) (ho : ∀ i ∈ O, i ∈ O1) (hs : ∀ q ∈ S, q ∈ S1) : HU O1 S1 σ Φ Ψ a := by
  rcases h with h | ⟨i, d, hi, h⟩
  · exact .inl (h.mono ho)
  · exact .inr ⟨i, d, hs _ hi, h⟩
theorem HU.lt {c : Cu} {ρ : Lc} {σ : TL} {H : Hp} {Φ Ψ : Nat → List Nat} {a : Nat} (s : Su c O S ρ σ H Φ Ψ) (h : HU O S σ Φ Ψ a) : a < H.length := by
  rcases h with h | h
  · exact h.lt s.st
  · exact s.shlow h
theorem SU.weak {O1 : List Nat} {S1 : Sps} {g : Sm} {q : PS} (x : SU O S O1 S1 SR fr g q) (h : ∀ i ∈ O', i ∈ O1) (k : ∀ q ∈ S', q ∈ S1) : SU O S O' S' SR fr g q := fun c ρ σ H Φ Ψ r hc s e => by
  obtain ⟨ρ', H', Φ', Ψ', h1, h2, hr, h3⟩ := x c ρ σ H Φ Ψ r hc s e
  refine ⟨ρ', H', Φ', Ψ', h1, h2, hr, ?_⟩
  rcases h3 with ⟨k1, k2, k3, k4⟩ | k'
  · exact .inl ⟨k1, k2, k3.less h k, fun a m => k4 a (m.mono h k)⟩
  · exact .inr k'
theorem SU.next : SU O S O S SR fr sNext qNext := fun c ρ σ H Φ Ψ r hc s e => by
  cases e
  exact ⟨ρ, H, Φ, Ψ, Nat.le_refl _, fun _ _ _ => rfl, fun _ _ => rfl, .inl ⟨rfl, rfl, s, fun a m => .inr m⟩⟩
theorem SU.seq {O1 : List Nat} {S1 : Sps} {a b : Sm} {p q : PS} (x : SU O S O1 S1 SR fr a p) (y : SU O1 S1 O' S' SR fr b q) : SU O S O' S' SR fr (sSeq a b) (qSeq p q) := fun c ρ σ H Φ Ψ r hc s e => by
  obtain ⟨r1, e1, e⟩ := Option.bind_eq_some_iff.mp e
  obtain ⟨ρ1, H1, Φ1, Ψ1, h1, h2, hr, h3⟩ := x c ρ σ H Φ Ψ r1 hc s e1
  rcases h3 with ⟨k1, k2, k3, k4⟩ | ⟨t, v, F, k1, k2, k3⟩
  · rw [k1] at e
    obtain ⟨ρ2, H2, Φ2, Ψ2, g1, g2, gr, g3⟩ := y c ρ1 r1.2 H1 Φ1 Ψ1 r hc k3 e
    refine ⟨ρ2, H2, Φ2, Ψ2, Nat.le_trans h1 g1, fun a ha hn => ?_, fun q hq => (gr q hq).trans (hr q hq), ?_⟩
    · rw [g2 a (by omega) fun q => (k4 a q).elim (fun q => by omega) hn, h2 a ha hn]
    · have eg : sSeq a b ρ H = b ρ1 H1 := by simp only [sSeq, k2, Option.bind_some]
      rw [eg]
      rcases g3 with ⟨l1, l2, l3, l4⟩ | l
      · refine .inl ⟨l1, l2, l3, fun a m => ?_⟩
        rcases l4 a m with q | q
        · exact .inl (by omega)
        · exact k4 a q
      · exact .inr l
  · rw [k1] at e
    cases e
    exact ⟨ρ1, H1, Φ1, Ψ1, h1, h2, hr, .inr ⟨t, v, F, k1, by simp only [sSeq, k2, Option.bind_some], k3⟩⟩
noncomputable def qRetX (p : PX) : PS := fun σ => (p σ).map fun r => (some r.1, r.2)
theorem ret_core {N : List Nat} {u : Bool} {e : Ex} {p : PX} (x : EX O S N u e p) (hR : ∀ q ∈ SR, q ∈ S) (hf : fr = true → u = true ∧ ∀ n ∈ N, n ∈ O ∧ ∀ d, (n, d) ∉ S) : SU O S O' S' SR fr (sRet e) (qRetX p) := fun c ρ σ H Φ Ψ r hc s q => by
  obtain ⟨⟨t, σ1⟩, h1, h⟩ := Option.map_eq_some_iff.mp q
  subst h
  obtain ⟨v, H1, Φ1, Ψ1, F, a1, a2, a3, a4, a5, a6, a11, a7, a8, a9, a10⟩ := x c ρ σ H Φ Ψ t σ1 s h1
  refine ⟨ρ, H1, Φ1, Ψ1, a2, fun a ha hn => a3 a ha fun q => hn (.inr q), fun _ _ => rfl, .inr ⟨t, v, F, rfl, by simp only [sRet, a1, Option.map_some], a7, a4.less (by simp) hR, fun a m => s.st.from_src (a8 a m), fun a h => a9 a ?_, fun hfr => ?_⟩⟩
  · obtain ⟨i, d, hi, h⟩ := h
    exact ⟨i, d, hR _ hi, h⟩
  · obtain ⟨hu, hN⟩ := hf hfr
    refine ⟨(a10 hu).1, fun a m => ?_, fun s' d hs => (a10 hu).2 hN s' d (hR _ hs)⟩
    rcases a8 a m with q | ⟨n, hn, ⟨w, e⟩, mn⟩
    · exact Nat.le_trans s.st.len q
    · exact s.nw n (hN n hn).1 w e a mn
theorem SU.retF {N : List Nat} {e : Ex} {p : PX} (x : EX O S N true e p) (hR : ∀ q ∈ SR, q ∈ S) (hN : ∀ n ∈ N, n ∈ O ∧ ∀ q ∈ S, q.1 ≠ n) : SU O S O' S' SR fr (sRet e) (qRetX p) := ret_core x hR fun _ => ⟨rfl, fun n hn => ⟨(hN n hn).1, fun d m => (hN n hn).2 _ m rfl⟩⟩
noncomputable def qSetX (i : Nat) (p : PX) : PS := fun σ => (p σ).map fun r => (none, updT r.2 i r.1)
theorem SU.set {N : List Nat} {u : Bool} {i : Nat} {e : Ex} {p : PX} (x : EX O S N u e p) (hi : i ∉ O' ∧ (∀ q ∈ S', q.1 ≠ i) ∧ ∀ q ∈ SR, q.1 ≠ i) (hN : ∀ n ∈ N, n ∉ O' ∧ ∀ q ∈ S', q.1 ≠ n) (hO : (∀ j ∈ O', j ∈ O) ∧ ∀ q ∈ S', q ∈ S) : SU O S O' S' SR fr (sSet i e) (qSetX i p) := fun c ρ σ H Φ Ψ r hc s q => by
  obtain ⟨⟨t, σ1⟩, h1, h⟩ := Option.map_eq_some_iff.mp q
  subst h
  obtain ⟨v, H1, Φ1, Ψ1, F, a1, a2, a3, a4, a5, a6, a11, a7, a8, a9, a10⟩ := x c ρ σ H Φ Ψ t σ1 s h1
  have s1 := a4.less hO.1 hO.2
  have hS' : ∀ d, (i, d) ∉ S' := fun d m => hi.2.1 _ m rfl
  refine ⟨upd ρ i v, H1, updF Φ1 i F, Ψ1, a2, fun a ha hn => a3 a ha fun q => hn (.inr q), fun q hq => by simp [upd, hi.2.2 q hq], .inl ⟨rfl, by simp only [sSet, a1, Option.map_some], s1.putL hi.1 hS' a7 (fun a m => s.st.from_src (a8 a m)) (fun k hk w ek a m q => ?_) (fun a h => ?_), fun a h => ?_⟩⟩
  · obtain ⟨e1, e2⟩ := a5 k w (s.ap k (hO.1 k hk)) ek
    rw [e2] at m
    rcases a8 a q with q | ⟨n, hn, ⟨w', e'⟩, mn⟩
    · have := s.low e1 a m; omega
    · exact (s.st.own k (hO.1 k hk) w e1).2.2 n w' (fun q => (hN n hn).1 (q ▸ hk)) e' a m mn
  · obtain ⟨k, d, hk, h⟩ := h
    exact a9 a ⟨k, d, hO.2 _ hk, h⟩
  · rcases h with ⟨k, hk, ⟨w, ek⟩, m⟩ | h
    · have ne : k ≠ i := fun q => hi.1 (q ▸ hk)
      have ek := updT_ne ek ne
      simp only [updF, ne, if_false] at m
      obtain ⟨e1, e2⟩ := a5 k w (s.ap k (hO.1 k hk)) ek
      exact .inr (.inl ⟨k, hO.1 k hk, ⟨w, e1⟩, e2 ▸ m⟩)
    · obtain ⟨k, d, hk, h⟩ := (SH.upd hS').mp h
      exact (a6 a ⟨k, d, hO.2 _ hk, h⟩).imp id .inr
theorem off_all {c : Cu} {ρ : Lc} {σ σ1 : TL} {H : Hp} {Φ Ψ Φ1 : Nat → List Nat} {F : List Nat} (s : Su c O S ρ σ H Φ Ψ) (a5 : ∀ j t, (∀ d, (j, d) ∉ S) → σ1 j = some t → σ j = some t ∧ Φ1 j = Φ j) (new1 : ∀ a ∈ F, H.length ≤ a) (of1 : ∀ s d, (s, d) ∈ S → (∃ t, σ1 s = some t) → ∀ a ∈ Φ1 s, a ∉ F) (j : Nat) (w : T) (ej : σ1 j = some w) : ∀ a ∈ F, a ∉ Φ1 j := fun a m q => by
  by_cases hjs : ∀ d, (j, d) ∉ S
  · obtain ⟨e1, e2⟩ := a5 j w hjs ej
    have := s.low e1 a (e2 ▸ q)
    have := new1 a m
    omega
  · obtain ⟨d, hd⟩ := Classical.not_forall.mp hjs
    exact of1 j d (Classical.not_not.mp hd) ⟨w, ej⟩ a q m
theorem SU.setO {i : Nat} {e : Ex} {p : PX} (x : EX O S [] true e p) (hi : (∀ q ∈ S', q.1 ≠ i) ∧ ∀ q ∈ SR, q.1 ≠ i) (hO : (∀ j ∈ O', j ∈ O ∨ j = i) ∧ ∀ q ∈ S', q ∈ S) : SU O S O' S' SR fr (sSet i e) (qSetX i p) := fun c ρ σ H Φ Ψ r hc s q => by
  obtain ⟨⟨t, σ1⟩, h1, h⟩ := Option.map_eq_some_iff.mp q
  subst h
  obtain ⟨v, H1, Φ1, Ψ1, F, a1, a2, a3, a4, a5, a6, a11, a7, a8, a9, a10⟩ := x c ρ σ H Φ Ψ t σ1 s h1
  have hS' : ∀ d, (i, d) ∉ S' := fun d m => hi.1 _ m rfl
  have new1 : ∀ a ∈ F, H.length ≤ a := fun a m => (a8 a m).nil
  have s1 := a4.less (O' := O) (S' := S') (fun _ h => h) hO.2
  refine ⟨upd ρ i v, H1, updF Φ1 i F, Ψ1, a2, fun a ha hn => a3 a ha fun q => hn (.inr q), fun q hq => by simp [upd, hi.2 q hq], .inl ⟨rfl, by simp only [sSet, a1, Option.map_some], s1.putO hO.1 hS' a7 (a10 rfl).1 (fun a m => Nat.le_trans s.st.len (new1 a m)) (fun j w _ ej => off_all s a5 new1 ((a10 rfl).2 (by simp)) j w ej), fun a h => ?_⟩⟩
  rcases h with ⟨k, hk, ⟨w, ek⟩, m⟩ | h
  · by_cases q : k = i
    · subst q
      simp only [updF, if_true] at m
      exact .inl (new1 a m)
    · have ek := updT_ne ek q
      simp only [updF, q, if_false] at m
      have hk := (hO.1 k hk).resolve_right q
      obtain ⟨e1, e2⟩ := a5 k w (s.ap k hk) ek
      exact .inr (.inl ⟨k, hk, ⟨w, e1⟩, e2 ▸ m⟩)
  · obtain ⟨k, d, hk, h⟩ := (SH.upd hS').mp h
    exact (a6 a ⟨k, d, hO.2 _ hk, h⟩).imp id .inr
theorem Su.putS {c : Cu} {ρ : Lc} {σ : TL} {H : Hp} {Φ Ψ : Nat → List Nat} {k d : Nat} {v : V} {t : T} {F F1 : List Nat} (s : Su c O S ρ σ H Φ Ψ) (hk : k ∉ O) (kS : ∀ d, (k, d) ∉ S) (r : RF H v t F) (p : Sp H d v t F1) (new : ∀ a ∈ F1, c.H0.length ≤ a) (dis : ∀ j u, j ≠ k → σ j = some u → ∀ a ∈ F1, a ∉ Φ j) (hs : ∀ a ∈ F, c.H0.length ≤ a ∨ c.P a) (ho : ∀ i ∈ O, ∀ t', σ i = some t' → ∀ a ∈ Φ i, a ∉ F) (hp : ∀ a, SH S σ Ψ a → a ∉ F) : Su c O ((k, d) :: S) (upd ρ k v) (updT σ k t) H (updF Φ k F) (updF Ψ k F1) := by
  have s1 := s.putL (v := v) (t := t) hk kS r hs ho hp
  refine ⟨s1.st, fun i d' hi u e => ?_, fun i hi d' m => ?_, s1.nw⟩
  · by_cases q : i = k
    · subst q
      have : d' = d := by
        rcases List.mem_cons.mp hi with h | h
        · exact (Prod.mk.inj h).2
        · exact absurd h (kS d')
      subst this
      rcases updT_cases e with ⟨_, q'⟩ | ⟨q', _⟩
      · subst q'
        refine ⟨v, by simp [upd], by simpa [updF] using p, by simpa [updF] using fun a m => Or.inl (new a m), fun j w hj ej a m => ?_⟩
        simp only [updF, if_true] at m
        simpa [updF, hj] using dis j w hj (updT_ne ej hj) a m
      · exact absurd rfl q'
    · have hi' : (i, d') ∈ S := (List.mem_cons.mp hi).resolve_left fun h => q (Prod.mk.inj h).1
      obtain ⟨w, h1, h2, h3, h4⟩ := s1.sp i d' hi' u e
      exact ⟨w, h1, by simpa [updF, q] using h2, by simpa [updF, q] using h3, by simpa [updF, q] using h4⟩
  · rcases List.mem_cons.mp m with h | h
    · exact hk ((Prod.mk.inj h).1 ▸ hi)
    · exact s.ap i hi d' h
theorem SU.setL {N : List Nat} {u : Bool} {n i : Nat} {es : Exs} {ps : PEs} (x : Es O N u n es ps) (hn : n ≤ LEN) (hi : i ∉ O' ∧ (∀ q ∈ S', q.1 ≠ i) ∧ ∀ q ∈ SR, q.1 ≠ i) (hN : ∀ n ∈ N, n ∉ O' ∧ ∀ q ∈ S', q.1 ≠ n) (hO : (∀ j ∈ O', j ∈ O) ∧ ∀ q ∈ S', q ∈ S) : SU O S O' ((i, 1) :: S') SR fr (sSet i (eList es)) (qSet i (pList ps)) := fun c ρ σ H Φ Ψ r hc s q => by
  obtain ⟨t, h1, h⟩ := Option.map_eq_some_iff.mp q
  subst h
  obtain ⟨ts, h1', h2⟩ := Option.map_eq_some_iff.mp h1
  subst h2
  obtain ⟨hl, vs, X, G, b1, b2, b3, b4⟩ := x c.toCtx ρ σ H Φ ts s.st h1'
  have hS' : ∀ d, (i, d) ∉ S' := fun d m => hi.2.1 _ m rfl
  have lvs := b2.length
  have e1 : eList es ρ H = some (.ref (H ++ X).length, (H ++ X) ++ [vs]) := by
    simp only [eList, b1, Option.bind_some]
    rw [if_pos (by omega)]
  have s1 := ((s.ext X).ext [vs]).less hO.1 hO.2
  have hb : ((H ++ X) ++ [vs])[(H ++ X).length]? = some vs := by simp
  have rf := RF.ref hb (b2.ext [vs])
  have g1 : ∀ a ∈ G, a < (H ++ X).length := b2.lt
  have p1 : Sp ((H ++ X) ++ [vs]) 1 (.ref (H ++ X).length) (.lst ts) [(H ++ X).length] := ⟨G, RD.ref (by decide) hb (RFs.rd0 (b2.ext [vs])), by simp, fun a m q => by
    have := g1 a q
    rw [List.mem_singleton.mp m] at this
    omega⟩
  have ll : (H ++ X).length = H.length + X.length := List.length_append
  have s1 := s1.putS (k := i) (d := 1) hi.1 hS' rf p1 (fun a m => by have := s.st.len; rw [List.mem_singleton.mp m]; omega) (fun j w _ ej a m q => by
      have := s.low ej a q
      rw [List.mem_singleton.mp m] at this
      omega) (fun a m => by
      rcases List.mem_cons.mp m with q | q
      · exact .inl (by have := s.st.len; omega)
      · exact s.st.from_src (b3 a q)) (fun k hk w ek a m q => by
      have lo := s.low ek a m
      rcases List.mem_cons.mp q with q | q
      · omega
      · rcases b3 a q with q | ⟨n', hn', ⟨w', e'⟩, mn⟩
        · omega
        · exact (s.st.own k (hO.1 k hk) w ek).2.2 n' w' (fun q => (hN n' hn').1 (q ▸ hk)) e' a m mn) (fun a h q => by
      obtain ⟨k, d', hk, ⟨w, ek⟩, m⟩ := h
      have lo := s.low ek a (s.up (hO.2 _ hk) ek a m)
      rcases List.mem_cons.mp q with q | q
      · omega
      · rcases b3 a q with q | ⟨n', hn', ⟨w', e'⟩, mn⟩
        · omega
        · exact (s.sp k d' (hO.2 _ hk) w ek).choose_spec.2.2.2 n' w' (fun q => (hN n' hn').2 _ hk q.symm) e' a m mn)
  refine ⟨upd ρ i (.ref (H ++ X).length), (H ++ X) ++ [vs], _, _, by simp, fun a ha hn => by rw [List.append_assoc, List.getElem?_append_left ha], fun q hq => by simp [upd, hi.2.2 q hq], .inl ⟨rfl, by simp only [sSet, e1, Option.map_some], s1, fun a h => ?_⟩⟩
  rcases h with ⟨k, hk, ⟨w, ek⟩, m⟩ | ⟨k, d', hk, ⟨w, ek⟩, m⟩
  · have q : k ≠ i := fun q => hi.1 (q ▸ hk)
    simp only [updF, q, if_false] at m
    exact .inr (.inl ⟨k, hO.1 k hk, ⟨w, updT_ne ek q⟩, m⟩)
  · by_cases q : k = i
    · subst q
      simp only [updF, if_true] at m
      exact .inl (by rw [List.mem_singleton.mp m]; omega)
    · simp only [updF, q, if_false] at m
      have hk' : (k, d') ∈ S' := (List.mem_cons.mp hk).resolve_left fun h => q (Prod.mk.inj h).1
      exact .inr (.inr ⟨k, d', hO.2 _ hk', ⟨w, updT_ne ek q⟩, m⟩)
noncomputable def qIfX (b : PBX) (p q : PS) : PS := fun σ => (b σ).bind fun x => if x.1 then p x.2 else q x.2
theorem AftU.step {c : Cu} {ρ : Lc} {σ σ1 : TL} {H H1 : Hp} {Φ Ψ Φ1 Ψ1 : Nat → List Nat} {g : Option (Option V × Lc × Hp)} {r : Option T × TL} (s : Su c O S ρ σ H Φ Ψ) (l : H.length ≤ H1.length) (a3 : ∀ a, a < H.length → ¬ SH S σ Ψ a → H1[a]? = H[a]?) (a5 : ∀ j t, (∀ d, (j, d) ∉ S) → σ1 j = some t → σ j = some t ∧ Φ1 j = Φ j) (a6 : ∀ a, SH S σ1 Ψ1 a → H.length ≤ a ∨ SH S σ Ψ a) (x : AftU c O S O' S' SR fr ρ σ1 H1 Φ1 Ψ1 g r) : AftU c O S O' S' SR fr ρ σ H Φ Ψ g r := by
  obtain ⟨ρ', H', Φ', Ψ', h1, h2, hr, h3⟩ := x
  have up : ∀ a, HU O S σ1 Φ1 Ψ1 a → H.length ≤ a ∨ HU O S σ Φ Ψ a := fun a h => by
    rcases h with ⟨j, hj, ⟨t, e⟩, m⟩ | h
    · obtain ⟨e1, e2⟩ := a5 j t (s.ap j hj) e
      exact .inr (.inl ⟨j, hj, ⟨t, e1⟩, e2 ▸ m⟩)
    · exact (a6 a h).imp id .inr
  refine ⟨ρ', H', Φ', Ψ', by omega, fun a ha hn => ?_, hr, ?_⟩
  · rw [h2 a (by omega) fun q => (up a q).elim (fun q => by omega) hn, a3 a ha fun q => hn (.inr q)]
  · rcases h3 with ⟨k1, k2, k3, k4⟩ | k
    · refine .inl ⟨k1, k2, k3, fun a m => ?_⟩
      rcases k4 a m with q | q
      · exact .inl (by omega)
      · exact up a q
    · exact .inr k
theorem SU.ife {t : Ts} {pb : PBX} {a b : Sm} {p q : PS} (z : BX O S t pb) (x : SU O S O' S' SR fr a p) (y : SU O S O' S' SR fr b q) : SU O S O' S' SR fr (sIf t a b) (qIfX pb p q) := fun c ρ σ H Φ Ψ r hc s e => by
  obtain ⟨⟨bb, σ1⟩, e1, e⟩ := Option.bind_eq_some_iff.mp e
  obtain ⟨H1, Φ1, Ψ1, a1, a2, a3, a4, a5, a6⟩ := z c ρ σ H Φ Ψ bb σ1 s e1
  cases bb with
  | true =>
    have := x c ρ σ1 H1 Φ1 Ψ1 r hc a4 (by simpa using e)
    have eg : sIf t a b ρ H = a ρ H1 := by simp [sIf, a1]
    rw [eg]
    exact this.step s a2 a3 a5 a6
  | false =>
    have := y c ρ σ1 H1 Φ1 Ψ1 r hc a4 (by simpa using e)
    have eg : sIf t a b ρ H = b ρ H1 := by simp [sIf, a1]
    rw [eg]
    exact this.step s a2 a3 a5 a6
noncomputable def Cs (k : Nat) (K : Ex → Sm) : Prop := ∀ e ρ H, K e ρ H = (e ρ H).bind fun p => (K (eVar k) (upd ρ k p.1) p.2).map fun r => (r.1, ρ, r.2.2)
noncomputable def Kp (g : Sm) : Prop := ∀ ρ H r, g ρ H = some r → r.1 = none ∧ r.2.1 = ρ
noncomputable def qLift (k : Nat) (p : PX) (q : PS) : PS := fun σ => (p (delT σ k)).bind fun r => (q (updT r.2 k r.1)).map fun r2 => (r2.1, delT r2.2 k)
theorem SU.lift {k : Nat} {K : Ex → Sm} {e : Ex} {p : PX} {q : PS} (hC : Cs k K) (hK : Kp (K (eVar k))) (x : EX O S [] true e p) (y : SU (k :: O) S O' S' SR fr (K (eVar k)) q) (hk : (∀ q ∈ S, q.1 ≠ k) ∧ (∀ q ∈ S', q.1 ≠ k) ∧ k ∉ O ∧ k ∉ O') (hR : ∀ q ∈ SR, q.1 ≠ k) : SU O S O' S' SR fr (K e) (qLift k p q) := fun c ρ σ H Φ Ψ r hc s h => by
  have hS : ∀ d, (k, d) ∉ S := fun d m => hk.1 _ m rfl
  have hS' : ∀ d, (k, d) ∉ S' := fun d m => hk.2.1 _ m rfl
  obtain ⟨⟨t1, σ1⟩, h1, h⟩ := Option.bind_eq_some_iff.mp h
  obtain ⟨⟨o, σ2⟩, h2, h⟩ := Option.map_eq_some_iff.mp h
  subst h
  have sd := s.del k
  obtain ⟨v1, H1, Φ1, Ψ1, F1, a1, a2, a3, a4, a5, a6, a11, a7, a8, a9, a10⟩ := x c ρ (delT σ k) H Φ Ψ t1 σ1 sd h1
  have new1 : ∀ a ∈ F1, H.length ≤ a := fun a m => (a8 a m).nil
  have s1 : Su c (k :: O) S (upd ρ k v1) (updT σ1 k t1) H1 (updF Φ1 k F1) Ψ1 := a4.putO (fun j hj => by rcases List.mem_cons.mp hj with h | h; exact .inr h; exact .inl h) hS a7 (a10 rfl).1 (fun a m => Nat.le_trans s.st.len (new1 a m)) (fun j w _ ej => off_all sd a5 new1 ((a10 rfl).2 (by simp)) j w ej)
  obtain ⟨ρ', H', Φ', Ψ', g1, g2, gr, g3⟩ := y c (upd ρ k v1) (updT σ1 k t1) H1 (updF Φ1 k F1) Ψ1 (o, σ2) hc s1 h2
  have up : ∀ a, HU (k :: O) S (updT σ1 k t1) (updF Φ1 k F1) Ψ1 a → H.length ≤ a ∨ HU O S σ Φ Ψ a := fun a h => by
    rcases h with ⟨j, hj, ⟨t, e⟩, m⟩ | h
    · by_cases q : j = k
      · subst q
        simp only [updF, if_true] at m
        exact .inl (new1 a m)
      · simp only [updF, q, if_false] at m
        have hj := (List.mem_cons.mp hj).resolve_left q
        obtain ⟨e1, e2⟩ := a5 j t (s.ap j hj) (updT_ne e q)
        exact .inr (.inl ⟨j, hj, ⟨t, (delT_some e1).2⟩, e2 ▸ m⟩)
    · rcases a6 a ((SH.upd hS).mp h) with q | q
      · exact .inl q
      · exact .inr (.inr ((SH.del hS).mp q))
  rcases g3 with ⟨k1, k2, k3, k4⟩ | ⟨t, v, F, k1, k2, _⟩
  · have hρ : ρ' = upd ρ k v1 := (hK _ _ _ k2).2
    rw [hρ] at k2 k3
    refine ⟨ρ, H', Φ', Ψ', by omega, fun a ha hn => ?_, fun _ _ => rfl, .inl ⟨k1, ?_, k3.drop fun _ h => h, fun a h => ?_⟩⟩
    · rw [g2 a (by omega) fun q => (up a q).elim (fun q => by omega) hn, a3 a ha fun q => hn (.inr ((SH.del hS).mp q))]
    · rw [hC e ρ H, a1]
      simp only [Option.bind_some, k2, Option.map_some]
    · have h' : HU O' S' σ2 Φ' Ψ' a := by
        rcases h with ⟨j, hj, ⟨t, e⟩, m⟩ | h
        · exact .inl ⟨j, hj, ⟨t, (delT_some e).2⟩, m⟩
        · exact .inr ((SH.del hS').mp h)
      rcases k4 a h' with q | q
      · exact .inl (by omega)
      · exact up a q
  · have := (hK _ _ _ k2).1
    cases this
theorem Cs.exp {k : Nat} {C : Ex → Ex} (h : Ct k C) : Cs k fun e => sExp (C e) := fun e ρ H => by
  simp only [sExp]
  rw [h e ρ H]
  cases e ρ H with
  | none => rfl
  | some p =>
    simp only [Option.bind_some]
    cases C (eVar k) (upd ρ k p.1) p.2 <;> rfl
theorem Kp.exp {f : Ex} : Kp (sExp f) := fun ρ H r h => by
  obtain ⟨_, _, q⟩ := Option.map_eq_some_iff.mp h
  subst q; exact ⟨rfl, rfl⟩
theorem Ct.append {k : Nat} {C : Ex → Ex} {f : Ex} (h : Ct k C) (hf : Vl k f) : Ct k fun e => eAppend f (C e) := fun e ρ H => by
  obtain ⟨g, h1, h2⟩ := hf
  simp only [eAppend, h1, h2]
  cases g ρ with
  | none => cases e ρ H <;> rfl
  | some v =>
    simp only [Option.map_some, Option.bind_some]
    rw [h e ρ H]
    cases e ρ H with
    | none => rfl
    | some p => rfl
theorem SU.ofS {N R : List Nat} {x : Nat} {g : Sm} {q : PS} (y : TM.S O O' R fr g q) (hK : Kp g) (hq : ∀ σ r, q σ = some r → ∃ t', r.2 = delTs (updT σ x t') N) (hx : x ∈ O ∧ x ∈ O') (hO : ∀ j ∈ O, j ∈ O' ∨ j ∈ N) (hO' : ∀ j ∈ O', j ∈ O) : SU O S O' S SR fr g q := fun c ρ σ H Φ Ψ r hc s h => by
  obtain ⟨ρ', H', Φ', h1, h2, h3⟩ := y c.toCtx ρ σ H Φ r s.st h
  obtain ⟨t', er⟩ := hq σ r h
  have xS : ∀ d, (x, d) ∉ S := s.ap x hx.1
  have old : ∀ j u, j ≠ x → r.2 j = some u → σ j = some u ∧ j ∉ N := fun j u hj e => by
    rw [er] at e
    obtain ⟨k1, k2⟩ := delTs_some e
    exact ⟨updT_ne k2 hj, k1⟩
  rcases h3 with ⟨k1, k2, k3, k4⟩ | ⟨t, v, F, k1, k2, _⟩
  · have hρ : ρ' = ρ := (hK _ _ _ k2).2
    subst hρ
    have frameL : ∀ j u, j ∉ O → σ j = some u → ∀ a ∈ Φ j, H'[a]? = H[a]? := fun j u hj ej a m => h2 a (s.low ej a m) fun ⟨i, hi, ⟨w, ei⟩, mi⟩ => (s.st.own i hi w ei).2.2 j u (fun q => hj (q ▸ hi)) ej a mi m
    refine ⟨ρ', H', Φ', Ψ, h1, fun a ha hn => h2 a ha fun q => hn (.inl q), fun _ _ => rfl, .inl ⟨k1, k2, ⟨k3, fun i d hi t e => ?_, fun i hi d => s.ap i (hO' i hi) d, fun i hi t e a m => ?_⟩, fun a h => ?_⟩⟩
    · have ix : i ≠ x := fun q => xS d (q ▸ hi)
      have iO : i ∉ O := fun q => s.ap i q d hi
      obtain ⟨e1, _⟩ := old i t ix e
      obtain ⟨v, q1, q2, q3, q4⟩ := s.sp i d hi t e1
      obtain ⟨v', w1, w2⟩ := s.st.slot i t e1
      rw [q1] at w1
      cases w1
      refine ⟨v, q1, q2.frame w2 (frameL i t iO e1), q3, fun j u hj ej a m q => ?_⟩
      have lo := s.low e1 a (s.up hi e1 a m)
      have inO : ∀ w, r.2 j = some w → j ∈ O' → False := fun w ew hjO => by
        rcases k4 a ⟨j, hjO, ⟨w, ew⟩, q⟩ with q | ⟨z, hz, ⟨tz, ez⟩, mz⟩
        · omega
        · exact q4 z tz (fun q => iO (q ▸ hz)) ez a m mz
      by_cases jx : j = x
      · exact inO u ej (jx ▸ hx.2)
      · obtain ⟨e2, jN⟩ := old j u jx ej
        by_cases jO : j ∈ O
        · rcases hO j jO with z | z
          · exact inO u ej z
          · exact jN z
        · obtain ⟨vj, w1, w2⟩ := s.st.slot j u e2
          obtain ⟨vj', w3, w4⟩ := k3.slot j u ej
          rw [w1] at w3
          cases w3
          obtain ⟨_, ef⟩ := w4.det (w2.frame (frameL j u jO e2))
          rw [ef] at q
          exact q4 j u hj e2 a m q
    · rcases k4 a ⟨i, hi, ⟨t, e⟩, m⟩ with q | ⟨j, hj, ⟨w, ej⟩, mj⟩
      · exact Nat.le_trans s.st.len q
      · exact s.nw j hj w ej a mj
    · rcases h with h | ⟨i, d, hi, ⟨t, e⟩, m⟩
      · exact (k4 a h).imp id .inl
      · have ix : i ≠ x := fun q => xS d (q ▸ hi)
        exact .inr (.inr ⟨i, d, hi, ⟨t, (old i t ix e).1⟩, m⟩)
  · have := (hK _ _ _ k2).1
    cases this
theorem SU.appO {x : Nat} {N : List Nat} {o e : Ex} {po : PPa} {p : PE} (hx : x ∈ O ∧ x ∈ O') (y : Pa O x o po) (z : E O N true e p) (hN : ∀ j ∈ N, j ∈ O ∧ j ≠ x) (hO : ∀ j ∈ O', j ∈ O ∧ j ∉ N) (hO2 : ∀ j ∈ O, j ∈ O' ∨ j ∈ N) : SU O S O' S SR fr (sExp (eAppend o e)) (qApp x N po p) :=
  SU.ofS (R := []) (TM.S.app hx.1 y z hN hO) Kp.exp (fun σ r h => by
    obtain ⟨ks, _, h⟩ := Option.bind_eq_some_iff.mp h
    obtain ⟨w, _, h⟩ := Option.bind_eq_some_iff.mp h
    obtain ⟨t, _, h⟩ := Option.bind_eq_some_iff.mp h
    obtain ⟨t', _, h⟩ := Option.map_eq_some_iff.mp h
    subst h
    exact ⟨t', rfl⟩) hx hO2 (fun j hj => (hO j hj).1)
end
end TM
end
section
set_option maxRecDepth 100000
set_option linter.all false
set_option autoImplicit false
namespace TM
open PySem PM
section
variable {O O' : List Nat} {S S' SR : Sps} {fr : Bool}
theorem Su.mutS {c : Cu} {ρ : Lc} {σ : TL} {H : Hp} {Φ Ψ : Nat → List Nat} {x d a b : Nat} {t t' : T} {v : V} {vs' : List V} {F2 R2 Fn Rn N : List Nat} (s : Su c O S ρ σ H Φ Ψ) (hx : (x, d) ∈ S) (uq : ∀ q ∈ S, ∀ r ∈ S, q.1 = r.1 → q.2 = r.2) (ex : σ x = some t) (ev : ρ x = some v) (hb : c.H0.length ≤ b) (hlow : ∀ k t, σ k = some t → ∀ a ∈ Φ k, a < b)
    (ha : a ∈ Ψ x) (r : RD (H.set a vs') d v t' F2 R2) (nd : F2.Nodup) (dj : ∀ y ∈ F2, y ∉ R2) (f2 : ∀ y ∈ F2, y ∈ Ψ x ∨ y ∈ Fn) (r2 : ∀ y ∈ R2, y ∈ Φ x ∨ y ∈ Rn) (hFn : ∀ y ∈ Fn, b ≤ y) (hRn : ∀ y ∈ Rn, b ≤ y ∨ ∃ j ∈ N, (∃ t, σ j = some t) ∧ y ∈ Φ j) (hN : ∀ n ∈ N, n ∉ O' ∧ ∀ d, (n, d) ∉ S') (hO : ∀ j ∈ O', j ∈ O) (hS : ∀ q ∈ S', q ∈ S) :
    ∃ G, Su c O' S' ρ (updT σ x t') (H.set a vs') (updF Φ x G) (updF Ψ x F2) ∧ (∀ y, HU O' S' (updT σ x t') (updF Φ x G) (updF Ψ x F2) y → b ≤ y ∨ HU O S σ Φ Ψ y) := by
  obtain ⟨G, rf, perm⟩ := r.rf
  obtain ⟨v', q1, q2, q3, q4⟩ := s.sp x d hx t ex
  have xO : x ∉ O := fun q => s.ap x q d hx
  have gsub : ∀ y ∈ G, y ∈ Φ x ∨ b ≤ y ∨ ∃ j ∈ N, (∃ t, σ j = some t) ∧ y ∈ Φ j := fun y m => by
    rcases List.mem_append.mp (perm.symm.subset m) with m | m
    · rcases f2 y m with q | q
      · exact .inl (s.up hx ex y q)
      · exact .inr (.inl (hFn y q))
    · rcases r2 y m with q | q
      · exact .inl q
      · exact .inr (hRn y q)
  have aoff : ∀ k u, k ≠ x → σ k = some u → a ∉ Φ k := fun k u hk e => q4 k u hk e a ha
  have fr : ∀ k u, k ≠ x → σ k = some u → ∀ y ∈ Φ k, (H.set a vs')[y]? = H[y]? := fun k u hk e y m => List.getElem?_set_ne fun q : a = y => aoff k u hk e (q ▸ m)
  refine ⟨G, ⟨⟨fun k u e => ?_, fun k u e y m => ?_, fun k hk u e => ?_, by simpa using s.st.len, fun y hy hn => ?_, s.st.pos, s.st.f0⟩, fun k d' hk u e => ?_, fun k hk d' m => s.ap k (hO k hk) d' (hS _ m), fun k hk u e => ?_⟩, fun y h => ?_⟩
  · by_cases q : k = x
    · subst q
      rcases updT_cases e with ⟨_, q'⟩ | ⟨q', _⟩
      · subst q'; exact ⟨v, ev, by simpa [updF] using rf⟩
      · exact absurd rfl q'
    · have e0 := updT_ne e q
      obtain ⟨w, h1, h2⟩ := s.st.slot k u e0
      exact ⟨w, h1, by simpa [updF, q] using h2.frame (fr k u q e0)⟩
  · by_cases q : k = x
    · subst q
      simp only [updF, if_true] at m
      rcases gsub y m with q | q | ⟨j, _, ⟨tj, ej⟩, mj⟩
      · exact s.st.src k t ex y q
      · exact .inl (by omega)
      · exact s.st.src j tj ej y mj
    · simp only [updF, q, if_false] at m
      exact s.st.src k u (updT_ne e q) y m
  · have q : k ≠ x := fun q => xO (q ▸ hO k hk)
    have e0 := updT_ne e q
    obtain ⟨o1, o2, o3⟩ := s.st.own k (hO k hk) u e0
    simp only [updF, q, if_false]
    refine ⟨o1, o2, fun j w hj ej y m => ?_⟩
    by_cases q2 : j = x
    · simp only [q2, if_true]
      intro m2
      rcases gsub y m2 with z | z | ⟨j', hj', ⟨tj, ej'⟩, mj⟩
      · exact o3 x t (Ne.symm q) ex y m z
      · have := hlow k u e0 y m; omega
      · exact o3 j' tj (fun z => (hN j' hj').1 (z ▸ hk)) ej' y m mj
    · simpa [q2] using o3 j w hj (updT_ne ej q2) y m
  · rw [List.getElem?_set_ne fun q => ?_]
    · exact s.st.keep y hy hn
    · subst q
      rcases q3 a ha with z | z
      · omega
      · exact hn (c.fs _ _ z)
  · by_cases q : k = x
    · subst q
      have : d' = d := uq _ (hS _ hk) _ hx rfl
      subst this
      rcases updT_cases e with ⟨_, q'⟩ | ⟨q', _⟩
      · subst q'
        refine ⟨v, ev, by simpa [updF] using ⟨R2, r, nd, dj⟩, fun y m => ?_, fun j w hj ej y m => ?_⟩
        · simp only [updF, if_true] at m
          rcases f2 y m with z | z
          · exact q3 y z
          · exact .inl (by have := hFn y z; omega)
        · simp only [updF, if_true] at m
          simp only [updF, hj, if_false]
          have ej := updT_ne ej hj
          rcases f2 y m with z | z
          · exact q4 j w hj ej y z
          · intro m2
            have := hlow j w ej y m2
            have := hFn y z
            omega
      · exact absurd rfl q'
    · have e0 := updT_ne e q
      obtain ⟨w, h1, h2, h3, h4⟩ := s.sp k d' (hS _ hk) u e0
      obtain ⟨w', k1, k2⟩ := s.st.slot k u e0
      rw [h1] at k1
      cases k1
      simp only [updF, q, if_false]
      refine ⟨w, h1, h2.frame k2 (fr k u q e0), h3, fun j z hj ej y m => ?_⟩
      by_cases q2 : j = x
      · simp only [q2, if_true]
        intro m2
        rcases gsub y m2 with z | z | ⟨j', hj', ⟨tj, ej'⟩, mj⟩
        · exact h4 x t (Ne.symm q) ex y m z
        · have := hlow k u e0 y (s.up (hS _ hk) e0 y m); omega
        · exact h4 j' tj (fun z => (hN j' hj').2 d' (z ▸ hk)) ej' y m mj
      · simpa [q2] using h4 j z hj (updT_ne ej q2) y m
  · have q : k ≠ x := fun q => xO (q ▸ hO k hk)
    simpa [updF, q] using s.nw k (hO k hk) u (updT_ne e q)
  · rcases h with ⟨k, hk, ⟨w, ek⟩, m⟩ | ⟨k, d', hk, ⟨w, ek⟩, m⟩
    · have q : k ≠ x := fun q => xO (q ▸ hO k hk)
      simp only [updF, q, if_false] at m
      exact .inr (.inl ⟨k, hO k hk, ⟨w, updT_ne ek q⟩, m⟩)
    · by_cases q : k = x
      · subst q
        simp only [updF, if_true] at m
        rcases f2 y m with z | z
        · exact .inr (.inr ⟨k, d, hx, ⟨t, ex⟩, z⟩)
        · exact .inl (hFn y z)
      · simp only [updF, q, if_false] at m
        exact .inr (.inr ⟨k, d', hS _ hk, ⟨w, updT_ne ek q⟩, m⟩)
theorem val_rd {c : Cu} {ρ : Lc} {σ : TL} {H H3 : Hp} {Φ Ψ : Nat → List Nat} {N Fw : List Nat} {u own : Bool} {d : Nat} {vw : V} {w : T} (r : RF H3 vw w Fw) (b3 : ∀ a ∈ Fw, From H N σ Φ a) (b4 : u = true → Fw.Nodup) (hm : own = true → u = true ∧ N = []) (hd : own = true ∨ d = 0) :
    ∃ Fn Rn, RD H3 d vw w Fn Rn ∧ (∀ y ∈ Fn, H.length ≤ y) ∧ Fn.Nodup ∧ (∀ y ∈ Fn, y ∉ Rn) ∧ ∀ y ∈ Rn, From H N σ Φ y := by
  cases own with
  | false =>
    have : d = 0 := hd.resolve_left (by simp)
    subst this
    exact ⟨[], Fw, .leaf r (.inl rfl), by simp, by simp, by simp, b3⟩
  | true =>
    obtain ⟨hu, hN⟩ := hm rfl
    subst hN
    obtain ⟨F, R, h1, h2⟩ := r.rd d
    have := h2.nodup_iff.mpr (b4 hu)
    obtain ⟨n1, n2, n3⟩ := List.nodup_append.mp this
    exact ⟨F, R, h1, fun y m => (b3 y (h2.subset (List.mem_append_left _ m))).nil, n1, fun y m q => n3 y m y q rfl, fun y m => b3 y (h2.subset (List.mem_append_right _ m))⟩
noncomputable def qPutS (x d : Nat) (own : Bool) (p : PE) (po : PPa) (pi : PE) : PS := fun σ => (p σ).bind fun w => (po σ).bind fun ks => (pi σ).bind fun k => match k with
  | .int k => (σ x).bind fun t => if ks.length < d ∧ d ≤ 999 ∧ (own = true ∨ dnn d ks.length = 0) then (tmodL (putT k w) ks t).map fun t' => (none, updT σ x t') else none
  | _ => none
theorem spine_ne0 {c : Cu} {ρ : Lc} {σ : TL} {H : Hp} {Φ Ψ : Nat → List Nat} {x d a : Nat} {t : T} (s : Su c O S ρ σ H Φ Ψ) (hx : (x, d) ∈ S) (ex : σ x = some t) (ha : a ∈ Ψ x) : a ≠ 0 := by
  have := s.st.pos
  obtain ⟨_, _, _, q, _⟩ := s.sp x d hx t ex
  rcases q a ha with q | q
  · omega
  · exact fun e => s.st.f0 (e ▸ c.fs _ _ q)
theorem SU.putS {x d : Nat} {N M : List Nat} {u u' own : Bool} {o e i : Ex} {po : PPa} {p pi : PE} (hx : (x, d) ∈ S ∧ (x, d) ∈ S') (uq : ∀ q ∈ S, ∀ r ∈ S, q.1 = r.1 → q.2 = r.2) (z : E O N u e p) (y : PaU O x o po) (zi : E O M u' i pi) (hm : own = true → u = true ∧ N = []) (hN : ∀ n ∈ N, n ∉ O' ∧ ∀ q ∈ S', q.1 ≠ n) (hO : (∀ j ∈ O', j ∈ O) ∧ ∀ q ∈ S', q ∈ S) : SU O S O' S' SR fr (sPut e o i) (qPutS x d own p po pi) := fun c ρ σ H Φ Ψ r hc s q => by
  have hN' : ∀ n ∈ N, n ∉ O' ∧ ∀ d, (n, d) ∉ S' := fun n hn => ⟨(hN n hn).1, fun d m => (hN n hn).2 _ m rfl⟩
  obtain ⟨w, h2, q⟩ := Option.bind_eq_some_iff.mp q
  obtain ⟨ks, h1, q⟩ := Option.bind_eq_some_iff.mp q
  obtain ⟨tk, h5, q⟩ := Option.bind_eq_some_iff.mp q
  cases tk <;> first | (cases q; done) | skip
  rename_i k
  obtain ⟨t, h3, q⟩ := Option.bind_eq_some_iff.mp q
  split at q
  case isFalse => cases q
  rename_i hc
  obtain ⟨t', h4, q⟩ := Option.map_eq_some_iff.mp q
  subst q
  obtain ⟨v, ev, ⟨R, rd, nd, dj⟩, p3, p4⟩ := s.sp x d hx.1 t h3
  obtain ⟨v', ev', rv⟩ := s.st.slot x t h3
  rw [ev] at ev'
  cases ev'
  obtain ⟨Gx, rg, pg⟩ := rd.rf
  obtain ⟨_, eG⟩ := rv.det rg
  have hlow : ∀ k t, σ k = some t → ∀ a ∈ Φ k, a < H.length := fun k t e => s.low e
  have inF : ∀ a ∈ Ψ x, a ∈ Φ x := fun a m => by rw [eG]; exact pg.subset (List.mem_append_left _ m)
  have inR : ∀ a ∈ R, a ∈ Φ x := fun a m => by rw [eG]; exact pg.subset (List.mem_append_right _ m)
  obtain ⟨vw, X, Fw, b1, b2, b3, b4⟩ := z c.toCtx ρ σ H Φ w s.st h2
  have growX : ∀ b, b < H.length → (H ++ X)[b]? = H[b]? := fun b hb => List.getElem?_append_left hb
  have rdX : RD (H ++ X) d v t (Ψ x) R := rd.frame (fun b m => growX b (hlow x t h3 b (inF b m))) (fun b m => growX b (hlow x t h3 b (inR b m)))
  obtain ⟨a, _, _, _, _, _, l0, _⟩ := RD.mod (Fn := []) (Rn := []) ks rdX nd dj (by simp) hc.1 hc.2.1 h4
  obtain ⟨Y, a1⟩ := y c.toCtx ρ σ (H ++ X) Φ ks v (.ref a) (s.st.ext X) h1 ev l0.follow
  obtain ⟨vk, Z, Fk, d1, d2, d3, d4⟩ := zi c.toCtx ρ σ (H ++ X ++ Y) Φ _ ((s.st.ext X).ext Y) h5
  cases d2
  have s2 := ((s.ext X).ext Y).ext Z
  have grow : ∀ b, b < H.length → (H ++ X ++ Y ++ Z)[b]? = H[b]? := fun b hb => by rw [List.append_assoc, List.append_assoc, List.getElem?_append_left hb]
  have rd2 : RD (H ++ X ++ Y ++ Z) d v t (Ψ x) R := rd.frame (fun b m => grow b (hlow x t h3 b (inF b m))) (fun b m => grow b (hlow x t h3 b (inR b m)))
  obtain ⟨Fn, Rn, w1, w2, w3, w4, w5⟩ := val_rd (d := dnn d ks.length) (c := c) (ρ := ρ) (Ψ := Ψ) ((b2.ext Y).ext Z) b3 b4 hm hc.2.2
  have xN : ∀ n ∈ N, n ≠ x := fun n hn q => (hN' n hn).2 d (q ▸ hx.2)
  have psR : ∀ b ∈ Ψ x, b ∉ Rn := fun b m q => by
    rcases w5 b q with h | ⟨n, hn, ⟨tn, en⟩, mn⟩
    · have := hlow x t h3 b (inF b m); omega
    · exact p4 n tn (xN n hn) en b m mn
  have lowF : ∀ b ∈ Ψ x, b < H.length := fun b m => hlow x t h3 b (inF b m)
  obtain ⟨a', vs, ts, ts', Fa, Ra, l, am, ea, hs, hf, gn, na, gs, gr, go⟩ := RD.mod (Fn := Fn) (Rn := Rn) ks rd2 nd dj (fun b m q => by have := w2 b m; have := lowF b q; omega) hc.1 hc.2.1 h4
  have haa : a' = a := by
    have f2 := followU_ext Z (followU_ext Y l0.follow)
    rw [l.follow] at f2
    cases f2
    rfl
  subst haa
  unfold putT at hf
  split at hf
  · rename_i hl
    cases hf
    have hk : k.toNat < ts.length := by omega
    obtain ⟨v0, Gk, Qk, F1, F2, R1, R2, e0, r0, eG', eR', rb⟩ := hs.split (List.getElem?_eq_getElem hk)
    have rs := rb (H ++ X ++ Y ++ Z) vw w Fn Rn w1 (fun _ _ => rfl) (fun _ _ => rfl)
    have sub0 : ∀ a ∈ Fn, a ∈ Gk ∨ a ∈ Fn := fun a m => .inr m
    have subR0 : ∀ a ∈ Rn, a ∈ Qk ∨ a ∈ Rn := fun a m => .inr m
    subst eG'
    subst eR'
    obtain ⟨F2', R2', r', n', sub', subR'⟩ := go _ _ _ rs (nd3 gn w3 sub0 fun a m q => by have := w2 a m; have := lowF a (gs a q); omega) (fun m => by
      rcases in3 (G := Gk) sub0 _ m with m | m
      · exact na m
      · have := w2 _ m; have := lowF _ am; omega) (fun m => by
      rcases in3 (G := Qk) subR0 _ m with m | m
      · exact dj _ am (gr _ m)
      · exact psR _ am m) (in3 sub0) (in3 subR0)
    obtain ⟨G, st, com⟩ := Su.mutS (O' := O') (S' := S') (b := H.length) (N := N) s2 hx.1 uq h3 ev s.st.len hlow am r' n' (fun y m q => by
      rcases sub' y m with m | m
      · rcases subR' y q with q | q
        · exact dj y m q
        · exact psR y m q
      · rcases subR' y q with q | q
        · have := w2 y m; have := hlow x t h3 y (inR y q); omega
        · exact w4 y m q) sub' (fun y m => (subR' y m).imp (inR y) id) w2 (fun y m => w5 y m) hN' hO.1 hO.2
    refine ⟨ρ, (H ++ X ++ Y ++ Z).set a' (vs.set k.toNat vw), updF Φ x G, updF Ψ x F2', by simp, fun y hy hn => ?_, fun _ _ => rfl, .inl ⟨rfl, ?_, st, com⟩⟩
    · have : a' ≠ y := fun q => hn (.inr ⟨x, d, hx.1, ⟨t, h3⟩, q ▸ am⟩)
      rw [List.getElem?_set_ne this, grow y hy]
    · simp only [sPut, b1, Option.bind_some, a1, d1, oPut, ea]
      rw [if_pos ⟨spine_ne0 s hx.1 h3 am, by rw [hs.length]; exact hl⟩]
      rfl
  · cases hf
noncomputable def PutK (J : List Nat) (put : V → Lc → Option Lc) : Prop := ∀ v ρ ρ1, put v ρ = some ρ1 → ∀ i, i ∉ J → ρ1 i = ρ i
theorem PutK.one {j : Nat} : PutK [j] (put1 j) := fun v ρ ρ1 h i hi => by
  cases h
  have : i ≠ j := fun q => hi (by simp [q])
  simp [upd, this]
theorem Su.loop {J : List Nat} {put : V → Lc → Option Lc} {pput : T → TL → Option TL} (hj : PutOk O J put pput) (hk : PutK J put) (hJ : ∀ i ∈ J, i ∉ O ∧ ∀ d, (i, d) ∉ S) {c : Cu} {ρ : Lc} {σ σ1 : TL} {K : Hp} {Φ Ψ : Nat → List Nat} {v : V} {t : T} {F : List Nat} (s : Su c O S ρ σ K Φ Ψ) (r : RF K v t F) (hs : ∀ a ∈ F, c.H0.length ≤ a ∨ c.P a) (ho : ∀ i ∈ O, ∀ t', σ i = some t' → ∀ a ∈ Φ i, a ∉ F) (hp : ∀ a, SH S σ Ψ a → a ∉ F) (h : pput t σ = some σ1) :
    ∃ ρ1 Φ1, put v ρ = some ρ1 ∧ Su c O S ρ1 σ1 K Φ1 Ψ ∧ (∀ i, i ∉ J → σ1 i = σ i ∧ Φ1 i = Φ i) ∧ ∀ i ∈ J, ∀ a ∈ Φ1 i, a ∈ F := by
  obtain ⟨ρ1, Φ1, p1, s1, p3, p4⟩ := hj c.toCtx ρ σ K Φ v t F σ1 s.st r hs ho h
  refine ⟨ρ1, Φ1, p1, ⟨s1, fun i d hi u e => ?_, s.ap, fun i hi u e => ?_⟩, p3, p4⟩
  · have iJ : i ∉ J := fun q => (hJ i q).2 d hi
    obtain ⟨e1, e2⟩ := p3 i iJ
    rw [e1] at e
    obtain ⟨w, h1, h2, h3, h4⟩ := s.sp i d hi u e
    refine ⟨w, by rw [hk v ρ ρ1 p1 i iJ]; exact h1, h2, h3, fun j z hj' ej a m q => ?_⟩
    by_cases jJ : j ∈ J
    · exact hp a ⟨i, d, hi, ⟨u, e⟩, m⟩ (p4 j jJ a q)
    · obtain ⟨f1, f2⟩ := p3 j jJ
      rw [f1] at ej
      rw [f2] at q
      exact h4 j z hj' ej a m q
  · have iJ : i ∉ J := fun q => (hJ i q).1 hi
    obtain ⟨e1, e2⟩ := p3 i iJ
    rw [e1] at e
    rw [e2]
    exact s.nw i hi u e
theorem for_coreU {J : List Nat} {put : V → Lc → Option Lc} {pput : T → TL → Option TL} {b : Sm} {qb : PS} (hj : PutOk O J put pput) (hkp : PutK J put) (hJ : ∀ i ∈ J, i ∉ O ∧ ∀ d, (i, d) ∉ S) (hJR : ∀ q ∈ SR, q.1 ∉ J) (hb : SU O S O S SR fr b qb) {c : Cu} (hc : ∀ i, (∀ q ∈ SR, q.1 ≠ i) → c.Fs i = []) {nx : Nx} {vs : List V} {G : List Nat} {H1 : Hp} (hG : ∀ a ∈ G, a < H1.length) (hsrc : ∀ a ∈ G, c.H0.length ≤ a ∨ c.P a) (hnx : ∀ K : Hp, (∀ a ∈ G, K[a]? = H1[a]?) → ∀ i, i ≤ vs.length → nx i K = some vs[i]?) :
    ∀ (rs : List T) (ws : List V) (i : Nat) (ρ : Lc) (σ : TL) (K : Hp) (Φ Ψ : Nat → List Nat) (Fr : List Nat) (r : Option T × TL), (∀ j, vs[i + j]? = ws[j]?) → i + ws.length = vs.length → Su c O S ρ σ K Φ Ψ → H1.length ≤ K.length → (∀ a ∈ G, K[a]? = H1[a]?) → (∀ a ∈ G, ¬ HU O S σ Φ Ψ a) → RFs K ws rs Fr → (∀ a ∈ Fr, a ∈ G) → forL pput qb σ rs = some r →
      AftU c O S O S SR fr ρ σ K Φ Ψ (sForI nx put b (rs.length + 1) i ρ K) r
  | [], ws, i, ρ, σ, K, Φ, Ψ, Fr, r, hat, hlen, s, hl, hk, hoff, rr, hfr, h => by
    cases rr
    cases h
    have e := hnx K hk i (by simp at hlen; omega)
    have e2 : vs[i]? = none := by have := hat 0; simpa using this
    exact ⟨ρ, K, Φ, Ψ, Nat.le_refl _, fun _ _ _ => rfl, fun _ _ => rfl, .inl ⟨rfl, by simp [sForI, e, e2], s, fun a m => .inr m⟩⟩
  | t :: rs, ws0, i, ρ, σ, K, Φ, Ψ, Fr0, r, hat, hlen, s, hl, hk, hoff, rr, hfr, h => by
    cases rr with
    | @cons v _ F1 ws _ F2 a b' =>
    simp only [List.length_cons] at hlen
    obtain ⟨σ1, h1, h⟩ := Option.bind_eq_some_iff.mp h
    obtain ⟨r1, h2, h⟩ := Option.bind_eq_some_iff.mp h
    have e := hnx K hk i (by omega)
    have e2 : vs[i]? = some v := by have := hat 0; simpa using this
    have hat' : ∀ j, vs[i + 1 + j]? = ws[j]? := fun j => by have := hat (j + 1); rw [show i + 1 + j = i + (j + 1) by omega, this]; simp
    obtain ⟨ρ1, Φ1, p1, s1, p3, p4⟩ := Su.loop hj hkp hJ s a (fun x m => hsrc x (hfr x (List.mem_append_left _ m))) (fun k hk t' e x m q => hoff x (hfr x (List.mem_append_left _ q)) (.inl ⟨k, hk, ⟨t', e⟩, m⟩)) (fun x h q => hoff x (hfr x (List.mem_append_left _ q)) (.inr h)) h1
    have hh : ∀ x, HU O S σ1 Φ1 Ψ x → HU O S σ Φ Ψ x := fun x h => by
      rcases h with ⟨k, hk, ⟨t', e⟩, m⟩ | ⟨k, d, hk, ⟨t', e⟩, m⟩
      · obtain ⟨q1, q2⟩ := p3 k fun q => (hJ k q).1 hk
        exact .inl ⟨k, hk, ⟨t', q1 ▸ e⟩, q2 ▸ m⟩
      · obtain ⟨q1, q2⟩ := p3 k fun q => (hJ k q).2 d hk
        exact .inr ⟨k, d, hk, ⟨t', q1 ▸ e⟩, m⟩
    obtain ⟨ρ2, K2, Φ2, Ψ2, g1, g2, gr, g3⟩ := hb c ρ1 σ1 K Φ1 Ψ r1 hc s1 h2
    have gr' : ∀ q ∈ SR, ρ2 q.1 = ρ q.1 := fun q hq => (gr q hq).trans (hkp v ρ ρ1 p1 q.1 (hJR q hq))
    have estep : sForI nx put b ((t :: rs).length + 1) i ρ K = (b ρ1 K).bind fun q => match q.1 with
        | some _ => some q
        | none => sForI nx put b (rs.length + 1) (i + 1) q.2.1 q.2.2 := by
      rw [List.length_cons]
      show (nx i K).bind _ = _
      rw [e, e2]
      first | (simp only [Option.bind_some, p1]; done) | (simp only [Option.bind_some, p1]; rfl)
    rcases g3 with ⟨k1, k2, k3, k4⟩ | ⟨t', v', F', k1, k2, k3⟩
    · rw [k1] at h
      have hG2 : ∀ a ∈ G, K2[a]? = K[a]? := fun x m => g2 x (by have := hG x m; omega) fun q => hoff x m (hh x q)
      have hoff2 : ∀ a ∈ G, ¬ HU O S r1.2 Φ2 Ψ2 a := fun x m q => by
        rcases k4 x q with q | q
        · have := hG x m; omega
        · exact hoff x m (hh x q)
      have ih := for_coreU hj hkp hJ hJR hb hc hG hsrc hnx rs ws (i + 1) ρ2 r1.2 K2 Φ2 Ψ2 F2 r hat' (by omega) k3 (by omega) (fun x m => (hG2 x m).trans (hk x m)) hoff2 (b'.frame fun x m => hG2 x (hfr x (List.mem_append_right _ m))) (fun x m => hfr x (List.mem_append_right _ m)) h
      rw [estep, k2]
      simp only [Option.bind_some]
      obtain ⟨ρ3, K3, Φ3, Ψ3, l1, l2, lr, l3⟩ := ih
      refine ⟨ρ3, K3, Φ3, Ψ3, by omega, fun x hx hn => ?_, fun q hq => (lr q hq).trans (gr' q hq), ?_⟩
      · rw [l2 x (by omega) fun q => (k4 x q).elim (fun q => by omega) fun q => hn (hh x q), g2 x hx fun q => hn (hh x q)]
      · rcases l3 with ⟨m1, m2, m3, m4⟩ | l
        · refine .inl ⟨m1, m2, m3, fun x q => ?_⟩
          rcases m4 x q with q | q
          · exact .inl (by omega)
          · exact (k4 x q).imp id (hh x)
        · exact .inr l
    · rw [k1] at h
      cases h
      refine ⟨ρ2, K2, Φ2, Ψ2, g1, fun x hx hn => g2 x hx fun q => hn (hh x q), gr', .inr ⟨t', v', F', k1, ?_, k3⟩⟩
      rw [estep, k2]
      rfl
end
end TM
end
section
set_option maxRecDepth 100000
set_option linter.all false
set_option autoImplicit false
namespace TM
open PySem PM
noncomputable def look (σ : TL) : Sps → Option (List T)
  | [] => some []
  | q :: sd => (σ q.1).bind fun t => (look σ sd).map fun us => t :: us
theorem look_ok {σ : TL} : ∀ {sd : Sps} {us : List T}, look σ sd = some us → us.length = sd.length ∧ (∀ (k i d : Nat) (u : T), sd[k]? = some (i, d) → us[k]? = some u → σ i = some u) ∧ ∀ q ∈ sd, ∃ t, σ q.1 = some t
  | [], us, h => by cases h; exact ⟨rfl, by simp, by simp⟩
  | q :: sd, us, h => by
    obtain ⟨t, h1, h⟩ := Option.bind_eq_some_iff.mp h
    obtain ⟨ts, h2, h⟩ := Option.map_eq_some_iff.mp h
    subst h
    obtain ⟨k1, k2, k3⟩ := look_ok h2
    refine ⟨by simp [k1], fun k i d u e1 e2 => ?_, fun r hr => ?_⟩
    · cases k with
      | zero => simp at e1 e2; subst e2; rw [e1] at h1; exact h1
      | succ k => exact k2 k i d u (by simpa using e1) (by simpa using e2)
    · rcases List.mem_cons.mp hr with z | z
      · subst z; exact ⟨t, h1⟩
      · exact k3 r z
noncomputable def runX (n : Nat) (sd : Sps) (q : PS) : List T → Option (T × List T) := fun ts => if ts.length = n then (q fun i => ts[i]?).bind fun r => (look r.2 sd).map fun us => (r.1.getD .none, us) else none
theorem SimX.of {n : Nat} {sd : Sps} {fr : Bool} {g : Sm} {q : PS} {O' : List Nat} {S' : Sps} (h : SU [] sd O' S' sd fr g q) (hn : ∀ q ∈ sd, q.1 < n) (hS' : ∀ q ∈ sd, q ∈ S') : SimX n sd fr (runF n g) (runX n sd q) := fun H vs ts t us Φ Ψ hp hv ht hargs hsp e => by
  unfold runX at e
  rw [if_pos ht] at e
  obtain ⟨r, e1, e⟩ := Option.bind_eq_some_iff.mp e
  obtain ⟨us', e2, e⟩ := Option.map_eq_some_iff.mp e
  cases e
  obtain ⟨lk1, lk2, lk3⟩ := look_ok e2
  have at_ : ∀ i d, (i, d) ∈ sd → ∃ v t, vs[i]? = some v ∧ ts[i]? = some t := fun i d hi => by
    have : i < n := hn _ hi
    exact ⟨vs[i], ts[i], List.getElem?_eq_getElem (by omega), List.getElem?_eq_getElem (by omega)⟩
  let Fs : Nat → List Nat := fun i => if i ∈ sd.map (·.1) then Ψ i else []
  have fsm : ∀ i d, (i, d) ∈ sd → Fs i = Ψ i := fun i d hi => by simp only [Fs]; rw [if_pos (List.mem_map_of_mem hi)]
  let c : Cu := ⟨⟨H, sd.flatMap fun q => Ψ q.1, fun a => ∃ j, j < n ∧ a ∈ Φ j⟩, Fs, fun i a m => by
    simp only [Fs] at m
    split at m
    · rename_i hi
      obtain ⟨q, hq, e⟩ := List.mem_map.mp hi
      exact List.mem_flatMap.mpr ⟨q, hq, e ▸ m⟩
    · cases m⟩
  have hc : ∀ i, (∀ q ∈ sd, q.1 ≠ i) → c.Fs i = [] := fun i hi => by
    show (if i ∈ sd.map (·.1) then Ψ i else []) = []
    rw [if_neg fun m => by obtain ⟨q, hq, e⟩ := List.mem_map.mp m; exact hi q hq e]
  have memF0 : ∀ a, a ∈ c.F0 ↔ ∃ i d, (i, d) ∈ sd ∧ a ∈ Ψ i := fun a => by
    simp only [c, List.mem_flatMap]
    constructor
    · rintro ⟨⟨i, d⟩, h1, h2⟩; exact ⟨i, d, h1, h2⟩
    · rintro ⟨i, d, h1, h2⟩; exact ⟨(i, d), h1, h2⟩
  have st : Su c [] sd (fun i => vs[i]?) (fun i => ts[i]?) H Φ Ψ := by
    refine ⟨⟨fun i t e => ?_, fun i t e a m => .inr ⟨i, ?_, m⟩, (fun i hi => nomatch hi), Nat.le_refl _, fun a _ _ => rfl, hp, fun m => ?_⟩, fun i d hi t e => ?_, (fun i hi => nomatch hi), (fun i hi => nomatch hi)⟩
    · exact hargs i t e
    · have := (List.getElem?_eq_some_iff.mp e).1; omega
    · obtain ⟨i, d, hi, m⟩ := (memF0 0).mp m
      obtain ⟨v, t, h1, h2⟩ := at_ i d hi
      exact (hsp i d hi v t h1 h2).2.1 m
    · obtain ⟨v, t', h1, h2⟩ := at_ i d hi
      obtain ⟨p1, p2, p3⟩ := hsp i d hi v t h1 e
      exact ⟨v, h1, p1, fun a m => .inr (by show a ∈ Fs i; rw [fsm i d hi]; exact m), p3⟩
  obtain ⟨ρ', H', Φ', Ψ', h1, h2, hr, h3⟩ := h c _ _ H Φ Ψ r hc st e1
  have frm : ∀ a, a < H.length → (∀ i d, (i, d) ∈ sd → a ∉ Ψ i) → H'[a]? = H[a]? := fun a ha hn => h2 a ha fun q => by
    rcases q with ⟨j, hj, _⟩ | ⟨i, d, hi, _, m⟩
    · cases hj
    · exact hn i d hi m
  have go : ∀ (O2 : List Nat) (S2 : Sps) (F : List Nat), (∀ q ∈ sd, q ∈ S2) → Su c O2 S2 ρ' r.2 H' Φ' Ψ' → (∀ a, SH sd r.2 Ψ' a → a ∉ F) → (fr = true → ∀ s d, (s, d) ∈ sd → (∃ t, r.2 s = some t) → ∀ a ∈ Φ' s, a ∉ F) →
      ∀ (k i d : Nat) (v : V) (u : T), sd[k]? = some (i, d) → vs[i]? = some v → us[k]? = some u → RF H' v u (Φ' i) ∧ Sp H' d v u (Ψ' i) ∧ (∀ a ∈ Ψ' i, H.length ≤ a ∨ a ∈ Ψ i) ∧ (∀ a ∈ Φ' i, H.length ≤ a ∨ ∃ j, j < n ∧ a ∈ Φ j) ∧ (∀ a ∈ Ψ' i, a ∉ F) ∧ (∀ j d', j ≠ i → (j, d') ∈ sd → ∀ a ∈ Ψ' i, a ∉ Φ' j) ∧ (fr = true → ∀ a ∈ Φ' i, a ∉ F) := by
    intro O2 S2 F hsub s2 shF frF k i d v u ek ev eu
    have hi := List.mem_of_getElem? ek
    have eσ := lk2 k i d u ek eu
    obtain ⟨v', w1, w2⟩ := s2.st.slot i u eσ
    have : ρ' i = some v := (hr _ hi).trans ev
    rw [w1] at this
    cases this
    obtain ⟨v2, q1, q2, q3, q4⟩ := s2.sp i d (hsub _ hi) u eσ
    rw [w1] at q1
    cases q1
    refine ⟨w2, q2, fun a m => ?_, fun a m => s2.st.src i u eσ a m, fun a m => shF a ⟨i, d, hi, ⟨u, eσ⟩, m⟩, fun j d' hj hjs a m => ?_, fun hf a m => frF hf i d hi ⟨u, eσ⟩ a m⟩
    · rcases q3 a m with z | z
      · exact .inl z
      · exact .inr (fsm i d hi ▸ z)
    · obtain ⟨tj, ej⟩ := lk3 _ hjs
      exact q4 j tj hj ej a m
  rcases h3 with ⟨k1, k2, k3, k4⟩ | ⟨t', v', F', k1, k2, k3, k4, k5, k6, k7⟩
  · refine ⟨.none, H', Φ', Ψ', [], by simp only [runF, hv, if_true, k2, Option.map_some, Option.getD_none], h1, frm, lk1, go O' S' [] hS' k3 (by simp) (by simp), by rw [k1]; exact .none, by simp, by simp⟩
  · refine ⟨v', H', Φ', Ψ', F', by simp only [runF, hv, if_true, k2, Option.map_some, Option.getD_some], h1, frm, lk1, go [] sd F' (fun _ h => h) k4 k6 (fun hf => (k7 hf).2.2), by rw [k1]; exact k3, k5, fun hf => ⟨(k7 hf).1, (k7 hf).2.1⟩⟩
theorem SimX.sim {n : Nat} {fr : Bool} {f : List V → Hp → Option (V × Hp)} {p : List T → Option (T × List T)} (h : SimX n [] fr f p) : SimF fr f (fun ts => if ts.length = n then (p ts).map (·.1) else none) := fun H vs ts t F1 hp r e => by
  simp only at e
  split at e
  case isFalse => cases e
  rename_i hl
  obtain ⟨⟨t1, us⟩, e1, e2⟩ := Option.map_eq_some_iff.mp e
  cases e2
  obtain ⟨Φ, hΦ⟩ := r.slots
  obtain ⟨v, H', Φ', Ψ', F, b1, b2, b3, b4, b5, b6, b7, b8⟩ := h H vs ts t1 us (fun i => if i < n then Φ i else []) (fun _ => []) hp (by rw [r.length, hl]) hl (fun i t e => by
    obtain ⟨v, h1, h2, _⟩ := hΦ i t e
    have := (List.getElem?_eq_some_iff.mp e).1
    exact ⟨v, h1, by simpa [show i < n by omega] using h2⟩) (fun i d hi => nomatch hi) e1
  have eh := same_below b2 fun a ha => b3 a ha fun i d hi => nomatch hi
  refine ⟨v, H'.drop H.length, F, by rw [← eh]; exact b1, by rw [← eh]; exact b6, fun a m => ?_, b8⟩
  rcases b7 a m with q | ⟨j, hj, q⟩
  · exact .inl q
  · simp only [hj, if_true] at q
    have : j < ts.length := by omega
    obtain ⟨_, _, _, h3⟩ := hΦ j ts[j] (List.getElem?_eq_getElem this)
    exact .inr (h3 a q)
theorem law_treesX {f : List V → Hp → Option (V × Hp)} {p : List T → Option (T × List T)} {fr : Bool} (h : SimX 1 [] fr f p) (ns : List Int) (e : ∃ us, p [.lst (ns.map T.int)] = some (.bool true, us)) : ∃ H', f [.ref 0] [ns.map V.int] = some (.bool true, H') :=
  law_trees h.sim ns (by obtain ⟨us, e⟩ := e; simp [e])
section
variable {O Ns : List Nat} {S : Sps}
end
end TM
end
section
set_option maxRecDepth 100000
set_option linter.all false
set_option autoImplicit false
namespace TM
open PySem PM
noncomputable def qForX (k : Nat) (p : PX) (g : PG) (put : T → TL → Option TL) (b : PS) : PS := fun σ => (p (delT σ k)).bind fun r => (g (updT r.2 k r.1)).bind fun ts => forL put b r.2 ts
noncomputable def Cg (k : Nat) (g : Ex → Src) : Prop := ∀ e ρ H, g e ρ H = (e ρ H).bind fun r => g (eVar k) (upd ρ k r.1) r.2
theorem Cg.range {k : Nat} {C : Ex → Exs} (h : Cts k C) : Cg k fun e => gRange (C e) := fun e ρ H => by
  simp only [gRange]
  rw [h e ρ H]
  cases e ρ H with
  | none => rfl
  | some p => rfl
section
variable {O : List Nat} {S SR : Sps} {fr : Bool}
theorem SU.forX {k : Nat} {J : List Nat} {g : Ex → Src} {e : Ex} {p : PX} {q : PG} {put : V → Lc → Option Lc} {pput : T → TL → Option TL} {b : Sm} {qb : PS} (hC : Cg k g) (x : EX O S [] true e p) (hg : Gs (k :: O) [] (g (eVar k)) q) (hk : ∀ q ∈ S, q.1 ≠ k) (hj : PutOk O J put pput) (hkp : PutK J put) (hJ : ∀ i ∈ J, i ∉ O ∧ (∀ q ∈ S, q.1 ≠ i) ∧ ∀ q ∈ SR, q.1 ≠ i) (hb : SU O S O S SR fr b qb) : SU O S O S SR fr (sFor (g e) put b) (qForX k p q pput qb) := fun c ρ σ H Φ Ψ r hc s h => by
  have hS : ∀ d, (k, d) ∉ S := fun d m => hk _ m rfl
  obtain ⟨⟨t1, σ1⟩, h1, h⟩ := Option.bind_eq_some_iff.mp h
  obtain ⟨ts, h2, h⟩ := Option.bind_eq_some_iff.mp h
  have sd := s.del k
  obtain ⟨v1, H1, Φ1, Ψ1, F1, a1, a2, a3, a4, a5, a6, a11, a7, a8, a9, a10⟩ := x c ρ (delT σ k) H Φ Ψ t1 σ1 sd h1
  have new1 : ∀ a ∈ F1, H.length ≤ a := fun a m => (a8 a m).nil
  have s1 : Su c (k :: O) S (upd ρ k v1) (updT σ1 k t1) H1 (updF Φ1 k F1) Ψ1 := a4.putO (fun j hj => by rcases List.mem_cons.mp hj with h | h; exact .inr h; exact .inl h) hS a7 (a10 rfl).1 (fun a m => Nat.le_trans s.st.len (new1 a m)) (fun j w _ ej => off_all sd a5 new1 ((a10 rfl).2 (by simp)) j w ej)
  obtain ⟨nx, X, vs, F, G, g1, g2, g3, g4, g5⟩ := hg c.toCtx (upd ρ k v1) (updT σ1 k t1) H1 (updF Φ1 k F1) ts s1.st h2
  have gnew : ∀ a ∈ G, H1.length ≤ a := fun a m => (g4 a m).2.nil
  have := for_coreU hj hkp (fun i hi => ⟨(hJ i hi).1, fun d m => (hJ i hi).2.1 _ m rfl⟩) (fun q hq m => (hJ q.1 m).2.2 q hq rfl) hb hc (H1 := H1 ++ X) (fun a m => (g4 a m).1) (fun a m => .inl (by have := gnew a m; have := s.st.len; omega)) g5 ts vs 0 ρ σ1 (H1 ++ X) Φ1 Ψ1 F r (by simp) (by simp) (a4.ext X) (Nat.le_refl _) (fun _ _ => rfl) (fun a m q => by have := HU.lt a4 q; have := gnew a m; omega) g2 g3 h
  have eg : sFor (g e) put b ρ H = sForI nx put b (ts.length + 1) 0 ρ (H1 ++ X) := by
    simp only [sFor]
    rw [hC e ρ H, a1]
    simp only [Option.bind_some, g1]
  rw [eg]
  have := this.step a4 (by simp) (fun a ha _ => List.getElem?_append_left ha) (fun j t _ e => ⟨e, rfl⟩) (fun a h => .inr h)
  refine this.step s a2 (fun a ha hn => a3 a ha fun q => hn ((SH.del hS).mp q)) (fun j t hj e => ?_) (fun a h => (a6 a h).imp id (SH.del hS).mp)
  obtain ⟨e1, e2⟩ := a5 j t hj e
  exact ⟨(delT_some e1).2, e2⟩
end
noncomputable def Px (c : Option (T × TL)) (Q : T → TL → Prop) : Prop := ∃ t σ, c = some (t, σ) ∧ Q t σ
noncomputable def Pbx (c : Option (Bool × TL)) (Q : Bool → TL → Prop) : Prop := ∃ t σ, c = some (t, σ) ∧ Q t σ
noncomputable def Pr (c : Option (T × List T)) (Q : T → List T → Prop) : Prop := ∃ t us, c = some (t, us) ∧ Q t us
noncomputable def Psx (c : Option (Option T × TL)) (R : T → TL → Prop) (N : TL → Prop) : Prop := ∃ o σ, c = some (o, σ) ∧ (∀ t, o = some t → R t σ) ∧ (o = none → N σ)
section
variable {σ : TL} {Q : T → TL → Prop} {B : Bool → TL → Prop} {R : T → TL → Prop} {N : TL → Prop}
theorem tx_p {p : PE} (h : Pk (p σ) fun t => Q t σ) : Px (xP p σ) Q := by
  obtain ⟨t, e, q⟩ := h; exact ⟨t, σ, by simp [xP, e], q⟩
theorem tx_b {p : PB} (h : Pb (p σ) fun t => B t σ) : Pbx (xB p σ) B := by
  obtain ⟨t, e, q⟩ := h; exact ⟨t, σ, by simp [xB, e], q⟩
theorem tx_lift {k : Nat} {p1 p2 : PX} (h : Px (p1 (delT σ k)) fun t σ1 => Px (p2 (updT σ1 k t)) fun u σ2 => Q u (delT σ2 k)) : Px (xLift k p1 p2 σ) Q := by
  obtain ⟨t, σ1, e, u, σ2, e2, q⟩ := h
  exact ⟨u, delT σ2 k, by simp [xLift, e, e2], q⟩
theorem tx_callF {xs : List Nat} {p : List T → Option (T × List T)} {ps : PEs} (h : Pl (ps σ) fun ts => Pr (p ts) fun t us => Q t (pick xs (us.map some) σ)) : Px (xCall false xs p ps σ) Q := by
  obtain ⟨ts, e, t, us, e2, q⟩ := h
  exact ⟨t, _, by simp [xCall, e, e2], q⟩
theorem tx_next (h : N σ) : Psx (qNext σ) R N := ⟨none, σ, rfl, by simp, fun _ => h⟩
theorem tx_seq {a b : PS} (h : Psx (a σ) R fun σ1 => Psx (b σ1) R N) : Psx (qSeq a b σ) R N := by
  obtain ⟨o, σ1, e, h1, h2⟩ := h
  cases o with
  | none =>
    obtain ⟨o2, σ2, e2, k1, k2⟩ := h2 rfl
    exact ⟨o2, σ2, by simp [qSeq, e, e2], k1, k2⟩
  | some t => exact ⟨some t, σ1, by simp [qSeq, e], h1, by simp⟩
theorem tx_ret {p : PX} (h : Px (p σ) R) : Psx (qRetX p σ) R N := by
  obtain ⟨t, σ1, e, q⟩ := h
  exact ⟨some t, σ1, by simp [qRetX, e], fun _ h => by cases h; exact q, by simp⟩
theorem tx_set {i : Nat} {p : PX} (h : Px (p σ) fun t σ1 => N (updT σ1 i t)) : Psx (qSetX i p σ) R N := by
  obtain ⟨t, σ1, e, q⟩ := h
  exact ⟨none, _, by simp [qSetX, e], by simp, fun _ => q⟩
theorem tx_setL {i : Nat} {p : PE} (h : Pk (p σ) fun t => N (updT σ i t)) : Psx (qSet i p σ) R N := by
  obtain ⟨t, e, q⟩ := h
  exact ⟨none, _, by simp [qSet, e], by simp, fun _ => q⟩
theorem tx_if {b : PBX} {p q : PS} (h : Pbx (b σ) fun x σ1 => (x = true → Psx (p σ1) R N) ∧ (x = false → Psx (q σ1) R N)) : Psx (qIfX b p q σ) R N := by
  obtain ⟨x, σ1, e, h1, h2⟩ := h
  cases x with
  | true => obtain ⟨o, σ2, e2, k⟩ := h1 rfl; exact ⟨o, σ2, by simp [qIfX, e, e2], k⟩
  | false => obtain ⟨o, σ2, e2, k⟩ := h2 rfl; exact ⟨o, σ2, by simp [qIfX, e, e2], k⟩
theorem tx_liftS {k : Nat} {p : PX} {q : PS} (h : Px (p (delT σ k)) fun t σ1 => Psx (q (updT σ1 k t)) (fun t σ2 => R t (delT σ2 k)) fun σ2 => N (delT σ2 k)) : Psx (qLift k p q σ) R N := by
  obtain ⟨t, σ1, e, o, σ2, e2, k1, k2⟩ := h
  exact ⟨o, delT σ2 k, by simp [qLift, e, e2], k1, k2⟩
theorem tx_app {x : Nat} {M : List Nat} {f : PE} (h : Pk (f σ) fun w => ∃ ts, σ x = some (.lst ts) ∧ ts.length < 10000 ∧ N (delTs (updT σ x (.lst (ts ++ [w]))) M)) : Psx (qApp x M paNil f σ) R N := by
  obtain ⟨w, e, ts, e2, hl, q⟩ := h
  refine ⟨none, _, ?_, by simp, fun _ => q⟩
  simp only [qApp, paNil, e, e2, Option.bind_some, tmod, appT]
  rw [if_pos (by rw [LEN_eq]; omega)]
  rfl
theorem tx_putS {x d : Nat} {own : Bool} {f i : PE} (hd : 0 < d ∧ d ≤ 999 ∧ (own = true ∨ dnn d 0 = 0)) (h : Pk (f σ) fun w => Pk (i σ) fun k => ∃ ts m, k = .int m ∧ σ x = some (.lst ts) ∧ 0 ≤ m ∧ m < ts.length ∧ N (updT σ x (.lst (ts.set m.toNat w)))) : Psx (qPutS x d own f paNil i σ) R N := by
  obtain ⟨w, e, k, e3, ts, m, ek, e2, h0, h1, q⟩ := h
  subst ek
  refine ⟨none, _, ?_, by simp, fun _ => q⟩
  simp only [qPutS, paNil, e, e2, e3, Option.bind_some, tmodL, putT, List.length_nil]
  rw [if_pos hd, if_pos ⟨h0, h1⟩]
  rfl
theorem tx_forL {j : Nat} {b : PS} (P : Nat → TL → Prop) : ∀ (ts : List T) (k : Nat) {σ : TL}, P k σ → (∀ i t τ, ts[i]? = some t → P (k + i) τ → Psx (b (updT τ j t)) R (P (k + i + 1))) → (∀ τ, P (k + ts.length) τ → N τ) → Psx (forL (pput1 j) b σ ts) R N
  | [], k, σ, h0, _, h2 => ⟨none, σ, rfl, by simp, fun _ => h2 σ (by simpa using h0)⟩
  | t :: ts, k, σ, h0, h1, h2 => by
    obtain ⟨o, σ1, e, k1, k2⟩ := h1 0 t σ (by simp) (by simpa using h0)
    cases o with
    | some u => exact ⟨some u, σ1, by simp [forL, pput1, e], k1, by simp⟩
    | none =>
      obtain ⟨o2, σ2, e2, l⟩ := tx_forL P ts (k + 1) (k2 rfl) (fun i u τ eu p => by
        have := h1 (i + 1) u τ (by simpa using eu) (by rw [show k + (i + 1) = k + 1 + i by omega]; exact p)
        rw [show k + (i + 1) + 1 = k + 1 + i + 1 by omega] at this
        exact this) (fun τ p => h2 τ (by rw [List.length_cons, show k + (ts.length + 1) = k + 1 + ts.length by omega]; exact p))
      exact ⟨o2, σ2, by simp [forL, pput1, e, e2], l⟩
theorem tx_forX {k : Nat} {p : PX} {g : PG} {j : Nat} {b : PS} (h : Px (p (delT σ k)) fun t σ1 => Pl (g (updT σ1 k t)) fun ts => Psx (forL (pput1 j) b σ1 ts) R N) : Psx (qForX k p g (pput1 j) b σ) R N := by
  obtain ⟨t, σ1, e, ts, e2, o, σ2, e3, l⟩ := h
  exact ⟨o, σ2, by simp only [qForX, e, Option.bind_some, e2, e3], l⟩
theorem tx_forLT {j n : Nat} {a : Nat → T} {b : PS} (P : Nat → TL → Prop) (h0 : P 0 σ) (h1 : ∀ i τ, i < n → P i τ → Psx (b (updT τ j (a i))) R (P (i + 1))) (h2 : ∀ τ, P n τ → N τ) : Psx (forL (pput1 j) b σ (tab n a)) R N :=
  tx_forL P (tab n a) 0 h0 (fun i t τ e p => by
    have hi : i < n := by have := (List.getElem?_eq_some_iff.mp e).1; rwa [tab_len] at this
    rw [tab_at hi] at e
    cases e
    simpa using h1 i τ hi (by simpa using p)) (fun τ p => h2 τ (by simpa [tab_len] using p))
theorem tx_run {n : Nat} {sd : Sps} {q : PS} {ts : List T} {Q : T → List T → Prop} (hn : ts.length = n) (h : Psx (q fun i => ts[i]?) (fun t σ => Pl (look σ sd) fun us => Q t us) fun σ => Pl (look σ sd) fun us => Q .none us) : Pr (runX n sd q ts) Q := by
  obtain ⟨o, σ, e, h1, h2⟩ := h
  cases o with
  | none => obtain ⟨us, e2, q⟩ := h2 rfl; exact ⟨.none, us, by simp [runX, hn, e, e2], q⟩
  | some t => obtain ⟨us, e2, q⟩ := h1 t rfl; exact ⟨t, us, by simp [runX, hn, e, e2], q⟩
theorem tx_look0 {L : List T → Prop} (h : L []) : Pl (look σ []) L := ⟨[], rfl, h⟩
theorem tx_look {L : List T → Prop} {i d : Nat} {sd : Sps} {t : T} (e : σ i = some t) (h : Pl (look σ sd) fun us => L (t :: us)) : Pl (look σ ((i, d) :: sd)) L := by
  obtain ⟨us, e2, q⟩ := h
  exact ⟨t :: us, by simp [look, e, e2], q⟩
theorem delT_no {j k : Nat} {o : Option T} (h : j ≠ k) (e : σ j = o) : delT σ k j = o := by simp [delT, h, e]
theorem pick_here {x : Nat} {xs : List Nat} {u : T} {us : List T} : pick (x :: xs) (List.map some (u :: us)) σ x = some u := by simp [pick]
theorem pick_there {j x : Nat} {xs : List Nat} {u : T} {us : List T} {o : Option T} (h : j ≠ x) (e : pick xs (List.map some us) σ j = o) : pick (x :: xs) (List.map some (u :: us)) σ j = o := by simp [pick, h, e]
theorem pick_end {j : Nat} {us : List T} {o : Option T} (e : σ j = o) : pick [] (List.map some us) σ j = o := by simp [pick, e]
end
end TM
end
section
set_option maxRecDepth 100000
set_option linter.all false
set_option autoImplicit false
namespace PM
open PySem PySem.W PySem.Calls PyProof.Rows PyProof
noncomputable def sortI (ns : List Int) : List Int := ns.mergeSort fun a b => decide (a ≤ b)
theorem sortI_is {ns ms : List Int} (h1 : ms.Perm ns) (h2 : ms.Pairwise (· ≤ ·)) : ms = sortI ns := by
  refine List.Perm.eq_of_pairwise (le := fun a b : Int => a ≤ b) (fun a b _ _ h h' => Int.le_antisymm h h') h2 ?_ (h1.trans (List.mergeSort_perm ns _).symm)
  have := List.pairwise_mergeSort (le := fun a b : Int => decide (a ≤ b)) (fun a b c h h' => by simp at *; omega) (fun a b => by simp; omega) ns
  unfold sortI
  simpa using this
theorem sortI_len {ns : List Int} : (sortI ns).length = ns.length := (List.mergeSort_perm ns _).length_eq
theorem ints_of {W : Wd} : ∀ {vs : List V} {xs : List Value} {ks : List Int}, VRs W vs xs → toInts vs = some ks → IntsAre xs ks := by
  intro vs
  induction vs with
  | nil => intro xs ks h e; cases h; cases e; exact .nil
  | cons v vs ih =>
    intro xs ks h e
    cases h with
    | cons a b =>
      cases v with
      | int i =>
        obtain ⟨js, e1, e2⟩ := Option.map_eq_some_iff.mp e
        subst e2
        cases a with
        | int _ t => exact .cons i t (ih b e1)
      | none => cases e
      | bool => cases e
      | str => cases e
      | tup => cases e
      | ref => cases e
      | obj => cases e
theorem of_ints {W : Wd} : ∀ {xs : List Value} {ks : List Int}, IntsAre xs ks → VRs W (ks.map V.int) xs
  | _, _, .nil => .nil
  | _, _, .cons n t r => .cons (.int n t) (of_ints r)
noncomputable def oSorted : List V → Hp → Option (V × Hp)
  | [.ref a], H => H[a]?.bind fun vs => (toInts vs).bind fun ns => if vs.length < 64 then some (.ref H.length, H ++ [(sortI ns).map V.int]) else none
  | _, _ => none
section
variable {prog : Program} {w : World}
theorem ok_sorted : OpN prog w (fun xs => call (.builtin "sorted") xs) oSorted := by
  intro Γ W ρ H fr s Q E as xs v H' r hx ho post
  unfold oSorted at ho
  split at ho
  · obtain ⟨vs, e1, ho⟩ := Option.bind_eq_some_iff.mp ho
    obtain ⟨ks, e3, ho⟩ := Option.bind_eq_some_iff.mp ho
    split at ho
    · rename_i h64
      cases ho
      obtain ⟨x, ex, rx⟩ := hx.one
      subst ex
      cases rx with
      | @ref _ a ea =>
        obtain ⟨hl, ys, k, hg, hv⟩ := r.at e1 ea
        have isl : s.heap.IsList a ys.toArray := ⟨_, hg, rfl, k, rfl⟩
        refine sorted_ints isl (ints_of hv e3) (by rw [hv.length]; exact h64) fun out ms a1 a2 a3 => ?_
        have em := sortI_is a2 a3
        subst em
        obtain ⟨q, hq⟩ := sortedAll_at s.heap ys out
        have hlen : ks.length = vs.length := by rw [← hv.length]; exact (ints_of hv e3).length.symm
        obtain ⟨r2, ap⟩ := r.more (h' := sortedAll s.heap ys out) (fs := [(s.heap.objs.size + 1, lstB out.toList q)]) (fun b o hb => sortedAll_old hb) (fun u hu => by
          rw [List.mem_singleton.mp hu]
          refine ⟨?_, Nat.le_succ _⟩
          rw [hq])
        obtain ⟨W2, l2, r3, v3⟩ := Rep.adopt r2 (fun t ht => ap _ List.mem_cons_self t ht) (of_ints a1) (by rw [List.length_map, sortI_len, hlen]; exact hl)
        exact post W2 _ s.toks _ l2 r3 v3
    · cases ho
  · cases ho
end
end PM
namespace PM
open PySem PySem.W PySem.Calls PyProof.Rows PyProof PySem.SeqAt
open SeqRoads2 MeetsSeq3 MeetsSeq2 MeetsSeq AutoSeq1
section
variable {prog : Program} {w : World} {A : Around} {E : Value → Shared → Prop} {s : Shared}
end
section
variable {prog : Program} {w : World} {Γ : Cx}
end
end PM
end
section
set_option maxRecDepth 100000
set_option linter.all false
set_option autoImplicit false
namespace TM
open PySem PM
theorem ints_rfs {H : Hp} : ∀ ks : List Int, RFs H (ks.map V.int) (ks.map T.int) []
  | [] => .nil
  | k :: ks => .cons (.int k) (ints_rfs ks)
section
variable {O N M K : List Nat} {u u' u'' : Bool}
end
section
variable {σ : TL} {Q : T → Prop}
end
end TM
end
section
set_option maxRecDepth 100000
set_option linter.all false
set_option autoImplicit false
namespace PM
open PySem PySem.W PySem.Calls PyProof.Rows PyProof
noncomputable def kgo {α : Type} (lt : Nat → Nat → Bool) : KasT α → α
  | .ret a => a
  | .ask i j k => kgo lt (k (lt i j))
noncomputable def KIn {α : Type} (n : Nat) (P : α → Prop) : KasT α → Prop
  | .ret a => P a
  | .ask i j k => i < n ∧ j < n ∧ ∀ b, KIn n P (k b)
theorem KIn.wp {α : Type} {cmp : Nat → Nat → (Bool → Shared → Prop) → Shared → Prop} {lt : Nat → Nat → Bool} {s : Shared} {n : Nat} {P : α → Prop} (h : ∀ i j C, i < n → j < n → C (lt i j) s → cmp i j C s) {Q : α → Shared → Prop} : ∀ {t : KasT α}, KIn n P t → Q (kgo lt t) s → t.kasWp cmp Q s
  | .ret a, _, q => q
  | .ask i j k, z, q => h i j _ z.1 z.2.1 (KIn.wp h (z.2.2 (lt i j)) q)
theorem KIn.go {α : Type} {lt : Nat → Nat → Bool} {n : Nat} {P : α → Prop} : ∀ {t : KasT α}, KIn n P t → P (kgo lt t)
  | .ret a, z => z
  | .ask i j k, z => (z.2.2 (lt i j)).go
theorem KIn.bind {α β : Type} {n : Nat} {P : α → Prop} {P' : β → Prop} {f : α → KasT β} (h : ∀ a, P a → KIn n P' (f a)) : ∀ {t : KasT α}, KIn n P t → KIn n P' (t.bind f)
  | .ret a, z => h a z
  | .ask i j k, z => ⟨z.1, z.2.1, fun b => KIn.bind h (z.2.2 b)⟩
noncomputable def IxP (n : Nat) (p : Array Nat) : Prop := p.Perm (List.toArray (List.range n))
theorem IxP.lt {n : Nat} {p : Array Nat} (h : IxP n p) (h0 : 0 < n) (i : Nat) : p.getD i 0 < n := by
  by_cases hi : i < p.size
  · have : p.getD i 0 = p[i] := by simp [Array.getD, hi]
    rw [this]
    have m : p[i] ∈ p.toList := by simp
    have := (Array.perm_iff_toList_perm.mp h).mem_iff.mp m
    simpa using this
  · have : p.getD i 0 = 0 := by simp [Array.getD, hi]
    omega
theorem IxP.rev {n : Nat} {p : Array Nat} (h : IxP n p) (i j : Nat) : IxP n (kas_rev p i j) := (mirror_perm _ _ _ _).trans h
section
variable {n : Nat}
theorem asc_in {p : Array Nat} (h : IxP n p) (h0 : 0 < n) : ∀ (f k : Nat), KIn n (fun _ => True) (kas_asc p f k)
  | 0, k => trivial
  | f + 1, k => ⟨h.lt h0 _, h.lt h0 _, fun b => by
    dsimp only
    split
    · trivial
    · exact asc_in h h0 f _⟩
theorem desc_in (h0 : 0 < n) : ∀ (f : Nat) (p : Array Nat) (k q : Nat), IxP n p → KIn n (fun r => IxP n r.1) (kas_desc f p k q)
  | 0, p, k, q, h => h
  | f + 1, p, k, q, h => ⟨h.lt h0 _, h.lt h0 _, fun b => by
    cases b
    · dsimp only
      rw [if_neg (by decide)]
      exact ⟨h.lt h0 _, h.lt h0 _, fun b => by
        dsimp only
        split
        · exact h
        · exact desc_in h0 f _ _ _ h⟩
    · dsimp only
      rw [if_pos rfl]
      split
      · exact desc_in h0 f _ _ _ (h.rev _ _)
      · exact desc_in h0 f _ _ _ h⟩
theorem tail3_in (h0 : 0 < n) {k r : Nat} {p : Array Nat} (h : IxP n p) : KIn n (fun r => IxP n r.2) (kas_tail3 k r p) :=
  KIn.bind (n := n) (P := fun _ => True) (P' := fun r : Nat × Array Nat => IxP n r.2) (f := fun m => KasT.ret (m, kas_rev p 0 k)) (fun _ _ => show IxP n (kas_rev p 0 k) from h.rev 0 k) (asc_in (h.rev _ _) h0 _ _)
theorem descPart_in (h0 : 0 < n) {k r : Nat} {p : Array Nat} (h : IxP n p) : KIn n (fun r => IxP n r.2) (kas_descPart k r p) :=
  KIn.bind (fun q hq => by
    split
    · exact tail3_in h0 (hq.rev _ _)
    · exact tail3_in h0 hq) (desc_in h0 _ _ _ _ h)
theorem count_in (h0 : 0 < n) {k : Nat} {p : Array Nat} (h : IxP n p) : KIn n (fun r => IxP n r.2) (kas_count k p) :=
  KIn.bind (fun q _ => by
    split
    · exact h
    · split
      · exact ⟨h.lt h0 _, h.lt h0 _, fun b => by
          dsimp only
          split
          · exact h
          · exact descPart_in h0 (h.rev _ _)⟩
      · exact descPart_in h0 h) (asc_in h h0 _ _)
theorem place_in (h0 : 0 < n) {p : Array Nat} (h : IxP n p) (k : Nat) : ∀ (f l r : Nat), KIn n (fun _ => True) (kas_place p k f l r)
  | 0, l, r => trivial
  | f + 1, l, r => by
    unfold kas_place
    split
    · trivial
    · exact ⟨h.lt h0 _, h.lt h0 _, fun b => by
        dsimp only
        split
        · exact place_in h0 h k f _ _
        · exact place_in h0 h k f _ _⟩
theorem bin_in (h0 : 0 < n) : ∀ (f : Nat) (p : Array Nat) (k : Nat), IxP n p → KIn n (fun r => IxP n r) (kas_bin f p k)
  | 0, p, k, h => h
  | f + 1, p, k, h => KIn.bind (fun l _ => bin_in h0 f _ _ ((bubble_perm _ _ _).trans h)) (place_in h0 h _ _ _ _)
theorem sort_in (h0 : 0 < n) : KIn n (fun r => IxP n r) (kas_sort n) :=
  KIn.bind (fun r hr => by
    split
    · exact bin_in h0 _ _ _ hr
    · exact hr) (count_in h0 (Array.Perm.refl _))
end
theorem sort_perm {lt : Nat → Nat → Bool} {n : Nat} (h0 : 0 < n) : (kgo lt (kas_sort n)).toList.Perm (List.range n) := Array.perm_iff_toList_perm.mp (sort_in h0).go
noncomputable def toPairs : List V → Option (List (Int × Int))
  | [] => some []
  | .tup [.int a, .int b] :: r => (toPairs r).map ((a, b) :: ·)
  | _ => none
noncomputable def ltP (ps : List (Int × Int)) (i j : Nat) : Bool := if (ps.getD i (0, 0)).1 = (ps.getD j (0, 0)).1 then decide ((ps.getD i (0, 0)).2 < (ps.getD j (0, 0)).2) else decide ((ps.getD i (0, 0)).1 < (ps.getD j (0, 0)).1)
noncomputable def sortIx (ps : List (Int × Int)) : List Nat := if ps.length < 2 then List.range ps.length else (kgo (ltP ps) (kas_sort ps.length)).toList
theorem sortIx_perm {ps : List (Int × Int)} : (sortIx ps).Perm (List.range ps.length) := by
  unfold sortIx
  split
  · exact List.Perm.refl _
  · exact sort_perm (by omega)
theorem sortIx_len {ps : List (Int × Int)} : (sortIx ps).length = ps.length := by rw [sortIx_perm.length_eq, List.length_range]
theorem sortIx_lt {ps : List (Int × Int)} {i : Nat} (h : i ∈ sortIx ps) : i < ps.length := List.mem_range.mp (sortIx_perm.mem_iff.mp h)
noncomputable def oSortedP : List V → Hp → Option (V × Hp)
  | [.ref a], H => H[a]?.bind fun vs => (toPairs vs).bind fun ps => if vs.length < 64 then some (.ref H.length, H ++ [(sortIx ps).map fun i => vs.getD i .none]) else none
  | _, _ => none
theorem toPairs_len : ∀ {vs : List V} {ps : List (Int × Int)}, toPairs vs = some ps → ps.length = vs.length
  | [], ps, h => by cases h; rfl
  | v :: vs, ps, h => by
    unfold toPairs at h
    split at h
    · rename_i e; cases e
    · rename_i a b r e
      cases e
      obtain ⟨qs, h1, h2⟩ := Option.map_eq_some_iff.mp h
      subst h2
      simp [toPairs_len h1]
    · cases h
theorem toPairs_at : ∀ {vs : List V} {ps : List (Int × Int)} {i : Nat}, toPairs vs = some ps → i < vs.length → vs[i]? = some (.tup [.int (ps.getD i (0, 0)).1, .int (ps.getD i (0, 0)).2])
  | [], ps, i, h, hi => absurd hi (by simp)
  | v :: vs, ps, i, h, hi => by
    unfold toPairs at h
    split at h
    · rename_i e; cases e
    · rename_i a b r e
      cases e
      obtain ⟨qs, h1, h2⟩ := Option.map_eq_some_iff.mp h
      subst h2
      cases i with
      | zero => rfl
      | succ i =>
        have := toPairs_at (i := i) h1 (by simpa using hi)
        simpa using this
    · cases h
theorem VRs.getD {W : Wd} {vs : List V} {xs : List Value} (h : VRs W vs xs) (i : Nat) : VR W (vs.getD i .none) (xs.getD i .none) := by
  by_cases hi : i < vs.length
  · obtain ⟨x, e, r⟩ := h.at (List.getElem?_eq_getElem hi)
    rw [List.getD_eq_getElem?_getD, List.getD_eq_getElem?_getD, List.getElem?_eq_getElem hi, e]
    exact r
  · have l := h.length
    rw [List.getD_eq_getElem?_getD, List.getD_eq_getElem?_getD, List.getElem?_eq_none (by omega), List.getElem?_eq_none (by omega)]
    exact .none
theorem VRs.picks {W : Wd} {vs : List V} {xs : List Value} (h : VRs W vs xs) : ∀ (is : List Nat), VRs W (is.map fun i => vs.getD i .none) (is.map fun i => xs.getD i .none)
  | [] => .nil
  | i :: is => .cons (h.getD i) (h.picks is)
theorem two_of {W : Wd} {a b : Int} {x : Value} (h : VR W (.tup [.int a, .int b]) x) : ∃ p t u k, x = .ref p ∧ (p, tupB [.int a t, .int b u] k) ∈ W.tups := by
  cases h with
  | tup hm hl hs =>
    cases hs with
    | cons h1 h2 =>
      cases h2 with
      | cons h3 h4 =>
        cases h4
        cases h1
        cases h3
        exact ⟨_, _, _, _, rfl, hm⟩
section
variable {prog : Program} {w : World} {A : Around} {E : Value → Shared → Prop} {s : Shared}
theorem pair_lt {x y : Addr} {a b c d : Int} {t1 t2 t3 t4 : Tok} {n k : Nat} {Q : Bool → Shared → Prop} (hx : s.heap.get? x = some (tupB [.int a t1, .int b t2] n)) (hy : s.heap.get? y = some (tupB [.int c t3, .int d t4] k))
    (h : Q (if a = c then decide (b < d) else decide (a < c)) s) : wpAny (model prog w) A (keyLt' (tuples' true) (.ref x) (.ref y)) Q E s := by
  refine kat_lt hx rfl hy rfl ?_
  refine kat_cons (wpAny_eqBool_int ?_)
  by_cases e : a = c
  · subst e
    rw [if_pos rfl] at h
    rw [show (a == a) = true by simp]
    refine kat_yes (kat_cons (wpAny_eqBool_int ?_))
    by_cases e2 : b = d
    · subst e2
      rw [show (b == b) = true by simp]
      refine kat_yes (kat_nil ?_)
      have : decide ((#[Value.int a t1, Value.int b t2] : Array Value).size < (#[Value.int a t3, Value.int b t4] : Array Value).size) = decide (b < b) := by simp
      rw [this]
      exact h
    · rw [show (b == d) = false by simp [e2]]
      refine kat_no ?_
      exact kat_one _ _ (PyProof.Rows.lt_int h)
  · rw [if_neg e] at h
    rw [show (a == c) = false by simp [e]]
    refine kat_no ?_
    exact oneLt_int h
theorem few_sort {a : Addr} {us : List Value} {k : Nat} {P : PySem.Fin → Shared → Prop} (at_a : s.heap.get? a = some (lstB us k)) (few : us.length < 2)
    (post : ∀ h', (∀ b o, b ≠ a → s.heap.get? b = some o → h'.get? b = some o) → (∃ j, h'.get? a = some (lstB us j)) → P (.done (.ret .none)) { s with heap := h' }) : wpAny (model prog w) A (Builtin.«list.sort» ⟨[.ref a], []⟩) P E s := by
  have line : us.length ≤ sizeLine := by rw [sizeLine_eq]; omega
  have small : us.toArray.size < 2 := by simpa using few
  have same : (us.toArray.zip us.toArray).map (·.2) = us.toArray := Array.toList_inj.mp (by rw [Array.toList_map, Array.toList_zip]; exact List.map_snd_zip (Nat.le_refl _))
  obtain ⟨j1, g1⟩ : ∃ j, (s.heap.update a (Obj.mapSeq fun _ => #[])).get? a = some (seqObj "list" #[] j) := ⟨_, get?_update_seq at_a fun _ => #[]⟩
  have g2 := Heap.get?_push_of_some (seqObj "list" #[] 0) (Heap.get?_push_of_some (seqObj "tuple" us.toArray 0) g1)
  have off : ∀ (F : Array Value → Array Value) (h : Heap) b o, b ≠ a → h.get? b = some o → (h.update a (Obj.mapSeq F)).get? b = some o := fun F h b o hb e => by rw [Heap.get?_update_ne _ _ _ _ hb]; exact e
  rw [list_sort_plain]
  refine wpAny_bind (listItems_at at_a rfl (wpAny_bind (listUpdate_at at_a rfl ?_ (by simpa using line) (Nat.zero_le _))))
  refine wpAny_bind (seqEpoch_at g1 rfl (wpAny_bind (wpAny_newTuple (wpAny_bind (wpAny_newList (wpAny_holding ?_) (Nat.zero_le _))) (by simpa using line))))
  dsimp only
  simp only [if_pos small]
  refine wpAny_bind (wpAny_pure ?_)
  rw [StateT.run_pure]
  refine wpAny_bind (wpAny_pure ?_)
  dsimp only
  refine wpAny_bind (seqEpoch_at g2 rfl (wpAny_bind (listUpdate_at g2 rfl ?_ (Nat.zero_le _) (by rw [Array.size_map, Array.size_zip]; simp; omega))))
  simp only [bne_self_eq_false, Bool.false_eq_true, if_false]
  refine wpAny_pure (post _ (fun b o hb e => ?_) ?_)
  · exact off _ _ b o hb (Heap.get?_push_of_some _ (Heap.get?_push_of_some _ (off _ _ b o hb e)))
  · generalize us.toArray.zip us.toArray = z at same ⊢
    have e3 := get?_update_seq g2 fun _ => z.map (·.2)
    refine ⟨if ((z.map (·.2)).size == (#[] : Array Value).size) = true then j1 else j1 + 1, Eq.trans (b := _) e3 ?_⟩
    rw [same]
theorem sorted_few {l : Addr} {us : List Value} {Q : Value → Shared → Prop} (hl : s.heap.IsList l us.toArray) (few : us.length < 2)
    (post : ∀ D h', (∀ b o, s.heap.get? b = some o → h'.get? b = some o) → s.heap.objs.size ≤ D → (∃ j, h'.get? D = some (lstB us j)) → Q (.ref D) { s with heap := h' }) : wpAny (model prog w) A (call (.builtin "sorted") [.ref l]) Q E s := by
  have line : us.length ≤ sizeLine := by rw [sizeLine_eq]; omega
  refine Calls.call_function_entry kind_sorted plain_sorted entry_sorted (args_sorted1 _) ?_
  unfold Builtin.«sorted»
  refine wpAny_bind (m := checkCount "sorted" 1 1 _) (wpAny_pure (wpAny_bind (collect_list hl (wpAny_bind (wpAny_newList ?_ (by simpa using line))) (by simpa using line))))
  generalize hK : (s.heap.push (seqObj "list" #[] 0)).update s.heap.objs.size (Obj.mapSeq (· ++ us.toArray)) = K
  have kept : ∀ b o, s.heap.get? b = some o → (K.push (seqObj "list" us.toArray 0)).get? b = some o := fun b o e => by
    have lt := Heap.lt_size e
    subst hK
    exact Heap.get?_push_of_some _ (by rw [Heap.get?_update_ne _ _ _ _ (Nat.ne_of_lt lt)]; exact Heap.get?_push_of_some _ e)
  have big : s.heap.objs.size ≤ K.objs.size := by subst hK; rw [Heap.size_update, size_push']; exact Nat.le_succ _
  have mine : (K.push (seqObj "list" us.toArray 0)).get? K.objs.size = some (lstB us 0) := Heap.get?_push_size _ rfl
  refine wpAny_bind (wpAny_holding (wpAny_call_entry slot_list_sort ⟨_, mine, rfl⟩ entry_list_sort (few_sort (s := { s with heap := K.push (seqObj "list" us.toArray 0) }) mine few fun h' k1 k2 => ?_) (args_list_sort _)))
  exact ⟨_, rfl, wpAny_pure ⟨_, rfl, post _ h' (fun b o e => k1 b o (fun q => absurd (Heap.lt_size (q ▸ e)) (Nat.not_lt.mpr big)) (kept b o e)) big k2⟩⟩
end
end PM
namespace PM
open PySem PySem.W PySem.Calls PyProof.Rows PyProof
theorem firsts_of {W : Wd} {h : Heap} (ht : ∀ q ∈ W.tups, h.get? q.1 = some q.2) : ∀ {vs : List V} {ps : List (Int × Int)} {ys : List Value}, toPairs vs = some ps → VRs W vs ys → ∃ fs, KatTups h ys fs ∧ fs.length = ys.length ∧ ∀ f ∈ fs, ∃ i t, f = Value.int i t
  | [], ps, ys, e, r => by cases r; exact ⟨[], .nil, rfl, by simp⟩
  | v :: vs, ps, ys, e, r => by
    cases r with
    | cons r1 r2 =>
      unfold toPairs at e
      split at e
      · rename_i q; cases q
      · rename_i a b r q
        cases q
        obtain ⟨qs, h1, h2⟩ := Option.map_eq_some_iff.mp e
        obtain ⟨fs, k1, k2, k3⟩ := firsts_of ht h1 r2
        obtain ⟨p, t, u, k, rfl, m⟩ := two_of r1
        refine ⟨.int a t :: fs, .cons (ht _ m) rfl rfl rfl k1, by simp [k2], fun f hf => ?_⟩
        rcases List.mem_cons.mp hf with rfl | hf
        · exact ⟨a, t, rfl⟩
        · exact k3 f hf
      · cases e
section
variable {prog : Program} {w : World}
theorem ok_sortedP : OpN prog w (fun xs => call (.builtin "sorted") xs) oSortedP := by
  intro Γ W ρ H fr s Q E as xs v H' r hx ho post
  unfold oSortedP at ho
  split at ho
  · obtain ⟨vs, e1, ho⟩ := Option.bind_eq_some_iff.mp ho
    obtain ⟨ps, e3, ho⟩ := Option.bind_eq_some_iff.mp ho
    split at ho
    · rename_i h64
      cases ho
      obtain ⟨x, ex, rx⟩ := hx.one
      subst ex
      have hpl := toPairs_len e3
      cases rx with
      | @ref _ a ea =>
        obtain ⟨hl, ys, k, hg, hv⟩ := r.at e1 ea
        have isl : s.heap.IsList a ys.toArray := ⟨_, hg, rfl, k, rfl⟩
        have hlen := hv.length
        by_cases h2 : ys.length < 2
        · have eix : (sortIx ps).map (fun i => vs.getD i .none) = vs := by
            unfold sortIx
            rw [if_pos (by omega)]
            apply List.ext_getElem
            · simp; omega
            · intro i h1 h2
              simp only [List.getElem_map, List.getElem_range]
              rw [List.getD_eq_getElem?_getD, List.getElem?_eq_getElem h2]
              rfl
          refine sorted_few isl h2 fun D h' kp big ⟨q, hq⟩ => ?_
          obtain ⟨r2, ap⟩ := r.more (h' := h') (fs := [(D, lstB ys q)]) kp (fun u hu => by
            rw [List.mem_singleton.mp hu]
            exact ⟨hq, big⟩)
          obtain ⟨W2, l2, r3, v3⟩ := Rep.adopt r2 (fun t ht => ap _ List.mem_cons_self t ht) hv hl
          rw [eix] at post
          exact post W2 _ s.toks _ l2 r3 v3
        · obtain ⟨m, c, led, r0⟩ := r
          have hat : ∀ i, i < vs.length → ∃ p t u k, ys.getD i .none = .ref p ∧ (p, tupB [.int (ps.getD i (0, 0)).1 t, .int (ps.getD i (0, 0)).2 u] k) ∈ W.tups := fun i hi => by
            have h1 := hv.getD i
            rw [List.getD_eq_getElem?_getD, toPairs_at e3 hi] at h1
            exact two_of h1
          have hget : ∀ {h' : Heap} {D : Addr} {o : Obj}, Fr Γ.h₀ Γ.L h' m → News Γ.h₀ Γ.L h' ((D, o) :: led) → ∀ q ∈ W.tups, h'.get? q.1 = some q.2 := fun F' N' q hq => by
            rcases List.mem_cons.mp (r0.R.tups q hq) with e | hm
            · rw [e]; exact F'.keep _ _ r0.sc
            · exact (N' q (List.mem_cons_of_mem _ hm)).1
          refine kat_sorted r0.F r0.N isl (by omega) (by omega) fun D e1' h' F' N' hD => ?_
          have key : (kas_sort ys.length).kasWp (kas_ask prog w Γ.A.in1.in1 (tuples' true) ys) (fun p s'' => KasFin Γ.h₀ Γ.L m D e1' (p.toList.map fun i => ys.getD i Value.none) (fun s3 => Q (.ref D) s3) s'') { s with heap := h' } := by
            refine KIn.wp (lt := ltP ps) (n := ys.length) (fun i j C hi hj hC => ?_) (sort_in (by omega)) ?_
            · obtain ⟨p1, t1, u1, k1, x1, m1⟩ := hat i (by omega)
              obtain ⟨p2, t2, u2, k2, x2, m2⟩ := hat j (by omega)
              unfold kas_ask
              rw [x1, x2]
              exact pair_lt (hget F' N' _ m1) (hget F' N' _ m2) hC
            · generalize hp0 : kgo (ltP ps) (kas_sort ys.length) = p0
              refine KasFin.intro (news := (D, seqObj "list" #[] e1') :: led) (g := fun o => (D, o) :: led) F' N' ?_ fun h2 c2 F2 N2 => ?_
              · exact .head fun p hp => Nat.ne_of_lt (hD p hp)
              · have hp2 : (p0.toList.map fun i => ys.getD i Value.none) = (sortIx ps).map fun i => ys.getD i Value.none := by
                  rw [← hp0]
                  unfold sortIx
                  rw [if_neg (by omega), show ps.length = ys.length by omega]
                rw [hp2] at N2
                have hn : ∀ q ∈ W.sc :: led, q.1 ≠ D := fun q hq => by
                  rcases List.mem_cons.mp hq with e | hq
                  · intro z
                    have := (N' _ List.mem_cons_self).2.2
                    rw [← z, e, r0.sc] at this
                    cases this
                  · exact Nat.ne_of_lt (hD q hq)
                obtain ⟨W2, l2, r3, v3⟩ := r0.newList (vs := (sortIx ps).map fun i => vs.getD i .none) F2 N2 hn (hv.picks _) (by rw [List.length_map, sortIx_len, hpl]; exact hl)
                exact post W2 _ s.toks _ l2 r3 v3
          obtain ⟨fs, f1, f2, f3⟩ := firsts_of (hget F' N') e3 hv
          refine kat_kind (T := .type "int") (s := { s with heap := h' }) f1 (by omega) (fun f hf => ?_) (by decide) key
          obtain ⟨i, t, rfl⟩ := f3 f hf
          exact Looks.of_pure rfl
    · cases ho
  · cases ho
end
end PM
end
section
set_option maxRecDepth 100000
set_option linter.all false
set_option autoImplicit false
namespace PM
open PySem PySem.Calls
noncomputable def oSortedA (as : List V) (H : Hp) : Option (V × Hp) := (oSorted as H).or (oSortedP as H)
theorem ok_sortedA {prog : Program} {w : World} : OpN prog w (fun xs => call (.builtin "sorted") xs) oSortedA := by
  intro Γ W ρ H fr s Q E as xs v H' r hx ho post
  unfold oSortedA at ho
  cases e : oSorted as H with
  | some q =>
    rw [e] at ho
    cases ho
    exact ok_sorted Γ W ρ H fr s Q E as xs v H' r hx e post
  | none =>
    rw [e] at ho
    exact ok_sortedP Γ W ρ H fr s Q E as xs v H' r hx ho post
end PM
namespace TM
open PySem PM
noncomputable def pr2 (p : Int × Int) : T := .tup [.int p.1, .int p.2]
noncomputable def pairsT : List T → Option (List (Int × Int))
  | [] => some []
  | .tup [.int a, .int b] :: r => (pairsT r).map ((a, b) :: ·)
  | _ => none
theorem pairs_ok {H : Hp} : ∀ {vs : List V} {ts : List T} {F : List Nat} {ps : List (Int × Int)}, RFs H vs ts F → pairsT ts = some ps → toPairs vs = some ps
  | _, _, _, _, .nil, h => h
  | _, t :: ts, _, _, .cons a b, h => by
    unfold pairsT at h
    split at h
    · rename_i q; cases q
    · rename_i x y r q
      cases q
      obtain ⟨qs, h1, h2⟩ := Option.map_eq_some_iff.mp h
      subst h2
      cases a with
      | tup c =>
        cases c with
        | cons c1 c2 =>
          cases c2 with
          | cons c3 c4 =>
            cases c4
            cases c1
            cases c3
            simp only [toPairs, pairs_ok b h1, Option.map_some]
    · cases h
theorem ints_none {H : Hp} : ∀ {vs : List V} {ts : List T} {F : List Nat}, RFs H vs ts F → intsT ts = none → toInts vs = none
  | _, _, _, .nil, h => by cases h
  | _, _, _, .cons a b, h => by
    cases a <;> first | rfl | skip
    simp only [intsT, Option.map_eq_none_iff] at h
    simp only [toInts, ints_none b h, Option.map_none]
noncomputable def sortPr (ps : List (Int × Int)) : List (Int × Int) := (sortIx ps).map fun i => ps.getD i (0, 0)
noncomputable def qSortedA : List T → Option T
  | [.lst ts] => match intsT ts with
    | some ns => if ts.length < 64 then some (.lst ((sortI ns).map T.int)) else none
    | none => (pairsT ts).bind fun ps => if ts.length < 64 then some (.lst ((sortPr ps).map pr2)) else none
  | _ => none
theorem prs_rfs {H : Hp} : ∀ ps : List (Int × Int), RFs H (ps.map fun p => V.tup [.int p.1, .int p.2]) (ps.map pr2) []
  | [] => .nil
  | p :: ps => .cons (F := []) (.tup (.cons (F := []) (.int _) (.cons (F := []) (.int _) .nil))) (prs_rfs ps)
theorem c_sortedA : OCn oSortedA qSortedA := fun H vs ts t F hp r h => by
  unfold qSortedA at h
  split at h
  · obtain ⟨v, rfl, r'⟩ := r.one_inv
    cases r' with
    | @ref _ us _ _ e hs =>
      split at h
      · rename_i ks h1
        split at h
        · rename_i h64
          cases h
          refine ⟨_, [(sortI ks).map V.int], _, ?_, newL (ints_rfs (sortI ks)), fun a m => ?_, fun _ => ?_⟩
          · simp only [oSortedA, oSorted, e, Option.bind_some, ints_ok hs h1]
            rw [if_pos (by rw [hs.length]; exact h64)]
            rfl
          · rcases List.mem_cons.mp m with rfl | m
            · exact .inl (Nat.le_refl _)
            · cases m
          · simp
        · cases h
      · rename_i h1
        obtain ⟨ps, h2, h⟩ := Option.bind_eq_some_iff.mp h
        split at h
        · rename_i h64
          cases h
          have h3 := pairs_ok hs h2
          have eL : (sortIx ps).map (fun i => us.getD i V.none) = (sortPr ps).map fun p => V.tup [.int p.1, .int p.2] := by
            unfold sortPr
            rw [List.map_map]
            refine List.map_congr_left fun i hi => ?_
            rw [List.getD_eq_getElem?_getD, toPairs_at h3 (by rw [← toPairs_len h3]; exact sortIx_lt hi)]
            rfl
          refine ⟨_, [(sortPr ps).map fun p => V.tup [.int p.1, .int p.2]], _, ?_, newL (prs_rfs (sortPr ps)), fun a m => ?_, fun _ => ?_⟩
          · simp only [oSortedA, oSorted, oSortedP, e, Option.bind_some, ints_none hs h1, Option.bind_none, Option.none_or, h3]
            rw [if_pos (by rw [hs.length]; exact h64), eL]
          · rcases List.mem_cons.mp m with rfl | m
            · exact .inl (Nat.le_refl _)
            · cases m
          · simp
        · cases h
  · cases h
theorem tk_sortedI {Q : T → Prop} {ns : List Int} (hn : ns.length < 64) (h : Q (.lst ((sortI ns).map T.int))) : Pk (qSortedA [.lst (ns.map T.int)]) Q := by
  refine ⟨_, ?_, h⟩
  have e : ∀ ns : List Int, intsT (ns.map T.int) = some ns := fun ns => by
    induction ns with
    | nil => rfl
    | cons n ns ih => simp [intsT, ih]
  simp only [qSortedA, e, List.length_map]
  rw [if_pos hn]
end TM
end
section
set_option maxRecDepth 100000
set_option linter.all false
set_option autoImplicit false
namespace PM
open PySem PySem.W PySem.Calls PyProof.Rows PyProof
noncomputable def TInv (t : SetTable) : Prop := t.place.toList.Pairwise (· < ·) ∧ t.dummies = #[]
theorem below_go {xs : Array Nat} {j : Nat} (hs : xs.toList.Pairwise (· < ·)) : ∀ (fuel lo hi : Nat), lo ≤ hi → hi ≤ xs.size → hi - lo ≤ fuel → (∀ i, (h : i < xs.size) → i < lo → xs[i] < j) → (∀ i, (h : i < xs.size) → hi ≤ i → j ≤ xs[i]) →
    SetTable.below.go xs j fuel lo hi ≤ xs.size ∧ (∀ i, (h : i < xs.size) → i < SetTable.below.go xs j fuel lo hi → xs[i] < j) ∧ (∀ i, (h : i < xs.size) → SetTable.below.go xs j fuel lo hi ≤ i → j ≤ xs[i])
  | 0, lo, hi, h1, h2, h3, h4, h5 => by
    have : lo = hi := by omega
    subst this
    exact ⟨h2, h4, h5⟩
  | fuel + 1, lo, hi, h1, h2, h3, h4, h5 => by
    have mono : ∀ (a b : Nat) (ha : a < xs.size) (hb : b < xs.size), a ≤ b → xs[a] ≤ xs[b] := fun a b ha hb hab => by
      rcases Nat.lt_or_ge a b with q | q
      · have := List.pairwise_iff_getElem.mp hs a b (by simpa using ha) (by simpa using hb) q
        simp at this
        omega
      · have : a = b := by omega
        subst this
        exact Nat.le_refl _
    unfold SetTable.below.go
    split
    · rename_i hlt
      dsimp only
      have hm : (lo + hi) / 2 < xs.size := by omega
      have hg : xs.getD ((lo + hi) / 2) j = xs[(lo + hi) / 2] := by simp [Array.getD, hm]
      rw [hg]
      split
      · rename_i hc
        exact below_go hs fuel _ _ (by omega) h2 (by omega) (fun i hi' hi2 => by
          have := mono i ((lo + hi) / 2) hi' hm (by omega)
          omega) h5
      · rename_i hc
        exact below_go hs fuel _ _ (by omega) (by omega) (by omega) h4 (fun i hi' hi2 => by
          have := mono ((lo + hi) / 2) i hm hi' hi2
          omega)
    · have : lo = hi := by omega
      subst this
      exact ⟨h2, h4, h5⟩
theorem below_spec {xs : Array Nat} {j : Nat} (hs : xs.toList.Pairwise (· < ·)) : SetTable.below xs j ≤ xs.size ∧ (∀ i, (h : i < xs.size) → i < SetTable.below xs j → xs[i] < j) ∧ (∀ i, (h : i < xs.size) → SetTable.below xs j ≤ i → j ≤ xs[i]) :=
  below_go hs xs.size 0 xs.size (Nat.zero_le _) (Nat.le_refl _) (by omega) (fun i _ h => by omega) (fun i h h' => by omega)
theorem insert_list {α : Type} {xs : Array α} {p : Nat} {x : α} (hp : p ≤ xs.size) : (SetTable.insertAt xs p x).toList = xs.toList.take p ++ x :: xs.toList.drop p := by
  unfold SetTable.insertAt
  rw [Array.toList_append, Array.toList_push, Array.toList_extract, Array.toList_extract]
  simp
  rw [List.take_of_length_le (by simp)]
theorem put_inv {t : SetTable} {j : Nat} (h : TInv t) (hn : ¬ t.place[SetTable.below t.place j]? = some j) : TInv (t.put j).1 := by
  obtain ⟨hs, hd⟩ := h
  obtain ⟨b1, b2, b3⟩ := below_spec (j := j) hs
  refine ⟨?_, ?_⟩
  · show (SetTable.insertAt t.place (SetTable.below t.place j) j).toList.Pairwise (· < ·)
    rw [insert_list b1, List.pairwise_append]
    refine ⟨hs.sublist (List.take_sublist _ _), ?_, ?_⟩
    · rw [List.pairwise_cons]
      refine ⟨fun y hy => ?_, hs.sublist (List.drop_sublist _ _)⟩
      obtain ⟨i, hi, rfl⟩ := List.getElem_of_mem hy
      rw [List.length_drop] at hi
      rw [List.getElem_drop]
      have hi' : SetTable.below t.place j + i < t.place.size := by simp at hi; omega
      have h3 := b3 _ hi' (by omega)
      simp only [Array.getElem_toList]
      rcases Nat.lt_or_ge 0 i with q | q
      · have hb : SetTable.below t.place j < t.place.size := by omega
        have := List.pairwise_iff_getElem.mp hs (SetTable.below t.place j) (SetTable.below t.place j + i) (by simpa using hb) (by simpa using hi') (by omega)
        simp at this
        have := b3 _ hb (Nat.le_refl _)
        omega
      · have : i = 0 := by omega
        subst this
        have ne : t.place[SetTable.below t.place j + 0] ≠ j := fun e => hn (by rw [Array.getElem?_eq_getElem (by simpa using hi')]; simpa using e)
        omega
    · intro y hy z hz
      obtain ⟨i, hi, rfl⟩ := List.getElem_of_mem hy
      rw [List.length_take] at hi
      rw [List.getElem_take]
      have h2 := b2 i (by simp at hi; omega) (by omega)
      simp only [Array.getElem_toList]
      rcases List.mem_cons.mp hz with rfl | hz
      · exact h2
      · obtain ⟨k, hk, rfl⟩ := List.getElem_of_mem hz
        rw [List.length_drop] at hk
        rw [List.getElem_drop]
        have h3 := b3 (SetTable.below t.place j + k) (by simp at hk; omega) (by omega)
        simp only [Array.getElem_toList]
        omega
  · show (if SetTable.has t.dummies j then SetTable.eraseAt t.dummies (SetTable.below t.dummies j) else t.dummies) = #[]
    rw [hd]
    rw [if_neg (by simp [SetTable.has])]
theorem standIn_inv {t : SetTable} {n : Nat} : TInv (t.standIn n) := by
  refine ⟨?_, rfl⟩
  show (Array.range n).toList.Pairwise (· < ·)
  rw [Array.toList_range]
  exact List.pairwise_lt_range
theorem orStandIn_inv {t : SetTable} {n : Nat} (h : TInv t) : TInv (t.orStandIn n) := by
  unfold SetTable.orStandIn
  split
  · exact h
  · exact standIn_inv
theorem probe_go {t : SetTable} {f : Nat → Int} {h : Int} (hd : t.dummies = #[]) : ∀ (fuel : Nat) (p : SetTable.Probe) (j : Nat) (d : Option Nat), p.dummy = none → SetTable.probe.go t f h fuel p = some (.empty j d) → d = none ∧ ¬ t.place[SetTable.below t.place j]? = some j
  | 0, p, j, d, _, e => by cases e
  | fuel + 1, p, j, d, hp, e => by
    unfold SetTable.probe.go at e
    have hno : t.slot p.j ≠ .dummy := by
      unfold SetTable.slot
      dsimp only
      split
      · simp
      · rw [hd, if_neg (by simp [SetTable.has])]
        simp
    have adv : (t.advance p).dummy = none := by
      unfold SetTable.advance
      split
      · exact hp
      · exact hp
    split at e
    · rename_i hs
      cases e
      refine ⟨hp, fun q => ?_⟩
      unfold SetTable.slot at hs
      dsimp only at hs
      rw [if_pos (by rw [q]; simp)] at hs
      cases hs
    · rename_i hs; exact absurd hs hno
    · split at e
      · cases e
      · exact probe_go hd fuel _ j d adv e
theorem layNew_inv {t : SetTable} {es : Array (Int × Value)} {h : Int} {x : Value} (hi : TInv t) : TInv (layNew t es h x).2.1 ∧ (layNew t es h x).2.1.led = t.led := by
  unfold layNew
  split
  · rename_i slot wd e
    unfold SetTable.freeSlot at e
    split at e
    · rename_i j d hp
      cases e
      obtain ⟨rfl, hn⟩ := probe_go hi.2 _ _ _ _ rfl hp
      refine ⟨orStandIn_inv (put_inv hi hn), ?_⟩
      dsimp only
      unfold SetTable.orStandIn
      split <;> rfl
    · cases e
  · exact ⟨standIn_inv, rfl⟩
theorem laid_inv {mask finger moves : Nat} {led plain : Bool} {hs : Array Int} {t : SetTable} {o : Array Nat} (e : SetTable.laid mask finger moves led plain hs = some (t, o)) : TInv t ∧ t.led = led := by
  unfold SetTable.laid at e
  obtain ⟨ow, _, e⟩ := Option.bind_eq_some_iff.mp e
  cases e
  refine ⟨⟨?_, rfl⟩, rfl⟩
  simp only [List.map_filterMap]
  refine List.Pairwise.filterMap _ (R := (· < ·)) (fun a b hab c hc d hd => ?_) List.pairwise_lt_range
  simp only [Option.map_map, Option.map_eq_some_iff] at hc hd
  obtain ⟨_, _, rfl⟩ := hc
  obtain ⟨_, _, rfl⟩ := hd
  exact hab
theorem relayAll_inv {t : SetTable} {es : Array (Int × Value)} {n : Nat} (hi : TInv t) : TInv (relayAll t es n).2.1 ∧ (relayAll t es n).2.1.led = t.led := by
  unfold relayAll
  split
  · rename_i t' o e
    obtain ⟨h1, h2⟩ := laid_inv e
    dsimp only
    split
    · exact ⟨h1, h2⟩
    · exact ⟨standIn_inv, rfl⟩
  · exact ⟨standIn_inv, rfl⟩
end PM
end
section
set_option maxRecDepth 100000
set_option linter.all false
set_option autoImplicit false
namespace PM
open PySem PySem.W PySem.Calls PyProof.Rows PyProof
noncomputable def lps (m : Nat) : Nat → Nat × Nat → Nat × Nat
  | 0, q => q
  | n + 1, q => lps m n (SetTable.leap m q.1 q.2)
theorem lps_add (m : Nat) : ∀ (a b : Nat) (q : Nat × Nat), lps m (a + b) q = lps m b (lps m a q)
  | 0, b, q => by rw [Nat.zero_add]; rfl
  | a + 1, b, q => by rw [Nat.add_right_comm]; exact lps_add m a b _
theorem lps_two (m : Nat) : ∀ (n : Nat) (q : Nat × Nat), (lps m n q).2 = q.2 / 32 ^ n
  | 0, q => by simp [lps]
  | n + 1, q => by
    rw [lps, lps_two m n]
    show q.2 / 32 / 32 ^ n = _
    rw [Nat.div_div_eq_div_mul, Nat.pow_succ, Nat.mul_comm]
theorem lps_lt (m : Nat) : ∀ (n : Nat) (q : Nat × Nat), q.1 < m + 1 → (lps m n q).1 < m + 1
  | 0, q, h => h
  | n + 1, q, h => lps_lt m n _ (Nat.mod_lt _ (Nat.succ_pos m))
noncomputable def rounds (m : Nat) : Nat → Nat → List Nat
  | 0, _ => []
  | n + 1, i => i :: rounds m n ((i * 5 + 1) % (m + 1))
theorem rounds_get (m : Nat) : ∀ (n i k : Nat), k < n → (rounds m n i)[k]? = some (lps m k (i, 0)).1
  | 0, i, k, h => absurd h (Nat.not_lt_zero _)
  | n + 1, i, 0, h => rfl
  | n + 1, i, k + 1, h => by
    rw [rounds, List.getElem?_cons_succ, rounds_get m n _ k (by omega), lps, show SetTable.leap m (i, 0).1 (i, 0).2 = ((i * 5 + 1) % (m + 1), 0) by simp [SetTable.leap]]
noncomputable def Mk (m : Nat) : Prop := m = 7 ∨ m = 31 ∨ m = 127
theorem mk_all : ∀ m, Mk m → (∀ j, j < m + 1 → j ∈ rounds m (m + 1) 0) ∧ (lps m (m + 1) (0, 0)).1 = 0 := by
  rintro m (rfl | rfl | rfl)
  · exact ⟨by decide +kernel, by decide +kernel⟩
  · exact ⟨by decide +kernel, by decide +kernel⟩
  · exact ⟨by decide +kernel, by decide +kernel⟩
theorem still {m n i : Nat} : lps m n (i, 0) = ((lps m n (i, 0)).1, 0) := Prod.ext rfl (by rw [lps_two]; simp)
theorem reach0 {m : Nat} (hm : Mk m) {j : Nat} (hj : j < m + 1) : ∃ k, k < m + 1 ∧ (lps m k (0, 0)).1 = j := by
  obtain ⟨k, hk⟩ := List.mem_iff_getElem?.mp ((mk_all m hm).1 j hj)
  have lt : k < (rounds m (m + 1) 0).length := (List.getElem?_eq_some_iff.mp hk).1
  have len : ∀ (n i : Nat), (rounds m n i).length = n := by
    intro n
    induction n with
    | zero => intro i; rfl
    | succ n ih => intro i; simp [rounds, ih]
  rw [len] at lt
  rw [rounds_get m _ _ k lt] at hk
  exact ⟨k, lt, Option.some.inj hk⟩
theorem reach {m : Nat} (hm : Mk m) {i j : Nat} (hi : i < m + 1) (hj : j < m + 1) : ∃ k, k < m + 1 ∧ (lps m k (i, 0)).1 = j := by
  obtain ⟨a, ha, ea⟩ := reach0 hm hi
  obtain ⟨b, hb, eb⟩ := reach0 hm hj
  have go : ∀ k, lps m k (i, 0) = lps m (a + k) (0, 0) := fun k => by rw [lps_add, still (n := a), ea]
  by_cases c : a ≤ b
  · exact ⟨b - a, by omega, by rw [go, show a + (b - a) = b by omega, eb]⟩
  · refine ⟨m + 1 - a + b, by omega, ?_⟩
    rw [go, show a + (m + 1 - a + b) = m + 1 + b by omega, lps_add, still (n := m + 1), (mk_all m hm).2, eb]
theorem all_met {m : Nat} (hm : Mk m) {q : Nat × Nat} (h1 : q.1 < m + 1) (h2 : q.2 < 2 ^ 64) {j : Nat} (hj : j < m + 1) : ∃ n, n < m + 15 ∧ (lps m n q).1 = j := by
  have z : lps m 13 q = ((lps m 13 q).1, 0) := Prod.ext rfl (by rw [lps_two]; exact Nat.div_eq_of_lt (Nat.lt_of_lt_of_le h2 (by decide)))
  obtain ⟨k, hk, e⟩ := reach hm (lps_lt m 13 q h1) hj
  exact ⟨13 + k, by omega, by rw [lps_add, z, e]⟩
theorem too_many : ∀ (N : Nat) (L : List Nat), (∀ j, j < N → j ∈ L) → N ≤ L.length
  | 0, L, _ => Nat.zero_le _
  | N + 1, L, h => by
    have hN := h N (Nat.lt_succ_self _)
    have := too_many N (L.erase N) fun j hj => (List.mem_erase_of_ne (Nat.ne_of_lt hj)).mpr (h j (Nat.lt_succ_of_lt hj))
    have l := List.length_erase_of_mem hN
    have p := List.length_pos_of_mem hN
    omega
theorem no_slot {t : SetTable} {f : Nat → Int} {h : Int} : ∀ (fuel : Nat) (p : SetTable.Probe), SetTable.probe.go t f h fuel p = none → p.more ≤ 9 → ∀ n, p.more + 1 + 10 * n < fuel → t.slot (lps t.mask (n + 1) (p.i, p.perturb)).1 ≠ .empty := by
  intro fuel
  have here : ∀ (fuel : Nat) (p : SetTable.Probe), SetTable.probe.go t f h (fuel + 1) p = none → t.slot p.j ≠ .empty := by
    intro fuel p e q
    unfold SetTable.probe.go at e
    rw [q] at e
    cases e
  induction fuel with
  | zero => intro p _ _ n q; exact absurd q (Nat.not_lt_zero _)
  | succ fuel ih =>
    intro p e hp n q
    have next : ∃ p', SetTable.probe.go t f h fuel (t.advance p') = none ∧ p'.more = p.more ∧ p'.i = p.i ∧ p'.perturb = p.perturb := by
      unfold SetTable.probe.go at e
      split at e
      · cases e
      · exact ⟨_, e, rfl, rfl, rfl⟩
      · split at e
        · cases e
        · exact ⟨_, e, rfl, rfl, rfl⟩
    obtain ⟨p', next, e1, e2, e3⟩ := next
    rw [← e1] at hp q
    rw [← e2, ← e3]
    clear e e1 e2 e3 p
    unfold SetTable.advance at next
    by_cases c : p'.more > 0
    · rw [if_pos c] at next
      exact ih _ next (by dsimp only; omega) n (by dsimp only; omega)
    · rw [if_neg c] at next
      have r9 : ∀ i, SetTable.runEnd t.mask i - i ≤ 9 := fun i => by unfold SetTable.runEnd; split <;> omega
      cases n with
      | zero =>
        cases fuel with
        | zero => omega
        | succ fuel => exact here fuel _ next
      | succ n => exact ih _ next (r9 _) n (by have := r9 (SetTable.leap t.mask p'.i p'.perturb).1; dsimp only; omega)
end PM
end
section
set_option maxRecDepth 100000
set_option linter.all false
set_option autoImplicit false
namespace PM
open PySem PySem.W PySem.Calls PyProof.Rows PyProof
theorem no_cand {t : SetTable} {f : Nat → Int} {h : Int} (hf : ∀ i, f i ≠ h) : ∀ (fuel : Nat) (p : SetTable.Probe) (j i : Nat) (n : SetTable.Probe), SetTable.probe.go t f h fuel p ≠ some (.candidate j i n)
  | 0, p, j, i, n => by intro e; cases e
  | fuel + 1, p, j, i, n => by
    intro e
    unfold SetTable.probe.go at e
    split at e
    · cases e
    · exact no_cand hf fuel _ j i n e
    · rename_i k _
      rw [if_neg (by simp [hf k])] at e
      exact no_cand hf fuel _ j i n e
theorem taken {t : SetTable} {j : Nat} (hd : t.dummies = #[]) (h : t.slot j ≠ .empty) : j ∈ t.place.toList := by
  unfold SetTable.slot at h
  dsimp only at h
  split at h
  · rename_i e
    have e : t.place[SetTable.below t.place j]? = some j := by simpa using e
    rw [← Array.getElem?_toList] at e
    exact List.mem_of_getElem? e
  · rw [hd, if_neg (by simp [SetTable.has])] at h
    exact absurd rfl h
theorem free_slot {t : SetTable} (hi : TInv t) (hm : Mk t.mask) (hf : t.place.size ≤ t.mask) (h : Int) : ∃ j, t.freeSlot h = some (j, false) ∧ ¬ t.place[SetTable.below t.place j]? = some j := by
  unfold SetTable.freeSlot
  cases e : t.probe (fun _ => h + 1) h (t.probeStart h) with
  | none =>
    exfalso
    have b : SetTable.bits h < 2 ^ 64 := by
      have : (h % (2 ^ 64 : Int)) < 2 ^ 64 := Int.emod_lt_of_pos _ (by decide)
      unfold SetTable.bits
      omega
    have m9 : (t.probeStart h).more ≤ 9 := by
      show SetTable.runEnd t.mask _ - _ ≤ 9
      unfold SetTable.runEnd
      split <;> omega
    have all := too_many (t.mask + 1) t.place.toList fun j hj => by
      obtain ⟨n, hn, en⟩ := all_met hm (q := (SetTable.bits h % (t.mask + 1), SetTable.bits h)) (Nat.mod_lt _ (Nat.succ_pos _)) b hj
      refine taken hi.2 ?_
      rw [← en]
      cases n with
      | zero =>
        intro q
        unfold SetTable.probe at e
        rw [show 10 * SetTable.turns t.mask = (10 * SetTable.turns t.mask - 1) + 1 by unfold SetTable.turns; omega] at e
        unfold SetTable.probe.go at e
        rw [show t.slot (t.probeStart h).j = .empty from q] at e
        cases e
      | succ n => exact no_slot _ _ e m9 n (by unfold SetTable.turns; omega)
    rw [Array.length_toList] at all
    omega
  | some z =>
    cases z with
    | candidate j i n => exact absurd e (no_cand (fun i => by omega) _ _ _ _ _)
    | empty j d =>
      obtain ⟨rfl, no⟩ := probe_go hi.2 _ _ _ _ rfl e
      exact ⟨j, rfl, no⟩
theorem lay_nice {t : SetTable} {es : Array (Int × Value)} {h : Int} {x : Value} (hi : TInv t) (hm : Mk t.mask) (hf : t.place.size < t.mask) (hn : t.place.size = es.size) :
    (layNew t es h x).2.1.plain = t.plain ∧ (layNew t es h x).2.1.mask = t.mask ∧ (layNew t es h x).2.1.place.size = es.size + 1 ∧ (layNew t es h x).2.2.1 = false := by
  obtain ⟨j, e, _⟩ := free_slot hi hm (Nat.le_of_lt hf) h
  have s1 : ∀ {α : Type} (xs : Array α) (p : Nat) (y : α), p ≤ xs.size → (SetTable.insertAt xs p y).size = xs.size + 1 := fun xs p y hp => by
    have := congrArg List.length (insert_list (x := y) hp)
    simp at this
    omega
  have bl := (below_spec (j := j) hi.1).1
  have fits : (t.put j).1.fits (SetTable.insertAt es (t.put j).2 (h, x)).size = true := by
    unfold SetTable.fits SetTable.fill SetTable.put
    dsimp only
    rw [hi.2, if_neg (by simp [SetTable.has]), s1 _ _ _ bl, s1 _ _ _ (hn ▸ bl), hn]
    simp
    omega
  unfold layNew
  rw [e]
  dsimp only
  unfold SetTable.orStandIn
  rw [if_pos fits]
  exact ⟨rfl, rfl, by rw [← hn]; exact s1 _ _ _ bl, rfl⟩
theorem no_free {m : Nat} {ow : Array (Option Nat)} : ∀ (fuel i p : Nat), SetTable.layClean.free m ow fuel i p = none → ∀ n, n < fuel → ow.getD (lps m n (i, p)).1 (some 0) ≠ none
  | 0, i, p, _, n, h => absurd h (Nat.not_lt_zero _)
  | fuel + 1, i, p, e, n, h => by
    unfold SetTable.layClean.free at e
    split at e
    · cases e
    · rename_i q
      cases n with
      | zero =>
        have := List.find?_eq_none.mp q 0 (List.mem_range.mpr (by unfold SetTable.runEnd; split <;> omega))
        intro z
        exact this (by show (ow.getD (i + 0) (some 0)).isNone = true; rw [Nat.add_zero]; exact (congrArg Option.isNone z).trans rfl)
      | succ n => exact no_free fuel _ _ e n (by omega)
theorem free_none {m : Nat} {ow : Array (Option Nat)} : ∀ (fuel i p j : Nat), SetTable.layClean.free m ow fuel i p = some j → ow.getD j (some 0) = none
  | 0, i, p, j, e => by cases e
  | fuel + 1, i, p, j, e => by
    unfold SetTable.layClean.free at e
    split at e
    · rename_i k q
      cases e
      have := List.find?_some q
      simpa using this
    · exact free_none fuel _ _ j e
end PM
end
section
set_option maxRecDepth 100000
set_option linter.all false
set_option autoImplicit false
namespace PM
open PySem PySem.W PySem.Calls PyProof.Rows PyProof
theorem full_len : ∀ (L : List (Option Nat)), (∀ x ∈ L, x ≠ none) → (L.filterMap id).length = L.length
  | [], _ => rfl
  | none :: L, h => absurd rfl (h none List.mem_cons_self)
  | some a :: L, h => by simp [full_len L fun x hx => h x (List.mem_cons_of_mem _ hx)]
theorem set_perm (k : Nat) : ∀ (L : List (Option Nat)) (j : Nat), L[j]? = some none → ((L.set j (some k)).filterMap id).Perm (k :: L.filterMap id)
  | [], j, h => by simp at h
  | x :: L, 0, h => by
    simp at h
    subst h
    simp
  | x :: L, j + 1, h => by
    have := set_perm k L j (by simpa using h)
    cases x with
    | none => simpa using this
    | some a =>
      simp only [List.set_cons_succ, List.filterMap_cons, id]
      exact (this.cons a).trans (List.Perm.swap k a _)
noncomputable def OwnI (m : Nat) (ow : Array (Option Nat)) (k : Nat) : Prop := ow.size = m + 1 ∧ (ow.toList.filterMap id).Perm (List.range k)
theorem own_step {m : Nat} (hm : Mk m) {ow : Array (Option Nat)} {k : Nat} (I : OwnI m ow k) (hk : k < m + 1) (h : Int) : ∃ j, SetTable.layClean.free m ow (SetTable.turns m) (SetTable.bits h % (m + 1)) (SetTable.bits h) = some j ∧ OwnI m (ow.setIfInBounds j (some k)) (k + 1) := by
  have b : SetTable.bits h < 2 ^ 64 := by
    have : (h % (2 ^ 64 : Int)) < 2 ^ 64 := Int.emod_lt_of_pos _ (by decide)
    unfold SetTable.bits
    omega
  cases e : SetTable.layClean.free m ow (SetTable.turns m) (SetTable.bits h % (m + 1)) (SetTable.bits h) with
  | none =>
    exfalso
    have all : ∀ x ∈ ow.toList, x ≠ none := fun x hx => by
      obtain ⟨j, hj, ej⟩ := List.mem_iff_getElem.mp hx
      rw [Array.length_toList, I.1] at hj
      obtain ⟨n, hn, en⟩ := all_met hm (q := (SetTable.bits h % (m + 1), SetTable.bits h)) (Nat.mod_lt _ (Nat.succ_pos _)) b hj
      have := no_free _ _ _ e n hn
      rw [en, Array.getD_eq_getD_getElem?, Array.getElem?_eq_getElem (by rw [I.1]; exact hj)] at this
      rw [← ej]
      exact this
    have l := full_len _ all
    rw [I.2.length_eq, List.length_range, Array.length_toList, I.1] at l
    omega
  | some j =>
    have fn := free_none _ _ _ _ e
    have at_j : ow.toList[j]? = some none := by
      rw [Array.getD_eq_getD_getElem?] at fn
      rw [Array.getElem?_toList]
      cases q : ow[j]? with
      | none => rw [q] at fn; cases fn
      | some x => rw [q] at fn; exact congrArg some fn
    refine ⟨j, rfl, by rw [Array.size_setIfInBounds]; exact I.1, ?_⟩
    rw [Array.toList_setIfInBounds, List.range_succ]
    exact (set_perm k _ j at_j).trans ((I.2.cons k).trans (List.perm_append_comm (l₁ := [k])))
theorem own_fold {m : Nat} (hm : Mk m) : ∀ (hs : List Int) (ow : Array (Option Nat)) (k : Nat), OwnI m ow k → k + hs.length ≤ m + 1 → ∃ ow', hs.foldl (fun acc h => do
    let (owner, k) ← acc
    let j ← SetTable.layClean.free m owner (SetTable.turns m) (SetTable.bits h % (m + 1)) (SetTable.bits h)
    pure (owner.setIfInBounds j (some k), k + 1)) (some (ow, k)) = some (ow', k + hs.length) ∧ OwnI m ow' (k + hs.length)
  | [], ow, k, I, _ => ⟨ow, rfl, I⟩
  | h :: hs, ow, k, I, l => by
    simp only [List.length_cons] at l
    obtain ⟨j, e, I'⟩ := own_step hm I (by omega) h
    obtain ⟨ow', e', I2⟩ := own_fold hm hs _ _ I' (by omega)
    refine ⟨ow', ?_, by rw [List.length_cons, show k + (hs.length + 1) = k + 1 + hs.length by omega]; exact I2⟩
    rw [List.foldl_cons, List.length_cons, show k + (hs.length + 1) = k + 1 + hs.length by omega, ← e']
    congr 1
    show (SetTable.layClean.free m ow (SetTable.turns m) (SetTable.bits h % (m + 1)) (SetTable.bits h)).bind _ = _
    rw [e]
    rfl
theorem lay_clean {m : Nat} (hm : Mk m) (hs : Array Int) (l : hs.size ≤ m + 1) : ∃ ow, SetTable.layClean m hs = some ow ∧ OwnI m ow hs.size := by
  have I0 : OwnI m (Array.replicate (m + 1) none) 0 := ⟨by simp, by
    rw [show (Array.replicate (m + 1) (none : Option Nat)).toList.filterMap id = [] from List.filterMap_eq_nil_iff.mpr fun x hx => by simp at hx; rw [hx]; rfl]
    exact .refl _⟩
  obtain ⟨ow, e, I⟩ := own_fold hm hs.toList _ 0 I0 (by simpa using l)
  refine ⟨ow, ?_, by simpa using I⟩
  unfold SetTable.layClean
  rw [← Array.foldl_toList, e]
  rfl
theorem relay_nice {t : SetTable} {es : Array (Int × Value)} {n m : Nat} (hm : Mk m) (hn : SetTable.sizeAbove n - 1 = m) (l : es.size ≤ m) : (relayAll t es n).2.1.plain = t.plain ∧ (relayAll t es n).2.1.mask = m ∧ (relayAll t es n).2.1.place.size = es.size := by
  obtain ⟨ow, e, I⟩ := lay_clean hm (es.map (·.1)) (by rw [Array.size_map]; omega)
  rw [Array.size_map] at I
  unfold relayAll SetTable.relaid SetTable.laid
  rw [hn, e]
  dsimp only [Option.bind_some, Option.pure_def, bind]
  have ord : ((List.range (m + 1)).filterMap fun j => (ow.getD j none).map (j, ·)).map (·.2) = ow.toList.filterMap id := by
    have : ow.toList = (List.range (m + 1)).map fun j => ow.getD j none := by
      refine List.ext_getElem (by simp [I.1]) fun i h1 h2 => ?_
      simp at h1
      simp [h1]
    rw [this, List.map_filterMap, List.filterMap_map]
    congr 1
    funext j
    show _ = ow.getD j none
    cases ow.getD j none <;> rfl
  have len : ((List.range (m + 1)).filterMap fun j => (ow.getD j none).map (j, ·)).length = es.size := by
    have := congrArg List.length ord
    rw [List.length_map, I.2.length_eq, List.length_range] at this
    exact this
  rw [ord]
  have all : coversAll (ow.toList.filterMap id).toArray es.size = true := by
    unfold coversAll
    exact List.isPerm_iff.mpr I.2
  have size : ((ow.toList.filterMap id).toArray.filterMap (es[·]?)).size = es.size := by
    have p := I.2.filterMap (es[·]?)
    have q := p.length_eq
    have pick := run_pick es.toList 0 es.size (by simp)
    simp only [Nat.zero_add, List.map_id', List.drop_zero] at pick
    rw [List.take_of_length_le (by simp)] at pick
    have same : (fun i : Nat => es.toList[i]?) = fun i => es[i]? := by funext i; rw [Array.getElem?_toList]
    rw [same] at pick
    rw [pick, Array.length_toList] at q
    rw [← Array.length_toList, Array.toList_filterMap]
    exact q
  rw [if_pos]
  · exact ⟨rfl, rfl, by simpa using len⟩
  · rw [all, Bool.true_and, size]
    unfold SetTable.fits SetTable.fill
    rw [List.size_toArray, List.length_map, len]
    simp
    omega
end PM
end
section
set_option maxRecDepth 100000
set_option linter.all false
set_option autoImplicit false
namespace PM
open PySem PySem.W PySem.Calls PyProof.Rows PyProof
structure Held (prog : Program) (w : World) (es : Array (Int × Value)) (t : SetTable) (ks : List Int) : Prop where
  kind : ElemsOf (intKind prog w) es.toList
  few : es.size < scanBound
  fit : t.fits es.size = true
  rise : TInv t
  led : t.led = !(w.params.followText "set-order")
  same : ∃ vs, (es.toList.map (·.2)).Perm vs ∧ IntsAre vs ks
section
variable {prog : Program} {w : World} {es : Array (Int × Value)} {t : SetTable} {ks : List Int}
theorem Held.count (h : Held prog w es t ks) : es.size = ks.length := by
  obtain ⟨vs, p, i⟩ := h.same
  have := p.length_eq
  rw [List.length_map, Array.length_toList] at this
  rw [this, i.length]
theorem Held.swap (h : Held prog w es t ks) {es' : Array (Int × Value)} {t' : SetTable} (p : es'.toList.Perm es.toList) (f : t'.fits es'.size = true) (r : TInv t' ∧ t'.led = t.led) : Held prog w es' t' ks := by
  obtain ⟨vs, p1, i1⟩ := h.same
  have e : es'.size = es.size := by simpa using p.length_eq
  exact ⟨h.kind.perm p, e ▸ h.few, f, r.1, r.2.trans h.led, vs, (p.map _).trans p1, i1⟩
theorem Held.again (h : Held prog w es t ks) (n : Nat) : Held prog w (relayAll t es n).1 (relayAll t es n).2.1 ks :=
  h.swap (relayAll_perm t es n) (relayAll_fits t es n) (relayAll_inv h.rise)
theorem Held.new (h : Held prog w es t ks) (k : Int) (tk : Tok) (room : ks.length + 1 < scanBound) : Held prog w (layNew t es ((intKind prog w).hash k) (.int k tk)).1 (layNew t es ((intKind prog w).hash k) (.int k tk)).2.1 (ks ++ [k]) := by
  have p := layNew_perm t es ((intKind prog w).hash k) (.int k tk)
  have f := layNew_fits t es ((intKind prog w).hash k) (.int k tk)
  obtain ⟨r1, r2⟩ := layNew_inv (es := es) (h := (intKind prog w).hash k) (x := .int k tk) h.rise
  generalize layNew t es ((intKind prog w).hash k) (.int k tk) = z at p f r1 r2 ⊢
  rw [Array.toList_push] at p
  obtain ⟨vs, p1, i1⟩ := h.same
  have n : z.1.size = es.size + 1 := by simpa using p.length_eq
  refine ⟨(h.kind.push (intKind_is _ _ _ _) rfl).perm p, by rw [n, h.count]; exact room, f, r1, r2.trans h.led, vs ++ [.int k tk], ?_, i1.append (.cons k tk .nil)⟩
  exact (p.map _).trans (by rw [List.map_append]; exact p1.append (.refl _))
theorem Held.has (h : Held prog w es t ks) (k : Int) : (∃ e ∈ es.toList, (intKind prog w).is k e.2 = true) ↔ k ∈ ks := by
  obtain ⟨vs, p, i⟩ := h.same
  have one : ∀ {vs : List Value} {ks : List Int}, IntsAre vs ks → ((∃ v ∈ vs, (intKind prog w).is k v = true) ↔ k ∈ ks) := by
    intro vs ks i
    induction i with
    | nil => simp
    | cons n tk _ ih =>
      have : (intKind prog w).is k (.int n tk) = true ↔ k = n := by
        show (n == k) = true ↔ _
        rw [beq_iff_eq]; exact eq_comm
      simp only [List.mem_cons, exists_eq_or_imp, this, ih]
  rw [← one i]
  constructor
  · rintro ⟨e, he, q⟩
    exact ⟨e.2, p.mem_iff.mp (List.mem_map_of_mem he), q⟩
  · rintro ⟨v, hv, q⟩
    obtain ⟨e, he, rfl⟩ := List.mem_map.mp (p.mem_iff.mpr hv)
    exact ⟨e, he, q⟩
end
noncomputable def Nice (t : SetTable) : Prop := t.plain = true ∧ Mk t.mask ∧ t.place.size * 5 < t.mask * 3
noncomputable def SetIn (h : Heap) (a : Addr) (es : Array (Int × Value)) (t : SetTable) : Prop := ∃ o ep, h.get? a = some o ∧ o.ExactSet ∧ o.data = .set es ep t
noncomputable def SetAt (prog : Program) (w : World) (h : Heap) (a : Addr) (ks : List Int) : Prop := ∃ es t, SetIn h a es t ∧ Held prog w es t ks ∧ Nice t
noncomputable def meet (ks : List Int) (k : Int) : List Int := if k ∈ ks then ks else ks ++ [k]
section
variable {prog : Program} {w : World} {A : Around} {E : Value → Shared → Prop} {s : Shared} {a : Addr} {ks : List Int}
theorem SetAt.keep {h h' : Heap} (hS : SetAt prog w h a ks) (e : ∀ o, h.get? a = some o → h'.get? a = some o) : SetAt prog w h' a ks := by
  obtain ⟨es, t, ⟨o, ep, g, r⟩, q⟩ := hS
  exact ⟨es, t, ⟨o, ep, e o g, r⟩, q⟩
theorem SetIn.store {es es' : Array (Int × Value)} {t t' : SetTable} {Q : Unit → Shared → Prop} (hS : SetIn s.heap a es t) (few : es'.size < scanBound)
    (post : ∀ h', (∀ b o, b ≠ a → s.heap.get? b = some o → h'.get? b = some o) → s.heap.objs.size = h'.objs.size → SetIn h' a es' t' → Q () { s with heap := h' }) : wpAny (model prog w) A (storeSet a es' t') Q E s := by
  obtain ⟨o, ep, g, x, d⟩ := hS
  refine wpAny_storeSet_of g d (post _ (fun b o hb e => by rw [Heap.get?_update_ne _ _ _ _ hb]; exact e) (Heap.size_update _ _ _).symm ?_) (fits_of_scanBound few)
  have g' := Heap.get?_update_self (Obj.putSet es' t') g (by rw [putSet_of es' t' d]; rfl)
  rw [putSet_of es' t' d] at g'
  exact ⟨_, _, g', x, rfl⟩
end
end PM
end
section
set_option maxRecDepth 100000
set_option linter.all false
set_option autoImplicit false
namespace PM
open PySem PySem.W PySem.Calls PyProof.Rows PyProof
section
variable {prog : Program} {w : World} {A : Around} {E : Value → Shared → Prop} {s : Shared} {a : Addr} {ks : List Int}
theorem full_mask {m n : Nat} (hm : Mk m) (h1 : n * 5 < m * 3) (h2 : m * 3 ≤ (n + 1) * 5) (h3 : n + 1 ≤ 76) : ∃ m', Mk m' ∧ SetTable.sizeAbove (SetTable.grown (n + 1)) - 1 = m' ∧ n + 1 ≤ m' ∧ (n + 1) * 5 < m' * 3 := by
  rcases hm with rfl | rfl | rfl
  · obtain rfl : n = 4 := by omega
    exact ⟨31, .inr (.inl rfl), by decide +kernel, by omega, by omega⟩
  · obtain rfl : n = 18 := by omega
    exact ⟨127, .inr (.inr rfl), by decide +kernel, by omega, by omega⟩
  · omega
theorem SetAt.put {k : Int} {tk : Tok} {Q : Bool → Shared → Prop} (hS : SetAt prog w s.heap a ks) (room : ks.length + 1 ≤ 76)
    (post : ∀ h' b, (∀ c o, c ≠ a → s.heap.get? c = some o → h'.get? c = some o) → s.heap.objs.size = h'.objs.size → SetAt prog w h' a (meet ks k) → Q b { s with heap := h' }) :
    wpAny (model prog w) A (setAddHashed a (.int k tk) ((intKind prog w).hash k)) Q E s := by
  have hS0 := hS
  obtain ⟨es, t, hin, H, ni⟩ := hS
  have hin0 := hin
  obtain ⟨o, ep, g, x, d⟩ := hin
  have bound : 76 < scanBound := by decide
  have mark : ∀ (m : Bool → Sem Unit) (b : Bool) (s : Shared) (Q : Unit → Shared → Prop), (m = fun b => match b with | true => rule "set.scan.the-table-gave-way" | false => pure ()) → Q () s → wpAny (model prog w) A (m b) Q E s := by
    rintro m b s Q rfl q
    cases b
    · exact wpAny_pure q
    · exact wpAny_rule q
  refine wpAny_holding (wpAny_bind (wpAny_setState_of g d H.fit ?_))
  dsimp only
  rw [byScan_of rfl H.few H.kind, if_pos rfl]
  refine wpAny_bind (wpAny_bind (wpAny_rule (wpAny_bind (wpAny_setScan_of (intKind_is _ _ _ _) g d H.fit H.kind ?_))))
  by_cases met : k ∈ ks
  · obtain ⟨e, he, q⟩ := (H.has k).mpr met
    cases f : List.findIdx? (fun e => (intKind prog w).is k e.2) es.toList with
    | none => exact absurd q (by simp [List.findIdx?_eq_none_iff.mp f e he])
    | some j => exact wpAny_pure (wpAny_pure (post s.heap false (fun _ _ _ e => e) rfl (by rw [meet, if_pos met]; exact hS0)))
  · have f : List.findIdx? (fun e => (intKind prog w).is k e.2) es.toList = none := List.findIdx?_eq_none_iff.mpr fun e he => by
      cases q : (intKind prog w).is k e.2 with
      | false => rfl
      | true => exact absurd ((H.has k).mp ⟨e, he, q⟩) met
    rw [f]
    have ps : t.place.size = es.size := by have := H.fit; unfold SetTable.fits at this; simp at this; exact this.1
    have N := H.new k tk (by omega)
    obtain ⟨n1, n2, n3, n4⟩ := lay_nice (es := es) (h := (intKind prog w).hash k) (x := .int k tk) H.rise ni.2.1 (by have := ni.2.2; omega) ps
    dsimp only
    generalize layNew t es ((intKind prog w).hash k) (.int k tk) = z at N n1 n2 n3 n4 ⊢
    obtain ⟨es1, t1, old, gave⟩ := z
    dsimp only at N n1 n2 n3 n4 ⊢
    subst n4
    have cnt := N.count
    rw [List.length_append, List.length_singleton] at cnt
    have cnt0 := H.count
    refine wpAny_bind (mark _ gave _ _ rfl ?_)
    have done : ∀ h', (∀ c o, c ≠ a → s.heap.get? c = some o → h'.get? c = some o) → s.heap.objs.size = h'.objs.size → SetAt prog w h' a (ks ++ [k]) → Q true { s with heap := h' } := fun h' q1 q2 q3 => post h' true q1 q2 (by rw [meet, if_neg met]; exact q3)
    have rest : wpAny (model prog w) A (do
        storeSet a es1 t1
        if (!false && t1.tooFull) = true then do
          let z := relayAll t1 es1 (SetTable.grown es1.size)
          (fun b => match b with | true => rule "set.scan.the-table-gave-way" | false => pure ()) z.2.2
          storeSet a z.1 z.2.1
          pure (some true)
        else pure (some true)) (fun r s' => ∃ b h', r = some b ∧ s' = { s with heap := h' } ∧ Q b s') E s := by
      refine wpAny_bind (hin0.store N.few fun h1 k1 z1 S1 => ?_)
      have full : t1.tooFull = decide (t1.mask * 3 ≤ t1.place.size * 5) := by
        unfold SetTable.tooFull SetTable.fill
        rw [N.rise.2]
        rfl
      rw [Bool.not_false, Bool.true_and, full]
      split
      · rename_i c
        have c := of_decide_eq_true c
        rw [n2, n3] at c
        obtain ⟨m', q1, q2, q3, q4⟩ := full_mask (n := es.size) ni.2.1 (by rw [← ps]; exact ni.2.2) c (by omega)
        have e1 : es1.size = es.size + 1 := by omega
        rw [← e1] at q2 q3 q4
        have A1 := N.again (SetTable.grown es1.size)
        obtain ⟨r1, r2, r3⟩ := relay_nice (t := t1) (es := es1) q1 q2 q3
        exact wpAny_bind (mark _ _ _ _ rfl (wpAny_bind (SetIn.store (s := { s with heap := h1 }) S1 A1.few fun h2 k2 z2 S2 => wpAny_pure ⟨true, h2, rfl, rfl, done h2 (fun c o hc e => k2 c o hc (k1 c o hc e)) (z1.trans z2) ⟨_, _, S2, A1, r1.trans (n1.trans ni.1), by rw [r2]; exact q1, by rw [r2, r3]; exact q4⟩⟩)))
      · rename_i c
        have c : ¬ t1.mask * 3 ≤ t1.place.size * 5 := fun q => c (decide_eq_true q)
        exact wpAny_pure ⟨true, h1, rfl, rfl, done h1 k1 z1 ⟨_, _, S1, N, n1.trans ni.1, by rw [n2]; exact ni.2.1, by omega⟩⟩
    split
    · rw [hashByValue_scannable 8 rfl]
      refine wpAny_bind (wpAny_pure (wpAny_mono rest (fun r s' q => ?_) fun _ _ q => q))
      obtain ⟨b, h', rfl, rfl, q⟩ := q
      exact wpAny_pure q
    · refine wpAny_bind (wpAny_pure (wpAny_mono rest (fun r s' q => ?_) fun _ _ q => q))
      obtain ⟨b, h', rfl, rfl, q⟩ := q
      exact wpAny_pure q
end
end PM
end
section
set_option maxRecDepth 100000
set_option linter.all false
set_option autoImplicit false
namespace PM
open PySem PySem.W PySem.Calls PyProof.Rows PyProof
theorem meet_len (ks : List Int) (k : Int) : (meet ks k).length ≤ ks.length + 1 := by
  unfold meet
  split
  · exact Nat.le_succ _
  · simp
section
variable {prog : Program} {w : World} {A : Around} {R : Result → Shared → Prop}
theorem fill {l I S : Addr} {us : List Value} {ns : List Int} (hh : A.in1.handled = none) (hSI : S ≠ I) (hSl : S ≠ l) (hIl : l ≠ I) (hi : IntsAre us ns) : ∀ (k i : Nat) (s : Shared) (ks : List Int), us.length = i + k → s.heap.IsListIter I l i → s.heap.IsList l us.toArray → SetAt prog w s.heap S ks → ks.length + k ≤ 76 →
    (∀ h' tk', (∀ b o, b ≠ S → b ≠ I → s.heap.get? b = some o → h'.get? b = some o) → SetAt prog w h' S ((ns.drop i).foldl meet ks) → R (.ok (.ret .none)) { s with heap := h', toks := tk' }) →
    codeAny (model prog w) A (.builtin "set.update.loop" ⟨[.ref S, .ref I], []⟩) R s := by
  intro k
  induction k with
  | zero =>
    intro i s ks e g1 g2 hS room post
    refine codeAny_builtin F.entry_set_update_loop ?_
    rw [Around.under_plainId F.plain_set_update_loop _]
    unfold Builtin.«set.update.loop»
    refine wpAny_bind (wpAny_pyNext_list_end hh g1 g2 (by simp [e]) fun h' he => wpAny_pure ?_)
    have : ns.drop i = [] := List.drop_eq_nil_of_le (by rw [← hi.length, e]; simp)
    rw [this] at post
    exact post h' s.toks (fun b o _ hb q => he b o hb q) (hS.keep fun o q => he S o hSI q)
  | succ k ih =>
    intro i s ks e g1 g2 hS room post
    have lt : i < us.length := by omega
    obtain ⟨tk, ev⟩ := IntsAre.int_at hi i us[i] (List.getElem?_eq_getElem lt)
    refine codeAny_builtin F.entry_set_update_loop ?_
    rw [Around.under_plainId F.plain_set_update_loop _]
    unfold Builtin.«set.update.loop»
    refine wpAny_bind (wpAny_pyNext_list_item g1 g2 (x := us[i]) (by simp [lt]) fun h1 it1 sb1 => ?_)
    rw [ev]
    have S1 : SetAt prog w h1 S ks := hS.keep fun o q => sb1.extBut S o hSI q
    refine wpAny_bind (wpAny_holding (wpAny_holding (wpAny_bind ((intKind prog w).pyHash (k := ns.getD i 0) (intKind_is _ _ _ _) (SetAt.put (s := { s with heap := h1, toks := s.toks + 1 }) S1 (by omega) fun h2 b k2 z2 S2 => ?_)))))
    refine wpAny_pure ⟨plainId_quiet F.plain_set_update_loop _, ih (i + 1) _ _ (by omega) ?_ ?_ S2 (by have := meet_len ks (ns.getD i 0); omega) fun h' tk' kp SS => ?_⟩
    · obtain ⟨o, q1, q2⟩ := it1
      exact ⟨o, k2 I o hSI.symm q1, q2⟩
    · obtain ⟨o, q1, q2⟩ := g2
      exact ⟨o, k2 l o hSl.symm (sb1.extBut l o hIl q1), q2⟩
    · refine post h' tk' (fun b o h1 h2 q => kp b o h1 h2 (k2 b o h1 (sb1.extBut b o h2 q))) ?_
      have ln : i < ns.length := by rw [← hi.length]; exact lt
      rw [List.drop_eq_getElem_cons ln, List.foldl_cons]
      rw [List.getD_eq_getElem?_getD, List.getElem?_eq_getElem ln] at SS
      exact SS
end
end PM
end
section
set_option maxRecDepth 100000
set_option maxHeartbeats 3200000
set_option linter.all false
set_option autoImplicit false
namespace PM
open PySem PySem.W PySem.Calls PyProof.Rows PyProof
section
variable {prog : Program} {w : World} {A : Around} {E : Value → Shared → Prop} {s : Shared}
theorem type_made {T nid iid : String} (C : TypeCalled T nid iid) {args : List Value} (ct : checkTypeCall T ⟨args, []⟩ = pure ()) {N : Value → Shared → Prop} {Q : Value → Shared → Prop}
    (new : ∀ B : Around, B.handled = A.handled → codeAny (model prog w) B (.call (.builtin nid) ⟨.type T :: args, []⟩) (wants N E) s)
    (init : ∀ (B : Around) (x : Value) (s₁ : Shared), B.handled = A.handled → N x s₁ → s₁.TypeIs x T ∧ codeAny (model prog w) B (.call (.builtin iid) ⟨x :: args, []⟩) (wants (fun r s₂ => r = .none ∧ Q x s₂) E) s₁) :
    wpAny (model prog w) A (call (.type T) args) Q E s := by
  obtain ⟨no, can, ⟨_, _, mro⟩, made, plain, sub, slot⟩ := C
  refine wpAny_call (codeAny_of_tree (wpAny_pure ⟨Code.quiet_builtin _ (by decide +kernel), codeAny_builtin F.entry_type_call ?_⟩))
  rw [Around.under_plain (weight_type_call_type T args []) rfl]
  repeat (any_goals (first | assumption | wp_step))
  refine codeAny_mono (new _ (by simp)) fun r s₁ hr => ?_
  match r, hr with
  | .ok (.ret x), hr =>
    obtain ⟨ty, run⟩ := init A.in1 x s₁ (by simp) hr
    have look := slot.lookup
    have bind := slot.bind x
    repeat (any_goals (first | assumption | wp_step))
    refine codeAny_mono (init _ x s₁ (by simp) hr).2 fun r₂ s₂ hr₂ => ?_
    match r₂, hr₂ with
    | .ok (.ret _), ⟨rfl, q⟩ => repeat (any_goals (first | assumption | wp_step))
    | .error e, q => exact q
  | .error e, hr => exact hr
end
end PM
end
section
set_option maxRecDepth 100000
set_option maxHeartbeats 3200000
set_option linter.all false
set_option autoImplicit false
namespace PM
open PySem PySem.W PySem.Calls PyProof.Rows PyProof
section
variable {prog : Program} {w : World} {A : Around} {E : Value → Shared → Prop} {s : Shared}
noncomputable def bareSet (w : World) : Obj := { cls := .type "set", dict := none, data := .set #[] 0 (.fresh 0 0 (!(w.params.followText "set-order"))) }
theorem bare_at {h : Heap} {a : Addr} (g : h.get? a = some (bareSet w)) : SetAt prog w h a [] :=
  ⟨#[], _, ⟨_, 0, g, ⟨rfl, rfl, rfl⟩, rfl⟩, ⟨fun e he => by simp at he, by decide, rfl, ⟨List.Pairwise.nil, rfl⟩, rfl, [], .refl _, .nil⟩, rfl, .inl rfl, (by decide : 0 * 5 < 7 * 3)⟩
theorem bare_new (x : Value) {B : Around} {N : Value → Shared → Prop} (q : N (.ref s.heap.objs.size) { s with heap := s.heap.push (bareSet w) }) :
    codeAny (model prog w) B (.call (.builtin "set.__new__") ⟨[.type "set", x], []⟩) (wants N E) s := by
  refine codeAny_call_builtin F.plain_set_new F.entry_set_new (wpAny_of_eq (F.newCall_set_1 x) ?_)
  unfold Builtin.«set.__new__» Builtin.Frozenset.newClass
  have sub := sub_set_self
  wp_walk
  refine wpAny_askSetting (wpAny_pure ?_)
  simp only [newObj]
  exact wpAny_bind (wpAny_alloc (wpAny_pure (wpAny_pure q)))
theorem set_list {l : Addr} {us : List Value} {ns : List Int} {Q : Value → Shared → Prop} (hh : A.handled = none) (hl : s.heap.IsList l us.toArray) (hi : IntsAre us ns) (room : us.length ≤ 76)
    (post : ∀ h' tk', (∀ b o, s.heap.get? b = some o → h'.get? b = some o) → SetAt prog w h' s.heap.objs.size (ns.foldl meet []) → Q (.ref s.heap.objs.size) { s with heap := h', toks := tk' }) :
    wpAny (model prog w) A (call (.type "set") [.ref l]) Q E s := by
  refine type_made F.called_set (F.typeCall_set_1 _) (N := fun x s₁ => x = .ref s.heap.objs.size ∧ s₁ = { s with heap := s.heap.push (bareSet w) }) (fun B _ => bare_new _ ⟨rfl, rfl⟩) ?_
  rintro B _ _ hB ⟨rfl, rfl⟩
  have gS : (s.heap.push (bareSet w)).get? s.heap.objs.size = some (bareSet w) := Heap.get?_push_size _ rfl
  have ty : Shared.TypeIs { s with heap := s.heap.push (bareSet w) } (.ref s.heap.objs.size) "set" := ⟨_, gS, rfl⟩
  refine ⟨ty, codeAny_call_builtin F.called_set.init.plain F.entry_set_init (check_set_init_1 ty ?_)⟩
  have gl : (s.heap.push (bareSet w)).IsList l us.toArray := hl.push _
  have lt : l < s.heap.objs.size := by obtain ⟨o, g, _⟩ := hl; exact Heap.lt_size g
  have tl : Shared.TypeIs { s with heap := s.heap.push (bareSet w) } (.ref l) "list" := by obtain ⟨o, g, c, _⟩ := gl; exact ⟨o, g, c⟩
  unfold Builtin.«set.__init__» noKeywords Builtin.Frozenset.updateFrom
  have n1 := F.sub_list_set
  have n2 := F.sub_list_frozenset
  have n3 : (Value.type "list" == Value.type "dict") = false := by decide
  obtain ⟨ol, ql, cl, nl, dl⟩ := gl
  have gl : (s.heap.push (bareSet w)).IsList l us.toArray := ⟨ol, ql, cl, nl, dl⟩
  unfold bareSet at *
  generalize pI : pyIter = I
  wp_walk
  subst pI
  refine wpAny_pyIter_list gl (wpAny_bind (wpAny_runValue ?_))
  generalize hK : s.heap.push { cls := .type "set", dict := none, data := .set #[] 0 (.fresh 0 0 (!(w.params.followText "set-order"))) } = K at *
  have size : K.objs.size = s.heap.objs.size + 1 := by subst hK; exact size_push' _ _
  have up : ∀ (o : Obj) b z, s.heap.get? b = some z → (K.push o).get? b = some z := fun o b z e => Heap.get?_push_of_some _ (by subst hK; exact Heap.get?_push_of_some _ e)
  refine fill (l := l) (ns := ns) (us := us) (by simp [hB, hh]) (Nat.ne_of_lt (by dsimp only; omega)) (Nat.ne_of_gt lt) (Nat.ne_of_lt (by dsimp only; rw [size]; exact Nat.lt_succ_of_lt lt)) hi us.length 0 _ [] (by simp) ⟨_, Heap.get?_push_size _ rfl, rfl, rfl⟩ (gl.push _) (bare_at (Heap.get?_push_of_some _ gS)) (by simpa using room) fun h' tk' kp SS => ?_
  refine wpAny_pure (wpAny_pure ⟨rfl, post h' tk' (fun b o e => ?_) SS⟩)
  have lb := Heap.lt_size e
  exact kp b o (Nat.ne_of_lt lb) (Nat.ne_of_lt (by dsimp only; rw [size]; exact Nat.lt_succ_of_lt lb)) (up _ b o e)
end
end PM
end
section
set_option maxRecDepth 100000
set_option linter.all false
set_option autoImplicit false
namespace PM
open PySem PySem.W PySem.Calls PyProof.Rows PyProof
theorem entry_set_iter : entryFor table "set.__iter__" = some Builtin.«frozenset.__iter__» := entryFor_alias (id' := "frozenset.__iter__") (by kernel_rfl) rfl (by decide +kernel) (by kernel_rfl)
theorem slot_setit_next : Slot "set_iterator" "__next__" "set_iterator.__next__" :=
  .of (owner := "set_iterator") (n := "__next__") (by rw [typeLookup_type, builtinLookup_eq_fast]; kernel_rfl) (by decide +kernel) (by decide +kernel) (by decide +kernel)
    (by first | exact .inl (by decide +kernel) | exact .inr (by decide +kernel)) (by rw [isSubtype_type]; kernel_rfl)
theorem entry_setit_next : entryFor table "set_iterator.__next__" = some Builtin.«set_iterator.__next__» := entryFor_of_fast (by kernel_rfl)
theorem args_setit_next (a : Value) : argsOk "set_iterator.__next__" ⟨[a], []⟩ := by unfold argsOk; kernel_rfl
section
variable {prog : Program} {w : World} {A : Around} {E : Value → Shared → Prop} {s : Shared}
theorem stops {α : Type} {Q : α → Shared → Prop} (hh : A.handled = none) (post : ∀ (h' : Heap) (x : Value), (∀ b o, s.heap.get? b = some o → h'.get? b = some o) → Shared.TypeIs { s with heap := h' } x "StopIteration" → E x { s with heap := h' }) :
    wpAny (model prog w) A (newExc (.type "StopIteration") [] >>= fun x => raiseNew (α := α) x) Q E s := by
  refine wpAny_bind ?_
  simp only [newExc, newTuple]
  refine wpAny_bind (wpAny_newObj_type ?_ (by size_fits))
  refine wpAny_bind (m := firstArgMember _ _) (wpAny_of_eq (a := Value.none) (by first | rfl | (simp only [firstArgMember]; rfl)) ?_)
  refine wpAny_newObj_type ?_ (by size_fits)
  simp only [raiseNew]
  refine wpAny_bind (wpAny_handled ?_)
  rw [hh]
  refine wpAny_bind (wpAny_pure (wpAny_throw ?_))
  exact (post _ (.ref _) (fun b o e => Heap.get?_push_of_some _ (Heap.get?_push_of_some _ e)) ⟨_, Heap.get?_push_size _ rfl, rfl⟩)
theorem set_iter {a : Addr} {ks : List Int} {Q : Value → Shared → Prop} (hS : SetAt prog w s.heap a ks)
    (post : ∀ ep o es t, s.heap.get? a = some o → o.ExactSet → o.data = .set es ep t → Held prog w es t ks → Nice t → Q (.ref s.heap.objs.size) { s with heap := s.heap.push { cls := .type "set_iterator", data := .fields #[.int 0 0, .int 0 0, .ref a, .int es.size 0, .int ep 0] } }) :
    wpAny (model prog w) A (pyIter (.ref a)) Q E s := by
  obtain ⟨es, t, ⟨o, ep, g, x, d⟩, H, ni⟩ := hS
  have ty : s.TypeIs (.ref a) "set" := ⟨o, g, x.1⟩
  refine wpAny_pyIter_slot ty F.slot_set_iter (wpAny_call_entry F.slot_set_iter ty entry_set_iter ?_ (F.args_set_iter_1 _))
  unfold Builtin.«frozenset.__iter__»
  refine wpAny_bind (m := Builtin.Frozenset.slot0 _ _) (wpAny_pure ?_)
  refine wpAny_bind (m := Builtin.Frozenset.sizeOf _) (wpAny_bind (m := setEntries _) (wpAny_bind (wpAny_setState_of g d H.fit (wpAny_pure (wpAny_pure ?_)))))
  refine wpAny_bind (m := setDrawn _) (wpAny_bind (wpAny_setState_of g d H.fit (wpAny_bind (m := setsByText) (wpAny_bind (wpAny_askSetting (wpAny_pure (wpAny_pure ?_)))))))
  dsimp only
  rw [if_neg (fun q => by
    have z : (!t.plain && decide (es.size > 1)) = true := ((Bool.and_eq_true _ _).mp q).2
    rw [ni.1] at z
    exact absurd z (by simp))]
  refine wpAny_bind (wpAny_pure (wpAny_bind (m := setEpoch a) (wpAny_bind (wpAny_setState_of g d H.fit (wpAny_pure (wpAny_bind (wpAny_newObj_type (wpAny_pure ?_))))))))
  exact ⟨_, rfl, "set_iterator", _, ⟨_, Heap.get?_push_size _ rfl, rfl⟩, slot_setit_next.lookup, post ep o es t g x d H ni⟩
end
end PM
end
section
set_option maxRecDepth 100000
set_option linter.all false
set_option autoImplicit false
namespace PM
open PySem PySem.W PySem.Calls PyProof.Rows PyProof
theorem erase_perm {α : Type} : ∀ (L : List α) (i : Nat) (h : i < L.length), (L[i] :: L.eraseIdx i).Perm L
  | [], i, h => absurd h (Nat.not_lt_zero _)
  | x :: L, 0, h => .refl _
  | x :: L, i + 1, h => (List.Perm.swap x (L[i]'(by simpa using h)) _).trans ((erase_perm L i (by simpa using h)).cons x)
theorem pick_perm {α : Type} (next : Nat → Nat) : ∀ (fuel k : Nat) (left : List α) (out : Array α), left.length = fuel → (pickOrder.go next fuel k left out).toList.Perm (out.toList ++ left)
  | 0, k, left, out, h => by
    rw [List.length_eq_zero_iff.mp h]
    simp [pickOrder.go]
  | fuel + 1, k, left, out, h => by
    have lt : next k % left.length < left.length := Nat.mod_lt _ (by omega)
    unfold pickOrder.go
    rw [List.getElem?_eq_getElem lt]
    dsimp only
    refine (pick_perm next fuel (k + 1) _ _ (by rw [List.length_eraseIdx_of_lt lt]; omega)).trans ?_
    rw [Array.toList_push, List.append_assoc]
    exact List.Perm.append_left _ (erase_perm left _ lt)
theorem order_perm {α : Type} (next : Nat → Nat) (xs : Array α) : (pickOrder next xs).toList.Perm xs.toList := by
  have := pick_perm next xs.size 0 xs.toList #[] (by simp)
  unfold pickOrder
  simpa using this
noncomputable def wlk (w : World) (a : Addr) (ep : Nat) (es : Array (Int × Value)) : Array (Int × Value) := if w.params.followText "set-order" = true then pickOrder (w.params.setOrder a ep) es else es
theorem wlk_perm (w : World) (a : Addr) (ep : Nat) (es : Array (Int × Value)) : (wlk w a ep es).toList.Perm es.toList := by
  unfold wlk
  split
  · exact order_perm _ _
  · exact .refl _
theorem wlk_size (w : World) (a : Addr) (ep : Nat) (es : Array (Int × Value)) : (wlk w a ep es).size = es.size := by simpa using (wlk_perm w a ep es).length_eq
theorem below_next {t : SetTable} (hi : TInv t) {slot i j : Nat} (h : SetTable.below t.place slot = i) (hj : t.place[i]? = some j) : SetTable.below t.place (j + 1) = i + 1 := by
  obtain ⟨lt, ej⟩ := Array.getElem?_eq_some_iff.mp hj
  obtain ⟨b1, b2, b3⟩ := below_spec (j := j + 1) hi.1
  have up : ∀ a b (ha : a < t.place.size) (hb : b < t.place.size), a < b → t.place[a] < t.place[b] := fun a b ha hb hab => by
    have := List.pairwise_iff_getElem.mp hi.1 a b (by simpa using ha) (by simpa using hb) hab
    simpa using this
  generalize SetTable.below t.place (j + 1) = n at b1 b2 b3
  apply Nat.le_antisymm
  · by_cases c : n ≤ i + 1
    · exact c
    · have := b2 (i + 1) (by omega) (by omega)
      have := up i (i + 1) lt (by omega) (by omega)
      omega
  · by_cases c : i + 1 ≤ n
    · exact c
    · have := b3 i lt (by omega)
      omega
section
variable {prog : Program} {w : World} {A : Around} {E : Value → Shared → Prop} {s : Shared}
noncomputable def Stands (w : World) (t : SetTable) (slot i : Nat) : Prop := w.params.followText "set-order" = true ∨ SetTable.below t.place slot = i
theorem set_next {a : Addr} {o : Obj} {es : Array (Int × Value)} {ep slot i : Nat} {t : SetTable} {ks : List Int} {Q : Option (Value × Nat) → Shared → Prop} (g : s.heap.get? a = some o) (d : o.data = .set es ep t) (H : Held prog w es t ks) (ni : Nice t) (st : Stands w t slot i)
    (some_ : ∀ e n, (wlk w a ep es)[i]? = some e → Stands w t n (i + 1) → Q (some (e.2, n)) s) (none_ : es.size ≤ i → Q none s) : wpAny (model prog w) A (setNext a slot i ep) Q E s := by
  have ps : t.place.size = es.size := by have := H.fit; unfold SetTable.fits at this; simp at this; exact this.1
  unfold setNext
  refine wpAny_bind (wpAny_setState_of g d H.fit (wpAny_bind (m := setsByText) (wpAny_bind (wpAny_askSetting (wpAny_pure ?_)))))
  dsimp only
  by_cases c : w.params.followText "set-order" = true
  · have c' : (model prog w).w.params.followText "set-order" = true := c
    rw [if_pos c', if_neg (by simp)]
    refine wpAny_bind (m := setWalk a) ?_
    unfold setWalk
    refine wpAny_bind (wpAny_setState_of g d H.fit (wpAny_bind (m := setsByText) (wpAny_bind (wpAny_askSetting (wpAny_pure ?_)))))
    rw [if_pos c']
    refine wpAny_bind (wpAny_askSetting (wpAny_pure (wpAny_pure ?_)))
    have ew : wlk w a ep es = pickOrder (w.params.setOrder a ep) es := if_pos c
    have sz := wlk_size w a ep es
    rw [ew] at some_ sz
    show Q (((pickOrder (w.params.setOrder a ep) es)[i]?).map fun e => (e.2, slot)) s
    cases e : (pickOrder (w.params.setOrder a ep) es)[i]? with
    | none => exact none_ (by have := Array.getElem?_eq_none_iff.mp e; omega)
    | some x => exact some_ x slot e (.inl c)
  · have c' : ¬ (model prog w).w.params.followText "set-order" = true := c
    have led : t.led = true := by rw [H.led]; simp [c]
    have at_i : SetTable.below t.place slot = i := st.resolve_left c
    rw [if_neg c', if_neg (fun q => by
      have z : (!t.plain && decide (es.size > 1)) = true := q
      rw [ni.1] at z
      exact absurd z (by simp))]
    refine wpAny_bind (wpAny_of_eq (a := ()) (by show (if (!t.led && !es.isEmpty) = true then _ else _) = _; rw [led]; rfl) (wpAny_pure ?_))
    have ew : wlk w a ep es = es := if_neg c
    rw [ew] at some_
    rw [at_i]
    by_cases lt : i < es.size
    · rw [Array.getElem?_eq_getElem lt, Array.getElem?_eq_getElem (ps ▸ lt)]
      exact some_ es[i] _ (Array.getElem?_eq_getElem lt) (.inr (below_next H.rise at_i (Array.getElem?_eq_getElem (ps ▸ lt))))
    · rw [Array.getElem?_eq_none (by omega)]
      exact none_ (by omega)
end
end PM
end
section
set_option maxRecDepth 100000
set_option linter.all false
set_option autoImplicit false
namespace PM
open PySem PySem.W PySem.Calls PyProof.Rows PyProof
noncomputable def SIt (h : Heap) (I a : Addr) (slot i n ep : Nat) : Prop := ∃ o, h.get? I = some o ∧ o.cls = .type "set_iterator" ∧ o.data = .fields #[.int slot 0, .int i 0, .ref a, .int n 0, .int ep 0]
section
variable {prog : Program} {w : World} {A : Around} {E : Value → Shared → Prop} {s : Shared}
theorem set_pyNext {I a : Addr} {o : Obj} {es : Array (Int × Value)} {ep slot i : Nat} {t : SetTable} {ks : List Int} {Q : Option Value → Shared → Prop} (hh : A.handled = none) (it : SIt s.heap I a slot i es.size ep) (ne : a ≠ I) (g : s.heap.get? a = some o) (d : o.data = .set es ep t) (H : Held prog w es t ks) (ni : Nice t) (st : Stands w t slot i)
    (some_ : ∀ e n h', (wlk w a ep es)[i]? = some e → Stands w t n (i + 1) → SIt h' I a n (i + 1) es.size ep → (∀ b z, b ≠ I → s.heap.get? b = some z → h'.get? b = some z) → Q (some e.2) { s with heap := h' })
    (none_ : ∀ h', es.size ≤ i → (∀ b z, b ≠ I → s.heap.get? b = some z → h'.get? b = some z) → Q none { s with heap := h' }) : wpAny (model prog w) A (pyNext (.ref I)) Q E s := by
  obtain ⟨oi, gi, ci, di⟩ := it
  have ty : s.TypeIs (.ref I) "set_iterator" := ⟨oi, gi, ci⟩
  unfold pyNext
  refine wpAny_bind (wpAny_attempt (wpAny_callSpecial?_slot (name := Str.ofString "__next__") ty slot_setit_next (wpAny_call_entry slot_setit_next ty entry_setit_next ?_ (args_setit_next _))))
  unfold Builtin.«set_iterator.__next__»
  refine wpAny_bind (m := slotArgs _ _ _) (wpAny_pure (wpAny_bind (wpAny_fieldsOf gi di ?_)))
  dsimp only
  refine wpAny_bind (m := setEntries _) (wpAny_bind (wpAny_setState_of g d H.fit (wpAny_pure ?_)))
  dsimp only
  rw [if_neg (by simp)]
  refine wpAny_bind (m := setNext _ _ _ _) ?_
  rw [Int.toNat_natCast, Int.toNat_natCast, Int.toNat_natCast]
  refine set_next g d H ni st (fun e n he hn => ?_) (fun le => ?_)
  · dsimp only
    refine wpAny_bind (wpAny_setField gi di (by simp) ?_)
    have g1 := Heap.get?_update_self (Obj.mapFields (·.setIfInBounds 0 (rawInt n))) gi (Obj.isFreed_of_fields (Obj.data_mapFields di _))
    have d1 := Obj.data_mapFields di (·.setIfInBounds 0 (rawInt n))
    refine wpAny_bind (wpAny_setField g1 d1 (by simp) (wpAny_pure ⟨_, rfl, wpAny_pure (some_ e n _ he hn ?_ ?_)⟩))
    · exact ⟨_, Heap.get?_update_self _ g1 (Obj.isFreed_of_fields (Obj.data_mapFields d1 _)), (Obj.cls_mapFields ..).trans ((Obj.cls_mapFields ..).trans ci), by rw [Obj.data_mapFields d1]; simp [rawInt]⟩
    · intro b z hb q
      rw [Heap.get?_update_ne _ _ _ _ hb, Heap.get?_update_ne _ _ _ _ hb]
      exact q
  · dsimp only
    refine wpAny_bind (wpAny_setField gi di (by simp) ?_)
    refine stops hh fun h' x kp tx => ?_
    refine wpAny_bind (wpAny_isInstance (T := "StopIteration") (b := true) tx isSubtype_stop (wpAny_pure (none_ h' le fun b z hb q => kp b z ?_)))
    rw [Heap.get?_update_ne _ _ _ _ hb]
    exact q
end
end PM
end
section
set_option maxRecDepth 100000
set_option linter.all false
set_option autoImplicit false
namespace PM
open PySem PySem.W PySem.Calls PyProof.Rows PyProof
section
variable {prog : Program} {w : World} {A : Around} {R : Result → Shared → Prop}
theorem gather {I a S : Addr} {o : Obj} {es : Array (Int × Value)} {ep : Nat} {t : SetTable} {ks : List Int} (hh : A.in1.handled = none) (h1 : a ≠ I) (h2 : S ≠ I) (h3 : S ≠ a) (d : o.data = .set es ep t) (H : Held prog w es t ks) (ni : Nice t) (few : es.size ≤ 76) : ∀ (k i slot : Nat) (s : Shared) (c : Nat), es.size = i + k → SIt s.heap I a slot i es.size ep → Stands w t slot i → s.heap.get? a = some o → s.heap.get? S = some (seqObj "list" (((wlk w a ep es).toList.take i).map (·.2)).toArray c) →
    (∀ h', (∀ b z, b ≠ S → b ≠ I → s.heap.get? b = some z → h'.get? b = some z) → (∃ c', h'.get? S = some (seqObj "list" ((wlk w a ep es).toList.map (·.2)).toArray c')) → R (.ok (.ret (.ref S))) { s with heap := h' }) →
    codeAny (model prog w) A (.builtin "list.extend.loop" ⟨[.ref S, .ref I, .ref S], []⟩) R s := by
  have sz := wlk_size w a ep es
  have line : 76 ≤ sizeLine := by rw [sizeLine_eq]; omega
  intro k
  induction k with
  | zero =>
    intro i slot s c e it st g gS post
    refine codeAny_builtin F.entry_extend_loop ?_
    rw [Around.under_plainId F.plain_extend_loop _]
    unfold Builtin.«list.extend.loop»
    refine wpAny_bind (set_pyNext hh it h1 g d H ni st (fun x n h' q _ _ _ => ?_) fun h' _ kp => ?_)
    · have := (Array.getElem?_eq_some_iff.mp q).1
      omega
    · rw [List.take_of_length_le (by rw [Array.length_toList]; omega)] at gS
      exact wpAny_pure (post h' (fun b z _ hb q => kp b z hb q) ⟨c, kp S _ h2 gS⟩)
  | succ k ih =>
    intro i slot s c e it st g gS post
    refine codeAny_builtin F.entry_extend_loop ?_
    rw [Around.under_plainId F.plain_extend_loop _]
    unfold Builtin.«list.extend.loop»
    refine wpAny_bind (set_pyNext hh it h1 g d H ni st (fun x n h' q st' it' kp => ?_) fun h' le _ => by omega)
    have gS' := kp S _ h2 gS
    have len : (((wlk w a ep es).toList.take i).map (·.2)).toArray.size ≤ 76 := by rw [List.size_toArray, List.length_map, List.length_take]; omega
    dsimp only
    refine wpAny_bind (listUpdate_at gS' rfl ?_ (by omega) (by rw [Array.size_push]; omega))
    have off : ∀ b z, b ≠ S → h'.get? b = some z → (h'.update S (Obj.mapSeq (·.push x.2))).get? b = some z := fun b z hb q => by rw [Heap.get?_update_ne _ _ _ _ hb]; exact q
    have on := get?_update_seq gS' (·.push x.2)
    rw [show ((((wlk w a ep es).toList.take i).map (·.2)).toArray.push x.2) = (((wlk w a ep es).toList.take (i + 1)).map (·.2)).toArray by
      rw [← Array.getElem?_toList] at q
      rw [List.take_succ, q]
      simp] at on
    refine wpAny_pure ⟨plainId_quiet F.plain_extend_loop _, ih (i + 1) n _ _ (by omega) ?_ st' (off a o h3.symm (kp a o h1 g)) on fun h2' kp2 fin => ?_⟩
    · obtain ⟨oi, q1, q2⟩ := it'
      exact ⟨oi, off I oi h2.symm q1, q2⟩
    · exact post h2' (fun b z q1 q2 q => kp2 b z q1 q2 (off b z q1 (kp b z q2 q))) fin
end
section
variable {prog : Program} {w : World} {A : Around} {E : Value → Shared → Prop} {s : Shared}
theorem ints_perm {us vs : List Value} (p : us.Perm vs) : ∀ {ks : List Int}, IntsAre vs ks → ∃ ms, IntsAre us ms ∧ ms.Perm ks := by
  induction p with
  | nil => intro ks h; exact ⟨ks, h, .refl _⟩
  | cons x _ ih =>
    intro ks h
    cases h with
    | cons n t h =>
      obtain ⟨ms, a, b⟩ := ih h
      exact ⟨n :: ms, .cons n t a, b.cons n⟩
  | swap x y l =>
    intro ks h
    cases h with
    | cons n t h =>
      cases h with
      | cons m u h => exact ⟨m :: n :: _, .cons m u (.cons n t h), .swap n m _⟩
  | trans _ _ ih1 ih2 =>
    intro ks h
    obtain ⟨ms, a, b⟩ := ih2 h
    obtain ⟨ms', a', b'⟩ := ih1 a
    exact ⟨ms', a', b'.trans b⟩
theorem split_set_len : splitId "set.__len__" = some ("set", "__len__") := by kernel_rfl
theorem collect_set {a : Addr} {ks : List Int} {Q : List Value → Shared → Prop} (hh : A.handled = none) (hS : SetAt prog w s.heap a ks) (few : ks.length ≤ 76)
    (post : ∀ (h' : Heap) (us : List Value) (ms : List Int), (∀ b o, s.heap.get? b = some o → h'.get? b = some o) → IntsAre us ms → ms.Perm ks → Q us { s with heap := h' }) : wpAny (model prog w) A (collect (.ref a)) Q E s := by
  have hS0 := hS
  obtain ⟨es, t, ⟨o, ep, g, x, d⟩, H, ni⟩ := hS
  have cnt := H.count
  have lt := Heap.lt_size g
  have line : 76 ≤ sizeLine := by rw [sizeLine_eq]; omega
  have wb : Builtin.List.listSameRef (.ref s.heap.objs.size) (.ref a) = false := by
    simp [Builtin.List.listSameRef]
    exact Nat.ne_of_gt lt
  unfold collect
  refine wpAny_bind (wpAny_runValue (codeAny_builtin F.entry_proto_collect ?_))
  rw [Around.under_plainId F.plain_proto_collect _]
  refine wpAny_bind (m := newList []) (wpAny_newList (wpAny_pure ⟨plainId_quiet F.plain_list_iadd _, codeAny_builtin F.entry_list_iadd ?_⟩) (Nat.zero_le _))
  rw [Around.under_plainId F.plain_list_iadd _]
  generalize hK : s.heap.push (seqObj "list" #[] 0) = K
  have size : K.objs.size = s.heap.objs.size + 1 := by subst hK; exact size_push' _ _
  have up : ∀ b z, s.heap.get? b = some z → K.get? b = some z := fun b z e => by subst hK; exact Heap.get?_push_of_some _ e
  have gS : K.get? s.heap.objs.size = some (seqObj "list" #[] 0) := by subst hK; exact Heap.get?_push_size _ rfl
  have ty : ∀ h : Heap, h.get? a = some o → Shared.TypeIs { s with heap := h } (.ref a) "set" := fun h q => ⟨o, q, x.1⟩
  show wpAny _ _ (Builtin.List.listExtendWith (.ref s.heap.objs.size) (.ref a) (.ref s.heap.objs.size)) _ _ { s with heap := K }
  unfold Builtin.List.listExtendWith
  refine wpAny_bind (wpAny_typeOf (ty K (up a o g)) ?_)
  rw [if_neg (by rw [wb]; decide)]
  refine wpAny_bind (set_iter (s := { s with heap := K }) (hS0.keep fun z => up a z) fun ep' o' es' t' g' x' d' H' ni' => ?_)
  dsimp only at g'
  rw [up a o g] at g'
  cases g'
  rw [d] at d'
  cases d'
  generalize hL : K.push { cls := .type "set_iterator", data := .fields #[.int 0 0, .int 0 0, .ref a, .int es.size 0, .int ep 0] } = L
  have upL : ∀ b z, K.get? b = some z → L.get? b = some z := fun b z e => by subst hL; exact Heap.get?_push_of_some _ e
  have itL : SIt L K.objs.size a 0 0 es.size ep := ⟨_, by subst hL; exact Heap.get?_push_size _ rfl, rfl, rfl⟩
  have gL := upL a o (up a o g)
  refine wpAny_bind (wpAny_holding ?_)
  unfold Builtin.List.listLengthHint
  refine wpAny_bind (wpAny_specialOf (ty L gL) F.slot_set_len.lookup ?_)
  dsimp only
  rw [split_set_len]
  dsimp only
  refine wpAny_bind (wpAny_isInstance (ty L gL) sub_set_self ?_)
  rw [if_neg (by simp)]
  rw [if_pos (by decide)]
  refine wpAny_bind (wpAny_typeOf (ty L gL) ?_)
  refine wpAny_pure ?_
  rw [if_pos (by decide)]
  have ne : s.heap.objs.size ≠ K.objs.size := Nat.ne_of_lt (by omega)
  refine wpAny_bind (wpAny_rule (wpAny_bind (m := Builtin.List.listTouch _) ?_))
  have q0 : L.get? s.heap.objs.size = some (seqObj "list" #[] 0) := upL _ _ gS
  have q1 := get?_update_seq q0 (·.push Value.none)
  have q2 := get?_update_seq q1 (·.pop)
  have off : ∀ b z, b ≠ s.heap.objs.size → L.get? b = some z → ((L.update s.heap.objs.size (Obj.mapSeq (·.push Value.none))).update s.heap.objs.size (Obj.mapSeq (·.pop))).get? b = some z := fun b z hb q => by
    rw [Heap.get?_update_ne _ _ _ _ hb, Heap.get?_update_ne _ _ _ _ hb]
    exact q
  refine wpAny_bind (listUpdate_at q0 rfl (listUpdate_at q1 rfl ?_ (by simp; omega) (by simp)) (by simp) (by simp))
  obtain ⟨oi, qi, ri⟩ := itL
  refine wpAny_pure ⟨plainId_quiet F.plain_extend_loop _, gather (by simpa using hh) (Nat.ne_of_lt (by rw [size]; exact Nat.lt_succ_of_lt lt)) ne (Nat.ne_of_gt lt) d H ni (by omega) es.size 0 0 _ _ (by simp) ⟨oi, off _ _ ne.symm qi, ri⟩ ?_ (off a o (Nat.ne_of_lt lt) gL) q2 fun h' kp fin => ?_⟩
  · by_cases c : w.params.followText "set-order" = true
    · exact .inl c
    · refine .inr ?_
      obtain ⟨b1, b2, b3⟩ := below_spec (j := 0) H.rise.1
      cases e : SetTable.below t.place 0 with
      | zero => rfl
      | succ n =>
        rw [e] at b1 b2
        exact absurd (b2 0 (by omega) (by omega)) (Nat.not_lt_zero _)
  · obtain ⟨c', fin⟩ := fin
    refine wpAny_bind (wpAny_load fin (wpAny_pure ?_))
    obtain ⟨vs, p, i1⟩ := H.same
    obtain ⟨ms, i2, p2⟩ := ints_perm (((wlk_perm w a ep es).map (·.2)).trans p) i1
    refine post h' _ ms (fun b z q => ?_) i2 p2
    have lb := Heap.lt_size q
    exact kp b z (Nat.ne_of_lt lb) (Nat.ne_of_lt (by rw [size]; exact Nat.lt_succ_of_lt lb)) (off b z (Nat.ne_of_lt lb) (upL b z (up b z q)))
end
end PM
end
section
set_option maxRecDepth 100000
set_option linter.all false
set_option autoImplicit false
namespace PM
open PySem PySem.W PySem.Calls PyProof.Rows PyProof
noncomputable def uniq (ns : List Int) : List Int := ns.foldl meet []
theorem uniq_len (ns : List Int) : (uniq ns).length ≤ ns.length := by
  have : ∀ (ns ks : List Int), (ns.foldl meet ks).length ≤ ks.length + ns.length := by
    intro ns
    induction ns with
    | nil => intro ks; simp
    | cons n ns ih =>
      intro ks
      have := ih (meet ks n)
      have := meet_len ks n
      simp only [List.foldl_cons, List.length_cons]
      omega
  simpa [uniq] using this ns []
section
variable {prog : Program} {w : World} {A : Around} {E : Value → Shared → Prop} {s : Shared}
theorem sorted_set {a : Addr} {ks : List Int} {Q : Value → Shared → Prop} (hh : A.handled = none) (hS : SetAt prog w s.heap a ks) (few : ks.length < 64)
    (post : ∀ (D : Addr) (K h' : Heap) (out : List Value) (j : Nat), (∀ b o, s.heap.get? b = some o → K.get? b = some o) → (∀ b o, K.get? b = some o → h'.get? b = some o) → K.objs.size ≤ D → h'.get? D = some (lstB out j) → IntsAre out (sortI ks) → Q (.ref D) { s with heap := h' }) : wpAny (model prog w) A (call (.builtin "sorted") [.ref a]) Q E s := by
  have line : 64 ≤ sizeLine := by rw [sizeLine_eq]; omega
  refine Calls.call_function_entry kind_sorted plain_sorted entry_sorted (args_sorted1 _) ?_
  unfold Builtin.«sorted»
  refine wpAny_bind (m := checkCount "sorted" 1 1 _) (wpAny_pure (wpAny_bind (collect_set (by simpa using hh) hS (by omega) fun K us ms up iu pm => ?_)))
  have lu : us.length < 64 := by rw [iu.length, pm.length_eq]; exact few
  refine wpAny_bind (wpAny_newList ?_ (by omega))
  have mine : (K.push (seqObj "list" us.toArray 0)).get? K.objs.size = some (seqObj "list" us.toArray 0) := Heap.get?_push_size _ rfl
  refine wpAny_bind (wpAny_holding (wpAny_call_entry slot_list_sort ⟨_, mine, rfl⟩ entry_list_sort (list_sort_tree (s := { s with heap := K.push (seqObj "list" us.toArray 0) }) mine iu lu fun out ns' i1 p1 p2 => ?_) (args_list_sort _)))
  have em := sortI_is (p1.trans pm) p2
  subst em
  obtain ⟨j, at_D⟩ := sortedHeap_at (out := out) mine
  refine ⟨_, rfl, wpAny_pure ⟨_, rfl, post _ K _ out.toList j up (fun b o e => ?_) (Nat.le_refl _) at_D i1⟩⟩
  have lb := Heap.lt_size e
  refine (sortedHeap_old (Nat.ne_of_lt lb) ?_).trans (Heap.get?_push_of_some _ e)
  rw [size_push']
  exact Nat.lt_succ_of_lt lb
end
noncomputable def oSortSet : List V → Hp → Option (V × Hp)
  | [.ref a], H => H[a]?.bind fun vs => (toInts vs).bind fun ns => if vs.length < 64 then some (.ref H.length, H ++ [(sortI (uniq ns)).map V.int]) else none
  | _, _ => none
section
variable {prog : Program} {w : World} {Γ : Cx}
theorem J.sortSet {x y : Str} {np np' pos pos' : Pos} {e : Expr} {g : Exs} (hx : Nm prog w Γ x (.builtin "sorted")) (hy : Nm prog w Γ y (.type "set")) (h : Js prog w Γ [e] g)
    (he : starEach [e] Γ.env = (false, eval e Γ.env) :: starEach [] Γ.env := by rfl) : J prog w Γ (.Call (.Name x np) [.Call (.Name y np') [e] [] pos'] [] pos) (eCall oSortSet g) := by
  intro W ρ H fr s Q E v H' r hf post
  obtain ⟨p, e1, hf⟩ := Option.bind_eq_some_iff.mp hf
  refine wpAny_Call_ofName (hx.use r (callWith_builtin1 (wpAny_items_cons ?_ rfl) rfl rfl))
  refine wpAny_Call_ofName (hy.use r (PySem.Pv.callWith_type1 (h pos' W ρ H fr s _ E _ _ r e1 fun W1 k1 t1 zs l1 r1 z1 => ?_) he rfl))
  obtain ⟨us, H1⟩ := p
  unfold oSortSet at hf
  dsimp only at hf
  split at hf
  · obtain ⟨vs, e2, hf⟩ := Option.bind_eq_some_iff.mp hf
    obtain ⟨ns, e3, hf⟩ := Option.bind_eq_some_iff.mp hf
    split at hf
    · rename_i h64
      cases hf
      obtain ⟨z, ez, rz⟩ := z1.one
      subst ez
      cases rz with
      | @ref _ a ea =>
        obtain ⟨hl, ys, k, hg, hv⟩ := r1.at e2 ea
        have ii := ints_of hv e3
        have lv : ys.length = vs.length := hv.length
        have ln : ns.length = vs.length := by rw [← lv]; exact ii.length.symm
        have ul := uniq_len ns
        refine set_list (s := { s with heap := k1, toks := t1 }) Γ.hh ⟨_, hg, rfl, k, rfl⟩ ii (by omega) fun h2 t2 up SS => wpAny_items_nil ?_
        refine sorted_set (s := { s with heap := h2, toks := t2 }) Γ.hh SS (by show (uniq ns).length < 64; omega) fun D K h3 out j u1 u2 big gD io => ?_
        have rK := (r1.grown up).grown u1
        obtain ⟨r2, ap⟩ := rK.more (h' := h3) (fs := [(D, lstB out j)]) u2 (fun q hq => by rw [List.mem_singleton.mp hq]; exact ⟨gD, big⟩)
        obtain ⟨W2, l2, r3, v3⟩ := Rep.adopt r2 (fun t ht => ap _ List.mem_cons_self t ht) (of_ints io) (by rw [List.length_map, sortI_len]; exact Nat.le_trans (by show (uniq ns).length ≤ vs.length; omega) hl)
        exact post W2 _ t2 _ (l1.trans l2) r3 v3
    · cases hf
  · cases hf
end
end PM
end
section
set_option maxRecDepth 100000
set_option linter.all false
set_option autoImplicit false
namespace TM
open PySem PM
noncomputable def qSortSet : List T → Option T
  | [.lst ts] => (intsT ts).bind fun ns => if ts.length < 64 then some (.lst ((sortI (uniq ns)).map T.int)) else none
  | _ => none
theorem c_sortSet : OCn oSortSet qSortSet := fun H vs ts t F hp r h => by
  unfold qSortSet at h
  split at h
  · obtain ⟨v, rfl, r'⟩ := r.one_inv
    cases r' with
    | @ref _ us _ _ e hs =>
      obtain ⟨ks, h1, h⟩ := Option.bind_eq_some_iff.mp h
      split at h
      · rename_i h64
        cases h
        refine ⟨_, [(sortI (uniq ks)).map V.int], _, ?_, newL (ints_rfs (sortI (uniq ks))), fun a m => ?_, fun _ => ?_⟩
        · simp only [oSortSet, e, Option.bind_some, ints_ok hs h1]
          rw [if_pos (by rw [hs.length]; exact h64)]
        · rcases List.mem_cons.mp m with rfl | m
          · exact .inl (Nat.le_refl _)
          · cases m
        · simp
      · cases h
  · cases h
theorem ints_m77 : ∀ (ns : List Int), intsT (ns.map T.int) = some ns
  | [] => rfl
  | n :: ns => by simp [intsT, ints_m77 ns]
theorem tk_sortSet {Q : T → Prop} {ns : List Int} (hn : ns.length < 64) (h : Q (.lst ((sortI (uniq ns)).map T.int))) : Pk (qSortSet [.lst (ns.map T.int)]) Q := by
  refine ⟨_, ?_, h⟩
  simp only [qSortSet, ints_m77, Option.bind_some]
  rw [if_pos (by simpa using hn)]
end TM
end
section
set_option maxRecDepth 100000
set_option linter.all false
set_option autoImplicit false
namespace PM
open PySem PySem.W PySem.Calls PyProof.Rows PyProof PySem.Spec
section
variable {prog : Program} {w : World} {K : Frag} {p : Program} {loose : List Str} {mean : ExcName → Option Value} {mg mb : Str → Option Value}
theorem top_law0 {P : Params} {h₀ : Heap} {s : Shared} {sa fa : Addr} {cd : Value} {ns : List Int} {qual pname : Str} {scope : Scope} {body : List Stmt} {names : List Str} {g : Sm} {Q : Flow → Shared → Prop} {E : Value → Shared → Prop} {room : Nat} {H' : Hp}
    (hbody : ∀ (dp un : Nat) (gd : Option (List Code)) (L a : Addr) (ccd : Value) (outer : List Env) (h₀ : Heap) (hu : un + 200 < cLine), Clr K p loose mean mg mb (fnCx dp un gd qual scope L a ccd (cellsFrom (L + 1) scope.names []) outer h₀ hu names) dp un → dp + room < recursionLimit → un + 10 * room + 300 < cLine →
      Ss prog w (fnCx dp un gd qual scope L a ccd (cellsFrom (L + 1) scope.names []) outer h₀ hu names) body g)
    (hd : callerA.depth + 1 + room < recursionLimit) (hun : callerA.units + 3 + 10 * room + 300 < cLine) (hk : scope.kind = .function) (h0 : names[0]? = some pname) (hc : ∀ n, cellsFrom n scope.names [] = []) (hl : (envOfC qual scope h₀.objs.size fa cd).kindOf pname = some .local)
    (KX : K.In h₀) (T : Top p loose mean mg mb h₀) (w1 : Well P h₀ (.ref sa) (ofPy (.list (ns.map PyData.int)))) (hlen : ns.length ≤ LEN)
    (F : Fr h₀ h₀.objs.size s.heap (fun x => List.lookup x [(pname, Value.ref sa)].reverse)) (N : News h₀ h₀.objs.size s.heap [])
    (hg : runF 1 g [.ref 0] [ns.map V.int] = some (.bool true, H')) (post : ∀ h' tk' m', Fr h₀ h₀.objs.size h' m' → Q (.ret (.bool true)) { s with heap := h', toks := tk' }) :
    wpAny (model prog w) (callerA.deeper (envOf qual scope h₀.objs.size fa cd)) (execs body (envOf qual scope h₀.objs.size fa cd)) Q E s := by
  have e : envOf qual scope h₀.objs.size fa cd = envOfC qual scope h₀.objs.size fa cd := by unfold envOf envOfC; rw [hc]
  have eb : (fun x => List.lookup x [(pname, Value.ref sa)].reverse) = bindL (envOfC qual scope h₀.objs.size fa cd).kindOf [(pname, .ref sa)] fun _ => none := by
    funext x
    simp only [bindL, hl, if_true, List.reverse_cons, List.reverse_nil, List.nil_append, List.lookup]
    by_cases q : x = pname
    · subst q; simp
    · rw [if_neg q]
      have : (x == pname) = false := by simpa using q
      rw [this]
  rw [e]
  exact top_law hbody hd hun hk h0 KX T w1 hlen (eb ▸ F) N (by rw [hc]; exact CellsAre.nil) hg post
end
end PM
end
section
set_option maxRecDepth 100000
set_option linter.all false
set_option autoImplicit false
namespace PM
open PySem PySem.W PySem.Calls PyProof.Rows PyProof PySem.Spec
section
variable {prog : Program} {w : World} {Γ : Cx}
theorem jN {n : Nat} {pos : Pos} : J prog w Γ (.Constant .none n pos) eNone := J.none _ _
end
section
variable {prog : Program} {w : World} {dp un : Nat} {gd : Option (List Code)} {cn : Str} {cs : Scope} {L a : Addr} {ccd : Value} {cl : List (Str × Addr)} {outer : List Env} {h₀ : Heap} {hu : un + 200 < cLine} {names : List Str}
end
section
variable {prog : Program} {w : World} {K : Frag} {p : Program} {loose : List Str} {mean : ExcName → Option Value} {mg mb : Str → Option Value} {Γ : Cx} {dp un : Nat}
end
section
variable {prog : Program} {w : World} {Γ : Cx} {scope : Scope} {cl : List (Str × Addr)} {C : Addr} {ts : List (Str × Nat)} {ρ0 : Lc}
end
section
variable {prog : Program} {w : World} {dp un : Nat} {gd : Option (List Code)} {cn : Str} {cs : Scope} {L a : Addr} {ccd : Value} {clf : List (Str × Addr)} {outer : List Env} {h₀ : Heap} {hu : un + 200 < cLine} {names : List Str} {scope : Scope} {cl : List (Str × Addr)} {C : Addr} {ts : List (Str × Nat)} {ρ0 : Lc}
end
end PM
end
section
set_option linter.all false
set_option maxRecDepth 100000
set_option maxHeartbeats 2000000
open PySem PM TM
namespace L
noncomputable def law_draw_g : Sm := sSeq (sSet 2 (eBin oIdx (eVar 0) (eInt 1))) (sSeq (sPut (eBin oAdd (eVar 2) (eInt 1)) (eVar 0) (eInt 1)) (sSeq (sIf (tVal (eBin oEq (eCall oLen (eCons (eBin oIdx (eVar 0) (eInt 0)) eNil)) (eInt 0))) (sRet (eInt 0)) sNext) (sRet (eBin oMod (eBin oAdd (eBin oIdx (eBin oIdx (eVar 0) (eInt 0)) (eBin oMod (eVar 2) (eCall oLen (eCons (eBin oIdx (eVar 0) (eInt 0)) eNil)))) (eBin oDiv (eVar 2) (eCall oLen (eCons (eBin oIdx (eVar 0) (eInt 0)) eNil)))) (eVar 1)))))
noncomputable def law_draw_f : List V → Hp → Option (V × Hp) := runF 2 law_draw_g
noncomputable def law_draw_q : PS := (qSeq (qSetX 2 (xP (pFlat (pBin qIdx (pVar 0) (pInt 1))))) (qSeq (qPutS 0 1 false (pBin qAdd (pVar 2) (pInt 1)) paNil (pInt 1)) (qSeq (qIfX (xB (bVal (pBin qEq (pCall qLen (pCons (pBin qIdx (pVar 0) (pInt 0)) pNil)) (pInt 0)))) (qRetX (xP (pInt 0))) qNext) (qRetX (xP (pBin qMod (pBin qAdd (pBin qIdx (pBin qIdx (pVar 0) (pInt 0)) (pBin qMod (pVar 2) (pCall qLen (pCons (pBin qIdx (pVar 0) (pInt 0)) pNil)))) (pBin qDiv (pVar 2) (pCall qLen (pCons (pBin qIdx (pVar 0) (pInt 0)) pNil)))) (pVar 1)))))))
noncomputable def law_draw_x : List T → Option (T × List T) := runX 2 [(0, 1)] law_draw_q
theorem law_draw_s : SimX 2 [(0, 1)] true law_draw_f law_draw_x := SimX.of (show SU [] [(0, 1)] [] [(0, 1)] [(0, 1)] true law_draw_g law_draw_q from (SU.seq (SU.set (i := 2) (O' := []) (S' := [(0, 1)]) (EX.pure (E.flat (E.binI i_idx (E.var 0) (E.int _))) (by decide)) (by decide) (by decide) (by decide)) (SU.seq (SU.putS (x := 0) (d := 1) (own := false) (O' := []) (S' := [(0, 1)]) (by decide) (by decide) (E.binC c_add (E.var 2) (E.int _)) PaU.var (E.int _) (by decide) (by decide) (by decide)) (SU.seq (SU.ife (BX.pure (Bt.val (E.binA a_eq (E.callA a_len (Es.cons (E.binI i_idx (E.var 0) (E.int _)) Es.nil)) (E.int _)))) (SU.retF (O' := []) (S' := [(0, 1)]) (EX.pure (E.int _) (by decide)) (by decide) (by decide)) SU.next) (SU.retF (O' := []) (S' := [(0, 1)]) (EX.pure (E.binA a_mod (E.binC c_add (E.binI i_idx (E.binI i_idx (E.var 0) (E.int _)) (E.binA a_mod (E.var 2) (E.callA a_len (Es.cons (E.binI i_idx (E.var 0) (E.int _)) Es.nil)))) (E.binA a_div (E.var 2) (E.callA a_len (Es.cons (E.binI i_idx (E.var 0) (E.int _)) Es.nil)))) (E.var 1)) (by decide)) (by decide) (by decide)))))) (by decide) (by decide)
noncomputable def law_number_v77_g : Sm := sSeq (sSet 1 (eCall law_draw_f (eCons (eVar 0) (eCons (eInt 4) eNil)))) (sSeq (sIf (tVal (eBin oEq (eVar 1) (eInt 0))) (sRet (eBin oSub (eCall law_draw_f (eCons (eVar 0) (eCons (eBin oAdd (eBin oMul (eInt 2) (eBin oPow (eInt 10) (eInt 60))) (eInt 1)) eNil))) (eBin oPow (eInt 10) (eInt 60)))) sNext) (sSeq (sIf (tVal (eBin oEq (eVar 1) (eInt 1))) (sRet (eBin oSub (eCall law_draw_f (eCons (eVar 0) (eCons (eBin oAdd (eBin oMul (eInt 2) (eBin oPow (eInt 10) (eInt 9))) (eInt 1)) eNil))) (eBin oPow (eInt 10) (eInt 9)))) sNext) (sRet (eBin oSub (eCall law_draw_f (eCons (eVar 0) (eCons (eInt 41) eNil))) (eInt 20)))))
noncomputable def law_number_v77_f : List V → Hp → Option (V × Hp) := runF 1 law_number_v77_g
noncomputable def law_number_v77_q : PS := (qSeq (qSetX 1 (xCall false [0] law_draw_x (pCons (pVar 0) (pCons (pInt 4) pNil)))) (qSeq (qIfX (xB (bVal (pBin qEq (pVar 1) (pInt 0)))) (qRetX (xLift 1000 (xCall false [0] law_draw_x (pCons (pVar 0) (pCons (pBin qAdd (pBin qMul (pInt 2) (pBin qPow (pInt 10) (pInt 60))) (pInt 1)) pNil))) (xP (pBin qSub (pVar 1000) (pBin qPow (pInt 10) (pInt 60)))))) qNext) (qSeq (qIfX (xB (bVal (pBin qEq (pVar 1) (pInt 1)))) (qRetX (xLift 1001 (xCall false [0] law_draw_x (pCons (pVar 0) (pCons (pBin qAdd (pBin qMul (pInt 2) (pBin qPow (pInt 10) (pInt 9))) (pInt 1)) pNil))) (xP (pBin qSub (pVar 1001) (pBin qPow (pInt 10) (pInt 9)))))) qNext) (qRetX (xLift 1002 (xCall false [0] law_draw_x (pCons (pVar 0) (pCons (pInt 41) pNil))) (xP (pBin qSub (pVar 1002) (pInt 20))))))))
noncomputable def law_number_v77_x : List T → Option (T × List T) := runX 1 [(0, 1)] law_number_v77_q
theorem law_number_v77_s : SimX 1 [(0, 1)] true law_number_v77_f law_number_v77_x := SimX.of (show SU [] [(0, 1)] [] [(0, 1)] [(0, 1)] true law_number_v77_g law_number_v77_q from (SU.seq (SU.set (i := 1) (O' := []) (S' := [(0, 1)]) (EX.call (b := false) (xs := [0]) (as := [some 0, none]) (M := []) law_draw_s (XAs.slot (XAs.lent (E.int _) (by decide) XAs.nil)) (by decide) (by decide) (by decide) (by decide) (by decide) (by decide) (by decide) (by decide) (by decide)) (by decide) (by decide) (by decide)) (SU.seq (SU.ife (BX.pure (Bt.val (E.binA a_eq (E.var 1) (E.int _)))) (SU.retF (O' := []) (S' := [(0, 1)]) (EX.lift (k := 1000) (C := fun e => (eBin oSub (e) (eBin oPow (eInt 10) (eInt 60)))) (e := (eCall law_draw_f (eCons (eVar 0) (eCons (eBin oAdd (eBin oMul (eInt 2) (eBin oPow (eInt 10) (eInt 60))) (eInt 1)) eNil)))) (Ct.binL (Ct.id) (fun ρ v H => rfl)) (EX.call (b := false) (xs := [0]) (as := [some 0, none]) (M := []) law_draw_s (XAs.slot (XAs.lent (E.binC c_add (E.binC c_mul (E.int _) (E.binA a_pow (E.int _) (E.int _))) (E.int _)) (by decide) XAs.nil)) (by decide) (by decide) (by decide) (by decide) (by decide) (by decide) (by decide) (by decide) (by decide)) (EX.pure (E.binA a_sub (E.var 1000) (E.binA a_pow (E.int _) (E.int _))) (by decide)) (by decide) (by decide)) (by decide) (by decide)) SU.next) (SU.seq (SU.ife (BX.pure (Bt.val (E.binA a_eq (E.var 1) (E.int _)))) (SU.retF (O' := []) (S' := [(0, 1)]) (EX.lift (k := 1001) (C := fun e => (eBin oSub (e) (eBin oPow (eInt 10) (eInt 9)))) (e := (eCall law_draw_f (eCons (eVar 0) (eCons (eBin oAdd (eBin oMul (eInt 2) (eBin oPow (eInt 10) (eInt 9))) (eInt 1)) eNil)))) (Ct.binL (Ct.id) (fun ρ v H => rfl)) (EX.call (b := false) (xs := [0]) (as := [some 0, none]) (M := []) law_draw_s (XAs.slot (XAs.lent (E.binC c_add (E.binC c_mul (E.int _) (E.binA a_pow (E.int _) (E.int _))) (E.int _)) (by decide) XAs.nil)) (by decide) (by decide) (by decide) (by decide) (by decide) (by decide) (by decide) (by decide) (by decide)) (EX.pure (E.binA a_sub (E.var 1001) (E.binA a_pow (E.int _) (E.int _))) (by decide)) (by decide) (by decide)) (by decide) (by decide)) SU.next) (SU.retF (O' := []) (S' := [(0, 1)]) (EX.lift (k := 1002) (C := fun e => (eBin oSub (e) (eInt 20))) (e := (eCall law_draw_f (eCons (eVar 0) (eCons (eInt 41) eNil)))) (Ct.binL (Ct.id) (fun ρ v H => rfl)) (EX.call (b := false) (xs := [0]) (as := [some 0, none]) (M := []) law_draw_s (XAs.slot (XAs.lent (E.int _) (by decide) XAs.nil)) (by decide) (by decide) (by decide) (by decide) (by decide) (by decide) (by decide) (by decide) (by decide)) (EX.pure (E.binA a_sub (E.var 1002) (E.int _)) (by decide)) (by decide) (by decide)) (by decide) (by decide)))))) (by decide) (by decide)
noncomputable def law_due_v77_g : Sm := sSeq (sSet 2 (eList eNil)) (sSeq (sFor (gSeq (eCall oSortedA (eCons (eBin oAdd (eBin oAdd (eList (eCons (eInt 0) eNil)) (eComp (gSeq (eVar 0)) (put1 100) (tVal (eBin oIsNot (eVar 100) (eNone))) (eVar 100))) (eVar 1)) eNil))) (put1 3) (sSeq (sSet 4 (eAnd (eBin oIsNot (eBin oIdx (eVar 0) (eInt 0)) (eNone)) (eBin oLt (eVar 3) (eBin oIdx (eVar 0) (eInt 0))))) (sSeq (sSet 5 (eAnd (eBin oIsNot (eBin oIdx (eVar 0) (eInt 1)) (eNone)) (eBin oGt (eVar 3) (eBin oIdx (eVar 0) (eInt 1))))) (sIf (tAnd (tNot (tVal (eVar 4))) (tAnd (tNot (tVal (eVar 5))) (tAnd (tVal (eBin oNotIn (eVar 3) (eVar 2))) tTrue))) (sExp (eAppend (eVar 2) (eVar 3))) sNext)))) (sRet (eVar 2)))
noncomputable def law_due_v77_f : List V → Hp → Option (V × Hp) := runF 2 law_due_v77_g
noncomputable def law_due_v77_q : PS := (qSeq (qSet 2 (pList pNil)) (qSeq (qFor (pSeq (pCall qSortedA (pCons (pBin qAdd (pBin qAdd (pList (pCons (pInt 0) pNil)) (pComp (pSeq (pVar 0)) (pput1 100) (bVal (pBin qIsNot (pVar 100) (pNon))) (pVar 100))) (pVar 1)) pNil))) (pput1 3) (qSeq (qSet 4 ((pAnd (pBin qIsNot (pBin qIdx (pVar 0) (pInt 0)) (pNon)) (pBin qLt (pVar 3) (pBin qIdx (pVar 0) (pInt 0)))))) (qSeq (qSet 5 ((pAnd (pBin qIsNot (pBin qIdx (pVar 0) (pInt 1)) (pNon)) (pBin qGt (pVar 3) (pBin qIdx (pVar 0) (pInt 1)))))) (qIf (bAnd (bNot (bVal (pVar 4))) (bAnd (bNot (bVal (pVar 5))) (bAnd (bVal (pBin qNotIn (pVar 3) (pVar 2))) bTrue))) (qApp 2 [] paNil (pFlat (pVar 3))) qNext)))) (qRet (pVar 2))))
noncomputable def law_due_v77_p : List T → Option T := runP 2 law_due_v77_q
theorem law_due_v77_s : SimF false law_due_v77_f law_due_v77_p := SimF.of (show S [] [2] [] false law_due_v77_g law_due_v77_q from (S.seq (S.setO (O' := [2]) (E.list Es.nil (by decide)) (by decide)) (S.seq (S.for (Gs.seq (E.callC c_sortedA (Es.cons (E.binC c_add (E.binC c_add (E.list (Es.cons (E.int _) Es.nil) (by decide)) (E.compS (Gs.seq (E.var 0)) (PutOk.one (by decide)) (by decide) (Bt.val (E.binA a_isNot (E.var 100) (E.none))) (E.var 100))) (E.var 1)) Es.nil))) (PutOk.one (by decide)) (by decide) (by decide) (S.seq (S.set (O' := [2]) ((E.and (E.sh (E.binA a_isNot (E.binI i_idx (E.var 0) (E.int _)) (E.none))) (E.sh (E.binA a_lt (E.var 3) (E.binI i_idx (E.var 0) (E.int _)))))) (by decide) (by decide) (by decide)) (S.seq (S.set (O' := [2]) ((E.and (E.sh (E.binA a_isNot (E.binI i_idx (E.var 0) (E.int _)) (E.none))) (E.sh (E.binA a_gt (E.var 3) (E.binI i_idx (E.var 0) (E.int _)))))) (by decide) (by decide) (by decide)) (S.ife (Bt.and (Bt.not (Bt.val (E.var 4))) (Bt.and (Bt.not (Bt.val (E.var 5))) (Bt.and (Bt.val (E.binA a_notIn (E.var 3) (E.var 2))) Bt.true))) (S.app (O' := [2]) (by decide) Pa.var (E.rel (O' := []) (E.flat (E.var 3)) (by decide)) (by decide) (by decide)) S.next)))) (S.ret (O' := [2]) (E.var 2) (by decide)))))
noncomputable def crossed_g : Sm := sRet (eAnd (eBin oIsNot (eVar 0) (eNone)) (eAnd (eBin oIsNot (eVar 1) (eNone)) (eBin oGt (eVar 0) (eVar 1))))
noncomputable def crossed_f : List V → Hp → Option (V × Hp) := runF 2 crossed_g
noncomputable def crossed_q : PS := (qRet ((pAnd (pBin qIsNot (pVar 0) (pNon)) (pAnd (pBin qIsNot (pVar 1) (pNon)) (pBin qGt (pVar 0) (pVar 1))))))
noncomputable def crossed_p : List T → Option T := runP 2 crossed_q
theorem crossed_s : SimF false crossed_f crossed_p := SimF.of (show S [] [] [] false crossed_g crossed_q from (S.ret (O' := []) ((E.and (E.sh (E.binA a_isNot (E.var 0) (E.none))) (E.and (E.sh (E.binA a_isNot (E.var 1) (E.none))) (E.sh (E.binA a_gt (E.var 0) (E.var 1)))))) (by decide)))
noncomputable def stretch_has_g : Sm := sRet (eAnd (eNot (eCall crossed_f (eCons (eBin oIdx (eVar 0) (eInt 0)) (eCons (eVar 1) eNil)))) (eNot (eCall crossed_f (eCons (eVar 1) (eCons (eBin oIdx (eVar 0) (eInt 1)) eNil)))))
noncomputable def stretch_has_f : List V → Hp → Option (V × Hp) := runF 2 stretch_has_g
noncomputable def stretch_has_q : PS := (qRet ((pAnd (pNot (pCall crossed_p (pCons (pBin qIdx (pVar 0) (pInt 0)) (pCons (pVar 1) pNil)))) (pNot (pCall crossed_p (pCons (pVar 1) (pCons (pBin qIdx (pVar 0) (pInt 1)) pNil)))))))
noncomputable def stretch_has_p : List T → Option T := runP 2 stretch_has_q
theorem stretch_has_s : SimF false stretch_has_f stretch_has_p := SimF.of (show S [] [] [] false stretch_has_g stretch_has_q from (S.ret (O' := []) ((E.and (E.sh (E.not (E.fn crossed_s (Es.cons (E.binI i_idx (E.var 0) (E.int _)) (Es.cons (E.var 1) Es.nil))))) (E.sh (E.not (E.fn crossed_s (Es.cons (E.var 1) (Es.cons (E.binI i_idx (E.var 0) (E.int _)) Es.nil))))))) (by decide)))
noncomputable def tried_g : Sm := sSeq (sSet 2 (eComp (gSeq (eVar 0)) (put1 100) (tVal (eBin oIsNot (eVar 100) (eNone))) (eVar 100))) (sRet (eCall oSortSet (eCons (eComp (gSeq (eBin oAdd (eBin oAdd (eVar 2) (eList (eCons (eInt 0) eNil))) (eVar 1))) (put1 102) (tVal (eCall stretch_has_f (eCons (eVar 0) (eCons (eVar 102) eNil)))) (eVar 102)) eNil)))
noncomputable def tried_f : List V → Hp → Option (V × Hp) := runF 2 tried_g
noncomputable def tried_q : PS := (qSeq (qSet 2 (pComp (pSeq (pVar 0)) (pput1 100) (bVal (pBin qIsNot (pVar 100) (pNon))) (pVar 100))) (qRet (pFl (pCall qSortSet (pCons (pComp (pSeq (pBin qAdd (pBin qAdd (pVar 2) (pList (pCons (pInt 0) pNil))) (pVar 1))) (pput1 102) (bVal (pCall stretch_has_p (pCons (pVar 0) (pCons (pVar 102) pNil)))) (pVar 102)) pNil)))))
noncomputable def tried_p : List T → Option T := runP 2 tried_q
theorem tried_s : SimF true tried_f tried_p := SimF.of (show S [] [] [] true tried_g tried_q from (S.seq (S.set (O' := []) (E.compS (Gs.seq (E.var 0)) (PutOk.one (by decide)) (by decide) (Bt.val (E.binA a_isNot (E.var 100) (E.none))) (E.var 100)) (by decide) (by decide) (by decide)) (S.retF (O' := []) (E.callF c_sortSet (Es.cons (E.compS (Gs.seq (E.binC c_add (E.binC c_add (E.var 2) (E.list (Es.cons (E.int _) Es.nil) (by decide))) (E.var 1))) (PutOk.one (by decide)) (by decide) (Bt.val (E.fn stretch_has_s (Es.cons (E.var 0) (Es.cons (E.var 102) Es.nil)))) (E.var 102)) Es.nil)) (by decide) (by decide))))
noncomputable def law_whole_v60_g : Sm := sRet (eAnd (eIs "int" (eVar 0)) (eNot (eIs "bool" (eVar 0))))
noncomputable def law_whole_v60_f : List V → Hp → Option (V × Hp) := runF 1 law_whole_v60_g
noncomputable def law_whole_v60_q : PS := (qRet ((pAnd (pIs "int" (pVar 0)) (pNot (pIs "bool" (pVar 0))))))
noncomputable def law_whole_v60_p : List T → Option T := runP 1 law_whole_v60_q
theorem law_whole_v60_s : SimF false law_whole_v60_f law_whole_v60_p := SimF.of (show S [] [] [] false law_whole_v60_g law_whole_v60_q from (S.ret (O' := []) ((E.and (E.sh (E.is (E.var 0))) (E.sh (E.not (E.is (E.var 0)))))) (by decide)))
noncomputable def law_alike_v77_g : Sm := sSeq (sIf (tOr (tNot (tVal (eIs "list" (eVar 0)))) (tOr (tVal (eBin oNe (eCall oLen (eCons (eVar 0) eNil)) (eCall oLen (eCons (eVar 1) eNil)))) tFalse)) (sRet (eBool false)) sNext) (sSeq (sFor (gSeq (eVar 0)) (put1 2) (sIf (tNot (tVal (eCall law_whole_v60_f (eCons (eVar 2) eNil)))) (sRet (eBool false)) sNext)) (sRet (eBin oEq (eVar 0) (eVar 1))))
noncomputable def law_alike_v77_f : List V → Hp → Option (V × Hp) := runF 2 law_alike_v77_g
noncomputable def law_alike_v77_q : PS := (qSeq (qIf (bOr (bNot (bVal (pIs "list" (pVar 0)))) (bOr (bVal (pBin qNe (pCall qLen (pCons (pVar 0) pNil)) (pCall qLen (pCons (pVar 1) pNil)))) bFalse)) (qRet (pBool false)) qNext) (qSeq (qFor (pSeq (pVar 0)) (pput1 2) (qIf (bNot (bVal (pCall law_whole_v60_p (pCons (pVar 2) pNil)))) (qRet (pBool false)) qNext)) (qRet (pBin qEq (pVar 0) (pVar 1)))))
noncomputable def law_alike_v77_p : List T → Option T := runP 2 law_alike_v77_q
theorem law_alike_v77_s : SimF false law_alike_v77_f law_alike_v77_p := SimF.of (show S [] [] [] false law_alike_v77_g law_alike_v77_q from (S.seq (S.ife (Bt.or (Bt.not (Bt.val (E.is (E.var 0)))) (Bt.or (Bt.val (E.binA a_ne (E.callA a_len (Es.cons (E.var 0) Es.nil)) (E.callA a_len (Es.cons (E.var 1) Es.nil)))) Bt.false)) (S.ret (O' := []) (E.bool _) (by decide)) S.next) (S.seq (S.for (Gs.seq (E.var 0)) (PutOk.one (by decide)) (by decide) (by decide) (S.ife (Bt.not (Bt.val (E.fn law_whole_v60_s (Es.cons (E.var 2) Es.nil)))) (S.ret (O' := []) (E.bool _) (by decide)) S.next)) (S.ret (O' := []) (E.binA a_eq (E.var 0) (E.var 1)) (by decide)))))
noncomputable def law_77_g : Sm := sSeq (sSet 1 (eList (eCons (eSlice (eVar 0) pNone (pSome (eInt 84))) (eCons (eInt 0) eNil)))) (sSeq (sSet 2 (eCall law_number_v77_f (eCons (eVar 1) eNil))) (sSeq (sSet 3 (eBin oAdd (eVar 2) (eBin oIdx (eList (eCons (eInt 0) (eCons (eInt 1) (eCons (eInt 5) (eCons (eCall law_draw_f (eCons (eVar 1) (eCons (eInt 60) eNil))) (eCons (eCall law_draw_f (eCons (eVar 1) (eCons (eBin oPow (eInt 10) (eInt 60)) eNil))) eNil)))))) (eCall law_draw_f (eCons (eVar 1) (eCons (eInt 5) eNil)))))) (sSeq (sSet 4 (eCall law_draw_f (eCons (eVar 1) (eCons (eInt 7) eNil)))) (sSeq (sSet 5 (eTup (eCons (eBin oIdx (eList (eCons (eVar 2) (eCons (eVar 2) (eCons (eVar 2) (eCons (eVar 2) (eCons (eVar 2) (eCons (eNone) (eCons (eNone) eNil)))))))) (eVar 4)) (eCons (eBin oIdx (eList (eCons (eVar 3) (eCons (eVar 3) (eCons (eVar 3) (eCons (eVar 3) (eCons (eNone) (eCons (eVar 3) (eCons (eNone) eNil)))))))) (eVar 4)) eNil)))) (sSeq (sSet 6 (eList eNil)) (sSeq (sFor (gRange (eCons (eCall law_draw_f (eCons (eVar 1) (eCons (eInt 21) eNil))) eNil)) (put1 7) (sSeq (sSet 8 (eBin oIdx (eList (eCons (eVar 2) (eCons (eVar 3) (eCons (eInt 0) (eCons (eBin oAdd (eVar 2) (eInt 1)) (eCons (eBin oSub (eVar 3) (eInt 1)) (eCons (eBin oSub (eVar 2) (eInt 1)) (eCons (eBin oAdd (eVar 3) (eInt 1)) (eCons (eCall law_number_v77_f (eCons (eVar 1) eNil)) eNil))))))))) (eCall law_draw_f (eCons (eVar 1) (eCons (eInt 8) eNil))))) (sExp (eAppend (eVar 6) (eBin oIdx (eList (eCons (eVar 8) (eCons (eCall law_number_v77_f (eCons (eVar 1) eNil)) eNil))) (eCall law_draw_f (eCons (eVar 1) (eCons (eInt 2) eNil)))))))) (sSeq (sSet 9 (eCall law_due_v77_f (eCons (eVar 5) (eCons (eVar 6) eNil)))) (sSeq (sSet 10 (eCall oList1 (eCons (eVar 6) eNil))) (sSeq (sSet 11 (eCall tried_f (eCons (eVar 5) (eCons (eVar 10) eNil)))) (sSeq (sIf (tOr (tNot (tVal (eCall law_alike_v77_f (eCons (eVar 11) (eCons (eVar 9) eNil))))) (tOr (tVal (eBin oNe (eVar 10) (eVar 6))) tFalse)) (sRet (eBool false)) sNext) (sSeq (sExp (eAppend (eVar 11) (eInt 0))) (sRet (eCall law_alike_v77_f (eCons (eCall tried_f (eCons (eVar 5) (eCons (eVar 10) eNil))) (eCons (eVar 9) eNil)))))))))))))))
noncomputable def law_77_f : List V → Hp → Option (V × Hp) := runF 1 law_77_g
noncomputable def law_77_q : PS := (qSeq (qSet 1 (pList (pCons (pSlice (pVar 0) ppNone (ppSome (pInt 84))) (pCons (pInt 0) pNil)))) (qSeq (qSetX 2 (xCall false [1] law_number_v77_x (pCons (pVar 1) pNil))) (qSeq (qSetX 3 (xLift 1000 (xCall false [1] law_draw_x (pCons (pVar 1) (pCons (pInt 60) pNil))) (xLift 1001 (xCall false [1] law_draw_x (pCons (pVar 1) (pCons (pBin qPow (pInt 10) (pInt 60)) pNil))) (xLift 1002 (xP ((pList (pCons (pInt 0) (pCons (pInt 1) (pCons (pInt 5) (pCons (pFlat (pVar 1000)) (pCons (pFlat (pVar 1001)) pNil)))))))) (xLift 1003 (xCall false [1] law_draw_x (pCons (pVar 1) (pCons (pInt 5) pNil))) (xP (pBin qAdd (pVar 2) (pBin qIdx (pVar 1002) (pVar 1003))))))))) (qSeq (qSetX 4 (xCall false [1] law_draw_x (pCons (pVar 1) (pCons (pInt 7) pNil)))) (qSeq (qSetX 5 (xP (pTup (pCons (pBin qIdx (pList (pCons (pVar 2) (pCons (pVar 2) (pCons (pVar 2) (pCons (pVar 2) (pCons (pVar 2) (pCons (pNon) (pCons (pNon) pNil)))))))) (pVar 4)) (pCons (pBin qIdx (pList (pCons (pVar 3) (pCons (pVar 3) (pCons (pVar 3) (pCons (pVar 3) (pCons (pNon) (pCons (pVar 3) (pCons (pNon) pNil)))))))) (pVar 4)) pNil))))) (qSeq (qSetX 6 (xP (pList pNil))) (qSeq (qForX 1014 (xCall false [1] law_draw_x (pCons (pVar 1) (pCons (pInt 21) pNil))) (pRange (pCons (pVar 1014) pNil)) (pput1 7) (qSeq (qSetX 8 (xLift 1004 (xP (pBin qAdd (pVar 2) (pInt 1))) (xLift 1005 (xP (pBin qSub (pVar 3) (pInt 1))) (xLift 1006 (xP (pBin qSub (pVar 2) (pInt 1))) (xLift 1007 (xP (pBin qAdd (pVar 3) (pInt 1))) (xLift 1008 (xCall false [1] law_number_v77_x (pCons (pVar 1) pNil)) (xLift 1009 (xP ((pList (pCons (pFlat (pVar 2)) (pCons (pFlat (pVar 3)) (pCons (pInt 0) (pCons (pFlat (pVar 1004)) (pCons (pFlat (pVar 1005)) (pCons (pFlat (pVar 1006)) (pCons (pFlat (pVar 1007)) (pCons (pFlat (pVar 1008)) pNil))))))))))) (xLift 1010 (xCall false [1] law_draw_x (pCons (pVar 1) (pCons (pInt 8) pNil))) (xP (pBin qIdx (pVar 1009) (pVar 1010))))))))))) (qLift 1011 (xCall false [1] law_number_v77_x (pCons (pVar 1) pNil)) (qLift 1012 (xP ((pList (pCons (pFlat (pVar 8)) (pCons (pFlat (pVar 1011)) pNil))))) (qLift 1013 (xCall false [1] law_draw_x (pCons (pVar 1) (pCons (pInt 2) pNil))) (qApp 6 [] paNil (pFlat (pBin qIdx (pVar 1012) (pVar 1013))))))))) (qSeq (qSetX 9 (xP (pCall law_due_v77_p (pCons (pVar 5) (pCons (pVar 6) pNil))))) (qSeq (qSetX 10 (xP (pCall qList1 (pCons (pVar 6) pNil)))) (qSeq (qSetX 11 (xP (pCall tried_p (pCons (pVar 5) (pCons (pVar 10) pNil))))) (qSeq (qIfX (xB (bOr (bNot (bVal (pCall law_alike_v77_p (pCons (pVar 11) (pCons (pVar 9) pNil))))) (bOr (bVal (pBin qNe (pVar 10) (pVar 6))) bFalse))) (qRetX (xP (pBool false))) qNext) (qSeq (qApp 11 [] paNil (pInt 0)) (qRetX (xP (pFlat (pCall law_alike_v77_p (pCons (pCall tried_p (pCons (pVar 5) (pCons (pVar 10) pNil))) (pCons (pVar 9) pNil))))))))))))))))))
noncomputable def law_77_x : List T → Option (T × List T) := runX 1 [] law_77_q
theorem law_77_s : SimX 1 [] true law_77_f law_77_x := SimX.of (show SU [] [] [11] [(1, 1)] [] true law_77_g law_77_q from (SU.seq (SU.setL (i := 1) (O' := []) (S' := []) (Es.cons (E.slice (E.var 0) Pe.none (Pe.some (E.int _))) (Es.cons (E.int _) Es.nil)) (by decide) (by decide) (by decide) (by decide)) (SU.seq (SU.set (i := 2) (O' := []) (S' := [(1, 1)]) (EX.call (b := false) (xs := [1]) (as := [some 1]) (M := []) law_number_v77_s (XAs.slot XAs.nil) (by decide) (by decide) (by decide) (by decide) (by decide) (by decide) (by decide) (by decide) (by decide)) (by decide) (by decide) (by decide)) (SU.seq (SU.set (i := 3) (O' := []) (S' := [(1, 1)]) (EX.lift (k := 1000) (C := fun e => (eBin oAdd (eVar 2) (eBin oIdx (eList (eCons (eInt 0) (eCons (eInt 1) (eCons (eInt 5) (eCons (e) (eCons (eCall law_draw_f (eCons (eVar 1) (eCons (eBin oPow (eInt 10) (eInt 60)) eNil))) eNil)))))) (eCall law_draw_f (eCons (eVar 1) (eCons (eInt 5) eNil)))))) (e := (eCall law_draw_f (eCons (eVar 1) (eCons (eInt 60) eNil)))) (Ct.binR (Ct.binL (Ct.list (Cts.tail (Cts.tail (Cts.tail (Cts.head (Ct.id) (fun ρ v H => rfl)) Vl.int) Vl.int) Vl.int)) (fun ρ v H => rfl)) (Vl.var (by decide))) (EX.call (b := false) (xs := [1]) (as := [some 1, none]) (M := []) law_draw_s (XAs.slot (XAs.lent (E.int _) (by decide) XAs.nil)) (by decide) (by decide) (by decide) (by decide) (by decide) (by decide) (by decide) (by decide) (by decide)) (EX.lift (k := 1001) (C := fun e => (eBin oAdd (eVar 2) (eBin oIdx (eList (eCons (eInt 0) (eCons (eInt 1) (eCons (eInt 5) (eCons (eVar 1000) (eCons (e) eNil)))))) (eCall law_draw_f (eCons (eVar 1) (eCons (eInt 5) eNil)))))) (e := (eCall law_draw_f (eCons (eVar 1) (eCons (eBin oPow (eInt 10) (eInt 60)) eNil)))) (Ct.binR (Ct.binL (Ct.list (Cts.tail (Cts.tail (Cts.tail (Cts.tail (Cts.head (Ct.id) (fun ρ v H => rfl)) (Vl.var (by decide))) Vl.int) Vl.int) Vl.int)) (fun ρ v H => rfl)) (Vl.var (by decide))) (EX.call (b := false) (xs := [1]) (as := [some 1, none]) (M := []) law_draw_s (XAs.slot (XAs.lent (E.binA a_pow (E.int _) (E.int _)) (by decide) XAs.nil)) (by decide) (by decide) (by decide) (by decide) (by decide) (by decide) (by decide) (by decide) (by decide)) (EX.lift (k := 1002) (C := fun e => (eBin oAdd (eVar 2) (eBin oIdx (e) (eCall law_draw_f (eCons (eVar 1) (eCons (eInt 5) eNil)))))) (e := (eList (eCons (eInt 0) (eCons (eInt 1) (eCons (eInt 5) (eCons (eVar 1000) (eCons (eVar 1001) eNil))))))) (Ct.binR (Ct.binL (Ct.id) (fun ρ v H => rfl)) (Vl.var (by decide))) (EX.pure ((E.list (Es.consO (E.int _) (Es.consO (E.int _) (Es.consO (E.int _) (Es.consO (E.flat (E.var 1000)) (Es.consO (E.flat (E.var 1001)) Es.nil (by decide) (by decide)) (by decide) (by decide)) (by decide) (by decide)) (by decide) (by decide)) (by decide) (by decide)) (by decide))) (by decide)) (EX.lift (k := 1003) (C := fun e => (eBin oAdd (eVar 2) (eBin oIdx (eVar 1002) (e)))) (e := (eCall law_draw_f (eCons (eVar 1) (eCons (eInt 5) eNil)))) (Ct.binR (Ct.binR (Ct.id) (Vl.var (by decide))) (Vl.var (by decide))) (EX.call (b := false) (xs := [1]) (as := [some 1, none]) (M := []) law_draw_s (XAs.slot (XAs.lent (E.int _) (by decide) XAs.nil)) (by decide) (by decide) (by decide) (by decide) (by decide) (by decide) (by decide) (by decide) (by decide)) (EX.pure (E.binC c_add (E.var 2) (E.binI i_idx (E.var 1002) (E.var 1003))) (by decide)) (by decide) (by decide)) (by decide) (by decide)) (by decide) (by decide)) (by decide) (by decide)) (by decide) (by decide) (by decide)) (SU.seq (SU.set (i := 4) (O' := []) (S' := [(1, 1)]) (EX.call (b := false) (xs := [1]) (as := [some 1, none]) (M := []) law_draw_s (XAs.slot (XAs.lent (E.int _) (by decide) XAs.nil)) (by decide) (by decide) (by decide) (by decide) (by decide) (by decide) (by decide) (by decide) (by decide)) (by decide) (by decide) (by decide)) (SU.seq (SU.set (i := 5) (O' := []) (S' := [(1, 1)]) (EX.pure (E.tup (Es.cons (E.binI i_idx (E.list (Es.cons (E.var 2) (Es.cons (E.var 2) (Es.cons (E.var 2) (Es.cons (E.var 2) (Es.cons (E.var 2) (Es.cons (E.none) (Es.cons (E.none) Es.nil))))))) (by decide)) (E.var 4)) (Es.cons (E.binI i_idx (E.list (Es.cons (E.var 3) (Es.cons (E.var 3) (Es.cons (E.var 3) (Es.cons (E.var 3) (Es.cons (E.none) (Es.cons (E.var 3) (Es.cons (E.none) Es.nil))))))) (by decide)) (E.var 4)) Es.nil)) (by decide)) (by decide)) (by decide) (by decide) (by decide)) (SU.seq (SU.setO (i := 6) (O' := [6]) (S' := [(1, 1)]) (EX.pure (E.list Es.nil (by decide)) (by decide)) (by decide) (by decide)) (SU.seq (SU.forX (k := 1014) (g := fun e => gRange (eCons e eNil)) (e := (eCall law_draw_f (eCons (eVar 1) (eCons (eInt 21) eNil)))) (Cg.range (Cts.head Ct.id (fun ρ v H => rfl))) (EX.call (b := false) (xs := [1]) (as := [some 1, none]) (M := []) law_draw_s (XAs.slot (XAs.lent (E.int _) (by decide) XAs.nil)) (by decide) (by decide) (by decide) (by decide) (by decide) (by decide) (by decide) (by decide) (by decide)) (Gs.range (Es.cons (E.var 1014) Es.nil)) (by decide) (PutOk.one (j := 7) (by decide)) PutK.one (by decide) (SU.seq (SU.set (i := 8) (O' := [6]) (S' := [(1, 1)]) (EX.liftL (k := 1004) (C := fun e => (eBin oIdx (eList (eCons (eVar 2) (eCons (eVar 3) (eCons (eInt 0) (eCons (e) (eCons (eBin oSub (eVar 3) (eInt 1)) (eCons (eBin oSub (eVar 2) (eInt 1)) (eCons (eBin oAdd (eVar 3) (eInt 1)) (eCons (eCall law_number_v77_f (eCons (eVar 1) eNil)) eNil))))))))) (eCall law_draw_f (eCons (eVar 1) (eCons (eInt 8) eNil))))) (e := (eBin oAdd (eVar 2) (eInt 1))) (Ct.binL (Ct.list (Cts.tail (Cts.tail (Cts.tail (Cts.head (Ct.id) (fun ρ v H => rfl)) Vl.int) (Vl.var (by decide))) (Vl.var (by decide)))) (fun ρ v H => rfl)) (EX.pure (E.binC c_add (E.var 2) (E.int _)) (by decide)) (EX.lift (k := 1005) (C := fun e => (eBin oIdx (eList (eCons (eVar 2) (eCons (eVar 3) (eCons (eInt 0) (eCons (eVar 1004) (eCons (e) (eCons (eBin oSub (eVar 2) (eInt 1)) (eCons (eBin oAdd (eVar 3) (eInt 1)) (eCons (eCall law_number_v77_f (eCons (eVar 1) eNil)) eNil))))))))) (eCall law_draw_f (eCons (eVar 1) (eCons (eInt 8) eNil))))) (e := (eBin oSub (eVar 3) (eInt 1))) (Ct.binL (Ct.list (Cts.tail (Cts.tail (Cts.tail (Cts.tail (Cts.head (Ct.id) (fun ρ v H => rfl)) (Vl.var (by decide))) Vl.int) (Vl.var (by decide))) (Vl.var (by decide)))) (fun ρ v H => rfl)) (EX.pure (E.binA a_sub (E.var 3) (E.int _)) (by decide)) (EX.lift (k := 1006) (C := fun e => (eBin oIdx (eList (eCons (eVar 2) (eCons (eVar 3) (eCons (eInt 0) (eCons (eVar 1004) (eCons (eVar 1005) (eCons (e) (eCons (eBin oAdd (eVar 3) (eInt 1)) (eCons (eCall law_number_v77_f (eCons (eVar 1) eNil)) eNil))))))))) (eCall law_draw_f (eCons (eVar 1) (eCons (eInt 8) eNil))))) (e := (eBin oSub (eVar 2) (eInt 1))) (Ct.binL (Ct.list (Cts.tail (Cts.tail (Cts.tail (Cts.tail (Cts.tail (Cts.head (Ct.id) (fun ρ v H => rfl)) (Vl.var (by decide))) (Vl.var (by decide))) Vl.int) (Vl.var (by decide))) (Vl.var (by decide)))) (fun ρ v H => rfl)) (EX.pure (E.binA a_sub (E.var 2) (E.int _)) (by decide)) (EX.liftL (k := 1007) (C := fun e => (eBin oIdx (eList (eCons (eVar 2) (eCons (eVar 3) (eCons (eInt 0) (eCons (eVar 1004) (eCons (eVar 1005) (eCons (eVar 1006) (eCons (e) (eCons (eCall law_number_v77_f (eCons (eVar 1) eNil)) eNil))))))))) (eCall law_draw_f (eCons (eVar 1) (eCons (eInt 8) eNil))))) (e := (eBin oAdd (eVar 3) (eInt 1))) (Ct.binL (Ct.list (Cts.tail (Cts.tail (Cts.tail (Cts.tail (Cts.tail (Cts.tail (Cts.head (Ct.id) (fun ρ v H => rfl)) (Vl.var (by decide))) (Vl.var (by decide))) (Vl.var (by decide))) Vl.int) (Vl.var (by decide))) (Vl.var (by decide)))) (fun ρ v H => rfl)) (EX.pure (E.binC c_add (E.var 3) (E.int _)) (by decide)) (EX.lift (k := 1008) (C := fun e => (eBin oIdx (eList (eCons (eVar 2) (eCons (eVar 3) (eCons (eInt 0) (eCons (eVar 1004) (eCons (eVar 1005) (eCons (eVar 1006) (eCons (eVar 1007) (eCons (e) eNil))))))))) (eCall law_draw_f (eCons (eVar 1) (eCons (eInt 8) eNil))))) (e := (eCall law_number_v77_f (eCons (eVar 1) eNil))) (Ct.binL (Ct.list (Cts.tail (Cts.tail (Cts.tail (Cts.tail (Cts.tail (Cts.tail (Cts.tail (Cts.head (Ct.id) (fun ρ v H => rfl)) (Vl.var (by decide))) (Vl.var (by decide))) (Vl.var (by decide))) (Vl.var (by decide))) Vl.int) (Vl.var (by decide))) (Vl.var (by decide)))) (fun ρ v H => rfl)) (EX.call (b := false) (xs := [1]) (as := [some 1]) (M := []) law_number_v77_s (XAs.slot XAs.nil) (by decide) (by decide) (by decide) (by decide) (by decide) (by decide) (by decide) (by decide) (by decide)) (EX.lift (k := 1009) (C := fun e => (eBin oIdx (e) (eCall law_draw_f (eCons (eVar 1) (eCons (eInt 8) eNil))))) (e := (eList (eCons (eVar 2) (eCons (eVar 3) (eCons (eInt 0) (eCons (eVar 1004) (eCons (eVar 1005) (eCons (eVar 1006) (eCons (eVar 1007) (eCons (eVar 1008) eNil)))))))))) (Ct.binL (Ct.id) (fun ρ v H => rfl)) (EX.pure ((E.list (Es.consO (E.flat (E.var 2)) (Es.consO (E.flat (E.var 3)) (Es.consO (E.int _) (Es.consO (E.flat (E.var 1004)) (Es.consO (E.flat (E.var 1005)) (Es.consO (E.flat (E.var 1006)) (Es.consO (E.flat (E.var 1007)) (Es.consO (E.flat (E.var 1008)) Es.nil (by decide) (by decide)) (by decide) (by decide)) (by decide) (by decide)) (by decide) (by decide)) (by decide) (by decide)) (by decide) (by decide)) (by decide) (by decide)) (by decide) (by decide)) (by decide))) (by decide)) (EX.lift (k := 1010) (C := fun e => (eBin oIdx (eVar 1009) (e))) (e := (eCall law_draw_f (eCons (eVar 1) (eCons (eInt 8) eNil)))) (Ct.binR (Ct.id) (Vl.var (by decide))) (EX.call (b := false) (xs := [1]) (as := [some 1, none]) (M := []) law_draw_s (XAs.slot (XAs.lent (E.int _) (by decide) XAs.nil)) (by decide) (by decide) (by decide) (by decide) (by decide) (by decide) (by decide) (by decide) (by decide)) (EX.pure (E.binI i_idx (E.var 1009) (E.var 1010)) (by decide)) (by decide) (by decide)) (by decide) (by decide)) (by decide) (by decide)) (by decide) (by decide) (by decide) (by decide)) (by decide) (by decide)) (by decide) (by decide)) (by decide) (by decide) (by decide) (by decide)) (by decide) (by decide) (by decide)) (SU.lift (k := 1011) (K := fun e => sExp (eAppend (eVar 6) (eBin oIdx (eList (eCons (eVar 8) (eCons (e) eNil))) (eCall law_draw_f (eCons (eVar 1) (eCons (eInt 2) eNil)))))) (e := (eCall law_number_v77_f (eCons (eVar 1) eNil))) (Cs.exp (Ct.append (Ct.binL (Ct.list (Cts.tail (Cts.head (Ct.id) (fun ρ v H => rfl)) (Vl.var (by decide)))) (fun ρ v H => rfl)) (Vl.var (by decide)))) Kp.exp (EX.call (b := false) (xs := [1]) (as := [some 1]) (M := []) law_number_v77_s (XAs.slot XAs.nil) (by decide) (by decide) (by decide) (by decide) (by decide) (by decide) (by decide) (by decide) (by decide)) ((SU.weak (O1 := [1011, 6]) (S1 := [(1, 1)]) (SU.lift (k := 1012) (K := fun e => sExp (eAppend (eVar 6) (eBin oIdx (e) (eCall law_draw_f (eCons (eVar 1) (eCons (eInt 2) eNil)))))) (e := (eList (eCons (eVar 8) (eCons (eVar 1011) eNil)))) (Cs.exp (Ct.append (Ct.binL (Ct.id) (fun ρ v H => rfl)) (Vl.var (by decide)))) Kp.exp (EX.pure ((E.list (Es.consO (E.flat (E.var 8)) (Es.consO (E.flat (E.var 1011)) Es.nil (by decide) (by decide)) (by decide) (by decide)) (by decide))) (by decide)) ((SU.weak (O1 := [1012, 1011, 6]) (S1 := [(1, 1)]) (SU.lift (k := 1013) (K := fun e => sExp (eAppend (eVar 6) (eBin oIdx (eVar 1012) (e)))) (e := (eCall law_draw_f (eCons (eVar 1) (eCons (eInt 2) eNil)))) (Cs.exp (Ct.append (Ct.binR (Ct.id) (Vl.var (by decide))) (Vl.var (by decide)))) Kp.exp (EX.call (b := false) (xs := [1]) (as := [some 1, none]) (M := []) law_draw_s (XAs.slot (XAs.lent (E.int _) (by decide) XAs.nil)) (by decide) (by decide) (by decide) (by decide) (by decide) (by decide) (by decide) (by decide) (by decide)) ((SU.weak (O1 := [1013, 1012, 1011, 6]) (S1 := [(1, 1)]) (SU.appO (x := 6) (N := []) (O' := [1013, 1012, 1011, 6]) (by decide) Pa.var (E.rel (O' := [1013, 1012, 1011]) (E.flat (E.binI i_idx (E.var 1012) (E.var 1013))) (by decide)) (by decide) (by decide) (by decide)) (by decide) (by decide))) (by decide) (by decide)) (by decide) (by decide))) (by decide) (by decide)) (by decide) (by decide))) (by decide) (by decide)))) (SU.seq (SU.set (i := 9) (O' := []) (S' := [(1, 1)]) (EX.pure (E.fn law_due_v77_s (Es.cons (E.var 5) (Es.cons (E.var 6) Es.nil))) (by decide)) (by decide) (by decide) (by decide)) (SU.seq (SU.set (i := 10) (O' := []) (S' := [(1, 1)]) (EX.pure (E.callC c_list1 (Es.cons (E.var 6) Es.nil)) (by decide)) (by decide) (by decide) (by decide)) (SU.seq (SU.setO (i := 11) (O' := [11]) (S' := [(1, 1)]) (EX.pure (E.fnF tried_s (Es.cons (E.var 5) (Es.cons (E.var 10) Es.nil))) (by decide)) (by decide) (by decide)) (SU.seq (SU.ife (BX.pure (Bt.or (Bt.not (Bt.val (E.fn law_alike_v77_s (Es.cons (E.var 11) (Es.cons (E.var 9) Es.nil))))) (Bt.or (Bt.val (E.binA a_ne (E.var 10) (E.var 6))) Bt.false))) (SU.retF (O' := [11]) (S' := [(1, 1)]) (EX.pure (E.bool _) (by decide)) (by decide) (by decide)) SU.next) (SU.seq (SU.appO (x := 11) (N := []) (O' := [11]) (by decide) Pa.var (E.rel (O' := []) (E.int _) (by decide)) (by decide) (by decide) (by decide)) (SU.retF (O' := [11]) (S' := [(1, 1)]) (EX.pure (E.flat (E.fn law_alike_v77_s (Es.cons (E.fn tried_s (Es.cons (E.var 5) (Es.cons (E.var 10) Es.nil))) (Es.cons (E.var 9) Es.nil)))) (by decide)) (by decide) (by decide))))))))))))))) (by decide) (by decide)
end L
end
section
set_option maxRecDepth 100000
set_option maxHeartbeats 4000000
set_option linter.all false
set_option autoImplicit false
open PySem PySem.W PyProof.Rows PM TM My
local macro_rules | `(tactic| tm_at "r") => `(tactic| assumption)
local macro_rules | `(tactic| tm_at "r") => `(tactic| exact rfl)
local macro_rules | `(tactic| tm_at "r") => `(tactic| ((with_reducible apply delTs_no); decide; tm_at "r"))
local macro_rules | `(tactic| tm_at "r") => `(tactic| ((with_reducible apply updT_no); decide; tm_at "r"))
local macro_rules | `(tactic| tm_at "r") => `(tactic| with_reducible exact updT_self)
local macro_rules | `(tactic| tm_at "r") => `(tactic| with_reducible assumption)
local macro_rules | `(tactic| walk_at "r") => `(tactic| first | tm_at "r" | fail)
local macro_rules | `(tactic| tm_at "y") => `(tactic| (simp only [Bool.not_eq_true', Bool.not_eq_false', decide_eq_true_eq, decide_eq_false_iff_not, beq_iff_eq, beq_eq_false_iff_ne, ne_eq, Bool.not_true, Bool.not_false, not_false_eq_true, not_true_eq_false, bne_iff_ne, Decidable.not_not, List.length_map] <;> first | done | omega | assumption))
local macro_rules | `(tactic| tm_at "y") => `(tactic| (with_reducible assumption))
local macro_rules | `(tactic| tm_at "y") => `(tactic| rfl)
local macro_rules | `(tactic| walk_at "y") => `(tactic| first | tm_at "y" | fail)
local macro_rules | `(tactic| tm_at "f") => `(tactic| exact flatIn_tab fun i hi => by (first | rfl | exact flat_oT | exact flat_prT))
local macro_rules | `(tactic| tm_at "f") => `(tactic| exact flat_prT)
local macro_rules | `(tactic| tm_at "f") => `(tactic| exact flat_oT)
local macro_rules | `(tactic| tm_at "f") => `(tactic| rfl)
local macro_rules | `(tactic| walk_at "f") => `(tactic| first | tm_at "f" | fail)
local macro_rules | `(tactic| tm_at "o") => `(tactic| ((with_reducible apply tk_mod); (first | decide | omega)))
local macro_rules | `(tactic| tm_at "o") => `(tactic| with_reducible refine tk_any ?_)
local macro_rules | `(tactic| tm_at "o") => `(tactic| with_reducible refine tk_all ?_)
local macro_rules | `(tactic| tm_at "o") => `(tactic| with_reducible refine tk_tup1 ?_)
local macro_rules | `(tactic| tm_at "o") => `(tactic| with_reducible refine tk_list1t ?_)
local macro_rules | `(tactic| tm_at "o") => `(tactic| with_reducible refine tk_list1 ?_)
local macro_rules | `(tactic| tm_at "o") => `(tactic| ((with_reducible apply tk_addC); omega))
local macro_rules | `(tactic| tm_at "o") => `(tactic| ((with_reducible apply tk_idxL); (first | decide | omega); rfl))
local macro_rules | `(tactic| tm_at "o") => `(tactic| ((with_reducible apply tk_idxP); (first | decide | omega); rfl))
local macro_rules | `(tactic| tm_at "o") => `(tactic| ((with_reducible apply tk_idxT); (first | decide | omega); (first | decide | omega)))
local macro_rules | `(tactic| tm_at "o") => `(tactic| ((with_reducible apply tk_idxN); (first | assumption | omega)))
local macro_rules | `(tactic| tm_at "o") => `(tactic| with_reducible refine tk_lent ?_)
local macro_rules | `(tactic| tm_at "o") => `(tactic| with_reducible refine tk_len ?_)
local macro_rules | `(tactic| tm_at "o") => `(tactic| with_reducible refine tk_lenT ?_)
local macro_rules | `(tactic| tm_at "o") => `(tactic| with_reducible refine tk_nott ?_)
local macro_rules | `(tactic| tm_at "o") => `(tactic| with_reducible refine tk_notl ?_)
local macro_rules | `(tactic| tm_at "o") => `(tactic| with_reducible refine tk_noti ?_)
local macro_rules | `(tactic| tm_at "o") => `(tactic| with_reducible refine tk_notn ?_)
local macro_rules | `(tactic| tm_at "o") => `(tactic| with_reducible refine tk_ist ?_)
local macro_rules | `(tactic| tm_at "o") => `(tactic| with_reducible refine tk_isl ?_)
local macro_rules | `(tactic| tm_at "o") => `(tactic| with_reducible refine tk_isi ?_)
local macro_rules | `(tactic| tm_at "o") => `(tactic| with_reducible refine tk_isn ?_)
local macro_rules | `(tactic| tm_at "o") => `(tactic| with_reducible refine tk_neb ?_)
local macro_rules | `(tactic| tm_at "o") => `(tactic| with_reducible refine tk_eqb ?_)
local macro_rules | `(tactic| tm_at "o") => `(tactic| with_reducible refine tk_ne ?_)
local macro_rules | `(tactic| tm_at "o") => `(tactic| with_reducible refine tk_eq ?_)
local macro_rules | `(tactic| tm_at "o") => `(tactic| with_reducible refine tk_min ?_)
local macro_rules | `(tactic| tm_at "o") => `(tactic| with_reducible refine tk_max ?_)
local macro_rules | `(tactic| tm_at "o") => `(tactic| with_reducible refine tk_abs ?_)
local macro_rules | `(tactic| tm_at "o") => `(tactic| with_reducible refine tk_ge ?_)
local macro_rules | `(tactic| tm_at "o") => `(tactic| with_reducible refine tk_gt ?_)
local macro_rules | `(tactic| tm_at "o") => `(tactic| with_reducible refine tk_le ?_)
local macro_rules | `(tactic| tm_at "o") => `(tactic| with_reducible refine tk_lt ?_)
local macro_rules | `(tactic| tm_at "o") => `(tactic| with_reducible refine tk_neg ?_)
local macro_rules | `(tactic| tm_at "o") => `(tactic| with_reducible refine tk_sub ?_)
local macro_rules | `(tactic| tm_at "o") => `(tactic| with_reducible refine tk_add ?_)
local macro_rules | `(tactic| walk_at "o") => `(tactic| first | tm_at "o" | fail)
local macro_rules | `(tactic| tm_at "1") => `(tactic| tm_at "o")
local macro_rules | `(tactic| tm_at "1") => `(tactic| ((with_reducible apply Put2.tab); tm_at "r"; (first | assumption | omega); (first | assumption | omega)))
local macro_rules | `(tactic| tm_at "1") => `(tactic| ((with_reducible apply PutP.tab); tm_at "r"; (first | assumption | omega)))
local macro_rules | `(tactic| tm_at "1") => `(tactic| ((with_reducible apply AppQ.of); tm_at "r"; (first | (rw [tab_len]; omega) | (simp; done))))
local macro_rules | `(tactic| tm_at "1") => `(tactic| ((with_reducible apply AppP.of); tm_at "r"; (first | (rw [tab_len]; omega) | (simp; done))))
local macro_rules | `(tactic| tm_at "1") => `(tactic| with_reducible refine tk_put2 ?_)
local macro_rules | `(tactic| tm_at "1") => `(tactic| with_reducible refine tk_put ?_)
local macro_rules | `(tactic| tm_at "1") => `(tactic| with_reducible refine tk_appM ?_)
local macro_rules | `(tactic| tm_at "1") => `(tactic| with_reducible refine tk_app ?_)
local macro_rules | `(tactic| tm_at "1") => `(tactic| with_reducible refine Zi.mn ?_)
local macro_rules | `(tactic| tm_at "1") => `(tactic| with_reducible refine Zi.eq ?_)
local macro_rules | `(tactic| tm_at "1") => `(tactic| with_reducible refine tk_chain ?_)
local macro_rules | `(tactic| tm_at "1") => `(tactic| with_reducible refine EnP.tab ?_)
local macro_rules | `(tactic| tm_at "1") => `(tactic| with_reducible refine tk_enum ?_)
local macro_rules | `(tactic| tm_at "1") => `(tactic| with_reducible refine tk_zip ?_)
local macro_rules | `(tactic| tm_at "1") => `(tactic| ((with_reducible apply Rn.one); omega))
local macro_rules | `(tactic| tm_at "1") => `(tactic| with_reducible refine tk_range ?_)
local macro_rules | `(tactic| tm_at "1") => `(tactic| with_reducible refine Sq.tup ?_)
local macro_rules | `(tactic| tm_at "1") => `(tactic| with_reducible refine Sq.lst ?_)
local macro_rules | `(tactic| tm_at "1") => `(tactic| with_reducible refine tk_seqT ?_)
local macro_rules | `(tactic| tm_at "1") => `(tactic| (refine And.intro (show T.flatIn _ = true by walk_at "f") ?_))
local macro_rules | `(tactic| tm_at "1") => `(tactic| (refine And.intro (show T.flat _ = true by walk_at "f") ?_))
local macro_rules | `(tactic| tm_at "1") => `(tactic| (refine And.intro (show isObT _ = false from rfl) ?_))
local macro_rules | `(tactic| tm_at "1") => `(tactic| ((with_reducible apply tk_run); rfl))
local macro_rules | `(tactic| tm_at "1") => `(tactic| ((with_reducible apply tand_f); tm_at "y"))
local macro_rules | `(tactic| tm_at "1") => `(tactic| ((with_reducible apply tand_t); tm_at "y"))
local macro_rules | `(tactic| tm_at "1") => `(tactic| ((with_reducible apply tk_var); tm_at "r"))
local macro_rules | `(tactic| tm_at "1") => `(tactic| with_reducible refine tk_str ?_)
local macro_rules | `(tactic| tm_at "1") => `(tactic| with_reducible refine tk_bool ?_)
local macro_rules | `(tactic| tm_at "1") => `(tactic| with_reducible refine tk_non ?_)
local macro_rules | `(tactic| tm_at "1") => `(tactic| with_reducible refine tk_int ?_)
local macro_rules | `(tactic| tm_at "1") => `(tactic| with_reducible refine tk_sif ?_)
local macro_rules | `(tactic| tm_at "1") => `(tactic| with_reducible refine tk_seq ?_)
local macro_rules | `(tactic| tm_at "1") => `(tactic| with_reducible refine tk_exp ?_)
local macro_rules | `(tactic| tm_at "1") => `(tactic| with_reducible refine tk_set ?_)
local macro_rules | `(tactic| tm_at "1") => `(tactic| with_reducible refine tk_ret ?_)
local macro_rules | `(tactic| tm_at "1") => `(tactic| with_reducible refine tk_next ?_)
local macro_rules | `(tactic| tm_at "1") => `(tactic| with_reducible refine tk_truth_n ?_)
local macro_rules | `(tactic| tm_at "1") => `(tactic| with_reducible refine tk_truth_b ?_)
local macro_rules | `(tactic| tm_at "1") => `(tactic| with_reducible refine tk_bor ?_)
local macro_rules | `(tactic| tm_at "1") => `(tactic| with_reducible refine tk_band ?_)
local macro_rules | `(tactic| tm_at "1") => `(tactic| with_reducible refine tk_false ?_)
local macro_rules | `(tactic| tm_at "1") => `(tactic| with_reducible refine tk_true ?_)
local macro_rules | `(tactic| tm_at "1") => `(tactic| with_reducible refine tk_bnot ?_)
local macro_rules | `(tactic| tm_at "1") => `(tactic| with_reducible refine tk_val ?_)
local macro_rules | `(tactic| tm_at "1") => `(tactic| with_reducible refine tk_is ?_)
local macro_rules | `(tactic| tm_at "1") => `(tactic| with_reducible refine tk_or ?_)
local macro_rules | `(tactic| tm_at "1") => `(tactic| with_reducible refine tk_and ?_)
local macro_rules | `(tactic| tm_at "1") => `(tactic| with_reducible refine tk_not ?_)
local macro_rules | `(tactic| tm_at "1") => `(tactic| with_reducible refine tk_if ?_)
local macro_rules | `(tactic| tm_at "1") => `(tactic| with_reducible refine tk_fl ?_)
local macro_rules | `(tactic| tm_at "1") => `(tactic| with_reducible refine tk_flat ?_)
local macro_rules | `(tactic| tm_at "1") => `(tactic| with_reducible refine tk_call ?_)
local macro_rules | `(tactic| tm_at "1") => `(tactic| with_reducible refine tk_list ?_)
local macro_rules | `(tactic| tm_at "1") => `(tactic| with_reducible refine tk_tup ?_)
local macro_rules | `(tactic| tm_at "1") => `(tactic| with_reducible refine tk_nil ?_)
local macro_rules | `(tactic| tm_at "1") => `(tactic| with_reducible refine tk_cons ?_)
local macro_rules | `(tactic| tm_at "1") => `(tactic| with_reducible refine tk_un ?_)
local macro_rules | `(tactic| tm_at "1") => `(tactic| with_reducible refine tk_bin ?_)
local macro_rules | `(tactic| walk_at "1") => `(tactic| first | tm_at "1" | fail)
local macro_rules | `(tactic| tm_at "tr") => `(tactic| assumption)
local macro_rules | `(tactic| tm_at "tr") => `(tactic| exact rfl)
local macro_rules | `(tactic| tm_at "tr") => `(tactic| ((with_reducible apply delTs_no); decide; tm_at "tr"))
local macro_rules | `(tactic| tm_at "tr") => `(tactic| ((with_reducible apply pick_end); tm_at "tr"))
local macro_rules | `(tactic| tm_at "tr") => `(tactic| ((with_reducible apply pick_there); decide; tm_at "tr"))
local macro_rules | `(tactic| tm_at "tr") => `(tactic| ((with_reducible apply delT_no); decide; tm_at "tr"))
local macro_rules | `(tactic| tm_at "tr") => `(tactic| ((with_reducible apply updT_no); decide; tm_at "tr"))
local macro_rules | `(tactic| tm_at "tr") => `(tactic| with_reducible exact pick_here)
local macro_rules | `(tactic| tm_at "tr") => `(tactic| with_reducible exact updT_self)
local macro_rules | `(tactic| tm_at "tr") => `(tactic| with_reducible assumption)
local macro_rules | `(tactic| walk_at "tr") => `(tactic| first | tm_at "tr" | fail)
local macro_rules | `(tactic| tm_at "t1") => `(tactic| tm_at "1")
local macro_rules | `(tactic| tm_at "t1") => `(tactic| ((with_reducible apply tx_run); rfl))
local macro_rules | `(tactic| tm_at "t1") => `(tactic| ((with_reducible apply tk_var); tm_at "tr"))
local macro_rules | `(tactic| tm_at "t1") => `(tactic| with_reducible refine tx_put ?_)
local macro_rules | `(tactic| tm_at "t1") => `(tactic| with_reducible refine tx_app ?_)
local macro_rules | `(tactic| tm_at "t1") => `(tactic| ((with_reducible refine tx_putS ?hd ?h); (case hd => decide)))
local macro_rules | `(tactic| tm_at "t1") => `(tactic| ((with_reducible refine tx_appS ?hd ?h); (case hd => decide)))
local macro_rules | `(tactic| tm_at "t1") => `(tactic| ((with_reducible apply tx_look); tm_at "tr"))
local macro_rules | `(tactic| tm_at "t1") => `(tactic| with_reducible refine tx_look0 ?_)
local macro_rules | `(tactic| tm_at "t1") => `(tactic| with_reducible refine tx_callT ?_)
local macro_rules | `(tactic| tm_at "t1") => `(tactic| with_reducible refine tx_callF ?_)
local macro_rules | `(tactic| tm_at "t1") => `(tactic| with_reducible refine tx_lift ?_)
local macro_rules | `(tactic| tm_at "t1") => `(tactic| with_reducible refine tx_or ?_)
local macro_rules | `(tactic| tm_at "t1") => `(tactic| with_reducible refine tx_and ?_)
local macro_rules | `(tactic| tm_at "t1") => `(tactic| with_reducible refine tx_not ?_)
local macro_rules | `(tactic| tm_at "t1") => `(tactic| with_reducible refine tx_val ?_)
local macro_rules | `(tactic| tm_at "t1") => `(tactic| with_reducible refine tx_b ?_)
local macro_rules | `(tactic| tm_at "t1") => `(tactic| with_reducible refine tx_p ?_)
local macro_rules | `(tactic| tm_at "t1") => `(tactic| with_reducible refine tx_liftS ?_)
local macro_rules | `(tactic| tm_at "t1") => `(tactic| with_reducible refine tx_setL ?_)
local macro_rules | `(tactic| tm_at "t1") => `(tactic| with_reducible refine tx_next ?_)
local macro_rules | `(tactic| tm_at "t1") => `(tactic| with_reducible refine tx_exp ?_)
local macro_rules | `(tactic| tm_at "t1") => `(tactic| with_reducible refine tx_if ?_)
local macro_rules | `(tactic| tm_at "t1") => `(tactic| with_reducible refine tx_ret ?_)
local macro_rules | `(tactic| tm_at "t1") => `(tactic| with_reducible refine tx_set ?_)
local macro_rules | `(tactic| tm_at "t1") => `(tactic| with_reducible refine tx_seq ?_)
local macro_rules | `(tactic| walk_at "t1") => `(tactic| first | tm_at "t1" | fail)
local macro_rules | `(tactic| walk_at "z") => `(tactic| repeat' (first | tm_at "1" | fail))
local macro_rules | `(tactic| walk_at "tz") => `(tactic| repeat' (first | tm_at "t1" | fail))
namespace L
open PySem PySem.W PyProof.Rows PM TM My
noncomputable def tpT (ns : List Int) (p : Nat) : T := .lst [.lst (ns.map T.int), .int p]
section
variable {Q : T → List T → Prop}
theorem tk_divN {R : T → Prop} {a : Nat} {b : Nat} (hb : 0 < b) (h2 : b < 2 ^ 30) (h : R (.int ((a : Int).fdiv b))) : Pk (qDiv (.int a) (.int b)) R := tk_div (by omega) (PyProof.noPylong_small (by omega)) h
theorem draw60 {ns : List Int} {p : Nat} {m : Int} (hl : ns.length ≤ 200) (hm : 0 < m) (h : ∀ v, 0 ≤ v → v < m → Q (.int v) [tpT ns (p + 1)]) : Pr (law_draw_x [tpT ns p, .int m]) Q := by
  unfold law_draw_x law_draw_q tpT
  have e : (ns.map T.int).length = ns.length := by simp
  walk_at "tz"
  refine ⟨_, 1, rfl, rfl, by decide, (by simp), ?_⟩
  show Psx (qSeq _ _ (updT _ 0 (tpT ns (p + 1)))) _ _
  unfold tpT
  walk_at "tz"
  rw [e]
  refine ⟨fun c => ?_, fun c => ?_⟩
  · walk_at "tz"
    exact h 0 (by omega) hm
  · have c := of_decide_eq_false c
    have hp : 0 < ns.length := by omega
    have i0 := Int.fmod_nonneg_of_pos (p : Int) (show (0 : Int) < ns.length by omega)
    have i1 := Int.fmod_lt_of_pos (p : Int) (show (0 : Int) < ns.length by omega)
    have hne : ((ns.length : Nat) : Int) ≠ 0 := by omega
    walk_at "tz"
    rw [e]
    refine tk_idxL (t := .int (cellAt ns ((p : Int).fmod ns.length) 0)) i0 ?_ ?_
    · rw [List.getElem?_map, List.getElem?_eq_getElem (by omega), cellAt_def]
      simp only [Option.map_some, T.int.injEq, Option.some.injEq]
      rw [List.getD_eq_getElem?_getD, List.getElem?_eq_getElem (by omega)]
      rfl
    walk_at "tz"
    rw [e]
    refine tk_divN hp (by omega) ?_
    walk_at "tz"
    exact h _ (Int.fmod_nonneg_of_pos _ hm) (Int.fmod_lt_of_pos _ hm)
end
end L
namespace L
open PySem PySem.W PyProof.Rows PM TM My
inductive Bl : Nat → T → Prop where
  | none {n : Nat} : Bl n .none
  | bool {n : Nat} {b : Bool} : Bl n (.bool b)
  | int {n : Nat} {i : Int} : Bl n (.int i)
  | str {n : Nat} {x : Str} : PyData.strOk x = true → Bl n (.str x)
  | tup {n : Nat} {ts : List T} : (∀ t ∈ ts, Bl n t) → ts.length ≤ 10000 → Bl (n + 1) (.tup ts)
  | lst {n : Nat} {ts : List T} : (∀ t ∈ ts, Bl n t) → ts.length ≤ 10000 → Bl (n + 1) (.lst ts)
theorem Bl.mono {n : Nat} {t : T} (h : Bl n t) : ∀ {m : Nat}, n ≤ m → Bl m t := by
  induction h with
  | none => intro m _; exact .none
  | bool => intro m _; exact .bool
  | int => intro m _; exact .int
  | str h => intro m _; exact .str h
  | tup hs hl ih =>
    intro m hm
    cases m with
    | zero => omega
    | succ m => exact .tup (fun t a => ih t a (by omega)) hl
  | lst hs hl ih =>
    intro m hm
    cases m with
    | zero => omega
    | succ m => exact .lst (fun t a => ih t a (by omega)) hl
theorem Bl.dat {n : Nat} {t : T} (h : Bl n t) : datT n t = some (dd t) ∧ PyData.canLay0 (dd t) = true ∧ PyData.depth (dd t) ≤ n := by
  induction h with
  | @none n => cases n <;> exact ⟨rfl, rfl, by simp [dd, PyData.depth]⟩
  | @bool n b => cases n <;> exact ⟨rfl, rfl, by simp [dd, PyData.depth]⟩
  | @int n i => cases n <;> exact ⟨rfl, rfl, by simp [dd, PyData.depth]⟩
  | @str n x h => cases n <;> exact ⟨rfl, by simpa [dd, PyData.canLay0] using h, by simp [dd, PyData.depth]⟩
  | @tup n ts _ _ ih =>
    refine ⟨?_, ?_, ?_⟩
    · simp only [datT, datTs_dd fun t m => (ih t m).1, Option.map_some, dd]
    · simp only [dd, PyData.canLay0]; exact lays_dd fun t m => (ih t m).2.1
    · simp only [dd, PyData.depth]
      have := deps_dd fun t m => (ih t m).2.2
      omega
  | @lst n ts _ _ ih =>
    refine ⟨?_, ?_, ?_⟩
    · simp only [datT, datTs_dd fun t m => (ih t m).1, Option.map_some, dd]
    · simp only [dd, PyData.canLay0]; exact lays_dd fun t m => (ih t m).2.1
    · simp only [dd, PyData.depth]
      have := deps_dd fun t m => (ih t m).2.2
      omega
theorem eqvs_self : ∀ {ts : List T}, (∀ t ∈ ts, PyData.eqv (dd t) (dd t) = true) → PyData.eqvAll (dds ts) (dds ts) = true
  | [], _ => by simp [dds, PyData.eqvAll]
  | t :: ts, h => by
    simp only [dds, PyData.eqvAll, Bool.and_eq_true, h t List.mem_cons_self, eqvs_self fun t m => h t (List.mem_cons_of_mem _ m), and_self]
theorem Bl.eqv {n : Nat} {t : T} (h : Bl n t) : PyData.eqv (dd t) (dd t) = true := by
  induction h with
  | none => simp [dd, PyData.eqv]
  | bool => simp [dd, PyData.eqv]
  | int => simp [dd, PyData.eqv]
  | str _ => simp [dd, PyData.eqv]
  | tup hs _ ih => simp only [dd, PyData.eqv]; exact eqvs_self ih
  | lst hs _ ih => simp only [dd, PyData.eqv]; exact eqvs_self ih
theorem eqB_self {n : Nat} {a : T} (ha : Bl n a) (hn : n ≤ 40 := by decide) : qEqB a a = some true := by
  have ha := ha.mono hn
  obtain ⟨a1, a2, a3⟩ := ha.dat
  unfold qEqB DEEP
  rw [a1]
  simp only [Option.bind_some]
  have hs : SeqAt.shaped (dd a) = true := by simp only [SeqAt.shaped, a2, Bool.true_and, decide_eq_true_eq]; omega
  rw [if_pos ⟨hs, hs⟩, ha.eqv]
section
variable {Q : T → Prop}
theorem tk_eqS {n : Nat} {a : T} (ha : Bl n a) (h : Q (.bool true)) (hn : n ≤ 40 := by decide) : Pk (qEq a a) Q := ⟨_, by simp only [qEq, eqB_self ha hn, Option.map_some], h⟩
theorem tk_neS {n : Nat} {a : T} (ha : Bl n a) (h : Q (.bool false)) (hn : n ≤ 40 := by decide) : Pk (qNe a a) Q := ⟨_, by simp only [qNe, eqB_self ha hn, Option.map_some]; rfl, h⟩
end
end L
namespace L
open PySem PySem.W PyProof.Rows PM TM My
section
variable {Q : T → Prop}
theorem tk_mulL6 {a b : Int} (h1 : -(2 ^ 64) < a) (h2 : a < 2 ^ 64) (h : Q (.int (a * b))) : Pk (qMul (.int a) (.int b)) Q := tk_mul (mul_shortL h1 h2) h
theorem pw_9 (h : Q (.int 1000000000)) : Pk (qPow (.int 10) (.int 9)) Q := ⟨_, by simp only [qPow]; rw [if_pos (by decide +kernel)]; rfl, h⟩
end
section
variable {ns : List Int} {p : Nat} {Q : T → List T → Prop}
end
end L
namespace L
open PySem PySem.W PyProof.Rows PM TM My
section
variable {Q : T → Prop}
theorem pw_60 (h : Q (.int T60)) : Pk (qPow (.int 10) (.int 60)) Q := by
  have := pow_60 []
  simp only [oPow] at this
  split at this
  · rename_i hc
    refine ⟨_, by simp only [qPow]; rw [if_pos hc], ?_⟩
    simp only [Option.some.injEq, Prod.mk.injEq, V.int.injEq, and_true] at this
    rw [this]; exact h
  · cases this
end
section
variable {ns : List Int} {p : Nat} {r : Int} {Q : T → List T → Prop}
end
inductive Nice : Nat → T → Prop where
  | none {n : Nat} : Nice n .none
  | bool {n : Nat} (b : Bool) : Nice n (.bool b)
  | int {n : Nat} (i : Int) : Nice n (.int i)
  | str {n : Nat} {s : Str} : PyData.strOk s = true → Nice n (.str s)
  | tup {n : Nat} {ts : List T} : ts.length ≤ 1000 → (∀ t ∈ ts, Nice n t) → Nice (n + 1) (.tup ts)
  | lst {n : Nat} {ts : List T} : ts.length ≤ 1000 → (∀ t ∈ ts, Nice n t) → Nice (n + 1) (.lst ts)
section
variable {ns : List Int} {p : Nat} {r : Int} {Q : T → List T → Prop}
end
section
variable {ns : List Int} {p : Nat} {r : Int} {Q : T → List T → Prop}
end
end L
namespace L
open PySem PySem.W PyProof.Rows PM TM My
section
variable {ns : List Int} {p : Nat} {Q : T → List T → Prop}
theorem number77 (hl : ns.length ≤ 200) (h : ∀ v p', Q (.int v) [tpT ns p']) : Pr (law_number_v77_x [tpT ns p]) Q := by
  have e60 := T60_eq
  unfold law_number_v77_x law_number_v77_q
  walk_at "tz"
  refine draw60 hl (by decide) fun v v0 v1 => ?_
  walk_at "tz"
  refine ⟨fun c => ?_, fun c => ?_⟩
  · walk_at "tz"
    refine pw_60 ?_
    walk_at "tz"
    refine tk_mulL6 (by decide) (by decide) ?_
    walk_at "tz"
    refine draw60 hl (by omega) fun v v0 v1 => ?_
    walk_at "tz"
    refine pw_60 ?_
    walk_at "tz"
    exact h _ _
  walk_at "tz"
  refine ⟨fun c => ?_, fun c => ?_⟩
  · walk_at "tz"
    refine pw_9 ?_
    walk_at "tz"
    refine tk_mulL6 (by decide) (by decide) ?_
    walk_at "tz"
    refine draw60 hl (by decide) fun v v0 v1 => ?_
    walk_at "tz"
    refine pw_9 ?_
    walk_at "tz"
    exact h _ _
  · walk_at "tz"
    refine draw60 hl (by decide) fun v v0 v1 => ?_
    walk_at "tz"
    exact h _ _
end
theorem tk_fil {σ : TL} {Q : T → Prop} {g : PG} {j : Nat} {ts : List T} {c : PB} {P : T → Bool} (hl : ts.length ≤ 10000) (hg : Pl (g σ) fun us => us = ts) (hc : ∀ t ∈ ts, Pb (c (updT σ j t)) fun b => b = P t) (h : Q (.lst (ts.filter P))) : Pk (pComp g (pput1 j) c (pVar j) σ) Q := by
  have key : ∀ us : List T, (∀ t ∈ us, t ∈ ts) → compL (pput1 j) c (pVar j) σ us = some (us.filter P) := by
    intro us
    induction us with
    | nil => intro _; rfl
    | cons t us ih =>
      intro hs
      obtain ⟨b, e, rfl⟩ := hc t (hs t List.mem_cons_self)
      simp only [compL, pput1, Option.bind_some, e, ih fun x m => hs x (List.mem_cons_of_mem _ m), List.filter_cons, pVar, updT_self, Option.map_some]
      split <;> rfl
  refine ⟨_, ?_, h⟩
  obtain ⟨us, hg, rfl⟩ := hg
  simp only [pComp, hg, Option.bind_some, key us fun _ m => m, Option.map_some]
  rw [if_pos (by rw [LEN_eq]; omega)]
noncomputable def crossB : Option Int → Option Int → Bool
  | some x, some y => decide (x > y)
  | _, _ => false
theorem crossed77 (a b : Option Int) : crossed_p [oT a, oT b] = some (.bool (crossB a b)) := by
  cases a <;> cases b <;> (apply Pk.eq; unfold crossed_p crossed_q oT; walk_at "z"; rfl)
noncomputable def hasB (lo hi : Option Int) (n : Int) : Bool := !crossB lo (some n) && !crossB (some n) hi
theorem stretch77 (lo hi : Option Int) (n : Int) : stretch_has_p [.tup [oT lo, oT hi], .int n] = some (.bool (hasB lo hi n)) := by
  apply Pk.eq
  have e1 : crossed_p [oT lo, .int n] = some (.bool (crossB lo (some n))) := crossed77 lo (some n)
  have e2 : crossed_p [.int n, oT hi] = some (.bool (crossB (some n) hi)) := crossed77 (some n) hi
  unfold stretch_has_p stretch_has_q
  walk_at "z"
  refine Pk.of e1 ?_
  walk_at "z"
  unfold hasB
  cases crossB lo (some n)
  · refine ⟨fun _ => ?_, fun c => absurd c (by simp)⟩
    walk_at "z"
    refine Pk.of e2 ?_
    walk_at "z"
    rfl
  · refine ⟨fun c => absurd c (by simp), fun _ => rfl⟩
noncomputable def someT : T → Bool
  | .none => false
  | _ => true
noncomputable def intP (P : Int → Bool) : T → Bool
  | .int n => P n
  | _ => false
noncomputable def ends (lo hi : Option Int) : List Int := lo.toList ++ hi.toList
theorem some_ends (lo hi : Option Int) : [oT lo, oT hi].filter someT = (ends lo hi).map T.int := by
  cases lo <;> cases hi <;> rfl
theorem filter_ints (P : Int → Bool) : ∀ ns : List Int, (ns.map T.int).filter (intP P) = (ns.filter P).map T.int
  | [] => rfl
  | n :: ns => by
    simp only [List.map_cons, List.filter_cons, filter_ints P ns, intP]
    split <;> rfl
theorem ends_len (lo hi : Option Int) : (ends lo hi).length ≤ 2 := by cases lo <;> cases hi <;> simp [ends]
theorem not_none77 (o : Option Int) : Pk (qIsNot (oT o) .none) fun t => t = .bool (someT (oT o)) := by
  cases o <;> (unfold oT; walk_at "z"; rfl)
noncomputable def triedL (lo hi : Option Int) (ms : List Int) : List Int := PM.sortI (uniq ((ends lo hi ++ [0] ++ ms).filter (hasB lo hi)))
theorem tk_addL77 {Q : T → Prop} {a b : List T} (hl : a.length + b.length ≤ 10000) (h : Q (.lst (a ++ b))) : Pk (qAdd (.lst a) (.lst b)) Q := by
  refine ⟨_, ?_, h⟩
  simp only [qAdd]
  rw [if_pos (by rw [LEN_eq, List.length_append]; omega)]
theorem flat_ints77 (ns : List Int) : T.flatIn (.lst (ns.map T.int)) = true := by
  show T.flats (ns.map T.int) = true
  induction ns with
  | nil => rfl
  | cons n ns ih => simp [T.flats, T.flat, ih]
theorem tried77 (lo hi : Option Int) (ms : List Int) (hm : ms.length ≤ 40) : tried_p [.tup [oT lo, oT hi], .lst (ms.map T.int)] = some (.lst ((triedL lo hi ms).map T.int)) := by
  apply Pk.eq
  have le := ends_len lo hi
  unfold tried_p tried_q
  walk_at "z"
  refine tk_fil (ts := [oT lo, oT hi]) (P := someT) (by simp) ?_ (fun t ht => ?_) ?_
  · walk_at "z"
    rfl
  · obtain ⟨o, rfl⟩ : ∃ o, t = oT o := by
      rcases List.mem_cons.mp ht with rfl | ht
      · exact ⟨_, rfl⟩
      · rw [List.mem_singleton.mp ht]; exact ⟨_, rfl⟩
    walk_at "z"
    refine (not_none77 o).mono ?_
    rintro _ rfl
    walk_at "z"
    rfl
  rw [some_ends]
  walk_at "z"
  refine tk_fil (ts := (ends lo hi ++ [0] ++ ms).map T.int) (P := intP (hasB lo hi)) (by simp; omega) ?_ (fun t ht => ?_) ?_
  · walk_at "z"
    refine tk_addL77 (by simp; omega) ?_
    walk_at "z"
    refine tk_addL77 (by simp; omega) ?_
    walk_at "z"
    simp
  · obtain ⟨n, _, rfl⟩ := List.mem_map.mp ht
    walk_at "z"
    refine Pk.of (stretch77 lo hi n) ?_
    walk_at "z"
    rfl
  rw [filter_ints]
  walk_at "z"
  refine tk_sortSet ?_ ?_
  · have := List.length_filter_le (hasB lo hi) (ends lo hi ++ [0] ++ ms)
    simp only [List.length_append, List.length_singleton] at this
    omega
  walk_at "z"
  exact ⟨flat_ints77 _, rfl⟩
end L
namespace L
open PySem PySem.W PyProof.Rows PM TM My
theorem meet_mem {ks : List Int} {k x : Int} : x ∈ meet ks k ↔ x ∈ ks ∨ x = k := by
  unfold meet
  split
  · rename_i h
    exact ⟨.inl, fun q => q.elim id fun e => e ▸ h⟩
  · simp
theorem meets_mem : ∀ (ns ks : List Int) (x : Int), x ∈ ns.foldl meet ks ↔ x ∈ ks ∨ x ∈ ns
  | [], ks, x => by simp
  | n :: ns, ks, x => by
    rw [List.foldl_cons, meets_mem ns, meet_mem, List.mem_cons, or_assoc]
theorem uniq_mem {ns : List Int} {x : Int} : x ∈ uniq ns ↔ x ∈ ns := by
  unfold uniq
  rw [meets_mem]
  simp
theorem meets_nodup : ∀ (ns ks : List Int), ks.Nodup → (ns.foldl meet ks).Nodup
  | [], ks, h => h
  | n :: ns, ks, h => by
    rw [List.foldl_cons]
    refine meets_nodup ns _ ?_
    unfold meet
    split
    · exact h
    · rename_i q
      exact List.nodup_append.mpr ⟨h, by simp, fun a ha b hb => by rw [List.mem_singleton.mp hb]; exact fun e => q (e ▸ ha)⟩
theorem uniq_nodup (ns : List Int) : (uniq ns).Nodup := meets_nodup ns [] List.nodup_nil
theorem same_perm : ∀ (a b : List Int), a.Nodup → b.Nodup → (∀ x, x ∈ a ↔ x ∈ b) → a.Perm b
  | [], b, _, _, h => by
    cases b with
    | nil => exact .refl _
    | cons y b => exact absurd ((h y).mpr List.mem_cons_self) (by simp)
  | x :: a, b, ha, hb, h => by
    have hx := (h x).mp List.mem_cons_self
    obtain ⟨na, ha⟩ := List.nodup_cons.mp ha
    refine ((same_perm a (b.erase x) ha (hb.erase x) fun y => ?_).cons x).trans (List.perm_cons_erase hx).symm
    rw [hb.mem_erase_iff]
    constructor
    · intro hy
      exact ⟨fun e => na (e ▸ hy), (h y).mp (List.mem_cons_of_mem _ hy)⟩
    · rintro ⟨ne, hy⟩
      exact (List.mem_cons.mp ((h y).mpr hy)).resolve_left ne
theorem meets_sorted : ∀ (ns ks : List Int), ks.Pairwise (· ≤ ·) → (∀ x ∈ ks, ∀ y ∈ ns, x ≤ y) → ns.Pairwise (· ≤ ·) → (ns.foldl meet ks).Pairwise (· ≤ ·)
  | [], ks, h, _, _ => h
  | n :: ns, ks, h, h2, h3 => by
    obtain ⟨q1, q2⟩ := List.pairwise_cons.mp h3
    rw [List.foldl_cons]
    refine meets_sorted ns _ ?_ (fun x hx y hy => ?_) q2
    · unfold meet
      split
      · exact h
      · exact List.pairwise_append.mpr ⟨h, by simp, fun x hx y hy => by rw [List.mem_singleton.mp hy]; exact h2 x hx n List.mem_cons_self⟩
    · rcases meet_mem.mp hx with hx | rfl
      · exact h2 x hx y (List.mem_cons_of_mem _ hy)
      · exact q1 y hy
theorem sortI_sorted (ns : List Int) : (PM.sortI ns).Pairwise (· ≤ ·) := by
  have := List.pairwise_mergeSort (le := fun a b : Int => decide (a ≤ b)) (fun a b c h h' => by simp at *; omega) (fun a b => by simp; omega) ns
  unfold PM.sortI
  simpa using this
theorem sortI_mem {ns : List Int} {x : Int} : x ∈ PM.sortI ns ↔ x ∈ ns := (List.mergeSort_perm ns _).mem_iff
theorem order_same {P : Int → Bool} {a b : List Int} (h : ∀ x, x ∈ a ↔ x ∈ b) : uniq ((PM.sortI a).filter P) = PM.sortI (uniq (b.filter P)) := by
  refine sortI_is (same_perm _ _ (uniq_nodup _) (uniq_nodup _) fun x => ?_) ?_
  · rw [uniq_mem, uniq_mem, List.mem_filter, List.mem_filter, sortI_mem, h]
  · exact meets_sorted _ _ .nil (fun x hx => by simp at hx) ((sortI_sorted a).filter P)
end L
namespace L
open PySem PySem.W PyProof.Rows PM TM My
theorem low77 {lo hi : Option Int} {n : Int} {σ : TL} (e0 : σ 0 = some (.tup [oT lo, oT hi])) (e3 : σ 3 = some (.int n)) :
    pAnd (pBin qIsNot (pBin qIdx (pVar 0) (pInt 0)) (pNon)) (pBin qLt (pVar 3) (pBin qIdx (pVar 0) (pInt 0))) σ = some (.bool (crossB lo (some n))) := by
  apply Pk.eq
  cases lo with
  | none =>
    unfold oT at e0
    walk_at "z"
    rfl
  | some x =>
    unfold oT at e0
    walk_at "z"
    rfl
theorem high77 {lo hi : Option Int} {n : Int} {σ : TL} (e0 : σ 0 = some (.tup [oT lo, oT hi])) (e3 : σ 3 = some (.int n)) :
    pAnd (pBin qIsNot (pBin qIdx (pVar 0) (pInt 1)) (pNon)) (pBin qGt (pVar 3) (pBin qIdx (pVar 0) (pInt 1))) σ = some (.bool (crossB (some n) hi)) := by
  apply Pk.eq
  cases hi with
  | none =>
    unfold oT at e0
    walk_at "z"
    rfl
  | some x =>
    unfold oT at e0
    walk_at "z"
    rfl
theorem pln_ints (ns : List Int) : Pln 1 (.lst (ns.map T.int)) := .lst fun t m => by
  obtain ⟨n, _, rfl⟩ := List.mem_map.mp m
  exact .int
theorem mem_ints {ns : List Int} {n : Int} : T.int n ∈ ns.map T.int ↔ n ∈ ns := by
  constructor
  · intro h
    obtain ⟨m, hm, e⟩ := List.mem_map.mp h
    cases e
    exact hm
  · exact fun h => List.mem_map_of_mem h
theorem tk_notIn77 {Q : T → Prop} {ns : List Int} {n : Int} (h : Q (.bool !(decide (n ∈ ns)))) : Pk (qNotIn (.int n) (.lst (ns.map T.int))) Q := by
  have : Pk (qIn (.int n) (.lst (ns.map T.int))) fun t => t = .bool (decide (n ∈ ns)) := tk_in (n := 0) (m := 1) .int (pln_ints ns) (by
    by_cases c : n ∈ ns
    · rw [dec_t (mem_ints.mpr c), decide_eq_true c]
    · rw [dec_f fun q => c (mem_ints.mp q), decide_eq_false c])
  obtain ⟨t, e, rfl⟩ := this
  unfold qIn at e
  obtain ⟨b, e1, e2⟩ := Option.map_eq_some_iff.mp e
  cases e2
  exact ⟨_, by unfold qNotIn; rw [e1]; rfl, h⟩
theorem uniq_take {P : Int → Bool} {ks : List Int} {i : Nat} {k : Int} (h : ks[i]? = some k) : uniq ((ks.take (i + 1)).filter P) = if P k = true then meet (uniq ((ks.take i).filter P)) k else uniq ((ks.take i).filter P) := by
  rw [List.take_succ, h, List.filter_append]
  unfold uniq
  rw [List.foldl_append]
  by_cases c : P k = true
  · rw [if_pos c]
    simp [c]
  · rw [if_neg c]
    simp [c]
noncomputable def dueL (lo hi : Option Int) (ms : List Int) : List Int := uniq ((PM.sortI ([0] ++ ends lo hi ++ ms)).filter (hasB lo hi))
theorem due77 (lo hi : Option Int) (ms : List Int) (hm : ms.length ≤ 40) : law_due_v77_p [.tup [oT lo, oT hi], .lst (ms.map T.int)] = some (.lst ((dueL lo hi ms).map T.int)) := by
  apply Pk.eq
  have le := ends_len lo hi
  have lk : (PM.sortI ([0] ++ ends lo hi ++ ms)).length ≤ 43 := by
    rw [sortI_len]
    simp
    omega
  unfold dueL
  unfold law_due_v77_p law_due_v77_q
  walk_at "z"
  refine tk_forL (ts := (PM.sortI ([0] ++ ends lo hi ++ ms)).map T.int) ?_ (fun i σ => σ 0 = some (.tup [oT lo, oT hi]) ∧ σ 2 = some (.lst ((uniq (((PM.sortI ([0] ++ ends lo hi ++ ms)).take i).filter (hasB lo hi))).map T.int))) ⟨?_, ?_⟩ (fun i t σ ht hP => ?_) (fun σ hP => ?_)
  · walk_at "z"
    refine tk_fil (ts := [oT lo, oT hi]) (P := someT) (by simp) ?_ (fun t ht => ?_) ?_
    · walk_at "z"
      rfl
    · obtain ⟨o, rfl⟩ : ∃ o, t = oT o := by
        rcases List.mem_cons.mp ht with rfl | ht
        · exact ⟨_, rfl⟩
        · rw [List.mem_singleton.mp ht]; exact ⟨_, rfl⟩
      walk_at "z"
      refine (not_none77 o).mono ?_
      rintro _ rfl
      walk_at "z"
      rfl
    rw [some_ends]
    walk_at "z"
    refine tk_addL77 (by simp; omega) ?_
    walk_at "z"
    refine tk_addL77 (by simp; omega) ?_
    walk_at "z"
    rw [show [T.int 0] ++ (ends lo hi).map T.int ++ ms.map T.int = ([0] ++ ends lo hi ++ ms).map T.int by simp]
    refine tk_sortedI (by simp; omega) ?_
    walk_at "z"
    rfl
  · walk_at "r"
  · walk_at "r"
  · obtain ⟨e0, e2⟩ := hP
    generalize PM.sortI ([0] ++ ends lo hi ++ ms) = ks at *
    rw [List.getElem?_map] at ht
    obtain ⟨k, hk, rfl⟩ := Option.map_eq_some_iff.mp ht
    have st := uniq_take (P := hasB lo hi) hk
    have ul : (uniq ((ks.take i).filter (hasB lo hi))).length ≤ 43 := by
      have h1 := uniq_len ((ks.take i).filter (hasB lo hi))
      have h2 := List.length_filter_le (hasB lo hi) (ks.take i)
      have h3 := List.length_take_le' i ks
      omega
    rw [st]
    clear st
    generalize uniq ((ks.take i).filter (hasB lo hi)) = acc at *
    refine tk_seq (tk_set (Pk.of (low77 (lo := lo) (hi := hi) (n := k) (by walk_at "r") (by walk_at "r")) ?_))
    refine tk_seq (tk_set (Pk.of (high77 (lo := lo) (hi := hi) (n := k) (by walk_at "r") (by walk_at "r")) ?_))
    have hb : hasB lo hi k = (!crossB lo (some k) && !crossB (some k) hi) := rfl
    generalize hasB lo hi k = z at hb ⊢
    generalize crossB lo (some k) = a at hb ⊢
    generalize crossB (some k) hi = b at hb ⊢
    subst hb
    cases a
    · cases b
      · rw [show (!false && !false) = true from rfl, if_pos rfl]
        walk_at "z"
        refine tk_notIn77 ?_
        unfold meet
        by_cases c : k ∈ acc
        · rw [decide_eq_true c, if_pos c]
          walk_at "z"
          exact ⟨by walk_at "r", by walk_at "r"⟩
        · rw [decide_eq_false c, if_neg c, List.map_append]
          walk_at "z"
          refine ⟨_, by walk_at "r", by simp; omega, ?_⟩
          walk_at "z"
          exact ⟨by walk_at "r", by walk_at "r"⟩
      · rw [show (!false && !true) = false from rfl, if_neg (by simp)]
        walk_at "z"
        exact ⟨by walk_at "r", by walk_at "r"⟩
    · rw [show (!true && !b) = false from rfl, if_neg (by simp)]
      walk_at "z"
      exact ⟨by walk_at "r", by walk_at "r"⟩
  · obtain ⟨e0, e2⟩ := hP
    rw [List.length_map, List.take_length] at e2
    walk_at "z"
    rfl
end L
namespace L
open PySem PySem.W PyProof.Rows PM TM My
section
variable {ns : List Int} {p : Nat} {Q : T → List T → Prop}
end
end L
namespace L
open PySem PySem.W PyProof.Rows PM TM My
section
variable {Q : T → List T → Prop}
end
end L
namespace L
open PySem PySem.W PyProof.Rows PM TM My
theorem tk_to6 {σ : TL} {Q : T → Prop} {p e : PE} (h : Pk (p σ) fun t => ∃ ts, t = .lst ts ∧ Pk (e σ) fun u => ∃ a : Nat, u = .int a ∧ Q (.lst (ts.take a))) : Pk (pSlice p ppNone (ppSome e) σ) Q := by
  obtain ⟨_, e1, ts, rfl, _, e2, a, rfl, q⟩ := h
  refine ⟨_, ?_, q⟩
  simp only [pSlice, e1, ppNone, ppSome, e2, Option.bind_some, pick_to ts rfl]
theorem whole60 {i : Int} : law_whole_v60_p [.int i] = some (.bool true) := by
  apply Pk.eq
  unfold law_whole_v60_p law_whole_v60_q
  walk_at "z"
  rfl
end L
namespace L
open PySem PySem.W PyProof.Rows PM TM
end L
namespace L
open PySem PySem.W PyProof.Rows PM TM My
theorem bl_ints77 {ns : List Int} (hl : ns.length ≤ 10000) : Bl 2 (.lst (ns.map T.int)) := .lst (fun t m => by
  obtain ⟨p, _, rfl⟩ := List.mem_map.mp m
  exact .int) (by simpa using hl)
theorem alike77 {ns : List Int} (hl : ns.length ≤ 100) : law_alike_v77_p [.lst (ns.map T.int), .lst (ns.map T.int)] = some (.bool true) := by
  apply Pk.eq
  unfold law_alike_v77_p law_alike_v77_q
  walk_at "z"
  refine tk_forL (ts := ns.map T.int) ?_ (fun _ σ => σ 0 = some (.lst (ns.map T.int)) ∧ σ 1 = some (.lst (ns.map T.int))) ⟨rfl, rfl⟩ (fun i t σ hi hI => ?_) fun σ hI => ?_
  · walk_at "z"
    rfl
  · obtain ⟨e0, e1⟩ := hI
    obtain ⟨p, _, rfl⟩ := List.mem_map.mp (List.mem_of_getElem? hi)
    walk_at "z"
    refine Pk.of whole60 ?_
    walk_at "z"
    exact ⟨by walk_at "r", by walk_at "r"⟩
  · obtain ⟨e0, e1⟩ := hI
    walk_at "z"
    exact tk_eqS (bl_ints77 (by omega)) rfl
theorem lows77 {lo v : Int} (h0 : 0 ≤ v) (h1 : v < 7) : ∃ o, [T.int lo, T.int lo, T.int lo, T.int lo, T.int lo, T.none, T.none][v.toNat]? = some (oT o) := by
  have hv : v = 0 ∨ v = 1 ∨ v = 2 ∨ v = 3 ∨ v = 4 ∨ v = 5 ∨ v = 6 := by omega
  rcases hv with rfl | rfl | rfl | rfl | rfl | rfl | rfl <;> first | exact ⟨some lo, rfl⟩ | exact ⟨none, rfl⟩
theorem highs77 {lo v : Int} (h0 : 0 ≤ v) (h1 : v < 7) : ∃ o, [T.int lo, T.int lo, T.int lo, T.int lo, T.none, T.int lo, T.none][v.toNat]? = some (oT o) := by
  have hv : v = 0 ∨ v = 1 ∨ v = 2 ∨ v = 3 ∨ v = 4 ∨ v = 5 ∨ v = 6 := by omega
  rcases hv with rfl | rfl | rfl | rfl | rfl | rfl | rfl <;> first | exact ⟨some lo, rfl⟩ | exact ⟨none, rfl⟩
theorem near77 {v : Int} (ks : List Int) (h0 : 0 ≤ v) (h1 : v < ks.length) : ∃ o, (ks.map T.int)[v.toNat]? = some (.int o) := by
  refine ⟨ks[v.toNat]'(by omega), ?_⟩
  rw [List.getElem?_map, List.getElem?_eq_getElem (by omega)]
  rfl
theorem law_77_true {ns : List Int} (hl : ns.length ≤ 63) : ∃ us, law_77_x [.lst (ns.map T.int)] = some (.bool true, us) := by
  have : Pr (law_77_x [.lst (ns.map T.int)]) fun t _ => t = .bool true := by
    unfold law_77_x law_77_q
    walk_at "tz"
    refine tk_to6 ?_
    walk_at "z"
    refine ⟨_, rfl, ?_⟩
    walk_at "z"
    refine ⟨84, rfl, ?_⟩
    rw [← List.map_take]
    walk_at "tz"
    have l84 : (ns.take 84).length ≤ 200 := by simp; omega
    refine number77 (ns := ns.take 84) (p := 0) l84 fun lo p1 => ?_
    walk_at "tz"
    refine draw60 l84 (by decide) fun a a0 a1 => ?_
    walk_at "tz"
    refine pw_60 ?_
    walk_at "tz"
    have e60 := T60_eq
    refine draw60 l84 (by omega) fun b b0 b1 => ?_
    walk_at "tz"
    refine draw60 l84 (by decide) fun c c0 c1 => ?_
    walk_at "tz"
    obtain ⟨d, hd⟩ := near77 [0, 1, 5, a, b] c0 c1
    refine tk_idxL (t := .int d) c0 hd ?_
    walk_at "tz"
    generalize lo + d = hi
    refine draw60 l84 (by decide) fun v v0 v1 => ?_
    walk_at "tz"
    obtain ⟨ol, hol⟩ := lows77 (lo := lo) v0 v1
    obtain ⟨oh, hoh⟩ := highs77 (lo := hi) v0 v1
    refine tk_idxL (t := oT ol) v0 hol ?_
    walk_at "tz"
    refine tk_idxL (t := oT oh) v0 hoh ?_
    walk_at "tz"
    refine tx_forX ?_
    walk_at "tz"
    refine draw60 l84 (by decide) fun m m0 m1 => ?_
    obtain ⟨m, rfl⟩ : ∃ k : Nat, m = k := ⟨_, (Int.toNat_of_nonneg m0).symm⟩
    walk_at "tz"
    refine tx_forLT (fun i τ => ∃ ms p', τ 1 = some (tpT (ns.take 84) p') ∧ τ 2 = some (.int lo) ∧ τ 3 = some (.int hi) ∧ τ 5 = some (.tup [oT ol, oT oh]) ∧ τ 6 = some (.lst (ms.map T.int)) ∧ ms.length = i) ⟨[], p1 + 1 + 1 + 1 + 1 + 1, ?_, ?_, ?_, ?_, ?_, rfl⟩ (fun i τ hlt hI => ?_) (fun τ hI => ?_)
    · walk_at "tr"
    · walk_at "tr"
    · walk_at "tr"
    · walk_at "tr"
    · walk_at "tr"
    · obtain ⟨ms, p', e1, e2, e3, e5, e6, hm⟩ := hI
      walk_at "tz"
      refine number77 l84 fun w p2 => ?_
      walk_at "tz"
      refine draw60 l84 (by decide) fun a a0 a1 => ?_
      walk_at "tz"
      obtain ⟨d, hd⟩ := near77 [lo, hi, 0, lo + 1, hi - 1, lo - 1, hi + 1, w] a0 a1
      refine tk_idxL (t := .int d) a0 hd ?_
      walk_at "tz"
      refine number77 l84 fun w p3 => ?_
      walk_at "tz"
      refine draw60 l84 (by decide) fun b b0 b1 => ?_
      walk_at "tz"
      obtain ⟨d2, hd2⟩ := near77 [d, w] b0 b1
      refine tk_idxL (t := .int d2) b0 hd2 ?_
      walk_at "tz"
      refine ⟨ms.map T.int, by walk_at "tr", by simp; omega, ?_⟩
      walk_at "tz"
      refine ⟨ms ++ [d2], p3 + 1, ?_, ?_, ?_, ?_, ?_, by simp; omega⟩
      · walk_at "tr"
      · walk_at "tr"
      · walk_at "tr"
      · walk_at "tr"
      · rw [List.map_append]
        walk_at "tr"
    · obtain ⟨ms, p', e1, e2, e3, e5, e6, hm⟩ := hI
      have lm : ms.length ≤ 40 := by omega
      have ed : dueL ol oh ms = triedL ol oh ms := order_same fun x => by simp only [List.mem_append, List.mem_singleton]; exact ⟨fun q => by rcases q with (q | q) | q; exact .inl (.inr q); exact .inl (.inl q); exact .inr q, fun q => by rcases q with (q | q) | q; exact .inl (.inr q); exact .inl (.inl q); exact .inr q⟩
      have lt : (triedL ol oh ms).length ≤ 60 := by
        have h1 := uniq_len ((ends ol oh ++ [0] ++ ms).filter (hasB ol oh))
        have h2 := List.length_filter_le (hasB ol oh) (ends ol oh ++ [0] ++ ms)
        have h3 := ends_len ol oh
        simp only [List.length_append, List.length_singleton] at h2
        unfold triedL
        rw [sortI_len]
        omega
      have du := due77 ol oh ms lm
      have tr := tried77 ol oh ms lm
      rw [ed] at du
      generalize triedL ol oh ms = L0 at du tr lt
      walk_at "tz"
      refine Pk.of du ?_
      walk_at "tz"
      refine Pk.of tr ?_
      walk_at "tz"
      refine Pk.of (alike77 (by omega)) ?_
      walk_at "tz"
      refine tk_neS (n := 2) (bl_ints77 (by omega)) ?_
      walk_at "tz"
      refine ⟨L0.map T.int, by walk_at "tr", by simp; omega, ?_⟩
      walk_at "tz"
      refine Pk.of tr ?_
      walk_at "tz"
      refine Pk.of (alike77 (by omega)) ?_
      walk_at "tz"
      rfl
  obtain ⟨t, us, e, rfl⟩ := this
  exact ⟨us, e⟩
theorem law_77_claim {ns : List Int} (hlen : ns.length ≤ 63) (hL : PyData.layable0 (.list (ns.map .int)) = true) : ∃ H', law_77_f [.ref 0] [ns.map V.int] = some (.bool true, H') := law_treesX law_77_s ns (law_77_true hlen)
end L
end
section
open PySem PySem.W PyProof.Rows
namespace PySem.W.Fast
theorem tw9497945907656264259 : True := trivial
theorem tw1176975735165151067 : True := trivial
theorem tw10426125643436316091 : True := trivial
theorem tw4621932581444047675 : True := trivial
theorem tw17643754061406199020 : True := trivial
theorem tw15452572443179084588 : True := trivial
theorem tw4419873286371483742 : True := trivial
theorem tw2257529940240947247 : True := trivial
theorem tw16002967266952078866 : True := trivial
theorem tw4361700775904427359 : True := trivial
theorem tw16932301668260661676 : True := trivial
theorem tw16472409268878238316 : True := trivial
theorem tw3764688243253525356 : True := trivial
theorem tw13517250619966689955 : True := trivial
theorem tw5312734613080425828 : True := trivial
theorem tw14613296582639449008 : True := trivial
theorem tw16749348522385944071 : True := trivial
theorem tw69414778264802052 : True := trivial
theorem tw7317576523658780031 : True := trivial
theorem tw18377060621193280768 : True := trivial
theorem tw3094701115853657799 : True := trivial
theorem tw804092199982636349 : True := trivial
theorem tw13829591483307370896 : True := trivial
theorem tw17969941481158815411 : True := trivial
theorem tw15213048550514571353 : True := trivial
theorem tw17427895641331663283 : True := trivial
theorem tw4033379813872489195 : True := trivial
theorem tw8903238766108814736 : True := trivial
theorem tw9879262335626978114 : True := trivial
theorem tw8646929664414959583 : True := trivial
theorem tw14864845329073380503 : True := trivial
theorem tw15210816241431372910 : True := trivial
theorem tw8160871880118814707 : True := trivial
theorem tw9897558803702562313 : True := trivial
theorem tw5036445103931068615 : True := trivial
theorem tw13792483299354683862 : True := trivial
theorem tw2852278927748849453 : True := trivial
theorem tw17857563459279650048 : True := trivial
theorem tw5485572742587201778 : True := trivial
theorem tw17093224777342109595 : True := trivial
theorem tw4684357293605679996 : True := trivial
theorem tw8526028360262338249 : True := trivial
theorem tw1647960591809683682 : True := trivial
theorem tw14323227155912201964 : True := trivial
theorem tw13952158723898717365 : True := trivial
theorem tw4968929673044707356 : True := trivial
theorem tw2873748437651673626 : True := trivial
theorem tw10497823618577955822 : True := trivial
theorem tw3808584094389355786 : True := trivial
theorem tw10800367221633172730 : True := trivial
theorem tw17084317755948004794 : True := trivial
theorem tw6623812351622530092 : True := trivial
theorem tw7618804249908900691 : True := trivial
theorem tw10354477200866600673 : True := trivial
theorem tw6252695792229605141 : True := trivial
theorem tw133755455108545178 : True := trivial
theorem tw16286715671046524454 : True := trivial
theorem tw8078195926588453703 : True := trivial
theorem tw3822784309164373692 : True := trivial
theorem tw13949155002146243131 : True := trivial
theorem tw10794963570569440886 : True := trivial
theorem tw16970792351503237766 : True := trivial
theorem tw17960848765466677729 : True := trivial
theorem tw16504757533647375273 : True := trivial
end PySem.W.Fast
set_option maxRecDepth 100000 in
set_option maxHeartbeats 8000000 in
open_top head for PySem.Challenge.rw_seer_k77_numbers_tried
end
section
set_option maxRecDepth 100000
set_option maxHeartbeats 8000000
set_option linter.all false
open PySem PySem.W PySem.Calls PyProof.Rows PM
seal PM.J PM.Js PM.JT PM.JA PM.JF PM.JI PM.JI2 PM.JP PM.S1 PM.Ss PM.Sto PM.Rd PM.Nm PM.OpN PM.Op2 PM.Def
namespace L
section
variable {w : World} {s₀ : Shared} {mg mb : Str → Option Value}
theorem law_draw_d : Def PySem.Challenge.rw_seer_k77_numbers_tried.row.prog w (head.heap_39 w.params) head.view_39 (looseW head.view_39 []) (ExcName.means s₀.heap) mg mb 40 1 law_draw_f := by
    k_fill
    refine' Def.of (names := [Str.ofString "_law_tape", Str.ofString "_law_many", Str.ofString "_law_at"]) (n := 2) (room := 0) (g := law_draw_g) (ho := ?ho) (hcd := ?hcd) (nd := by decide) (hn := by decide) (hbind := ?hb) (hkinds := ?hk) (hone := ?h1) (hco := ?z1) (hgen := ?z2) (hk := ?z3) (hbody := ?hbody)
    case ho => k_is
    case z1 => rfl
    case z2 => rfl
    case z3 => rfl
    case hcd => k_is
    case hb => intro s xs hx; match xs, hx with | [x0, x1], _ => exact BindsTo.of_eq rfl
    case hk => decide
    case h1 => decide +kernel
    case hbody =>
      intro dp un gd L outer h₀ hu clr hd1 hu1
      exact (Ss.cons (S1.set (sto_loc (by decide) (by rfl) rfl rfl) (J.idx (J.var (rd_loc (by rfl) rfl rfl rfl)) (J.int _ _ _))) (Ss.cons (S1.put (J.bin (J.var (rd_loc (by rfl) rfl rfl rfl)) (J.int _ _ _) ok_add) (J.var (rd_loc (by rfl) rfl rfl rfl)) (J.int _ _ _)) (Ss.cons (S1.ife (JT.cmp (J.callB (nm_built clr (by k_is) (by boot_by_name) (by decide) rfl rfl rfl rfl rfl) (Js.cons (J.idx (J.var (rd_loc (by rfl) rfl rfl rfl)) (J.int _ _ _)) Js.nil) ok_len) (J.int _ _ _) ok_eq) (Ss.one (S1.ret (J.int _ _ _))) Ss.nil) (Ss.one (S1.ret (J.bin (J.bin (J.idx (J.idx (J.var (rd_loc (by rfl) rfl rfl rfl)) (J.int _ _ _)) (J.bin (J.var (rd_loc (by rfl) rfl rfl rfl)) (J.callB (nm_built clr (by k_is) (by boot_by_name) (by decide) rfl rfl rfl rfl rfl) (Js.cons (J.idx (J.var (rd_loc (by rfl) rfl rfl rfl)) (J.int _ _ _)) Js.nil) ok_len) ok_mod)) (J.bin (J.var (rd_loc (by rfl) rfl rfl rfl)) (J.callB (nm_built clr (by k_is) (by boot_by_name) (by decide) rfl rfl rfl rfl rfl) (Js.cons (J.idx (J.var (rd_loc (by rfl) rfl rfl rfl)) (J.int _ _ _)) Js.nil) ok_len) ok_div) ok_add) (J.var (rd_loc (by rfl) rfl rfl rfl)) ok_mod))))))
theorem law_number_v77_d : Def PySem.Challenge.rw_seer_k77_numbers_tried.row.prog w (head.heap_39 w.params) head.view_39 (looseW head.view_39 []) (ExcName.means s₀.heap) mg mb 47 2 law_number_v77_f := by
    k_fill
    refine' Def.of (names := [Str.ofString "_law_tape", Str.ofString "_law_kind"]) (n := 1) (room := 1) (g := law_number_v77_g) (ho := ?ho) (hcd := ?hcd) (nd := by decide) (hn := by decide) (hbind := ?hb) (hkinds := ?hk) (hone := ?h1) (hco := ?z1) (hgen := ?z2) (hk := ?z3) (hbody := ?hbody)
    case ho => k_is
    case z1 => rfl
    case z2 => rfl
    case z3 => rfl
    case hcd => k_is
    case hb => intro s xs hx; match xs, hx with | [x0], _ => exact BindsTo.of_eq rfl
    case hk => decide
    case h1 => decide +kernel
    case hbody =>
      intro dp un gd L outer h₀ hu clr hd1 hu1
      exact (Ss.cons (S1.set (sto_loc (by decide) (by rfl) rfl rfl) (J.callF clr (nm_def clr (by k_is) rfl rfl rfl rfl) (by k_is) law_draw_d (by omega) (by omega) (Js.cons (J.var (rd_loc (by rfl) rfl rfl rfl)) (Js.cons (J.int _ _ _) Js.nil)))) (Ss.cons (S1.ife (JT.cmp (J.var (rd_loc (by rfl) rfl rfl rfl)) (J.int _ _ _) ok_eq) (Ss.one (S1.ret (J.bin (J.callF clr (nm_def clr (by k_is) rfl rfl rfl rfl) (by k_is) law_draw_d (by omega) (by omega) (Js.cons (J.var (rd_loc (by rfl) rfl rfl rfl)) (Js.cons (J.bin (J.bin (J.int _ _ _) (J.bin (J.int _ _ _) (J.int _ _ _) ok_pow) ok_mul) (J.int _ _ _) ok_add) Js.nil))) (J.bin (J.int _ _ _) (J.int _ _ _) ok_pow) ok_sub))) Ss.nil) (Ss.cons (S1.ife (JT.cmp (J.var (rd_loc (by rfl) rfl rfl rfl)) (J.int _ _ _) ok_eq) (Ss.one (S1.ret (J.bin (J.callF clr (nm_def clr (by k_is) rfl rfl rfl rfl) (by k_is) law_draw_d (by omega) (by omega) (Js.cons (J.var (rd_loc (by rfl) rfl rfl rfl)) (Js.cons (J.bin (J.bin (J.int _ _ _) (J.bin (J.int _ _ _) (J.int _ _ _) ok_pow) ok_mul) (J.int _ _ _) ok_add) Js.nil))) (J.bin (J.int _ _ _) (J.int _ _ _) ok_pow) ok_sub))) Ss.nil) (Ss.one (S1.ret (J.bin (J.callF clr (nm_def clr (by k_is) rfl rfl rfl rfl) (by k_is) law_draw_d (by omega) (by omega) (Js.cons (J.var (rd_loc (by rfl) rfl rfl rfl)) (Js.cons (J.int _ _ _) Js.nil))) (J.int _ _ _) ok_sub))))))
theorem law_due_v77_d : Def PySem.Challenge.rw_seer_k77_numbers_tried.row.prog w (head.heap_39 w.params) head.view_39 (looseW head.view_39 []) (ExcName.means s₀.heap) mg mb 66 1 law_due_v77_f := by
    k_fill
    refine' Def.of (names := [Str.ofString "_law_one", Str.ofString "_law_marks", Str.ofString "_law_some", Str.ofString "_law_number_here", Str.ofString "_law_low", Str.ofString "_law_high"]) (n := 2) (room := 0) (g := law_due_v77_g) (ho := ?ho) (hcd := ?hcd) (nd := by decide) (hn := by decide) (hbind := ?hb) (hkinds := ?hk) (hone := ?h1) (hco := ?z1) (hgen := ?z2) (hk := ?z3) (hbody := ?hbody)
    case ho => k_is
    case z1 => rfl
    case z2 => rfl
    case z3 => rfl
    case hcd => k_is
    case hb => intro s xs hx; match xs, hx with | [x0, x1], _ => exact BindsTo.of_eq rfl
    case hk => decide
    case h1 => decide +kernel
    case hbody =>
      intro dp un gd L outer h₀ hu clr hd1 hu1
      exact (Ss.cons (S1.set (sto_loc (by decide) (by rfl) rfl rfl) (J.list Js.nil)) (Ss.cons (S1.for (sto_loc (by decide) (by rfl) rfl rfl) (JI.seq (J.callB (nm_built clr (by k_is) (by boot_by_name) (by decide) rfl rfl rfl rfl rfl) (Js.cons (J.bin (J.bin (J.list (Js.cons (J.int _ _ _) Js.nil)) (by refine J.comp (t := 100) (hclos := by with_unfolding_all rfl) (hg := ?pg100) (hel := ?pe100) (hif := ?pi100) (hcell := by decide) (hkind := rfl) (hnames := by decide) (hx := rfl); (case pg100 => exact (JI.seq (J.var (rd_loc (by rfl) rfl rfl rfl)))); (case pe100 => intro C ρ; exact (J.var (rdc_own List.mem_cons_self rfl rfl rfl))); (case pi100 => intro C ρ; exact JF.one (JT.cmp (J.var (rdc_own List.mem_cons_self rfl rfl rfl)) (J.none _ _) ok_isNot))) ok_add) (J.var (rd_loc (by rfl) rfl rfl rfl)) ok_add) Js.nil) ok_sortedA)) (Ss.cons (S1.set (sto_loc (by decide) (by rfl) rfl rfl) (J.and (J.cmp (J.idx (J.var (rd_loc (by rfl) rfl rfl rfl)) (J.int _ _ _)) (J.none _ _) ok_isNot) (J.cmp (J.var (rd_loc (by rfl) rfl rfl rfl)) (J.idx (J.var (rd_loc (by rfl) rfl rfl rfl)) (J.int _ _ _)) ok_lt))) (Ss.cons (S1.set (sto_loc (by decide) (by rfl) rfl rfl) (J.and (J.cmp (J.idx (J.var (rd_loc (by rfl) rfl rfl rfl)) (J.int _ _ _)) (J.none _ _) ok_isNot) (J.cmp (J.var (rd_loc (by rfl) rfl rfl rfl)) (J.idx (J.var (rd_loc (by rfl) rfl rfl rfl)) (J.int _ _ _)) ok_gt))) (Ss.one (S1.ife (JT.bools (JA.andCons (JT.not (JT.val (J.var (rd_loc (by rfl) rfl rfl rfl)))) (JA.andCons (JT.not (JT.val (J.var (rd_loc (by rfl) rfl rfl rfl)))) (JA.andCons (JT.cmp (J.var (rd_loc (by rfl) rfl rfl rfl)) (J.var (rd_loc (by rfl) rfl rfl rfl)) ok_notIn) JA.andNil)))) (Ss.one (S1.exp (J.append (J.var (rd_loc (by rfl) rfl rfl rfl)) (J.var (rd_loc (by rfl) rfl rfl rfl))))) Ss.nil))))) (Ss.one (S1.ret (J.var (rd_loc (by rfl) rfl rfl rfl))))))
theorem crossed_d : Def PySem.Challenge.rw_seer_k77_numbers_tried.row.prog w (head.heap_39 w.params) head.view_39 (looseW head.view_39 []) (ExcName.means s₀.heap) mg mb 21 1 crossed_f := by
    k_fill
    refine' Def.of (names := [Str.ofString "lo", Str.ofString "hi"]) (n := 2) (room := 0) (g := crossed_g) (ho := ?ho) (hcd := ?hcd) (nd := by decide) (hn := by decide) (hbind := ?hb) (hkinds := ?hk) (hone := ?h1) (hco := ?z1) (hgen := ?z2) (hk := ?z3) (hbody := ?hbody)
    case ho => k_is
    case z1 => rfl
    case z2 => rfl
    case z3 => rfl
    case hcd => k_is
    case hb => intro s xs hx; match xs, hx with | [x0, x1], _ => exact BindsTo.of_eq rfl
    case hk => decide
    case h1 => decide +kernel
    case hbody =>
      intro dp un gd L outer h₀ hu clr hd1 hu1
      exact (Ss.one (S1.ret (J.andC (J.cmp (J.var (rd_loc (by rfl) rfl rfl rfl)) (J.none _ _) ok_isNot) (J.and (J.cmp (J.var (rd_loc (by rfl) rfl rfl rfl)) (J.none _ _) ok_isNot) (J.cmp (J.var (rd_loc (by rfl) rfl rfl rfl)) (J.var (rd_loc (by rfl) rfl rfl rfl)) ok_gt)))))
theorem stretch_has_d : Def PySem.Challenge.rw_seer_k77_numbers_tried.row.prog w (head.heap_39 w.params) head.view_39 (looseW head.view_39 []) (ExcName.means s₀.heap) mg mb 28 2 stretch_has_f := by
    k_fill
    refine' Def.of (names := [Str.ofString "one", Str.ofString "number"]) (n := 2) (room := 1) (g := stretch_has_g) (ho := ?ho) (hcd := ?hcd) (nd := by decide) (hn := by decide) (hbind := ?hb) (hkinds := ?hk) (hone := ?h1) (hco := ?z1) (hgen := ?z2) (hk := ?z3) (hbody := ?hbody)
    case ho => k_is
    case z1 => rfl
    case z2 => rfl
    case z3 => rfl
    case hcd => k_is
    case hb => intro s xs hx; match xs, hx with | [x0, x1], _ => exact BindsTo.of_eq rfl
    case hk => decide
    case h1 => decide +kernel
    case hbody =>
      intro dp un gd L outer h₀ hu clr hd1 hu1
      exact (Ss.one (S1.ret (J.and (J.not (J.callF clr (nm_def clr (by k_is) rfl rfl rfl rfl) (by k_is) crossed_d (by omega) (by omega) (Js.cons (J.idx (J.var (rd_loc (by rfl) rfl rfl rfl)) (J.int _ _ _)) (Js.cons (J.var (rd_loc (by rfl) rfl rfl rfl)) Js.nil)))) (J.not (J.callF clr (nm_def clr (by k_is) rfl rfl rfl rfl) (by k_is) crossed_d (by omega) (by omega) (Js.cons (J.var (rd_loc (by rfl) rfl rfl rfl)) (Js.cons (J.idx (J.var (rd_loc (by rfl) rfl rfl rfl)) (J.int _ _ _)) Js.nil)))))))
theorem tried_d : Def PySem.Challenge.rw_seer_k77_numbers_tried.row.prog w (head.heap_39 w.params) head.view_39 (looseW head.view_39 []) (ExcName.means s₀.heap) mg mb 33 3 tried_f := by
    k_fill
    refine' Def.of (names := [Str.ofString "one", Str.ofString "marks", Str.ofString "ends"]) (n := 2) (room := 2) (g := tried_g) (ho := ?ho) (hcd := ?hcd) (nd := by decide) (hn := by decide) (hbind := ?hb) (hkinds := ?hk) (hone := ?h1) (hco := ?z1) (hgen := ?z2) (hk := ?z3) (hbody := ?hbody)
    case ho => k_is
    case z1 => rfl
    case z2 => rfl
    case z3 => rfl
    case hcd => k_is
    case hb => intro s xs hx; match xs, hx with | [x0, x1], _ => exact BindsTo.of_eq rfl
    case hk => decide
    case h1 => decide +kernel
    case hbody =>
      intro dp un gd L outer h₀ hu clr hd1 hu1
      exact (Ss.cons (by refine S1.setComp (t := 100) (hsw := by rfl) (hclos := by with_unfolding_all rfl) (hy := (sto_loc (by decide) (by rfl) rfl rfl)) (hg := ?pg100) (hel := ?pe100) (hif := ?pi100) (hcell := by decide) (hkind := rfl) (hnames := by decide) (hx := rfl); (case pg100 => exact (JI.seq (J.var (rd_cel (by rfl) rfl rfl rfl)))); (case pe100 => intro C ρ; exact (J.var (rdc_own List.mem_cons_self rfl rfl rfl))); (case pi100 => intro C ρ; exact JF.one (JT.cmp (J.var (rdc_own List.mem_cons_self rfl rfl rfl)) (J.none _ _) ok_isNot))) (Ss.one (S1.ret (J.sortSet (nm_built clr (by k_is) (by boot_by_name) (by decide) rfl rfl rfl rfl rfl) (nm_built clr (by k_is) (by boot_by_name) (by decide) rfl rfl rfl rfl rfl) (Js.cons (by refine J.comp (t := 102) (hclos := by with_unfolding_all rfl) (hg := ?pg102) (hel := ?pe102) (hif := ?pi102) (hcell := by decide) (hkind := rfl) (hnames := by decide) (hx := rfl); (case pg102 => exact (JI.seq (J.bin (J.bin (J.var (rd_loc (by rfl) rfl rfl rfl)) (J.list (Js.cons (J.int _ _ _) Js.nil)) ok_add) (J.var (rd_loc (by rfl) rfl rfl rfl)) ok_add))); (case pe102 => intro C ρ; exact (J.var (rdc_own List.mem_cons_self rfl rfl rfl))); (case pi102 => intro C ρ; exact JF.one (JT.val (J.callF (Clr.comp clr) (nm_def (Clr.comp clr) (by k_is) rfl rfl rfl rfl) (by k_is) stretch_has_d (by omega) (by omega) (Js.cons (J.var (rdc_cel (by rfl) rfl (by decide) rfl rfl rfl rfl)) (Js.cons (J.var (rdc_own List.mem_cons_self rfl rfl rfl)) Js.nil)))))) Js.nil)))))
theorem law_whole_v60_d : Def PySem.Challenge.rw_seer_k77_numbers_tried.row.prog w (head.heap_39 w.params) head.view_39 (looseW head.view_39 []) (ExcName.means s₀.heap) mg mb 54 1 law_whole_v60_f := by
    k_fill
    refine' Def.of (names := [Str.ofString "_law_one"]) (n := 1) (room := 0) (g := law_whole_v60_g) (ho := ?ho) (hcd := ?hcd) (nd := by decide) (hn := by decide) (hbind := ?hb) (hkinds := ?hk) (hone := ?h1) (hco := ?z1) (hgen := ?z2) (hk := ?z3) (hbody := ?hbody)
    case ho => k_is
    case z1 => rfl
    case z2 => rfl
    case z3 => rfl
    case hcd => k_is
    case hb => intro s xs hx; match xs, hx with | [x0], _ => exact BindsTo.of_eq rfl
    case hk => decide
    case h1 => decide +kernel
    case hbody =>
      intro dp un gd L outer h₀ hu clr hd1 hu1
      exact (Ss.one (S1.ret (J.and (J.isinst (nm_built clr (by k_is) (by boot_by_name) (by decide) rfl rfl rfl rfl rfl) (nm_built clr (by k_is) (by boot_by_name) (by decide) rfl rfl rfl rfl rfl) (.inl rfl) (J.var (rd_loc (by rfl) rfl rfl rfl))) (J.not (J.isinst (nm_built clr (by k_is) (by boot_by_name) (by decide) rfl rfl rfl rfl rfl) (nm_built clr (by k_is) (by boot_by_name) (by decide) rfl rfl rfl rfl rfl) (.inr (.inl rfl)) (J.var (rd_loc (by rfl) rfl rfl rfl)))))))
theorem law_alike_v77_d : Def PySem.Challenge.rw_seer_k77_numbers_tried.row.prog w (head.heap_39 w.params) head.view_39 (looseW head.view_39 []) (ExcName.means s₀.heap) mg mb 61 2 law_alike_v77_f := by
    k_fill
    refine' Def.of (names := [Str.ofString "_law_came", Str.ofString "_law_due_here", Str.ofString "_law_one"]) (n := 2) (room := 1) (g := law_alike_v77_g) (ho := ?ho) (hcd := ?hcd) (nd := by decide) (hn := by decide) (hbind := ?hb) (hkinds := ?hk) (hone := ?h1) (hco := ?z1) (hgen := ?z2) (hk := ?z3) (hbody := ?hbody)
    case ho => k_is
    case z1 => rfl
    case z2 => rfl
    case z3 => rfl
    case hcd => k_is
    case hb => intro s xs hx; match xs, hx with | [x0, x1], _ => exact BindsTo.of_eq rfl
    case hk => decide
    case h1 => decide +kernel
    case hbody =>
      intro dp un gd L outer h₀ hu clr hd1 hu1
      exact (Ss.cons (S1.ife (JT.bools (JA.orCons (JT.not (JT.val (J.isinst (nm_built clr (by k_is) (by boot_by_name) (by decide) rfl rfl rfl rfl rfl) (nm_built clr (by k_is) (by boot_by_name) (by decide) rfl rfl rfl rfl rfl) (.inr (.inr (.inl rfl))) (J.var (rd_loc (by rfl) rfl rfl rfl))))) (JA.orCons (JT.cmp (J.callB (nm_built clr (by k_is) (by boot_by_name) (by decide) rfl rfl rfl rfl rfl) (Js.cons (J.var (rd_loc (by rfl) rfl rfl rfl)) Js.nil) ok_len) (J.callB (nm_built clr (by k_is) (by boot_by_name) (by decide) rfl rfl rfl rfl rfl) (Js.cons (J.var (rd_loc (by rfl) rfl rfl rfl)) Js.nil) ok_len) ok_ne) JA.orNil))) (Ss.one (S1.ret (J.bool _ _ _))) Ss.nil) (Ss.cons (S1.for (sto_loc (by decide) (by rfl) rfl rfl) (JI.seq (J.var (rd_loc (by rfl) rfl rfl rfl))) (Ss.one (S1.ife (JT.not (JT.val (J.callF clr (nm_def clr (by k_is) rfl rfl rfl rfl) (by k_is) law_whole_v60_d (by omega) (by omega) (Js.cons (J.var (rd_loc (by rfl) rfl rfl rfl)) Js.nil)))) (Ss.one (S1.ret (J.bool _ _ _))) Ss.nil))) (Ss.one (S1.ret (J.cmp (J.var (rd_loc (by rfl) rfl rfl rfl)) (J.var (rd_loc (by rfl) rfl rfl rfl)) ok_eq)))))
end
end L
end
section
set_option maxRecDepth 100000
set_option maxHeartbeats 8000000
set_option linter.all false
open PySem PySem.W PySem.Calls PyProof.Rows PM
open L
seal PySem.wpAny PM.J PM.Js PM.JT PM.JA PM.JF PM.JI PM.JI2 PM.JP PM.S1 PM.Ss PM.Sto PM.Rd PM.Nm PM.OpN PM.Op2 PM.Def
theorem PySem.Challenge.cw_seer_k77_numbers_tried_holds : PySem.Challenge.rw_seer_k77_numbers_tried.Holds :=
  head (by
    w_strict (k_go0; (rename Well _ _ _ _ => w9); (rename Frag.In _ _ => kx9); (rename Top _ _ _ _ _ _ => t9); (rename Fr _ _ _ _ => f9); (rename News _ _ _ _ => n9); (rename (PyData.layable0 _ = true) => hl9); (obtain ⟨H9, e9⟩ := L.law_77_claim (by omega) hl9); (refine' PM.top_law0 (names := [Str.ofString "_law_script", Str.ofString "_law_tape", Str.ofString "_law_lo", Str.ofString "_law_hi", Str.ofString "_law_kind", Str.ofString "_law_one", Str.ofString "_law_marks", Str.ofString "_law_k", Str.ofString "_law_near", Str.ofString "_law_due_here", Str.ofString "_law_handed", Str.ofString "_law_came"]) (g := law_77_g) (room := 3) ?hb ?h1 ?h2 ?h3 ?h4 ?hc ?hl kx9 t9 w9 ?len f9 n9 e9 ?post); (case h1 => decide); (case h2 => decide); (case h3 => rfl); (case h4 => rfl); (case hc => (intro n; rfl)); (case hl => rfl); (case len => (rw [PM.LEN_eq]; omega)); (case hb => (intro dp un gd L a ccd outer h₀ hu clr hd1 hu1; exact (Ss.cons (S1.set (sto_loc (by decide) (by rfl) rfl rfl) (J.list (Js.cons (J.slice (J.var (rd_loc (by rfl) rfl rfl rfl)) JP.none (JP.some (J.int _ _ _))) (Js.cons (J.int _ _ _) Js.nil)))) (Ss.cons (S1.set (sto_loc (by decide) (by rfl) rfl rfl) (J.callF clr (nm_def clr (by k_is) rfl rfl rfl rfl) (by k_is) law_number_v77_d (by omega) (by omega) (Js.cons (J.var (rd_loc (by rfl) rfl rfl rfl)) Js.nil))) (Ss.cons (S1.set (sto_loc (by decide) (by rfl) rfl rfl) (J.bin (J.var (rd_loc (by rfl) rfl rfl rfl)) (J.idx (J.list (Js.cons (J.int _ _ _) (Js.cons (J.int _ _ _) (Js.cons (J.int _ _ _) (Js.cons (J.callF clr (nm_def clr (by k_is) rfl rfl rfl rfl) (by k_is) law_draw_d (by omega) (by omega) (Js.cons (J.var (rd_loc (by rfl) rfl rfl rfl)) (Js.cons (J.int _ _ _) Js.nil))) (Js.cons (J.callF clr (nm_def clr (by k_is) rfl rfl rfl rfl) (by k_is) law_draw_d (by omega) (by omega) (Js.cons (J.var (rd_loc (by rfl) rfl rfl rfl)) (Js.cons (J.bin (J.int _ _ _) (J.int _ _ _) ok_pow) Js.nil))) Js.nil)))))) (J.callF clr (nm_def clr (by k_is) rfl rfl rfl rfl) (by k_is) law_draw_d (by omega) (by omega) (Js.cons (J.var (rd_loc (by rfl) rfl rfl rfl)) (Js.cons (J.int _ _ _) Js.nil)))) ok_add)) (Ss.cons (S1.set (sto_loc (by decide) (by rfl) rfl rfl) (J.callF clr (nm_def clr (by k_is) rfl rfl rfl rfl) (by k_is) law_draw_d (by omega) (by omega) (Js.cons (J.var (rd_loc (by rfl) rfl rfl rfl)) (Js.cons (J.int _ _ _) Js.nil)))) (Ss.cons (S1.set (sto_loc (by decide) (by rfl) rfl rfl) (J.tup (Js.cons (J.idx (J.list (Js.cons (J.var (rd_loc (by rfl) rfl rfl rfl)) (Js.cons (J.var (rd_loc (by rfl) rfl rfl rfl)) (Js.cons (J.var (rd_loc (by rfl) rfl rfl rfl)) (Js.cons (J.var (rd_loc (by rfl) rfl rfl rfl)) (Js.cons (J.var (rd_loc (by rfl) rfl rfl rfl)) (Js.cons (J.none _ _) (Js.cons (J.none _ _) Js.nil)))))))) (J.var (rd_loc (by rfl) rfl rfl rfl))) (Js.cons (J.idx (J.list (Js.cons (J.var (rd_loc (by rfl) rfl rfl rfl)) (Js.cons (J.var (rd_loc (by rfl) rfl rfl rfl)) (Js.cons (J.var (rd_loc (by rfl) rfl rfl rfl)) (Js.cons (J.var (rd_loc (by rfl) rfl rfl rfl)) (Js.cons (J.none _ _) (Js.cons (J.var (rd_loc (by rfl) rfl rfl rfl)) (Js.cons (J.none _ _) Js.nil)))))))) (J.var (rd_loc (by rfl) rfl rfl rfl))) Js.nil)))) (Ss.cons (S1.set (sto_loc (by decide) (by rfl) rfl rfl) (J.list Js.nil)) (Ss.cons (S1.for (sto_loc (by decide) (by rfl) rfl rfl) (JI.range (nm_built clr (by k_is) (by boot_by_name) (by decide) rfl rfl rfl rfl rfl) (Js.cons (J.callF clr (nm_def clr (by k_is) rfl rfl rfl rfl) (by k_is) law_draw_d (by omega) (by omega) (Js.cons (J.var (rd_loc (by rfl) rfl rfl rfl)) (Js.cons (J.int _ _ _) Js.nil))) Js.nil)) (Ss.cons (S1.set (sto_loc (by decide) (by rfl) rfl rfl) (J.idx (J.list (Js.cons (J.var (rd_loc (by rfl) rfl rfl rfl)) (Js.cons (J.var (rd_loc (by rfl) rfl rfl rfl)) (Js.cons (J.int _ _ _) (Js.cons (J.bin (J.var (rd_loc (by rfl) rfl rfl rfl)) (J.int _ _ _) ok_add) (Js.cons (J.bin (J.var (rd_loc (by rfl) rfl rfl rfl)) (J.int _ _ _) ok_sub) (Js.cons (J.bin (J.var (rd_loc (by rfl) rfl rfl rfl)) (J.int _ _ _) ok_sub) (Js.cons (J.bin (J.var (rd_loc (by rfl) rfl rfl rfl)) (J.int _ _ _) ok_add) (Js.cons (J.callF clr (nm_def clr (by k_is) rfl rfl rfl rfl) (by k_is) law_number_v77_d (by omega) (by omega) (Js.cons (J.var (rd_loc (by rfl) rfl rfl rfl)) Js.nil)) Js.nil))))))))) (J.callF clr (nm_def clr (by k_is) rfl rfl rfl rfl) (by k_is) law_draw_d (by omega) (by omega) (Js.cons (J.var (rd_loc (by rfl) rfl rfl rfl)) (Js.cons (J.int _ _ _) Js.nil))))) (Ss.one (S1.exp (J.append (J.var (rd_loc (by rfl) rfl rfl rfl)) (J.idx (J.list (Js.cons (J.var (rd_loc (by rfl) rfl rfl rfl)) (Js.cons (J.callF clr (nm_def clr (by k_is) rfl rfl rfl rfl) (by k_is) law_number_v77_d (by omega) (by omega) (Js.cons (J.var (rd_loc (by rfl) rfl rfl rfl)) Js.nil)) Js.nil))) (J.callF clr (nm_def clr (by k_is) rfl rfl rfl rfl) (by k_is) law_draw_d (by omega) (by omega) (Js.cons (J.var (rd_loc (by rfl) rfl rfl rfl)) (Js.cons (J.int _ _ _) Js.nil))))))))) (Ss.cons (S1.set (sto_loc (by decide) (by rfl) rfl rfl) (J.callF clr (nm_def clr (by k_is) rfl rfl rfl rfl) (by k_is) law_due_v77_d (by omega) (by omega) (Js.cons (J.var (rd_loc (by rfl) rfl rfl rfl)) (Js.cons (J.var (rd_loc (by rfl) rfl rfl rfl)) Js.nil)))) (Ss.cons (S1.set (sto_loc (by decide) (by rfl) rfl rfl) (J.callT (nm_built clr (by k_is) (by boot_by_name) (by decide) rfl rfl rfl rfl rfl) (Js.cons (J.var (rd_loc (by rfl) rfl rfl rfl)) Js.nil) ok_list1)) (Ss.cons (S1.set (sto_loc (by decide) (by rfl) rfl rfl) (J.callF clr (nm_def clr (by k_is) rfl rfl rfl rfl) (by k_is) tried_d (by omega) (by omega) (Js.cons (J.var (rd_loc (by rfl) rfl rfl rfl)) (Js.cons (J.var (rd_loc (by rfl) rfl rfl rfl)) Js.nil)))) (Ss.cons (S1.ife (JT.bools (JA.orCons (JT.not (JT.val (J.callF clr (nm_def clr (by k_is) rfl rfl rfl rfl) (by k_is) law_alike_v77_d (by omega) (by omega) (Js.cons (J.var (rd_loc (by rfl) rfl rfl rfl)) (Js.cons (J.var (rd_loc (by rfl) rfl rfl rfl)) Js.nil))))) (JA.orCons (JT.cmp (J.var (rd_loc (by rfl) rfl rfl rfl)) (J.var (rd_loc (by rfl) rfl rfl rfl)) ok_ne) JA.orNil))) (Ss.one (S1.ret (J.bool _ _ _))) Ss.nil) (Ss.cons (S1.exp (J.append (J.var (rd_loc (by rfl) rfl rfl rfl)) (J.int _ _ _))) (Ss.one (S1.ret (J.callF clr (nm_def clr (by k_is) rfl rfl rfl rfl) (by k_is) law_alike_v77_d (by omega) (by omega) (Js.cons (J.callF clr (nm_def clr (by k_is) rfl rfl rfl rfl) (by k_is) tried_d (by omega) (by omega) (Js.cons (J.var (rd_loc (by rfl) rfl rfl rfl)) (Js.cons (J.var (rd_loc (by rfl) rfl rfl rfl)) Js.nil))) (Js.cons (J.var (rd_loc (by rfl) rfl rfl rfl)) Js.nil))))))))))))))))))); (case post => (intro h' tk' m' F'; k_steps)))
    )
end
