import PyProof.Rows.All
import Wide.All
import OpenK.AllK
import Wide.FinOn
import PySem.Challenge.RW_seer_k51_arguments
import PyProof.Rows.News
import PyProof.Rows.Nodes
import PyProof.Rows.Chain
import PyProof.Rows.TupSub
import PyProof.PureInt
import PyProof.Rules2
import PyProof.Rules3
import PyProof.Rows.Globals
import PyProof.Rows.RuleB_mod
import PyProof.Rows.RuleB_floordiv
import PyProof.Rows.RuleB_small
import PyProof.NoPylong
import PyProof.Rows.RuleB_pow
import PyProof.Rows.EqDataRows
import PyProof.Rows.StrTemp
import PyProof.Rows.TupAdd
import PyProof.Rows.ListMul
import PyProof.ListIndexNeg
import PyProof.SliceList
import PyProof.Methods
import PyProof.Rows.Tup
import PyProof.IsiPairs
import PyProof.IsiHeapPairs
import PyProof.IsiNone
import PyProof.Rows.RuleN_abs
import PyProof.Rows.SumAny
import PyProof.WalkInts
import PyProof.PvWalk
import PyProof.RulesRaise
import PyProof.Raises
import PyProof.Dict
import PyProof.Seq
import PyProof.Rows.ListAppend
import PyProof.ForAppend
import PyProof.ForAny
import PyProof.Walks
import PyProof.WalksT
import KE.KItem
import PyProof.WalksMore
import PyProof.RangeFor
import PyProof.Rows.Range3
import OpenK.KCell
import KE.KTree
import KE.RegLcTurns
import KE.KCompFold
import KE.KLcPair
import KE.LcTurns
import PyProof.CompUse
import PyProof.Rows.ZipGen
import OpenK.KLine
import KE.KState
import Wide.Well
import PyProof.ListCopy
import PyProof.Rows.TupleOfSeqD
import KE.LcSums
import KE.KCellOne
import PyProof.FitsBits
import KE.KEqDeep
import PyProof.Rows.TupMore
import PyProof.Rows.NestLooks
import PyProof.EnumMake
import PyProof.WalksEnum
import PyProof.Rows.SortWalk
import PyProof.DictStraight
import PyProof.EqAt
import PyProof.Rows.SeqMore2
import KE.KAnyBase
import PyProof.Rows.SeqSlice
abbrev Zz0 := @Option.bind_eq_some_iff
abbrev Zz1 := @Option.map_eq_some_iff
abbrev Zz2 := @List.mem_cons_of_mem
abbrev Zz3 := @List.mem_append_right
abbrev Zz4 := @List.mem_append_left
abbrev Zz5 := @List.mem_cons_self
abbrev Zz6 := @List.getElem?_eq_some_iff
set_option Elab.async false
set_option compiler.extract_closed false
section
set_option maxRecDepth 100000
set_option linter.all false
set_option autoImplicit false
/-! The plain machine: values as trees, lists as places; and how it stands for the model's heap. -/
namespace PM
open PySem PyProof.Rows
inductive V where
 | none
 | bool (b : Bool)
 | int (i : Int)
 | str (s : Str)
 | tup (vs : List V)
 | ref (a : Nat)
noncomputable abbrev Hp := List (List V)
noncomputable abbrev Lc := Nat → Option V
noncomputable def LEN : Nat := 100000
theorem Zbc : LEN = 100000 := rfl
theorem Zc6 {n : Nat} (h : n ≤ LEN) : n ≤ sizeLine := by
 have : sizeLine = 2 ^ 24 := rfl
 rw [this]; rw [Zbc] at h; omega
noncomputable abbrev Zel (xs : List Value) (k : Nat) : Obj := { cls := .type "tuple", data := .seq xs.toArray k }
noncomputable abbrev ZbM (xs : List Value) (k : Nat) : Obj := { cls := .type "list", data := .seq xs.toArray k }
structure Wd where
 pi : List Addr
 tups : List (Addr × Obj)
 sc : Addr × Obj
structure Wd.Le (W W' : Wd) : Prop where
 pi : W.pi <+: W'.pi
 tups : ∀ q ∈ W.tups, q ∈ W'.tups
 sc : W'.sc = W.sc
theorem Wd.Le.refl (W : Wd) : W.Le W := ⟨List.prefix_refl _, fun _ h => h, rfl⟩
theorem Wd.Le.trans {W W' W'' : Wd} (a : W.Le W') (b : W'.Le W'') : W.Le W'' := ⟨a.pi.trans b.pi, fun q h => b.tups q (a.tups q h), b.sc.trans a.sc⟩
theorem Wd.Le.at {W W' : Wd} (h : W.Le W') {i : Nat} {a : Addr} (e : W.pi[i]? = some a) : W'.pi[i]? = some a := by
 obtain ⟨t, ht⟩ := h.pi
 have hi : i < W.pi.length := (Zz6.mp e).1
 rw [← ht, List.getElem?_append_left hi]
 exact e
mutual
inductive VR (W : Wd) : V → Value → Prop where
 | none : VR W .none .none
 | bool (b : Bool) : VR W (.bool b) (.bool b)
 | int (i : Int) (t : Tok) : VR W (.int i) (.int i t)
 | str (s : Str) (t : Tok) : VR W (.str s) (.str s t)
 | tup {vs : List V} {a : Addr} {xs : List Value} {k : Nat} : (a, Zel xs k) ∈ W.tups → vs.length ≤ LEN → VRs W vs xs → VR W (.tup vs) (.ref a)
 | ref {i : Nat} {a : Addr} : W.pi[i]? = some a → VR W (.ref i) (.ref a)
inductive VRs (W : Wd) : List V → List Value → Prop where
 | nil : VRs W [] []
 | cons {v : V} {x : Value} {vs : List V} {xs : List Value} : VR W v x → VRs W vs xs → VRs W (v :: vs) (x :: xs)
end
mutual
theorem VR.mono {W W' : Wd} (h : W.Le W') {v : V} {x : Value} (r : VR W v x) : VR W' v x := by
 cases r with
 | none => exact .none
 | bool b => exact .bool b
 | int i t => exact .int i t
 | str s t => exact .str s t
 | tup hm hl hs => exact .tup (h.tups _ hm) hl (VRs.mono h hs)
 | ref e => exact .ref (h.at e)
theorem VRs.mono {W W' : Wd} (h : W.Le W') {vs : List V} {xs : List Value} (r : VRs W vs xs) : VRs W' vs xs := by
 cases r with
 | nil => exact .nil
 | cons a b => exact .cons (VR.mono h a) (VRs.mono h b)
end
theorem VRs.length {W : Wd} : ∀ {vs : List V} {xs : List Value}, VRs W vs xs → xs.length = vs.length
 | _, _, .nil => rfl
 | _, _, .cons _ r => by rw [List.length_cons, List.length_cons, r.length]
theorem VRs.at {W : Wd} : ∀ {vs : List V} {xs : List Value} {i : Nat} {v : V}, VRs W vs xs → vs[i]? = some v → ∃ x, xs[i]? = some x ∧ VR W v x
 | _, _, _, _, .nil, e => by simp at e
 | _, _, 0, _, .cons a _, e => by
  simp at e
  exact ⟨_, by simp, e ▸ a⟩
 | _, _, i + 1, _, .cons _ r, e => by
  simp at e
  obtain ⟨x, hx, hr⟩ := r.at e
  exact ⟨x, by simpa using hx, hr⟩
theorem VRs.append {W : Wd} : ∀ {vs us : List V} {xs ys : List Value}, VRs W vs xs → VRs W us ys → VRs W (vs ++ us) (xs ++ ys)
 | _, _, _, _, .nil, h => h
 | _, _, _, _, .cons a r, h => .cons a (r.append h)
theorem VRs.snoc {W : Wd} {vs : List V} {xs : List Value} {v : V} {x : Value} (h : VRs W vs xs) (r : VR W v x) : VRs W (vs ++ [v]) (xs ++ [x]) := h.append (.cons r .nil)
theorem VRs.set {W : Wd} : ∀ {vs : List V} {xs : List Value} {v : V} {x : Value} (i : Nat), VRs W vs xs → VR W v x → VRs W (vs.set i v) (xs.set i x)
 | _, _, _, _, _, .nil, _ => .nil
 | _, _, _, _, 0, .cons _ r, h => .cons h r
 | _, _, _, _, i + 1, .cons a r, h => .cons a (r.set i h)
theorem VRs.drop {W : Wd} : ∀ {vs : List V} {xs : List Value} (i : Nat), VRs W vs xs → VRs W (vs.drop i) (xs.drop i)
 | _, _, 0, h => h
 | _, _, _ + 1, .nil => .nil
 | _, _, i + 1, .cons _ r => r.drop i
structure HR (W : Wd) (H : Hp) (led : List (Addr × Obj)) : Prop where
 len : W.pi.length = H.length
 nd : W.pi.Nodup
 lists : ∀ (i : Nat) (vs : List V), H[i]? = some vs → vs.length ≤ LEN ∧ ∃ a xs k, W.pi[i]? = some a ∧ (a, ZbM xs k) ∈ led ∧ VRs W vs xs
 tups : ∀ q ∈ W.tups, q ∈ led
 kind : ∀ q ∈ W.tups, ∃ xs k, q.2 = Zel xs k
theorem HR.mono {W : Wd} {H : Hp} {led led' : List (Addr × Obj)} (R : HR W H led) (h : ∀ q ∈ led, q ∈ led') : HR W H led' :=
 ⟨R.len, R.nd, fun i vs e => by
  obtain ⟨l, a, xs, k, h1, h2, h3⟩ := R.lists i vs e
  exact ⟨l, a, xs, k, h1, h _ h2, h3⟩, fun q hq => h q (R.tups q hq), R.kind⟩
structure Cx where
 A : Around
 env : Env
 h₀ : Heap
 L : Addr
 hh : A.handled = none
 hu : A.units + 200 < cLine
 Own : Wd → Lc → (Str → Option Value) → List (Addr × Obj) → Prop
 mono : ∀ {W W' : Wd} {ρ : Lc} {m : Str → Option Value} {c : List (Addr × Obj)}, W.Le W' → Own W ρ m c → Own W' ρ m c
structure Rep' (Γ : Cx) (W : Wd) (ρ : Lc) (H : Hp) (fr : List (Addr × Obj)) (h : Heap) (m : Str → Option Value) (cells led : List (Addr × Obj)) : Prop where
 F : Fr Γ.h₀ Γ.L h m
 N : News Γ.h₀ Γ.L h led
 R : HR W H (W.sc :: led)
 sc : Γ.h₀.get? W.sc.1 = some W.sc.2
 sc0 : W.pi[0]? = some W.sc.1
 frIn : ∀ q ∈ fr, q ∈ led
 frOff : ∀ q ∈ fr, q.1 ∉ W.pi
 clIn : ∀ q ∈ cells, q ∈ led
 clOff : ∀ q ∈ cells, q.1 ∉ W.pi
 apart : ∀ q ∈ cells, ∀ r ∈ fr, q.1 ≠ r.1
 frTup : ∀ q ∈ fr, ∀ t ∈ W.tups, q.1 ≠ t.1
 clTup : ∀ q ∈ cells, ∀ t ∈ W.tups, q.1 ≠ t.1
 own : Γ.Own W ρ m cells
noncomputable def Rep (Γ : Cx) (W : Wd) (ρ : Lc) (H : Hp) (fr : List (Addr × Obj)) (h : Heap) : Prop := ∃ m cells led, Rep' Γ W ρ H fr h m cells led
theorem Rep.grown {Γ : Cx} {W : Wd} {ρ : Lc} {H : Hp} {fr : List (Addr × Obj)} {h h' : Heap} (r : Rep Γ W ρ H fr h) (up : ∀ b o, h.get? b = some o → h'.get? b = some o) : Rep Γ W ρ H fr h' := by
 obtain ⟨m, c, led, r⟩ := r
 refine ⟨m, c, led, ⟨⟨?_, fun b o e => up b o (r.F.keep b o e), r.F.above⟩, fun q hq => ⟨up _ _ (r.N q hq).1, (r.N q hq).2⟩, r.R, r.sc, r.sc0, r.frIn, r.frOff, r.clIn, r.clOff, r.apart, r.frTup, r.clTup, r.own⟩⟩
 obtain ⟨o, es, ep, h1, h2⟩ := r.F.ns
 exact ⟨o, es, ep, up _ _ h1, h2⟩
theorem Rep.push {Γ : Cx} {W : Wd} {ρ : Lc} {H : Hp} {fr : List (Addr × Obj)} {h : Heap} (r : Rep Γ W ρ H fr h) (o : Obj) : Rep Γ W ρ H fr (h.push o) := r.grown fun _ _ e => Heap.get?_push_of_some _ e
theorem ZdT {q s : Addr × Obj} {l l' : List (Addr × Obj)} (h : q ∈ s :: l) (m : q ∈ l → q ∈ l') : q ∈ s :: l' := by
 rcases List.mem_cons.mp h with e | h
 ·exact e ▸ List.mem_cons_self
 ·exact Zz2 _ (m h)
theorem ZeZ {q s : Addr × Obj} {l l' : List (Addr × Obj)} (h : q ∈ s :: l) (m : ∀ x ∈ l, x ∈ l') : q ∈ s :: l' := by
 rcases List.mem_cons.mp h with e | h
 ·exact e ▸ List.mem_cons_self
 ·exact Zz2 _ (m q h)
theorem Rep'.get {Γ : Cx} {W : Wd} {ρ : Lc} {H : Hp} {fr : List (Addr × Obj)} {h : Heap} {m : Str → Option Value} {c led : List (Addr × Obj)} (r : Rep' Γ W ρ H fr h m c led) {q : Addr × Obj} (hq : q ∈ W.sc :: led) : h.get? q.1 = some q.2 := by
 rcases List.mem_cons.mp hq with e | hq
 ·rw [e]
  exact r.F.keep _ _ r.sc
 ·exact (r.N q hq).1
theorem Rep'.off {Γ : Cx} {W : Wd} {ρ : Lc} {H : Hp} {fr : List (Addr × Obj)} {h : Heap} {m : Str → Option Value} {c led : List (Addr × Obj)} (r : Rep' Γ W ρ H fr h m c led) : ∀ q ∈ W.sc :: led, q.1 ≠ h.objs.size := fun q hq => Nat.ne_of_lt (Heap.lt_size (r.get hq))
theorem Rep'.same {Γ : Cx} {W : Wd} {ρ : Lc} {H : Hp} {fr : List (Addr × Obj)} {h h' : Heap} {m : Str → Option Value} {c led : List (Addr × Obj)} (r : Rep' Γ W ρ H fr h m c led) (F' : Fr Γ.h₀ Γ.L h' m) (N' : News Γ.h₀ Γ.L h' led) : Rep Γ W ρ H fr h' :=
 ⟨m, c, led, F', N', r.R, r.sc, r.sc0, r.frIn, r.frOff, r.clIn, r.clOff, r.apart, r.frTup, r.clTup, r.own⟩
theorem Rep'.piIn {Γ : Cx} {W : Wd} {ρ : Lc} {H : Hp} {fr : List (Addr × Obj)} {h : Heap} {m : Str → Option Value} {c led : List (Addr × Obj)} (r : Rep' Γ W ρ H fr h m c led) : ∀ a ∈ W.pi, ∃ o, (a, o) ∈ W.sc :: led := by
 intro a ha
 obtain ⟨i, hi, e⟩ := List.getElem_of_mem ha
 have hi' : i < H.length := r.R.len ▸ hi
 obtain ⟨_, b, xs, k, h1, h2, _⟩ := r.R.lists i H[i] (List.getElem?_eq_getElem hi')
 have : b = a := by rw [List.getElem?_eq_getElem hi, e] at h1; exact (Option.some.inj h1).symm
 exact ⟨_, this ▸ h2⟩
theorem Rep'.inLed {Γ : Cx} {W : Wd} {ρ : Lc} {H : Hp} {fr : List (Addr × Obj)} {h : Heap} {m : Str → Option Value} {c led : List (Addr × Obj)} (r : Rep' Γ W ρ H fr h m c led) {i : Nat} {a : Addr} {o : Obj} (hi : i ≠ 0) (ea : W.pi[i]? = some a) (hm : (a, o) ∈ W.sc :: led) : (a, o) ∈ led := by
 rcases List.mem_cons.mp hm with e | hm
 ·have e1 : a = W.sc.1 := congrArg (·.1) e
  have hl : i < W.pi.length := (Zz6.mp ea).1
  have : i = 0 := (List.getElem?_inj hl r.R.nd).mp (by rw [ea, r.sc0, e1])
  exact absurd this hi
 ·exact hm
theorem Rep'.notSc {Γ : Cx} {W : Wd} {ρ : Lc} {H : Hp} {fr : List (Addr × Obj)} {h : Heap} {m : Str → Option Value} {c led : List (Addr × Obj)} (r : Rep' Γ W ρ H fr h m c led) : ∀ q ∈ led, q.1 ≠ W.sc.1 := fun q hq e => by
 have := (r.N q hq).2.2
 rw [e, r.sc] at this
 cases this
theorem Rep'.newTup {Γ : Cx} {W : Wd} {ρ : Lc} {H : Hp} {fr : List (Addr × Obj)} {h h' : Heap} {m : Str → Option Value} {c led : List (Addr × Obj)} {vs : List V} {xs : List Value} {k : Nat} {n : Addr} (r : Rep' Γ W ρ H fr h m c led) (F' : Fr Γ.h₀ Γ.L h' m) (N' : News Γ.h₀ Γ.L h' ((n, Zel xs k) :: led)) (hn : ∀ q ∈ W.sc :: led, q.1 ≠ n) (hv : VRs W vs xs) (hl : vs.length ≤ LEN) :
  ∃ W', W.Le W' ∧ Rep Γ W' ρ H fr h' ∧ VR W' (.tup vs) (.ref n) := by
 have le : W.Le ⟨W.pi, (n, Zel xs k) :: W.tups, W.sc⟩ := ⟨List.prefix_refl _, fun q hq => List.mem_cons_of_mem _ hq, rfl⟩
 refine ⟨⟨W.pi, (n, Zel xs k) :: W.tups, W.sc⟩, le, ⟨m, c, (n, Zel xs k) :: led, ⟨F', N', ?_, r.sc, r.sc0, fun q hq => List.mem_cons_of_mem _ (r.frIn q hq), r.frOff, fun q hq => List.mem_cons_of_mem _ (r.clIn q hq), r.clOff, r.apart, fun q hq t ht => ?_, fun q hq t ht => ?_, Γ.mono le r.own⟩⟩, .tup Zz5 hl (hv.mono le)⟩
 ·refine ⟨r.R.len, r.R.nd, fun i us e => ?_, fun q hq => ?_, fun q hq => ?_⟩
  ·obtain ⟨l, a, ys, j, h1, h2, h3⟩ := r.R.lists i us e
   exact ⟨l, a, ys, j, h1, ZeZ h2 fun x hx => List.mem_cons_of_mem _ hx, h3.mono le⟩
  ·rcases List.mem_cons.mp hq with e | hq
   ·exact e ▸ List.mem_cons_of_mem _ Zz5
   ·exact ZeZ (r.R.tups q hq) fun x hx => List.mem_cons_of_mem _ hx
  ·rcases List.mem_cons.mp hq with e | hq
   ·exact ⟨xs, k, by rw [e]⟩
   ·exact r.R.kind q hq
 ·rcases List.mem_cons.mp ht with e | ht
  ·rw [e]
   exact hn q (Zz2 _ (r.frIn q hq))
  ·exact r.frTup q hq t ht
 ·rcases List.mem_cons.mp ht with e | ht
  ·rw [e]
   exact hn q (Zz2 _ (r.clIn q hq))
  ·exact r.clTup q hq t ht
theorem Rep.tuple {Γ : Cx} {W : Wd} {ρ : Lc} {H : Hp} {fr : List (Addr × Obj)} {h : Heap} {vs : List V} {xs : List Value} {k : Nat} (r : Rep Γ W ρ H fr h) (hv : VRs W vs xs) (hl : vs.length ≤ LEN) :
  ∃ W', W.Le W' ∧ Rep Γ W' ρ H fr (h.push (Zel xs k)) ∧ VR W' (.tup vs) (.ref h.objs.size) := by
 obtain ⟨m, c, led, r⟩ := r
 exact r.newTup (r.F.push _) (News.push r.F r.N _) r.off hv hl
theorem Rep'.newList {Γ : Cx} {W : Wd} {ρ : Lc} {H : Hp} {fr : List (Addr × Obj)} {h h' : Heap} {m : Str → Option Value} {c led : List (Addr × Obj)} {vs : List V} {xs : List Value} {k : Nat} {n : Addr} (r : Rep' Γ W ρ H fr h m c led) (F' : Fr Γ.h₀ Γ.L h' m) (N' : News Γ.h₀ Γ.L h' ((n, ZbM xs k) :: led)) (hn : ∀ q ∈ W.sc :: led, q.1 ≠ n) (hv : VRs W vs xs) (hl : vs.length ≤ LEN) :
  ∃ W', W.Le W' ∧ Rep Γ W' ρ (H ++ [vs]) fr h' ∧ VR W' (.ref H.length) (.ref n) := by
 have le : W.Le ⟨W.pi ++ [n], W.tups, W.sc⟩ := ⟨List.prefix_append _ _, fun q hq => hq, rfl⟩
 have h0 : 0 < W.pi.length := (Zz6.mp r.sc0).1
 have at_n : (W.pi ++ [n])[H.length]? = some n := by rw [← r.R.len]; simp
 refine ⟨⟨W.pi ++ [n], W.tups, W.sc⟩, le, ⟨m, c, (n, ZbM xs k) :: led, ⟨F', N', ?_, r.sc, (List.getElem?_append_left h0).trans r.sc0, fun q hq => List.mem_cons_of_mem _ (r.frIn q hq), fun q hq => ?_, fun q hq => List.mem_cons_of_mem _ (r.clIn q hq), fun q hq => ?_, r.apart, r.frTup, r.clTup, Γ.mono le r.own⟩⟩, .ref at_n⟩
 ·refine ⟨by simp [r.R.len], ?_, fun i us e => ?_, fun q hq => ZeZ (r.R.tups q hq) fun x hx => List.mem_cons_of_mem _ hx, r.R.kind⟩
  ·show (W.pi ++ [n]).Nodup
   rw [List.nodup_append]
   refine ⟨r.R.nd, by simp, fun a ha b hb => ?_⟩
   rw [List.mem_singleton.mp hb]
   obtain ⟨o, ho⟩ := r.piIn a ha
   exact hn _ ho
  ·by_cases hi : i < H.length
   ·rw [List.getElem?_append_left hi] at e
    obtain ⟨l, a, ys, j, h1, h2, h3⟩ := r.R.lists i us e
    exact ⟨l, a, ys, j, le.at h1, ZeZ h2 fun x hx => List.mem_cons_of_mem _ hx, h3.mono le⟩
   ·have : i = H.length := by
     have := (Zz6.mp e).1
     simp at this
     omega
    subst this
    simp at e
    subst e
    exact ⟨hl, n, xs, k, at_n, List.mem_cons_of_mem _ Zz5, hv.mono le⟩
 ·intro hm
  rcases List.mem_append.mp hm with hm | hm
  ·exact r.frOff q hq hm
  ·exact hn q (Zz2 _ (r.frIn q hq)) (List.mem_singleton.mp hm)
 ·intro hm
  rcases List.mem_append.mp hm with hm | hm
  ·exact r.clOff q hq hm
  ·exact hn q (Zz2 _ (r.clIn q hq)) (List.mem_singleton.mp hm)
theorem Rep.list {Γ : Cx} {W : Wd} {ρ : Lc} {H : Hp} {fr : List (Addr × Obj)} {h : Heap} {vs : List V} {xs : List Value} {k : Nat} (r : Rep Γ W ρ H fr h) (hv : VRs W vs xs) (hl : vs.length ≤ LEN) :
  ∃ W', W.Le W' ∧ Rep Γ W' ρ (H ++ [vs]) fr (h.push (ZbM xs k)) ∧ VR W' (.ref H.length) (.ref h.objs.size) := by
 obtain ⟨m, c, led, r⟩ := r
 exact r.newList (r.F.push _) (News.push r.F r.N _) r.off hv hl
theorem Rep.at {Γ : Cx} {W : Wd} {ρ : Lc} {H : Hp} {fr : List (Addr × Obj)} {h : Heap} {i : Nat} {a : Addr} {vs : List V} (r : Rep Γ W ρ H fr h) (e : H[i]? = some vs) (ea : W.pi[i]? = some a) : vs.length ≤ LEN ∧ ∃ xs k, h.get? a = some (ZbM xs k) ∧ VRs W vs xs := by
 obtain ⟨m, c, led, r⟩ := r
 obtain ⟨l, b, xs, k, h1, h2, h3⟩ := r.R.lists i vs e
 rw [ea] at h1
 cases h1
 exact ⟨l, xs, k, r.get h2, h3⟩
theorem Rep.tupAt {Γ : Cx} {W : Wd} {ρ : Lc} {H : Hp} {fr : List (Addr × Obj)} {h : Heap} {q : Addr × Obj} (r : Rep Γ W ρ H fr h) (e : q ∈ W.tups) : h.get? q.1 = some q.2 := by
 obtain ⟨m, c, led, r⟩ := r
 exact r.get (r.R.tups _ e)
theorem Rep'.changed {Γ : Cx} {W : Wd} {ρ : Lc} {H : Hp} {fr : List (Addr × Obj)} {h h' : Heap} {m : Str → Option Value} {c led : List (Addr × Obj)} {i : Nat} {a : Addr} {vs us : List V} {ys : List Value} {k : Nat} (r : Rep' Γ W ρ H fr h m c led) (i0 : i ≠ 0) (e : H[i]? = some vs) (ea : W.pi[i]? = some a) (F' : Fr Γ.h₀ Γ.L h' m) (N' : News Γ.h₀ Γ.L h' ((a, ZbM ys k) :: led.filter (fun q => decide (q.1 ≠ a)))) (hv : VRs W us ys) (hl : us.length ≤ LEN) :
  Rep Γ W ρ (H.set i us) fr h' := by
 obtain ⟨_, b, xs, j, h1, h2, h3⟩ := r.R.lists i vs e
 rw [ea] at h1
 cases h1
 have h2 := r.inLed i0 ea h2
 have hN := r.N _ h2
 have hm : a ∈ W.pi := List.mem_of_getElem? ea
 have hi : i < H.length := (Zz6.mp e).1
 refine ⟨m, c, (a, ZbM ys k) :: led.filter (fun q => decide (q.1 ≠ a)), ⟨F', N', ?_, r.sc, r.sc0, fun q hq => ?_, r.frOff, fun q hq => ?_, r.clOff, r.apart, r.frTup, r.clTup, r.own⟩⟩
 ·refine ⟨by simp [r.R.len], r.R.nd, fun n ws en => ?_, fun q hq => ?_, r.R.kind⟩
  ·by_cases hn : n = i
   ·subst hn
    rw [List.getElem?_set_self hi] at en
    cases en
    exact ⟨hl, a, ys, k, ea, List.mem_cons_of_mem _ Zz5, hv⟩
   ·rw [List.getElem?_set_ne (Ne.symm hn)] at en
    obtain ⟨l, d, zs, j', g1, g2, g3⟩ := r.R.lists n ws en
    refine ⟨l, d, zs, j', g1, ZdT g2 fun g2 => List.mem_cons_of_mem _ (List.mem_filter.mpr ⟨g2, ?_⟩), g3⟩
    have : d ≠ a := fun e => by
     subst e
     exact hn ((List.getElem?_inj (Zz6.mp g1).1 r.R.nd).mp (g1.trans ea.symm))
    simpa using this
  ·refine ZdT (r.R.tups q hq) fun g2 => List.mem_cons_of_mem _ (List.mem_filter.mpr ⟨g2, ?_⟩)
   have : q.1 ≠ a := fun e => by
    obtain ⟨zs, j', hk⟩ := r.R.kind q hq
    have g := r.get (r.R.tups q hq)
    rw [e, hN.1, hk] at g
    have c := congrArg Obj.cls (Option.some.inj g)
    exact absurd c (by simp)
   simpa using this
 ·refine Zz2 _ (List.mem_filter.mpr ⟨r.frIn q hq, ?_⟩)
  have : q.1 ≠ a := fun e => r.frOff q hq (e ▸ hm)
  simpa using this
 ·refine Zz2 _ (List.mem_filter.mpr ⟨r.clIn q hq, ?_⟩)
  have : q.1 ≠ a := fun e => r.clOff q hq (e ▸ hm)
  simpa using this
theorem Rep.change {Γ : Cx} {W : Wd} {ρ : Lc} {H : Hp} {fr : List (Addr × Obj)} {h h' : Heap} {i : Nat} {a : Addr} {vs us : List V} {ys : List Value} {k : Nat} (r : Rep Γ W ρ H fr h) (i0 : i ≠ 0) (e : H[i]? = some vs) (ea : W.pi[i]? = some a) (sb : Heap.SameBut a h h') (ha : h'.get? a = some (ZbM ys k)) (hv : VRs W us ys) (hl : us.length ≤ LEN) :
  Rep Γ W ρ (H.set i us) fr h' := by
 obtain ⟨m, c, led, r⟩ := r
 obtain ⟨_, b, xs, j, h1, h2, h3⟩ := r.R.lists i vs e
 rw [ea] at h1
 cases h1
 have h2 := r.inLed i0 ea h2
 have hN := r.N _ h2
 have keep : ∀ q ∈ led, q.1 ≠ a → h'.get? q.1 = some q.2 := fun q hq hn => sb.extBut _ _ hn (r.N q hq).1
 refine r.changed (k := k) i0 e ea ⟨r.F.ns.sameBut sb (Ne.symm hN.2.1), fun b o eb => sb.extBut b o (fun q => ?_) (r.F.keep b o eb), r.F.above⟩ (fun q hq => ?_) hv hl
 ·subst q
  rw [hN.2.2] at eb
  cases eb
 ·rcases List.mem_cons.mp hq with e | hq
  ·subst e
   exact ⟨ha, hN.2⟩
  ·obtain ⟨h1, h2⟩ := List.mem_filter.mp hq
   exact ⟨keep q h1 (by simpa using h2), (r.N q h1).2⟩
theorem Rep.swap {Γ : Cx} {W : Wd} {ρ : Lc} {H : Hp} {fs fs' fr : List (Addr × Obj)} {h h' : Heap} (r : Rep Γ W ρ H (fs ++ fr) h) (ap : ∀ q ∈ fs, ∀ t ∈ fr, q.1 ≠ t.1) (keep : ∀ b o, b ∉ fs.map (·.1) → h.get? b = some o → h'.get? b = some o) (new : ∀ q ∈ fs', h'.get? q.1 = some q.2 ∧ q.1 ∈ fs.map (·.1)) : Rep Γ W ρ H (fs' ++ fr) h' := by
 obtain ⟨m, c, led, r⟩ := r
 have inF : ∀ q ∈ fs, q ∈ fs ++ fr := fun q hq => List.mem_append_left _ hq
 have nL : ∀ a ∈ fs.map (·.1), a ≠ Γ.L ∧ Γ.h₀.get? a = none := fun a ha => by
  obtain ⟨q, hq, e⟩ := List.mem_map.mp ha
  exact e ▸ (r.N q (r.frIn q (inF q hq))).2
 have kp : ∀ q ∈ led, q.1 ∉ fs.map (·.1) → h'.get? q.1 = some q.2 := fun q hq hn => keep _ _ hn (r.N q hq).1
 refine ⟨m, c, fs' ++ led.filter (fun q => decide (q.1 ∉ fs.map (·.1))), ⟨⟨?_, fun b o e => ?_, r.F.above⟩, fun q hq => ?_, ⟨r.R.len, r.R.nd, fun i vs e => ?_, fun q hq => ?_, r.R.kind⟩, r.sc, r.sc0, fun q hq => ?_, fun q hq => ?_, fun q hq => ?_, r.clOff, fun q hq t ht => ?_, fun q hq t ht => ?_, r.clTup, r.own⟩⟩
 ·obtain ⟨o, es, ep, h1, h2⟩ := r.F.ns
  exact ⟨o, es, ep, keep _ _ (fun q => (nL _ q).1 rfl) h1, h2⟩
 ·refine keep b o (fun q => ?_) (r.F.keep b o e)
  rw [(nL b q).2] at e
  cases e
 ·rcases List.mem_append.mp hq with hq | hq
  ·obtain ⟨h1, h2⟩ := new q hq
   exact ⟨h1, nL _ h2⟩
  ·obtain ⟨h1, h2⟩ := List.mem_filter.mp hq
   exact ⟨kp q h1 (by simpa using h2), (r.N q h1).2⟩
 ·obtain ⟨l, a, xs, k, h1, h2, h3⟩ := r.R.lists i vs e
  refine ⟨l, a, xs, k, h1, ZdT h2 fun h2 => List.mem_append_right _ (List.mem_filter.mpr ⟨h2, ?_⟩), h3⟩
  have : a ∉ fs.map (·.1) := fun q => by
   obtain ⟨t, ht, e⟩ := List.mem_map.mp q
   exact r.frOff t (inF t ht) (e ▸ List.mem_of_getElem? h1)
  simpa using this
 ·refine ZdT (r.R.tups q hq) fun h2 => List.mem_append_right _ (List.mem_filter.mpr ⟨h2, ?_⟩)
  have : q.1 ∉ fs.map (·.1) := fun z => by
   obtain ⟨t, ht, e⟩ := List.mem_map.mp z
   exact r.frTup t (inF t ht) q hq e
  simpa using this
 ·rcases List.mem_append.mp hq with hq | hq
  ·exact Zz4 _ hq
  ·refine Zz3 _ (List.mem_filter.mpr ⟨r.frIn q (Zz3 _ hq), ?_⟩)
   have : q.1 ∉ fs.map (·.1) := fun z => by
    obtain ⟨t, ht, e⟩ := List.mem_map.mp z
    exact ap t ht q hq e
   simpa using this
 ·rcases List.mem_append.mp hq with hq | hq
  ·obtain ⟨t, ht, e⟩ := List.mem_map.mp (new q hq).2
   exact e ▸ r.frOff t (inF t ht)
  ·exact r.frOff q (Zz3 _ hq)
 ·refine Zz3 _ (List.mem_filter.mpr ⟨r.clIn q hq, ?_⟩)
  have : q.1 ∉ fs.map (·.1) := fun z => by
   obtain ⟨t, ht, e⟩ := List.mem_map.mp z
   exact r.apart q hq t (inF t ht) e.symm
  simpa using this
 ·rcases List.mem_append.mp ht with ht | ht
  ·obtain ⟨u, hu, e⟩ := List.mem_map.mp (new t ht).2
   exact e ▸ r.apart q hq u (inF u hu)
  ·exact r.apart q hq t (Zz3 _ ht)
 ·rcases List.mem_append.mp hq with hq | hq
  ·obtain ⟨u, hu, e⟩ := List.mem_map.mp (new q hq).2
   exact e ▸ r.frTup u (inF u hu) t ht
  ·exact r.frTup q (Zz3 _ hq) t ht
theorem Rep.more {Γ : Cx} {W : Wd} {ρ : Lc} {H : Hp} {fs fr : List (Addr × Obj)} {h h' : Heap} (r : Rep Γ W ρ H fr h) (up : ∀ b o, h.get? b = some o → h'.get? b = some o) (new : ∀ q ∈ fs, h'.get? q.1 = some q.2 ∧ h.objs.size ≤ q.1) : Rep Γ W ρ H (fs ++ fr) h' ∧ ∀ q ∈ fs, ∀ t ∈ fr, q.1 ≠ t.1 := by
 have r' := r.grown up
 obtain ⟨m, c, led, r⟩ := r
 have lt : ∀ q ∈ W.sc :: led, q.1 < h.objs.size := fun q hq => Heap.lt_size (r.get hq)
 have ne : ∀ q ∈ fs, ∀ t ∈ W.sc :: led, q.1 ≠ t.1 := fun q hq t ht => Nat.ne_of_gt (Nat.lt_of_lt_of_le (lt t ht) (new q hq).2)
 refine ⟨⟨m, c, fs ++ led, ⟨⟨?_, fun b o e => up b o (r.F.keep b o e), r.F.above⟩, fun q hq => ?_, r.R.mono fun q hq => ZeZ hq fun x hx => List.mem_append_right _ hx, r.sc, r.sc0, fun q hq => ?_, fun q hq => ?_, fun q hq => List.mem_append_right _ (r.clIn q hq), r.clOff, fun q hq t ht => ?_, fun q hq t ht => ?_, r.clTup, r.own⟩⟩, fun q hq t ht => ne q hq t (Zz2 _ (r.frIn t ht))⟩
 ·obtain ⟨o, es, ep, h1, h2⟩ := r.F.ns
  exact ⟨o, es, ep, up _ _ h1, h2⟩
 ·rcases List.mem_append.mp hq with hq | hq
  ·obtain ⟨h1, h2⟩ := new q hq
   refine ⟨h1, fun e => ?_, ?_⟩
   ·exact absurd (e ▸ r.F.ns.lt) (Nat.not_lt.mpr h2)
   ·cases e : Γ.h₀.get? q.1 with
    | none => rfl
    | some o => exact absurd (Heap.lt_size (r.F.keep _ _ e)) (Nat.not_lt.mpr h2)
  ·exact ⟨up _ _ (r.N q hq).1, (r.N q hq).2⟩
 ·rcases List.mem_append.mp hq with hq | hq
  ·exact Zz4 _ hq
  ·exact Zz3 _ (r.frIn q hq)
 ·rcases List.mem_append.mp hq with hq | hq
  ·intro hm
   obtain ⟨o, ho⟩ := r.piIn _ hm
   exact ne q hq _ ho rfl
  ·exact r.frOff q hq
 ·rcases List.mem_append.mp ht with ht | ht
  ·exact (ne t ht q (Zz2 _ (r.clIn q hq))).symm
  ·exact r.apart q hq t ht
 ·rcases List.mem_append.mp hq with hq | hq
  ·exact ne q hq t (r.R.tups t ht)
  ·exact r.frTup q hq t ht
theorem Rep.less {Γ : Cx} {W : Wd} {ρ : Lc} {H : Hp} {fs fr : List (Addr × Obj)} {h : Heap} (r : Rep Γ W ρ H fs h) (sub : ∀ q ∈ fr, q ∈ fs) : Rep Γ W ρ H fr h := by
 obtain ⟨m, c, led, r⟩ := r
 exact ⟨m, c, led, ⟨r.F, r.N, r.R, r.sc, r.sc0, fun q hq => r.frIn q (sub q hq), fun q hq => r.frOff q (sub q hq), r.clIn, r.clOff, fun q hq t ht => r.apart q hq t (sub t ht), fun q hq => r.frTup q (sub q hq), r.clTup, r.own⟩⟩
theorem Rep.frAt {Γ : Cx} {W : Wd} {ρ : Lc} {H : Hp} {fr : List (Addr × Obj)} {h : Heap} {q : Addr × Obj} (r : Rep Γ W ρ H fr h) (hq : q ∈ fr) : h.get? q.1 = some q.2 := by
 obtain ⟨m, c, led, r⟩ := r
 exact (r.N q (r.frIn q hq)).1
end PM
end
section
set_option maxRecDepth 100000
set_option linter.all false
set_option autoImplicit false
namespace PM
open PySem PyProof.Rows PyProof
noncomputable abbrev Ex := Lc → Hp → Option (V × Hp)
noncomputable abbrev Exs := Lc → Hp → Option (List V × Hp)
noncomputable abbrev Ts := Lc → Hp → Option (Bool × Hp)
noncomputable abbrev Zf2 (Γ : Cx) (W : Wd) (ρ : Lc) (H : Hp) (fr : List (Addr × Obj)) (s : Shared) (Q : Value → Shared → Prop) (v : V) : Prop :=
 ∀ (W' : Wd) (h' : Heap) (tk' : Nat) (x : Value), W.Le W' → Rep Γ W' ρ H fr h' → VR W' v x → Q x { s with heap := h', toks := tk' }
noncomputable abbrev ZhJ (Γ : Cx) (W : Wd) (ρ : Lc) (H : Hp) (fr : List (Addr × Obj)) (s : Shared) (Q : Bool → Shared → Prop) (b : Bool) : Prop :=
 ∀ (W' : Wd) (h' : Heap) (tk' : Nat), W.Le W' → Rep Γ W' ρ H fr h' → Q b { s with heap := h', toks := tk' }
section
variable (prog : Program) (w : World)
noncomputable def J (Γ : Cx) (e : Expr) (f : Ex) : Prop := ∀ (W : Wd) (ρ : Lc) (H : Hp) (fr : List (Addr × Obj)) (s : Shared) (Q E : Value → Shared → Prop) (v : V) (H' : Hp),
 Rep Γ W ρ H fr s.heap → f ρ H = some (v, H') → Zf2 Γ W ρ H' fr s Q v → wpAny (model prog w) Γ.A (eval e Γ.env) Q E s
noncomputable def Js (Γ : Cx) (es : List Expr) (f : Exs) : Prop := ∀ (pos : Pos) (W : Wd) (ρ : Lc) (H : Hp) (fr : List (Addr × Obj)) (s : Shared) (Q : List Value → Shared → Prop) (E : Value → Shared → Prop) (vs : List V) (H' : Hp),
 Rep Γ W ρ H fr s.heap → f ρ H = some (vs, H') → (∀ (W' : Wd) (h' : Heap) (tk' : Nat) (xs : List Value), W.Le W' → Rep Γ W' ρ H' fr h' → VRs W' vs xs → Q xs { s with heap := h', toks := tk' }) → wpAny (model prog w) Γ.A (spliced (backTo pos (starEach es Γ.env))) Q E s
noncomputable def JT (Γ : Cx) (e : Expr) (f : Ts) : Prop := ∀ (W : Wd) (ρ : Lc) (H : Hp) (fr : List (Addr × Obj)) (s : Shared) (Q : Bool → Shared → Prop) (E : Value → Shared → Prop) (b : Bool) (H' : Hp),
 Rep Γ W ρ H fr s.heap → f ρ H = some (b, H') → ZhJ Γ W ρ H' fr s Q b → wpAny (model prog w) Γ.A (isTrue e Γ.env (eval e Γ.env)) Q E s
noncomputable def Op2 (m : Value → Value → Sem Value) (o : V → V → Hp → Option (V × Hp)) : Prop := ∀ (Γ : Cx) (W : Wd) (ρ : Lc) (H : Hp) (fr : List (Addr × Obj)) (s : Shared) (Q E : Value → Shared → Prop) (a b : V) (x y : Value) (v : V) (H' : Hp),
 Rep Γ W ρ H fr s.heap → VR W a x → VR W b y → o a b H = some (v, H') → Zf2 Γ W ρ H' fr s Q v → wpAny (model prog w) Γ.A (m x y) Q E s
noncomputable def Op1 (m : Value → Sem Value) (o : V → Hp → Option (V × Hp)) : Prop := ∀ (Γ : Cx) (W : Wd) (ρ : Lc) (H : Hp) (fr : List (Addr × Obj)) (s : Shared) (Q E : Value → Shared → Prop) (a : V) (x : Value) (v : V) (H' : Hp),
 Rep Γ W ρ H fr s.heap → VR W a x → o a H = some (v, H') → Zf2 Γ W ρ H' fr s Q v → wpAny (model prog w) Γ.A (m x) Q E s
noncomputable def OpT (m : Value → Sem Bool) (o : V → Hp → Option Bool) : Prop := ∀ (Γ : Cx) (W : Wd) (ρ : Lc) (H : Hp) (fr : List (Addr × Obj)) (s : Shared) (Q : Bool → Shared → Prop) (E : Value → Shared → Prop) (a : V) (x : Value) (b : Bool),
 Rep Γ W ρ H fr s.heap → VR W a x → o a H = some b → ZhJ Γ W ρ H fr s Q b → wpAny (model prog w) Γ.A (m x) Q E s
end
noncomputable def Zl (k : Int) : Ex := fun _ H => some (.int k, H)
noncomputable def ZX : Ex := fun _ H => some (.none, H)
noncomputable def Zbz (b : Bool) : Ex := fun _ H => some (.bool b, H)
noncomputable def Zb (i : Nat) : Ex := fun ρ H => (ρ i).map fun v => (v, H)
noncomputable def Ze (o : V → V → Hp → Option (V × Hp)) (f g : Ex) : Ex := fun ρ H => (f ρ H).bind fun p => (g ρ p.2).bind fun q => o p.1 q.1 q.2
noncomputable def eUn (o : V → Hp → Option (V × Hp)) (f : Ex) : Ex := fun ρ H => (f ρ H).bind fun p => o p.1 p.2
noncomputable def eIf (t : Ts) (f g : Ex) : Ex := fun ρ H => (t ρ H).bind fun p => if p.1 then f ρ p.2 else g ρ p.2
noncomputable def Zp : Exs := fun _ H => some ([], H)
noncomputable def Zg (f : Ex) (g : Exs) : Exs := fun ρ H => (f ρ H).bind fun p => (g ρ p.2).bind fun q => some (p.1 :: q.1, q.2)
noncomputable def ZaX (g : Exs) : Ex := fun ρ H => (g ρ H).bind fun p => if p.1.length ≤ LEN then some (.tup p.1, p.2) else none
noncomputable def Zbe (g : Exs) : Ex := fun ρ H => (g ρ H).bind fun p => if p.1.length ≤ LEN then some (.ref p.2.length, p.2 ++ [p.1]) else none
noncomputable def Zcu : V → Hp → Option Bool
 | .bool b, _ => some b
 | .int i, _ => some (i != 0)
 | .none, _ => some false
 | _, _ => none
noncomputable def ZJ (f : Ex) : Ts := fun ρ H => (f ρ H).bind fun p => (Zcu p.1 p.2).map fun b => (b, p.2)
noncomputable def Zcm (t : Ts) : Ts := fun ρ H => (t ρ H).map fun p => (!p.1, p.2)
noncomputable def Zaq : Ts := fun _ H => some (true, H)
noncomputable def Zch : Ts := fun _ H => some (false, H)
noncomputable def ZaB (t u : Ts) : Ts := fun ρ H => (t ρ H).bind fun p => if p.1 then u ρ p.2 else some (false, p.2)
noncomputable def tOr (t u : Ts) : Ts := fun ρ H => (t ρ H).bind fun p => if p.1 then some (true, p.2) else u ρ p.2
noncomputable def ZhS (f : Ex) : Ex := fun ρ H => (f ρ H).bind fun p => (Zcu p.1 p.2).map fun b => (.bool (!b), p.2)
noncomputable def Zem (f g : Ex) : Ex := fun ρ H => (f ρ H).bind fun p => (Zcu p.1 p.2).bind fun b => if b then g ρ p.2 else some p
noncomputable def eOr (f g : Ex) : Ex := fun ρ H => (f ρ H).bind fun p => (Zcu p.1 p.2).bind fun b => if b then some p else g ρ p.2
section
variable {prog : Program} {w : World} {Γ : Cx}
theorem J.int (k : Int) (n : Nat) (pos : Pos) : J prog w Γ (.Constant (.int k) n pos) (Zl k) := fun W ρ H fr s Q E v H' r e post => by
 cases e
 exact wpAny_Constant_int (post W s.heap _ _ (.refl W) r (.int k _))
theorem J.none (n : Nat) (pos : Pos) : J prog w Γ (.Constant .none n pos) ZX := fun W ρ H fr s Q E v H' r e post => by
 cases e
 exact wpAny_Constant_none (post W s.heap s.toks _ (.refl W) r .none)
theorem J.bool (b : Bool) (n : Nat) (pos : Pos) : J prog w Γ (.Constant (.bool b) n pos) (Zbz b) := fun W ρ H fr s Q E v H' r e post => by
 cases e
 exact wpAny_Constant_bool (post W s.heap s.toks _ (.refl W) r (.bool b))
theorem ZE {e1 e2 : Expr} {op : Operator} {pos : Pos} {f g : Ex} {o : V → V → Hp → Option (V × Hp)} (h1 : J prog w Γ e1 f) (h2 : J prog w Γ e2 g) (ho : Op2 prog w (binaryOp op) o) : J prog w Γ (.BinOp e1 op e2 pos) (Ze o f g) := by
 intro W ρ H fr s Q E v H' r hf post
 obtain ⟨p, e1, hf⟩ := Zz0.mp hf
 obtain ⟨q, e2, e3⟩ := Zz0.mp hf
 refine wpAny_BinOp (h1 W ρ H fr s _ E _ _ r e1 fun W1 k1 t1 x l1 r1 x1 => ?_)
 refine h2 W1 ρ _ fr _ _ E _ _ r1 e2 fun W2 k2 t2 y l2 r2 y2 => ?_
 exact ho Γ W2 ρ _ fr _ Q E _ _ x y v H' r2 (x1.mono l2) y2 e3 fun W3 k3 t3 z l3 r3 z3 => post W3 k3 t3 z ((l1.trans l2).trans l3) r3 z3
theorem Zde {e1 e2 : Expr} {op : CmpOp} {pos : Pos} {f g : Ex} {o : V → V → Hp → Option (V × Hp)} (h1 : J prog w Γ e1 f) (h2 : J prog w Γ e2 g) (ho : Op2 prog w (compareOp op) o) (hm : behindInMarks op e2 = false := by with_unfolding_all rfl) : J prog w Γ (.Compare e1 [op] [e2] pos) (Ze o f g) := by
 intro W ρ H fr s Q E v H' r hf post
 obtain ⟨p, e1, hf⟩ := Zz0.mp hf
 obtain ⟨q, e2, e3⟩ := Zz0.mp hf
 refine wpAny_Compare1 (h1 W ρ H fr s _ E _ _ r e1 fun W1 k1 t1 x l1 r1 x1 => ?_) hm
 refine h2 W1 ρ _ fr _ _ E _ _ r1 e2 fun W2 k2 t2 y l2 r2 y2 => ?_
 exact ho Γ W2 ρ _ fr _ Q E _ _ x y v H' r2 (x1.mono l2) y2 e3 fun W3 k3 t3 z l3 r3 z3 => post W3 k3 t3 z ((l1.trans l2).trans l3) r3 z3
theorem Zen {e1 : Expr} {op : UnaryOp} {pos : Pos} {f : Ex} {o : V → Hp → Option (V × Hp)} (h1 : J prog w Γ e1 f) (ho : Op1 prog w (unaryOp op) o) : J prog w Γ (.UnaryOp op e1 pos) (eUn o f) := by
 intro W ρ H fr s Q E v H' r hf post
 obtain ⟨p, e1, hf⟩ := Zz0.mp hf
 refine wpAny_UnaryOp (h1 W ρ H fr s _ E _ _ r e1 fun W1 k1 t1 x l1 r1 x1 => ?_)
 exact ho Γ W1 ρ _ fr _ Q E _ x v H' r1 x1 hf fun W3 k3 t3 z l3 r3 z3 => post W3 k3 t3 z (l1.trans l3) r3 z3
theorem Zec : OpT prog w truthy Zcu := by
 intro Γ W ρ H fr s Q E a x b r hx ho post
 cases hx with
 | none => cases ho; exact truthy_none (post W s.heap s.toks (.refl W) r)
 | bool c => cases ho; exact fun _ _ _ => post W s.heap s.toks (.refl W) r
 | int i t => cases ho; exact P.truthy_int (post W s.heap s.toks (.refl W) r)
 | str _ _ => cases ho
 | tup _ _ _ => cases ho
 | ref _ => cases ho
theorem Zuk {e1 : Expr} {pos : Pos} {f : Ex} (h1 : J prog w Γ e1 f) : J prog w Γ (.UnaryOp .Not e1 pos) (ZhS f) := by
 intro W ρ H fr s Q E v H' r hf post
 obtain ⟨p, e1, hf⟩ := Zz0.mp hf
 obtain ⟨b, e2, e3⟩ := Zz1.mp hf
 cases e3
 refine wpAny_UnaryOp (h1 W ρ H fr s _ E _ _ r e1 fun W1 k1 t1 x l1 r1 x1 => ?_)
 exact not_of (Zec Γ W1 ρ _ fr _ _ E _ x b r1 x1 e2 fun W2 k2 t2 l2 r2 => post W2 k2 t2 _ (l1.trans l2) r2 (.bool _))
theorem ZlJ {e1 e2 : Expr} {pos : Pos} {f g : Ex} (h1 : J prog w Γ e1 f) (h2 : J prog w Γ e2 g) : J prog w Γ (.BoolOp .And [e1, e2] pos) (Zem f g) := by
 intro W ρ H fr s Q E v H' r hf post
 obtain ⟨p, e1, hf⟩ := Zz0.mp hf
 obtain ⟨b, e2, e3⟩ := Zz0.mp hf
 refine wpAny_And2 (h1 W ρ H fr s _ E _ _ r e1 fun W1 k1 t1 x l1 r1 x1 => ?_)
 refine Zec Γ W1 ρ _ fr _ _ E _ x b r1 x1 e2 fun W2 k2 t2 l2 r2 => ?_
 cases b with
 | true => exact h2 W2 ρ _ fr _ Q E v H' r2 e3 fun W3 k3 t3 z l3 r3 z3 => post W3 k3 t3 z ((l1.trans l2).trans l3) r3 z3
 | false =>
  cases e3
  exact post W2 k2 t2 x (l1.trans l2) r2 (x1.mono l2)
theorem ZuL {e1 e2 : Expr} {pos : Pos} {f g : Ex} (h1 : J prog w Γ e1 f) (h2 : J prog w Γ e2 g) : J prog w Γ (.BoolOp .Or [e1, e2] pos) (eOr f g) := by
 intro W ρ H fr s Q E v H' r hf post
 obtain ⟨p, e1, hf⟩ := Zz0.mp hf
 obtain ⟨b, e2, e3⟩ := Zz0.mp hf
 refine wpAny_Or2 (h1 W ρ H fr s _ E _ _ r e1 fun W1 k1 t1 x l1 r1 x1 => ?_)
 refine Zec Γ W1 ρ _ fr _ _ E _ x b r1 x1 e2 fun W2 k2 t2 l2 r2 => ?_
 cases b with
 | false => exact h2 W2 ρ _ fr _ Q E v H' r2 e3 fun W3 k3 t3 z l3 r3 z3 => post W3 k3 t3 z ((l1.trans l2).trans l3) r3 z3
 | true =>
  cases e3
  exact post W2 k2 t2 x (l1.trans l2) r2 (x1.mono l2)
theorem ZfU {t e1 e2 : Expr} {pos : Pos} {u : Ts} {f g : Ex} (ht : JT prog w Γ t u) (h1 : J prog w Γ e1 f) (h2 : J prog w Γ e2 g) : J prog w Γ (.IfExp t e1 e2 pos) (eIf u f g) := by
 intro W ρ H fr s Q E v H' r hf post
 obtain ⟨p, e1, hf⟩ := Zz0.mp hf
 refine wpAny_IfExp (ht W ρ H fr s _ E _ _ r e1 fun W1 k1 t1 l1 r1 => ?_)
 obtain ⟨b, H1⟩ := p
 cases b with
 | true => exact h1 W1 ρ _ fr _ Q E v H' r1 hf fun W3 k3 t3 z l3 r3 z3 => post W3 k3 t3 z (l1.trans l3) r3 z3
 | false => exact h2 W1 ρ _ fr _ Q E v H' r1 hf fun W3 k3 t3 z l3 r3 z3 => post W3 k3 t3 z (l1.trans l3) r3 z3
theorem Zr : Js prog w Γ [] Zp := fun pos W ρ H fr s Q E vs H' r hf post => by
 cases hf
 exact wpAny_items_nil (post W s.heap s.toks [] (.refl W) r .nil)
theorem Zh {e : Expr} {es : List Expr} {f : Ex} {g : Exs} (h1 : J prog w Γ e f) (h2 : Js prog w Γ es g) (he : starEach (e :: es) Γ.env = (false, eval e Γ.env) :: starEach es Γ.env := by rfl) : Js prog w Γ (e :: es) (Zg f g) := by
 intro pos W ρ H fr s Q E vs H' r hf post
 obtain ⟨p, e1, hf⟩ := Zz0.mp hf
 obtain ⟨q, e2, e3⟩ := Zz0.mp hf
 cases e3
 refine wpAny_items_cons (h1 W ρ H fr s _ E _ _ r e1 fun W1 k1 t1 x l1 r1 x1 => ?_) he
 exact h2 pos W1 ρ _ fr _ _ E _ _ r1 e2 fun W2 k2 t2 ys l2 r2 y2 => post W2 k2 t2 _ (l1.trans l2) r2 (.cons (x1.mono l2) y2)
theorem J.tup {es : List Expr} {k : Nat} {pos : Pos} {g : Exs} (h : Js prog w Γ es g) : J prog w Γ (.Tuple es k pos) (ZaX g) := by
 intro W ρ H fr s Q E v H' r hf post
 obtain ⟨p, e1, hf⟩ := Zz0.mp hf
 by_cases hl : p.1.length ≤ LEN
 ·rw [if_pos hl] at hf
  cases hf
  refine wpAny_Tuple (h pos W ρ H fr s _ E _ _ r e1 fun W1 k1 t1 xs l1 r1 x1 => ⟨Zc6 (by rw [x1.length]; exact hl), ?_⟩)
  obtain ⟨W2, l2, r2, v2⟩ := r1.tuple (k := 0) x1 hl
  exact post W2 _ _ _ (l1.trans l2) r2 v2
 ·rw [if_neg hl] at hf
  cases hf
theorem J.list {es : List Expr} {pos : Pos} {g : Exs} (h : Js prog w Γ es g) : J prog w Γ (.List es pos) (Zbe g) := by
 intro W ρ H fr s Q E v H' r hf post
 obtain ⟨p, e1, hf⟩ := Zz0.mp hf
 by_cases hl : p.1.length ≤ LEN
 ·rw [if_pos hl] at hf
  cases hf
  refine wpAny_List (h pos W ρ H fr s _ E _ _ r e1 fun W1 k1 t1 xs l1 r1 x1 => ⟨Zc6 (by rw [x1.length]; exact hl), ?_⟩)
  obtain ⟨W2, l2, r2, v2⟩ := r1.list (k := 0) x1 hl
  exact post W2 _ _ _ (l1.trans l2) r2 v2
 ·rw [if_neg hl] at hf
  cases hf
theorem ZcJ {e : Expr} {pos : Pos} {t : Ts} (h : JT prog w Γ e t) : JT prog w Γ (.UnaryOp .Not e pos) (Zcm t) := by
 intro W ρ H fr s Q E b H' r hf post
 obtain ⟨p, e1, e2⟩ := Zz1.mp hf
 cases e2
 exact isTrue_not (h W ρ H fr s _ E _ _ r e1 post)
noncomputable def JA (prog : Program) (w : World) (Γ : Cx) (op : BoolOp) (es : List Expr) (f : Ts) : Prop := ∀ (W : Wd) (ρ : Lc) (H : Hp) (fr : List (Addr × Obj)) (s : Shared) (Q : Bool → Shared → Prop) (E : Value → Shared → Prop) (b : Bool) (H' : Hp),
 Rep Γ W ρ H fr s.heap → f ρ H = some (b, H') → ZhJ Γ W ρ H' fr s Q b → wpAny (model prog w) Γ.A (allTrue op es Γ.env) Q E s
theorem ZbZ : JA prog w Γ .And [] Zaq := fun W ρ H fr s Q E b H' r hf post => by
 cases hf
 exact wpAny_allTrue_And_nil (post W s.heap s.toks (.refl W) r)
theorem ZcF : JA prog w Γ .Or [] Zch := fun W ρ H fr s Q E b H' r hf post => by
 cases hf
 exact wpAny_allTrue_Or_nil (post W s.heap s.toks (.refl W) r)
theorem ZaL {e : Expr} {es : List Expr} {t u : Ts} (h1 : JT prog w Γ e t) (h2 : JA prog w Γ .And es u) : JA prog w Γ .And (e :: es) (ZaB t u) := by
 intro W ρ H fr s Q E b H' r hf post
 obtain ⟨p, e1, hf⟩ := Zz0.mp hf
 refine wpAny_allTrue_And_cons (h1 W ρ H fr s _ E _ _ r e1 fun W1 k1 t1 l1 r1 => ?_)
 obtain ⟨c, H1⟩ := p
 cases c with
 | true => exact h2 W1 ρ _ fr _ Q E b H' r1 hf fun W3 k3 t3 l3 r3 => post W3 k3 t3 (l1.trans l3) r3
 | false =>
  cases hf
  exact post W1 k1 t1 l1 r1
theorem Zbn {e : Expr} {es : List Expr} {t u : Ts} (h1 : JT prog w Γ e t) (h2 : JA prog w Γ .Or es u) : JA prog w Γ .Or (e :: es) (tOr t u) := by
 intro W ρ H fr s Q E b H' r hf post
 obtain ⟨p, e1, hf⟩ := Zz0.mp hf
 refine wpAny_allTrue_Or_cons (h1 W ρ H fr s _ E _ _ r e1 fun W1 k1 t1 l1 r1 => ?_)
 obtain ⟨c, H1⟩ := p
 cases c with
 | false => exact h2 W1 ρ _ fr _ Q E b H' r1 hf fun W3 k3 t3 l3 r3 => post W3 k3 t3 (l1.trans l3) r3
 | true =>
  cases hf
  exact post W1 k1 t1 l1 r1
theorem Za7 {op : BoolOp} {es : List Expr} {pos : Pos} {t : Ts} (h : JA prog w Γ op es t) : JT prog w Γ (.BoolOp op es pos) t := fun W ρ H fr s Q E b H' r hf post => wpAny_isTrue_BoolOp (h W ρ H fr s Q E b H' r hf post)
theorem Zb7 {e : Expr} {f : Ex} (h : J prog w Γ e f) (he : isTrue e Γ.env (eval e Γ.env) = (do let v ← eval e Γ.env; standAt e.pos; holding [v] (truthy v)) := by rfl) : JT prog w Γ e (ZJ f) := by
 intro W ρ H fr s Q E b H' r hf post
 obtain ⟨p, e1, hf⟩ := Zz0.mp hf
 obtain ⟨c, e2, e3⟩ := Zz1.mp hf
 cases e3
 refine isTrue_plain (h W ρ H fr s _ E _ _ r e1 fun W1 k1 t1 x l1 r1 x1 => ?_) he
 exact Zec Γ W1 ρ _ fr _ _ E _ x b r1 x1 e2 fun W2 k2 t2 l2 r2 => post W2 k2 t2 (l1.trans l2) r2
theorem ZQ {e1 e2 : Expr} {op : CmpOp} {pos : Pos} {f g : Ex} {o : V → V → Hp → Option (V × Hp)} (h1 : J prog w Γ e1 f) (h2 : J prog w Γ e2 g) (ho : Op2 prog w (compareOp op) o) (hm : behindInMarks op e2 = false := by with_unfolding_all rfl) : JT prog w Γ (.Compare e1 [op] [e2] pos) (ZJ (Ze o f g)) := by
 intro W ρ H fr s Q E b H' r hf post
 obtain ⟨pp, e0, hf0⟩ := Zz0.mp hf
 obtain ⟨c, e4, e5⟩ := Zz1.mp hf0
 cases e5
 obtain ⟨p, e1, hf⟩ := Zz0.mp e0
 obtain ⟨q, e2, e3⟩ := Zz0.mp hf
 refine wpAny_isTrue_Compare1 (h1 W ρ H fr s _ E _ _ r e1 fun W1 k1 t1 x l1 r1 x1 => ?_) hm
 refine h2 W1 ρ _ fr _ _ E _ _ r1 e2 fun W2 k2 t2 y l2 r2 y2 => ?_
 refine ho Γ W2 ρ _ fr _ _ E _ _ x y _ _ r2 (x1.mono l2) y2 e3 fun W3 k3 t3 z l3 r3 z3 => ?_
 exact Zec Γ W3 ρ _ fr _ _ E _ z b r3 z3 e4 fun W4 k4 t4 l4 r4 => post W4 k4 t4 (((l1.trans l2).trans l3).trans l4) r4
end
end PM
end
section
set_option maxRecDepth 100000
set_option linter.all false
set_option autoImplicit false
namespace PM
open PySem PyProof.Rows PyProof
noncomputable def mulOk (a b : Int) : Bool := !(decide (Builtin.Int.intBits a > shortFactorBits) && decide (Builtin.Int.intBits b > shortFactorBits) && Builtin.Int.intTooBig (Builtin.Int.intBits a + Builtin.Int.intBits b))
theorem ZrE {a b : Int} (h : mulOk a b = true) : IntMulOk a b := by
 unfold mulOk at h
 unfold IntMulOk
 intro c
 rw [c] at h
 cases h
noncomputable def Za9 : V → V → Hp → Option (V × Hp)
 | .int a, .int b, H => some (.int (a - b), H)
 | _, _, _ => none
noncomputable def oDiv : V → V → Hp → Option (V × Hp)
 | .int a, .int b, H => if b ≠ 0 ∧ Builtin.divisionGoesByPylong a b = false then some (.int (a.fdiv b), H) else none
 | _, _, _ => none
noncomputable def oMod : V → V → Hp → Option (V × Hp)
 | .int a, .int b, H => if b ≠ 0 then some (.int (a.fmod b), H) else none
 | _, _, _ => none
noncomputable def oPow : V → V → Hp → Option (V × Hp)
 | .int a, .int b, H => if 0 ≤ b ∧ (Builtin.Int.intBits a : Int) * b ≤ 2 ^ 27 then some (.int (a ^ b.toNat), H) else none
 | _, _, _ => none
noncomputable def ZdA : V → Hp → Option (V × Hp)
 | .int a, H => some (.int (-a), H)
 | _, _ => none
noncomputable def ZhT (p : Int → Int → Bool) : V → V → Hp → Option (V × Hp)
 | .int a, .int b, H => some (.bool (p a b), H)
 | _, _, _ => none
noncomputable def oLt := ZhT fun a b => decide (a < b)
noncomputable def oLe := ZhT fun a b => decide (a ≤ b)
noncomputable def oGt := ZhT fun a b => decide (b < a)
section
variable {prog : Program} {w : World}
theorem Zbd : Op2 prog w (binaryOp .Sub) Za9 := by
 intro Γ W ρ H fr s Q E a b x y v H' r hx hy ho post
 cases hx <;> first | (cases ho; done) | skip
 cases hy <;> first | (cases ho; done) | skip
 cases ho
 exact PySem.P.sub_int (post W s.heap _ _ (.refl W) r (.int _ _))
theorem Zba : Op2 prog w (binaryOp .Mod) oMod := by
 intro Γ W ρ H fr s Q E a b x y v H' r hx hy ho post
 cases hx <;> first | (cases ho; done) | skip
 cases hy <;> first | (cases ho; done) | skip
 rename_i i t j u
 simp only [oMod] at ho
 by_cases hb : j ≠ 0
 ·rw [if_pos hb] at ho
  cases ho
  exact mod_int' hb (post W s.heap _ _ (.refl W) r (.int _ _))
 ·rw [if_neg hb] at ho
  cases ho
theorem Zds : Op2 prog w (binaryOp .FloorDiv) oDiv := by
 intro Γ W ρ H fr s Q E a b x y v H' r hx hy ho post
 cases hx <;> first | (cases ho; done) | skip
 cases hy <;> first | (cases ho; done) | skip
 rename_i i t j u
 simp only [oDiv] at ho
 by_cases hb : j ≠ 0 ∧ Builtin.divisionGoesByPylong i j = false
 ·rw [if_pos hb] at ho
  cases ho
  exact floordiv_int hb.1 (post W s.heap _ _ (.refl W) r (.int _ _)) (.inl hb.2)
 ·rw [if_neg hb] at ho
  cases ho
theorem Zlr : Op2 prog w (binaryOp .Pow) oPow := by
 intro Γ W ρ H fr s Q E a b x y v H' r hx hy ho post
 cases hx <;> first | (cases ho; done) | skip
 cases hy <;> first | (cases ho; done) | skip
 rename_i i t j u
 simp only [oPow] at ho
 by_cases hb : 0 ≤ j ∧ (Builtin.Int.intBits i : Int) * j ≤ 2 ^ 27
 ·rw [if_pos hb] at ho
  cases ho
  exact pow_int hb.1 hb.2 (post W s.heap _ _ (.refl W) r (.int _ _))
 ·rw [if_neg hb] at ho
  cases ho
theorem Zd6 : Op1 prog w (unaryOp .USub) ZdA := by
 intro Γ W ρ H fr s Q E a x v H' r hx ho post
 cases hx <;> first | (cases ho; done) | skip
 cases ho
 exact PySem.P.neg_int (post W s.heap _ _ (.refl W) r (.int _ _))
theorem Zcl : Op2 prog w (compareOp .Lt) oLt := by
 intro Γ W ρ H fr s Q E a b x y v H' r hx hy ho post
 cases hx <;> first | (cases ho; done) | skip
 cases hy <;> first | (cases ho; done) | skip
 cases ho
 exact PySem.P.lt_int (post W s.heap s.toks _ (.refl W) r (.bool _))
theorem ZlK : Op2 prog w (compareOp .LtE) oLe := by
 intro Γ W ρ H fr s Q E a b x y v H' r hx hy ho post
 cases hx <;> first | (cases ho; done) | skip
 cases hy <;> first | (cases ho; done) | skip
 cases ho
 exact PySem.P.le_int (post W s.heap s.toks _ (.refl W) r (.bool _))
theorem Zed : Op2 prog w (compareOp .Gt) oGt := by
 intro Γ W ρ H fr s Q E a b x y v H' r hx hy ho post
 cases hx <;> first | (cases ho; done) | skip
 cases hy <;> first | (cases ho; done) | skip
 cases ho
 exact PySem.P.gt_int (post W s.heap s.toks _ (.refl W) r (.bool _))
end
end PM
end
section
set_option maxRecDepth 100000
set_option linter.all false
set_option autoImplicit false
namespace PM
open PySem PyProof.Rows PyProof
noncomputable def Ze2 (f : V → Option PyData) : List V → Option (List PyData)
 | [] => some []
 | v :: vs => (f v).bind fun d => (Ze2 f vs).bind fun ds => some (d :: ds)
noncomputable def toD (H : Hp) : Nat → V → Option PyData
 | _, .none => some .none
 | _, .bool b => some (.bool b)
 | _, .int i => some (.int i)
 | _, .str x => some (.str x)
 | n + 1, .tup vs => (Ze2 (toD H n) vs).map .tuple
 | n + 1, .ref a => H[a]?.bind fun vs => (Ze2 (toD H n) vs).map .list
 | 0, .tup _ => none
 | 0, .ref _ => none
theorem ZjE {W : Wd} {h : Heap} {f : V → Option PyData} (ih : ∀ v x d, VR W v x → f v = some d → ∃ as, Reads h x d as) : ∀ {vs : List V} {xs : List Value} {ds : List PyData}, VRs W vs xs → Ze2 f vs = some ds → ∃ as, ReadsAll h xs ds as
 | _, _, _, .nil, e => by
  cases e
  exact ⟨_, .nil⟩
 | _, _, _, .cons a r, e => by
  obtain ⟨d, e1, e⟩ := Zz0.mp e
  obtain ⟨ds, e2, e3⟩ := Zz0.mp e
  cases e3
  obtain ⟨as, h1⟩ := ih _ _ _ a e1
  obtain ⟨bs, h2⟩ := ZjE ih r e2
  exact ⟨_, .cons h1 h2⟩
theorem ZeG {Γ : Cx} {W : Wd} {ρ : Lc} {H : Hp} {fr : List (Addr × Obj)} {h : Heap} (r : Rep Γ W ρ H fr h) : ∀ (n : Nat) (v : V) (x : Value) (d : PyData), VR W v x → toD H n v = some d → ∃ as, Reads h x d as := by
 intro n
 induction n with
 | zero =>
  intro v x d hv e
  cases hv with
  | none => cases e; exact ⟨_, .none⟩
  | bool b => cases e; exact ⟨_, .bool b⟩
  | int i t => cases e; exact ⟨_, .int i t⟩
  | str y t => cases e; exact ⟨_, .str y t⟩
  | tup _ _ _ => cases e
  | ref _ => cases e
 | succ n ih =>
  intro v x d hv e
  cases hv with
  | none => cases e; exact ⟨_, .none⟩
  | bool b => cases e; exact ⟨_, .bool b⟩
  | int i t => cases e; exact ⟨_, .int i t⟩
  | str y t => cases e; exact ⟨_, .str y t⟩
  | @tup vs a xs k hm hl hs =>
   obtain ⟨ds, e1, e2⟩ := Zz1.mp e
   subst e2
   obtain ⟨as, h1⟩ := ZjE ih hs e1
   exact ⟨_, .tuple (r.tupAt hm) rfl rfl (by simpa using h1)⟩
  | @ref i a ea =>
   obtain ⟨vs, e0, e⟩ := Zz0.mp e
   obtain ⟨ds, e1, e2⟩ := Zz1.mp e
   subst e2
   obtain ⟨hl, xs, k, hg, hs⟩ := r.at e0 ea
   obtain ⟨as, h1⟩ := ZjE ih hs e1
   exact ⟨_, .list hg rfl rfl (by simpa using h1)⟩
noncomputable def ZbN : Nat := 8
noncomputable def ZhU (a b : V) (H : Hp) : Option Bool := (toD H ZbN a).bind fun d => (toD H ZbN b).bind fun e => if SeqAt.shaped d = true ∧ SeqAt.shaped e = true then some (PyData.eqv d e) else none
noncomputable def oEq (a b : V) (H : Hp) : Option (V × Hp) := (ZhU a b H).map fun c => (.bool c, H)
noncomputable def oNe (a b : V) (H : Hp) : Option (V × Hp) := (ZhU a b H).map fun c => (.bool (!c), H)
noncomputable def oIs : V → V → Hp → Option (V × Hp)
 | .none, .none, H => some (.bool true, H)
 | .bool _, .none, H => some (.bool false, H)
 | .int _, .none, H => some (.bool false, H)
 | .str _, .none, H => some (.bool false, H)
 | .tup _, .none, H => some (.bool false, H)
 | .ref _, .none, H => some (.bool false, H)
 | _, _, _ => none
noncomputable def Zb2 (a b : V) (H : Hp) : Option (V × Hp) := (oIs a b H).bind fun p => match p.1 with | .bool c => some (.bool (!c), p.2) | _ => none
section
variable {prog : Program} {w : World}
theorem ZaW : Op2 prog w (compareOp .Eq) oEq := by
 intro Γ W ρ H fr s Q E a b x y v H' r hx hy ho post
 obtain ⟨c, e1, e2⟩ := Zz1.mp ho
 cases e2
 obtain ⟨d, h1, e1⟩ := Zz0.mp e1
 obtain ⟨e, h2, e1⟩ := Zz0.mp e1
 by_cases hs : SeqAt.shaped d = true ∧ SeqAt.shaped e = true
 ·rw [if_pos hs] at e1
  cases e1
  obtain ⟨as, R1⟩ := ZeG r ZbN a x d hx h1
  obtain ⟨bs, R2⟩ := ZeG r ZbN b y e hy h2
  exact eq_dataH R1 R2 hs.1 hs.2 (by have := Γ.hu; omega) (post W s.heap s.toks _ (.refl W) r (.bool _))
 ·rw [if_neg hs] at e1
  cases e1
theorem Zbr : Op2 prog w (compareOp .NotEq) oNe := by
 intro Γ W ρ H fr s Q E a b x y v H' r hx hy ho post
 obtain ⟨c, e1, e2⟩ := Zz1.mp ho
 cases e2
 obtain ⟨d, h1, e1⟩ := Zz0.mp e1
 obtain ⟨e, h2, e1⟩ := Zz0.mp e1
 by_cases hs : SeqAt.shaped d = true ∧ SeqAt.shaped e = true
 ·rw [if_pos hs] at e1
  cases e1
  obtain ⟨as, R1⟩ := ZeG r ZbN a x d hx h1
  obtain ⟨bs, R2⟩ := ZeG r ZbN b y e hy h2
  exact ne_dataH R1 R2 hs.1 hs.2 (by have := Γ.hu; omega) (post W s.heap s.toks _ (.refl W) r (.bool _))
 ·rw [if_neg hs] at e1
  cases e1
theorem Zbo : Op2 prog w (compareOp .Is) oIs := by
 intro Γ W ρ H fr s Q E a b x y v H' r hx hy ho post
 cases hy <;> first | (cases hx <;> cases ho; done) | skip
 refine PySem.is_none ?_
 cases hx <;> (cases ho; exact post W s.heap s.toks _ (.refl W) r (.bool _))
theorem Zce : Op2 prog w (compareOp .IsNot) Zb2 := by
 intro Γ W ρ H fr s Q E a b x y v H' r hx hy ho post
 cases hy <;> first | (cases hx <;> cases ho; done) | skip
 refine PySem.isNot_none ?_
 cases hx <;> (cases ho; exact post W s.heap s.toks _ (.refl W) r (.bool _))
end
end PM
end
section
set_option maxRecDepth 100000
set_option linter.all false
set_option autoImplicit false
namespace PM
open PySem PyProof.Rows PyProof
noncomputable def Zs : V → V → Hp → Option (V × Hp)
 | .ref a, .int k, H => H[a]?.bind fun vs => (seqIndex? k vs.length).bind fun j => vs[j]?.map fun v => (v, H)
 | .tup vs, .int k, H => (seqIndex? k vs.length).bind fun j => vs[j]?.map fun v => (v, H)
 | _, _, _ => none
theorem Zme {k : Int} {n j : Nat} (h : seqIndex? k n = some j) : j < n ∧ (k : Int) < n ∧ -(n : Int) ≤ k ∧ (0 ≤ k → k.toNat = j) ∧ (k < 0 → (k + n).toNat = j) := by
 unfold seqIndex? at h
 by_cases c : k < 0
 ·simp only [c, if_true] at h
  split at h
  ·rename_i d
   simp at d h
   omega
  ·cases h
 ·simp only [c, if_false] at h
  split at h
  ·rename_i d
   simp at d h
   omega
  ·cases h
section
variable {prog : Program} {w : World} {Γ : Cx}
theorem Zv {e1 e2 : Expr} {pos : Pos} {f g : Ex} (h1 : J prog w Γ e1 f) (h2 : J prog w Γ e2 g) (hs : ∀ a k u, subscripted e2 false (.ref a) (.int k u) = operate [.ref a, .int k u] (getItem (.ref a) (.int k u)) := by intros; with_unfolding_all rfl) : J prog w Γ (.Subscript e1 e2 pos) (Ze Zs f g) := by
 intro W ρ H fr s Q E v H' r hf post
 obtain ⟨p, e1, hf⟩ := Zz0.mp hf
 obtain ⟨q, e2, e3⟩ := Zz0.mp hf
 refine Subscript_ (h1 W ρ H fr s _ E _ _ r e1 fun W1 k1 t1 x l1 r1 x1 => ?_)
 refine h2 W1 ρ _ fr _ _ E _ _ r1 e2 fun W2 k2 t2 y l2 r2 y2 => ?_
 have x2 := x1.mono l2
 obtain ⟨v1, H1⟩ := p
 obtain ⟨v2, H2⟩ := q
 simp only at e3 r2 x2 y2
 cases y2 <;> first | (cases x2 <;> cases e3; done) | skip
 rename_i k u
 cases x2 <;> first | (cases e3; done) | skip
 ·rename_i vs a xs kk hm hl hv
  obtain ⟨j, hj, e4⟩ := Zz0.mp e3
  obtain ⟨z, hz, e5⟩ := Zz1.mp e4
  cases e5
  obtain ⟨z', hz', rz⟩ := hv.at hz
  have hx : xs.length = vs.length := hv.length
  have hb := Zme hj
  rw [Zbc] at hl
  have it : IsTup k2 a xs.toArray := ⟨_, r2.tupAt hm, rfl, kk, rfl⟩
  exact item_tupleT it (by omega) (by omega) (by rw [hx]; exact hj) hz' (post W2 k2 t2 z' (l1.trans l2) r2 rz) (hs _ _ _)
 ·rename_i i a ea
  obtain ⟨vs, hvs, e3⟩ := Zz0.mp e3
  obtain ⟨j, hj, e4⟩ := Zz0.mp e3
  obtain ⟨z, hz, e5⟩ := Zz1.mp e4
  cases e5
  obtain ⟨hl, xs, kk, hg, hv⟩ := r2.at hvs ea
  obtain ⟨z', hz', rz⟩ := hv.at hz
  have hx : xs.length = vs.length := hv.length
  have hb := Zme hj
  rw [Zbc] at hl
  have isl : k2.IsList a xs.toArray := ⟨_, hg, rfl, kk, rfl⟩
  refine tail_any (s := { s with heap := k2, toks := t2 }) isl.typeIs slot_list_getitem.lookup ?_ (hs _ _ _)
  by_cases hk : 0 ≤ k
  ·exact wpAny_getItem_list isl hk (by omega) (by rw [hb.2.2.2.1 hk]; simpa using hz') (post W2 k2 t2 z' (l1.trans l2) r2 rz)
  ·refine wpAny_getItem_list_neg isl (by omega) (by simp; omega) (by omega) ?_ (post W2 k2 t2 z' (l1.trans l2) r2 rz)
   have := hb.2.2.2.2 (by omega)
   rw [← hx] at this
   simpa [this] using hz'
end
noncomputable def ZcO {α : Type} (vs : List α) (lo hi : Option Int) : List α := (sliceRange (sliceBounds lo hi none vs.length).1 (sliceBounds lo hi none vs.length).2.1 (sliceBounds lo hi none vs.length).2.2).filterMap fun i => vs[i]?
theorem VRs.pick {W : Wd} {vs : List V} {xs : List Value} (h : VRs W vs xs) (l : List Nat) : VRs W (l.filterMap fun i => vs[i]?) (l.filterMap fun i => xs[i]?) := by
 induction l with
 | nil => exact .nil
 | cons i l ih =>
  simp only [List.filterMap_cons]
  have hl := h.length
  cases e : vs[i]? with
  | none =>
   have : xs[i]? = none := by rw [List.getElem?_eq_none_iff] at e ⊢; omega
   rw [this]
   exact ih
  | some v =>
   obtain ⟨x, hx, hr⟩ := h.at e
   rw [hx]
   exact .cons hr ih
theorem ZrF {α : Type} (vs : List α) (lo hi : Option Int) : (ZcO vs lo hi).length ≤ vs.length := by
 unfold ZcO
 refine Nat.le_trans (List.length_filterMap_le _ _) ?_
 refine sliceRange_length_le _ _ _ _ (fun _ => ?_) fun c => ?_
 ·unfold sliceBounds
  cases lo <;> cases hi <;> simp <;> omega
 ·exact absurd (by unfold sliceBounds; simp) c
theorem ZrG {α : Type} (vs : List α) (a : Nat) : ∀ m : Nat, a + m ≤ vs.length → ((List.range m).map fun k => a + k).filterMap (fun i => vs[i]?) = (vs.drop a).take m := by
 intro m
 induction m with
 | zero => intro _; simp
 | succ m ih =>
  intro h
  rw [List.range_succ, List.map_append, List.filterMap_append, ih (by omega), List.take_add_one]
  congr 1
  simp only [List.map_cons, List.map_nil, List.filterMap_cons, List.filterMap_nil, List.getElem?_drop]
  cases e : vs[a + m]? with
  | none => rw [List.getElem?_eq_none_iff] at e; omega
  | some v => rfl
theorem Zns {α : Type} (vs : List α) (lo hi : Option Int) {a b : Nat} (ha : (sliceBounds lo hi none vs.length).1 = (a : Int)) (hb : (sliceBounds lo hi none vs.length).2.1 = (b : Int)) (h : b ≤ vs.length) : ZcO vs lo hi = (vs.drop a).take (b - a) := by
 have hc : (sliceBounds lo hi none vs.length).2.2 = 1 := by unfold sliceBounds; rfl
 unfold ZcO
 rw [ha, hb, hc]
 have e : sliceRange (a : Int) (b : Int) 1 = (List.range (b - a)).map fun k => a + k := by
  unfold sliceRange
  simp only [show (1 : Int) > 0 from by decide, if_true]
  by_cases c : (a : Int) < b
  ·rw [if_pos c]
   have : ((b : Int) - a + 1 - 1) / 1 = ((b - a : Nat) : Int) := by omega
   rw [this]
   simp only [Int.toNat_natCast]
   refine List.map_congr_left fun k _ => ?_
   omega
  ·rw [if_neg c]
   have : b - a = 0 := by omega
   rw [this]
   rfl
 rw [e]
 by_cases c : a ≤ b
 ·exact ZrG vs a (b - a) (by omega)
 ·have : b - a = 0 := by omega
  rw [this]
  simp
theorem ZqU {α : Type} (vs : List α) {k : Int} {a : Nat} (e : k = (a : Int)) : ZcO vs (some k) none = vs.drop a := by
 by_cases h : a ≤ vs.length
 ·rw [Zns vs (some k) none (a := a) (b := vs.length) (by unfold sliceBounds; simp; omega) (by unfold sliceBounds; simp) (Nat.le_refl _)]
  rw [List.take_of_length_le (by simp)]
 ·rw [Zns vs (some k) none (a := vs.length) (b := vs.length) (by unfold sliceBounds; simp; omega) (by unfold sliceBounds; simp) (Nat.le_refl _)]
  simp
  omega
noncomputable def ZfV : Option V → Option (Option Int)
 | none => some none
 | some (.int k) => some (some k)
 | _ => none
noncomputable abbrev Pt := Lc → Hp → Option (Option V × Hp)
noncomputable def ZfW : Pt := fun _ H => some (none, H)
noncomputable def ZlL (f : Ex) : Pt := fun ρ H => (f ρ H).map fun p => (some p.1, p.2)
noncomputable def Zls (f : Ex) (lo hi : Pt) : Ex := fun ρ H => (f ρ H).bind fun p => (lo ρ p.2).bind fun q => (hi ρ q.2).bind fun u => (ZfV q.1).bind fun a => (ZfV u.1).bind fun b => match p.1 with
 | .ref i => u.2[i]?.bind fun vs => some (.ref u.2.length, u.2 ++ [ZcO vs a b])
 | _ => none
inductive VP (W : Wd) : Option V → Value → Prop where
 | none : VP W none .none
 | some {v : V} {x : Value} : VR W v x → VP W (some v) x
theorem VP.mono {W W' : Wd} {v : Option V} {x : Value} (l : W.Le W') (h : VP W v x) : VP W' v x := by
 cases h with
 | none => exact .none
 | some h => exact .some (h.mono l)
theorem VP.part {W : Wd} {v : Option V} {x : Value} {k : Option Int} (h : VP W v x) (e : ZfV v = Option.some k) : IsPart x k := by
 cases h with
 | none => cases e; exact .none
 | some h => cases h <;> cases e; exact .int _ _
noncomputable def JP (prog : Program) (w : World) (Γ : Cx) (e : Option Expr) (f : Pt) : Prop := ∀ (W : Wd) (ρ : Lc) (H : Hp) (fr : List (Addr × Obj)) (s : Shared) (Q E : Value → Shared → Prop) (v : Option V) (H' : Hp),
 Rep Γ W ρ H fr s.heap → f ρ H = some (v, H') → (∀ (W' : Wd) (h' : Heap) (tk' : Nat) (x : Value), W.Le W' → Rep Γ W' ρ H' fr h' → VP W' v x → Q x { s with heap := h', toks := tk' }) → wpAny (model prog w) Γ.A (evalPart e Γ.env) Q E s
section
variable {prog : Program} {w : World} {Γ : Cx}
theorem JP.none : JP prog w Γ none ZfW := fun W ρ H fr s Q E v H' r hf post => by
 cases hf
 exact wpAny_evalPart_none (post W s.heap s.toks _ (.refl W) r .none)
theorem JP.some {e : Expr} {f : Ex} (h : J prog w Γ e f) : JP prog w Γ (some e) (ZlL f) := fun W ρ H fr s Q E v H' r hf post => by
 obtain ⟨p, e1, e2⟩ := Zz1.mp hf
 cases e2
 exact wpAny_evalPart_some (h W ρ H fr s _ E _ _ r e1 fun W1 k1 t1 x l1 r1 x1 => post W1 k1 t1 x l1 r1 (.some x1))
theorem Zss {e : Expr} {lo hi : Option Expr} {p pos : Pos} {f : Ex} {a b : Pt} (h : J prog w Γ e f) (hlo : JP prog w Γ lo a) (hhi : JP prog w Γ hi b) (ht : ∀ o r, letTemporaryGo e o r = pure () := by intro _ _; rfl) : J prog w Γ (.Subscript e (.Slice lo hi Option.none p) pos) (Zls f a b) := by
 intro W ρ H fr s Q E v H' r hf post
 obtain ⟨p, e1, hf⟩ := Zz0.mp hf
 obtain ⟨q, e2, hf⟩ := Zz0.mp hf
 obtain ⟨u, e3, hf⟩ := Zz0.mp hf
 obtain ⟨ka, e4, hf⟩ := Zz0.mp hf
 obtain ⟨kb, e5, hf⟩ := Zz0.mp hf
 refine wpAny_Subscript_list_slice (h W ρ H fr s _ E _ _ r e1 fun W1 k1 t1 x l1 r1 x1 => ?_) ht
 refine hlo W1 ρ _ fr _ _ E _ _ r1 e2 fun W2 k2 t2 y l2 r2 y2 => ?_
 refine hhi W2 ρ _ fr _ _ E _ _ r2 e3 fun W3 k3 t3 z l3 r3 z3 => ?_
 have x3 := x1.mono (l2.trans l3)
 obtain ⟨v1, H1⟩ := p
 simp only at hf x3
 cases x3 with
 | none => cases hf
 | bool _ => cases hf
 | int _ _ => cases hf
 | str _ _ => cases hf
 | tup _ _ _ => cases hf
 | @ref i a ea =>
  obtain ⟨vs, hvs, e6⟩ := Zz0.mp hf
  cases e6
  obtain ⟨hl, xs, kk, hg, hv⟩ := r3.at hvs ea
  have isl : k3.IsList a xs.toArray := ⟨_, hg, rfl, kk, rfl⟩
  refine ⟨a, xs.toArray, ka, kb, rfl, isl, Zc6 (by simp [hv.length]; exact hl), (y2.mono l3).part e4, z3.part e5, ?_⟩
  have hp : VRs W3 (ZcO vs ka kb) (ZcO xs ka kb) := by
   unfold ZcO
   rw [hv.length]
   exact hv.pick _
  have hx : slicePick xs.toArray ka kb Option.none = (ZcO xs ka kb).toArray := by
   unfold slicePick ZcO
   simp
  obtain ⟨W4, l4, r4, v4⟩ := (r3.push { cls := .type "slice", data := .fields #[y, z, .none] }).list (k := 0) hp (Nat.le_trans (ZrF vs ka kb) hl)
  rw [hx]
  have := post W4 _ t3 _ (((l1.trans l2).trans l3).trans l4) r4 v4
  rw [Heap.size_push] at this
  exact this
end
end PM
end
section
set_option maxRecDepth 100000
set_option linter.all false
set_option autoImplicit false
namespace PM
open PySem PyProof.Rows PyProof
noncomputable def Nm (prog : Program) (w : World) (Γ : Cx) (x : Str) (v : Value) : Prop := ∀ (pos : Pos) (m : Str → Option Value) (s : Shared) (Q E : Value → Shared → Prop), Fr Γ.h₀ Γ.L s.heap m → Q v s → wpAny (model prog w) Γ.A (eval (.Name x pos) Γ.env) Q E s
theorem Nm.use {prog : Program} {w : World} {Γ : Cx} {x : Str} {y : Value} (h : Nm prog w Γ x y) {pos : Pos} {W : Wd} {ρ : Lc} {H : Hp} {fr : List (Addr × Obj)} {s : Shared} {Q E : Value → Shared → Prop} (r : Rep Γ W ρ H fr s.heap) (q : Q y s) : wpAny (model prog w) Γ.A (eval (.Name x pos) Γ.env) Q E s := by
 obtain ⟨m, c, led, r⟩ := r
 exact h pos m s Q E r.F q
noncomputable def OpN (prog : Program) (w : World) (m : List Value → Sem Value) (o : List V → Hp → Option (V × Hp)) : Prop := ∀ (Γ : Cx) (W : Wd) (ρ : Lc) (H : Hp) (fr : List (Addr × Obj)) (s : Shared) (Q E : Value → Shared → Prop) (as : List V) (xs : List Value) (v : V) (H' : Hp),
 Rep Γ W ρ H fr s.heap → VRs W as xs → o as H = some (v, H') → Zf2 Γ W ρ H' fr s Q v → wpAny (model prog w) Γ.A (m xs) Q E s
noncomputable def ZB (o : List V → Hp → Option (V × Hp)) (g : Exs) : Ex := fun ρ H => (g ρ H).bind fun p => o p.1 p.2
section
variable {prog : Program} {w : World} {Γ : Cx}
theorem Zau {x : Str} {np pos : Pos} {id : String} {e : Expr} {es : List Expr} {g : Exs} {o : List V → Hp → Option (V × Hp)} (hn : Nm prog w Γ x (.builtin id)) (h : Js prog w Γ (e :: es) g) (ho : OpN prog w (fun xs => call (.builtin id) xs) o)
  (he : starEach (e :: es) Γ.env = (false, eval e Γ.env) :: starEach es Γ.env := by rfl) (hp : ∀ pos, (backTo pos (starEach es Γ.env)).any (·.1) = false := by intro _; rfl) : J prog w Γ (.Call (.Name x np) (e :: es) [] pos) (ZB o g) := by
 intro W ρ H fr s Q E v H' r hf post
 obtain ⟨p, e1, hf⟩ := Zz0.mp hf
 refine wpAny_Call_ofName (hn.use r ?_)
 refine callWith_builtin1 (h pos W ρ H fr s _ E _ _ r e1 fun W1 k1 t1 xs l1 r1 x1 => ?_) he (hp pos)
 exact ho Γ W1 ρ _ fr _ Q E _ xs v H' r1 x1 hf fun W2 k2 t2 y l2 r2 y2 => post W2 k2 t2 y (l1.trans l2) r2 y2
theorem ZdL {x : Str} {np pos : Pos} {T : String} {e : Expr} {es : List Expr} {g : Exs} {o : List V → Hp → Option (V × Hp)} (hn : Nm prog w Γ x (.type T)) (h : Js prog w Γ (e :: es) g) (ho : OpN prog w (fun xs => call (.type T) xs) o)
  (he : starEach (e :: es) Γ.env = (false, eval e Γ.env) :: starEach es Γ.env := by rfl) (hp : ∀ pos, (backTo pos (starEach es Γ.env)).any (·.1) = false := by intro _; rfl) : J prog w Γ (.Call (.Name x np) (e :: es) [] pos) (ZB o g) := by
 intro W ρ H fr s Q E v H' r hf post
 obtain ⟨p, e1, hf⟩ := Zz0.mp hf
 refine wpAny_Call_ofName (hn.use r ?_)
 refine PySem.Pv.callWith_type1 (h pos W ρ H fr s _ E _ _ r e1 fun W1 k1 t1 xs l1 r1 x1 => ?_) he (hp pos)
 exact ho Γ W1 ρ _ fr _ Q E _ xs v H' r1 x1 hf fun W2 k2 t2 y l2 r2 y2 => post W2 k2 t2 y (l1.trans l2) r2 y2
end
noncomputable def Zld : V → String
 | .none => "NoneType"
 | .bool _ => "bool"
 | .int _ => "int"
 | .str _ => "str"
 | .tup _ => "tuple"
 | .ref _ => "list"
noncomputable def Zlt (T : String) (v : V) : Bool := Zld v == T || (T == "int" && Zld v == "bool")
noncomputable def eIs (T : String) (f : Ex) : Ex := fun ρ H => (f ρ H).map fun p => (.bool (Zlt T p.1), p.2)
section
variable {prog : Program} {w : World} {Γ : Cx}
theorem isinst {T : String} (hT : T = "int" ∨ T = "bool" ∨ T = "list" ∨ T = "tuple") {W : Wd} {ρ : Lc} {H : Hp} {fr : List (Addr × Obj)} {s : Shared} {Q E : Value → Shared → Prop} {a : V} {x : Value} (r : Rep Γ W ρ H fr s.heap) (hx : VR W a x) (hin : ∀ i, a = .ref i → i < H.length)
  (post : ∀ tk, Q (.bool (Zlt T a)) { s with toks := tk }) : wpAny (model prog w) Γ.A (call (.builtin "isinstance") [x, .type T]) Q E s := by
 cases hx with
 | none =>
      rcases hT with e | e | e | e <;> subst e
      ·exact call_isinstance (isinstance_false_none (by decide +kernel) F.isi_meta_int (by rw [isSubtype_type]; kernel_rfl)) (post _)
      ·exact call_isinstance (isinstance_false_none (by decide +kernel) F.isi_meta_bool (by rw [isSubtype_type]; kernel_rfl)) (post _)
      ·exact call_isinstance (isinstance_false_none (by decide +kernel) F.isi_meta_list (by rw [isSubtype_type]; kernel_rfl)) (post _)
      ·exact call_isinstance (isinstance_false_none (by decide +kernel) F.isi_meta_tuple (by rw [isSubtype_type]; kernel_rfl)) (post _)
 | bool b =>
       rcases hT with e | e | e | e <;> subst e
       ·exact IsiPair.bool_int (post s.toks)
       ·exact IsiPair.bool_bool (post s.toks)
       ·exact IsiPair.bool_list (post _)
       ·exact IsiPair.bool_tuple (post _)
 | int i t =>
       rcases hT with e | e | e | e <;> subst e
       ·exact IsiPair.int_int (post s.toks)
       ·exact IsiPair.int_bool (post _)
       ·exact IsiPair.int_list (post _)
       ·exact IsiPair.int_tuple (post _)
 | str y t =>
       rcases hT with e | e | e | e <;> subst e
       ·exact IsiPair.str_int (post _)
       ·exact IsiPair.str_bool (post _)
       ·exact IsiPair.str_list (post _)
       ·exact IsiPair.str_tuple (post _)
 | tup hm hl hs =>
  have hg := r.tupAt hm
  rcases hT with e | e | e | e <;> subst e
  ·exact IsiPair.tuple_int hg rfl (post _)
  ·exact IsiPair.tuple_bool hg rfl (post _)
  ·exact IsiPair.tuple_list hg rfl (post _)
  ·exact IsiPair.tuple_tuple hg rfl (post s.toks)
 | @ref i a ea =>
  obtain ⟨hl, xs, k, hg, hv⟩ := r.at (List.getElem?_eq_getElem (hin i rfl)) ea
  rcases hT with e | e | e | e <;> subst e
  ·exact IsiPair.list_int hg rfl (post _)
  ·exact IsiPair.list_bool hg rfl (post _)
  ·exact IsiPair.list_list hg rfl (post s.toks)
  ·exact IsiPair.list_tuple hg rfl (post _)
end
theorem Rep.refIn {Γ : Cx} {W : Wd} {ρ : Lc} {H : Hp} {fr : List (Addr × Obj)} {h : Heap} {i : Nat} {x : Value} (r : Rep Γ W ρ H fr h) (hx : VR W (.ref i) x) : i < H.length := by
 obtain ⟨m, c, led, r⟩ := r
 cases hx with
 | ref e => rw [← r.R.len]; exact (Zz6.mp e).1
section
variable {prog : Program} {w : World} {Γ : Cx}
theorem Zd4 {np tp pos : Pos} {x y : Str} {T : String} {e : Expr} {f : Ex} (hn : Nm prog w Γ x (.builtin "isinstance")) (hy : Nm prog w Γ y (.type T)) (hT : T = "int" ∨ T = "bool" ∨ T = "list" ∨ T = "tuple") (h : J prog w Γ e f)
  (he : starEach [e, .Name y tp] Γ.env = (false, eval e Γ.env) :: starEach [.Name y tp] Γ.env := by rfl) (hp : ∀ pos, (backTo pos (starEach [.Name y tp] Γ.env)).any (·.1) = false := by intro _; rfl) : J prog w Γ (.Call (.Name x np) [e, .Name y tp] [] pos) (eIs T f) := by
 intro W ρ H fr s Q E v H' r hf post
 obtain ⟨p, e1, e2⟩ := Zz1.mp hf
 cases e2
 refine wpAny_Call_ofName (hn.use r ?_)
 refine callWith_builtin1 (wpAny_items_cons (h W ρ H fr s _ E _ _ r e1 fun W1 k1 t1 z l1 r1 z1 => ?_) he) he (hp pos)
 refine wpAny_items_cons (hy.use (s := { s with heap := k1, toks := t1 }) r1 ?_)
 refine wpAny_items_nil ?_
 exact PM.isinst hT r1 z1 (fun i e => by rw [e] at z1; exact r1.refIn z1) fun tk => post W1 k1 tk _ l1 r1 (.bool _)
end
noncomputable def Zax : List V → Hp → Option (V × Hp)
 | [.ref a], H => H[a]?.map fun vs => (.int vs.length, H)
 | [.tup vs], H => some (.int vs.length, H)
 | _, _ => none
noncomputable def Zdi : List V → Hp → Option (V × Hp)
 | [.int a], H => some (.int (if a < 0 then -a else a), H)
 | _, _ => none
noncomputable def ZhK : List V → Hp → Option (V × Hp)
 | [.int a, .int b], H => some (.int (if b > a then b else a), H)
 | _, _ => none
noncomputable def Zdc : List V → Option (List Int)
 | [] => some []
 | .int k :: vs => (Zdc vs).map fun ks => k :: ks
 | _ :: _ => none
noncomputable def Zf3 : List V → Hp → Option (V × Hp)
 | [.ref a], H => H[a]?.bind fun vs => (Zdc vs).map fun ks => (.int ks.sum, H)
 | _, _ => none
theorem VRs.one {W : Wd} {v : V} {xs : List Value} (h : VRs W [v] xs) : ∃ x, xs = [x] ∧ VR W v x := by
 cases h with
 | cons a b => cases b; exact ⟨_, rfl, a⟩
theorem VRs.two {W : Wd} {v u : V} {xs : List Value} (h : VRs W [v, u] xs) : ∃ x y, xs = [x, y] ∧ VR W v x ∧ VR W u y := by
 cases h with
 | cons a b => obtain ⟨y, e, r⟩ := b.one; subst e; exact ⟨_, _, rfl, a, r⟩
theorem Zpm {W : Wd} : ∀ {vs : List V} {xs : List Value} {ks : List Int}, VRs W vs xs → Zdc vs = some ks → ∃ ts : Array (Int × Tok), xs.toArray = intItems ts ∧ preSum (numAt ts) ts.size = ks.sum := by
 have key : ∀ {vs : List V} {xs : List Value} {ks : List Int}, VRs W vs xs → Zdc vs = some ks → ∃ ts : List (Int × Tok), xs = ts.map (fun p => Value.int p.1 p.2) ∧ ts.map (·.1) = ks := by
  intro vs
  induction vs with
  | nil => intro xs ks h e; cases h; cases e; exact ⟨[], rfl, rfl⟩
  | cons v vs ih =>
   intro xs ks h e
   cases h with
   | cons a b =>
    cases v with
    | int i =>
     obtain ⟨js, e1, e2⟩ := Zz1.mp e
     subst e2
     cases a with
     | int _ t =>
      obtain ⟨ts, h1, h2⟩ := ih b e1
      exact ⟨(i, t) :: ts, by rw [h1]; rfl, by rw [List.map_cons, h2]⟩
    | none => cases e
    | bool _ => cases e
    | str _ => cases e
    | tup _ => cases e
    | ref _ => cases e
 intro vs xs ks h e
 obtain ⟨ts, h1, h2⟩ := key h e
 refine ⟨ts.toArray, by rw [h1]; simp [intItems], ?_⟩
 rw [preSum_eq, List.take_of_length_le (by simp), ← h2]
noncomputable def Zah : V → V → Hp → Option (V × Hp)
 | .int a, .int b, H => some (.int (a + b), H)
 | .ref a, .ref b, H => H[a]?.bind fun vs => H[b]?.bind fun us => if (vs ++ us).length ≤ LEN then some (.ref H.length, H ++ [vs ++ us]) else none
 | .tup vs, .tup us, H => if (vs ++ us).length ≤ LEN then some (.tup (vs ++ us), H) else none
 | _, _, _ => none
noncomputable def Zeo (vs : List V) : Nat → List V
 | 0 => []
 | n + 1 => Zeo vs n ++ vs
noncomputable def ZaJ : V → V → Hp → Option (V × Hp)
 | .int a, .int b, H => if mulOk a b = true then some (.int (a * b), H) else none
 | .ref a, .int k, H => H[a]?.bind fun vs => if vs.length * k.toNat ≤ LEN ∧ -(2 ^ 63 : Int) ≤ k ∧ k < 2 ^ 63 then some (.ref H.length, H ++ [Zeo vs k.toNat]) else none
 | _, _, _ => none
section
variable {prog : Program} {w : World}
theorem ZaM : OpN prog w (fun xs => call (.builtin "len") xs) Zax := by
 intro Γ W ρ H fr s Q E as xs v H' r hx ho post
 unfold Zax at ho
 split at ho
 ·rename_i a
  obtain ⟨vs, e1, e2⟩ := Zz1.mp ho
  cases e2
  obtain ⟨x, ex, rx⟩ := hx.one
  subst ex
  cases rx with
  | ref ea =>
   obtain ⟨hl, ys, k, hg, hv⟩ := r.at e1 ea
   have isl : s.heap.IsList _ ys.toArray := ⟨_, hg, rfl, k, rfl⟩
   have e3 : (ys.toArray.size : Int) = vs.length := by simp [hv.length]
   rw [Zbc] at hl
   refine Calls.call_len_list isl (by rw [e3]; omega) ?_
   rw [e3]
   exact post W s.heap _ _ (.refl W) r (.int _ _)
 ·rename_i vs
  cases ho
  obtain ⟨x, ex, rx⟩ := hx.one
  subst ex
  cases rx with
  | @tup _ a ys k hm hl hs =>
   have it : IsTup s.heap a ys.toArray := ⟨_, r.tupAt hm, rfl, k, rfl⟩
   have e3 : (ys.toArray.size : Int) = vs.length := by simp [hs.length]
   rw [Zbc] at hl
   refine len_tuple it (by rw [e3]; omega) ?_
   rw [e3]
   exact post W s.heap _ _ (.refl W) r (.int _ _)
 ·cases ho
theorem Zd7 : OpN prog w (fun xs => call (.builtin "abs") xs) Zdi := by
 intro Γ W ρ H fr s Q E as xs v H' r hx ho post
 unfold Zdi at ho
 split at ho
 ·cases ho
  obtain ⟨x, ex, rx⟩ := hx.one
  subst ex
  cases rx with
  | int i t => exact call_abs_int fun u tk => post W s.heap tk _ (.refl W) r (.int _ _)
 ·cases ho
theorem Zst : OpN prog w (fun xs => call (.builtin "max") xs) ZhK := by
 intro Γ W ρ H fr s Q E as xs v H' r hx ho post
 unfold ZhK at ho
 split at ho
 ·cases ho
  obtain ⟨x, y, ex, rx, ry⟩ := hx.two
  subst ex
  cases rx with
  | int i t =>
   cases ry with
   | int j u =>
    refine max_two_ints Γ.hh fun h' tk up => ?_
    split
    ·rename_i c
     rw [if_pos c] at post
     exact post W h' tk _ (.refl W) (r.grown up) (.int _ _)
    ·rename_i c
     rw [if_neg c] at post
     exact post W h' tk _ (.refl W) (r.grown up) (.int _ _)
 ·cases ho
theorem Ztt : OpN prog w (fun xs => call (.builtin "sum") xs) Zf3 := by
 intro Γ W ρ H fr s Q E as xs v H' r hx ho post
 unfold Zf3 at ho
 split at ho
 ·obtain ⟨vs, e1, e2⟩ := Zz0.mp ho
  obtain ⟨ks, e3, e4⟩ := Zz1.mp e2
  cases e4
  obtain ⟨x, ex, rx⟩ := hx.one
  subst ex
  cases rx with
  | ref ea =>
   obtain ⟨hl, ys, k, hg, hv⟩ := r.at e1 ea
   obtain ⟨ts, h1, h2⟩ := Zpm hv e3
   have isl : s.heap.IsList _ (intItems ts) := ⟨_, hg, rfl, k, by rw [← h1]⟩
   refine sum_intListG Γ.hh isl fun h' tk t' up => ?_
   rw [h2]
   exact post W h' tk _ (.refl W) (r.grown up) (.int _ _)
 ·cases ho
theorem Zak : Op2 prog w (binaryOp .Add) Zah := by
 intro Γ W ρ H fr s Q E a b x y v H' r hx hy ho post
 unfold Zah at ho
 split at ho
 ·cases ho
  cases hx; cases hy
  exact PySem.P.add_int (post W s.heap _ _ (.refl W) r (.int _ _))
 ·obtain ⟨vs, e1, ho⟩ := Zz0.mp ho
  obtain ⟨us, e2, ho⟩ := Zz0.mp ho
  by_cases hl : (vs ++ us).length ≤ LEN
  ·rw [if_pos hl] at ho
   cases ho
   cases hx with
   | ref ea =>
   cases hy with
   | ref eb =>
   obtain ⟨l1, ys, k, hg, hv⟩ := r.at e1 ea
   obtain ⟨l2, zs, k2, hg2, hv2⟩ := r.at e2 eb
   obtain ⟨m, c, led, r'⟩ := r
   have i1 : s.heap.IsList _ ys.toArray := ⟨_, hg, rfl, k, rfl⟩
   have i2 : s.heap.IsList _ zs.toArray := ⟨_, hg2, rfl, k2, rfl⟩
   refine add_lists (hsz := Zc6 (by rw [hv.length, hv2.length, ← List.length_append]; exact hl)) r'.F r'.N i1 i2 fun h' F' N' => ?_
   obtain ⟨W2, le2, r2, v2⟩ := r'.newList F' N' r'.off (hv.append hv2) hl
   exact post W2 h' s.toks _ le2 r2 v2
  ·rw [if_neg hl] at ho
   cases ho
 ·rename_i vs us
  by_cases hl : (vs ++ us).length ≤ LEN
  ·rw [if_pos hl] at ho
   cases ho
   cases hx with
   | @tup _ a ys k hm h1 hv =>
   cases hy with
   | @tup _ b zs k2 hm2 h2 hv2 =>
   have t1 : IsTup s.heap a ys.toArray := ⟨_, r.tupAt hm, rfl, k, rfl⟩
   have t2 : IsTup s.heap b zs.toArray := ⟨_, r.tupAt hm2, rfl, k2, rfl⟩
   have r0 := r
   obtain ⟨m, c, led, r'⟩ := r
   refine add_tuples (hsz := Zc6 (by rw [hv.length, hv2.length, ← List.length_append]; exact hl)) r'.F r'.N t1 t2 (fun e => ?_) (fun _ e => ?_) fun _ _ h' F' N' => ?_
   ·have : vs = [] := List.length_eq_zero_iff.mp (by rw [← hv.length, e]; rfl)
    subst this
    exact post W s.heap s.toks _ (.refl W) r0 (.tup hm2 h2 hv2)
   ·have : us = [] := List.length_eq_zero_iff.mp (by rw [← hv2.length, e]; rfl)
    subst this
    rw [List.append_nil] at post
    exact post W s.heap s.toks _ (.refl W) r0 (.tup hm h1 hv)
   ·obtain ⟨W2, le2, r2, v2⟩ := r'.newTup F' N' r'.off (hv.append hv2) hl
    exact post W2 h' s.toks _ le2 r2 v2
  ·rw [if_neg hl] at ho
   cases ho
 ·cases ho
theorem Zm0 (vs : List V) : ∀ n, (Zeo vs n).length = vs.length * n
 | 0 => rfl
 | n + 1 => by rw [Zeo, List.length_append, Zm0 vs n, Nat.mul_succ]
theorem ZqV (xs : List Value) (n : Nat) : ∀ acc : Array Value, (List.foldl (fun x1 x2 => x1 ++ x2) acc (List.replicate n xs.toArray)) = acc ++ (List.replicate n xs).flatten.toArray := by
 induction n with
 | zero => intro acc; simp
 | succ n ih =>
  intro acc
  rw [List.replicate_succ, List.foldl_cons, ih, List.replicate_succ, List.flatten_cons]
  simp [Array.append_assoc]
theorem Znt {W : Wd} {vs : List V} {xs : List Value} (h : VRs W vs xs) : ∀ n, VRs W (Zeo vs n) (List.replicate n xs).flatten
 | 0 => .nil
 | n + 1 => by
  rw [Zeo, List.replicate_succ', List.flatten_append]
  simp only [List.flatten_cons, List.flatten_nil, List.append_nil]
  exact (Znt h n).append h
theorem ZaQ : Op2 prog w (binaryOp .Mult) ZaJ := by
 intro Γ W ρ H fr s Q E a b x y v H' r hx hy ho post
 unfold ZaJ at ho
 split at ho
 ·rename_i i j
  by_cases hm : mulOk i j = true
  ·rw [if_pos hm] at ho
   cases ho
   cases hx; cases hy
   exact PySem.P.mul_int (post W s.heap _ _ (.refl W) r (.int _ _)) (ZrE hm)
  ·rw [if_neg hm] at ho
   cases ho
 ·rename_i i k
  obtain ⟨vs, e1, ho⟩ := Zz0.mp ho
  by_cases hc : vs.length * k.toNat ≤ LEN ∧ -(2 ^ 63 : Int) ≤ k ∧ k < 2 ^ 63
  ·rw [if_pos hc] at ho
   cases ho
   cases hx with
   | ref ea =>
   cases hy with
   | int _ u =>
   obtain ⟨l1, ys, kk, hg, hv⟩ := r.at e1 ea
   obtain ⟨m, c, led, r'⟩ := r
   have hl := hc.1
   rw [Zbc] at hl
   refine mul_list r'.F r'.N hg hc.2.1 hc.2.2 (by rw [List.size_toArray, hv.length]; omega) fun h' F' N' => ?_
   have e2 : (List.foldl (fun x1 x2 => x1 ++ x2) #[] (List.replicate (if ys.toArray.isEmpty = true then 0 else k.toNat) ys.toArray)) = (List.replicate k.toNat ys).flatten.toArray := by
    cases ys with
    | nil =>
     simp
    | cons y0 ys0 =>
     have : ((y0 :: ys0).toArray.isEmpty = true) = False := by simp
     simp only [this, if_false]
     rw [ZqV]
     simp
   rw [e2] at N'
   obtain ⟨W2, le2, r2, v2⟩ := r'.newList F' N' r'.off (Znt hv k.toNat) (by rw [Zm0]; exact hc.1)
   exact post W2 h' s.toks _ le2 r2 v2
  ·rw [if_neg hc] at ho
   cases ho
 ·cases ho
end
end PM
end
section
set_option maxRecDepth 100000
set_option linter.all false
set_option autoImplicit false
namespace PM
open PySem PyProof.Rows PyProof
noncomputable def upd (ρ : Lc) (i : Nat) (v : V) : Lc := fun j => if j = i then some v else ρ j
noncomputable abbrev Sm := Lc → Hp → Option (Option V × Lc × Hp)
noncomputable def Z2 : Sm := fun ρ H => some (none, ρ, H)
noncomputable def Zu (a b : Sm) : Sm := fun ρ H => (a ρ H).bind fun p => match p.1 with
 | some _ => some p
 | none => b p.2.1 p.2.2
noncomputable def ZH (f : Ex) : Sm := fun ρ H => (f ρ H).map fun p => (some p.1, ρ, p.2)
noncomputable def ZK (i : Nat) (f : Ex) : Sm := fun ρ H => (f ρ H).map fun p => (none, upd ρ i p.1, p.2)
noncomputable def ZV (t : Ts) (a b : Sm) : Sm := fun ρ H => (t ρ H).bind fun p => if p.1 then a ρ p.2 else b ρ p.2
noncomputable def Zcs (f : Ex) : Sm := fun ρ H => (f ρ H).map fun p => (none, ρ, p.2)
noncomputable def ZlS : V → V → V → Hp → Option Hp
 | .ref a, .int k, v, H => H[a]?.bind fun vs => if a ≠ 0 ∧ 0 ≤ k ∧ k < vs.length then some (H.set a (vs.set k.toNat v)) else none
 | _, _, _, _ => none
noncomputable def ZbX (f o i : Ex) : Sm := fun ρ H => (f ρ H).bind fun p => (o ρ p.2).bind fun q => (i ρ q.2).bind fun u => (ZlS q.1 u.1 p.1 u.2).map fun K => (none, ρ, K)
noncomputable def ZcK (t : Ts) (b : Sm) : Nat → Sm
 | 0 => fun _ _ => none
 | n + 1 => fun ρ H => (t ρ H).bind fun p => if p.1 then (b ρ p.2).bind fun q => (match q.1 with
   | some _ => some q
   | none => ZcK t b n q.2.1 q.2.2) else some (none, ρ, p.2)
noncomputable def PostS (Γ : Cx) (W : Wd) (fr : List (Addr × Obj)) (s : Shared) (Q : Flow → Shared → Prop) : Option V × Lc × Hp → Prop
 | (none, ρ', H') => ∀ (W' : Wd) (h' : Heap) (tk' : Nat), W.Le W' → Rep Γ W' ρ' H' fr h' → Q .next { s with heap := h', toks := tk' }
 | (some v, ρ', H') => ∀ (W' : Wd) (h' : Heap) (tk' : Nat) (x : Value), W.Le W' → Rep Γ W' ρ' H' fr h' → VR W' v x → Q (.ret x) { s with heap := h', toks := tk' }
theorem PostS.le {Γ : Cx} {W W' : Wd} {fr : List (Addr × Obj)} {s : Shared} {h : Heap} {tk : Nat} {Q : Flow → Shared → Prop} {r : Option V × Lc × Hp} (l : W.Le W') (p : PostS Γ W fr s Q r) : PostS Γ W' fr { s with heap := h, toks := tk } Q r := by
 obtain ⟨o, ρ', H'⟩ := r
 cases o with
 | none => exact fun W2 h2 t2 l2 r2 => p W2 h2 t2 (l.trans l2) r2
 | some v => exact fun W2 h2 t2 x l2 r2 x2 => p W2 h2 t2 x (l.trans l2) r2 x2
section
variable (prog : Program) (w : World)
noncomputable def S1 (Γ : Cx) (st : Stmt) (g : Sm) : Prop := ∀ (W : Wd) (ρ : Lc) (H : Hp) (fr : List (Addr × Obj)) (s : Shared) (Q : Flow → Shared → Prop) (E : Value → Shared → Prop) (r : Option V × Lc × Hp),
 Rep Γ W ρ H fr s.heap → g ρ H = some r → PostS Γ W fr s Q r → wpAny (model prog w) Γ.A (exec st Γ.env) Q E s
noncomputable def Ss (Γ : Cx) (ss : List Stmt) (g : Sm) : Prop := ∀ (W : Wd) (ρ : Lc) (H : Hp) (fr : List (Addr × Obj)) (s : Shared) (Q : Flow → Shared → Prop) (E : Value → Shared → Prop) (r : Option V × Lc × Hp),
 Rep Γ W ρ H fr s.heap → g ρ H = some r → PostS Γ W fr s Q r → wpAny (model prog w) Γ.A (execs ss Γ.env) Q E s
noncomputable def Sto (Γ : Cx) (x : Str) (i : Nat) : Prop := ∀ (W : Wd) (ρ : Lc) (H : Hp) (fr : List (Addr × Obj)) (s : Shared) (Q : Unit → Shared → Prop) (E : Value → Shared → Prop) (v : V) (y : Value),
 Rep Γ W ρ H fr s.heap → VR W v y → (∀ (h' : Heap) (tk' : Nat), Rep Γ W (upd ρ i v) H fr h' → Q () { s with heap := h', toks := tk' }) → wpAny (model prog w) Γ.A (storeName Γ.env x y) Q E s
noncomputable def Rd (Γ : Cx) (x : Str) (i : Nat) : Prop := ∀ (W : Wd) (ρ : Lc) (H : Hp) (fr : List (Addr × Obj)) (s : Shared) (Q E : Value → Shared → Prop) (v : V) (pos : Pos),
 Rep Γ W ρ H fr s.heap → ρ i = some v → (∀ y, VR W v y → Q y s) → wpAny (model prog w) Γ.A (eval (.Name x pos) Γ.env) Q E s
end
section
variable {prog : Program} {w : World} {Γ : Cx}
theorem ZhL {x : Str} {i : Nat} {pos : Pos} (h : Rd prog w Γ x i) : J prog w Γ (.Name x pos) (Zb i) := by
 intro W ρ H fr s Q E v H' r hf post
 obtain ⟨u, e1, e2⟩ := Zz1.mp hf
 cases e2
 exact h W ρ H fr s Q E v pos r e1 fun y hy => post W s.heap s.toks y (.refl W) r hy
theorem Zab : Ss prog w Γ [] Z2 := fun W ρ H fr s Q E r rp hf post => by
 cases hf
 exact wpAny_execs_nil (post W s.heap s.toks (.refl W) rp)
theorem Zz {st : Stmt} {ss : List Stmt} {a b : Sm} (h1 : S1 prog w Γ st a) (h2 : Ss prog w Γ ss b) : Ss prog w Γ (st :: ss) (Zu a b) := by
 intro W ρ H fr s Q E r rp hf post
 obtain ⟨p, e1, hf⟩ := Zz0.mp hf
 refine wpAny_execs_cons (h1 W ρ H fr s _ E p rp e1 ?_)
 obtain ⟨o, ρ1, H1⟩ := p
 cases o with
 | some v =>
  cases hf
  exact fun W1 k1 t1 x l1 r1 x1 => post W1 k1 t1 x l1 r1 x1
 | none => exact fun W1 k1 t1 l1 r1 => h2 W1 ρ1 H1 fr _ Q E r r1 hf (post.le l1)
theorem ZD {st : Stmt} {a : Sm} (h1 : S1 prog w Γ st a) : Ss prog w Γ [st] a := by
 intro W ρ H fr s Q E r rp hf post
 refine wpAny_execs_cons (h1 W ρ H fr s _ E r rp hf ?_)
 obtain ⟨o, ρ1, H1⟩ := r
 cases o with
 | some v => exact fun W1 k1 t1 x l1 r1 x1 => post W1 k1 t1 x l1 r1 x1
 | none => exact fun W1 k1 t1 l1 r1 => wpAny_execs_nil (post W1 k1 t1 l1 r1)
theorem ZM {e : Expr} {pos : Pos} {f : Ex} (h : J prog w Γ e f) : S1 prog w Γ (.Return (some e) pos) (ZH f) := by
 intro W ρ H fr s Q E r rp hf post
 obtain ⟨p, e1, e2⟩ := Zz1.mp hf
 cases e2
 exact wpAny_Return_some (h W ρ H fr s _ E _ _ rp e1 post)
theorem Z7 {t : Expr} {a b : List Stmt} {pos : Pos} {u : Ts} {f g : Sm} (ht : JT prog w Γ t u) (h1 : Ss prog w Γ a f) (h2 : Ss prog w Γ b g) : S1 prog w Γ (.If t a b pos) (ZV u f g) := by
 intro W ρ H fr s Q E r rp hf post
 obtain ⟨p, e1, hf⟩ := Zz0.mp hf
 refine wpAny_If (ht W ρ H fr s _ E _ _ rp e1 fun W1 k1 t1 l1 r1 => ?_)
 obtain ⟨c, H1⟩ := p
 cases c with
 | true => exact h1 W1 ρ H1 fr _ Q E r r1 hf (post.le l1)
 | false => exact h2 W1 ρ H1 fr _ Q E r r1 hf (post.le l1)
theorem Zd8 {e : Expr} {pos : Pos} {f : Ex} (h : J prog w Γ e f) (hi : interactive Γ.env = false := by rfl) (hs : swapsWith e none pos.line Γ.env = pure false := by rfl) : S1 prog w Γ (.Expr e pos) (Zcs f) := by
 intro W ρ H fr s Q E r rp hf post
 obtain ⟨p, e1, e2⟩ := Zz1.mp hf
 cases e2
 exact wpAny_Expr_any (h W ρ H fr s _ E _ _ rp e1 fun W1 k1 t1 x l1 r1 x1 => post W1 k1 t1 l1 r1) hi hs
theorem ZO {x : Str} {i : Nat} {e : Expr} {pos' pos : Pos} {f : Ex} (hx : Sto prog w Γ x i) (h : J prog w Γ e f) (hs : swapsWith e (some (.Name x pos')) pos.line Γ.env = pure false := by rfl) : S1 prog w Γ (.Assign [.Name x pos'] e pos) (ZK i f) := by
 intro W ρ H fr s Q E r rp hf post
 obtain ⟨p, e1, e2⟩ := Zz1.mp hf
 cases e2
 refine wpAny_Assign_Name (h W ρ H fr s _ E _ _ rp e1 fun W1 k1 t1 y l1 r1 y1 => ?_) hs
 exact hx W1 ρ _ fr _ _ E _ y r1 y1 fun h' tk' r2 => post W1 h' tk' l1 r2
theorem Zfw {t : Expr} {a : List Stmt} {pos : Pos} {u : Ts} {f : Sm} (n : Nat) (ht : JT prog w Γ t u) (h1 : Ss prog w Γ a f) : S1 prog w Γ (.While t a [] pos) (ZcK u f n) := by
 intro W ρ H fr s Q E r rp hf post
 refine wpAny_While ?_
 refine codeAny_whileLoop (fun k s' => ∃ W' ρ' H' h' tk', s' = { s with heap := h', toks := tk' } ∧ W.Le W' ∧ Rep Γ W' ρ' H' fr h' ∧ ZcK u f k ρ' H' = some r) ?_ n ⟨W, ρ, H, s.heap, s.toks, rfl, .refl W, rp, hf⟩
 rintro k s' ⟨W1, ρ1, H1, k1, t1, rfl, l1, r1, e⟩
 cases k with
 | zero => cases e
 | succ k =>
  obtain ⟨p, e1, e⟩ := Zz0.mp e
  refine ht W1 ρ1 H1 fr _ _ _ _ _ r1 e1 fun W2 k2 t2 l2 r2 => ?_
  obtain ⟨c, H2⟩ := p
  cases c with
  | false =>
   cases e
   exact wpAny_execs_nil (post W2 k2 t2 (l1.trans l2) r2)
  | true =>
   obtain ⟨q, e2, e⟩ := Zz0.mp e
   refine h1 W2 ρ1 H2 fr _ _ _ q r2 e2 ?_
   obtain ⟨o, ρ3, H3⟩ := q
   cases o with
   | some v =>
    cases e
    exact fun W3 k3 t3 x l3 r3 x3 => post W3 k3 t3 x ((l1.trans l2).trans l3) r3 x3
   | none => exact fun W3 k3 t3 l3 r3 => ⟨k, Nat.lt_succ_self k, W3, ρ3, H3, k3, t3, rfl, (l1.trans l2).trans l3, r3, e⟩
end
noncomputable def ZfC : List V → Hp → Option (V × Hp)
 | [.ref a, v], H => H[a]?.bind fun vs => if a ≠ 0 ∧ vs.length < LEN then some (.none, H.set a (vs ++ [v])) else none
 | _, _ => none
section
variable {prog : Program} {w : World} {Γ : Cx}
theorem ZqW : OpN prog w (fun xs => call (.builtin "list.append") xs) ZfC := by
 intro Γ W ρ H fr s Q E as xs v H' r hx ho post
 unfold ZfC at ho
 split at ho
 ·obtain ⟨vs, e1, e2⟩ := Zz0.mp ho
  obtain ⟨x, y, ex, rx, ry⟩ := hx.two
  subst ex
  split at e2
  ·rename_i hl
   cases e2
   cases rx with
   | @ref _ a0 ea =>
    obtain ⟨_, ys, k, hg, hv⟩ := r.at e1 ea
    refine append_at (hsz := Zc6 (by rw [List.size_toArray, hv.length]; omega)) hg fun h' sb hg' => ?_
    have hg2 : h'.get? a0 = some (ZbM (ys ++ [y]) (k + 1)) := by rw [hg']; simp
    exact post W h' s.toks _ (.refl W) (r.change hl.1 e1 ea sb hg2 (hv.snoc ry) (by simp; omega)) .none
  ·cases e2
 ·cases ho
end
end PM
end
section
set_option maxRecDepth 100000
set_option linter.all false
set_option autoImplicit false
namespace PM
open PySem PySem.W PyProof.Rows PyProof
theorem Znu : ∀ {l : List Value} {k : Nat} {v : Value}, k < l.length → ki_setL l k v = some (l.set k v)
 | [], _, _, h => by simp at h
 | x :: r, 0, v, _ => by simp [ki_setL]
 | x :: r, k + 1, v, h => by
  have := Znu (l := r) (k := k) (v := v) (by simpa using h)
  simp [ki_setL, this]
theorem ZqX {a k v : V} {H K : Hp} (h : ZlS a k v H = some K) : ∃ i j vs, a = .ref i ∧ k = .int j ∧ H[i]? = some vs ∧ (i ≠ 0 ∧ 0 ≤ j ∧ j < vs.length) ∧ K = H.set i (vs.set j.toNat v) := by
 cases a <;> first | (cases h; done) | skip
 cases k <;> first | (cases h; done) | skip
 obtain ⟨vs, e1, e2⟩ := Zz0.mp h
 split at e2
 ·rename_i c
  cases e2
  exact ⟨_, _, vs, rfl, rfl, e1, c, rfl⟩
 ·cases e2
theorem Zpn {a v x : V} {H K : Hp} (h : ZfC [a, v] H = some (x, K)) : ∃ i, a = .ref i := by
 cases a <;> first | (cases h; done) | skip
 exact ⟨_, rfl⟩
noncomputable def Zdq (o f : Ex) : Ex := fun ρ H => (o ρ H).bind fun p => (f ρ p.2).bind fun q => ZfC [p.1, q.1] q.2
section
variable {prog : Program} {w : World} {Γ : Cx}
theorem S1.put {o i value : Expr} {pos' pos : Pos} {f g k : Ex} (hf : J prog w Γ value f) (ho : J prog w Γ o g) (hi : J prog w Γ i k) (hs : swapsWith value (some (.Subscript o i pos')) pos.line Γ.env = pure false := by rfl) : S1 prog w Γ (.Assign [.Subscript o i pos'] value pos) (ZbX f g k) := by
 intro W ρ H fr s Q E r rp hx post
 obtain ⟨p, e1, hx⟩ := Zz0.mp hx
 obtain ⟨q, e2, hx⟩ := Zz0.mp hx
 obtain ⟨u, e3, hx⟩ := Zz0.mp hx
 obtain ⟨K, e4, e5⟩ := Zz1.mp hx
 cases e5
 refine wpAny_Assign_Subscript (hf W ρ H fr s _ E _ _ rp e1 fun W1 k1 t1 x l1 r1 x1 => ?_) hs
 refine ho W1 ρ _ fr _ _ E _ _ r1 e2 fun W2 k2 t2 y l2 r2 y2 => ?_
 refine hi W2 ρ _ fr _ _ E _ _ r2 e3 fun W3 k3 t3 z l3 r3 z3 => ?_
 have x3 := x1.mono (l2.trans l3)
 have y3 := y2.mono l3
 obtain ⟨b, kk, vs, eb, ek, hvs, hc, e6⟩ := ZqX e4
 subst e6
 rw [eb] at y3
 rw [ek] at z3
 cases y3 with
 | @ref _ a ea =>
 cases z3 with
 | int _ tz =>
 obtain ⟨hl, xs, n, hg, hv⟩ := r3.at hvs ea
 obtain ⟨m, c, led, r'⟩ := r3
 have hll := hl
 rw [Zbc] at hll
 have hk : kk.toNat < xs.length := by rw [hv.length]; omega
 obtain ⟨_, a', xs', n', h1, h2, h3⟩ := r'.R.lists b vs hvs
 rw [ea] at h1
 cases h1
 have h2 := r'.inLed hc.1 ea h2
 have N2 : News Γ.h₀ Γ.L k3 ((a, ZbM xs n) :: led.filter (fun q => decide (q.1 ≠ a))) := by
  intro q hq
  rcases List.mem_cons.mp hq with e | hq
  ·subst e
   exact ⟨hg, (r'.N _ h2).2⟩
  ·exact r'.N q (List.mem_filter.mp hq).1
 refine ki_set (its := xs.toArray) (n := n) (q := xs.set kk.toNat x) r'.F N2 hc.2.1 (by omega) (by simpa using Znu hk) (Upd.head fun q hq => by simpa using (List.mem_filter.mp hq).2) fun h' F' N' => ?_
 exact post W3 h' t3 ((l1.trans l2).trans l3) (r'.changed hc.1 hvs ea F' N' (hv.set _ x3) (by simpa using hl))
theorem J.append {o e : Expr} {apos pos : Pos} {f g : Ex} (ho : J prog w Γ o f) (he : J prog w Γ e g) (hbase : attributeBase o "append" Γ.env (eval o Γ.env) = eval o Γ.env := by rfl)
  (hfew : ((backTo pos (starEach [e] Γ.env)).all (fun x => !x.1) && (backToKw pos (keywordEach [] Γ.env)).all (fun x => x.1.isSome) && decide (([e] : List Expr).length + ([] : List Keyword).length + (if ([] : List Keyword).isEmpty then 0 else 1) < 30)) = true := by rfl)
  (hline : (apos.endLine == pos.line) = true := by rfl) (htrees : backTo pos (starEach [e] Γ.env) = [(false, eval e Γ.env)] := by rfl) : J prog w Γ (.Call (.Attribute o "append" apos) [e] [] pos) (Zdq f g) := by
 intro W ρ H fr s Q E v H' r hx post
 obtain ⟨p, e1, hx⟩ := Zz0.mp hx
 obtain ⟨q, e2, e3⟩ := Zz0.mp hx
 refine wpAny_Call_append hbase hfew hline htrees (ho W ρ H fr s _ E _ _ r e1 fun W1 k1 t1 x l1 r1 x1 => ?_)
 obtain ⟨v1, H1⟩ := p
 obtain ⟨b, hb⟩ := Zpn e3
 subst hb
 have hb := r1.refIn x1
 cases x1 with
 | @ref _ a ea =>
 obtain ⟨_, xs, n, hg, hv⟩ := r1.at (List.getElem?_eq_getElem hb) ea
 refine ⟨a, xs.toArray, rfl, ⟨_, n, hg, rfl, rfl, rfl⟩, ?_⟩
 refine he W1 ρ _ fr _ _ E _ _ r1 e2 fun W2 k2 t2 y l2 r2 y2 => ?_
 exact ZqW Γ W2 ρ _ fr _ Q E _ [.ref a, y] v H' r2 (.cons (.ref (l2.at ea)) (.cons y2 .nil)) e3 fun W3 k3 t3 z l3 r3 z3 => post W3 k3 t3 z ((l1.trans l2).trans l3) r3 z3
end
end PM
end
section
set_option maxRecDepth 100000
set_option linter.all false
set_option autoImplicit false
namespace PM
open PySem PySem.W PyProof.Rows PyProof
noncomputable abbrev Nx := Nat → Hp → Option (Option V)
noncomputable def Zul (Γ : Cx) (W : Wd) (ρ : Lc) (H : Hp) (fr : List (Addr × Obj)) (s : Shared) (It : Nat → List (Addr × Obj) → Prop) (i : Nat) (Q : Option Value → Shared → Prop) : Option V → Prop
 | none => ∀ (h' : Heap) (tk' : Nat), Rep Γ W ρ H fr h' → Q none { s with heap := h', toks := tk' }
 | some v => ∀ (fs' : List (Addr × Obj)) (h' : Heap) (tk' : Nat) (x : Value), It (i + 1) fs' → Rep Γ W ρ H (fs' ++ fr) h' → VR W v x → Q (some x) { s with heap := h', toks := tk' }
structure Itr (prog : Program) (w : World) (Γ : Cx) (W0 : Wd) (it : Value) (as : List Addr) (It : Nat → List (Addr × Obj) → Prop) (nx : Nx) : Prop where
 adr : ∀ i fs, It i fs → fs.map (·.1) = as
 next : ∀ (i : Nat) (W : Wd) (ρ : Lc) (H : Hp) (fr fs : List (Addr × Obj)) (s : Shared) (Q : Option Value → Shared → Prop) (E : Value → Shared → Prop) (o : Option V), W0.Le W → Rep Γ W ρ H (fs ++ fr) s.heap → (∀ a ∈ as, ∀ t ∈ fr, a ≠ t.1) → It i fs → nx i H = some o →
  Zul Γ W ρ H fr s It i Q o → wpAny (model prog w) Γ.A (pyNext it) Q E s
 self : ∀ (i : Nat) (W : Wd) (ρ : Lc) (H : Hp) (fr fs : List (Addr × Obj)) (s : Shared) (Q E : Value → Shared → Prop), W0.Le W → Rep Γ W ρ H (fs ++ fr) s.heap → It i fs → Q it s → wpAny (model prog w) Γ.A (pyIter it) Q E s
noncomputable abbrev Src := Lc → Hp → Option (Nx × Nat × Hp)
noncomputable def JI (prog : Program) (w : World) (Γ : Cx) (e : Expr) (g : Src) : Prop := ∀ (W : Wd) (ρ : Lc) (H : Hp) (fr : List (Addr × Obj)) (s : Shared) (Q E : Value → Shared → Prop) (nx : Nx) (n : Nat) (H' : Hp),
 Rep Γ W ρ H fr s.heap → g ρ H = some (nx, n, H') →
 (∀ (W' : Wd) (h' : Heap) (tk' : Nat) (it : Value) (as : List Addr) (It : Nat → List (Addr × Obj) → Prop) (fs : List (Addr × Obj)), W.Le W' → It 0 fs → Rep Γ W' ρ H' (fs ++ fr) h' → (∀ a ∈ as, ∀ t ∈ fr, a ≠ t.1) → Itr prog w Γ W' it as It nx → Q it { s with heap := h', toks := tk' }) →
 wpAny (model prog w) Γ.A (eval e Γ.env) (fun xv s₁ => wpAny (model prog w) Γ.A (pyIter xv) Q E s₁) E s
noncomputable def Zlu (a : Nat) : Nx := fun i H => H[a]?.map fun vs => vs[i]?
noncomputable def Zn4 (vs : List V) : Nx := fun i _ => some vs[i]?
noncomputable def ZeP (a c : Int) (n : Nat) : Nx := fun i _ => some (if i < n then some (.int (a + i * c)) else none)
noncomputable def Zbj (f : Ex) : Src := fun ρ H => (f ρ H).bind fun p => match p.1 with
 | .ref a => p.2[a]?.map fun vs => (Zlu a, vs.length + 1, p.2)
 | .tup vs => some (Zn4 vs, vs.length + 1, p.2)
 | _ => none
noncomputable def rngN (a b c : Int) : Nat := (Builtin.Range.rangeSize a b c).toNat
noncomputable def Zcf (a b c : Int) (H : Hp) : Option (Nx × Nat × Hp) := if c ≠ 0 ∧ Builtin.Range.small a b c = true ∧ 0 ≤ Builtin.Range.rangeSize a b c ∧ rngN a b c ≤ LEN ∧ Builtin.divisionGoesByPylong (b - a) c = false then some (ZeP a c (rngN a b c), rngN a b c + 1, H) else none
noncomputable def ZaR (g : Exs) : Src := fun ρ H => (g ρ H).bind fun p => match p.1 with
 | [.int b] => Zcf 0 b 1 p.2
 | [.int a, .int b] => Zcf a b 1 p.2
 | [.int a, .int b, .int c] => Zcf a b c p.2
 | _ => none
section
variable {prog : Program} {w : World} {Γ : Cx}
theorem Zlv {W0 : Wd} {I : Addr} {nx : Nx} (P : Nat → Obj → Prop)
  (next : ∀ (i : Nat) (W : Wd) (ρ : Lc) (H : Hp) (fr : List (Addr × Obj)) (ob : Obj) (s : Shared) (Q : Option Value → Shared → Prop) (E : Value → Shared → Prop) (o : Option V), W0.Le W → Rep Γ W ρ H ((I, ob) :: fr) s.heap → P i ob → nx i H = some o →
   (match o with
    | none => ∀ (h' : Heap) (tk' : Nat), (∀ b o, b ≠ I → s.heap.get? b = some o → h'.get? b = some o) → Q none { s with heap := h', toks := tk' }
    | some v => ∀ (ob' : Obj) (h' : Heap) (tk' : Nat) (x : Value), P (i + 1) ob' → h'.get? I = some ob' → (∀ b o, b ≠ I → s.heap.get? b = some o → h'.get? b = some o) → VR W v x → Q (some x) { s with heap := h', toks := tk' }) → wpAny (model prog w) Γ.A (pyNext (.ref I)) Q E s)
  (self : ∀ (i : Nat) (W : Wd) (ρ : Lc) (H : Hp) (fr : List (Addr × Obj)) (ob : Obj) (s : Shared) (Q E : Value → Shared → Prop), W0.Le W → Rep Γ W ρ H ((I, ob) :: fr) s.heap → P i ob → Q (.ref I) s → wpAny (model prog w) Γ.A (pyIter (.ref I)) Q E s) :
  Itr prog w Γ W0 (.ref I) [I] (fun i fs => ∃ ob, fs = [(I, ob)] ∧ P i ob) nx := by
 refine ⟨?_, ?_, ?_⟩
 ·rintro i fs ⟨ob, e, _⟩
  rw [e]
  rfl
 ·rintro i W ρ H fr fs s Q E o le r ap ⟨ob, e, hp⟩ hn post
  subst e
  refine next i W ρ H fr ob s Q E o le r hp hn ?_
  have ap' : ∀ q ∈ [(I, ob)], ∀ t ∈ fr, q.1 ≠ t.1 := fun q hq t ht => by rw [List.mem_singleton.mp hq]; exact ap I Zz5 t ht
  cases o with
  | none =>
   intro h' tk' keep
   have := Rep.swap (fs := [(I, ob)]) (fs' := []) r ap' (fun b o hb e => keep b o (fun q => hb (by simp [q])) e) (fun q hq => nomatch hq)
   exact post h' tk' this
  | some v =>
   intro ob' h' tk' x hp' hg keep hx
   have := Rep.swap (fs := [(I, ob)]) (fs' := [(I, ob')]) r ap' (fun b o hb e => keep b o (fun q => hb (by simp [q])) e) (fun q hq => by rw [List.mem_singleton.mp hq]; exact ⟨hg, by simp⟩)
   exact post [(I, ob')] h' tk' x ⟨ob', rfl, hp'⟩ this hx
 ·rintro i W ρ H fr fs s Q E le r ⟨ob, e, hp⟩ q
  subst e
  exact self i W ρ H fr ob s Q E le r hp q
theorem JI.seq {e : Expr} {f : Ex} (h : J prog w Γ e f) : JI prog w Γ e (Zbj f) := by
 intro W ρ H fr s Q E nx n H' r hf post
 obtain ⟨p, e1, hf⟩ := Zz0.mp hf
 refine h W ρ H fr s _ E _ _ r e1 fun W1 k1 t1 x l1 r1 x1 => ?_
 obtain ⟨v, H1⟩ := p
 cases x1 with
 | none => cases hf
 | bool _ => cases hf
 | int _ _ => cases hf
 | str _ _ => cases hf
 | @tup vs a xs k hm hl hs =>
  cases hf
  have it : k1.IsTuple a xs.toArray := ⟨_, r1.tupAt hm, rfl, k, rfl⟩
  refine wpAny_pyIter_tuple it ?_
  obtain ⟨r2, ap⟩ := r1.more (fs := [(k1.objs.size, { cls := .type "tuple_iterator", data := .fields #[.ref a, .int 0 0] })]) (fun b o e => Heap.get?_push_of_some { cls := .type "tuple_iterator", data := .fields #[.ref a, .int 0 0] } e) (fun q hq => by rw [List.mem_singleton.mp hq]; exact ⟨Heap.get?_push_size _ rfl, Nat.le_refl _⟩)
  refine post W1 _ t1 _ [k1.objs.size] _ _ l1 ⟨_, rfl, ?_⟩ r2 (fun b hb t ht => by rw [List.mem_singleton.mp hb]; exact ap _ Zz5 t ht)
   (Zlv (fun i ob => ob.cls = .type "tuple_iterator" ∧ ob.data = .fields #[.ref a, .int i 0]) ?_ ?_)
  ·intro i W ρ H fr ob s Q E o le r hp hn post
   have g1 : s.heap.IsTupleIter k1.objs.size a i := ⟨ob, r.frAt Zz5, hp.1, hp.2⟩
   have g2 : s.heap.IsTuple a xs.toArray := ⟨_, r.tupAt (le.tups _ hm), rfl, k, rfl⟩
   have ne : a ≠ k1.objs.size := Nat.ne_of_lt (Heap.lt_size (r1.tupAt hm))
   have Wk := Walks.tuple (prog := prog) (w := w) Γ.hh k1.objs.size a ne xs.toArray
   cases hn
   cases ev : vs[i]? with
   | none =>
    rw [ev] at post
    have hi : xs.toArray[i]? = none := by have := List.getElem?_eq_none_iff.mp ev; rw [← hs.length] at this; simpa using this
    exact wpAny_pyNext_tuple_end Γ.hh g1 g2 hi fun h' he' => post h' s.toks fun b o hb e => he' b o hb e
   | some v =>
    rw [ev] at post
    obtain ⟨y, hy, ry⟩ := hs.at ev
    refine wpAny_pyNext_tuple_item g1 g2 (x := y) (by simpa using hy) fun h' hit' hs' => ?_
    obtain ⟨ob', h1, h2, h3⟩ := hit'
    exact post ob' h' s.toks y ⟨h2, h3⟩ h1 (fun b o hb e => hs'.extBut b o hb e) (ry.mono le)
  ·intro i W ρ H fr ob s Q E le r hp q
   exact wpAny_pyIter_tupleiter (⟨ob, r.frAt Zz5, hp.1, hp.2⟩ : s.heap.IsTupleIter k1.objs.size a i) q
  ·exact ⟨rfl, rfl⟩
 | @ref i0 a ea =>
  obtain ⟨vs, e2, e3⟩ := Zz1.mp hf
  cases e3
  obtain ⟨hl, xs, k, hg, hv⟩ := r1.at e2 ea
  have isl : k1.IsList a xs.toArray := ⟨_, hg, rfl, k, rfl⟩
  refine wpAny_pyIter_list isl ?_
  obtain ⟨r2, ap⟩ := r1.more (fs := [(k1.objs.size, { cls := .type "list_iterator", data := .fields #[.ref a, .int 0 0] })]) (fun b o e => Heap.get?_push_of_some { cls := .type "list_iterator", data := .fields #[.ref a, .int 0 0] } e) (fun q hq => by rw [List.mem_singleton.mp hq]; exact ⟨Heap.get?_push_size _ rfl, Nat.le_refl _⟩)
  refine post W1 _ t1 _ [k1.objs.size] _ _ l1 ⟨_, rfl, ?_⟩ r2 (fun b hb t ht => by rw [List.mem_singleton.mp hb]; exact ap _ Zz5 t ht)
   (Zlv (fun i ob => ob.cls = .type "list_iterator" ∧ ob.data = .fields #[.ref a, .int i 0]) ?_ ?_)
  ·intro i W ρ H fr ob s Q E o le r hp hn post
   obtain ⟨us, eu, e4⟩ := Zz1.mp hn
   subst e4
   obtain ⟨hl2, ys, k2, hg2, hv2⟩ := r.at eu (le.at ea)
   have g1 : s.heap.IsListIter k1.objs.size a i := ⟨ob, r.frAt Zz5, hp.1, hp.2⟩
   have g2 : s.heap.IsList a ys.toArray := ⟨_, hg2, rfl, k2, rfl⟩
   cases ev : us[i]? with
   | none =>
    rw [ev] at post
    have hi : ys.toArray[i]? = none := by have := List.getElem?_eq_none_iff.mp ev; rw [← hv2.length] at this; simpa using this
    exact wpAny_pyNext_list_end Γ.hh g1 g2 hi fun h' he' => post h' s.toks fun b o hb e => he' b o hb e
   | some v =>
    rw [ev] at post
    obtain ⟨y, hy, ry⟩ := hv2.at ev
    refine wpAny_pyNext_list_item g1 g2 (x := y) (by simpa using hy) fun h' hit' hs' => ?_
    obtain ⟨ob', h1, h2, h3⟩ := hit'
    exact post ob' h' s.toks y ⟨h2, h3⟩ h1 (fun b o hb e => hs'.extBut b o hb e) ry
  ·intro i W ρ H fr ob s Q E le r hp q
   exact wpAny_pyIter_listiter (⟨ob, r.frAt Zz5, hp.1, hp.2⟩ : s.heap.IsListIter k1.objs.size a i) q
  ·exact ⟨rfl, rfl⟩
theorem Zpo {a b c : Int} {H : Hp} {z : Nx × Nat × Hp} (h : Zcf a b c H = some z) : c ≠ 0 ∧ Builtin.divisionGoesByPylong (b - a) c = false := by
 unfold Zcf at h
 split at h
 ·rename_i hc
  exact ⟨hc.1, hc.2.2.2.2⟩
 ·cases h
theorem ZrH {W0 : Wd} {I : Addr} {a c : Int} {n : Nat} : Itr prog w Γ W0 (.ref I) [I] (fun i fs => ∃ ob, fs = [(I, ob)] ∧ (i ≤ n ∧ ob = { cls := .type "range_iterator", dict := none, data := .fields #[rawInt (a + (i : Nat) * c), rawInt ((n : Int) - (i : Nat)), rawInt c], slots := #[] })) (ZeP a c n) := by
 have Wk := Walks.range (prog := prog) (w := w) Γ.hh I a c n
 refine Zlv (fun i ob => i ≤ n ∧ ob = { cls := .type "range_iterator", dict := none, data := .fields #[rawInt (a + (i : Nat) * c), rawInt ((n : Int) - (i : Nat)), rawInt c], slots := #[] }) ?_ ?_
 ·intro i W ρ H fr ob s Q E o le r hp hn post
  have g : IsRangeIter s.heap I (a + (i : Nat) * c) ((n : Int) - (i : Nat)) c := (r.frAt Zz5).trans (congrArg some hp.2)
  cases hn
  by_cases hi : i < n
  ·rw [if_pos hi] at post
   refine Wk.item i s Q E hi g fun v h' tk hv st keep => ?_
   obtain ⟨t, e⟩ := hv
   subst e
   exact post _ h' tk _ ⟨hi, rfl⟩ st (fun b o hb e => keep b o (by simpa using hb) e) (.int _ _)
  ·rw [if_neg hi] at post
   have e : i = n := by have := hp.1; omega
   subst e
   exact Wk.done s Q E g fun h' tk keep => post h' tk fun b o hb e => keep b o (by simpa using hb) e
 ·intro i W ρ H fr ob s Q E le r hp q
  have g : IsRangeIter s.heap I (a + (i : Nat) * c) ((n : Int) - (i : Nat)) c := (r.frAt Zz5).trans (congrArg some hp.2)
  exact Wk.self i s Q E g q
theorem ZjF {a b c : Int} {t u v : Tok} {W : Wd} {ρ : Lc} {H : Hp} {fr : List (Addr × Obj)} {s : Shared} {k : Heap} {tk : Nat} {Q E : Value → Shared → Prop} {nx : Nx} {n : Nat} {H' : Hp} (r : Rep Γ W ρ H fr k) (hm : Zcf a b c H = some (nx, n, H'))
  (post : ∀ (W' : Wd) (h' : Heap) (tk' : Nat) (it : Value) (as : List Addr) (It : Nat → List (Addr × Obj) → Prop) (fs : List (Addr × Obj)), W.Le W' → It 0 fs → Rep Γ W' ρ H' (fs ++ fr) h' → (∀ a ∈ as, ∀ t ∈ fr, a ≠ t.1) → Itr prog w Γ W' it as It nx → Q it { s with heap := h', toks := tk' }) :
  wpAny (model prog w) Γ.A (pyIter (.ref k.objs.size)) Q E { s with heap := k.push { cls := .type "range", data := .fields #[.int a t, .int b u, .int c v] }, toks := tk } := by
 unfold Zcf at hm
 split at hm
 ·rename_i hc
  cases hm
  have hr : IsRange (k.push { cls := .type "range", data := .fields #[.int a t, .int b u, .int c v] }) k.objs.size a b c t u v := IsRange.new ..
  refine wpAny_pyIter_range hr hc.2.1 ?_
  have rp := r.push { cls := .type "range", data := .fields #[.int a t, .int b u, .int c v] }
  have en : Builtin.Range.rangeSize a b c = ((rngN a b c : Nat) : Int) := (Int.toNat_of_nonneg hc.2.2.1).symm
  dsimp only
  generalize hk : k.push { cls := .type "range", data := .fields #[.int a t, .int b u, .int c v] } = k2 at rp ⊢
  obtain ⟨r2, ap⟩ := rp.more (fs := [(k2.objs.size, { cls := .type "range_iterator", data := .fields #[rawInt a, rawInt (Builtin.Range.rangeSize a b c), rawInt c] })]) (fun b' o e => Heap.get?_push_of_some { cls := .type "range_iterator", data := .fields #[rawInt a, rawInt (Builtin.Range.rangeSize a b c), rawInt c] } e) (fun q hq => by rw [List.mem_singleton.mp hq]; exact ⟨Heap.get?_push_size _ rfl, Nat.le_refl _⟩)
  refine post W _ tk _ [k2.objs.size] _ _ (.refl W) ⟨_, rfl, Nat.zero_le _, ?_⟩ r2 (fun b hb t ht => by rw [List.mem_singleton.mp hb]; exact ap _ Zz5 t ht) (ZrH (a := a) (c := c) (n := rngN a b c))
  rw [en]
  simp
 ·cases hm
theorem JI.range {x : Str} {np pos : Pos} {e : Expr} {es : List Expr} {g : Exs} (hn : Nm prog w Γ x (.type "range")) (h : Js prog w Γ (e :: es) g)
  (he : starEach (e :: es) Γ.env = (false, eval e Γ.env) :: starEach es Γ.env := by rfl) (hp : ∀ pos, (backTo pos (starEach es Γ.env)).any (·.1) = false := by intro _; rfl) : JI prog w Γ (.Call (.Name x np) (e :: es) [] pos) (ZaR g) := by
 intro W ρ H fr s Q E nx n H' r hf post
 obtain ⟨p, e1, hf⟩ := Zz0.mp hf
 refine wpAny_Call_ofName (hn.use r ?_)
 refine PySem.Pv.callWith_type1 (h pos W ρ H fr s _ E _ _ r e1 fun W1 k1 t1 xs l1 r1 x1 => ?_) he (hp pos)
 obtain ⟨vs, H1⟩ := p
 dsimp only at hf x1 r1
 have post1 := fun W' h' tk' it as It fs (l : W1.Le W') => post W' h' tk' it as It fs (l1.trans l)
 split at hf
 ·obtain ⟨y, ex, ry⟩ := x1.one
  subst ex
  cases ry
  exact call_range_1 (ZjF r1 hf post1)
 ·obtain ⟨y, z, ex, ry, rz⟩ := x1.two
  subst ex
  cases ry
  cases rz
  exact call_range_2 (ZjF r1 hf post1)
 ·cases x1 with
  | cons ry x1 =>
  obtain ⟨y, z, ex, rz, ru⟩ := x1.two
  subst ex
  cases ry
  cases rz
  cases ru
  have hc := Zpo hf
  exact call_range_3 hc.1 (ZjF r1 hf post1) (.inl hc.2)
 ·cases hf
end
noncomputable def Zdf (nx : Nx) (put : V → Lc → Option Lc) (b : Sm) : Nat → Nat → Sm
 | 0, _ => fun _ _ => none
 | n + 1, i => fun ρ H => (nx i H).bind fun o => match o with
  | none => some (none, ρ, H)
  | some v => (put v ρ).bind fun ρ1 => (b ρ1 H).bind fun q => match q.1 with
   | some _ => some q
   | none => Zdf nx put b n (i + 1) q.2.1 q.2.2
noncomputable def ZaY (g : Src) (put : V → Lc → Option Lc) (b : Sm) : Sm := fun ρ H => (g ρ H).bind fun z => Zdf z.1 put b z.2.1 0 ρ z.2.2
noncomputable def Zam (i : Nat) : V → Lc → Option Lc := fun v ρ => some (upd ρ i v)
section
variable {prog : Program} {w : World} {Γ : Cx}
theorem Zby {x : Str} {i : Nat} {px pos : Pos} {it : Expr} {body : List Stmt} {g : Src} {b : Sm} (hx : Sto prog w Γ x i) (hg : JI prog w Γ it g) (hb : Ss prog w Γ body b) (hs : ∀ x, foldedSetIterable it Γ.env x = pure x := by intro _; rfl) : S1 prog w Γ (.For (.Name x px) it body [] pos) (ZaY g (Zam i) b) := by
 intro W ρ H fr s Q E r rp hf post
 obtain ⟨z, e1, hf⟩ := Zz0.mp hf
 obtain ⟨nx, n, H0⟩ := z
 refine wpAny_For (hg W ρ H fr s _ E nx n H0 rp e1 fun W1 k1 t1 itv as It fs l1 i1 r1 ap I1 => ?_) hs
 refine codeAny_forLoop (fun k s' => ∃ W' ρ' H' h' tk' j fs', s' = { s with heap := h', toks := tk' } ∧ W1.Le W' ∧ It j fs' ∧ Rep Γ W' ρ' H' (fs' ++ fr) h' ∧ Zdf nx (Zam i) b k j ρ' H' = some r) ?_ n ⟨W1, ρ, H0, k1, t1, 0, fs, rfl, .refl _, i1, r1, hf⟩
 rintro k s' ⟨W2, ρ2, H2, k2, t2, j, fs2, rfl, l2, i2, r2, e⟩
 cases k with
 | zero => cases e
 | succ k =>
  obtain ⟨o, e2, e⟩ := Zz0.mp e
  refine I1.next j W2 ρ2 H2 fr fs2 _ _ _ o l2 r2 ap i2 e2 ?_
  cases o with
  | none =>
   cases e
   intro h' tk' r3
   exact wpAny_execs_nil (post W2 h' tk' (l1.trans l2) r3)
  | some v =>
   intro fs3 k3 t3 y i3 r3 y3
   obtain ⟨ρ3, e3, e⟩ := Zz0.mp e
   cases e3
   obtain ⟨q, e4, e⟩ := Zz0.mp e
   refine wpAny_assign_Name (hx W2 ρ2 H2 (fs3 ++ fr) _ _ _ v y r3 y3 fun k4 t4 r4 => ?_)
   refine hb W2 _ H2 (fs3 ++ fr) _ _ _ q r4 e4 ?_
   obtain ⟨u, ρ5, H5⟩ := q
   cases u with
   | some u =>
    cases e
    exact fun W5 k5 t5 x5 l5 r5 v5 => post W5 k5 t5 x5 ((l1.trans l2).trans l5) (r5.less fun q hq => List.mem_append_right _ hq) v5
   | none => exact fun W5 k5 t5 l5 r5 => ⟨k, Nat.lt_succ_self k, W5, ρ5, H5, k5, t5, j + 1, fs3, rfl, l2.trans l5, i3, r5, e⟩
end
end PM
end
section
set_option maxRecDepth 100000
set_option linter.all false
set_option autoImplicit false
namespace PM
open PySem PySem.W PySem.Calls PyProof.Rows PyProof
structure OwnF (names : List Str) (cs : Scope) (cl : List (Str × Addr)) (W : Wd) (ρ : Lc) (m : Str → Option Value) (cells : List (Addr × Obj)) : Prop where
 loc : ∀ (i : Nat) (x : Str) (v : V), names[i]? = some x → cs.names.lookup x = some .local → ρ i = some v → ∃ y, m x = some y ∧ VR W v y
 cel : ∀ (i : Nat) (x : Str) (v : V), names[i]? = some x → cs.names.lookup x = some .cell → ρ i = some v → ∃ c o y, cl.lookup x = some c ∧ (c, o) ∈ cells ∧ o.data = .cell (some y) ∧ VR W v y
 all : ∀ (x : Str) (c : Addr), cl.lookup x = some c → ∃ o v₀, (c, o) ∈ cells ∧ o.data = .cell v₀
 one : ∀ (x y : Str) (c : Addr), cl.lookup x = some c → cl.lookup y = some c → x = y
theorem OwnF.mono {names : List Str} {cs : Scope} {cl : List (Str × Addr)} {W W' : Wd} {ρ : Lc} {m : Str → Option Value} {cells : List (Addr × Obj)} (l : W.Le W') (h : OwnF names cs cl W ρ m cells) : OwnF names cs cl W' ρ m cells :=
 ⟨fun i x v a b c => by
  obtain ⟨y, h1, h2⟩ := h.loc i x v a b c
  exact ⟨y, h1, h2.mono l⟩, fun i x v a b c => by
  obtain ⟨d, o, y, h1, h2, h3, h4⟩ := h.cel i x v a b c
  exact ⟨d, o, y, h1, h2, h3, h4.mono l⟩, h.all, h.one⟩
noncomputable def ZbF (dp un : Nat) (gd : Option (List Code)) (cn : Str) (cs : Scope) (L a : Addr) (ccd : Value) (cl : List (Str × Addr)) (outer : List Env) (h₀ : Heap) (hu : un + 200 < cLine) (names : List Str) : Cx where
 A := ktrTop dp un gd cn cs L a ccd cl outer
 env := envX cn cs L a ccd cl
 h₀ := h₀
 L := L
 hh := rfl
 hu := hu
 Own := OwnF names cs cl
 mono := OwnF.mono
section
variable {prog : Program} {w : World} {dp un : Nat} {gd : Option (List Code)} {cn : Str} {cs : Scope} {L a : Addr} {ccd : Value} {cl : List (Str × Addr)} {outer : List Env} {h₀ : Heap} {hu : un + 200 < cLine} {names : List Str}
theorem Ztu {x : Str} {i : Nat} (hi : names[i]? = some x) (hx : cs.names.lookup x = some .local) (hk : cs.kind = .function) (hd : (x == ("__debug__" : Str)) = false) : Rd prog w (ZbF dp un gd cn cs L a ccd cl outer h₀ hu names) x i := by
 intro W ρ H fr s Q E v pos r e q
 obtain ⟨m, c, led, r⟩ := r
 obtain ⟨y, h1, h2⟩ := r.own.loc i x v hi hx e
 exact nameX_L r.F h1 (q y h2) hk hx hd
theorem Ztv {x : Str} {i : Nat} (hi : names[i]? = some x) (hx : cs.names.lookup x = some .cell) (hk : cs.kind = .function) (hd : (x == ("__debug__" : Str)) = false) : Rd prog w (ZbF dp un gd cn cs L a ccd cl outer h₀ hu names) x i := by
 intro W ρ H fr s Q E v pos r e q
 obtain ⟨m, c, led, r⟩ := r
 obtain ⟨d, o, y, h1, h2, h3, h4⟩ := r.own.cel i x v hi hx e
 exact nameX_C r.N h1 (r.clIn _ h2) h3 (q y h4) hk hx hd
theorem Zsu {x : Str} {i : Nat} (nd : names.Nodup) (hi : names[i]? = some x) (hx : cs.names.lookup x = some .local) (hk : cs.kind = .function) : Sto prog w (ZbF dp un gd cn cs L a ccd cl outer h₀ hu names) x i := by
 intro W ρ H fr s Q E v y r vy q
 obtain ⟨m, c, led, r⟩ := r
 have hi' : i < names.length := (Zz6.mp hi).1
 refine storeX_L r.F r.N (fun h' F' N' => q h' _ ⟨_, c, led, ⟨F', N', r.R, r.sc, r.sc0, r.frIn, r.frOff, r.clIn, r.clOff, r.apart, r.frTup, r.clTup, ⟨fun j z u hj hz hu => ?_, fun j z u hj hz hu => ?_, r.own.all, r.own.one⟩⟩⟩) hk hx
 ·by_cases e : j = i
  ·subst e
   rw [hi] at hj
   cases hj
   simp only [upd, if_true] at hu
   cases hu
   exact ⟨y, by simp, vy⟩
  ·have hzx : z ≠ x := fun e' => by
    subst e'
    exact e ((List.getElem?_inj (Zz6.mp hj).1 nd).mp (hj.trans hi.symm))
   simp only [upd, if_neg e] at hu
   obtain ⟨y', h1, h2⟩ := r.own.loc j z u hj hz hu
   exact ⟨y', by simp [hzx, h1], h2⟩
 ·by_cases e : j = i
  ·subst e
   rw [hi] at hj
   cases hj
   rw [hx] at hz
   cases hz
  ·simp only [upd, if_neg e] at hu
   exact r.own.cel j z u hj hz hu
theorem Zsv {x : Str} {i : Nat} (nd : names.Nodup) (hi : names[i]? = some x) (hx : cs.names.lookup x = some .cell) (hk : cs.kind = .function) (hcl : (cl.lookup x).isSome = true) : Sto prog w (ZbF dp un gd cn cs L a ccd cl outer h₀ hu names) x i := by
 intro W ρ H fr s Q E v y r vy q
 obtain ⟨m, c, led, r⟩ := r
 obtain ⟨d, hd⟩ := Option.isSome_iff_exists.mp hcl
 obtain ⟨o, v₀, ho, hv₀⟩ := r.own.all x d hd
 have inl := r.clIn _ ho
 have N2 : News h₀ L s.heap ((d, o) :: led.filter (fun q => decide (q.1 ≠ d))) := by
  intro q hq
  rcases List.mem_cons.mp hq with e | hq
  ·subst e
   exact r.N _ inl
  ·exact r.N q (List.mem_filter.mp hq).1
 refine storeX_C r.F N2 hd (UpdF.head fun q hq => by simpa using (List.mem_filter.mp hq).2) hv₀ (fun h' o' F' N' ho' => ?_) hk hx
 have keep : ∀ q ∈ led, q.1 ≠ d → q ∈ (d, o') :: led.filter (fun q => decide (q.1 ≠ d)) := fun q hq hn => List.mem_cons_of_mem _ (List.mem_filter.mpr ⟨hq, by simpa using hn⟩)
 refine q h' s.toks ⟨m, (d, o') :: c.filter (fun q => decide (q.1 ≠ d)), _, ⟨F', N', ⟨r.R.len, r.R.nd, fun j vs e => ?_, fun q hq => ZdT (r.R.tups q hq) fun z => keep q z (r.clTup _ ho q hq).symm, r.R.kind⟩, r.sc, r.sc0, fun q hq => keep q (r.frIn q hq) (r.apart _ ho q hq).symm, r.frOff, fun q hq => ?_, fun q hq => ?_, fun q hq t ht => ?_, r.frTup, fun q hq t ht => ?_, ⟨fun j z u hj hz hu => ?_, fun j z u hj hz hu => ?_, fun z e hz => ?_, r.own.one⟩⟩⟩
 ·obtain ⟨l, b, xs, k, h1, h2, h3⟩ := r.R.lists j vs e
  exact ⟨l, b, xs, k, h1, ZdT h2 fun z => keep _ z fun e => r.clOff _ ho (e ▸ List.mem_of_getElem? h1), h3⟩
 ·rcases List.mem_cons.mp hq with e | hq
  ·exact e ▸ List.mem_cons_self
  ·obtain ⟨h1, h2⟩ := List.mem_filter.mp hq
   exact keep q (r.clIn q h1) (by simpa using h2)
 ·rcases List.mem_cons.mp hq with e | hq
  ·rw [e]
   exact (r.clOff _ ho : d ∉ W.pi)
  ·exact r.clOff q (List.mem_filter.mp hq).1
 ·rcases List.mem_cons.mp hq with e | hq
  ·rw [e]
   exact (r.apart _ ho t ht : d ≠ t.1)
  ·exact r.apart q (List.mem_filter.mp hq).1 t ht
 ·rcases List.mem_cons.mp hq with e | hq
  ·rw [e]
   exact (r.clTup _ ho t ht : d ≠ t.1)
  ·exact r.clTup q (List.mem_filter.mp hq).1 t ht
 ·by_cases e : j = i
  ·subst e
   rw [hi] at hj
   cases hj
   rw [hx] at hz
   cases hz
  ·simp only [upd, if_neg e] at hu
   exact r.own.loc j z u hj hz hu
 ·by_cases e : j = i
  ·subst e
   rw [hi] at hj
   cases hj
   simp only [upd, if_true] at hu
   cases hu
   exact ⟨d, o', y, hd, List.mem_cons_self, ho', vy⟩
  ·have hzx : z ≠ x := fun e' => by
    subst e'
    exact e ((List.getElem?_inj (Zz6.mp hj).1 nd).mp (hj.trans hi.symm))
   simp only [upd, if_neg e] at hu
   obtain ⟨b, ob, y', h1, h2, h3, h4⟩ := r.own.cel j z u hj hz hu
   have : b ≠ d := fun e' => by
    subst e'
    exact hzx (r.own.one z x b h1 hd)
   exact ⟨b, ob, y', h1, List.mem_cons_of_mem _ (List.mem_filter.mpr ⟨h2, by simpa using this⟩), h3, h4⟩
 ·by_cases e' : e = d
  ·subst e'
   exact ⟨o', _, List.mem_cons_self, ho'⟩
  ·obtain ⟨ob, v1, h1, h2⟩ := r.own.all z e hz
   exact ⟨ob, v1, List.mem_cons_of_mem _ (List.mem_filter.mpr ⟨h1, by simpa using e'⟩), h2⟩
end
end PM
end
section
set_option maxRecDepth 100000
set_option linter.all false
set_option autoImplicit false
namespace PM
open PySem PySem.W PySem.Calls PyProof.Rows PyProof PyProof.Rows.LCg
theorem Zfo {Γ : Cx} {W : Wd} {ρ : Lc} {H : Hp} {fr : List (Addr × Obj)} {h : Heap} {D : Addr} {ys : List Value} {k : Nat} {vs : List V} (r : Rep Γ W ρ H ((D, ZbM ys k) :: fr) h) (ap : ∀ t ∈ fr, D ≠ t.1) (hv : VRs W vs ys) (hl : vs.length ≤ LEN) :
  ∃ W', W.Le W' ∧ Rep Γ W' ρ (H ++ [vs]) fr h ∧ VR W' (.ref H.length) (.ref D) := by
 obtain ⟨m, c, led, r⟩ := r
 have le : W.Le ⟨W.pi ++ [D], W.tups, W.sc⟩ := ⟨List.prefix_append _ _, fun q hq => hq, rfl⟩
 have h0 : 0 < W.pi.length := (Zz6.mp r.sc0).1
 have at_n : (W.pi ++ [D])[H.length]? = some D := by rw [← r.R.len]; simp
 have off := r.frOff _ Zz5
 refine ⟨⟨W.pi ++ [D], W.tups, W.sc⟩, le, ⟨m, c, led, ⟨r.F, r.N, ⟨by simp [r.R.len], ?_, fun i us e => ?_, r.R.tups, r.R.kind⟩, r.sc, (List.getElem?_append_left h0).trans r.sc0, fun q hq => r.frIn q (Zz2 _ hq), fun q hq => ?_, r.clIn, fun q hq => ?_, fun q hq t ht => r.apart q hq t (Zz2 _ ht), fun q hq => r.frTup q (Zz2 _ hq), r.clTup, Γ.mono le r.own⟩⟩, .ref at_n⟩
 ·show (W.pi ++ [D]).Nodup
  rw [List.nodup_append]
  refine ⟨r.R.nd, by simp, fun a ha b hb => ?_⟩
  rw [List.mem_singleton.mp hb]
  exact fun e => off (e ▸ ha)
 ·by_cases hi : i < H.length
  ·rw [List.getElem?_append_left hi] at e
   obtain ⟨l, a, zs, j, h1, h2, h3⟩ := r.R.lists i us e
   exact ⟨l, a, zs, j, le.at h1, h2, h3.mono le⟩
  ·have : i = H.length := by
    have := (Zz6.mp e).1
    simp at this
    omega
   subst this
   simp at e
   subst e
   exact ⟨hl, D, ys, k, at_n, List.mem_cons_of_mem _ (r.frIn _ Zz5), hv.mono le⟩
 ·intro hm
  rcases List.mem_append.mp hm with hm | hm
  ·exact r.frOff q (Zz2 _ hq) hm
  ·exact ap q hq (List.mem_singleton.mp hm).symm
 ·intro hm
  rcases List.mem_append.mp hm with hm | hm
  ·exact r.clOff q hq hm
  ·exact r.apart q hq _ Zz5 (List.mem_singleton.mp hm)
noncomputable def ZuM (Γ : Cx) (C : Addr) (ts : List (Str × Nat)) (ρ0 : Lc) (W : Wd) (ρ : Lc) (m : Str → Option Value) (cells : List (Addr × Obj)) : Prop :=
 ∃ oC m₂ cs, cells = (C, oC) :: cs ∧ (∀ q ∈ cs, q.1 ≠ C) ∧ NsObj oC m₂ ∧ (∀ p ∈ ts, ∃ v y, ρ p.2 = some v ∧ m₂ p.1 = some y ∧ VR W v y) ∧ (∀ j, (∀ p ∈ ts, p.2 ≠ j) → ρ j = ρ0 j) ∧ Γ.Own W ρ0 m cs
noncomputable def Zbk (Γ : Cx) (scope : Scope) (cl : List (Str × Addr)) (C : Addr) (ts : List (Str × Nat)) (ρ0 : Lc) : Cx where
 A := Γ.A
 env := compEnvC scope cl C Γ.env
 h₀ := Γ.h₀
 L := Γ.L
 hh := Γ.hh
 hu := Γ.hu
 Own := ZuM Γ C ts ρ0
 mono := fun l h => by
  obtain ⟨oC, m₂, cs, e, h0, h1, h2, h3, h4⟩ := h
  exact ⟨oC, m₂, cs, e, h0, h1, fun p hp => by
   obtain ⟨v, y, a, b, c⟩ := h2 p hp
   exact ⟨v, y, a, b, c.mono l⟩, h3, Γ.mono l h4⟩
section
variable {Γ : Cx} {scope : Scope} {cl : List (Str × Addr)} {C : Addr} {ts : List (Str × Nat)} {ρ0 : Lc} {W : Wd} {ρ : Lc} {H : Hp} {fr : List (Addr × Obj)} {h : Heap}
theorem Znv {oC : Obj} {m₂ : Str → Option Value} (r : Rep Γ W ρ0 H ((C, oC) :: fr) h) (ap : ∀ t ∈ fr, C ≠ t.1) (hC : NsObj oC m₂) (ht : ∀ p ∈ ts, ∃ v y, ρ p.2 = some v ∧ m₂ p.1 = some y ∧ VR W v y) (hj : ∀ j, (∀ p ∈ ts, p.2 ≠ j) → ρ j = ρ0 j) : Rep (Zbk Γ scope cl C ts ρ0) W ρ H fr h := by
 obtain ⟨m, c, led, r⟩ := r
 refine ⟨m, (C, oC) :: c, led, ⟨r.F, r.N, r.R, r.sc, r.sc0, fun q hq => r.frIn q (Zz2 _ hq), fun q hq => r.frOff q (Zz2 _ hq), fun q hq => ?_, fun q hq => ?_, fun q hq t ht => ?_, fun q hq => r.frTup q (Zz2 _ hq), fun q hq t ht => ?_, ⟨oC, m₂, c, rfl, fun q hq => r.apart q hq _ Zz5, hC, ht, hj, r.own⟩⟩⟩
 ·rcases List.mem_cons.mp hq with e | hq
  ·exact e ▸ r.frIn _ Zz5
  ·exact r.clIn q hq
 ·rcases List.mem_cons.mp hq with e | hq
  ·exact e ▸ r.frOff _ Zz5
  ·exact r.clOff q hq
 ·rcases List.mem_cons.mp hq with e | hq
  ·exact e ▸ ap t ht
  ·exact r.apart q hq t (Zz2 _ ht)
 ·rcases List.mem_cons.mp hq with e | hq
  ·exact e ▸ r.frTup _ Zz5 t ht
  ·exact r.clTup q hq t ht
theorem Rep.fromC (r : Rep (Zbk Γ scope cl C ts ρ0) W ρ H fr h) : ∃ oC m₂, NsObj oC m₂ ∧ Rep Γ W ρ0 H ((C, oC) :: fr) h := by
 obtain ⟨m, c, led, r⟩ := r
 obtain ⟨oC, m₂, cs, e, h0, h1, h2, h3, h4⟩ := r.own
 subst e
 refine ⟨oC, m₂, h1, m, cs, led, ⟨r.F, r.N, r.R, r.sc, r.sc0, fun q hq => ?_, fun q hq => ?_, fun q hq => r.clIn q (Zz2 _ hq), fun q hq => r.clOff q (Zz2 _ hq), fun q hq t ht => ?_, fun q hq t ht => ?_, fun q hq => r.clTup q (Zz2 _ hq), h4⟩⟩
 ·rcases List.mem_cons.mp hq with e | hq
  ·exact e ▸ r.clIn _ Zz5
  ·exact r.frIn q hq
 ·rcases List.mem_cons.mp hq with e | hq
  ·exact e ▸ r.clOff _ Zz5
  ·exact r.frOff q hq
 ·rcases List.mem_cons.mp ht with e | ht
  ·rw [e]
   exact h0 q hq
  ·exact r.apart q (Zz2 _ hq) t ht
 ·rcases List.mem_cons.mp hq with e | hq
  ·exact e ▸ r.clTup _ Zz5 t ht
  ·exact r.frTup q hq t ht
end
noncomputable def JF (prog : Program) (w : World) (Γ : Cx) (ifs : List Expr) (f : Ts) : Prop := ∀ (W : Wd) (ρ : Lc) (H : Hp) (fr : List (Addr × Obj)) (s : Shared) (Q : Bool → Shared → Prop) (E : Value → Shared → Prop) (b : Bool) (H' : Hp),
 Rep Γ W ρ H fr s.heap → f ρ H = some (b, H') → ZhJ Γ W ρ H' fr s Q b →
 wpAny (model prog w) Γ.A (forIn ifs true fun c r => if r = true then do let ok ← isTrue c Γ.env (eval c Γ.env); pure (ForInStep.yield ok) else pure (ForInStep.yield r)) Q E s
section
variable {prog : Program} {w : World} {Γ : Cx}
theorem JF.nil : JF prog w Γ [] Zaq := fun W ρ H fr s Q E b H' r hf post => by
 cases hf
 exact wpAny_pure (post W s.heap s.toks (.refl W) r)
theorem JF.one {e : Expr} {t : Ts} (h : JT prog w Γ e t) : JF prog w Γ [e] t := fun W ρ H fr s Q E b H' r hf post => by
 rw [List.forIn_cons]
 simp only [if_true, List.forIn_nil]
 refine wpAny_bind (wpAny_bind (h W ρ H fr s _ E b H' r hf fun W1 k1 t1 l1 r1 => wpAny_pure ?_))
 exact wpAny_pure (post W1 k1 t1 l1 r1)
end
end PM
end
section
set_option maxRecDepth 100000
set_option linter.all false
set_option autoImplicit false
namespace PM
open PySem PySem.W PySem.Calls PyProof.Rows PyProof PyProof.Rows.LCg
noncomputable def Zcy (nx : Nx) (put : V → Lc → Option Lc) (c : Ts) (f : Ex) (ρ : Lc) : Nat → Nat → List V → Hp → Option (List V × Hp)
 | 0, _, _, _ => none
 | n + 1, i, acc, H => (nx i H).bind fun o => match o with
  | none => some (acc, H)
  | some v => (put v ρ).bind fun ρ1 => (c ρ1 H).bind fun b => if b.1 then (f ρ1 b.2).bind fun p => (if acc.length < LEN then Zcy nx put c f ρ n (i + 1) (acc ++ [p.1]) p.2 else none) else Zcy nx put c f ρ n (i + 1) acc b.2
noncomputable def Zaz (g : Src) (put : V → Lc → Option Lc) (c : Ts) (f : Ex) : Ex := fun ρ H => (g ρ H).bind fun z => (Zcy z.1 put c f ρ z.2.1 0 [] z.2.2).map fun q => (.ref q.2.length, q.2 ++ [q.1])
noncomputable def Zf4 (Γ : Cx) (W0 : Wd) (ρ : Lc) (fr : List (Addr × Obj)) (C D : Addr) (It : Nat → List (Addr × Obj) → Prop) (nx : Nx) (put : V → Lc → Option Lc) (c : Ts) (f : Ex) (q : List V × Hp) (s : Shared) (k : Nat) (s' : Shared) : Prop :=
 ∃ W' H' h' tk' j fs acc ys oC m₂, s' = { s with heap := h', toks := tk' } ∧ W0.Le W' ∧ It j fs ∧ NsObj oC m₂ ∧ VRs W' acc ys ∧ acc.length ≤ LEN ∧ Rep Γ W' ρ H' ((C, oC) :: (D, lst ys) :: (fs ++ fr)) h' ∧ Zcy nx put c f ρ k j acc H' = some q
section
variable {prog : Program} {w : World} {Γ : Cx}
theorem ZmH {scope : Scope} {cl : List (Str × Addr)} {elt : Expr} {ts : List (Str × Nat)} {W0 W : Wd} {ρ ρ1 : Lc} {H : Hp} {fr fs : List (Addr × Obj)} {C D : Addr} {It : Nat → List (Addr × Obj) → Prop} {nx : Nx} {put : V → Lc → Option Lc} {c : Ts} {f : Ex} {q : List V × Hp} {s : Shared} {h : Heap} {tk : Nat} {k j : Nat} {acc : List V} {ys : List Value} {E : Value → Shared → Prop}
  (hel : J prog w (Zbk Γ scope cl C ts ρ) elt f) (aD : ∀ t ∈ fs ++ fr, D ≠ t.1) (cd : C ≠ D) (l0 : W0.Le W) (hit : It (j + 1) fs) (hv : VRs W acc ys) (r : Rep (Zbk Γ scope cl C ts ρ) W ρ1 H ((D, lst ys) :: (fs ++ fr)) h)
  (e : ((f ρ1 H).bind fun p => (if acc.length < LEN then Zcy nx put c f ρ k (j + 1) (acc ++ [p.1]) p.2 else none)) = some q) :
  wpAny (model prog w) Γ.A (eval elt (compEnvC scope cl C Γ.env)) (fun x s₄ => wpAny (model prog w) Γ.A (call (.builtin "list.append") [.ref D, x]) (fun _ s₅ => ∃ m, m < k + 1 ∧ Zf4 Γ W0 ρ fr C D It nx put c f q s m s₅) E s₄) E { s with heap := h, toks := tk } := by
 obtain ⟨p, e2, e⟩ := Zz0.mp e
 by_cases hlt : acc.length < LEN
 ·rw [if_pos hlt] at e
  refine hel W ρ1 H _ _ _ E _ _ r e2 fun W2 k2 t2 x l2 r2 x2 => ?_
  obtain ⟨oC', m₃, hC', r3⟩ := r2.fromC
  have hD : k2.get? D = some (lst ys) := r3.frAt (q := (D, lst ys)) (Zz2 _ Zz5)
  refine append_at (hsz := Zc6 (by rw [List.size_toArray, hv.length]; omega)) hD fun h' sb hg => ?_
  have hg' : h'.get? D = some (lst (ys ++ [x])) := hg.trans (congrArg some (lst_snoc ys x))
  have r4 : Rep Γ W2 ρ p.2 ([(D, lst ys)] ++ ((C, oC') :: (fs ++ fr))) k2 := r3.less fun q hq => by
   rcases List.mem_append.mp hq with hq | hq
   ·rw [List.mem_singleton.mp hq]
    exact Zz2 _ Zz5
   ·rcases List.mem_cons.mp hq with e | hq
    ·exact e ▸ List.mem_cons_self
    ·exact Zz2 _ (Zz2 _ hq)
  have r5 : Rep Γ W2 ρ p.2 ([(D, lst (ys ++ [x]))] ++ ((C, oC') :: (fs ++ fr))) h' := by
   refine r4.swap (fun q hq t ht => ?_) (fun b o hb e => sb.extBut b o (fun z => hb (by simp [z])) e) fun q hq => ?_
   ·rw [List.mem_singleton.mp hq]
    rcases List.mem_cons.mp ht with e | ht
    ·rw [e]
     exact cd.symm
    ·exact aD t ht
   ·rw [List.mem_singleton.mp hq]
    exact ⟨hg', by simp⟩
  have r6 : Rep Γ W2 ρ p.2 ((C, oC') :: (D, lst (ys ++ [x])) :: (fs ++ fr)) h' := r5.less fun q hq => by
   rcases List.mem_cons.mp hq with e | hq
   ·exact e ▸ List.mem_append_right _ Zz5
   ·rcases List.mem_cons.mp hq with e | hq
    ·exact e ▸ List.mem_append_left _ Zz5
    ·exact Zz3 _ (Zz2 _ hq)
  exact ⟨k, Nat.lt_succ_self k, W2, p.2, h', t2, j + 1, fs, acc ++ [p.1], ys ++ [x], oC', m₃, rfl, l0.trans l2, hit, hC', (hv.mono l2).snoc x2, by simp; omega, r6, e⟩
 ·rw [if_neg hlt] at e
  cases e
theorem ZrI {scope : Scope} {cl : List (Str × Addr)} {elt : Expr} {ifs : List Expr} {ts : List (Str × Nat)} {W0 W : Wd} {ρ ρ1 : Lc} {H : Hp} {fr fs : List (Addr × Obj)} {C D : Addr} {It : Nat → List (Addr × Obj) → Prop} {nx : Nx} {put : V → Lc → Option Lc} {c : Ts} {f : Ex} {q : List V × Hp} {s s1 : Shared} {k j : Nat} {acc : List V} {ys : List Value} {oC : Obj} {m₂ : Str → Option Value} {E : Value → Shared → Prop}
  (hel : J prog w (Zbk Γ scope cl C ts ρ) elt f) (hif : JF prog w (Zbk Γ scope cl C ts ρ) ifs c) (hs : ∃ h tk, s1 = { s with heap := h, toks := tk })
  (aC : ∀ t ∈ (D, lst ys) :: (fs ++ fr), C ≠ t.1) (aD : ∀ t ∈ fs ++ fr, D ≠ t.1) (l0 : W0.Le W) (hit : It (j + 1) fs) (hC : NsObj oC m₂) (hv : VRs W acc ys) (hl : acc.length ≤ LEN) (r : Rep Γ W ρ H ((C, oC) :: (D, lst ys) :: (fs ++ fr)) s1.heap)
  (ht : ∀ p ∈ ts, ∃ v y, ρ1 p.2 = some v ∧ m₂ p.1 = some y ∧ VR W v y) (hj : ∀ i, (∀ p ∈ ts, p.2 ≠ i) → ρ1 i = ρ i)
  (e : ((c ρ1 H).bind fun b => if b.1 then (f ρ1 b.2).bind fun p => (if acc.length < LEN then Zcy nx put c f ρ k (j + 1) (acc ++ [p.1]) p.2 else none) else Zcy nx put c f ρ k (j + 1) acc b.2) = some q) :
  wpAny (model prog w) Γ.A (forIn ifs true fun c r => if r = true then do let ok ← isTrue c (compEnvC scope cl C Γ.env) (eval c (compEnvC scope cl C Γ.env)); pure (ForInStep.yield ok) else pure (ForInStep.yield r)) (fun ok s₃ =>
   if ok = true then wpAny (model prog w) Γ.A (eval elt (compEnvC scope cl C Γ.env)) (fun x s₄ => wpAny (model prog w) Γ.A (call (.builtin "list.append") [.ref D, x]) (fun _ s₅ => ∃ m, m < k + 1 ∧ Zf4 Γ W0 ρ fr C D It nx put c f q s m s₅) E s₄) E s₃
   else ∃ m, m < k + 1 ∧ Zf4 Γ W0 ρ fr C D It nx put c f q s m s₃) E s1 := by
 obtain ⟨h, tk, rfl⟩ := hs
 obtain ⟨b, e1, e⟩ := Zz0.mp e
 obtain ⟨b, H1⟩ := b
 have rc := Znv (scope := scope) (cl := cl) r aC hC ht hj
 refine hif W ρ1 H _ _ _ E b H1 rc e1 fun W1 k1 t1 l1 r1 => ?_
 cases b with
 | false =>
  obtain ⟨oC', m₃, hC', r2⟩ := r1.fromC
  exact ⟨k, Nat.lt_succ_self k, W1, H1, k1, t1, j + 1, fs, acc, ys, oC', m₃, rfl, l0.trans l1, hit, hC', hv.mono l1, hl, r2, e⟩
 | true => exact ZmH hel aD (aC (D, lst ys) Zz5) (l0.trans l1) hit (hv.mono l1) r1 e
theorem comp_core {elt iter : Expr} {x : Str} {px : Pos} {ifs : List Expr} {scope : Scope} {pos : Pos} {cl : List (Str × Addr)} {t : Nat} {g : Src} {c : Ts} {f : Ex} (hg : JI prog w Γ iter g) (hel : ∀ C ρ, J prog w (Zbk Γ scope cl C [(x, t)] ρ) elt f) (hif : ∀ C ρ, JF prog w (Zbk Γ scope cl C [(x, t)] ρ) ifs c)
  (hcell : ∀ y ∈ scope.names, y.2 ≠ .cell) (hkind : scope.kind = .function) (hx : scope.names.lookup x = some .local)
  {W : Wd} {ρ : Lc} {H : Hp} {fr : List (Addr × Obj)} {s : Shared} {E : Value → Shared → Prop} {q : List V × Hp} {RR : Value → Addr → Result → Shared → Prop} (r : Rep Γ W ρ H fr s.heap) (hf : ((g ρ H).bind fun z => Zcy z.1 (Zam t) c f ρ z.2.1 0 [] z.2.2) = some q)
  (hR : ∀ (W' : Wd) (h' : Heap) (tk' : Nat) (C D : Addr) (oC : Obj) (m₂ : Str → Option Value) (ys : List Value), W.Le W' → NsObj oC m₂ → VRs W' q.1 ys → q.1.length ≤ LEN → (∀ t ∈ fr, D ≠ t.1) → (∀ t ∈ fr, C ≠ t.1) → C ≠ D → Rep Γ W' ρ q.2 ((C, oC) :: (D, lst ys) :: fr) h' → RR (.ref D) C (.ok .next) { s with heap := h', toks := tk' }) :
  wpAny (model prog w) Γ.A (eval iter Γ.env) (fun xv s₁ => wpAny (model prog w) Γ.A (pyIter xv) (fun it s₂ => wpAny (model prog w) Γ.A (newList []) (fun acc s₃ => wpAny (model prog w) Γ.A (newFunctionEnv scope Γ.env.globals cl [] Γ.env.qual none .none (some Γ.env)) (fun cenv s₄ =>
   codeAny (model prog w) Γ.A (.compStart (.ListComp elt [⟨.Name x px, iter, ifs, 0⟩] scope pos) 0 it acc { cenv with scope := relabel scope Γ.env }) (RR acc cenv.locals) s₄) E s₃) E s₂) E s₁) E s := by
 obtain ⟨z, e1, e2⟩ := Zz0.mp hf
 obtain ⟨nx, n, H0⟩ := z
 refine hg W ρ H fr s _ E nx n H0 r e1 fun W1 k1 t1 itv as It fs l1 i1 r1 ap I1 => ?_
 refine wpAny_newObj_type (wpAny_newFunctionEnv hcell (fun y hy => by simp at hy) (fun h₂ hns hsb => ?_) hkind)
 dsimp only at hns hsb ⊢
 obtain ⟨rD, aD⟩ := r1.more (fs := [(k1.objs.size, lst [])]) (fun b o e => Heap.get?_push_of_some (lst []) e) (fun q hq => by rw [List.mem_singleton.mp hq]; exact ⟨Heap.get?_push_size _ rfl, Nat.le_refl _⟩)
 generalize eH : k1.push { cls := .type "list", dict := none, data := .seq ([] : List Value).toArray } = K at hns hsb ⊢
 have eK : k1.push (lst []) = K := eH
 rw [eK] at rD
 obtain ⟨oC, gC, nC⟩ := ns_obj hns
 have up : ∀ b o, K.get? b = some o → h₂.get? b = some o := fun b o e => hsb.extBut b o (Nat.ne_of_lt (Heap.lt_size e)) (Heap.get?_push_of_some _ e)
 obtain ⟨rC, aC⟩ := rD.more (fs := [(K.objs.size, oC)]) up (fun q hq => by rw [List.mem_singleton.mp hq]; exact ⟨gC, Nat.le_refl _⟩)
 have adr0 := I1.adr 0 fs i1
 have offs : ∀ b ∈ as, b ≠ k1.objs.size ∧ b ≠ K.objs.size := fun b hb => by
  rw [← adr0] at hb
  obtain ⟨q, hq, e⟩ := List.mem_map.mp hb
  exact ⟨e ▸ (aD _ Zz5 q (Zz4 _ hq)).symm, e ▸ (aC _ Zz5 q (Zz3 _ (Zz4 _ hq))).symm⟩
 have cd : K.objs.size ≠ k1.objs.size := aC _ Zz5 (k1.objs.size, lst []) (Zz4 _ Zz5)
 have cfr : ∀ t ∈ fr, K.objs.size ≠ t.1 := fun t ht => aC _ Zz5 t (Zz3 _ (Zz3 _ ht))
 have dfr : ∀ t ∈ fr, k1.objs.size ≠ t.1 := fun t ht => aD _ Zz5 t (Zz3 _ ht)
 generalize k1.objs.size = D at *
 generalize K.objs.size = C at *
 have loop : ∀ s₃ : Shared, s₃ = { s with heap := h₂, toks := t1 + ([] : List (Str × Value)).length } →
   codeAny (model prog w) Γ.A (.compLoop (.ListComp elt [⟨.Name x px, iter, ifs, 0⟩] scope pos) 0 itv (.ref D) (compEnvC scope cl C Γ.env)) (RR (.ref D) C) s₃ := by
  intro s₃ hs₃
  subst hs₃
  refine codeAny_compLoop_tests (Zf4 Γ W1 ρ fr C D It nx (Zam t) c f q s) ?_ n ⟨W1, H0, h₂, _, 0, fs, [], [], oC, _, rfl, .refl _, i1, nC, .nil, Nat.zero_le _, rC, e2⟩
  rintro k s' ⟨W2, H2, k2, t2, j, fs2, acc, ys, oC2, m₂, rfl, l2, i2, hC2, hv2, hl2, r2, e⟩
  cases k with
  | zero => cases e
  | succ k =>
   obtain ⟨o, e4, e⟩ := Zz0.mp e
   have r2' : Rep Γ W2 ρ H2 (fs2 ++ ((C, oC2) :: (D, lst ys) :: fr)) k2 := r2.less fun q hq => by
    rcases List.mem_append.mp hq with hq | hq
    ·exact Zz2 _ (Zz2 _ (Zz4 _ hq))
    ·rcases List.mem_cons.mp hq with e | hq
     ·exact e ▸ List.mem_cons_self
     ·rcases List.mem_cons.mp hq with e | hq
      ·exact e ▸ List.mem_cons_of_mem _ Zz5
      ·exact Zz2 _ (Zz2 _ (Zz3 _ hq))
   have ap2 : ∀ b ∈ as, ∀ t ∈ (C, oC2) :: (D, lst ys) :: fr, b ≠ t.1 := fun b hb t ht => by
    rcases List.mem_cons.mp ht with e | ht
    ·rw [e]
     exact (offs b hb).2
    ·rcases List.mem_cons.mp ht with e | ht
     ·rw [e]
      exact (offs b hb).1
     ·exact ap b hb t ht
   refine I1.next j W2 ρ H2 _ fs2 _ _ _ o l2 r2' ap2 i2 e4 ?_
   cases o with
   | none =>
    cases e
    intro h' tk' r3
    exact hR W2 h' tk' C D oC2 m₂ ys (l1.trans l2) hC2 hv2 hl2 dfr cfr cd r3
   | some v =>
    intro fs3 k3 t3 y i3 r3 y3
    obtain ⟨ρ3, e5, e⟩ := Zz0.mp e
    cases e5
    have a3 : ∀ t ∈ fs3, t.1 ∈ as := fun t ht => by
     rw [← I1.adr _ _ i3]
     exact List.mem_map_of_mem ht
    have gC3 : k3.get? C = some oC2 := r3.frAt (q := (C, oC2)) (Zz3 _ Zz5)
    have nC3 : k3.Ns C m₂ := hC2.ns gC3
    refine wpAny_assign_Name (wpAny_storeName_local (lookup_relabel_local hx) nC3 (fun h4 hn4 sb4 => ?_) (by simp [compEnvC, relabel, hkind]))
    obtain ⟨oC4, gC4, nC4⟩ := ns_obj hn4
    have r3' : Rep Γ W2 ρ H2 ([(C, oC2)] ++ ((D, lst ys) :: (fs3 ++ fr))) k3 := r3.less fun q hq => by
     rcases List.mem_append.mp hq with hq | hq
     ·rw [List.mem_singleton.mp hq]
      exact Zz3 _ Zz5
     ·rcases List.mem_cons.mp hq with e | hq
      ·exact e ▸ List.mem_append_right _ (Zz2 _ Zz5)
      ·rcases List.mem_append.mp hq with hq | hq
       ·exact Zz4 _ hq
       ·exact Zz3 _ (Zz2 _ (Zz2 _ hq))
    have aC3 : ∀ t ∈ (D, lst ys) :: (fs3 ++ fr), C ≠ t.1 := fun t ht => by
     rcases List.mem_cons.mp ht with e | ht
     ·rw [e]
      exact cd
     ·rcases List.mem_append.mp ht with ht | ht
      ·exact (offs _ (a3 t ht)).2.symm
      ·exact cfr t ht
    have aD3 : ∀ t ∈ fs3 ++ fr, D ≠ t.1 := fun t ht => by
     rcases List.mem_append.mp ht with ht | ht
     ·exact (offs _ (a3 t ht)).1.symm
     ·exact dfr t ht
    have r4 : Rep Γ W2 ρ H2 ([(C, oC4)] ++ ((D, lst ys) :: (fs3 ++ fr))) h4 := by
     refine r3'.swap (fun q hq t ht => ?_) (fun b o hb e => sb4.extBut b o (fun z => hb (by simp [z, compEnvC])) e) fun q hq => ?_
     ·rw [List.mem_singleton.mp hq]
      exact aC3 t ht
     ·rw [List.mem_singleton.mp hq]
      exact ⟨gC4, by simp⟩
    refine ZrI (hel C ρ) (hif C ρ) ⟨h4, _, rfl⟩ aC3 aD3 l2 i3 nC4 hv2 hl2 r4 (fun p hp => ?_) (fun i hi => ?_) e
    ·rw [List.mem_singleton.mp hp]
     exact ⟨v, y, by simp [upd], by simp, y3⟩
    ·have : i ≠ t := fun e => hi (x, t) Zz5 e.symm
     simp [upd, this]
 refine codeAny_compStart_list (loop _ rfl) ?_
 exact I1.self 0 W1 ρ H0 (([(C, oC)] ++ [(D, lst [])]) ++ fr) fs _ _ _ (.refl _) (rC.less fun q hq => by
  rcases List.mem_append.mp hq with hq | hq
  ·exact Zz3 _ (Zz3 _ (Zz4 _ hq))
  ·rcases List.mem_append.mp hq with hq | hq
   ·rcases List.mem_append.mp hq with hq | hq
    ·exact Zz4 _ hq
    ·exact Zz3 _ (Zz4 _ hq)
   ·exact Zz3 _ (Zz3 _ (Zz3 _ hq))) i1 (loop _ rfl)
theorem Zm1 {W : Wd} {ρ : Lc} {q : List V × Hp} {fr : List (Addr × Obj)} {C D : Addr} {oC : Obj} {ys : List Value} {h' h'' : Heap} (hv : VRs W q.1 ys) (hl : q.1.length ≤ LEN) (aD : ∀ t ∈ fr, D ≠ t.1) (aC : ∀ t ∈ fr, C ≠ t.1) (cd : C ≠ D) (r : Rep Γ W ρ q.2 ((C, oC) :: (D, lst ys) :: fr) h') (sb : Heap.SameBut C h' h'') :
  ∃ W', W.Le W' ∧ Rep Γ W' ρ (q.2 ++ [q.1]) fr h'' ∧ VR W' (.ref q.2.length) (.ref D) := by
 have r4 : Rep Γ W ρ q.2 ([] ++ ((D, lst ys) :: fr)) h'' := by
  refine Rep.swap (fs := [(C, oC)]) (fs' := []) r (fun q hq t ht => ?_) (fun b o hb e => sb.extBut b o (fun z => hb (by simp [z])) e) fun q hq => nomatch hq
  rw [List.mem_singleton.mp hq]
  rcases List.mem_cons.mp ht with e | ht
  ·rw [e]
   exact cd
  ·exact aC t ht
 exact Zfo r4 aD hv hl
theorem Ztw {elt iter : Expr} {x : Str} {px : Pos} {ifs : List Expr} {scope : Scope} {pos : Pos} {cl : List (Str × Addr)} {t : Nat} {g : Src} {c : Ts} {f : Ex} (hg : JI prog w Γ iter g) (hel : ∀ C ρ, J prog w (Zbk Γ scope cl C [(x, t)] ρ) elt f) (hif : ∀ C ρ, JF prog w (Zbk Γ scope cl C [(x, t)] ρ) ifs c)
  (hclos : closureFor scope Γ.env = pure cl) (hcell : ∀ y ∈ scope.names, y.2 ≠ .cell) (hkind : scope.kind = .function) (hnames : ∀ y ∈ scope.names, y.2 = .local → scope.names.lookup y.1 = some .local) (hx : scope.names.lookup x = some .local) (hs : ∀ x, foldedSetIterable iter Γ.env x = pure x := by intro _; rfl) :
  J prog w Γ (.ListComp elt [⟨.Name x px, iter, ifs, 0⟩] scope pos) (Zaz g (Zam t) c f) := by
 intro W ρ H fr s Q E v H' r hf post
 obtain ⟨z, e1, hf⟩ := Zz0.mp hf
 obtain ⟨q, e2, e3⟩ := Zz1.mp hf
 cases e3
 rw [eval_ListComp]
 refine wpAny_comprehension_free (use := Option.none) rfl hs hclos hkind hnames ?_
 refine comp_core (RR := fun acc C => compPost (model prog w) Γ.A E Option.none Q acc C) hg hel hif hcell hkind hx r (q := q) (by rw [e1]; exact e2) fun W2 h' tk' C D oC m₂ ys l2 hC hv hl aD aC cd r3 => ?_
 refine ⟨m₂, hC.ns (r3.frAt (q := (C, oC)) Zz5), fun h'' sb => ?_⟩
 obtain ⟨W5, l5, r5, v5⟩ := Zm1 hv hl aD aC cd r3 sb
 exact post W5 h'' tk' _ (l2.trans l5) r5 v5
theorem Zp8 {elt iter : Expr} {x y : Str} {px py pos spos : Pos} {ifs : List Expr} {scope : Scope} {cl : List (Str × Addr)} {t i : Nat} {g : Src} {c : Ts} {f : Ex} (hy : Sto prog w Γ y i) (hg : JI prog w Γ iter g) (hel : ∀ C ρ, J prog w (Zbk Γ scope cl C [(x, t)] ρ) elt f) (hif : ∀ C ρ, JF prog w (Zbk Γ scope cl C [(x, t)] ρ) ifs c)
  (hsw : swapsWith (.ListComp elt [⟨.Name x px, iter, ifs, 0⟩] scope pos) (some (.Name y py)) spos.line Γ.env = pure true)
  (hclos : closureFor scope Γ.env = pure cl) (hcell : ∀ y ∈ scope.names, y.2 ≠ .cell) (hkind : scope.kind = .function) (hnames : ∀ y ∈ scope.names, y.2 = .local → scope.names.lookup y.1 = some .local) (hx : scope.names.lookup x = some .local) (hs : ∀ x, foldedSetIterable iter Γ.env x = pure x := by intro _; rfl) :
  S1 prog w Γ (.Assign [.Name y py] (.ListComp elt [⟨.Name x px, iter, ifs, 0⟩] scope pos) spos) (ZK i (Zaz g (Zam t) c f)) := by
 intro W ρ H fr s Q E r rp hf post
 obtain ⟨p, e0, e9⟩ := Zz1.mp hf
 cases e9
 obtain ⟨z, e1, hf⟩ := Zz0.mp e0
 obtain ⟨q, e2, e3⟩ := Zz1.mp hf
 cases e3
 rw [exec_Assign_Name_used _ _ _ _ hsw]
 refine wpAny_bind (wpAny_standAt (wpAny_bind ?_))
 show wpAny _ Γ.A (do let _ ← comprehension (.ListComp elt [⟨.Name x px, iter, ifs, 0⟩] scope pos) scope Γ.env _ (newList []) false (eval iter Γ.env) (some (assign (.Name y py) Γ.env))) _ _ s
 refine wpAny_bind (wpAny_mono (wpAny_comprehension_free (use := some (assign (.Name y py) Γ.env)) (Q := fun _ s' => Q .next s') rfl hs hclos hkind hnames ?_) (fun _ s' h' => wpAny_pure (wpAny_pure h')) fun _ _ e => e)
 refine comp_core (RR := fun acc C => compPost (model prog w) Γ.A E (some (assign (.Name y py) Γ.env)) (fun _ s' => Q .next s') acc C) hg hel hif hcell hkind hx rp (q := q) (by rw [e1]; exact e2) fun W2 h' tk' C D oC m₂ ys l2 hC hv hl aD aC cd r3 => ?_
 have r4 : Rep Γ W2 ρ q.2 ((D, lst ys) :: (C, oC) :: fr) h' := r3.less fun t ht => by
  rcases List.mem_cons.mp ht with e | ht
  ·exact e ▸ List.mem_cons_of_mem _ Zz5
  ·rcases List.mem_cons.mp ht with e | ht
   ·exact e ▸ List.mem_cons_self
   ·exact Zz2 _ (Zz2 _ ht)
 obtain ⟨W5, l5, r5, v5⟩ := Zfo r4 (fun t ht => by
  rcases List.mem_cons.mp ht with e | ht
  ·rw [e]
   exact cd.symm
  ·exact aD t ht) hv hl
 refine wpAny_assign_Name (hy W5 ρ _ _ _ _ _ _ _ r5 v5 fun h6 t6 r6 => ?_)
 refine ⟨m₂, hC.ns (r6.frAt (q := (C, oC)) Zz5), fun h'' sb => ?_⟩
 have r7 : Rep Γ W5 (upd ρ i (.ref q.2.length)) (q.2 ++ [q.1]) ([] ++ fr) h'' :=
  Rep.swap (fs := [(C, oC)]) (fs' := []) r6 (fun q hq t ht => by rw [List.mem_singleton.mp hq]; exact aC t ht) (fun b o hb e => sb.extBut b o (fun z => hb (by simp [z])) e) fun q hq => nomatch hq
 exact post W5 h'' t6 (l2.trans l5) r7
end
end PM
end
section
set_option maxRecDepth 100000
set_option linter.all false
set_option autoImplicit false
namespace PM
open PySem PySem.W PySem.Calls PyProof.Rows PyProof PyProof.Rows.LCg PyProof.Rows.LCp
theorem ZlT (h : Heap) : ∀ as : List Addr, (∀ a ∈ as, ∃ o, h.get? a = some o) → ∃ fs : List (Addr × Obj), fs.map (·.1) = as ∧ ∀ q ∈ fs, h.get? q.1 = some q.2
 | [], _ => ⟨[], rfl, fun q hq => nomatch hq⟩
 | a :: as, d => by
  obtain ⟨o, ho⟩ := d a Zz5
  obtain ⟨fs, h1, h2⟩ := ZlT h as fun b hb => d b (Zz2 _ hb)
  refine ⟨(a, o) :: fs, by rw [List.map_cons, h1], fun q hq => ?_⟩
  rcases List.mem_cons.mp hq with e | hq
  ·rw [e]
   exact ho
  ·exact h2 q hq
structure Itr2 (prog : Program) (w : World) (Γ : Cx) (W0 : Wd) (it : Value) (as : List Addr) (It : Nat → List (Addr × Obj) → Prop) (nx : Nx) : Prop where
 adr : ∀ i fs, It i fs → fs.map (·.1) = as
 pair : ∀ i H v, nx i H = some (some v) → ∃ a b, v = .tup [a, b]
 item : ∀ (i : Nat) (W : Wd) (ρ : Lc) (H : Hp) (fr fs : List (Addr × Obj)) (s : Shared) (Q : Option Value → Shared → Prop) (E : Value → Shared → Prop) (a b : V), W0.Le W → Rep Γ W ρ H (fs ++ fr) s.heap → (∀ a ∈ as, ∀ t ∈ fr, a ≠ t.1) → It i fs → nx i H = some (some (.tup [a, b])) →
  (∀ (T : Addr) (h1 : Heap) (t1 : Nat) , (∀ (elts : List Expr) (k : Nat) (pos : Pos) (s1 : Shared) (Q1 : Unit → Shared → Prop) (E1 : Value → Shared → Prop), s1 = { s with heap := h1, toks := t1 } →
    (∀ (fs' : List (Addr × Obj)) (h' : Heap) (x y : Value), It (i + 1) fs' → Rep Γ W ρ H (fs' ++ fr) h' → IsTup h' T #[x, y] → VR W a x → VR W b y → Q1 () { s with heap := h', toks := t1 }) → wpAny (model prog w) Γ.A (letOwnedTupleGo (.Tuple elts k pos) it (.ref T)) Q1 E1 s1) → Q (some (.ref T)) { s with heap := h1, toks := t1 }) → wpAny (model prog w) Γ.A (pyNext it) Q E s
 done : ∀ (i : Nat) (W : Wd) (ρ : Lc) (H : Hp) (fr fs : List (Addr × Obj)) (s : Shared) (Q : Option Value → Shared → Prop) (E : Value → Shared → Prop), W0.Le W → Rep Γ W ρ H (fs ++ fr) s.heap → (∀ a ∈ as, ∀ t ∈ fr, a ≠ t.1) → It i fs → nx i H = some none →
  (∀ (h' : Heap) (tk' : Nat), Rep Γ W ρ H fr h' → Q none { s with heap := h', toks := tk' }) → wpAny (model prog w) Γ.A (pyNext it) Q E s
 self : ∀ (i : Nat) (W : Wd) (ρ : Lc) (H : Hp) (fr fs : List (Addr × Obj)) (s : Shared) (Q E : Value → Shared → Prop) (o : Option V), W0.Le W → Rep Γ W ρ H (fs ++ fr) s.heap → It i fs → nx i H = some o → Q it s → wpAny (model prog w) Γ.A (pyIter it) Q E s
noncomputable def JI2 (prog : Program) (w : World) (Γ : Cx) (e : Expr) (g : Src) : Prop := ∀ (W : Wd) (ρ : Lc) (H : Hp) (fr : List (Addr × Obj)) (s : Shared) (Q E : Value → Shared → Prop) (nx : Nx) (n : Nat) (H' : Hp),
 Rep Γ W ρ H fr s.heap → g ρ H = some (nx, n, H') →
 (∀ (W' : Wd) (h' : Heap) (tk' : Nat) (it : Value) (as : List Addr) (It : Nat → List (Addr × Obj) → Prop) (fs : List (Addr × Obj)), W.Le W' → It 0 fs → Rep Γ W' ρ H' (fs ++ fr) h' → (∀ a ∈ as, ∀ t ∈ fr, a ≠ t.1) → Itr2 prog w Γ W' it as It nx → (∃ o, nx 0 H' = some o) → Q it { s with heap := h', toks := tk' }) →
 wpAny (model prog w) Γ.A (eval e Γ.env) (fun xv s₁ => wpAny (model prog w) Γ.A (pyIter xv) Q E s₁) E s
noncomputable def ZfX (a b : Nat) : Nx := fun i H => H[a]?.bind fun vs => H[b]?.bind fun us => match vs[i]?, us[i]? with
 | some x, some y => some (some (.tup [x, y]))
 | _, _ => if i = min vs.length us.length then some none else none
noncomputable def ZdB (f g : Ex) : Src := fun ρ H => (f ρ H).bind fun p => (g ρ p.2).bind fun q => match p.1, q.1 with
 | .ref a, .ref b => q.2[a]?.bind fun vs => q.2[b]?.map fun us => (ZfX a b, min vs.length us.length + 1, q.2)
 | _, _ => none
noncomputable def Zca (i j : Nat) : V → Lc → Option Lc
 | .tup [a, b], ρ => some (upd (upd ρ i a) j b)
 | _, _ => none
noncomputable def ZS (z TI TO i1 i2 l1 l2 : Addr) (i : Nat) (h : Heap) : Prop := IsZip h z TI TO .none ∧ PySem.IsPair h TI (.ref i1) (.ref i2) ∧ (∃ a b, PySem.IsPair h TO a b) ∧ h.IsListIter i1 l1 i ∧ h.IsListIter i2 l2 i
theorem ZS.at {z TI TO i1 i2 l1 l2 : Addr} {i : Nat} {h h' : Heap} (x : ZS z TI TO i1 i2 l1 l2 i h) (e : ∀ a ∈ [z, TI, TO, i1, i2], ∀ o, h.get? a = some o → h'.get? a = some o) : ZS z TI TO i1 i2 l1 l2 i h' := by
 obtain ⟨h1, h2, ⟨a, b, h3⟩, h4, h5⟩ := x
 exact ⟨e z (by simp) _ h1, e TI (by simp) _ h2, ⟨a, b, e TO (by simp) _ h3⟩, h4.at fun o x => e i1 (by simp) o x, h5.at fun o x => e i2 (by simp) o x⟩
theorem ZS.have {z TI TO i1 i2 l1 l2 : Addr} {i : Nat} {h : Heap} (x : ZS z TI TO i1 i2 l1 l2 i h) : ∀ a ∈ [z, TI, TO, i1, i2], ∃ o, h.get? a = some o := by
 obtain ⟨h1, h2, ⟨a, b, h3⟩, ⟨o4, h4, _⟩, ⟨o5, h5, _⟩⟩ := x
 intro c hc
 simp only [List.mem_cons, List.not_mem_nil, or_false] at hc
 rcases hc with e | e | e | e | e <;> subst e
 ·exact ⟨_, h1⟩
 ·exact ⟨_, h2⟩
 ·exact ⟨_, h3⟩
 ·exact ⟨_, h4⟩
 ·exact ⟨_, h5⟩
noncomputable def ZIt (z TI TO i1 i2 l1 l2 : Addr) (i : Nat) (fs : List (Addr × Obj)) : Prop := fs.map (·.1) = [z, TI, TO, i1, i2] ∧ ∀ h : Heap, (∀ q ∈ fs, h.get? q.1 = some q.2) → ZS z TI TO i1 i2 l1 l2 i h
theorem Znw {z TI TO i1 i2 l1 l2 : Addr} {i : Nat} {h : Heap} (x : ZS z TI TO i1 i2 l1 l2 i h) : ∃ fs, ZIt z TI TO i1 i2 l1 l2 i fs ∧ ∀ q ∈ fs, h.get? q.1 = some q.2 := by
 obtain ⟨fs, h1, h2⟩ := ZlT h [z, TI, TO, i1, i2] x.have
 refine ⟨fs, ⟨h1, fun h' e => x.at fun a ha o ho => ?_⟩, h2⟩
 rw [← h1] at ha
 obtain ⟨q, hq, eq⟩ := List.mem_map.mp ha
 have := h2 q hq
 rw [eq, ho] at this
 cases this
 exact eq ▸ e q hq
section
variable {prog : Program} {w : World} {Γ : Cx}
theorem Ztx {W0 : Wd} {z TI TO i1 i2 l1 l2 : Addr} {a b : Nat} (ea : W0.pi[a]? = some l1) (eb : W0.pi[b]? = some l2) (D : ZipApart z TI TO i1 i2 l1 l2) :
  Itr2 prog w Γ W0 (.ref z) [z, TI, TO, i1, i2] (ZIt z TI TO i1 i2 l1 l2) (ZfX a b) := by
 refine ⟨fun i fs h => h.1, ?_, ?_, ?_, ?_⟩
 ·intro i H v e
  obtain ⟨vs, e1, e⟩ := Zz0.mp e
  obtain ⟨us, e2, e⟩ := Zz0.mp e
  split at e
  ·cases e
   exact ⟨_, _, rfl⟩
  ·split at e <;> cases e
 ·intro i W ρ H fr fs s Q E va vb le r ap hit hn post
  obtain ⟨vs, e1, e⟩ := Zz0.mp hn
  obtain ⟨us, e2, e⟩ := Zz0.mp e
  have hvu : vs[i]? = some va ∧ us[i]? = some vb := by
   split at e
   ·rename_i x y h1 h2
    cases e
    exact ⟨h1, h2⟩
   ·split at e <;> cases e
  obtain ⟨_, xs, k1, g1, v1⟩ := r.at e1 (le.at ea)
  obtain ⟨_, ys, k2, g2, v2⟩ := r.at e2 (le.at eb)
  obtain ⟨x, hx, rx⟩ := v1.at hvu.1
  obtain ⟨y, hy, ry⟩ := v2.at hvu.2
  have st : ZS z TI TO i1 i2 l1 l2 i s.heap := hit.2 _ fun q hq => r.frAt (Zz4 _ hq)
  have Wk := WalksT.zip2 (prog := prog) (w := w) (A := Γ.A) Γ.hh z TI TO i1 i2 l1 l2 D xs.toArray ys.toArray
  have isl1 : s.heap.IsList l1 xs.toArray := ⟨_, g1, rfl, k1, rfl⟩
  have isl2 : s.heap.IsList l2 ys.toArray := ⟨_, g2, rfl, k2, rfl⟩
  have hi : i < min xs.toArray.size ys.toArray.size := by
   have h1 := (Zz6.mp hx).1
   have h2 := (Zz6.mp hy).1
   simp
   omega
  refine Wk.item i s Q E hi ⟨st.1, st.2.1, st.2.2.1, st.2.2.2.1, st.2.2.2.2, isl1, isl2⟩ fun T vals h1 t1 hp hT hTup hmid keep1 => post T h1 t1 ?_
  intro elts k pos s1 Q1 E1 es1 q1
  subst es1
  have hTw := Wk.apart i T _ hmid
  refine Wk.go elts k pos i T _ Q1 E1 hmid fun h2 st2 keep2 => ?_
  obtain ⟨x', y', hx', hy', ev⟩ := hp
  have ex : x' = x := by
   have : xs[i]? = some x' := by simpa using hx'
   rw [hx] at this
   exact (Option.some.inj this).symm
  have ey : y' = y := by
   have : ys[i]? = some y' := by simpa using hy'
   rw [hy] at this
   exact (Option.some.inj this).symm
  subst ex ey ev
  obtain ⟨fs', hit', at'⟩ := Znw (h := h2) (⟨st2.1, st2.2.1, st2.2.2.1, st2.2.2.2.1, st2.2.2.2.2.1⟩ : ZS z TI TO i1 i2 l1 l2 (i + 1) h2)
  obtain ⟨oT, gT, cT, nT, dT⟩ := hTup
  refine q1 fs' h2 x' y' hit' ?_ ⟨oT, keep2 T oT hTw gT, cT, nT, dT⟩ rx ry
  refine r.swap (fs' := fs') (fun q hq t ht => ?_) (fun c o hc e => ?_) fun q hq => ⟨at' q hq, ?_⟩
  ·exact ap _ (hit.1 ▸ List.mem_map_of_mem hq) t ht
  ·rw [hit.1] at hc
   have hcw : c ∉ [z, TO, i1, i2] := fun h => hc (by simp at h ⊢; rcases h with h | h | h | h <;> simp [h])
   exact keep2 c o hcw (keep1 c o hcw e)
  ·rw [hit.1, ← hit'.1]
   exact List.mem_map_of_mem hq
 ·intro i W ρ H fr fs s Q E le r ap hit hn post
  obtain ⟨vs, e1, e⟩ := Zz0.mp hn
  obtain ⟨us, e2, e⟩ := Zz0.mp e
  obtain ⟨_, xs, k1, g1, v1⟩ := r.at e1 (le.at ea)
  obtain ⟨_, ys, k2, g2, v2⟩ := r.at e2 (le.at eb)
  have hi : i = min vs.length us.length := by
   split at e
   ·cases e
   ·split at e
    ·assumption
    ·cases e
  have st : ZS z TI TO i1 i2 l1 l2 i s.heap := hit.2 _ fun q hq => r.frAt (Zz4 _ hq)
  have Wk := WalksT.zip2 (prog := prog) (w := w) (A := Γ.A) Γ.hh z TI TO i1 i2 l1 l2 D xs.toArray ys.toArray
  have hm : min xs.toArray.size ys.toArray.size = i := by simp [v1.length, v2.length, hi]
  refine Wk.done s Q E (by rw [hm]; exact ⟨st.1, st.2.1, st.2.2.1, st.2.2.2.1, st.2.2.2.2, ⟨_, g1, rfl, k1, rfl⟩, ⟨_, g2, rfl, k2, rfl⟩⟩) fun h' tk keep => post h' tk ?_
  have := r.swap (fs' := []) (fun q hq t ht => ap _ (hit.1 ▸ List.mem_map_of_mem hq) t ht) (fun c o hc e => keep c o (fun h => hc (by rw [hit.1]; simp at h ⊢; rcases h with h | h | h | h <;> simp [h])) e) (fun q hq => nomatch hq)
  exact this
 ·intro i W ρ H fr fs s Q E o le r hit hn q
  obtain ⟨vs, e1, e⟩ := Zz0.mp hn
  obtain ⟨us, e2, e⟩ := Zz0.mp e
  obtain ⟨_, xs, k1, g1, v1⟩ := r.at e1 (le.at ea)
  obtain ⟨_, ys, k2, g2, v2⟩ := r.at e2 (le.at eb)
  have st : ZS z TI TO i1 i2 l1 l2 i s.heap := hit.2 _ fun q hq => r.frAt (Zz4 _ hq)
  have Wk := WalksT.zip2 (prog := prog) (w := w) (A := Γ.A) Γ.hh z TI TO i1 i2 l1 l2 D xs.toArray ys.toArray
  exact Wk.self i s Q E ⟨st.1, st.2.1, st.2.2.1, st.2.2.2.1, st.2.2.2.2, ⟨_, g1, rfl, k1, rfl⟩, ⟨_, g2, rfl, k2, rfl⟩⟩ q
theorem JI2.zip {x : Str} {np pos : Pos} {e1 e2 : Expr} {f g : Ex} (hn : Nm prog w Γ x (.type "zip")) (h1 : J prog w Γ e1 f) (h2 : J prog w Γ e2 g)
  (he : starEach [e1, e2] Γ.env = (false, eval e1 Γ.env) :: starEach [e2] Γ.env := by rfl) (he2 : starEach [e2] Γ.env = (false, eval e2 Γ.env) :: starEach [] Γ.env := by rfl) (hp : ∀ pos, (backTo pos (starEach [e2] Γ.env)).any (·.1) = false := by intro _; rfl) : JI2 prog w Γ (.Call (.Name x np) [e1, e2] [] pos) (ZdB f g) := by
 intro W ρ H fr s Q E nx n H' r hf post
 obtain ⟨p, a1, hf⟩ := Zz0.mp hf
 obtain ⟨q, a2, hf⟩ := Zz0.mp hf
 refine wpAny_Call_ofName (hn.use r ?_)
 refine PySem.Pv.callWith_type1 (wpAny_items_cons (h1 W ρ H fr s _ E _ _ r a1 fun W1 k1 t1 y1 l1 r1 v1 => ?_) he) he (hp pos)
 refine wpAny_items_cons (h2 W1 ρ _ fr _ _ E _ _ r1 a2 fun W2 k2 t2 y2 l2 r2 v2 => wpAny_items_nil ?_) he2
 have v1' := v1.mono l2
 obtain ⟨u1, H1⟩ := p
 obtain ⟨u2, H2⟩ := q
 simp only at hf v1' v2 r2
 cases u1 <;> first | (cases hf; done) | skip
 rename_i b1
 cases u2 <;> first | (cases hf; done) | skip
 rename_i b2
 obtain ⟨vs, c1, hf⟩ := Zz0.mp hf
 obtain ⟨us, c2, c3⟩ := Zz1.mp hf
 cases c3
 cases v1' with
 | @ref _ m1 ea =>
 cases v2 with
 | @ref _ m2 eb =>
 obtain ⟨_, xs, n1, g1, w1⟩ := r2.at c1 ea
 obtain ⟨_, ys, n2, g2, w2⟩ := r2.at c2 eb
 have isl1 : k2.IsList m1 xs.toArray := ⟨_, g1, rfl, n1, rfl⟩
 have isl2 : k2.IsList m2 ys.toArray := ⟨_, g2, rfl, n2, rfl⟩
 refine call_zip_2 (s := { s with heap := k2, toks := t2 }) isl1 isl2 fun h₁ hz hTI hTO hi1 hi2 hsz up => ?_
 have ap := zipApart_new (n := k2.objs.size) (Heap.lt_size g1) (Heap.lt_size g2)
 have Wk := WalksT.zip2 (prog := prog) (w := w) (A := Γ.A) Γ.hh _ _ _ _ _ m1 m2 ap xs.toArray ys.toArray
 have zs : ZS (k2.objs.size + 4) (k2.objs.size + 2) (k2.objs.size + 3) k2.objs.size (k2.objs.size + 1) m1 m2 0 h₁ := ⟨hz, hTI, ⟨_, _, hTO⟩, hi1, hi2⟩
 refine Wk.self 0 _ _ _ ⟨hz, hTI, ⟨_, _, hTO⟩, hi1, hi2, isl1.at fun o e => up _ o e, isl2.at fun o e => up _ o e⟩ ?_
 obtain ⟨fs, hit, at'⟩ := Znw zs
 obtain ⟨r3, ap3⟩ := r2.more (fs := fs) (h' := h₁) (fun b o e => up b o e) (fun q hq => ⟨at' q hq, by
  have : q.1 ∈ fs.map (·.1) := List.mem_map_of_mem hq
  rw [hit.1] at this
  simp at this
  rcases this with e | e | e | e | e <;> rw [e] <;> omega⟩)
 refine post W2 h₁ t2 _ _ _ fs (l1.trans l2) hit r3 (fun b hb t ht => ?_) (Ztx ea eb ap) ?_
 ·rw [← hit.1] at hb
  obtain ⟨q, hq, e⟩ := List.mem_map.mp hb
  exact e ▸ ap3 q hq t ht
 ·simp only [ZfX, c1, c2, Option.bind_some]
  split
  ·exact ⟨_, rfl⟩
  ·rename_i hno
   have : 0 = min vs.length us.length := by
    rcases Nat.eq_zero_or_pos vs.length with z | z
    ·rw [z]; simp
    ·rcases Nat.eq_zero_or_pos us.length with z' | z'
     ·rw [z']; simp
     ·exact (hno vs[0] us[0] (by simp [z]) (by simp [z'])).elim
   rw [if_pos this]
   exact ⟨_, rfl⟩
theorem Zsw {x1 x2 : Str} {i1 i2 kt : Nat} {p1 p2 tp : Pos} (h1 : Sto prog w Γ x1 i1) (h2 : Sto prog w Γ x2 i2) {W : Wd} {ρ : Lc} {H : Hp} {fr : List (Addr × Obj)} {s : Shared} {Q : Unit → Shared → Prop} {E : Value → Shared → Prop} {T : Addr} {y1 y2 : Value} {a b : V} (r : Rep Γ W ρ H fr s.heap) (ht : IsTup s.heap T #[y1, y2]) (v1 : VR W a y1) (v2 : VR W b y2)
  (post : ∀ (h' : Heap) (tk' : Nat), Rep Γ W (upd (upd ρ i1 a) i2 b) H fr h' → Q () { s with heap := h', toks := tk' }) : wpAny (model prog w) Γ.A (assign (.Tuple [.Name x1 p1, .Name x2 p2] kt tp) Γ.env (.ref T)) Q E s := by
 refine assign_Tuple_tuple Γ.hh ht rfl rfl fun g₄ he => ?_
 have r4 := r.grown (h' := g₄) fun b o e => he b o (Nat.ne_of_lt (Heap.lt_size e)) e
 refine assignInOrder_cons (wpAny_assign_Name (h1 W ρ H fr _ _ _ a y1 r4 v1 fun k5 t5 r5 => ?_))
 refine assignInOrder_cons (wpAny_assign_Name (h2 W _ H fr _ _ _ b y2 r5 v2 fun k6 t6 r6 => ?_))
 exact assignInOrder_nil (post k6 t6 r6)
theorem Zhe {x1 x2 : Str} {i1 i2 kt : Nat} {p1 p2 tp pos : Pos} {it : Expr} {body : List Stmt} {g : Src} {b : Sm} (h1 : Sto prog w Γ x1 i1) (h2 : Sto prog w Γ x2 i2) (hg : JI2 prog w Γ it g) (hb : Ss prog w Γ body b) (hs : ∀ x, foldedSetIterable it Γ.env x = pure x := by intro _; rfl) :
  S1 prog w Γ (.For (.Tuple [.Name x1 p1, .Name x2 p2] kt tp) it body [] pos) (ZaY g (Zca i1 i2) b) := by
 intro W ρ H fr s Q E r rp hf post
 obtain ⟨z, e1, hf⟩ := Zz0.mp hf
 obtain ⟨nx, n, H0⟩ := z
 refine wpAny_For (hg W ρ H fr s _ E nx n H0 rp e1 fun W1 k1 t1 itv as It fs l1 j1 r1 ap I1 _ => ?_) hs
 refine codeAny_forLoop_any (fun k s' => ∃ W' ρ' H' h' tk' j fs', s' = { s with heap := h', toks := tk' } ∧ W1.Le W' ∧ It j fs' ∧ Rep Γ W' ρ' H' (fs' ++ fr) h' ∧ Zdf nx (Zca i1 i2) b k j ρ' H' = some r) ?_ n ⟨W1, ρ, H0, k1, t1, 0, fs, rfl, .refl _, j1, r1, hf⟩
 rintro k s' ⟨W2, ρ2, H2, k2, t2, j, fs2, rfl, l2, j2, r2, e⟩
 cases k with
 | zero => cases e
 | succ k =>
  obtain ⟨o, e2, e⟩ := Zz0.mp e
  cases o with
  | none =>
   cases e
   exact I1.done j W2 ρ2 H2 fr fs2 _ _ _ l2 r2 ap j2 e2 fun h' tk' r3 => wpAny_execs_nil (post W2 h' tk' (l1.trans l2) r3)
  | some v =>
   obtain ⟨va, vb, ev⟩ := I1.pair j H2 v e2
   subst ev
   refine I1.item j W2 ρ2 H2 fr fs2 _ _ _ va vb l2 r2 ap j2 e2 fun T h3 t3 go => ?_
   obtain ⟨ρ3, e3, e⟩ := Zz0.mp e
   cases e3
   obtain ⟨q, e4, e⟩ := Zz0.mp e
   refine go _ _ _ _ _ _ rfl fun fs3 k3 y1 y2 j3 r3 ht w1 w2 => ?_
   refine Zsw h1 h2 (s := { s with heap := k3, toks := t3 }) r3 ht w1 w2 fun k4 t4 r4 => ?_
   refine hb W2 _ H2 (fs3 ++ fr) _ _ _ q r4 e4 ?_
   obtain ⟨u, ρ5, H5⟩ := q
   cases u with
   | some u =>
    cases e
    exact fun W5 k5 t5 x5 l5 r5 v5 => post W5 k5 t5 x5 ((l1.trans l2).trans l5) (r5.less fun q hq => List.mem_append_right _ hq) v5
   | none => exact fun W5 k5 t5 l5 r5 => ⟨k, Nat.lt_succ_self k, W5, ρ5, H5, k5, t5, j + 1, fs3, rfl, l2.trans l5, j3, r5, e⟩
theorem Zmr {elt iter : Expr} {x x₂ : Str} {px px₂ tp : Pos} {kt : Nat} {scope : Scope} {pos : Pos} {cl : List (Str × Addr)} {t t₂ : Nat} {g : Src} {f : Ex} (hg : JI2 prog w Γ iter g) (hel : ∀ C ρ, J prog w (Zbk Γ scope cl C [(x, t), (x₂, t₂)] ρ) elt f)
  (hcell : ∀ y ∈ scope.names, y.2 ≠ .cell) (hkind : scope.kind = .function) (hx : scope.names.lookup x = some .local) (hx₂ : scope.names.lookup x₂ = some .local) (hxx : x ≠ x₂) (htt : t ≠ t₂)
  {W : Wd} {ρ : Lc} {H : Hp} {fr : List (Addr × Obj)} {s : Shared} {E : Value → Shared → Prop} {q : List V × Hp} {RR : Value → Addr → Result → Shared → Prop} (r : Rep Γ W ρ H fr s.heap) (hf : ((g ρ H).bind fun z => Zcy z.1 (Zca t t₂) Zaq f ρ z.2.1 0 [] z.2.2) = some q)
  (hR : ∀ (W' : Wd) (h' : Heap) (tk' : Nat) (C D : Addr) (oC : Obj) (m₂ : Str → Option Value) (ys : List Value), W.Le W' → NsObj oC m₂ → VRs W' q.1 ys → q.1.length ≤ LEN → (∀ t ∈ fr, D ≠ t.1) → (∀ t ∈ fr, C ≠ t.1) → C ≠ D → Rep Γ W' ρ q.2 ((C, oC) :: (D, lst ys) :: fr) h' → RR (.ref D) C (.ok .next) { s with heap := h', toks := tk' }) :
  wpAny (model prog w) Γ.A (eval iter Γ.env) (fun xv s₁ => wpAny (model prog w) Γ.A (pyIter xv) (fun it s₂ => wpAny (model prog w) Γ.A (newList []) (fun acc s₃ => wpAny (model prog w) Γ.A (newFunctionEnv scope Γ.env.globals cl [] Γ.env.qual none .none (some Γ.env)) (fun cenv s₄ =>
   codeAny (model prog w) Γ.A (.compStart (.ListComp elt [⟨.Tuple [.Name x px, .Name x₂ px₂] kt tp, iter, [], 0⟩] scope pos) 0 it acc { cenv with scope := relabel scope Γ.env }) (RR acc cenv.locals) s₄) E s₃) E s₂) E s₁) E s := by
 obtain ⟨z, e1, e2⟩ := Zz0.mp hf
 obtain ⟨nx, n, H0⟩ := z
 refine hg W ρ H fr s _ E nx n H0 r e1 fun W1 k1 t1 itv as It fs l1 i1 r1 ap I1 hstart => ?_
 refine wpAny_newObj_type (wpAny_newFunctionEnv hcell (fun y hy => by simp at hy) (fun h₂ hns hsb => ?_) hkind)
 dsimp only at hns hsb ⊢
 obtain ⟨rD, aD⟩ := r1.more (fs := [(k1.objs.size, lst [])]) (fun b o e => Heap.get?_push_of_some (lst []) e) (fun q hq => by rw [List.mem_singleton.mp hq]; exact ⟨Heap.get?_push_size _ rfl, Nat.le_refl _⟩)
 generalize eH : k1.push { cls := .type "list", dict := none, data := .seq ([] : List Value).toArray } = K at hns hsb ⊢
 have eK : k1.push (lst []) = K := eH
 rw [eK] at rD
 obtain ⟨oC, gC, nC⟩ := ns_obj hns
 have up : ∀ b o, K.get? b = some o → h₂.get? b = some o := fun b o e => hsb.extBut b o (Nat.ne_of_lt (Heap.lt_size e)) (Heap.get?_push_of_some _ e)
 obtain ⟨rC, aC⟩ := rD.more (fs := [(K.objs.size, oC)]) up (fun q hq => by rw [List.mem_singleton.mp hq]; exact ⟨gC, Nat.le_refl _⟩)
 have adr0 := I1.adr 0 fs i1
 have offs : ∀ b ∈ as, b ≠ k1.objs.size ∧ b ≠ K.objs.size := fun b hb => by
  rw [← adr0] at hb
  obtain ⟨q, hq, e⟩ := List.mem_map.mp hb
  exact ⟨e ▸ (aD _ Zz5 q (Zz4 _ hq)).symm, e ▸ (aC _ Zz5 q (Zz3 _ (Zz4 _ hq))).symm⟩
 have cd : K.objs.size ≠ k1.objs.size := aC _ Zz5 (k1.objs.size, lst []) (Zz4 _ Zz5)
 have cfr : ∀ t ∈ fr, K.objs.size ≠ t.1 := fun t ht => aC _ Zz5 t (Zz3 _ (Zz3 _ ht))
 have dfr : ∀ t ∈ fr, k1.objs.size ≠ t.1 := fun t ht => aD _ Zz5 t (Zz3 _ ht)
 generalize k1.objs.size = D at *
 generalize K.objs.size = C at *
 have loop : ∀ s₃ : Shared, s₃ = { s with heap := h₂, toks := t1 + ([] : List (Str × Value)).length } →
   codeAny (model prog w) Γ.A (.compLoop (.ListComp elt [⟨.Tuple [.Name x px, .Name x₂ px₂] kt tp, iter, [], 0⟩] scope pos) 0 itv (.ref D) (compEnvC scope cl C Γ.env)) (RR (.ref D) C) s₃ := by
  intro s₃ hs₃
  subst hs₃
  refine codeAny_compLoop_pair (Zf4 Γ W1 ρ fr C D It nx (Zca t t₂) Zaq f q s) ?_ n ⟨W1, H0, h₂, _, 0, fs, [], [], oC, _, rfl, .refl _, i1, nC, .nil, Nat.zero_le _, rC, e2⟩
  rintro k s' ⟨W2, H2, k2, t2, j, fs2, acc, ys, oC2, m₂, rfl, l2, i2, hC2, hv2, hl2, r2, e⟩
  cases k with
  | zero => cases e
  | succ k =>
   obtain ⟨o, e4, e⟩ := Zz0.mp e
   have r2' : Rep Γ W2 ρ H2 (fs2 ++ ((C, oC2) :: (D, lst ys) :: fr)) k2 := r2.less fun q hq => by
    rcases List.mem_append.mp hq with hq | hq
    ·exact Zz2 _ (Zz2 _ (Zz4 _ hq))
    ·rcases List.mem_cons.mp hq with e | hq
     ·exact e ▸ List.mem_cons_self
     ·rcases List.mem_cons.mp hq with e | hq
      ·exact e ▸ List.mem_cons_of_mem _ Zz5
      ·exact Zz2 _ (Zz2 _ (Zz3 _ hq))
   have ap2 : ∀ b ∈ as, ∀ t ∈ (C, oC2) :: (D, lst ys) :: fr, b ≠ t.1 := fun b hb t ht => by
    rcases List.mem_cons.mp ht with e | ht
    ·rw [e]
     exact (offs b hb).2
    ·rcases List.mem_cons.mp ht with e | ht
     ·rw [e]
      exact (offs b hb).1
     ·exact ap b hb t ht
   cases o with
   | none =>
    cases e
    exact I1.done j W2 ρ H2 _ fs2 _ _ _ l2 r2' ap2 i2 e4 fun h' tk' r3 => hR W2 h' tk' C D oC2 m₂ ys (l1.trans l2) hC2 hv2 hl2 dfr cfr cd r3
   | some v =>
    obtain ⟨va, vb, ev⟩ := I1.pair j H2 v e4
    subst ev
    refine I1.item j W2 ρ H2 _ fs2 _ _ _ va vb l2 r2' ap2 i2 e4 fun T h3 t3 go => ?_
    obtain ⟨ρ3, e5, e⟩ := Zz0.mp e
    cases e5
    refine go _ _ _ _ _ _ rfl fun fs3 k3 y1 y2 i3 r3 htup w1 w2 => ?_
    have a3 : ∀ t ∈ fs3, t.1 ∈ as := fun t ht => by
     rw [← I1.adr _ _ i3]
     exact List.mem_map_of_mem ht
    refine assign_Tuple_tuple (s := { s with heap := k3, toks := t3 }) Γ.hh htup rfl rfl fun g₄ he => ?_
    have r3g := r3.grown (h' := g₄) fun b o e => he b o (Nat.ne_of_lt (Heap.lt_size e)) e
    have gC3 : g₄.get? C = some oC2 := r3g.frAt (q := (C, oC2)) (Zz3 _ Zz5)
    have nC3 : g₄.Ns C m₂ := hC2.ns gC3
    refine assignInOrder_cons (wpAny_assign_Name (wpAny_storeName_local (lookup_relabel_local hx) nC3 (fun h5 hn5 sb5 => ?_) (by simp [compEnvC, relabel, hkind])))
    refine assignInOrder_cons (wpAny_assign_Name (wpAny_storeName_local (lookup_relabel_local hx₂) hn5 (fun h4 hn4 sb4 => ?_) (by simp [compEnvC, relabel, hkind])))
    refine assignInOrder_nil ?_
    obtain ⟨oC4, gC4, nC4⟩ := ns_obj hn4
    have r3' : Rep Γ W2 ρ H2 ([(C, oC2)] ++ ((D, lst ys) :: (fs3 ++ fr))) g₄ := r3g.less fun q hq => by
     rcases List.mem_append.mp hq with hq | hq
     ·rw [List.mem_singleton.mp hq]
      exact Zz3 _ Zz5
     ·rcases List.mem_cons.mp hq with e | hq
      ·exact e ▸ List.mem_append_right _ (Zz2 _ Zz5)
      ·rcases List.mem_append.mp hq with hq | hq
       ·exact Zz4 _ hq
       ·exact Zz3 _ (Zz2 _ (Zz2 _ hq))
    have aC3 : ∀ t ∈ (D, lst ys) :: (fs3 ++ fr), C ≠ t.1 := fun t ht => by
     rcases List.mem_cons.mp ht with e | ht
     ·rw [e]
      exact cd
     ·rcases List.mem_append.mp ht with ht | ht
      ·exact (offs _ (a3 t ht)).2.symm
      ·exact cfr t ht
    have aD3 : ∀ t ∈ fs3 ++ fr, D ≠ t.1 := fun t ht => by
     rcases List.mem_append.mp ht with ht | ht
     ·exact (offs _ (a3 t ht)).1.symm
     ·exact dfr t ht
    have r4 : Rep Γ W2 ρ H2 ([(C, oC4)] ++ ((D, lst ys) :: (fs3 ++ fr))) h4 := by
     refine r3'.swap (fun q hq t ht => ?_) (fun b o hb e => sb4.extBut b o (fun z => hb (by simp [z, compEnvC])) (sb5.extBut b o (fun z => hb (by simp [z, compEnvC])) e)) fun q hq => ?_
     ·rw [List.mem_singleton.mp hq]
      exact aC3 t ht
     ·rw [List.mem_singleton.mp hq]
      exact ⟨gC4, by simp⟩
    have rc := Znv (scope := scope) (cl := cl) (ts := [(x, t), (x₂, t₂)]) (ρ := upd (upd ρ t va) t₂ vb) r4 aC3 nC4 (fun p hp => by
     rcases List.mem_cons.mp hp with e | hp
     ·rw [e]
      exact ⟨va, y1, by simp [upd, htt], by simp [hxx], w1⟩
     ·rw [List.mem_singleton.mp hp]
      exact ⟨vb, y2, by simp [upd], by simp, w2⟩) (fun i hi => by
     have h1 : i ≠ t := fun e => hi (x, t) Zz5 e.symm
     have h2 : i ≠ t₂ := fun e => hi (x₂, t₂) (Zz2 _ Zz5) e.symm
     simp [upd, h1, h2])
    exact ZmH (hel C ρ) aD3 cd l2 i3 hv2 rc e
 refine codeAny_compStart_list (loop _ rfl) ?_
 obtain ⟨o0, ho0⟩ := hstart
 exact I1.self 0 W1 ρ H0 (([(C, oC)] ++ [(D, lst [])]) ++ fr) fs _ _ _ o0 (.refl _) (rC.less fun q hq => by
  rcases List.mem_append.mp hq with hq | hq
  ·exact Zz3 _ (Zz3 _ (Zz4 _ hq))
  ·rcases List.mem_append.mp hq with hq | hq
   ·rcases List.mem_append.mp hq with hq | hq
    ·exact Zz4 _ hq
    ·exact Zz3 _ (Zz4 _ hq)
   ·exact Zz3 _ (Zz3 _ (Zz3 _ hq))) i1 ho0 (loop _ rfl)
theorem Zsx {elt iter : Expr} {x x₂ : Str} {px px₂ tp : Pos} {kt : Nat} {scope : Scope} {pos : Pos} {cl : List (Str × Addr)} {t t₂ : Nat} {g : Src} {f : Ex} (hg : JI2 prog w Γ iter g) (hel : ∀ C ρ, J prog w (Zbk Γ scope cl C [(x, t), (x₂, t₂)] ρ) elt f)
  (hclos : closureFor scope Γ.env = pure cl) (hcell : ∀ y ∈ scope.names, y.2 ≠ .cell) (hkind : scope.kind = .function) (hnames : ∀ y ∈ scope.names, y.2 = .local → scope.names.lookup y.1 = some .local) (hx : scope.names.lookup x = some .local) (hx₂ : scope.names.lookup x₂ = some .local) (hxx : x ≠ x₂) (htt : t ≠ t₂) (hs : ∀ x, foldedSetIterable iter Γ.env x = pure x := by intro _; rfl) :
  J prog w Γ (.ListComp elt [⟨.Tuple [.Name x px, .Name x₂ px₂] kt tp, iter, [], 0⟩] scope pos) (Zaz g (Zca t t₂) Zaq f) := by
 intro W ρ H fr s Q E v H' r hf post
 obtain ⟨z, e1, hf⟩ := Zz0.mp hf
 obtain ⟨q, e2, e3⟩ := Zz1.mp hf
 cases e3
 rw [eval_ListComp]
 refine wpAny_comprehension_free (use := Option.none) rfl hs hclos hkind hnames ?_
 refine Zmr (RR := fun acc C => compPost (model prog w) Γ.A E Option.none Q acc C) hg hel hcell hkind hx hx₂ hxx htt r (q := q) (by rw [e1]; exact e2) fun W2 h' tk' C D oC m₂ ys l2 hC hv hl aD aC cd r3 => ?_
 refine ⟨m₂, hC.ns (r3.frAt (q := (C, oC)) Zz5), fun h'' sb => ?_⟩
 obtain ⟨W5, l5, r5, v5⟩ := Zm1 hv hl aD aC cd r3 sb
 exact post W5 h'' tk' _ (l2.trans l5) r5 v5
end
end PM
end
section
set_option maxRecDepth 100000
set_option linter.all false
set_option autoImplicit false
namespace PM
open PySem PySem.W PySem.Calls PyProof.Rows PyProof PySem.Spec
theorem Zty {prog : Program} {w : World} {A A₀ : Around} {s : Shared} {base h₀ : Heap} {L : Addr} {m : Str → Option Value} {lent : List (Addr × Obj)} {K : Frag} {p : Program} {loose : List Str} {mean : ExcName → Option Value} {mg mb : Str → Option Value}
  {env : Env} {outer : List Env} {R : Result → Shared → Prop} {name qual : Str} {params : Arguments} {body : List Stmt} {scope : Scope} {dV kV doc pm cdv ct oc : Value} {an od : Option Addr} {osl : Array (Option Value)} {f : Addr} {args : Args} {binds : List (Str × Value)}
  (B : Below A₀ base outer h₀) (F : Fr h₀ L s.heap m) (X₀ : K.In h₀) (N : News h₀ L s.heap lent) (T : Top p loose mean mg mb h₀) (hA : A.frames = some (env :: outer)) (hf : env.frame = some L) (hke : env.scope.kind = .function)
  (ho : K.lookup f = some ⟨oc, od, .func (fnOf name qual params body scope dV kV doc pm an cdv ct), osl⟩) (hcd : codeIn K cdv qual = true) (hroom : A.depth < recursionLimit)
  (hbind : BindsTo s (fnOf name qual params body scope dV kV doc pm an cdv ct) args binds) (hall : (binds.all fun y => scope.names.lookup y.1 == some .local || scope.names.lookup y.1 == some .cell) = true) (hone : ((cellsFrom 0 scope.names []).map (·.1)).Nodup)
  (h : ∀ g L' h₁ tk cells, (∀ b o, s.heap.get? b = some o → b ∉ lent.map (·.1) → g.get? b = some o) → Fr g L' h₁ (bindL (envOfC qual scope L' f cdv).kindOf binds fun _ => none) → News g L' h₁ (cells ++ lent) → CellsAre (bindC (envOfC qual scope L' f cdv).kindOf binds fun _ => none) (cellsFrom (L' + 1) scope.names []) cells →
   (cellsFrom (L' + 1) scope.names []).Pairwise (fun x y => x.2 ≠ y.2) → (∀ n c, (n, c) ∈ cellsFrom (L' + 1) scope.names [] → L' < c) → Below A base (env :: outer) g → K.In g → Top p loose mean mg mb g → (∀ q ∈ lent, q.1 < L') → s.heap.objs.size ≤ L' →
   wpAny (model prog w) (A.deeper (envOfC qual scope L' f cdv)) (execs body (envOfC qual scope L' f cdv)) (fun fl s' => LeaveK h₀ L m g R (match fl with | .ret v => v | _ => .none) s')
    (fun e s' => wpAny (model prog w) (A.deeper (envOfC qual scope L' f cdv)) (leaving (envOfC qual scope L' f cdv) e) (fun _ s'' => R (.error e) s'') (fun e' s'' => R (.error e') s'') s') { s with heap := h₁, toks := tk })
  (hco : scope.isCoroutine = false) (hgen : scope.isGenerator = false) (hk : scope.kind = .function) : codeAny (model prog w) A (.call (.ref f) args) R s := by
 obtain ⟨FG, BG, st, lv⟩ := groundX (R := R) B F N hA hf hke
 have X := X₀.keeps F.keep
 refine codeAny_call_function (fd := fnOf name qual params body scope dV kV doc pm an cdv ct) hroom (X _ _ ho) rfl hco hgen rfl (codeRec_of X hcd) (hbind _ _ _ _ ?_)
 refine wpAny_newFunctionEnv_cells hk (kindsX hall _) fun fresh hfr s' inC => ?_
 subst hfr
 have up := inC.toInCall.keep
 refine ⟨(T.nolimit.keeps F.keep).keeps up, codeAny_func ?_⟩
 obtain ⟨h₁, tk, hs', _⟩ := inC.done
 subst hs'
 have nod := cellsFrom_names scope.names 0 (s.heap.objs.size + 1) [] [] rfl ▸ hone
 obtain ⟨cells, NC, Y⟩ := Cl.news (h₀ := s.heap) (L := s.heap.objs.size) (Nat.le_refl _) fun n c hm => ⟨inC.cell n c (lookup_of_mem_nodup nod hm), inC.above n c hm⟩
 have old : ∀ q ∈ lent, q.1 < s.heap.objs.size := fun q hq => Heap.lt_size (N q hq).1
 refine wpAny_mono (h _ s.heap.objs.size h₁ tk cells (fun b o e nb => hideAll_get _ e nb) ⟨inC.toInCall.ns, fun b o e => up b o (of_hideAll _ e), Nat.le_of_eq (hideAll_size _ _)⟩ (fun q hq => ?_) Y inC.apart inC.above BG (X₀.keeps st) (T.keeps st) old (Nat.le_refl _)) (fun fl s' hl => lv _ _ hl) fun _ _ y => y
 rcases List.mem_append.mp hq with hq | hq
 ·obtain ⟨c1, c2, c3⟩ := NC q hq
  refine ⟨c1, c2, ?_⟩
  cases e : (hideAll s.heap (lent.map (·.1))).get? q.1 with
  | none => rfl
  | some o =>
   have z := of_hideAll _ e
   rw [c3] at z
   cases z
 ·exact ⟨up _ _ (N q hq).1, Nat.ne_of_lt (old q hq), hideAll_none _ (List.mem_map_of_mem hq)⟩
section
variable (prog : Program) (w : World) (K : Frag) (p : Program) (loose : List Str) (mean : ExcName → Option Value) (mg mb : Str → Option Value)
noncomputable def Clr (Γ : Cx) (dp un : Nat) : Prop := ∃ (gd : Option (List Code)) (cn : Str) (cs : Scope) (a : Addr) (ccd : Value) (cl : List (Str × Addr)) (outer : List Env) (A₀ : Around) (base : Heap),
 Γ.A = ktrTop dp un gd cn cs Γ.L a ccd cl outer ∧ Below A₀ base outer Γ.h₀ ∧ K.In Γ.h₀ ∧ Top p loose mean mg mb Γ.h₀ ∧ cs.kind = .function
noncomputable def Def (f : Addr) (room : Nat) (F : List V → Hp → Option (V × Hp)) : Prop := ∀ (Γ : Cx) (dp un : Nat), Clr K p loose mean mg mb Γ dp un → dp + room < recursionLimit → un + 10 * room + 300 < cLine →
 ∀ (W : Wd) (ρ : Lc) (H : Hp) (fr : List (Addr × Obj)) (s : Shared) (Q E : Value → Shared → Prop) (as : List V) (xs : List Value) (v : V) (H' : Hp),
  Rep Γ W ρ H fr s.heap → VRs W as xs → F as H = some (v, H') → Zf2 Γ W ρ H' fr s Q v → wpAny (model prog w) Γ.A (call (.ref f) xs) Q E s
end
noncomputable def Zaa (n : Nat) (g : Sm) : List V → Hp → Option (V × Hp) := fun as H => if as.length = n then (g (fun i => as[i]?) H).map fun r => ((r.1.getD .none), r.2.2) else none
theorem ZqY {kindOf : Str → Option NameKind} : ∀ {ps : List Str} {xs : List Value} {m : Str → Option Value} {x : Str} {i : Nat} {y : Value}, ps.Nodup → ps[i]? = some x → xs[i]? = some y → kindOf x = some .local → bindL kindOf (ps.zip xs) m x = some y := by
 have skip : ∀ {ps : List Str} {xs : List Value} {m : Str → Option Value} {x : Str}, x ∉ ps → bindL kindOf (ps.zip xs) m x = m x := by
  intro ps
  induction ps with
  | nil => intro xs m x _; rfl
  | cons p ps ih =>
   intro xs m x hx
   cases xs with
   | nil => rfl
   | cons z xs =>
    simp only [List.zip_cons_cons, bindL]
    rw [ih (fun h => hx (Zz2 _ h))]
    have : x ≠ p := fun e => hx (e ▸ List.mem_cons_self)
    split <;> simp [this]
 intro ps
 induction ps with
 | nil => intro xs m x i y _ h; simp at h
 | cons p ps ih =>
  intro xs m x i y nd hp hx hk
  cases xs with
  | nil => simp at hx
  | cons z xs =>
   obtain ⟨n1, n2⟩ := List.nodup_cons.mp nd
   cases i with
   | zero =>
    simp at hp hx
    subst hp hx
    simp only [List.zip_cons_cons, bindL]
    rw [skip n1, if_pos hk]
    simp
   | succ i =>
    simp at hp hx
    simp only [List.zip_cons_cons, bindL]
    exact ih n2 hp hx hk
theorem ZqZ {kindOf : Str → Option NameKind} : ∀ {ps : List Str} {xs : List Value} {m : Str → Option Value} {x : Str} {i : Nat} {y : Value}, ps.Nodup → ps[i]? = some x → xs[i]? = some y → kindOf x = some .cell → bindC kindOf (ps.zip xs) m x = some y := by
 have skip : ∀ {ps : List Str} {xs : List Value} {m : Str → Option Value} {x : Str}, x ∉ ps → bindC kindOf (ps.zip xs) m x = m x := by
  intro ps
  induction ps with
  | nil => intro xs m x _; rfl
  | cons p ps ih =>
   intro xs m x hx
   cases xs with
   | nil => rfl
   | cons z xs =>
    simp only [List.zip_cons_cons, bindC]
    rw [ih (fun h => hx (Zz2 _ h))]
    have : x ≠ p := fun e => hx (e ▸ List.mem_cons_self)
    split <;> simp [this]
 intro ps
 induction ps with
 | nil => intro xs m x i y _ h; simp at h
 | cons p ps ih =>
  intro xs m x i y nd hp hx hk
  cases xs with
  | nil => simp at hx
  | cons z xs =>
   obtain ⟨n1, n2⟩ := List.nodup_cons.mp nd
   cases i with
   | zero =>
    simp at hp hx
    subst hp hx
    simp only [List.zip_cons_cons, bindC]
    rw [skip n1, if_neg (by rw [hk]; simp)]
    simp
   | succ i =>
    simp at hp hx
    simp only [List.zip_cons_cons, bindC]
    exact ih n2 hp hx hk
theorem ZfD {cm : Str → Option Value} : ∀ {cs : List (Str × Addr)} {cells : List (Addr × Obj)} {x : Str} {c : Addr}, CellsAre cm cs cells → (x, c) ∈ cs → ∃ o, (c, o) ∈ cells ∧ o.data = .cell (cm x)
 | _, _, _, _, .nil, h => nomatch h
 | _, _, _, _, .cons hd r, h => by
  rcases List.mem_cons.mp h with e | h
  ·cases e
   exact ⟨_, List.mem_cons_self, hd⟩
  ·obtain ⟨o, h1, h2⟩ := ZfD r h
   exact ⟨o, List.mem_cons_of_mem _ h1, h2⟩
theorem Znx {cm : Str → Option Value} : ∀ {cs : List (Str × Addr)} {cells : List (Addr × Obj)} {q : Addr × Obj}, CellsAre cm cs cells → q ∈ cells → ∃ x, (x, q.1) ∈ cs
 | _, _, _, .nil, h => nomatch h
 | _, _, _, .cons hd r, h => by
  rcases List.mem_cons.mp h with e | h
  ·cases e
   exact ⟨_, List.mem_cons_self⟩
  ·obtain ⟨x, h1⟩ := Znx r h
   exact ⟨x, List.mem_cons_of_mem _ h1⟩
theorem Zdp {α β : Type} [BEq α] [LawfulBEq α] : ∀ {l : List (α × β)} {x : α} {y : β}, l.lookup x = some y → (x, y) ∈ l
 | [], _, _, h => by simp at h
 | (a, b) :: r, x, y, h => by
  rw [List.lookup_cons] at h
  split at h
  ·rename_i e
   cases h
   have := eq_of_beq e
   subst this
   exact Zz5
  ·exact Zz2 _ (Zdp h)
end PM
end
section
set_option maxRecDepth 100000
set_option linter.all false
set_option autoImplicit false
namespace PM
open PySem PySem.W PySem.Calls PyProof.Rows PyProof PySem.Spec
section
variable {prog : Program} {w : World} {K : Frag} {p : Program} {loose : List Str} {mean : ExcName → Option Value} {mg mb : Str → Option Value}
theorem Ztz {name qual : Str} {params : Arguments} {body : List Stmt} {scope : Scope} {dV kV doc pm cdv ct oc : Value} {an od : Option Addr} {osl : Array (Option Value)} {f : Addr} {names : List Str} {n room : Nat} {g : Sm}
  (ho : K.lookup f = some ⟨oc, od, .func (fnOf name qual params body scope dV kV doc pm an cdv ct), osl⟩) (hcd : codeIn K cdv qual = true) (nd : names.Nodup) (hn : n ≤ names.length)
  (hbind : ∀ s xs, xs.length = n → BindsTo s (fnOf name qual params body scope dV kV doc pm an cdv ct) ⟨xs, []⟩ ((names.take n).zip xs)) (hkinds : ∀ x ∈ names.take n, scope.names.lookup x = some .local ∨ scope.names.lookup x = some .cell) (hone : ((cellsFrom 0 scope.names []).map (·.1)).Nodup)
  (hco : scope.isCoroutine = false) (hgen : scope.isGenerator = false) (hk : scope.kind = .function)
  (hbody : ∀ (dp un : Nat) (gd : Option (List Code)) (L : Addr) (outer : List Env) (h₀ : Heap) (hu : un + 200 < cLine), Clr K p loose mean mg mb (ZbF dp un gd qual scope L f cdv (cellsFrom (L + 1) scope.names []) outer h₀ hu names) dp un → dp + room < recursionLimit → un + 10 * room + 300 < cLine →
   Ss prog w (ZbF dp un gd qual scope L f cdv (cellsFrom (L + 1) scope.names []) outer h₀ hu names) body g) :
  Def prog w K p loose mean mg mb f (room + 1) (Zaa n g) := by
 intro Γ dp un clr hd hu W ρ H fr s Q E as xs v H' r hx hF post
 obtain ⟨gd, cn, cs, a, ccd, cl, outer, A₀, base, eA, B, X, T, hke⟩ := clr
 unfold Zaa at hF
 split at hF
 ·rename_i hlen
  obtain ⟨res, e1, e2⟩ := Zz1.mp hF
  obtain ⟨o, ρ', K'⟩ := res
  cases e2
  obtain ⟨m, c, led, r⟩ := r
  have hxl : xs.length = n := by rw [hx.length, hlen]
  have inn : ∀ q ∈ led, (q.1 ∈ W.pi ∨ q.1 ∈ W.tups.map (·.1)) ↔ q ∈ led.filter (fun q => decide (q.1 ∈ W.pi ∨ q.1 ∈ W.tups.map (·.1))) := fun q hq => ⟨fun h => List.mem_filter.mpr ⟨hq, by simpa using h⟩, fun h => by simpa using (List.mem_filter.mp h).2⟩
  have isub : ∀ q ∈ led.filter (fun q => decide (q.1 ∈ W.pi ∨ q.1 ∈ W.tups.map (·.1))), q ∈ led := fun q hq => (List.mem_filter.mp hq).1
  generalize hlent : led.filter (fun q => decide (q.1 ∈ W.pi ∨ q.1 ∈ W.tups.map (·.1))) = lent at inn isub
  have notin : ∀ q ∈ led, q.1 ∉ W.pi → (∀ t ∈ W.tups, q.1 ≠ t.1) → q.1 ∉ lent.map (·.1) := fun q hq h1 h2 h3 => by
   obtain ⟨t, ht, e⟩ := List.mem_map.mp h3
   rcases (inn t (isub t ht)).mpr ht with z | z
   ·exact h1 (e ▸ z)
   ·obtain ⟨u, hu, e'⟩ := List.mem_map.mp z
    exact h2 u hu (e ▸ e'.symm)
  rw [eA]
  refine wpAny_call ?_
  refine Zty (env := envX cn cs Γ.L a ccd cl) (lent := lent) B r.F X (fun q hq => r.N q (isub q hq)) T rfl rfl hke ho hcd (by show dp < recursionLimit; omega) (hbind s xs hxl) ?_ hone ?_ hco hgen hk
  ·refine List.all_eq_true.mpr fun y hy => ?_
   rcases hkinds y.1 (List.of_mem_zip hy).1 with h | h <;> simp [h]
  intro g0 L' h₁ tk cells stay F' N' Y ap ab B' X' T' old szL
  have hu' : (un + 3) + 200 < cLine := by omega
  have clr' : Clr K p loose mean mg mb (ZbF (dp + 1) (un + 3) gd qual scope L' f cdv (cellsFrom (L' + 1) scope.names []) (envX cn cs Γ.L a ccd cl :: outer) g0 hu' names) (dp + 1) (un + 3) :=
   ⟨gd, qual, scope, f, cdv, cellsFrom (L' + 1) scope.names [], envX cn cs Γ.L a ccd cl :: outer, _, base, rfl, B', X', T', hk⟩
  have below : ∀ q ∈ cells, L' < q.1 := fun q hq => by
   obtain ⟨x, hx⟩ := Znx Y hq
   exact ab x _ hx
  have piLt : ∀ b ∈ W.pi, b < L' := fun b hb => by
   obtain ⟨o, ho⟩ := r.piIn b hb
   exact Nat.lt_of_lt_of_le (Heap.lt_size (r.get ho)) szL
  have tuLt : ∀ t ∈ W.tups, t.1 < L' := fun t ht => Nat.lt_of_lt_of_le (Heap.lt_size (r.get (r.R.tups t ht))) szL
  have scN : W.sc.1 ∉ lent.map (·.1) := fun z => by
   obtain ⟨t, ht, e⟩ := List.mem_map.mp z
   exact r.notSc t (isub t ht) e
  have tkn : ∀ {i : Nat} {x : Str} {u : V}, names[i]? = some x → as[i]? = some u → (names.take n)[i]? = some x ∧ ∃ y, xs[i]? = some y ∧ VR W u y := fun {i x u} h1 h2 => by
   have hi : i < n := by rw [← hlen]; exact (Zz6.mp h2).1
   exact ⟨by rw [List.getElem?_take_of_lt hi]; exact h1, hx.at h2⟩
  have ndt : (names.take n).Nodup := nd.sublist (List.take_sublist _ _)
  have rep : Rep (ZbF (dp + 1) (un + 3) gd qual scope L' f cdv (cellsFrom (L' + 1) scope.names []) (envX cn cs Γ.L a ccd cl :: outer) g0 hu' names) W (fun i => as[i]?) H [] h₁ := by
   refine ⟨_, cells, cells ++ lent, ⟨F', N', ⟨r.R.len, r.R.nd, fun i vs e => ?_, fun q hq => ?_, r.R.kind⟩, stay _ _ (r.F.keep _ _ r.sc) scN, r.sc0, fun q hq => (nomatch hq), fun q hq => (nomatch hq), fun q hq => List.mem_append_left _ hq, fun q hq z => ?_, fun q _ t ht => (nomatch ht), fun q hq => (nomatch hq), fun q hq t ht => ?_, ⟨fun i x u hi hk1 hu1 => ?_, fun i x u hi hk1 hu1 => ?_, fun x c1 hc => ?_, fun x y c1 h1 h2 => ?_⟩⟩⟩
   ·obtain ⟨l, b, ys, k, h1, h2, h3⟩ := r.R.lists i vs e
    exact ⟨l, b, ys, k, h1, ZdT h2 fun z => List.mem_append_right _ ((inn _ z).mp (.inl (List.mem_of_getElem? h1))), h3⟩
   ·exact ZdT (r.R.tups q hq) fun z => List.mem_append_right _ ((inn _ z).mp (.inr (List.mem_map_of_mem hq)))
   ·exact absurd (Nat.lt_trans (piLt _ z) (below q hq)) (Nat.lt_irrefl _)
   ·exact Nat.ne_of_gt (Nat.lt_trans (tuLt t ht) (below q hq))
   ·obtain ⟨h1, y, h2, h3⟩ := tkn hi hu1
    exact ⟨y, ZqY ndt h1 h2 hk1, h3⟩
   ·obtain ⟨h1, y, h2, h3⟩ := tkn hi hu1
    have hs := cellsFrom_some scope.names (L' + 1) [] (.inl hk1)
    obtain ⟨c1, hc1⟩ := Option.isSome_iff_exists.mp hs
    obtain ⟨o1, ho1, hd1⟩ := ZfD Y (Zdp hc1)
    refine ⟨c1, o1, y, hc1, ho1, ?_, h3⟩
    rw [hd1, ZqZ ndt h1 h2 hk1]
   ·obtain ⟨o1, ho1, hd1⟩ := ZfD Y (Zdp hc)
    exact ⟨o1, _, ho1, hd1⟩
   ·exact name_of_addr ap (Zdp h1) (Zdp h2)
  have hb := hbody (dp + 1) (un + 3) gd L' (envX cn cs Γ.L a ccd cl :: outer) g0 hu' clr' (by omega) (by omega)
  have back : ∀ (W' : Wd) (h' : Heap) (tk' : Nat) (x : Value), W.Le W' → Rep (ZbF (dp + 1) (un + 3) gd qual scope L' f cdv (cellsFrom (L' + 1) scope.names []) (envX cn cs Γ.L a ccd cl :: outer) g0 hu' names) W' ρ' K' [] h' → VR W' (o.getD .none) x →
    LeaveK Γ.h₀ Γ.L m g0 (fun r s' => match r with | .ok (.ret v) => Q v s' | .ok _ => False | .error e => E e s') x { s with heap := h', toks := tk' } := by
   intro W' h' tk' x l' r' x'
   obtain ⟨m', c', led', r'⟩ := r'
   refine ⟨L', m', led', r'.F, r'.N, fun FG NG => post W' h' tk' x l' ?_ x'⟩
   have g0at : ∀ q ∈ led, q.1 ∉ lent.map (·.1) → g0.get? q.1 = some q.2 := fun q hq hn => stay _ _ (r.N q hq).1 hn
   have frN : ∀ q ∈ fr, q.1 ∉ lent.map (·.1) := fun q hq => notin q (r.frIn q hq) (r.frOff q hq) (r.frTup q hq)
   have clN : ∀ q ∈ c, q.1 ∉ lent.map (·.1) := fun q hq => notin q (r.clIn q hq) (r.clOff q hq) (r.clTup q hq)
   have newN : ∀ t ∈ led', g0.get? t.1 = none := fun t ht => (r'.N t ht).2.2
   have far : ∀ q ∈ led, q.1 ∉ lent.map (·.1) → ∀ t ∈ W'.sc :: led', q.1 ≠ t.1 := fun q hq hn t ht e => by
    rcases List.mem_cons.mp ht with e2 | ht
    ·rw [e2, l'.sc] at e
     exact r.notSc q hq e
    ·have := g0at q hq hn
     rw [e, newN t ht] at this
     cases this
   have farPi : ∀ q ∈ led, q.1 ∉ lent.map (·.1) → q.1 ∉ W'.pi := fun q hq hn z => by
    obtain ⟨o2, h2⟩ := r'.piIn _ z
    exact far q hq hn _ h2 rfl
   have keep : ∀ q ∈ led, q.1 ∉ lent.map (·.1) → q ∈ led' ++ led.filter (fun q => decide (q.1 ∉ lent.map (·.1))) := fun q hq hn => List.mem_append_right _ (List.mem_filter.mpr ⟨hq, by simpa using hn⟩)
   refine ⟨m, c, led' ++ led.filter (fun q => decide (q.1 ∉ lent.map (·.1))), ⟨FG, fun q hq => ?_, r'.R.mono fun q hq => ZeZ hq fun x hx => List.mem_append_left _ hx, l'.sc ▸ r.sc, r'.sc0, fun q hq => keep q (r.frIn q hq) (frN q hq), fun q hq => farPi q (r.frIn q hq) (frN q hq), fun q hq => keep q (r.clIn q hq) (clN q hq), fun q hq => farPi q (r.clIn q hq) (clN q hq), r.apart, fun q hq t ht => far q (r.frIn q hq) (frN q hq) t (r'.R.tups t ht), fun q hq t ht => far q (r.clIn q hq) (clN q hq) t (r'.R.tups t ht), Γ.mono l' r.own⟩⟩
   rcases List.mem_append.mp hq with hq | hq
   ·exact NG q hq
   ·obtain ⟨h1, h2⟩ := List.mem_filter.mp hq
    exact ⟨r'.F.keep _ _ (g0at q h1 (by simpa using h2)), (r.N q h1).2⟩
  refine hb W _ H [] _ _ _ (o, ρ', K') rep e1 ?_
  cases o with
  | none => exact fun W' h' tk' l' r' => back W' h' tk' .none l' r' .none
  | some v0 => exact fun W' h' tk' x l' r' x' => back W' h' tk' x l' r' x'
 ·cases hF
theorem Zsy {Γ : Cx} {dp un : Nat} {x : Str} {np pos : Pos} {f : Addr} {room : Nat} {e : Expr} {es : List Expr} {g : Exs} {o : List V → Hp → Option (V × Hp)} (clr : Clr K p loose mean mg mb Γ dp un) (hn : Nm prog w Γ x (.ref f)) (hkeep : keepIn K (.ref f) = true) (D : Def prog w K p loose mean mg mb f room o) (hd : dp + room < recursionLimit) (hu : un + 10 * room + 300 < cLine)
  (h : Js prog w Γ (e :: es) g) (he : starEach (e :: es) Γ.env = (false, eval e Γ.env) :: starEach es Γ.env := by rfl) (hp : ∀ pos, (backTo pos (starEach es Γ.env)).any (·.1) = false := by intro _; rfl) : J prog w Γ (.Call (.Name x np) (e :: es) [] pos) (ZB o g) := by
 intro W ρ H fr s Q E v H' r hf post
 obtain ⟨q, e1, hf⟩ := Zz0.mp hf
 have X : K.In Γ.h₀ := by
  obtain ⟨_, _, _, _, _, _, _, _, _, _, _, X, _⟩ := clr
  exact X
 refine wpAny_Call_ofName (hn.use r ?_)
 refine callWith_K (first := []) X hkeep (h pos W ρ H fr s _ E _ _ r e1 fun W1 k1 t1 xs l1 r1 x1 => ⟨?_, ?_⟩) he (hp pos)
 ·obtain ⟨m, c, led, r1⟩ := r1
  exact X.keeps r1.F.keep
 ·exact D Γ dp un clr hd hu W1 ρ _ fr _ Q E _ xs v H' r1 x1 hf fun W2 k2 t2 y l2 r2 y2 => post W2 k2 t2 y (l1.trans l2) r2 y2
theorem Zbv {Γ : Cx} {dp un : Nat} {scope : Scope} {cl : List (Str × Addr)} {C : Addr} {ts : List (Str × Nat)} {ρ0 : Lc} (h : Clr K p loose mean mg mb Γ dp un) : Clr K p loose mean mg mb (Zbk Γ scope cl C ts ρ0) dp un := h
end
end PM
end
section
set_option maxRecDepth 100000
set_option linter.all false
set_option autoImplicit false
namespace PM
open PySem PySem.W PySem.Calls PyProof.Rows PyProof PySem.Spec
theorem Zit {lo : Nat} : ∀ (names : List (Str × NameKind)) (n : Nat) (acc : List (Str × Addr)), acc.Pairwise (fun x y => x.2 ≠ y.2) → (∀ q ∈ acc, lo < q.2 ∧ q.2 < n) → lo < n → (cellsFrom n names acc).Pairwise (fun x y => x.2 ≠ y.2) ∧ ∀ q ∈ cellsFrom n names acc, lo < q.2
 | [], n, acc, h1, h2, _ => ⟨h1, fun q hq => (h2 q hq).1⟩
 | (y, k) :: r, n, acc, h1, h2, h3 => by
  unfold cellsFrom
  by_cases hk : (k == .cell) = true
  ·rw [if_pos hk]
   refine Zit r (n + 1) ((y, n) :: acc) (List.pairwise_cons.mpr ⟨fun q hq => Nat.ne_of_gt (h2 q hq).2, h1⟩) (fun q hq => ?_) (Nat.lt_succ_of_lt h3)
   rcases List.mem_cons.mp hq with e | hq
   ·rw [e]
    exact ⟨h3, Nat.lt_succ_self n⟩
   ·exact ⟨(h2 q hq).1, Nat.lt_succ_of_lt (h2 q hq).2⟩
  ·rw [if_neg hk]
   exact Zit r n acc h1 h2 h3
theorem Zq0 {P : Params} {h : Heap} {a : Addr} {ns : List Int} (w1 : Well P h (.ref a) (ofPy (.list (ns.map PyData.int)))) (W : Wd) : ∃ vs, h.get? a = some (ZbM vs 0) ∧ VRs W (ns.map V.int) vs := by
 have key : ∀ {ns : List Int} {vs : List Value} {xs : List WData}, xs = (ns.map PyData.int).map ofPy → WellAll P h vs xs → VRs W (ns.map V.int) vs := by
  intro ns
  induction ns with
  | nil => intro vs xs e h; subst e; cases h; exact .nil
  | cons n ns ih =>
   intro vs xs e h
   subst e
   cases h with
   | cons h1 h2 =>
    cases h1 with
    | int i t => exact .cons (.int _ _) (ih rfl h2)
 have e : ofPy (.list (ns.map PyData.int)) = .list ((ns.map PyData.int).map ofPy) := by rw [ofPy, ofPys_eq]
 rw [e] at w1
 cases w1 with
 | list hg ha => exact ⟨_, hg, key rfl ha⟩
section
variable {prog : Program} {w : World} {K : Frag} {p : Program} {loose : List Str} {mean : ExcName → Option Value} {mg mb : Str → Option Value}
theorem Zsz {P : Params} {h₀ : Heap} {s : Shared} {sa fa : Addr} {cd : Value} {ns : List Int} {qual pname : Str} {scope : Scope} {body : List Stmt} {names : List Str} {g : Sm} {cells : List (Addr × Obj)} {Q : Flow → Shared → Prop} {E : Value → Shared → Prop} {room : Nat} {H' : Hp}
  (hbody : ∀ (dp un : Nat) (gd : Option (List Code)) (L a : Addr) (ccd : Value) (outer : List Env) (h₀ : Heap) (hu : un + 200 < cLine), Clr K p loose mean mg mb (ZbF dp un gd qual scope L a ccd (cellsFrom (L + 1) scope.names []) outer h₀ hu names) dp un → dp + room < recursionLimit → un + 10 * room + 300 < cLine →
   Ss prog w (ZbF dp un gd qual scope L a ccd (cellsFrom (L + 1) scope.names []) outer h₀ hu names) body g)
  (hd : callerA.depth + 1 + room < recursionLimit) (hun : callerA.units + 3 + 10 * room + 300 < cLine) (hk : scope.kind = .function) (h0 : names[0]? = some pname)
  (KX : K.In h₀) (T : Top p loose mean mg mb h₀) (w1 : Well P h₀ (.ref sa) (ofPy (.list (ns.map PyData.int)))) (hlen : ns.length ≤ LEN)
  (F : Fr h₀ h₀.objs.size s.heap (bindL (envOfC qual scope h₀.objs.size fa cd).kindOf [(pname, .ref sa)] fun _ => none)) (N : News h₀ h₀.objs.size s.heap cells) (X0 : CellsAre (bindC (envOfC qual scope h₀.objs.size fa cd).kindOf [(pname, .ref sa)] fun _ => none) (cellsFrom (h₀.objs.size + 1) scope.names []) cells)
  (hg : Zaa 1 g [.ref 0] [ns.map V.int] = some (.bool true, H')) (post : ∀ h' tk' m', Fr h₀ h₀.objs.size h' m' → Q (.ret (.bool true)) { s with heap := h', toks := tk' }) :
  wpAny (model prog w) (callerA.deeper (envOfC qual scope h₀.objs.size fa cd)) (execs body (envOfC qual scope h₀.objs.size fa cd)) Q E s := by
 have hu' : (callerA.units + 3) + 200 < cLine := by omega
 have clr : Clr K p loose mean mg mb (ZbF (callerA.depth + 1) (callerA.units + 3) callerA.guards qual scope h₀.objs.size fa cd (cellsFrom (h₀.objs.size + 1) scope.names []) [] h₀ hu' names) (callerA.depth + 1) (callerA.units + 3) :=
  ⟨callerA.guards, qual, scope, fa, cd, cellsFrom (h₀.objs.size + 1) scope.names [], [], _, _, rfl, below_caller h₀, KX, T, hk⟩
 have hb := hbody (callerA.depth + 1) (callerA.units + 3) callerA.guards h₀.objs.size fa cd [] h₀ hu' clr hd hun
 obtain ⟨vs, hsc, hv⟩ := Zq0 w1 ⟨[sa], [], (sa, ZbM [] 0)⟩
 have hv' : VRs ⟨[sa], [], (sa, ZbM vs 0)⟩ (ns.map V.int) vs := by
  clear hg post w1 hlen hsc
  generalize ns.map V.int = us at hv
  have key : ∀ {us : List V} {xs : List Value}, VRs ⟨[sa], [], (sa, ZbM [] 0)⟩ us xs → VRs ⟨[sa], [], (sa, ZbM vs 0)⟩ us xs := by
   intro us
   induction us with
   | nil => intro xs h; cases h; exact .nil
   | cons u us ih =>
    intro xs h
    cases h with
    | cons a b =>
     refine .cons ?_ (ih b)
     cases a with
     | none => exact .none
     | bool b => exact .bool b
     | int i t => exact .int i t
     | str s t => exact .str s t
     | tup hm _ _ => exact nomatch hm
     | ref e => exact .ref e
  exact key hv
 have far := Zit (lo := h₀.objs.size) scope.names (h₀.objs.size + 1) [] .nil (fun q hq => nomatch hq) (Nat.lt_succ_self _)
 unfold Zaa at hg
 rw [if_pos (show ([V.ref 0] : List V).length = 1 from rfl)] at hg
 obtain ⟨res, e1, e2⟩ := Zz1.mp hg
 obtain ⟨o, ρ', K'⟩ := res
 have eo : o = some (.bool true) := by
  cases o with
  | none => simp at e2
  | some v => simp at e2; rw [e2.1]
 subst eo
 have pick : ∀ {i : Nat} {x : Str} {u : V}, names[i]? = some x → ([V.ref 0] : List V)[i]? = some u → x = pname ∧ u = .ref 0 := fun {i x u} h1 h2 => by
  have hi : i < 1 := (Zz6.mp h2).1
  have : i = 0 := by omega
  subst this
  rw [h0] at h1
  simp at h1 h2
  exact ⟨h1.symm, h2.symm⟩
 have rep : Rep (ZbF (callerA.depth + 1) (callerA.units + 3) callerA.guards qual scope h₀.objs.size fa cd (cellsFrom (h₀.objs.size + 1) scope.names []) [] h₀ hu' names) ⟨[sa], [], (sa, ZbM vs 0)⟩ (fun i => [V.ref 0][i]?) [ns.map V.int] [] s.heap := by
  refine ⟨_, cells, cells, ⟨F, N, ⟨rfl, by simp, fun i us e => ?_, fun q hq => (nomatch hq), fun q hq => (nomatch hq)⟩, hsc, rfl, fun q hq => (nomatch hq), fun q hq => (nomatch hq), fun q hq => hq, fun q hq z => ?_, fun q _ t ht => (nomatch ht), fun q hq => (nomatch hq), fun q hq t ht => (nomatch ht), ⟨fun i x u hi hk1 hu1 => ?_, fun i x u hi hk1 hu1 => ?_, fun x c1 hc => ?_, fun x y c1 h1 h2 => ?_⟩⟩⟩
  ·have hi : i < 1 := (Zz6.mp e).1
   have : i = 0 := by omega
   subst this
   simp at e
   subst e
   exact ⟨by simpa using hlen, sa, vs, 0, rfl, List.mem_cons_self, hv'⟩
  ·have := (N q hq).2.2
   rw [List.mem_singleton.mp z, hsc] at this
   cases this
  ·obtain ⟨e3, e4⟩ := pick hi hu1
   subst e3 e4
   refine ⟨.ref sa, ?_, .ref rfl⟩
   show bindL _ _ _ _ = _
   unfold bindL bindL
   rw [if_pos (show (envOfC qual scope h₀.objs.size fa cd).kindOf x = some .local from hk1)]
   simp
  ·obtain ⟨e3, e4⟩ := pick hi hu1
   subst e3 e4
   have hs := cellsFrom_some scope.names (h₀.objs.size + 1) [] (.inl hk1)
   obtain ⟨c1, hc1⟩ := Option.isSome_iff_exists.mp hs
   obtain ⟨o1, ho1, hd1⟩ := ZfD X0 (Zdp hc1)
   refine ⟨c1, o1, .ref sa, hc1, ho1, ?_, .ref rfl⟩
   rw [hd1]
   unfold bindC bindC
   rw [if_neg (show ¬ (envOfC qual scope h₀.objs.size fa cd).kindOf x = some .local by show ¬ scope.names.lookup x = some .local; rw [hk1]; simp)]
   simp
  ·obtain ⟨o1, ho1, hd1⟩ := ZfD X0 (Zdp hc)
   exact ⟨o1, _, ho1, hd1⟩
  ·exact name_of_addr far.1 (Zdp h1) (Zdp h2)
 refine hb _ _ _ [] s Q E _ rep e1 ?_
 intro W' h' tk' x l' r' x'
 cases x' with
 | bool _ =>
  obtain ⟨m', c', led', r'⟩ := r'
  exact post h' tk' m' r'.F
end
end PM
end
section
set_option maxRecDepth 100000
set_option linter.all false
set_option autoImplicit false
namespace PM
open PySem PySem.W PySem.Calls PyProof.Rows PyProof PyProof.Rows.LCg PyProof.Rows.LSm
theorem Rep.listAt {Γ : Cx} {W : Wd} {ρ : Lc} {H : Hp} {fr : List (Addr × Obj)} {h h' : Heap} {vs : List V} {xs : List Value} {k : Nat} (r : Rep Γ W ρ H fr h) (up : ∀ b o, h.get? b = some o → h'.get? b = some o) (hg : h'.get? h.objs.size = some (ZbM xs k)) (hv : VRs W vs xs) (hl : vs.length ≤ LEN) :
  ∃ W', W.Le W' ∧ Rep Γ W' ρ (H ++ [vs]) fr h' ∧ VR W' (.ref H.length) (.ref h.objs.size) := by
 obtain ⟨r2, ap⟩ := r.more (fs := [(h.objs.size, ZbM xs k)]) up (fun q hq => by rw [List.mem_singleton.mp hq]; exact ⟨hg, Nat.le_refl _⟩)
 exact Zfo r2 (fun t ht => ap _ Zz5 t ht) hv hl
noncomputable def Zcv : List V → Hp → Option (V × Hp)
 | [.ref a], H => H[a]?.map fun vs => (.ref H.length, H ++ [vs])
 | [.tup vs], H => some (.ref H.length, H ++ [vs])
 | _, _ => none
noncomputable def ZeQ : List V → Option (List Bool)
 | [] => some []
 | .bool b :: vs => (ZeQ vs).map fun bs => b :: bs
 | _ :: _ => none
noncomputable def ZuU : List V → Hp → Option (V × Hp)
 | [.ref a], H => H[a]?.bind fun vs => (ZeQ vs).map fun bs => (.bool (bs.all id), H)
 | _, _ => none
noncomputable def Zf5 : List V → Hp → Option (V × Hp)
 | [.ref a], H => H[a]?.bind fun vs => (ZeQ vs).map fun bs => (.bool (bs.any id), H)
 | _, _ => none
theorem ZpJ {W : Wd} : ∀ {vs : List V} {xs : List Value} {bs : List Bool}, VRs W vs xs → ZeQ vs = some bs → BoolsAre xs bs := by
 intro vs
 induction vs with
 | nil => intro xs bs h e; cases h; cases e; exact .nil
 | cons v vs ih =>
  intro xs bs h e
  cases h with
  | cons a b =>
   cases v with
   | bool c =>
    obtain ⟨cs, e1, e2⟩ := Zz1.mp e
    subst e2
    cases a
    exact .cons _ (ih b e1)
   | none => cases e
   | int _ => cases e
   | str _ => cases e
   | tup _ => cases e
   | ref _ => cases e
section
variable {prog : Program} {w : World}
theorem ZdJ : OpN prog w (fun xs => call (.type "list") xs) Zcv := by
 intro Γ W ρ H fr s Q E as xs v H' r hx ho post
 unfold Zcv at ho
 split at ho
 ·obtain ⟨vs, e1, e2⟩ := Zz1.mp ho
  cases e2
  obtain ⟨x, ex, rx⟩ := hx.one
  subst ex
  cases rx with
  | @ref _ a ea =>
   obtain ⟨hl, ys, k, hg, hv⟩ := r.at e1 ea
   refine call_list_seq (hsz := Zc6 (by rw [List.size_toArray, hv.length]; exact hl)) a (.inl rfl) hg rfl rfl fun h' c' up hg' => ?_
   obtain ⟨W2, l2, r2, v2⟩ := r.listAt up hg' hv hl
   exact post W2 h' s.toks _ l2 r2 v2
 ·cases ho
  obtain ⟨x, ex, rx⟩ := hx.one
  subst ex
  cases rx with
  | @tup _ a ys k hm hl hv =>
   refine call_list_seq (hsz := Zc6 (by rw [List.size_toArray, hv.length]; exact hl)) a (.inr rfl) (r.tupAt hm) rfl rfl fun h' c' up hg' => ?_
   obtain ⟨W2, l2, r2, v2⟩ := r.listAt up hg' hv hl
   exact post W2 h' s.toks _ l2 r2 v2
 ·cases ho
theorem ZtA : OpN prog w (fun xs => call (.builtin "any") xs) Zf5 := by
 intro Γ W ρ H fr s Q E as xs v H' r hx ho post
 unfold Zf5 at ho
 split at ho
 ·obtain ⟨vs, e1, e2⟩ := Zz0.mp ho
  obtain ⟨bs, e3, e4⟩ := Zz1.mp e2
  cases e4
  obtain ⟨x, ex, rx⟩ := hx.one
  subst ex
  cases rx with
  | @ref _ a ea =>
   obtain ⟨hl, ys, k, hg, hv⟩ := r.at e1 ea
   have isl : s.heap.IsList a ys.toArray := ⟨_, hg, rfl, k, rfl⟩
   obtain ⟨m, c, led, r'⟩ := r
   exact any_bools r'.F r'.N Γ.hh isl (ZpJ hv e3) fun h' tk F' N' => post W h' tk _ (.refl W) (r'.same F' N') (.bool _)
 ·cases ho
end
section
variable {prog : Program} {w : World} {K : Frag} {p : Program} {loose : List Str} {mean : ExcName → Option Value} {mg mb : Str → Option Value} {Γ : Cx} {dp un : Nat}
theorem ZtB {x : Str} {v : Value} (clr : Clr K p loose mean mg mb Γ dp un) (e : nsIn K mainGlobals x = some (some v)) (hg : Γ.env.globals = mainGlobals) (hk : Γ.env.scope.kind = .function) (hx : Γ.env.kindOf x = some .globalImplicit) (hd : (x == ("__debug__" : Str)) = false) : Nm prog w Γ x v := by
 obtain ⟨_, _, _, _, _, _, _, _, _, _, _, X, T, _⟩ := clr
 intro pos m s Q E F q
 exact Name_function_global hk hx (loadGlobal_global (env := Γ.env) (by rw [hg]; exact T.g.keeps F.keep) (mg_of X T.g e) q) hd
theorem ZrJ {x : Str} {v : Value} (clr : Clr K p loose mean mg mb Γ dp un) (e : nsIn K mainGlobals x = some none) (hv : bootBuiltins x = some v) (hn : x ≠ "__name__") (hg : Γ.env.globals = mainGlobals) (hb : Γ.env.builtins = builtinsNs) (hk : Γ.env.scope.kind = .function) (hx : Γ.env.kindOf x = some .globalImplicit) (hd : (x == ("__debug__" : Str)) = false) : Nm prog w Γ x v := by
 obtain ⟨_, _, _, _, _, _, _, _, _, _, _, X, T, _⟩ := clr
 intro pos m s Q E F q
 exact Name_function_global hk hx (loadGlobal_builtin (env := Γ.env) (by rw [hg]; exact T.g.keeps F.keep) (mg_none_of X T.g e) (by rw [hb]; exact T.b.keeps F.keep) ((T.builtins x hn).trans hv) q) hd
end
section
variable {prog : Program} {w : World} {Γ : Cx} {scope : Scope} {cl : List (Str × Addr)} {C : Addr} {ts : List (Str × Nat)} {ρ0 : Lc}
theorem ZsA {x : Str} {t : Nat} (hm : (x, t) ∈ ts) (hk : scope.kind = .function) (hl : (compEnvC scope cl C Γ.env).kindOf x = some .local) (hd : (x == ("__debug__" : Str)) = false) : Rd prog w (Zbk Γ scope cl C ts ρ0) x t := by
 intro W ρ H fr s Q E v pos r e q
 obtain ⟨m, c, led, r⟩ := r
 obtain ⟨oC, m₂, cs, ec, h0, h1, h2, h3, h4⟩ := r.own
 obtain ⟨v', y, e1, e2, e3⟩ := h2 _ hm
 rw [e] at e1
 cases e1
 exact LCgL.ld_own r.N (r.clIn _ (by rw [ec]; exact Zz5)) h1 e2 (q y e3) hk hl hd
end
section
variable {prog : Program} {w : World} {dp un : Nat} {gd : Option (List Code)} {cn : Str} {cs : Scope} {L a : Addr} {ccd : Value} {clf : List (Str × Addr)} {outer : List Env} {h₀ : Heap} {hu : un + 200 < cLine} {names : List Str} {scope : Scope} {cl : List (Str × Addr)} {C : Addr} {ts : List (Str × Nat)} {ρ0 : Lc}
theorem ZsB {x : Str} {i : Nat} (hi : names[i]? = some x) (hx : cs.names.lookup x = some .cell) (hne : ∀ p ∈ ts, p.2 ≠ i) (hcl : cl.lookup x = clf.lookup x) (hk : scope.kind = .function) (hl : (compEnvC scope cl C (envX cn cs L a ccd clf)).kindOf x = some .cell) (hd : (x == ("__debug__" : Str)) = false) :
  Rd prog w (Zbk (ZbF dp un gd cn cs L a ccd clf outer h₀ hu names) scope cl C ts ρ0) x i := by
 intro W ρ H fr s Q E v pos r e q
 obtain ⟨m, c, led, r⟩ := r
 obtain ⟨oC, m₂, cs', ec, h0, h1, h2, h3, h4⟩ := r.own
 rw [h3 i hne] at e
 obtain ⟨d, o, y, g1, g2, g3, g4⟩ := h4.cel i x v hi hx e
 exact kcf_cell r.N (hcl.trans g1) (r.clIn _ (by rw [ec]; exact Zz2 _ g2)) g3 (q y g4) hk hl hd
end
end PM
end
section
set_option maxRecDepth 100000
namespace My
open PySem PySem.W PySem.Calls PyProof.Rows PySem.Spec
structure Cell (v : Int) : Prop where
 bits : Builtin.Int.intBits v ≤ 2 ^ 20
theorem bits_zero : Builtin.Int.intBits 0 ≤ 2 ^ 20 := by unfold Builtin.Int.intBits; simp
theorem cell_at {ns : List Int} (h : PyData.layable0 (.list (ns.map .int)) = true) (i : Int) : Cell (cellAt ns i 0) := by
 refine ⟨?_⟩
 rw [cellAt_def, List.getD_eq_getElem?_getD]
 cases e : ns[i.toNat]? with
 | none => exact bits_zero
 | some v => exact PyData.bits_item_of_ints h (List.mem_of_getElem? e)
section
variable {prog : Program} {w : World} {A : Around} {E : Value → Shared → Prop} {s : Shared} {x y : Int} {t u : Tok} {Q : Value → Shared → Prop}
@[irreducible] noncomputable def T9 : Int := 10 ^ 9
theorem T9_eq : T9 = 1000000000 := by unfold T9; decide +kernel
end
end My
end
section
set_option maxRecDepth 100000
set_option linter.all false
set_option autoImplicit false
/-! Reckoning with the plain machine. -/
namespace PM
open PySem PySem.W PyProof.Rows
section
variable (ρ : Lc) (H : Hp)
@[simp] theorem ZrK : ZfW ρ H = some (none, H) := rfl
@[simp] theorem ZrL (f : Ex) : ZlL f ρ H = (f ρ H).map fun p => (some p.1, p.2) := rfl
end
section
variable (a b : Int) (H : Hp)
end
theorem Zot {b : Int} (hb : 0 ≤ b) : Builtin.Range.rangeSize 0 b 1 = b := by
 unfold Builtin.Range.rangeSize
 rw [if_pos (by decide)]
 by_cases h : (0 : Int) < b
 ·rw [if_pos h]
  omega
 ·rw [if_neg h]
  omega
theorem ZtC {b : Int} {H : Hp} (hb : 0 ≤ b) (hb9 : b ≤ 1000) : Zcf 0 b 1 H = some (ZeP 0 1 b.toNat, b.toNat + 1, H) := by
 unfold Zcf rngN
 rw [Zot hb, if_pos]
 refine ⟨by decide, ?_, hb, by rw [Zbc]; omega, ?_⟩
 ·unfold Builtin.Range.small
  rw [Zot hb]
  simp only [Builtin.Range.rangeFitsLong, Bool.and_eq_true, Bool.or_eq_true, decide_eq_true_eq, beq_iff_eq]
  rw [if_pos (by decide)]
  simp only [Bool.and_eq_true, decide_eq_true_eq]
  by_cases h : (0 : Int) < b
  ·refine ⟨⟨⟨⟨?_, ?_⟩, ?_⟩, ?_⟩, Or.inr ?_⟩ <;> omega
  ·refine ⟨⟨⟨⟨?_, ?_⟩, ?_⟩, ?_⟩, ?_⟩ <;> first | omega | (left; omega)
 ·exact PyProof.noPylong_small (by omega)
end PM
end
section
set_option maxRecDepth 100000
set_option linter.all false
set_option autoImplicit false
namespace PM
open PySem PySem.W PyProof.Rows My
theorem Zm2 {a b : Int} (h : IntMulOk a b) : mulOk a b = true := by
 unfold IntMulOk at h
 unfold mulOk
 cases e : (decide (Builtin.Int.intBits a > shortFactorBits) && decide (Builtin.Int.intBits b > shortFactorBits) && Builtin.Int.intTooBig (Builtin.Int.intBits a + Builtin.Int.intBits b)) with
 | true => exact absurd e h
 | false => rfl
theorem ZlM {a b : Int} {H : Hp} (h : 0 ≤ b ∧ (Builtin.Int.intBits a : Int) * b ≤ 2 ^ 27) : oPow (.int a) (.int b) H = some (.int (a ^ b.toNat), H) := by simp only [oPow]; rw [if_pos h]
theorem Zum (H : Hp) : oPow (.int 10) (.int 9) H = some (.int T9, H) := by rw [ZlM (by decide +kernel)]; unfold T9; rfl
end PM
end
section
set_option maxRecDepth 100000
set_option linter.all false
set_option autoImplicit false
namespace PM
open PySem PySem.W PyProof.Rows My
section
variable {ρ ρ1 ρ2 : Lc} {H H1 H2 H3 : Hp}
theorem ZtD {k : Int} : Zl k ρ H = some (.int k, H) := rfl
theorem ZsC {f g : Ex} {a : Nat} {k : Int} {n : Nat} {vs : List V} (h1 : f ρ H = some (.ref a, H1)) (h2 : g ρ H1 = some (.int k, H2)) (e : H2[a]? = some vs) (hk : k = (n : Int)) : Zls f (ZlL g) ZfW ρ H = some (.ref H2.length, H2 ++ [vs.drop n]) := by
 simp only [Zls, h1, Option.bind_some, ZrL, h2, Option.map_some, ZrK, ZfV, e]
 rw [ZqU vs hk]
end
end PM
end
section
set_option maxRecDepth 100000
set_option linter.all false
set_option autoImplicit false
namespace PM
open PySem PySem.W PyProof.Rows PyProof
noncomputable def Zdw (f : Ex) (k : Nat) : Ex := fun ρ H => (f ρ H).bind fun p => match p.1 with
 | .ref i => p.2[i]?.bind fun vs => some (.ref p.2.length, p.2 ++ [vs.drop k])
 | .tup vs => if 1 ≤ k ∧ k ≤ vs.length then some (.tup (vs.drop k), p.2) else none
 | _ => none
section
variable {prog : Program} {w : World} {Γ : Cx}
theorem Zhz {e lo : Expr} {p pos : Pos} {f : Ex} {k : Nat} (h : J prog w Γ e f) (hlo : J prog w Γ lo (Zl k)) (ht : ∀ o r, letTemporaryGo e o r = pure () := by intro _ _; rfl) : J prog w Γ (.Subscript e (.Slice (Option.some lo) Option.none Option.none p) pos) (Zdw f k) := by
 intro W ρ H fr s Q E v H' r hf post
 obtain ⟨⟨v1, H1⟩, e1, hf⟩ := Zz0.mp hf
 cases v1 with
 | none => cases hf
 | bool _ => cases hf
 | int _ => cases hf
 | str _ => cases hf
 | ref i =>
  obtain ⟨vs, e2, e3⟩ := Zz0.mp hf
  refine Zss h (JP.some hlo) JP.none ht W ρ H fr s Q E v H' r ?_ post
  rw [ZsC (n := k) e1 ZtD e2 rfl]
  exact e3
 | tup vs =>
  simp only at hf
  by_cases c : 1 ≤ k ∧ k ≤ vs.length
  ·rw [if_pos c] at hf
   cases hf
   refine wpAny_Subscript_Slice (T := "tuple") slot_tuple_getitem.lookup (h W ρ H fr s _ E _ _ r e1 fun W1 k1 t1 x l1 r1 x1 => ?_) ht
   refine wpAny_Slice ?_
   refine wpAny_evalPart_some (hlo W1 ρ _ fr _ _ E _ _ r1 rfl fun W2 k2 t2 y l2 r2 y2 => ?_)
   refine wpAny_evalPart_none ?_
   refine wpAny_evalPart_none ?_
   cases y2 with
   | int _ u =>
    have x2 := x1.mono l2
    cases x2 with
    | @tup _ a ys kk hm hl hs =>
     have it : IsTup k2 a ys.toArray := ⟨_, r2.tupAt hm, rfl, kk, rfl⟩
     have it' : IsTup (k2.push { cls := .type "slice", data := .fields #[.int k u, .none, .none] }) a ys.toArray := it.keeps fun _ _ e => Heap.get?_push_of_some _ e
     have hlen := hs.length
     rw [Zbc] at hl
     refine ⟨it'.typeIs, getItem_tuple_from it' (Heap.IsSliceOf.new ..) c.1 (by simp [hlen]; exact c.2) ?_ (Zc6 (by simp [hlen]; rw [Zbc]; exact hl))⟩
     obtain ⟨W4, l4, r4, v4⟩ := (r2.push { cls := .type "slice", data := .fields #[.int k u, .none, .none] }).tuple (k := 0) (hs.drop k) (by rw [Zbc]; simp; omega)
     have := post W4 _ t2 _ ((l1.trans l2).trans l4) r4 v4
     simpa using this
  ·rw [if_neg c] at hf
   cases hf
end
section
variable {ρ : Lc} {H : Hp} {Q : V → Hp → Prop}
theorem Zou {a b c : Int} (hc : 0 < c) (hb : a < b) : Builtin.Range.rangeSize a b c = (b - a - 1) / c + 1 := by
 unfold Builtin.Range.rangeSize
 rw [if_pos hc, if_pos hb]
theorem ZtE {a b c : Int} {H : Hp} (ha : 0 ≤ a) (hb : a < b) (hb9 : b ≤ 1000) (hc : 0 < c) (hc9 : c ≤ 1000) : Zcf a b c H = some (ZeP a c (rngN a b c), rngN a b c + 1, H) := by
 have e := Zou hc hb
 have h0 : 0 ≤ (b - a - 1) / c := Int.ediv_nonneg (by omega) (by omega)
 have h2 : (b - a - 1) / c ≤ b - a - 1 := Int.ediv_le_self _ (by omega)
 unfold Zcf
 rw [if_pos]
 refine ⟨by omega, ?_, by omega, by unfold rngN; rw [Zbc]; omega, PyProof.noPylong_small (by omega)⟩
 unfold Builtin.Range.small
 rw [e]
 simp only [Builtin.Range.rangeFitsLong, Bool.and_eq_true, Bool.or_eq_true, decide_eq_true_eq, beq_iff_eq]
 rw [if_pos hc]
 simp only [Bool.and_eq_true, decide_eq_true_eq]
 refine ⟨⟨⟨⟨?_, ?_⟩, ?_⟩, ?_⟩, ?_⟩ <;> first | omega | (left; omega) | (right; omega)
end
end PM
end
section
set_option maxRecDepth 100000
set_option linter.all false
set_option autoImplicit false
namespace PM
open PySem PySem.W PyProof.Rows PyProof My
section
variable {ρ : Lc} {H : Hp} {Q : V → Hp → Prop} {L : List V → Hp → Prop}
end
noncomputable def od : Option Int → PyData
 | none => .none
 | some k => .int k
theorem Zmf {a : Int} {k : Nat} (h : Builtin.Int.intBits a ≤ k) : a.natAbs < 2 ^ k := by
 unfold Builtin.Int.intBits at h
 by_cases z : a = 0
 ·subst z
  exact Nat.two_pow_pos k
 ·rw [if_neg (by simpa using z)] at h
  exact Nat.lt_of_lt_of_le Nat.lt_log2_self (Nat.pow_le_pow_right (by decide) h)
theorem ZrM {a b : Int} {k : Nat} (ha : Builtin.Int.intBits a ≤ k) (hb : Builtin.Int.intBits b ≤ k) : Builtin.Int.intBits (a + b) ≤ k + 1 := by
 refine PyProof.Rows.intBits_le ?_
 have h1 := Zmf ha
 have h2 := Zmf hb
 rw [Nat.pow_succ]
 omega
theorem Zm3 {a b : Int} (ha : Builtin.Int.intBits a ≤ 2 ^ 21) (hb : Builtin.Int.intBits b ≤ 2 ^ 21) : mulOk a b = true := by
 have e : (2 : Nat) ^ 21 = 2097152 := by decide
 have h : Builtin.Int.intTooBig (Builtin.Int.intBits a + Builtin.Int.intBits b) = false := by
  unfold Builtin.Int.intTooBig bitsLine
  exact decide_eq_false (by omega)
 unfold mulOk
 rw [h]
 simp
theorem Zq1 {a b : Int} (h1 : -(2 ^ 64) < b) (h2 : b < 2 ^ 64) : mulOk a b = true := Zm2 (IntMulOk.of_right (intBits_le_64 h1 h2))
theorem Zp9 {a b : Int} (h1 : -(2 ^ 64) < a) (h2 : a < 2 ^ 64) : mulOk a b = true := Zm2 (IntMulOk.of_left (intBits_le_64 h1 h2))
@[irreducible] noncomputable def M9 : Int := 48271 ^ Int.toNat 9
@[irreducible] noncomputable def T40 : Int := 10 ^ Int.toNat 40
theorem ZtF (H : Hp) : oPow (.int 48271) (.int 9) H = some (.int M9, H) := by rw [ZlM (by decide +kernel)]; unfold M9; rfl
theorem ZtG (H : Hp) : oPow (.int 10) (.int 40) H = some (.int T40, H) := by rw [ZlM (by decide +kernel)]; unfold T40; rfl
theorem ZhA : T40 = 10000000000000000000000000000000000000000 := by unfold T40; decide +kernel
theorem ZsD : Builtin.Int.intBits M9 ≤ 2 ^ 21 := by
 unfold M9
 exact Nat.le_trans (PyProof.Rows.intBits_le (k := 256) (by decide +kernel)) (by decide)
section
variable {H : Hp} {Q : V → Hp → Prop} {a b : Int}
end
end PM
end
section
set_option maxRecDepth 100000
set_option linter.all false
set_option autoImplicit false
/-! The tree machine: values without places; lists that nobody else holds may be changed. -/
namespace TM
open PySem PM
inductive T where
 | none
 | bool (b : Bool)
 | int (i : Int)
 | str (s : Str)
 | tup (ts : List T)
 | lst (ts : List T)
mutual
inductive RF (H : Hp) : V → T → List Nat → Prop where
 | none : RF H .none .none []
 | bool (b : Bool) : RF H (.bool b) (.bool b) []
 | int (i : Int) : RF H (.int i) (.int i) []
 | str (s : Str) : RF H (.str s) (.str s) []
 | tup {vs : List V} {ts : List T} {F : List Nat} : RFs H vs ts F → RF H (.tup vs) (.tup ts) F
 | ref {a : Nat} {vs : List V} {ts : List T} {F : List Nat} : H[a]? = some vs → RFs H vs ts F → RF H (.ref a) (.lst ts) (a :: F)
inductive RFs (H : Hp) : List V → List T → List Nat → Prop where
 | nil : RFs H [] [] []
 | cons {v : V} {t : T} {F : List Nat} {vs : List V} {ts : List T} {G : List Nat} : RF H v t F → RFs H vs ts G → RFs H (v :: vs) (t :: ts) (F ++ G)
end
mutual
theorem RF.frame {H H' : Hp} {v : V} {t : T} {F : List Nat} (r : RF H v t F) (h : ∀ a ∈ F, H'[a]? = H[a]?) : RF H' v t F := by
 cases r with
 | none => exact .none
 | bool b => exact .bool b
 | int i => exact .int i
 | str s => exact .str s
 | tup hs => exact .tup (RFs.frame hs h)
 | ref e hs => exact .ref ((h _ Zz5).trans e) (RFs.frame hs fun a m => h a (Zz2 _ m))
theorem RFs.frame {H H' : Hp} {vs : List V} {ts : List T} {F : List Nat} (r : RFs H vs ts F) (h : ∀ a ∈ F, H'[a]? = H[a]?) : RFs H' vs ts F := by
 cases r with
 | nil => exact .nil
 | cons a b => exact .cons (RF.frame a fun x m => h x (Zz4 _ m)) (RFs.frame b fun x m => h x (Zz3 _ m))
end
mutual
theorem RF.lt {H : Hp} {v : V} {t : T} {F : List Nat} (r : RF H v t F) : ∀ a ∈ F, a < H.length := by
 cases r with
 | none => intro a m; cases m
 | bool b => intro a m; cases m
 | int i => intro a m; cases m
 | str s => intro a m; cases m
 | tup hs => exact RFs.lt hs
 | ref e hs =>
  intro x m
  rcases List.mem_cons.mp m with rfl | m
  ·exact (Zz6.mp e).1
  ·exact RFs.lt hs x m
theorem RFs.lt {H : Hp} {vs : List V} {ts : List T} {F : List Nat} (r : RFs H vs ts F) : ∀ a ∈ F, a < H.length := by
 cases r with
 | nil => intro a m; cases m
 | cons a b =>
  intro x m
  rcases List.mem_append.mp m with m | m
  ·exact RF.lt a x m
  ·exact RFs.lt b x m
end
theorem RF.ext {H : Hp} {v : V} {t : T} {F : List Nat} (r : RF H v t F) (X : Hp) : RF (H ++ X) v t F := r.frame fun a m => List.getElem?_append_left (r.lt a m)
theorem RFs.ext {H : Hp} {vs : List V} {ts : List T} {F : List Nat} (r : RFs H vs ts F) (X : Hp) : RFs (H ++ X) vs ts F := r.frame fun a m => List.getElem?_append_left (r.lt a m)
theorem RFs.length {H : Hp} : ∀ {vs : List V} {ts : List T} {F : List Nat}, RFs H vs ts F → vs.length = ts.length
 | _, _, _, .nil => rfl
 | _, _, _, .cons _ r => by rw [List.length_cons, List.length_cons, r.length]
theorem RFs.append {H : Hp} : ∀ {vs us : List V} {ts ss : List T} {F G : List Nat}, RFs H vs ts F → RFs H us ss G → RFs H (vs ++ us) (ts ++ ss) (F ++ G)
 | _, _, _, _, _, _, .nil, h => h
 | _, _, _, _, _, _, .cons a r, h => by rw [List.append_assoc]; exact .cons a (r.append h)
theorem RFs.one {H : Hp} {v : V} {t : T} {F : List Nat} (r : RF H v t F) : RFs H [v] [t] F := by
 have := RFs.cons r RFs.nil
 rwa [List.append_nil] at this
theorem RFs.snoc {H : Hp} {vs : List V} {ts : List T} {F G : List Nat} {v : V} {t : T} (r : RFs H vs ts F) (x : RF H v t G) : RFs H (vs ++ [v]) (ts ++ [t]) (F ++ G) := r.append (.one x)
theorem RFs.at {H : Hp} : ∀ {vs : List V} {ts : List T} {F : List Nat} {i : Nat} {t : T}, RFs H vs ts F → ts[i]? = some t → ∃ v G, vs[i]? = some v ∧ RF H v t G ∧ G.Sublist F
 | _, _, _, _, _, .nil, e => by simp at e
 | _, _, _, 0, _, .cons a _, e => by
  simp at e
  exact ⟨_, _, by simp, e ▸ a, List.sublist_append_left _ _⟩
 | _, _, _, i + 1, _, .cons _ r, e => by
  simp at e
  obtain ⟨x, G, hx, hr, hs⟩ := r.at e
  exact ⟨x, G, by simpa using hx, hr, hs.trans (List.sublist_append_right _ _)⟩
theorem RFs.drop {H : Hp} : ∀ {vs : List V} {ts : List T} {F : List Nat} (i : Nat), RFs H vs ts F → ∃ G, RFs H (vs.drop i) (ts.drop i) G ∧ G.Sublist F
 | _, _, _, 0, h => ⟨_, h, List.Sublist.refl _⟩
 | _, _, _, _ + 1, .nil => ⟨_, .nil, List.Sublist.refl _⟩
 | _, _, _, i + 1, .cons _ r => by
  obtain ⟨G, h1, h2⟩ := r.drop i
  exact ⟨G, h1, h2.trans (List.sublist_append_right _ _)⟩
theorem RFs.split {H : Hp} : ∀ {vs : List V} {ts : List T} {F : List Nat} {i : Nat} {t : T}, RFs H vs ts F → ts[i]? = some t →
  ∃ v G F1 F2, vs[i]? = some v ∧ RF H v t G ∧ F = F1 ++ (G ++ F2) ∧ ∀ (H' : Hp) (w : V) (t' : T) (G' : List Nat), RF H' w t' G' → (∀ a ∈ F1, H'[a]? = H[a]?) → (∀ a ∈ F2, H'[a]? = H[a]?) → RFs H' (vs.set i w) (ts.set i t') (F1 ++ (G' ++ F2))
 | _, _, _, _, _, .nil, e => by simp at e
 | _, _, _, 0, _, .cons (G := G1) a r, e => by
  simp at e
  subst e
  exact ⟨_, _, [], G1, by simp, a, by simp, fun H' w t' G' x _ h2 => by simpa using RFs.cons x (r.frame h2)⟩
 | _, _, _, i + 1, _, .cons (F := F0) a r, e => by
  simp at e
  obtain ⟨v, G, F1, F2, h1, h2, h3, h4⟩ := r.split e
  refine ⟨v, G, F0 ++ F1, F2, by simpa using h1, h2, by rw [h3]; simp, fun H' w t' G' x k1 k2 => ?_⟩
  have := RFs.cons (a.frame fun b m => k1 b (Zz4 _ m)) (h4 H' w t' G' x (fun b m => k1 b (Zz3 _ m)) k2)
  simpa using this
theorem Zm4 {α : Type} {xs : List α} {i : Nat} {x : α} (h : xs[i]? = some x) : xs.set i x = xs := by
 obtain ⟨hi, e⟩ := Zz6.mp h
 rw [← e]
 exact List.set_getElem_self hi
theorem nd3 {F1 G F2 G' Gn : List Nat} (nd : (F1 ++ (G ++ F2)).Nodup) (n' : G'.Nodup) (sub : ∀ a ∈ G', a ∈ G ∨ a ∈ Gn) (ds : ∀ a ∈ Gn, a ∉ F1 ++ (G ++ F2)) : (F1 ++ (G' ++ F2)).Nodup := by
 rw [List.nodup_append, List.nodup_append] at nd ⊢
 obtain ⟨a1, ⟨a2, a3, a4⟩, a5⟩ := nd
 refine ⟨a1, ⟨n', a3, fun x hx y hy e => ?_⟩, fun x hx y hy e => ?_⟩
 ·rcases sub x hx with m | m
  ·exact a4 x m y hy e
  ·exact ds x m (Zz3 _ (Zz3 _ (e ▸ hy)))
 ·rcases List.mem_append.mp hy with m | m
  ·rcases sub y m with q | q
   ·exact a5 x hx y (Zz4 _ q) e
   ·exact ds y q (Zz4 _ (e ▸ hx))
  ·exact a5 x hx y (Zz3 _ m) e
theorem in3 {F1 G F2 G' Gn : List Nat} (sub : ∀ a ∈ G', a ∈ G ∨ a ∈ Gn) : ∀ a ∈ F1 ++ (G' ++ F2), a ∈ F1 ++ (G ++ F2) ∨ a ∈ Gn := by
 intro a m
 rcases List.mem_append.mp m with m | m
 ·exact .inl (Zz4 _ m)
 ·rcases List.mem_append.mp m with m | m
  ·exact (sub a m).imp (fun q => List.mem_append_right _ (Zz4 _ q)) id
  ·exact .inl (Zz3 _ (Zz3 _ m))
mutual
noncomputable def T.flat : T → Bool
 | .lst _ => false
 | .tup ts => T.flats ts
 | .none => true
 | .bool _ => true
 | .int _ => true
 | .str _ => true
noncomputable def T.flats : List T → Bool
 | [] => true
 | t :: ts => t.flat && T.flats ts
end
mutual
theorem RF.flat {H : Hp} {v : V} {t : T} {F : List Nat} (r : RF H v t F) (h : t.flat = true) : F = [] := by
 cases r with
 | none => rfl
 | bool b => rfl
 | int i => rfl
 | str s => rfl
 | tup hs => exact RFs.flats hs (by simpa [T.flat] using h)
 | ref e hs => simp [T.flat] at h
theorem RFs.flats {H : Hp} {vs : List V} {ts : List T} {F : List Nat} (r : RFs H vs ts F) (h : T.flats ts = true) : F = [] := by
 cases r with
 | nil => rfl
 | cons a b =>
  simp only [T.flats, Bool.and_eq_true] at h
  rw [RF.flat a h.1, RFs.flats b h.2]
  rfl
end
noncomputable def T.flatIn : T → Bool
 | .lst ts => T.flats ts
 | t => t.flat
noncomputable def Zcn (f : List T → Option (List T)) : List Int → T → Option T
 | [], .lst ts => (f ts).map .lst
 | k :: ks, .lst ts => (seqIndex? k ts.length).bind fun j => ts[j]?.bind fun t => (Zcn f ks t).map fun u => .lst (ts.set j u)
 | k :: ks, .tup ts => (seqIndex? k ts.length).bind fun j => ts[j]?.bind fun t => (Zcn f ks t).map fun u => .tup (ts.set j u)
 | _, _ => none
inductive Lead (H : Hp) : List Int → V → Nat → Prop where
 | nil {a : Nat} : Lead H [] (.ref a) a
 | ref {k : Int} {ks : List Int} {b : Nat} {vs : List V} {j : Nat} {v : V} {a : Nat} : H[b]? = some vs → seqIndex? k vs.length = some j → vs[j]? = some v → Lead H ks v a → Lead H (k :: ks) (.ref b) a
 | tup {k : Int} {ks : List Int} {vs : List V} {j : Nat} {v : V} {a : Nat} : seqIndex? k vs.length = some j → vs[j]? = some v → Lead H ks v a → Lead H (k :: ks) (.tup vs) a
theorem ZeU {H : Hp} {Gn : List Nat} {f : List T → Option (List T)} : ∀ (ks : List Int) {v : V} {t t' : T} {F : List Nat}, RF H v t F → F.Nodup → (∀ a ∈ Gn, a ∉ F) → Zcn f ks t = some t' →
  ∃ a vs ts ts' G, Lead H ks v a ∧ a ∈ F ∧ H[a]? = some vs ∧ RFs H vs ts G ∧ f ts = some ts' ∧ G.Nodup ∧ a ∉ G ∧ (∀ x ∈ G, x ∈ F) ∧
   ∀ vs' G', RFs H vs' ts' G' → G'.Nodup → a ∉ G' → (∀ x ∈ G', x ∈ G ∨ x ∈ Gn) → ∃ F', RF (H.set a vs') v t' F' ∧ F'.Nodup ∧ ∀ x ∈ F', x ∈ F ∨ x ∈ Gn
 | [], v, t, t', F, r, nd, ds, e => by
  cases r with
  | @ref a vs ts G e1 hs =>
   obtain ⟨ts', h1, h2⟩ := Zz1.mp e
   subst h2
   rw [List.nodup_cons] at nd
   refine ⟨a, vs, ts, ts', G, .nil, List.mem_cons_self, e1, hs, h1, nd.2, nd.1, fun x m => List.mem_cons_of_mem _ m, fun vs' G' r' n' na sub => ⟨a :: G', ?_, ?_, ?_⟩⟩
   ·have ha := (Zz6.mp e1).1
    refine .ref (List.getElem?_set_self ha) (r'.frame fun b m => List.getElem?_set_ne ?_)
    intro q
    subst q
    exact na m
   ·exact List.nodup_cons.mpr ⟨na, n'⟩
   ·intro x m
    rcases List.mem_cons.mp m with rfl | m
    ·exact .inl Zz5
    ·exact (sub x m).imp (Zz2 _) id
  | none => cases e
  | bool _ => cases e
  | int _ => cases e
  | str _ => cases e
  | tup _ => cases e
 | k :: ks, v, t, t', F, r, nd, ds, e => by
  cases r with
  | none => cases e
  | bool _ => cases e
  | int _ => cases e
  | str _ => cases e
  | @tup vs ts _ hs =>
   obtain ⟨j, e1, e⟩ := Zz0.mp e
   obtain ⟨u, e2, e⟩ := Zz0.mp e
   obtain ⟨u', e3, e⟩ := Zz1.mp e
   subst e
   obtain ⟨w, G1, F1, F2, e4, g1, eF, rb⟩ := hs.split e2
   subst eF
   have nd1 : G1.Nodup := (List.nodup_append.mp (List.nodup_append.mp nd).2.1).1
   have hin : ∀ x ∈ G1, x ∈ F1 ++ (G1 ++ F2) := fun x m => List.mem_append_right _ (Zz4 _ m)
   obtain ⟨a, us, qs, qs', G, l, am, ea, hq, hf, gn, na, gs, go⟩ := ZeU ks g1 nd1 (fun b m q => ds b m (hin b q)) e3
   refine ⟨a, us, qs, qs', G, .tup (by rw [hs.length]; exact e1) e4 l, hin a am, ea, hq, hf, gn, na, fun x m => hin x (gs x m), fun vs' G' r' n' na' sub => ?_⟩
   obtain ⟨G2, f1, f2, f3⟩ := go vs' G' r' n' na' sub
   obtain ⟨a1, a2, a5⟩ := List.nodup_append.mp nd
   obtain ⟨_, a3, a4⟩ := List.nodup_append.mp a2
   have := rb (H.set a vs') w u' G2 f1 (fun b m => List.getElem?_set_ne fun q => a5 b m a (Zz4 _ am) q.symm) (fun b m => List.getElem?_set_ne fun q => a4 a am b m q)
   rw [Zm4 e4] at this
   exact ⟨_, .tup this, nd3 nd f2 f3 ds, in3 f3⟩
  | @ref b vs ts F' e0 hs =>
   obtain ⟨j, e1, e⟩ := Zz0.mp e
   obtain ⟨u, e2, e⟩ := Zz0.mp e
   obtain ⟨u', e3, e⟩ := Zz1.mp e
   subst e
   obtain ⟨w, G1, F1, F2, e4, g1, eF, rb⟩ := hs.split e2
   subst eF
   rw [List.nodup_cons] at nd
   obtain ⟨nb, nd⟩ := nd
   have nd1 : G1.Nodup := (List.nodup_append.mp (List.nodup_append.mp nd).2.1).1
   have hin : ∀ x ∈ G1, x ∈ F1 ++ (G1 ++ F2) := fun x m => List.mem_append_right _ (Zz4 _ m)
   have ds' : ∀ a ∈ Gn, a ∉ F1 ++ (G1 ++ F2) := fun a m q => ds a m (Zz2 _ q)
   obtain ⟨a, us, qs, qs', G, l, am, ea, hq, hf, gn, na, gs, go⟩ := ZeU ks g1 nd1 (fun b m q => ds' b m (hin b q)) e3
   refine ⟨a, us, qs, qs', G, .ref e0 (by rw [hs.length]; exact e1) e4 l, List.mem_cons_of_mem _ (hin a am), ea, hq, hf, gn, na, fun x m => List.mem_cons_of_mem _ (hin x (gs x m)), fun vs' G' r' n' na' sub => ?_⟩
   obtain ⟨G2, f1, f2, f3⟩ := go vs' G' r' n' na' sub
   obtain ⟨a1, a2, a5⟩ := List.nodup_append.mp nd
   obtain ⟨_, a3, a4⟩ := List.nodup_append.mp a2
   have := rb (H.set a vs') w u' G2 f1 (fun b m => List.getElem?_set_ne fun q => a5 b m a (Zz4 _ am) q.symm) (fun b m => List.getElem?_set_ne fun q => a4 a am b m q)
   rw [Zm4 e4] at this
   have hab : a ≠ b := fun q => nb (hin b (q ▸ am))
   refine ⟨_, .ref ((List.getElem?_set_ne hab).trans e0) this, List.nodup_cons.mpr ⟨fun q => ?_, nd3 nd f2 f3 ds'⟩, fun x m => ?_⟩
   ·rcases in3 f3 b q with m | m
    ·exact nb m
    ·exact ds b m Zz5
   ·rcases List.mem_cons.mp m with rfl | m
    ·exact .inl Zz5
    ·exact (in3 f3 x m).imp (Zz2 _) id
end TM
end
section
set_option maxRecDepth 100000
set_option linter.all false
set_option autoImplicit false
namespace TM
open PySem PM
noncomputable abbrev TL := Nat → Option T
noncomputable abbrev PE := TL → Option T
noncomputable abbrev PEs := TL → Option (List T)
noncomputable abbrev PB := TL → Option Bool
noncomputable abbrev PG := TL → Option (List T)
noncomputable def ZZ (σ : TL) (i : Nat) (t : T) : TL := fun j => if j = i then some t else σ j
structure Ctx where
 H0 : Hp
 F0 : List Nat
 P : Nat → Prop
structure St (c : Ctx) (O : List Nat) (ρ : Lc) (σ : TL) (H : Hp) (Φ : Nat → List Nat) : Prop where
 slot : ∀ i t, σ i = some t → ∃ v, ρ i = some v ∧ RF H v t (Φ i)
 src : ∀ i t, σ i = some t → ∀ a ∈ Φ i, c.H0.length ≤ a ∨ c.P a
 own : ∀ i ∈ O, ∀ t, σ i = some t → (Φ i).Nodup ∧ (∀ a ∈ Φ i, c.H0.length ≤ a ∨ a ∈ c.F0) ∧ ∀ j u, j ≠ i → σ j = some u → ∀ a ∈ Φ i, a ∉ Φ j
 len : c.H0.length ≤ H.length
 keep : ∀ a, a < c.H0.length → a ∉ c.F0 → H[a]? = c.H0[a]?
 pos : 0 < c.H0.length
 f0 : 0 ∉ c.F0
theorem St.ext {c : Ctx} {O : List Nat} {ρ : Lc} {σ : TL} {H : Hp} {Φ : Nat → List Nat} (s : St c O ρ σ H Φ) (X : Hp) : St c O ρ σ (H ++ X) Φ :=
 ⟨fun i t e => by obtain ⟨v, h1, h2⟩ := s.slot i t e; exact ⟨v, h1, h2.ext X⟩, s.src, s.own, by have := s.len; rw [List.length_append]; omega, fun a ha hn => by
  rw [List.getElem?_append_left (Nat.lt_of_lt_of_le ha s.len)]; exact s.keep a ha hn, s.pos, s.f0⟩
theorem St.less {c : Ctx} {O O' : List Nat} {ρ : Lc} {σ : TL} {H : Hp} {Φ : Nat → List Nat} (s : St c O ρ σ H Φ) (h : ∀ i ∈ O', i ∈ O) : St c O' ρ σ H Φ := ⟨s.slot, s.src, fun i hi => s.own i (h i hi), s.len, s.keep, s.pos, s.f0⟩
noncomputable def From (H : Hp) (N : List Nat) (σ : TL) (Φ : Nat → List Nat) (a : Nat) : Prop := H.length ≤ a ∨ ∃ i ∈ N, (∃ t, σ i = some t) ∧ a ∈ Φ i
theorem From.mono {H : Hp} {N N' : List Nat} {σ : TL} {Φ : Nat → List Nat} {a : Nat} (f : From H N σ Φ a) (h : ∀ i ∈ N, i ∈ N') : From H N' σ Φ a := f.imp id fun ⟨i, hi, q⟩ => ⟨i, h i hi, q⟩
theorem From.back {H X : Hp} {N : List Nat} {σ : TL} {Φ : Nat → List Nat} {a : Nat} (f : From (H ++ X) N σ Φ a) : From H N σ Φ a := f.imp (fun h => by rw [List.length_append] at h; omega) id
theorem From.nil {H : Hp} {σ : TL} {Φ : Nat → List Nat} {a : Nat} (f : From H [] σ Φ a) : H.length ≤ a := f.elim id fun ⟨_, hi, _⟩ => by cases hi
noncomputable def E (O N : List Nat) (u : Bool) (e : Ex) (p : PE) : Prop := ∀ (c : Ctx) (ρ : Lc) (σ : TL) (H : Hp) (Φ : Nat → List Nat) (t : T), St c O ρ σ H Φ → p σ = some t →
 ∃ v X F, e ρ H = some (v, H ++ X) ∧ RF (H ++ X) v t F ∧ (∀ a ∈ F, From H N σ Φ a) ∧ (u = true → F.Nodup)
noncomputable def Es (O N : List Nat) (u : Bool) (n : Nat) (e : Exs) (p : PEs) : Prop := ∀ (c : Ctx) (ρ : Lc) (σ : TL) (H : Hp) (Φ : Nat → List Nat) (ts : List T), St c O ρ σ H Φ → p σ = some ts →
 ts.length = n ∧ ∃ vs X F, e ρ H = some (vs, H ++ X) ∧ RFs (H ++ X) vs ts F ∧ (∀ a ∈ F, From H N σ Φ a) ∧ (u = true → F.Nodup)
noncomputable def Bt (O : List Nat) (e : Ts) (p : PB) : Prop := ∀ (c : Ctx) (ρ : Lc) (σ : TL) (H : Hp) (Φ : Nat → List Nat) (b : Bool), St c O ρ σ H Φ → p σ = some b → ∃ X, e ρ H = some (b, H ++ X)
section
variable {O N : List Nat} {u : Bool}
theorem Zbg {O' : List Nat} {e : Ex} {p : PE} (x : E O' N u e p) (h : ∀ i ∈ O', i ∈ O) : E O N u e p := fun c ρ σ H Φ t s => x c ρ σ H Φ t (s.less h)
theorem E.sh {e : Ex} {p : PE} (x : E O N u e p) : E O N false e p := fun c ρ σ H Φ t s q => by
 obtain ⟨v, X, F, a1, a2, a3, a4⟩ := x c ρ σ H Φ t s q
 exact ⟨v, X, F, a1, a2, a3, by simp⟩
noncomputable def Zk (k : Int) : PE := fun _ => some (.int k)
noncomputable def ZY : PE := fun _ => some .none
noncomputable def Zbs (b : Bool) : PE := fun _ => some (.bool b)
noncomputable def Za (i : Nat) : PE := fun σ => σ i
theorem Zm (k : Int) : E O [] true (Zl k) (Zk k) := fun c ρ σ H Φ t s q => by
 cases q; exact ⟨_, [], [], by simp [Zl], .int k, by simp, by simp⟩
theorem Zae : E O [] true ZX ZY := fun c ρ σ H Φ t s q => by
 cases q; exact ⟨_, [], [], by simp [ZX], .none, by simp, by simp⟩
theorem E.bool (k : Bool) : E O [] true (Zbz k) (Zbs k) := fun c ρ σ H Φ t s q => by
 cases q; exact ⟨_, [], [], by simp [Zbz], .bool k, by simp, by simp⟩
theorem Zc (i : Nat) : E O [i] false (Zb i) (Za i) := fun c ρ σ H Φ t s q => by
 obtain ⟨v, h1, h2⟩ := s.slot i t q
 exact ⟨v, [], Φ i, by simp [Zb, h1], by simpa using h2, fun a m => .inr ⟨i, List.mem_cons_self, ⟨t, q⟩, m⟩, by simp⟩
theorem E.own {i : Nat} (hi : i ∈ O) : E O [i] true (Zb i) (Za i) := fun c ρ σ H Φ t s q => by
 obtain ⟨v, h1, h2⟩ := s.slot i t q
 exact ⟨v, [], Φ i, by simp [Zb, h1], by simpa using h2, fun a m => .inr ⟨i, List.mem_cons_self, ⟨t, q⟩, m⟩, fun _ => (s.own i hi t q).1⟩
noncomputable def ZbV (p : PE) : PE := fun σ => (p σ).bind fun t => if t.flat then some t else none
theorem E.flat {e : Ex} {p : PE} (x : E O N u e p) : E O [] true e (ZbV p) := fun c ρ σ H Φ t s q => by
 obtain ⟨t', e1, e2⟩ := Zz0.mp q
 by_cases h : t'.flat = true
 ·rw [if_pos h] at e2
  cases e2
  obtain ⟨v, X, F, a1, a2, a3, a4⟩ := x c ρ σ H Φ t s e1
  have := a2.flat h
  subst this
  exact ⟨v, X, [], a1, a2, by simp, by simp⟩
 ·rw [if_neg h] at e2; cases e2
noncomputable def Zn : PEs := fun _ => some []
noncomputable def Zf (p : PE) (q : PEs) : PEs := fun σ => (p σ).bind fun t => (q σ).bind fun ts => some (t :: ts)
theorem Zq : Es O [] true 0 Zp Zn := fun c ρ σ H Φ ts s q => by
 cases q; exact ⟨rfl, [], [], [], by simp [Zp], .nil, by simp, by simp⟩
theorem Zj {M : List Nat} {u' : Bool} {n : Nat} {e : Ex} {p : PE} {es : Exs} {ps : PEs} (x : E O N u e p) (y : Es O M u' n es ps) : Es O (N ++ M) false (n + 1) (Zg e es) (Zf p ps) := fun c ρ σ H Φ ts s q => by
 obtain ⟨t, e1, q⟩ := Zz0.mp q
 obtain ⟨rs, e2, q⟩ := Zz0.mp q
 cases q
 obtain ⟨v, X, F, a1, a2, a3, a4⟩ := x c ρ σ H Φ t s e1
 obtain ⟨hl, vs, Y, G, b1, b2, b3, b4⟩ := y c ρ σ (H ++ X) Φ rs (s.ext X) e2
 refine ⟨by simp [hl], v :: vs, X ++ Y, F ++ G, by simp [Zg, a1, b1], ?_, fun a m => ?_, by simp⟩
 ·rw [← List.append_assoc]; exact .cons (a2.ext Y) b2
 ·rcases List.mem_append.mp m with m | m
  ·exact (a3 a m).mono fun i hi => List.mem_append_left _ hi
  ·exact (b3 a m).back.mono fun i hi => List.mem_append_right _ hi
theorem Zfx {M : List Nat} {n : Nat} {e : Ex} {p : PE} {es : Exs} {ps : PEs} (x : E O N true e p) (y : Es O M true n es ps) (hN : ∀ i ∈ N, i ∈ O) (hM : ∀ i ∈ N, i ∉ M) : Es O (N ++ M) true (n + 1) (Zg e es) (Zf p ps) := fun c ρ σ H Φ ts s q => by
 obtain ⟨t, e1, q⟩ := Zz0.mp q
 obtain ⟨rs, e2, q⟩ := Zz0.mp q
 cases q
 obtain ⟨v, X, F, a1, a2, a3, a4⟩ := x c ρ σ H Φ t s e1
 obtain ⟨hl, vs, Y, G, b1, b2, b3, b4⟩ := y c ρ σ (H ++ X) Φ rs (s.ext X) e2
 refine ⟨by simp [hl], v :: vs, X ++ Y, F ++ G, by simp [Zg, a1, b1], ?_, fun a m => ?_, fun _ => ?_⟩
 ·rw [← List.append_assoc]; exact .cons (a2.ext Y) b2
 ·rcases List.mem_append.mp m with m | m
  ·exact (a3 a m).mono fun i hi => List.mem_append_left _ hi
  ·exact (b3 a m).back.mono fun i hi => List.mem_append_right _ hi
 ·rw [List.nodup_append]
  refine ⟨a4 rfl, b4 rfl, fun a ha b hb e => ?_⟩
  subst e
  have hlt := a2.lt a ha
  rcases b3 a hb with h | ⟨j, hj, ⟨tj, ej⟩, mj⟩
  ·omega
  ·obtain ⟨vj, _, rj⟩ := s.slot j tj ej
   have := rj.lt a mj
   rcases a3 a ha with h | ⟨i, hi, ⟨ti, ei⟩, mi⟩
   ·omega
   ·exact (s.own i (hN i hi) ti ei).2.2 j tj (fun q => hM i hi (q ▸ hj)) ej a mi mj
noncomputable def Za3 (p : PEs) : PE := fun σ => (p σ).map .tup
noncomputable def Za2 (p : PEs) : PE := fun σ => (p σ).map .lst
theorem E.tup {n : Nat} {e : Exs} {p : PEs} (x : Es O N u n e p) (hn : n ≤ LEN) : E O N u (ZaX e) (Za3 p) := fun c ρ σ H Φ t s q => by
 obtain ⟨ts, e1, e2⟩ := Zz1.mp q
 subst e2
 obtain ⟨hl, vs, Y, G, b1, b2, b3, b4⟩ := x c ρ σ H Φ ts s e1
 have := b2.length
 refine ⟨.tup vs, Y, G, ?_, .tup b2, b3, b4⟩
 simp only [ZaX, b1, Option.bind_some]
 rw [if_pos (by omega)]
theorem E.list {n : Nat} {e : Exs} {p : PEs} (x : Es O N u n e p) (hn : n ≤ LEN) : E O N u (Zbe e) (Za2 p) := fun c ρ σ H Φ t s q => by
 obtain ⟨ts, e1, e2⟩ := Zz1.mp q
 subst e2
 obtain ⟨hl, vs, Y, G, b1, b2, b3, b4⟩ := x c ρ σ H Φ ts s e1
 have := b2.length
 refine ⟨.ref (H ++ Y).length, Y ++ [vs], (H ++ Y).length :: G, ?_, ?_, fun a m => ?_, fun hu => ?_⟩
 ·simp only [Zbe, b1, Option.bind_some]
  rw [if_pos (by omega), List.append_assoc]
 ·rw [← List.append_assoc]; exact .ref (by simp) (b2.ext _)
 ·rcases List.mem_cons.mp m with rfl | m
  ·exact .inl (by simp)
  ·exact b3 a m
 ·rw [List.nodup_cons]
  exact ⟨fun m => Nat.lt_irrefl _ (b2.lt _ m), b4 hu⟩
noncomputable def OA2 (o : V → V → Hp → Option (V × Hp)) (q : T → T → Option T) : Prop := ∀ (H : Hp) (v1 v2 : V) (t1 t2 t : T) (F1 F2 : List Nat), RF H v1 t1 F1 → RF H v2 t2 F2 → q t1 t2 = some t → ∃ v, o v1 v2 H = some (v, H) ∧ RF H v t []
noncomputable def OI2 (o : V → V → Hp → Option (V × Hp)) (q : T → T → Option T) : Prop := ∀ (H : Hp) (v1 v2 : V) (t1 t2 t : T) (F1 F2 : List Nat), RF H v1 t1 F1 → RF H v2 t2 F2 → q t1 t2 = some t → ∃ v F, o v1 v2 H = some (v, H) ∧ RF H v t F ∧ F.Sublist F1
noncomputable def OC2 (o : V → V → Hp → Option (V × Hp)) (q : T → T → Option T) : Prop := ∀ (H : Hp) (v1 v2 : V) (t1 t2 t : T) (F1 F2 : List Nat), RF H v1 t1 F1 → RF H v2 t2 F2 → q t1 t2 = some t → ∃ v X F, o v1 v2 H = some (v, H ++ X) ∧ RF (H ++ X) v t F ∧ (∀ a ∈ F, H.length ≤ a ∨ a ∈ F1 ∨ a ∈ F2) ∧ (t.flatIn = true → F.Nodup ∧ ∀ a ∈ F, H.length ≤ a)
noncomputable def OA1 (o : V → Hp → Option (V × Hp)) (q : T → Option T) : Prop := ∀ (H : Hp) (v1 : V) (t1 t : T) (F1 : List Nat), RF H v1 t1 F1 → q t1 = some t → ∃ v, o v1 H = some (v, H) ∧ RF H v t []
noncomputable def OAn (o : List V → Hp → Option (V × Hp)) (q : List T → Option T) : Prop := ∀ (H : Hp) (vs : List V) (ts : List T) (t : T) (F : List Nat), RFs H vs ts F → q ts = some t → ∃ v, o vs H = some (v, H) ∧ RF H v t []
noncomputable def OCn (o : List V → Hp → Option (V × Hp)) (q : List T → Option T) : Prop := ∀ (H : Hp) (vs : List V) (ts : List T) (t : T) (F1 : List Nat), 0 < H.length → RFs H vs ts F1 → q ts = some t → ∃ v X F, o vs H = some (v, H ++ X) ∧ RF (H ++ X) v t F ∧ (∀ a ∈ F, H.length ≤ a ∨ a ∈ F1) ∧ (t.flatIn = true → F.Nodup ∧ ∀ a ∈ F, H.length ≤ a)
noncomputable def Zd (q : T → T → Option T) (p1 p2 : PE) : PE := fun σ => (p1 σ).bind fun x => (p2 σ).bind fun y => q x y
noncomputable def pUn (q : T → Option T) (p1 : PE) : PE := fun σ => (p1 σ).bind fun x => q x
noncomputable def Zy (q : List T → Option T) (ps : PEs) : PE := fun σ => (ps σ).bind fun xs => q xs
noncomputable def pFl (p : PE) : PE := fun σ => (p σ).bind fun t => if t.flatIn then some t else none
theorem ZgV {M : List Nat} {u' : Bool} {e1 e2 : Ex} {p1 p2 : PE} {q : T → T → Option T} {o : V → V → Hp → Option (V × Hp)} {c : Ctx} {ρ : Lc} {σ : TL} {H : Hp} {Φ : Nat → List Nat} {t : T} (x : E O N u e1 p1) (y : E O M u' e2 p2) (s : St c O ρ σ H Φ) (h : Zd q p1 p2 σ = some t) :
  ∃ t1 t2 v1 v2 X F1 F2, q t1 t2 = some t ∧ RF (H ++ X) v1 t1 F1 ∧ RF (H ++ X) v2 t2 F2 ∧ (∀ a ∈ F1, From H N σ Φ a) ∧ (∀ a ∈ F2, From H M σ Φ a) ∧ (u = true → F1.Nodup) ∧ Ze o e1 e2 ρ H = o v1 v2 (H ++ X) := by
 obtain ⟨t1, h1, h⟩ := Zz0.mp h
 obtain ⟨t2, h2, h⟩ := Zz0.mp h
 obtain ⟨v, X, F, a1, a2, a3, a4⟩ := x c ρ σ H Φ t1 s h1
 obtain ⟨w, Y, G, b1, b2, b3, b4⟩ := y c ρ σ (H ++ X) Φ t2 (s.ext X) h2
 rw [List.append_assoc] at b1 b2
 refine ⟨t1, t2, v, w, X ++ Y, F, G, h, ?_, b2, a3, fun a m => (b3 a m).back, a4, by simp only [Ze, a1, b1, Option.bind_some]⟩
 rw [← List.append_assoc]; exact a2.ext Y
theorem ZC {M : List Nat} {u' : Bool} {e1 e2 : Ex} {p1 p2 : PE} {q : T → T → Option T} {o : V → V → Hp → Option (V × Hp)} (k : OA2 o q) (x : E O N u e1 p1) (y : E O M u' e2 p2) : E O [] true (Ze o e1 e2) (Zd q p1 p2) := fun c ρ σ H Φ t s h => by
 obtain ⟨t1, t2, v1, v2, X, F1, F2, hq, r1, r2, _, _, _, e⟩ := ZgV (o := o) x y s h
 obtain ⟨v, h1, h2⟩ := k _ v1 v2 t1 t2 t F1 F2 r1 r2 hq
 exact ⟨v, X, [], e.trans h1, h2, by simp, by simp⟩
theorem Zx {M : List Nat} {u' : Bool} {e1 e2 : Ex} {p1 p2 : PE} {q : T → T → Option T} {o : V → V → Hp → Option (V × Hp)} (k : OI2 o q) (x : E O N u e1 p1) (y : E O M u' e2 p2) : E O N u (Ze o e1 e2) (Zd q p1 p2) := fun c ρ σ H Φ t s h => by
 obtain ⟨t1, t2, v1, v2, X, F1, F2, hq, r1, r2, h1, _, hu, e⟩ := ZgV (o := o) x y s h
 obtain ⟨v, F, k1, k2, k3⟩ := k _ v1 v2 t1 t2 t F1 F2 r1 r2 hq
 exact ⟨v, X, F, e.trans k1, k2, fun a m => h1 a (k3.subset m), fun h => (hu h).sublist k3⟩
theorem Z0 {M : List Nat} {u' : Bool} {e1 e2 : Ex} {p1 p2 : PE} {q : T → T → Option T} {o : V → V → Hp → Option (V × Hp)} (k : OC2 o q) (x : E O N u e1 p1) (y : E O M u' e2 p2) : E O (N ++ M) false (Ze o e1 e2) (Zd q p1 p2) := fun c ρ σ H Φ t s h => by
 obtain ⟨t1, t2, v1, v2, X, F1, F2, hq, r1, r2, h1, h2, hu, e⟩ := ZgV (o := o) x y s h
 obtain ⟨v, Y, F, k1, k2, k3, k4⟩ := k _ v1 v2 t1 t2 t F1 F2 r1 r2 hq
 rw [List.append_assoc] at k1 k2
 refine ⟨v, X ++ Y, F, e.trans k1, k2, fun a m => ?_, by simp⟩
 rcases k3 a m with h | h | h
 ·exact .inl (by rw [List.length_append] at h; omega)
 ·exact (h1 a h).mono fun i hi => List.mem_append_left _ hi
 ·exact (h2 a h).mono fun i hi => List.mem_append_right _ hi
theorem Zn5 {M : List Nat} {u' : Bool} {e1 e2 : Ex} {p1 p2 : PE} {q : T → T → Option T} {o : V → V → Hp → Option (V × Hp)} (k : OC2 o q) (x : E O N u e1 p1) (y : E O M u' e2 p2) : E O [] true (Ze o e1 e2) (pFl (Zd q p1 p2)) := fun c ρ σ H Φ t s h => by
 obtain ⟨t', h, hf⟩ := Zz0.mp h
 by_cases fl : t'.flatIn = true
 ·rw [if_pos fl] at hf
  cases hf
  obtain ⟨t1, t2, v1, v2, X, F1, F2, hq, r1, r2, h1, h2, hu, e⟩ := ZgV (o := o) x y s h
  obtain ⟨v, Y, F, k1, k2, k3, k4⟩ := k _ v1 v2 t1 t2 t F1 F2 r1 r2 hq
  rw [List.append_assoc] at k1 k2
  exact ⟨v, X ++ Y, F, e.trans k1, k2, fun a m => .inl (by have := (k4 fl).2 a m; rw [List.length_append] at this; omega), fun _ => (k4 fl).1⟩
 ·rw [if_neg fl] at hf; cases hf
theorem Zee {e1 : Ex} {p1 : PE} {q : T → Option T} {o : V → Hp → Option (V × Hp)} (k : OA1 o q) (x : E O N u e1 p1) : E O [] true (eUn o e1) (pUn q p1) := fun c ρ σ H Φ t s h => by
 obtain ⟨t1, h1, h⟩ := Zz0.mp h
 obtain ⟨v, X, F, a1, a2, a3, a4⟩ := x c ρ σ H Φ t1 s h1
 obtain ⟨w, b1, b2⟩ := k _ v t1 t F a2 h
 exact ⟨w, X, [], by simp only [eUn, a1, Option.bind_some, b1], b2, by simp, by simp⟩
theorem Zav {n : Nat} {es : Exs} {ps : PEs} {q : List T → Option T} {o : List V → Hp → Option (V × Hp)} (k : OAn o q) (x : Es O N u n es ps) : E O [] true (ZB o es) (Zy q ps) := fun c ρ σ H Φ t s h => by
 obtain ⟨ts, h1, h⟩ := Zz0.mp h
 obtain ⟨_, vs, X, F, a1, a2, a3, a4⟩ := x c ρ σ H Φ ts s h1
 obtain ⟨w, b1, b2⟩ := k _ vs ts t F a2 h
 exact ⟨w, X, [], by simp only [ZB, a1, Option.bind_some, b1], b2, by simp, by simp⟩
theorem Zhf {n : Nat} {es : Exs} {ps : PEs} {q : List T → Option T} {o : List V → Hp → Option (V × Hp)} (k : OCn o q) (x : Es O N u n es ps) : E O N false (ZB o es) (Zy q ps) := fun c ρ σ H Φ t s h => by
 obtain ⟨ts, h1, h⟩ := Zz0.mp h
 obtain ⟨_, vs, X, F, a1, a2, a3, a4⟩ := x c ρ σ H Φ ts s h1
 have hp : 0 < (H ++ X).length := by have := s.pos; have := s.len; rw [List.length_append]; omega
 obtain ⟨w, Y, G, b1, b2, b3, b4⟩ := k _ vs ts t F hp a2 h
 rw [List.append_assoc] at b1 b2
 refine ⟨w, X ++ Y, G, by simp only [ZB, a1, Option.bind_some, b1], b2, fun a m => ?_, by simp⟩
 rcases b3 a m with h | h
 ·exact .inl (by rw [List.length_append] at h; omega)
 ·exact a3 a h
theorem ZfE {n : Nat} {es : Exs} {ps : PEs} {q : List T → Option T} {o : List V → Hp → Option (V × Hp)} (k : OCn o q) (x : Es O N u n es ps) : E O [] true (ZB o es) (pFl (Zy q ps)) := fun c ρ σ H Φ t s h => by
 obtain ⟨t', h, hf⟩ := Zz0.mp h
 by_cases fl : t'.flatIn = true
 ·rw [if_pos fl] at hf
  cases hf
  obtain ⟨ts, h1, h⟩ := Zz0.mp h
  obtain ⟨_, vs, X, F, a1, a2, a3, a4⟩ := x c ρ σ H Φ ts s h1
  have hp : 0 < (H ++ X).length := by have := s.pos; have := s.len; rw [List.length_append]; omega
  obtain ⟨w, Y, G, b1, b2, b3, b4⟩ := k _ vs ts t F hp a2 h
  rw [List.append_assoc] at b1 b2
  exact ⟨w, X ++ Y, G, by simp only [ZB, a1, Option.bind_some, b1], b2, fun a m => .inl (by have := (b4 fl).2 a m; rw [List.length_append] at this; omega), fun _ => (b4 fl).1⟩
 ·rw [if_neg fl] at hf; cases hf
noncomputable def SimF (fr : Bool) (f : List V → Hp → Option (V × Hp)) (p : List T → Option T) : Prop := ∀ (H : Hp) (vs : List V) (ts : List T) (t : T) (F1 : List Nat), 0 < H.length → RFs H vs ts F1 → p ts = some t → ∃ v X F, f vs H = some (v, H ++ X) ∧ RF (H ++ X) v t F ∧ (∀ a ∈ F, H.length ≤ a ∨ a ∈ F1) ∧ (fr = true → F.Nodup ∧ ∀ a ∈ F, H.length ≤ a)
theorem ZU {fr : Bool} {n : Nat} {es : Exs} {ps : PEs} {q : List T → Option T} {o : List V → Hp → Option (V × Hp)} (k : SimF fr o q) (x : Es O N u n es ps) : E O N false (ZB o es) (Zy q ps) := fun c ρ σ H Φ t s h => by
 obtain ⟨ts, h1, h⟩ := Zz0.mp h
 obtain ⟨_, vs, X, F, a1, a2, a3, a4⟩ := x c ρ σ H Φ ts s h1
 have hp : 0 < (H ++ X).length := by have := s.pos; have := s.len; rw [List.length_append]; omega
 obtain ⟨w, Y, G, b1, b2, b3, b4⟩ := k _ vs ts t F hp a2 h
 rw [List.append_assoc] at b1 b2
 refine ⟨w, X ++ Y, G, by simp only [ZB, a1, Option.bind_some, b1], b2, fun a m => ?_, by simp⟩
 rcases b3 a m with h | h
 ·exact .inl (by rw [List.length_append] at h; omega)
 ·exact a3 a h
theorem ZdR {n : Nat} {es : Exs} {ps : PEs} {q : List T → Option T} {o : List V → Hp → Option (V × Hp)} (k : SimF true o q) (x : Es O N u n es ps) : E O [] true (ZB o es) (Zy q ps) := fun c ρ σ H Φ t s h => by
 obtain ⟨ts, h1, h⟩ := Zz0.mp h
 obtain ⟨_, vs, X, F, a1, a2, a3, a4⟩ := x c ρ σ H Φ ts s h1
 have hp : 0 < (H ++ X).length := by have := s.pos; have := s.len; rw [List.length_append]; omega
 obtain ⟨w, Y, G, b1, b2, b3, b4⟩ := k _ vs ts t F hp a2 h
 rw [List.append_assoc] at b1 b2
 exact ⟨w, X ++ Y, G, by simp only [ZB, a1, Option.bind_some, b1], b2, fun a m => .inl (by have := (b4 rfl).2 a m; rw [List.length_append] at this; omega), fun _ => (b4 rfl).1⟩
noncomputable def ZbJ : T → Option Bool
 | .bool b => some b
 | .none => some false
 | .int i => some (i != 0)
 | _ => none
theorem ZdK {H : Hp} {v : V} {t : T} {F : List Nat} {b : Bool} (r : RF H v t F) (h : ZbJ t = some b) : Zcu v H = some b := by
 cases r <;> first | (cases h; rfl) | cases h
noncomputable def ZF (p : PE) : PB := fun σ => (p σ).bind ZbJ
noncomputable def Zb3 (p : PB) : PB := fun σ => (p σ).map fun b => !b
noncomputable def Zad : PB := fun _ => some true
noncomputable def Zci : PB := fun _ => some false
noncomputable def Zaw (p q : PB) : PB := fun σ => (p σ).bind fun b => if b then q σ else some false
noncomputable def bOr (p q : PB) : PB := fun σ => (p σ).bind fun b => if b then some true else q σ
theorem ZL {e : Ex} {p : PE} (x : E O N u e p) : Bt O (ZJ e) (ZF p) := fun c ρ σ H Φ b s h => by
 obtain ⟨t, h1, h⟩ := Zz0.mp h
 obtain ⟨v, X, F, a1, a2, a3, a4⟩ := x c ρ σ H Φ t s h1
 exact ⟨X, by simp only [ZJ, a1, Option.bind_some, ZdK a2 h, Option.map_some]⟩
theorem ZcL {e : Ts} {p : PB} (x : Bt O e p) : Bt O (Zcm e) (Zb3 p) := fun c ρ σ H Φ b s h => by
 obtain ⟨t, h1, h⟩ := Zz1.mp h
 subst h
 obtain ⟨X, a1⟩ := x c ρ σ H Φ t s h1
 exact ⟨X, by simp only [Zcm, a1, Option.map_some]⟩
theorem Zay : Bt O Zaq Zad := fun c ρ σ H Φ b s h => by
 cases h; exact ⟨[], by simp [Zaq]⟩
theorem ZcG : Bt O Zch Zci := fun c ρ σ H Φ b s h => by
 cases h; exact ⟨[], by simp [Zch]⟩
theorem ZaN {e f : Ts} {p q : PB} (x : Bt O e p) (y : Bt O f q) : Bt O (ZaB e f) (Zaw p q) := fun c ρ σ H Φ b s h => by
 obtain ⟨t, h1, h⟩ := Zz0.mp h
 obtain ⟨X, a1⟩ := x c ρ σ H Φ t s h1
 cases t with
 | true =>
  obtain ⟨Y, b1⟩ := y c ρ σ (H ++ X) Φ b (s.ext X) (by simpa using h)
  exact ⟨X ++ Y, by simp [ZaB, a1, b1]⟩
 | false => cases h; exact ⟨X, by simp [ZaB, a1]⟩
theorem Zbp {e f : Ts} {p q : PB} (x : Bt O e p) (y : Bt O f q) : Bt O (tOr e f) (bOr p q) := fun c ρ σ H Φ b s h => by
 obtain ⟨t, h1, h⟩ := Zz0.mp h
 obtain ⟨X, a1⟩ := x c ρ σ H Φ t s h1
 cases t with
 | false =>
  obtain ⟨Y, b1⟩ := y c ρ σ (H ++ X) Φ b (s.ext X) (by simpa using h)
  exact ⟨X ++ Y, by simp [tOr, a1, b1]⟩
 | true => cases h; exact ⟨X, by simp [tOr, a1]⟩
noncomputable def pIf (b : PB) (p q : PE) : PE := fun σ => (b σ).bind fun x => if x then p σ else q σ
noncomputable def ZhV (p : PE) : PE := fun σ => (p σ).bind fun t => (ZbJ t).map fun b => .bool !b
noncomputable def Zep (p q : PE) : PE := fun σ => (p σ).bind fun t => (ZbJ t).bind fun b => if b then q σ else some t
noncomputable def pOr (p q : PE) : PE := fun σ => (p σ).bind fun t => (ZbJ t).bind fun b => if b then some t else q σ
theorem ZfY {M : List Nat} {b : Ts} {pb : PB} {e f : Ex} {p q : PE} (z : Bt O b pb) (x : E O N u e p) (y : E O M u f q) : E O (N ++ M) u (eIf b e f) (pIf pb p q) := fun c ρ σ H Φ t s h => by
 obtain ⟨b', h1, h⟩ := Zz0.mp h
 obtain ⟨X, a1⟩ := z c ρ σ H Φ b' s h1
 cases b' with
 | true =>
  obtain ⟨v, Y, F, b1, b2, b3, b4⟩ := x c ρ σ (H ++ X) Φ t (s.ext X) (by simpa using h)
  exact ⟨v, X ++ Y, F, by simp [eIf, a1, b1], by rw [← List.append_assoc]; exact b2, fun a m => (b3 a m).back.mono fun i hi => List.mem_append_left _ hi, b4⟩
 | false =>
  obtain ⟨v, Y, F, b1, b2, b3, b4⟩ := y c ρ σ (H ++ X) Φ t (s.ext X) (by simpa using h)
  exact ⟨v, X ++ Y, F, by simp [eIf, a1, b1], by rw [← List.append_assoc]; exact b2, fun a m => (b3 a m).back.mono fun i hi => List.mem_append_right _ hi, b4⟩
theorem Zun {e : Ex} {p : PE} (x : E O N u e p) : E O [] true (ZhS e) (ZhV p) := fun c ρ σ H Φ t s h => by
 obtain ⟨t1, h1, h⟩ := Zz0.mp h
 obtain ⟨b, h2, h⟩ := Zz1.mp h
 subst h
 obtain ⟨v, X, F, a1, a2, a3, a4⟩ := x c ρ σ H Φ t1 s h1
 exact ⟨.bool !b, X, [], by simp only [ZhS, a1, Option.bind_some, ZdK a2 h2, Option.map_some], .bool _, by simp, by simp⟩
theorem ZlN {M : List Nat} {e f : Ex} {p q : PE} (x : E O N u e p) (y : E O M u f q) : E O (N ++ M) u (Zem e f) (Zep p q) := fun c ρ σ H Φ t s h => by
 obtain ⟨t1, h1, h⟩ := Zz0.mp h
 obtain ⟨b, h2, h⟩ := Zz0.mp h
 obtain ⟨v, X, F, a1, a2, a3, a4⟩ := x c ρ σ H Φ t1 s h1
 cases b with
 | true =>
  obtain ⟨w, Y, F', b1, b2, b3, b4⟩ := y c ρ σ (H ++ X) Φ t (s.ext X) (by simpa using h)
  exact ⟨w, X ++ Y, F', by simp [Zem, a1, ZdK a2 h2, b1], by rw [← List.append_assoc]; exact b2, fun a m => (b3 a m).back.mono fun i hi => List.mem_append_right _ hi, b4⟩
 | false =>
  cases h
  exact ⟨v, X, F, by simp [Zem, a1, ZdK a2 h2], a2, fun a m => (a3 a m).mono fun i hi => List.mem_append_left _ hi, a4⟩
theorem ZuN {M : List Nat} {e f : Ex} {p q : PE} (x : E O N u e p) (y : E O M u f q) : E O (N ++ M) u (eOr e f) (pOr p q) := fun c ρ σ H Φ t s h => by
 obtain ⟨t1, h1, h⟩ := Zz0.mp h
 obtain ⟨b, h2, h⟩ := Zz0.mp h
 obtain ⟨v, X, F, a1, a2, a3, a4⟩ := x c ρ σ H Φ t1 s h1
 cases b with
 | false =>
  obtain ⟨w, Y, F', b1, b2, b3, b4⟩ := y c ρ σ (H ++ X) Φ t (s.ext X) (by simpa using h)
  exact ⟨w, X ++ Y, F', by simp [eOr, a1, ZdK a2 h2, b1], by rw [← List.append_assoc]; exact b2, fun a m => (b3 a m).back.mono fun i hi => List.mem_append_right _ hi, b4⟩
 | true =>
  cases h
  exact ⟨v, X, F, by simp [eOr, a1, ZdK a2 h2], a2, fun a m => (a3 a m).mono fun i hi => List.mem_append_left _ hi, a4⟩
noncomputable def Zle : T → String
 | .none => "NoneType"
 | .bool _ => "bool"
 | .int _ => "int"
 | .str _ => "str"
 | .tup _ => "tuple"
 | .lst _ => "list"
end
end TM
end
section
set_option maxRecDepth 100000
set_option linter.all false
set_option autoImplicit false
namespace TM
open PySem PM
section
variable {O N : List Nat} {u : Bool}
noncomputable def Zhg (K : String) (t : T) : Bool := Zle t == K || (K == "int" && Zle t == "bool")
noncomputable def pIs (K : String) (p : PE) : PE := fun σ => (p σ).map fun t => .bool (Zhg K t)
theorem ZsE {H : Hp} {v : V} {t : T} {F : List Nat} (r : RF H v t F) : Zld v = Zle t := by cases r <;> rfl
theorem Zeq {K : String} {e : Ex} {p : PE} (x : E O N u e p) : E O [] true (eIs K e) (pIs K p) := fun c ρ σ H Φ t s h => by
 obtain ⟨t1, h1, h⟩ := Zz1.mp h
 subst h
 obtain ⟨v, X, F, a1, a2, a3, a4⟩ := x c ρ σ H Φ t1 s h1
 exact ⟨.bool (Zhg K t1), X, [], by simp only [eIs, a1, Option.map_some, Zlt, Zhg, ZsE a2], .bool _, by simp, by simp⟩
noncomputable def ZaU : T → T → Option T
 | .int a, .int b => some (.int (a - b))
 | _, _ => none
noncomputable def ZcB : T → T → Option T
 | .int a, .int b => if b ≠ 0 ∧ Builtin.divisionGoesByPylong a b = false then some (.int (a.fdiv b)) else none
 | _, _ => none
noncomputable def Za1 : T → T → Option T
 | .int a, .int b => if b ≠ 0 then some (.int (a.fmod b)) else none
 | _, _ => none
noncomputable def Zc3 : T → T → Option T
 | .int a, .int b => if 0 ≤ b ∧ (Builtin.Int.intBits a : Int) * b ≤ 2 ^ 27 then some (.int (a ^ b.toNat)) else none
 | _, _ => none
noncomputable def Zdj : T → Option T
 | .int a => some (.int (-a))
 | _ => none
noncomputable def ZhW (p : Int → Int → Bool) : T → T → Option T
 | .int a, .int b => some (.bool (p a b))
 | _, _ => none
noncomputable def qLt := ZhW fun a b => decide (a < b)
noncomputable def qLe := ZhW fun a b => decide (a ≤ b)
noncomputable def qGt := ZhW fun a b => decide (b < a)
theorem Zbf : OA2 Za9 ZaU := fun H v1 v2 t1 t2 t F1 F2 r1 r2 h => by
 cases r1 <;> first | (cases h; done) | (cases r2 <;> first | (cases h; done) | (cases h; exact ⟨_, rfl, .int _⟩))
theorem Zdx : OA2 oDiv ZcB := fun H v1 v2 t1 t2 t F1 F2 r1 r2 h => by
 cases r1 <;> first | (cases h; done) | skip
 cases r2 <;> first | (cases h; done) | skip
 simp only [ZcB] at h
 split at h
 ·rename_i hc; cases h; exact ⟨_, by simp only [oDiv]; rw [if_pos hc], .int _⟩
 ·cases h
theorem Zbb : OA2 oMod Za1 := fun H v1 v2 t1 t2 t F1 F2 r1 r2 h => by
 cases r1 <;> first | (cases h; done) | skip
 cases r2 <;> first | (cases h; done) | skip
 simp only [Za1] at h
 split at h
 ·rename_i hc; cases h; exact ⟨_, by simp only [oMod]; rw [if_pos hc], .int _⟩
 ·cases h
theorem ZlO : OA2 oPow Zc3 := fun H v1 v2 t1 t2 t F1 F2 r1 r2 h => by
 cases r1 <;> first | (cases h; done) | skip
 cases r2 <;> first | (cases h; done) | skip
 simp only [Zc3] at h
 split at h
 ·rename_i hc; cases h; exact ⟨_, by simp only [oPow]; rw [if_pos hc], .int _⟩
 ·cases h
theorem Zef : OA1 ZdA Zdj := fun H v1 t1 t F1 r1 h => by
 cases r1 <;> first | (cases h; done) | (cases h; exact ⟨_, rfl, .int _⟩)
theorem ZlP (p : Int → Int → Bool) : OA2 (ZhT p) (ZhW p) := fun H v1 v2 t1 t2 t F1 F2 r1 r2 h => by
 cases r1 <;> first | (cases h; done) | (cases r2 <;> first | (cases h; done) | (cases h; exact ⟨_, rfl, .bool _⟩))
theorem Zco : OA2 oLt qLt := ZlP _
theorem ZlU : OA2 oLe qLe := ZlP _
theorem Zer : OA2 oGt qGt := ZlP _
noncomputable def Zeg (f : T → Option PyData) : List T → Option (List PyData)
 | [] => some []
 | v :: vs => (f v).bind fun d => (Zeg f vs).bind fun ds => some (d :: ds)
noncomputable def ZcC : Nat → T → Option PyData
 | _, .none => some .none
 | _, .bool b => some (.bool b)
 | _, .int i => some (.int i)
 | _, .str x => some (.str x)
 | n + 1, .tup vs => (Zeg (ZcC n) vs).map .tuple
 | n + 1, .lst vs => (Zeg (ZcC n) vs).map .list
 | 0, .tup _ => none
 | 0, .lst _ => none
theorem Zlf {H : Hp} {f : V → Option PyData} {g : T → Option PyData} (h : ∀ v t F, RF H v t F → f v = g t) : ∀ {vs : List V} {ts : List T} {F : List Nat}, RFs H vs ts F → Ze2 f vs = Zeg g ts
 | _, _, _, .nil => rfl
 | _, _, _, .cons a b => by simp only [Ze2, Zeg, h _ _ _ a, Zlf h b]
theorem ZhB {H : Hp} : ∀ (n : Nat) (v : V) (t : T) (F : List Nat), RF H v t F → toD H n v = ZcC n t := by
 intro n
 induction n with
 | zero => intro v t F r; cases r <;> rfl
 | succ n ih =>
  intro v t F r
  cases r with
  | none => rfl
  | bool => rfl
  | int => rfl
  | str => rfl
  | tup hs => simp only [toD, ZcC, Zlf ih hs]
  | ref e hs => simp only [toD, ZcC, e, Option.bind_some, Zlf ih hs]
noncomputable def ZdU (a b : T) : Option Bool := (ZcC ZbN a).bind fun d => (ZcC ZbN b).bind fun e => if SeqAt.shaped d = true ∧ SeqAt.shaped e = true then some (PyData.eqv d e) else none
noncomputable def qEq (a b : T) : Option T := (ZdU a b).map .bool
noncomputable def qNe (a b : T) : Option T := (ZdU a b).map fun c => .bool !c
theorem Zn6 {H : Hp} {v1 v2 : V} {t1 t2 : T} {F1 F2 : List Nat} (r1 : RF H v1 t1 F1) (r2 : RF H v2 t2 F2) : ZhU v1 v2 H = ZdU t1 t2 := by
 simp only [ZhU, ZdU, ZhB ZbN _ _ _ r1, ZhB ZbN _ _ _ r2]
theorem ZaZ : OA2 oEq qEq := fun H v1 v2 t1 t2 t F1 F2 r1 r2 h => by
 obtain ⟨c, h1, h⟩ := Zz1.mp h
 subst h
 exact ⟨_, by simp only [oEq, Zn6 r1 r2, h1, Option.map_some], .bool _⟩
theorem Zbt : OA2 oNe qNe := fun H v1 v2 t1 t2 t F1 F2 r1 r2 h => by
 obtain ⟨c, h1, h⟩ := Zz1.mp h
 subst h
 exact ⟨_, by simp only [oNe, Zn6 r1 r2, h1, Option.map_some], .bool _⟩
noncomputable def qIs : T → T → Option T
 | .none, .none => some (.bool true)
 | _, .none => some (.bool false)
 | _, _ => none
noncomputable def ZbC : T → T → Option T
 | .none, .none => some (.bool false)
 | _, .none => some (.bool true)
 | _, _ => none
theorem ZbA : OA2 oIs qIs := fun H v1 v2 t1 t2 t F1 F2 r1 r2 h => by
 cases r1 <;> cases r2 <;> first | (cases h; done) | (cases h; exact ⟨_, rfl, .bool _⟩)
theorem Zcg : OA2 Zb2 ZbC := fun H v1 v2 t1 t2 t F1 F2 r1 r2 h => by
 cases r1 <;> cases r2 <;> first | (cases h; done) | (cases h; exact ⟨_, rfl, .bool _⟩)
noncomputable def Zo : T → T → Option T
 | .lst ts, .int k => (seqIndex? k ts.length).bind fun j => ts[j]?
 | .tup ts, .int k => (seqIndex? k ts.length).bind fun j => ts[j]?
 | _, _ => none
theorem Zw : OI2 Zs Zo := fun H v1 v2 t1 t2 t F1 F2 r1 r2 h => by
 cases r1 with
 | none => cases h
 | bool => cases h
 | int => cases h
 | str => cases h
 | tup hs =>
  cases r2 <;> first | (cases h; done) | skip
  obtain ⟨j, h1, h2⟩ := Zz0.mp h
  obtain ⟨v, G, e1, e2, e3⟩ := hs.at h2
  exact ⟨v, G, by simp only [Zs, hs.length, h1, Option.bind_some, e1, Option.map_some], e2, e3⟩
 | ref e hs =>
  cases r2 <;> first | (cases h; done) | skip
  obtain ⟨j, h1, h2⟩ := Zz0.mp h
  obtain ⟨v, G, e1, e2, e3⟩ := hs.at h2
  exact ⟨v, G, by simp only [Zs, e, Option.bind_some, hs.length, h1, e1, Option.map_some], e2, e3.trans (List.sublist_cons_self _ _)⟩
noncomputable def Zao : List T → Option T
 | [.lst ts] => some (.int ts.length)
 | [.tup ts] => some (.int ts.length)
 | _ => none
theorem RFs.one_inv {H : Hp} {vs : List V} {t : T} {F : List Nat} (r : RFs H vs [t] F) : ∃ v, vs = [v] ∧ RF H v t F := by
 cases r with
 | cons a b => cases b; rw [List.append_nil]; exact ⟨_, rfl, a⟩
theorem RFs.two_inv {H : Hp} {vs : List V} {t t' : T} {F : List Nat} (r : RFs H vs [t, t'] F) : ∃ v v' F1 F2, vs = [v, v'] ∧ RF H v t F1 ∧ RF H v' t' F2 ∧ F = F1 ++ F2 := by
 cases r with
 | cons a b => obtain ⟨v', h1, h2⟩ := b.one_inv; subst h1; exact ⟨_, _, _, _, rfl, a, h2, rfl⟩
theorem ZaI : OAn Zax Zao := fun H vs ts t F r h => by
 unfold Zao at h
 split at h
 ·obtain ⟨v, rfl, r'⟩ := r.one_inv
  cases r' with
  | ref e hs => cases h; exact ⟨_, by simp only [Zax, e, Option.map_some, hs.length], .int _⟩
 ·obtain ⟨v, rfl, r'⟩ := r.one_inv
  cases r' with
  | tup hs => cases h; exact ⟨_, by simp only [Zax, hs.length], .int _⟩
 ·cases h
noncomputable def Zdk : List T → Option T
 | [.int a] => some (.int (if a < 0 then -a else a))
 | _ => none
theorem Zeh : OAn Zdi Zdk := fun H vs ts t F r h => by
 unfold Zdk at h
 split at h
 ·obtain ⟨v, rfl, r'⟩ := r.one_inv
  cases r'; cases h; exact ⟨_, rfl, .int _⟩
 ·cases h
noncomputable def ZfZ : List T → Option T
 | [.int a, .int b] => some (.int (if b > a then b else a))
 | _ => none
theorem ZtH : OAn ZhK ZfZ := fun H vs ts t F r h => by
 unfold ZfZ at h
 split at h
 ·obtain ⟨v, w, F1, F2, rfl, r1, r2, _⟩ := r.two_inv
  cases r1; cases r2; cases h; exact ⟨_, rfl, .int _⟩
 ·cases h
noncomputable def Zc1 : List T → Option (List Int)
 | [] => some []
 | .int k :: vs => (Zc1 vs).map fun ks => k :: ks
 | _ :: _ => none
noncomputable def ZeV : List T → Option (List Bool)
 | [] => some []
 | .bool k :: vs => (ZeV vs).map fun ks => k :: ks
 | _ :: _ => none
theorem Zhh {H : Hp} : ∀ {vs : List V} {ts : List T} {F : List Nat} {ks : List Int}, RFs H vs ts F → Zc1 ts = some ks → Zdc vs = some ks
 | _, _, _, _, .nil, h => h
 | _, _, _, _, .cons a b, h => by
  cases a <;> first | (cases h; done) | skip
  obtain ⟨js, h1, h2⟩ := Zz1.mp h
  subst h2
  simp only [Zdc, Zhh b h1, Option.map_some]
theorem Zm5 {H : Hp} : ∀ {vs : List V} {ts : List T} {F : List Nat} {ks : List Bool}, RFs H vs ts F → ZeV ts = some ks → ZeQ vs = some ks
 | _, _, _, _, .nil, h => h
 | _, _, _, _, .cons a b, h => by
  cases a <;> first | (cases h; done) | skip
  obtain ⟨js, h1, h2⟩ := Zz1.mp h
  subst h2
  simp only [ZeQ, Zm5 b h1, Option.map_some]
noncomputable def ZhX : List T → Option T
 | [.lst ts] => (Zc1 ts).map fun ks => .int ks.sum
 | _ => none
noncomputable def Zf6 : List T → Option T
 | [.lst ts] => (ZeV ts).map fun bs => .bool (bs.any id)
 | _ => none
theorem Zuo : OAn Zf3 ZhX := fun H vs ts t F r h => by
 unfold ZhX at h
 split at h
 ·obtain ⟨v, rfl, r'⟩ := r.one_inv
  cases r' with
  | ref e hs =>
   obtain ⟨ks, h1, h2⟩ := Zz1.mp h
   subst h2
   exact ⟨_, by simp only [Zf3, e, Option.bind_some, Zhh hs h1, Option.map_some], .int _⟩
 ·cases h
theorem Zup : OAn Zf5 Zf6 := fun H vs ts t F r h => by
 unfold Zf6 at h
 split at h
 ·obtain ⟨v, rfl, r'⟩ := r.one_inv
  cases r' with
  | ref e hs =>
   obtain ⟨ks, h1, h2⟩ := Zz1.mp h
   subst h2
   exact ⟨_, by simp only [Zf5, e, Option.bind_some, Zm5 hs h1, Option.map_some], .bool _⟩
 ·cases h
theorem Zes {H : Hp} {vs : List V} {ts : List T} {F : List Nat} (r : RFs H vs ts F) : RF (H ++ [vs]) (.ref H.length) (.lst ts) (H.length :: F) := .ref (by simp) (r.ext _)
theorem Zfp {H : Hp} {vs : List V} {ts : List T} {F : List Nat} (r : RFs H vs ts F) (h : T.flatIn (.lst ts) = true) : (H.length :: F).Nodup ∧ ∀ a ∈ H.length :: F, H.length ≤ a := by
 rw [r.flats (by simpa [T.flatIn] using h)]
 simp
theorem ZrN {H : Hp} {v : V} {t : T} {F : List Nat} (r : RF H v t F) (h : F = []) : F.Nodup ∧ ∀ a ∈ F, H.length ≤ a := by subst h; simp
noncomputable def Zf7 (ts : List T) : Nat → List T
 | 0 => []
 | n + 1 => Zf7 ts n ++ ts
noncomputable def Z6 : T → T → Option T
 | .int a, .int b => some (.int (a + b))
 | .lst a, .lst b => if (a ++ b).length ≤ LEN then some (.lst (a ++ b)) else none
 | .tup a, .tup b => if (a ++ b).length ≤ LEN then some (.tup (a ++ b)) else none
 | _, _ => none
noncomputable def Zat : T → T → Option T
 | .int a, .int b => if mulOk a b = true then some (.int (a * b)) else none
 | .lst a, .int k => if a.length * k.toNat ≤ LEN ∧ -(2 ^ 63 : Int) ≤ k ∧ k < 2 ^ 63 then some (.lst (Zf7 a k.toNat)) else none
 | _, _ => none
theorem Zn7 {H : Hp} {vs : List V} {ts : List T} {F : List Nat} (r : RFs H vs ts F) : ∀ n, ∃ G, RFs H (Zeo vs n) (Zf7 ts n) G ∧ ∀ a ∈ G, a ∈ F
 | 0 => ⟨_, .nil, by simp⟩
 | n + 1 => by
  obtain ⟨G, h1, h2⟩ := Zn7 r n
  exact ⟨_, h1.append r, fun a m => (List.mem_append.mp m).elim (h2 a) id⟩
theorem Zal : OC2 Zah Z6 := fun H v1 v2 t1 t2 t F1 F2 r1 r2 h => by
 cases r1 with
 | none => cases h
 | bool => cases h
 | str => cases h
 | int a =>
  cases r2 <;> first | (cases h; done) | skip
  cases h; exact ⟨_, [], [], by simp [Zah], .int _, by simp, by simp⟩
 | tup hs1 =>
  cases r2 with
  | none => cases h
  | bool => cases h
  | str => cases h
  | int => cases h
  | ref => cases h
  | tup hs2 =>
   simp only [Z6] at h
   split at h
   ·rename_i hl
    cases h
    refine ⟨_, [], _, ?_, .tup (by simpa using hs1.append hs2), fun a m => .inr (List.mem_append.mp m), fun hf => ZrN (H := H) (.tup (hs1.append hs2)) ((RF.tup (hs1.append hs2)).flat (by simpa [T.flatIn] using hf))⟩
    simp only [Zah, List.append_nil]
    rw [if_pos (by rw [List.length_append] at hl ⊢; rw [hs1.length, hs2.length]; exact hl)]
   ·cases h
 | ref e1 hs1 =>
  cases r2 with
  | none => cases h
  | bool => cases h
  | str => cases h
  | int => cases h
  | tup => cases h
  | ref e2 hs2 =>
   simp only [Z6] at h
   split at h
   ·rename_i hl
    cases h
    refine ⟨_, _, _, ?_, Zes (hs1.append hs2), fun a m => ?_, Zfp (hs1.append hs2)⟩
    ·simp only [Zah, e1, e2, Option.bind_some]
     rw [if_pos (by rw [List.length_append] at hl ⊢; rw [hs1.length, hs2.length]; exact hl)]
    ·rcases List.mem_cons.mp m with rfl | m
     ·exact .inl (Nat.le_refl _)
     ·rcases List.mem_append.mp m with m | m
      ·exact .inr (.inl (Zz2 _ m))
      ·exact .inr (.inr (Zz2 _ m))
   ·cases h
theorem ZaS : OC2 ZaJ Zat := fun H v1 v2 t1 t2 t F1 F2 r1 r2 h => by
 cases r1 with
 | none => cases h
 | bool => cases h
 | str => cases h
 | tup => cases h
 | int a =>
  cases r2 <;> first | (cases h; done) | skip
  simp only [Zat] at h
  split at h
  ·rename_i hm
   cases h; exact ⟨_, [], [], by simp only [ZaJ]; rw [if_pos hm]; simp, .int _, by simp, by simp⟩
  ·cases h
 | ref e1 hs1 =>
  cases r2 with
  | none => cases h
  | bool => cases h
  | str => cases h
  | tup => cases h
  | ref => cases h
  | int k =>
   simp only [Zat] at h
   split at h
   ·rename_i hl
    cases h
    obtain ⟨G, h1, h2⟩ := Zn7 hs1 k.toNat
    refine ⟨_, _, _, ?_, Zes h1, fun a m => ?_, Zfp h1⟩
    ·simp only [ZaJ, e1, Option.bind_some]
     rw [if_pos (by rw [hs1.length]; exact hl)]
    ·rcases List.mem_cons.mp m with rfl | m
     ·exact .inl (Nat.le_refl _)
     ·exact .inr (.inl (Zz2 _ (h2 a m)))
   ·cases h
noncomputable def Zcj : List T → Option T
 | [.lst ts] => some (.lst ts)
 | [.tup ts] => some (.lst ts)
 | _ => none
theorem ZdM : OCn Zcv Zcj := fun H vs ts t F hp r h => by
 unfold Zcj at h
 split at h
 ·obtain ⟨v, rfl, r'⟩ := r.one_inv
  cases r' with
  | ref e hs => cases h; exact ⟨_, _, _, by simp only [Zcv, e, Option.map_some], Zes hs, fun a m => (List.mem_cons.mp m).imp (fun q => Nat.le_of_eq q.symm) (Zz2 _), Zfp hs⟩
 ·obtain ⟨v, rfl, r'⟩ := r.one_inv
  cases r' with
  | tup hs => cases h; exact ⟨_, _, _, by simp only [Zcv], Zes hs, fun a m => (List.mem_cons.mp m).imp (fun q => Nat.le_of_eq q.symm) id, Zfp hs⟩
 ·cases h
end
end TM
end
section
set_option maxRecDepth 100000
set_option linter.all false
set_option autoImplicit false
namespace TM
open PySem PM
theorem St.from_src {c : Ctx} {O N : List Nat} {ρ : Lc} {σ : TL} {H : Hp} {Φ : Nat → List Nat} (s : St c O ρ σ H Φ) {a : Nat} (f : From H N σ Φ a) : c.H0.length ≤ a ∨ c.P a := by
 rcases f with h | ⟨i, hi, ⟨t, e⟩, m⟩
 ·exact .inl (Nat.le_trans s.len h)
 ·exact s.src i t e a m
theorem St.from_off {c : Ctx} {O N : List Nat} {ρ : Lc} {σ : TL} {H : Hp} {Φ : Nat → List Nat} (s : St c O ρ σ H Φ) (hN : ∀ i ∈ N, i ∉ O) {a : Nat} (f : From H N σ Φ a) {i : Nat} (hi : i ∈ O) {t : T} (e : σ i = some t) : a ∉ Φ i := by
 intro m
 obtain ⟨v, _, r⟩ := s.slot i t e
 have hl := r.lt a m
 rcases f with h | ⟨j, hj, ⟨t', e'⟩, m'⟩
 ·omega
 ·exact (s.own i hi t e).2.2 j t' (fun q => hN j hj (q ▸ hi)) e' a m m'
noncomputable abbrev PPt := TL → Option (Option Int)
noncomputable def ZtI : PPt := fun _ => some none
noncomputable def ZuS (p : PE) : PPt := fun σ => (p σ).bind fun t => match t with
 | .int k => some (some k)
 | _ => none
noncomputable def Pe (O : List Nat) (f : Pt) (p : PPt) : Prop := ∀ (c : Ctx) (ρ : Lc) (σ : TL) (H : Hp) (Φ : Nat → List Nat) (k : Option Int), St c O ρ σ H Φ → p σ = some k → ∃ o X, f ρ H = some (o, H ++ X) ∧ ZfV o = some k
section
variable {O N : List Nat} {u : Bool}
theorem Pe.none : Pe O PM.ZfW ZtI := fun c ρ σ H Φ k s h => by
 cases h; exact ⟨Option.none, [], by simp [PM.ZfW], rfl⟩
noncomputable def ZuT (p : PE) (lo hi : PPt) : PE := fun σ => (p σ).bind fun t => (lo σ).bind fun a => (hi σ).bind fun b => match t with
 | .lst ts => Option.some (.lst (ZcO ts a b))
 | _ => Option.none
noncomputable def Zdg (p : PE) (k : Nat) : PE := fun σ => (p σ).bind fun t => match t with
 | .lst ts => Option.some (.lst (ts.drop k))
 | .tup ts => if 1 ≤ k ∧ k ≤ ts.length then Option.some (.tup (ts.drop k)) else Option.none
 | _ => Option.none
theorem Zq2 {c : Ctx} {ρ : Lc} {σ : TL} {H : Hp} {Φ : Nat → List Nat} {t : T} {e : Ex} {p : PE} {k : Nat} (x : E O N u e p) (s : St c O ρ σ H Φ) (h : Zdg p k σ = Option.some t) :
  ∃ v X F, Zdw e k ρ H = Option.some (v, H ++ X) ∧ RF (H ++ X) v t F ∧ (∀ a ∈ F, From H N σ Φ a) ∧ (t.flatIn = true → F.Nodup ∧ ∀ a ∈ F, H.length ≤ a) := by
 obtain ⟨t1, h1, h⟩ := Zz0.mp h
 obtain ⟨v, X, F, a1, a2, a3, a4⟩ := x c ρ σ H Φ t1 s h1
 cases a2 with
 | none => cases h
 | bool => cases h
 | int => cases h
 | str => cases h
 | tup hs =>
  simp only at h
  split at h
  ·rename_i hc
   cases h
   obtain ⟨G, g1, g2⟩ := hs.drop k
   refine ⟨_, X, G, ?_, .tup g1, fun a m => a3 a (g2.subset m), fun hf => ?_⟩
   ·simp only [Zdw, a1, Option.bind_some]
    rw [if_pos (by rw [hs.length]; exact hc)]
   ·rw [g1.flats (by simpa [T.flatIn, T.flat] using hf)]
    simp
  ·cases h
 | @ref b vs1 ts1 F1 e1 hs =>
  cases h
  obtain ⟨G, g1, g2⟩ := hs.drop k
  refine ⟨.ref (H ++ X).length, X ++ [vs1.drop k], (H ++ X).length :: G, ?_, ?_, fun a m => ?_, fun hf => ?_⟩
  ·simp only [Zdw, a1, Option.bind_some, e1, List.append_assoc]
  ·rw [← List.append_assoc]; exact Zes g1
  ·rcases List.mem_cons.mp m with rfl | m
   ·exact .inl (by simp)
   ·exact a3 a (Zz2 _ (g2.subset m))
  ·have := Zfp g1 hf
   exact ⟨this.1, fun q m => by have := this.2 q m; simp at this; omega⟩
theorem ZhC {e : Ex} {p : PE} {k : Nat} (x : E O N u e p) : E O N false (Zdw e k) (Zdg p k) := fun c ρ σ H Φ t s h => by
 obtain ⟨v, X, F, a1, a2, a3, a4⟩ := Zq2 x s h
 exact ⟨v, X, F, a1, a2, a3, by simp⟩
end
noncomputable def Gs (O N : List Nat) (g : Src) (q : PG) : Prop := ∀ (c : Ctx) (ρ : Lc) (σ : TL) (H : Hp) (Φ : Nat → List Nat) (ts : List T), St c O ρ σ H Φ → q σ = some ts →
 ∃ (nx : Nx) (X : Hp) (vs : List V) (F G : List Nat), g ρ H = some (nx, ts.length + 1, H ++ X) ∧ RFs (H ++ X) vs ts F ∧ (∀ a ∈ F, a ∈ G) ∧ (∀ a ∈ G, a < (H ++ X).length ∧ From H N σ Φ a) ∧ ∀ K : Hp, (∀ a ∈ G, K[a]? = (H ++ X)[a]?) → ∀ i, i ≤ vs.length → nx i K = some vs[i]?
section
variable {O N M : List Nat} {u u' : Bool}
noncomputable def ZaE (p : PE) : PG := fun σ => (p σ).bind fun t => match t with
 | .lst ts => some ts
 | .tup ts => some ts
 | _ => none
theorem Gs.seq {e : Ex} {p : PE} (x : E O N u e p) : Gs O N (Zbj e) (ZaE p) := fun c ρ σ H Φ ts s h => by
 obtain ⟨t1, h1, h⟩ := Zz0.mp h
 obtain ⟨v, X, F, a1, a2, a3, a4⟩ := x c ρ σ H Φ t1 s h1
 have hlt := a2.lt
 cases a2 with
 | none => cases h
 | bool => cases h
 | int => cases h
 | str => cases h
 | @tup vs _ _ hs =>
  cases h
  exact ⟨Zn4 vs, X, vs, F, F, by simp only [Zbj, a1, Option.bind_some, hs.length], hs, fun _ m => m, fun a m => ⟨hlt a m, a3 a m⟩, fun K _ i hi => rfl⟩
 | @ref b vs _ F' e1 hs =>
  cases h
  refine ⟨Zlu b, X, vs, F', b :: F', by simp only [Zbj, a1, Option.bind_some, e1, Option.map_some, hs.length], hs, fun _ m => List.mem_cons_of_mem _ m, fun a m => ⟨hlt a m, a3 a m⟩, fun K hK i hi => ?_⟩
  simp only [Zlu, hK b Zz5, e1, Option.map_some]
noncomputable def Zcb (a b c : Int) : Option (List T) := if c ≠ 0 ∧ Builtin.Range.small a b c = true ∧ 0 ≤ Builtin.Range.rangeSize a b c ∧ rngN a b c ≤ LEN ∧ Builtin.divisionGoesByPylong (b - a) c = false then some ((List.range (rngN a b c)).map fun (i : Nat) => .int (a + (i : Int) * c)) else none
noncomputable def ZaG (p : PEs) : PG := fun σ => (p σ).bind fun ts => match ts with
 | [.int b] => Zcb 0 b 1
 | [.int a, .int b] => Zcb a b 1
 | [.int a, .int b, .int c] => Zcb a b c
 | _ => none
theorem Zm6 (H : Hp) (a c : Int) : ∀ (l : List Nat), RFs H (l.map fun (i : Nat) => .int (a + (i : Int) * c)) (l.map fun (i : Nat) => .int (a + (i : Int) * c)) []
 | [] => .nil
 | i :: l => by have := RFs.cons (RF.int (H := H) (a + i * c)) (Zm6 H a c l); exact this
theorem ZkQ {a b c : Int} {H : Hp} {ts : List T} (h : Zcb a b c = some ts) : ∃ (nx : Nx) (vs : List V), Zcf a b c H = some (nx, ts.length + 1, H) ∧ RFs H vs ts [] ∧ ∀ K : Hp, ∀ i, i ≤ vs.length → nx i K = some vs[i]? := by
 unfold Zcb at h
 split at h
 ·rename_i hc
  cases h
  refine ⟨ZeP a c (rngN a b c), (List.range (rngN a b c)).map fun (i : Nat) => .int (a + (i : Int) * c), ?_, Zm6 H a c _, fun K i hi => ?_⟩
  ·unfold Zcf
   rw [if_pos hc]
   simp
  ·simp only [ZeP, List.getElem?_map]
   by_cases q : i < rngN a b c
   ·rw [if_pos q, List.getElem?_range q]; rfl
   ·rw [if_neg q, List.getElem?_eq_none (by simpa using Nat.le_of_not_lt q)]; rfl
 ·cases h
theorem RFs.three_inv {H : Hp} {vs : List V} {t t' t'' : T} {F : List Nat} (r : RFs H vs [t, t', t''] F) : ∃ v v' v'' F1 F2 F3, vs = [v, v', v''] ∧ RF H v t F1 ∧ RF H v' t' F2 ∧ RF H v'' t'' F3 := by
 cases r with
 | cons a b => obtain ⟨v', v'', F2, F3, h1, h2, h3, _⟩ := b.two_inv; subst h1; exact ⟨_, _, _, _, _, _, rfl, a, h2, h3⟩
theorem Gs.range {n : Nat} {e : Exs} {p : PEs} (x : Es O N u n e p) : Gs O [] (ZaR e) (ZaG p) := fun c ρ σ H Φ ts s h => by
 obtain ⟨t1, h1, h⟩ := Zz0.mp h
 obtain ⟨_, vs, X, F, a1, a2, a3, a4⟩ := x c ρ σ H Φ t1 s h1
 split at h
 ·obtain ⟨v, rfl, r⟩ := a2.one_inv
  cases r
  obtain ⟨nx, us, q1, q2, q3⟩ := ZkQ (H := H ++ X) h
  exact ⟨nx, X, us, [], [], by simp only [ZaR, a1, Option.bind_some, q1], q2, by simp, by simp, fun K _ => q3 K⟩
 ·obtain ⟨v, v', F1, F2, rfl, r, r', _⟩ := a2.two_inv
  cases r; cases r'
  obtain ⟨nx, us, q1, q2, q3⟩ := ZkQ (H := H ++ X) h
  exact ⟨nx, X, us, [], [], by simp only [ZaR, a1, Option.bind_some, q1], q2, by simp, by simp, fun K _ => q3 K⟩
 ·obtain ⟨v, v', v'', F1, F2, F3, rfl, r, r', r''⟩ := a2.three_inv
  cases r; cases r'; cases r''
  obtain ⟨nx, us, q1, q2, q3⟩ := ZkQ (H := H ++ X) h
  exact ⟨nx, X, us, [], [], by simp only [ZaR, a1, Option.bind_some, q1], q2, by simp, by simp, fun K _ => q3 K⟩
 ·cases h
noncomputable def ZdC (p q : PE) : PG := fun σ => (p σ).bind fun t => (q σ).bind fun s => match t, s with
 | .lst ts, .lst ss => some (List.zipWith (fun x y => .tup [x, y]) ts ss)
 | _, _ => none
theorem RFs.zip {H : Hp} : ∀ {vs us : List V} {ts ss : List T} {F G : List Nat}, RFs H vs ts F → RFs H us ss G → ∃ D, RFs H (List.zipWith (fun x y => .tup [x, y]) vs us) (List.zipWith (fun x y => .tup [x, y]) ts ss) D ∧ ∀ a ∈ D, a ∈ F ∨ a ∈ G
 | _, _, _, _, _, _, .nil, _ => ⟨_, .nil, by simp⟩
 | _, _, _, _, _, _, .cons _ _, .nil => ⟨_, .nil, by simp⟩
 | _, _, _, _, _, _, .cons a b, .cons a' b' => by
  obtain ⟨D, h1, h2⟩ := b.zip b'
  refine ⟨_, .cons (.tup (.cons a (.one a'))) h1, fun x m => ?_⟩
  rcases List.mem_append.mp m with m | m
  ·rcases List.mem_append.mp m with m | m
   ·exact .inl (Zz4 _ m)
   ·exact .inr (Zz4 _ m)
  ·exact (h2 x m).imp (Zz3 _) (Zz3 _)
theorem Gs.zip {e1 e2 : Ex} {p1 p2 : PE} (x : E O N u e1 p1) (y : E O M u' e2 p2) : Gs O (N ++ M) (ZdB e1 e2) (ZdC p1 p2) := fun c ρ σ H Φ ts s h => by
 obtain ⟨t1, h1, h⟩ := Zz0.mp h
 obtain ⟨t2, h2, h⟩ := Zz0.mp h
 obtain ⟨v, X, F, a1, a2, a3, a4⟩ := x c ρ σ H Φ t1 s h1
 obtain ⟨w, Y, G, b1, b2, b3, b4⟩ := y c ρ σ (H ++ X) Φ t2 (s.ext X) h2
 have a2 := a2.ext Y
 have l1 := a2.lt
 have l2 := b2.lt
 rw [List.append_assoc] at a2 b2 l1 l2 b1
 cases a2 with
 | none => cases h
 | bool => cases h
 | int => cases h
 | str => cases h
 | tup => cases b2 <;> cases h
 | @ref a vs _ F' e1 hs =>
  cases b2 with
  | none => cases h
  | bool => cases h
  | int => cases h
  | str => cases h
  | tup => cases h
  | @ref b us _ G' e2 hs2 =>
   cases h
   obtain ⟨D, d1, d2⟩ := hs.zip hs2
   refine ⟨ZfX a b, X ++ Y, _, D, a :: b :: D, ?_, d1, fun q m => List.mem_cons_of_mem _ (Zz2 _ m), fun q m => ?_, fun K hK i hi => ?_⟩
   ·simp only [ZdB, a1, Option.bind_some, b1, e1, e2, Option.map_some, List.length_zipWith, hs.length, hs2.length]
   ·rcases List.mem_cons.mp m with rfl | m
    ·exact ⟨l1 _ Zz5, (a3 _ Zz5).mono fun i hi => List.mem_append_left _ hi⟩
    ·rcases List.mem_cons.mp m with rfl | m
     ·exact ⟨l2 _ Zz5, (b3 _ Zz5).back.mono fun i hi => List.mem_append_right _ hi⟩
     ·rcases d2 q m with m | m
      ·exact ⟨l1 _ (Zz2 _ m), (a3 _ (Zz2 _ m)).mono fun i hi => List.mem_append_left _ hi⟩
      ·exact ⟨l2 _ (Zz2 _ m), (b3 _ (Zz2 _ m)).back.mono fun i hi => List.mem_append_right _ hi⟩
   ·simp only [ZfX, hK a Zz5, hK b (Zz2 _ Zz5), e1, e2, Option.bind_some, List.getElem?_zipWith]
    rw [List.length_zipWith] at hi
    by_cases q : i < min vs.length us.length
    ·rw [List.getElem?_eq_getElem (show i < vs.length by omega), List.getElem?_eq_getElem (show i < us.length by omega)]
    ·have q' : i = min vs.length us.length := by omega
     by_cases q2 : i < vs.length
     ·rw [List.getElem?_eq_getElem q2, List.getElem?_eq_none (show us.length ≤ i by omega)]
      simp [q']
     ·rw [List.getElem?_eq_none (show vs.length ≤ i by omega)]
      simp [q']
end
noncomputable def PutOk (O J : List Nat) (put : V → Lc → Option Lc) (q : T → TL → Option TL) : Prop := ∀ (c : Ctx) (ρ : Lc) (σ : TL) (H : Hp) (Φ : Nat → List Nat) (v : V) (t : T) (F : List Nat) (σ1 : TL), St c O ρ σ H Φ → RF H v t F → (∀ a ∈ F, c.H0.length ≤ a ∨ c.P a) → (∀ i ∈ O, ∀ t', σ i = some t' → ∀ a ∈ Φ i, a ∉ F) → q t σ = some σ1 →
 ∃ ρ1 Φ1, put v ρ = some ρ1 ∧ St c O ρ1 σ1 H Φ1 ∧ (∀ i, i ∉ J → σ1 i = σ i ∧ Φ1 i = Φ i) ∧ ∀ i ∈ J, ∀ a ∈ Φ1 i, a ∈ F
noncomputable def Zap (Φ : Nat → List Nat) (j : Nat) (F : List Nat) : Nat → List Nat := fun i => if i = j then F else Φ i
theorem St.put {c : Ctx} {O : List Nat} {ρ : Lc} {σ : TL} {H : Hp} {Φ : Nat → List Nat} {v : V} {t : T} {F : List Nat} {j : Nat} (s : St c O ρ σ H Φ) (hj : j ∉ O) (r : RF H v t F) (hs : ∀ a ∈ F, c.H0.length ≤ a ∨ c.P a) (ho : ∀ i ∈ O, ∀ t', σ i = some t' → ∀ a ∈ Φ i, a ∉ F) : St c O (upd ρ j v) (ZZ σ j t) H (Zap Φ j F) := by
 refine ⟨fun i u e => ?_, fun i u e => ?_, fun i hi u e => ?_, s.len, s.keep, s.pos, s.f0⟩
 ·by_cases q : i = j
  ·subst q
   simp [ZZ] at e
   subst e
   exact ⟨v, by simp [upd], by simpa [Zap] using r⟩
  ·simp [ZZ, q] at e
   simpa [upd, Zap, q] using s.slot i u e
 ·by_cases q : i = j
  ·subst q; simpa [Zap] using hs
  ·simp [ZZ, q] at e
   simpa [Zap, q] using s.src i u e
 ·have q : i ≠ j := fun q => hj (q ▸ hi)
  simp [ZZ, q] at e
  obtain ⟨h1, h2, h3⟩ := s.own i hi u e
  refine ⟨by simpa [Zap, q] using h1, by simpa [Zap, q] using h2, fun k w hk ek => ?_⟩
  by_cases q2 : k = j
  ·subst q2
   simpa [Zap, q] using ho i hi u e
  ·simp [ZZ, q2] at ek
   simpa [Zap, q, q2] using h3 k w hk ek
noncomputable def Z5 (j : Nat) : T → TL → Option TL := fun t σ => some (ZZ σ j t)
noncomputable def Zcz (i j : Nat) : T → TL → Option TL
 | .tup [a, b], σ => some (ZZ (ZZ σ i a) j b)
 | _, _ => none
theorem PutOk.one {O : List Nat} {j : Nat} (hj : j ∉ O) : PutOk O [j] (Zam j) (Z5 j) := fun c ρ σ H Φ v t F σ1 s r hs ho h => by
 cases h
 refine ⟨_, _, rfl, s.put hj r hs ho, fun i hi => ?_, fun i hi a m => ?_⟩
 ·have : i ≠ j := fun q => hi (by simp [q])
  simp [ZZ, Zap, this]
 ·simp at hi; subst hi; simpa [Zap] using m
theorem PutOk.two {O : List Nat} {i j : Nat} (hi : i ∉ O) (hj : j ∉ O) (hij : i ≠ j) : PutOk O [i, j] (Zca i j) (Zcz i j) := fun c ρ σ H Φ v t F σ1 s r hs ho h => by
 unfold Zcz at h
 split at h
 ·cases h
  cases r with
  | tup hh =>
   obtain ⟨v1, v2, F1, F2, rfl, r1, r2, rfl⟩ := hh.two_inv
   have s1 := s.put hi r1 (fun a m => hs a (Zz4 _ m)) (fun k hk t' e a m q => ho k hk t' e a m (Zz4 _ q))
   have s2 := s1.put hj r2 (fun a m => hs a (Zz3 _ m)) (fun k hk t' e a m q => by
    have : k ≠ i := fun q => hi (q ▸ hk)
    simp [ZZ, Zap, this] at e m
    exact ho k hk t' e a m (Zz3 _ q))
   refine ⟨_, _, rfl, s2, fun k hk => ?_, fun k hk a m => ?_⟩
   ·simp at hk
    simp [ZZ, Zap, hk.1, hk.2]
   ·simp at hk
    rcases hk with rfl | rfl
    ·simp [Zap, hij] at m
     exact Zz4 _ m
    ·simp [Zap] at m
     exact Zz3 _ m
 ·cases h
noncomputable def Zcp (put : T → TL → Option TL) (c : PB) (f : PE) (σ : TL) : List T → Option (List T)
 | [] => some []
 | t :: ts => (put t σ).bind fun σ1 => (c σ1).bind fun b => if b then (f σ1).bind fun x => (Zcp put c f σ ts).map fun xs => x :: xs else Zcp put c f σ ts
noncomputable def Zan (g : PG) (put : T → TL → Option TL) (c : PB) (f : PE) : PE := fun σ => (g σ).bind fun ts => if ts.length ≤ LEN then (Zcp put c f σ ts).map .lst else none
section
variable {O Ns Ne J : List Nat} {u : Bool}
theorem comp_core {put : V → Lc → Option Lc} {pput : T → TL → Option TL} {tc : Ts} {pc : PB} {f : Ex} {pf : PE} (hj : PutOk O J put pput) (hN : ∀ i ∈ Ns, i ∉ O) (hc : Bt O tc pc) (hf : E O Ne u f pf) (hu : u = true → Ne = [])
  {c : Ctx} {ρ : Lc} {σ : TL} {Φ : Nat → List Nat} {H0 H1 : Hp} {nx : Nx} {vs : List V} {G : List Nat} (h0 : H0.length ≤ H1.length)
  (hG : ∀ a ∈ G, a < H1.length ∧ From H0 Ns σ Φ a) (hoff : ∀ a ∈ G, ∀ i ∈ O, ∀ t, σ i = some t → a ∉ Φ i) (hsrc : ∀ a ∈ G, c.H0.length ≤ a ∨ c.P a) (hnx : ∀ K : Hp, (∀ a ∈ G, K[a]? = H1[a]?) → ∀ i, i ≤ vs.length → nx i K = some vs[i]?) :
  ∀ (rs : List T) (ws : List V) (i : Nat) (acc : List V) (K : Hp) (Fr : List Nat) (out : List T), (∀ j, vs[i + j]? = ws[j]?) → i + ws.length = vs.length → St c O ρ σ K Φ → H1.length ≤ K.length → (∀ a ∈ G, K[a]? = H1[a]?) → RFs K ws rs Fr → (∀ a ∈ Fr, a ∈ G) → acc.length + rs.length ≤ LEN → Zcp pput pc pf σ rs = some out →
   ∃ xs X F, Zcy nx put tc f ρ (rs.length + 1) i acc K = some (acc ++ xs, K ++ X) ∧ RFs (K ++ X) xs out F ∧ (∀ a ∈ F, (u = true → K.length ≤ a) ∧ From H0 (Ns ++ Ne) σ Φ a) ∧ (u = true → F.Nodup)
 | [], ws, i, acc, K, Fr, out, hat, hlen, s, hl, hk, r, hfr, hacc, h => by
  cases r
  cases h
  have e := hnx K hk i (by simp at hlen; omega)
  have e2 : vs[i]? = none := by have := hat 0; simpa using this
  refine ⟨[], [], [], ?_, .nil, by simp, by simp⟩
  simp [Zcy, e, e2]
 | t :: rs, ws0, i, acc, K, Fr0, out, hat, hlen, s, hl, hk, r, hfr, hacc, h => by
  cases r with
  | @cons v _ F1 ws _ F2 a b =>
  simp only [List.length_cons] at hlen hacc
  obtain ⟨σ1, h1, h⟩ := Zz0.mp h
  obtain ⟨bb, h2, h⟩ := Zz0.mp h
  have e := hnx K hk i (by omega)
  have e2 : vs[i]? = some v := by have := hat 0; simpa using this
  have hat' : ∀ j, vs[i + 1 + j]? = ws[j]? := fun j => by have := hat (j + 1); rw [show i + 1 + j = i + (j + 1) by omega, this]; simp
  obtain ⟨ρ1, Φ1, p1, s1, p3, p4⟩ := hj c ρ σ K Φ v t F1 σ1 s a (fun x m => hsrc x (hfr x (Zz4 _ m))) (fun k hk t' e x m q => hoff x (hfr x (Zz4 _ q)) k hk t' e m) h1
  obtain ⟨X1, c1⟩ := hc c ρ1 σ1 K Φ1 bb s1 h2
  cases bb with
  | true =>
   obtain ⟨y, h3, h⟩ := Zz0.mp h
   obtain ⟨ys, h4, h⟩ := Zz1.mp h
   subst h
   obtain ⟨w, X2, Fw, d1, d2, d3, d4⟩ := hf c ρ1 σ1 (K ++ X1) Φ1 y (s1.ext X1) h3
   have hext : ∀ a ∈ G, (K ++ X1 ++ X2)[a]? = H1[a]? := fun a m => by
    have := (hG a m).1
    rw [List.append_assoc, List.getElem?_append_left (by omega)]; exact hk a m
   obtain ⟨xs, X3, F3, f1, f2, f3, f4⟩ := comp_core hj hN hc hf hu h0 hG hoff hsrc hnx rs ws (i + 1) (acc ++ [w]) (K ++ X1 ++ X2) F2 ys hat' (by omega) ((s.ext X1).ext X2) (by simp; omega) hext (by rw [List.append_assoc]; exact b.ext _) (fun x m => hfr x (Zz3 _ m)) (by simp; omega) h4
   refine ⟨w :: xs, X1 ++ X2 ++ X3, Fw ++ F3, ?_, ?_, fun x m => ?_, fun hu' => ?_⟩
   ·rw [List.length_cons, Zcy, e, e2]
    simp only [Option.bind_some, p1, c1, d1, if_true]
    rw [if_pos (by omega)]
    simpa using f1
   ·have := RFs.cons (d2.ext X3) f2
    simpa using this
   ·rcases List.mem_append.mp m with m | m
    ·refine ⟨fun hu' => ?_, ?_⟩
     ·have hne := hu hu'
      subst hne
      have := (d3 x m).nil
      simp at this; omega
     ·rcases d3 x m with q | ⟨k, hk1, ⟨tk, ek⟩, mk⟩
      ·exact .inl (by simp at q; omega)
      ·by_cases hkJ : k ∈ J
       ·exact (hG x (hfr x (Zz4 _ (p4 k hkJ x mk)))).2.mono fun i hi => List.mem_append_left _ hi
       ·obtain ⟨q1, q2⟩ := p3 k hkJ
        exact .inr ⟨k, List.mem_append_right _ hk1, ⟨tk, q1 ▸ ek⟩, q2 ▸ mk⟩
    ·obtain ⟨g1, g2⟩ := f3 x m
     exact ⟨fun hu' => by have := g1 hu'; simp at this; omega, g2⟩
   ·rw [List.nodup_append]
    refine ⟨d4 hu', f4 hu', fun x hx y hy e => ?_⟩
    have l1 := d2.lt x hx
    have l2 := (f3 y hy).1 hu'
    omega
  | false =>
   have hext : ∀ a ∈ G, (K ++ X1)[a]? = H1[a]? := fun a m => by
    have := (hG a m).1
    rw [List.getElem?_append_left (by omega)]; exact hk a m
   obtain ⟨xs, X3, F3, f1, f2, f3, f4⟩ := comp_core hj hN hc hf hu h0 hG hoff hsrc hnx rs ws (i + 1) acc (K ++ X1) F2 out hat' (by omega) (s.ext X1) (by simp; omega) hext (b.ext _) (fun x m => hfr x (Zz3 _ m)) (by omega) (by simpa using h)
   refine ⟨xs, X1 ++ X3, F3, ?_, by simpa using f2, fun x m => ?_, f4⟩
   ·rw [List.length_cons, Zcy, e, e2]
    simp only [Option.bind_some, p1, c1]
    simpa using f1
   ·obtain ⟨g1, g2⟩ := f3 x m
    exact ⟨fun hu' => by have := g1 hu'; simp at this; omega, g2⟩
theorem Zn8 {g : Src} {q : PG} {put : V → Lc → Option Lc} {pput : T → TL → Option TL} {tc : Ts} {pc : PB} {f : Ex} {pf : PE} (hg : Gs O Ns g q) (hj : PutOk O J put pput) (hN : ∀ i ∈ Ns, i ∉ O) (hc : Bt O tc pc) (hf : E O Ne u f pf) (hu : u = true → Ne = []) : E O (if u then [] else Ns ++ Ne) u (Zaz g put tc f) (Zan q pput pc pf) := fun c ρ σ H Φ t s h => by
 obtain ⟨ts, h1, h⟩ := Zz0.mp h
 split at h
 ·rename_i hl
  obtain ⟨out, h2, h⟩ := Zz1.mp h
  subst h
  obtain ⟨nx, X, vs, F, G, g1, g2, g3, g4, g5⟩ := hg c ρ σ H Φ ts s h1
  obtain ⟨xs, Y, F', d1, d2, d3, d4⟩ := comp_core hj hN hc hf hu (H0 := H) (H1 := H ++ X) (by simp) g4 (fun a m i hi t e => s.from_off hN (g4 a m).2 hi e) (fun a m => s.from_src (g4 a m).2) g5 ts vs 0 [] (H ++ X) F out (by simp) (by simp) (s.ext X) (Nat.le_refl _) (fun _ _ => rfl) g2 g3 (by simpa using hl) h2
  refine ⟨.ref (H ++ X ++ Y).length, X ++ Y ++ [xs], (H ++ X ++ Y).length :: F', ?_, ?_, fun a m => ?_, fun hu' => ?_⟩
  ·simp only [Zaz, g1, Option.bind_some, d1, Option.map_some, List.nil_append, List.append_assoc]
  ·have := Zes d2
   simpa using this
  ·rcases List.mem_cons.mp m with rfl | m
   ·exact .inl (by simp)
   ·obtain ⟨q1, q2⟩ := d3 a m
    cases u with
    | true => exact .inl (by have := q1 rfl; simp at this; omega)
    | false => exact q2
  ·rw [List.nodup_cons]
   exact ⟨fun m => Nat.lt_irrefl _ (d2.lt _ m), d4 hu'⟩
 ·cases h
end
end TM
end
section
set_option maxRecDepth 100000
set_option linter.all false
set_option autoImplicit false
namespace TM
open PySem PM
noncomputable abbrev PS := TL → Option (Option T × TL)
noncomputable def Zcq (σ : TL) (N : List Nat) : TL := fun j => if j ∈ N then none else σ j
noncomputable def ZcD (O : List Nat) (σ : TL) (Φ : Nat → List Nat) (a : Nat) : Prop := ∃ j ∈ O, (∃ t, σ j = some t) ∧ a ∈ Φ j
noncomputable def Aft (c : Ctx) (O O' R : List Nat) (fr : Bool) (σ : TL) (H : Hp) (Φ : Nat → List Nat) (g : Option (Option V × Lc × Hp)) (r : Option T × TL) : Prop :=
 ∃ ρ' H' Φ', H.length ≤ H'.length ∧ (∀ a, a < H.length → ¬ ZcD O σ Φ a → H'[a]? = H[a]?) ∧
  ((r.1 = none ∧ g = some (none, ρ', H') ∧ St c O' ρ' r.2 H' Φ' ∧ ∀ a, ZcD O' r.2 Φ' a → H.length ≤ a ∨ ZcD O σ Φ a) ∨
  ∃ t v F, r.1 = some t ∧ g = some (some v, ρ', H') ∧ RF H' v t F ∧ St c R ρ' r.2 H' Φ' ∧ (∀ a ∈ F, c.H0.length ≤ a ∨ c.P a) ∧ (fr = true → F.Nodup ∧ ∀ a ∈ F, c.H0.length ≤ a ∨ a ∈ c.F0))
noncomputable def S (O O' R : List Nat) (fr : Bool) (g : Sm) (q : PS) : Prop := ∀ (c : Ctx) (ρ : Lc) (σ : TL) (H : Hp) (Φ : Nat → List Nat) (r : Option T × TL), St c O ρ σ H Φ → q σ = some r → Aft c O O' R fr σ H Φ (g ρ H) r
section
variable {O O' R : List Nat} {fr : Bool}
noncomputable def Z1 : PS := fun σ => some (none, σ)
theorem Zac : S O O R fr Z2 Z1 := fun c ρ σ H Φ r s e => by
 cases e
 exact ⟨ρ, H, Φ, Nat.le_refl _, fun _ _ _ => rfl, .inl ⟨rfl, rfl, s, fun a m => .inr m⟩⟩
noncomputable def Zt (a b : PS) : PS := fun σ => (a σ).bind fun r => match r.1 with
 | some _ => some r
 | none => b r.2
theorem ZA {O1 : List Nat} {a b : Sm} {p q : PS} (x : S O O1 R fr a p) (y : S O1 O' R fr b q) : S O O' R fr (Zu a b) (Zt p q) := fun c ρ σ H Φ r s e => by
 obtain ⟨r1, e1, e⟩ := Zz0.mp e
 obtain ⟨ρ1, H1, Φ1, h1, h2, h3⟩ := x c ρ σ H Φ r1 s e1
 rcases h3 with ⟨k1, k2, k3, k4⟩ | ⟨t, v, F, k1, k2, k3⟩
 ·rw [k1] at e
  obtain ⟨ρ2, H2, Φ2, g1, g2, g3⟩ := y c ρ1 r1.2 H1 Φ1 r k3 e
  refine ⟨ρ2, H2, Φ2, Nat.le_trans h1 g1, fun a ha hn => ?_, ?_⟩
  ·rw [g2 a (by omega) fun q => (k4 a q).elim (fun q => by omega) hn, h2 a ha hn]
  ·have eg : Zu a b ρ H = b ρ1 H1 := by simp only [Zu, k2, Option.bind_some]
   rw [eg]
   rcases g3 with ⟨l1, l2, l3, l4⟩ | l
   ·refine .inl ⟨l1, l2, l3, fun a m => ?_⟩
    rcases l4 a m with q | q
    ·exact .inl (by omega)
    ·exact k4 a q
   ·exact .inr l
 ·rw [k1] at e
  cases e
  exact ⟨ρ1, H1, Φ1, h1, h2, .inr ⟨t, v, F, k1, by simp only [Zu, k2, Option.bind_some], k3⟩⟩
noncomputable def ZG (p : PE) : PS := fun σ => (p σ).map fun t => (some t, σ)
theorem ZP {N : List Nat} {u : Bool} {e : Ex} {p : PE} (x : E O N u e p) (hR : ∀ i ∈ R, i ∈ O) : S O O' R false (ZH e) (ZG p) := fun c ρ σ H Φ r s q => by
 obtain ⟨t, h1, h⟩ := Zz1.mp q
 subst h
 obtain ⟨v, X, F, a1, a2, a3, a4⟩ := x c ρ σ H Φ t s h1
 refine ⟨ρ, H ++ X, Φ, by simp, fun a ha _ => List.getElem?_append_left ha, .inr ⟨t, v, F, rfl, by simp only [ZH, a1, Option.map_some], a2, (s.ext X).less hR, fun a m => s.from_src (a3 a m), by simp⟩⟩
theorem ZcY {N : List Nat} {e : Ex} {p : PE} (x : E O N true e p) (hN : ∀ i ∈ N, i ∈ O) (hR : ∀ i ∈ R, i ∈ O) : S O O' R fr (ZH e) (ZG p) := fun c ρ σ H Φ r s q => by
 obtain ⟨t, h1, h⟩ := Zz1.mp q
 subst h
 obtain ⟨v, X, F, a1, a2, a3, a4⟩ := x c ρ σ H Φ t s h1
 refine ⟨ρ, H ++ X, Φ, by simp, fun a ha _ => List.getElem?_append_left ha, .inr ⟨t, v, F, rfl, by simp only [ZH, a1, Option.map_some], a2, (s.ext X).less hR, fun a m => s.from_src (a3 a m), fun _ => ⟨a4 rfl, fun a m => ?_⟩⟩⟩
 rcases a3 a m with q | ⟨i, hi, ⟨t', e'⟩, m'⟩
 ·exact .inl (Nat.le_trans s.len q)
 ·exact (s.own i (hN i hi) t' e').2.1 a m'
noncomputable def ZI (i : Nat) (p : PE) : PS := fun σ => (p σ).map fun t => (none, ZZ σ i t)
theorem ZR {N : List Nat} {u : Bool} {i : Nat} {e : Ex} {p : PE} (x : E O N u e p) (hi : i ∉ O') (hN : ∀ j ∈ N, j ∉ O') (hO : ∀ j ∈ O', j ∈ O) : S O O' R fr (ZK i e) (ZI i p) := fun c ρ σ H Φ r s q => by
 obtain ⟨t, h1, h⟩ := Zz1.mp q
 subst h
 obtain ⟨v, X, F, a1, a2, a3, a4⟩ := x c ρ σ H Φ t s h1
 have s' := s.less hO
 refine ⟨upd ρ i v, H ++ X, Zap Φ i F, by simp, fun a ha _ => List.getElem?_append_left ha, .inl ⟨rfl, by simp only [ZK, a1, Option.map_some], (s'.ext X).put hi a2 (fun a m => s.from_src (a3 a m)) (fun k hk t' e' a m q => ?_), fun a m => ?_⟩⟩
 ·exact s'.from_off hN (a3 a q) hk e' m
 ·obtain ⟨k, hk, ⟨t', e'⟩, m⟩ := m
  have : k ≠ i := fun q => hi (q ▸ hk)
  simp [ZZ, this] at e'
  simp [Zap, this] at m
  exact .inr ⟨k, hO k hk, ⟨t', e'⟩, m⟩
theorem Zcw {i : Nat} {e : Ex} {p : PE} (x : E O [] true e p) (hO : ∀ j ∈ O', j ∈ O ∨ j = i) : S O O' R fr (ZK i e) (ZI i p) := fun c ρ σ H Φ r s q => by
 obtain ⟨t, h1, h⟩ := Zz1.mp q
 subst h
 obtain ⟨v, X, F, a1, a2, a3, a4⟩ := x c ρ σ H Φ t s h1
 have hnew : ∀ a ∈ F, H.length ≤ a := fun a m => (a3 a m).nil
 have hold : ∀ k t', σ k = some t' → ∀ a ∈ Φ k, a < H.length := fun k t' e a m => by
  obtain ⟨_, _, r⟩ := s.slot k t' e
  exact r.lt a m
 refine ⟨upd ρ i v, H ++ X, Zap Φ i F, by simp, fun a ha _ => List.getElem?_append_left ha, .inl ⟨rfl, by simp only [ZK, a1, Option.map_some], ⟨fun k t' e' => ?_, fun k t' e' => ?_, fun k hk t' e' => ?_, (s.ext X).len, (s.ext X).keep, s.pos, s.f0⟩, fun a m => ?_⟩⟩
 ·by_cases q : k = i
  ·subst q
   simp [ZZ] at e'
   subst e'
   exact ⟨v, by simp [upd], by simpa [Zap] using a2⟩
  ·simp [ZZ, q] at e'
   simpa [upd, Zap, q] using (s.ext X).slot k t' e'
 ·by_cases q : k = i
  ·subst q; simpa [Zap] using fun a m => s.from_src (a3 a m)
  ·simp [ZZ, q] at e'
   simpa [Zap, q] using s.src k t' e'
 ·by_cases q : k = i
  ·subst q
   simp only [Zap, if_true]
   refine ⟨a4 rfl, fun a m => .inl (Nat.le_trans s.len (hnew a m)), fun j w hj ej a m q => ?_⟩
   simp [ZZ, hj] at ej
   rw [if_neg hj] at q
   have := hold j w ej a q
   have := hnew a m
   omega
  ·have hk' := (hO k hk).resolve_right q
   simp [ZZ, q] at e'
   obtain ⟨o1, o2, o3⟩ := s.own k hk' t' e'
   refine ⟨by simpa [Zap, q] using o1, by simpa [Zap, q] using o2, fun j w hj ej a m => ?_⟩
   simp [Zap, q] at m
   by_cases q2 : j = i
   ·subst q2
    simp only [Zap, if_true]
    intro m2
    have := hold k t' e' a m
    have := hnew a m2
    omega
   ·simp [ZZ, q2] at ej
    simpa [Zap, q2] using o3 j w hj ej a m
 ·obtain ⟨k, hk, ⟨t', e'⟩, m⟩ := m
  by_cases q : k = i
  ·subst q
   simp [Zap] at m
   exact .inl (hnew a m)
  ·simp [ZZ, q] at e'
   simp [Zap, q] at m
   exact .inr ⟨k, (hO k hk).resolve_right q, ⟨t', e'⟩, m⟩
noncomputable def ZW (b : PB) (p q : PS) : PS := fun σ => (b σ).bind fun x => if x then p σ else q σ
theorem Aft.grow {c : Ctx} {σ : TL} {H X : Hp} {Φ : Nat → List Nat} {g : Option (Option V × Lc × Hp)} {r : Option T × TL} (h : Aft c O O' R fr σ (H ++ X) Φ g r) : Aft c O O' R fr σ H Φ g r := by
 obtain ⟨ρ', H', Φ', h1, h2, h3⟩ := h
 rw [List.length_append] at h1
 refine ⟨ρ', H', Φ', by omega, fun a ha hn => ?_, ?_⟩
 ·rw [h2 a (by rw [List.length_append]; omega) hn, List.getElem?_append_left ha]
 ·rcases h3 with ⟨k1, k2, k3, k4⟩ | k
  ·exact .inl ⟨k1, k2, k3, fun a m => (k4 a m).imp (fun q => by rw [List.length_append] at q; omega) id⟩
  ·exact .inr k
theorem Z9 {t : Ts} {pb : PB} {a b : Sm} {p q : PS} (z : Bt O t pb) (x : S O O' R fr a p) (y : S O O' R fr b q) : S O O' R fr (ZV t a b) (ZW pb p q) := fun c ρ σ H Φ r s e => by
 obtain ⟨bb, e1, e⟩ := Zz0.mp e
 obtain ⟨X, h1⟩ := z c ρ σ H Φ bb s e1
 cases bb with
 | true =>
  have := x c ρ σ (H ++ X) Φ r (s.ext X) (by simpa using e)
  have eg : ZV t a b ρ H = a ρ (H ++ X) := by simp [ZV, h1]
  rw [eg]
  exact this.grow
 | false =>
  have := y c ρ σ (H ++ X) Φ r (s.ext X) (by simpa using e)
  have eg : ZV t a b ρ H = b ρ (H ++ X) := by simp [ZV, h1]
  rw [eg]
  exact this.grow
noncomputable def qNo : PS := fun _ => none
noncomputable def sNo : Sm := fun _ _ => none
theorem ZuO {g : Sm} : S O O' R fr g qNo := fun c ρ σ H Φ r s q => by cases q
noncomputable def follow (H : Hp) : List Int → V → Option V
 | [], v => some v
 | k :: ks, v => (Zs v (.int k) H).bind fun q => follow H ks q.1
theorem Lead.follow {H : Hp} {ks : List Int} {v : V} {a : Nat} (l : Lead H ks v a) : follow H ks v = some (.ref a) := by
 induction l with
 | nil => rfl
 | ref h1 h2 h3 _ ih => simp only [TM.follow, Zs, h1, Option.bind_some, h2, h3, Option.map_some, ih]
 | tup h2 h3 _ ih => simp only [TM.follow, Zs, Option.bind_some, h2, h3, Option.map_some, ih]
theorem Zkn {H : Hp} {v w z : V} {K : Hp} (h : Zs v z H = some (w, K)) (X : Hp) : K = H ∧ Zs v z (H ++ X) = some (w, H ++ X) := by
 unfold Zs at h
 split at h
 ·obtain ⟨vs, e1, h⟩ := Zz0.mp h
  obtain ⟨j, e2, h⟩ := Zz0.mp h
  obtain ⟨x, e3, h⟩ := Zz1.mp h
  cases h
  exact ⟨rfl, by simp only [Zs, List.getElem?_append_left (Zz6.mp e1).1, e1, Option.bind_some, e2, e3, Option.map_some]⟩
 ·obtain ⟨j, e2, h⟩ := Zz0.mp h
  obtain ⟨x, e3, h⟩ := Zz1.mp h
  cases h
  exact ⟨rfl, by simp only [Zs, Option.bind_some, e2, e3, Option.map_some]⟩
 ·cases h
theorem Zmg {H : Hp} {k : Int} : ∀ {ks : List Int} {v : V}, follow H (ks ++ [k]) v = (follow H ks v).bind fun w => (Zs w (.int k) H).map (·.1)
 | [], v => by
  simp only [List.nil_append, follow, Option.bind_some]
  cases Zs v (.int k) H <;> rfl
 | j :: ks, v => by
  simp only [List.cons_append, follow]
  cases Zs v (.int j) H with
  | none => rfl
  | some q => simp only [Option.bind_some]; exact Zmg
noncomputable abbrev PPa := TL → Option (List Int)
noncomputable def Za0 : PPa := fun _ => some []
noncomputable def Zcx (p : PPa) (i : PE) : PPa := fun σ => (p σ).bind fun ks => (i σ).bind fun t => match t with
 | .int k => some (ks ++ [k])
 | _ => none
noncomputable def Pa (O : List Nat) (x : Nat) (e : Ex) (p : PPa) : Prop := ∀ (c : Ctx) (ρ : Lc) (σ : TL) (H : Hp) (Φ : Nat → List Nat) (ks : List Int) (v w : V), St c O ρ σ H Φ → p σ = some ks → ρ x = some v → follow H ks v = some w → ∃ X, e ρ H = some (w, H ++ X)
theorem ZbK {x : Nat} : Pa O x (Zb x) Za0 := fun c ρ σ H Φ ks v w s h e f => by
 cases h; cases f
 exact ⟨[], by simp [Zb, e]⟩
theorem Zdt {x : Nat} {N : List Nat} {u : Bool} {e i : Ex} {p : PPa} {pi : PE} (y : Pa O x e p) (z : E O N u i pi) : Pa O x (Ze Zs e i) (Zcx p pi) := fun c ρ σ H Φ ks v w s h ev f => by
 obtain ⟨ks0, h1, h⟩ := Zz0.mp h
 obtain ⟨t, h2, h⟩ := Zz0.mp h
 cases t <;> first | (cases h; done) | skip
 rename_i k
 cases h
 rw [Zmg] at f
 obtain ⟨w0, f1, f⟩ := Zz0.mp f
 obtain ⟨⟨w1, K⟩, f2, f⟩ := Zz1.mp f
 cases f
 obtain ⟨X, a1⟩ := y c ρ σ H Φ ks0 v w0 s h1 ev f1
 obtain ⟨vi, Y, F, b1, b2, b3, b4⟩ := z c ρ σ (H ++ X) Φ _ (s.ext X) h2
 cases b2
 refine ⟨X ++ Y, ?_⟩
 simp only [Ze, a1, Option.bind_some, b1]
 have := (Zkn f2 (X ++ Y)).2
 rw [List.append_assoc]
 exact this
theorem Zn9 {c : Ctx} {ρ : Lc} {σ : TL} {H : Hp} {Φ : Nat → List Nat} {N : List Nat} {x a b : Nat} {t t' : T} {v : V} {Fw F' : List Nat} {vs' : List V} (s : St c O ρ σ H Φ) (hx : x ∈ O) (ex : σ x = some t) (ev : ρ x = some v) (hb : c.H0.length ≤ b) (hlow : ∀ k t, σ k = some t → ∀ a ∈ Φ k, a < b)
  (hFw : ∀ a ∈ Fw, b ≤ a ∨ ∃ j ∈ N, (∃ t, σ j = some t) ∧ a ∈ Φ j) (hN : ∀ j ∈ N, j ∈ O ∧ j ≠ x) (ha : a ∈ Φ x) (r : RF (H.set a vs') v t' F') (nd : F'.Nodup) (sub : ∀ y ∈ F', y ∈ Φ x ∨ y ∈ Fw) (hO : ∀ j ∈ O', j ∈ O ∧ j ∉ N) :
  St c O' ρ (Zcq (ZZ σ x t') N) (H.set a vs') (Zap Φ x F') ∧ (∀ y, ZcD O' (Zcq (ZZ σ x t') N) (Zap Φ x F') y → b ≤ y ∨ ZcD O σ Φ y) := by
 obtain ⟨o1, o2, o3⟩ := s.own x hx t ex
 have old : ∀ k u, k ≠ x → Zcq (ZZ σ x t') N k = some u → σ k = some u ∧ k ∉ N := fun k u hk e => by
  unfold Zcq at e
  split at e
  ·cases e
  ·rename_i hn
   simp [ZZ, hk] at e
   exact ⟨e, hn⟩
 have self : ∀ u, Zcq (ZZ σ x t') N x = some u → u = t' := fun u e => by
  unfold Zcq at e
  split at e
  ·cases e
  ·simp [ZZ] at e; exact e.symm
 have foff : ∀ y ∈ F', ∀ k u, k ≠ x → σ k = some u → k ∉ N → y ∉ Φ k := fun y hy k u hk e hkn m => by
  rcases sub y hy with q | q
  ·exact o3 k u hk e y q m
  ·rcases hFw y q with q | ⟨j, hj, ⟨tj, ej⟩, mj⟩
   ·have := hlow k u e y m; omega
   ·exact (s.own j (hN j hj).1 tj ej).2.2 k u (fun q => hkn (q ▸ hj)) e y mj m
 refine ⟨⟨fun k u e => ?_, fun k u e => ?_, fun k hk u e => ?_, by simpa using s.len, fun y hy hn => ?_, s.pos, s.f0⟩, fun y hy => ?_⟩
 ·by_cases q : k = x
  ·subst q
   have := self u e
   subst this
   exact ⟨v, ev, by simpa [Zap] using r⟩
  ·obtain ⟨e1, e2⟩ := old k u q e
   obtain ⟨w, h1, h2⟩ := s.slot k u e1
   refine ⟨w, h1, ?_⟩
   simp only [Zap, q, if_false]
   refine h2.frame fun y hy => List.getElem?_set_ne fun q' => ?_
   exact o3 k u q e1 a ha (q' ▸ hy)
 ·by_cases q : k = x
  ·subst q
   simp only [Zap, if_true]
   intro y hy
   rcases sub y hy with q | q
   ·exact s.src k t ex y q
   ·rcases hFw y q with q | ⟨j, hj, ⟨tj, ej⟩, mj⟩
    ·exact .inl (by omega)
    ·exact s.src j tj ej y mj
  ·obtain ⟨e1, e2⟩ := old k u q e
   simpa [Zap, q] using s.src k u e1
 ·by_cases q : k = x
  ·subst q
   simp only [Zap, if_true]
   refine ⟨nd, fun y hy => ?_, fun j w hj ej y hy => ?_⟩
   ·rcases sub y hy with q | q
    ·exact o2 y q
    ·rcases hFw y q with q | ⟨j, hj, ⟨tj, ej⟩, mj⟩
     ·exact .inl (by omega)
     ·exact (s.own j (hN j hj).1 tj ej).2.1 y mj
   ·obtain ⟨e1, e2⟩ := old j w hj ej
    simpa [hj] using foff y hy j w hj e1 e2
  ·obtain ⟨e1, e2⟩ := old k u q e
   obtain ⟨p1, p2, p3⟩ := s.own k (hO k hk).1 u e1
   simp only [Zap, q, if_false]
   refine ⟨p1, p2, fun j w hj ej y hy => ?_⟩
   by_cases q2 : j = x
   ·subst q2
    simp only [if_true]
    exact fun m => foff y m k u q e1 e2 hy
   ·obtain ⟨f1, f2⟩ := old j w q2 ej
    simpa [q2] using p3 j w hj f1 y hy
 ·have : a ≠ y := fun q => by
   subst q
   rcases o2 a ha with q | q
   ·omega
   ·exact hn q
  rw [List.getElem?_set_ne this]
  exact s.keep y hy hn
 ·obtain ⟨k, hk, ⟨u, e⟩, m⟩ := hy
  by_cases q : k = x
  ·subst q
   simp only [Zap, if_true] at m
   rcases sub y m with q | q
   ·exact .inr ⟨k, hx, ⟨t, ex⟩, q⟩
   ·rcases hFw y q with q | ⟨j, hj, q⟩
    ·exact .inl q
    ·exact .inr ⟨j, (hN j hj).1, q⟩
  ·obtain ⟨e1, e2⟩ := old k u q e
   simp only [Zap, q, if_false] at m
   exact .inr ⟨k, (hO k hk).1, ⟨u, e1⟩, m⟩
theorem Zlg {c : Ctx} {ρ : Lc} {σ : TL} {H : Hp} {Φ : Nat → List Nat} {x a : Nat} {t : T} (s : St c O ρ σ H Φ) (hx : x ∈ O) (ex : σ x = some t) (ha : a ∈ Φ x) : a ≠ 0 := by
 have := s.pos
 rcases (s.own x hx t ex).2.1 a ha with q | q
 ·omega
 ·exact fun e => s.f0 (e ▸ q)
noncomputable def ZdV (w : T) (ts : List T) : Option (List T) := if ts.length < LEN then some (ts ++ [w]) else none
noncomputable def Ze3 (k : Int) (w : T) (ts : List T) : Option (List T) := if 0 ≤ k ∧ k < ts.length then some (ts.set k.toNat w) else none
noncomputable def ZcQ (x : Nat) (N : List Nat) (po : PPa) (p : PE) : PS := fun σ => (po σ).bind fun ks => (p σ).bind fun w => (σ x).bind fun t => (Zcn (ZdV w) ks t).map fun t' => (none, Zcq (ZZ σ x t') N)
noncomputable def ZbB (x : Nat) (N : List Nat) (p : PE) (po : PPa) (pi : PE) : PS := fun σ => (p σ).bind fun w => (po σ).bind fun ks => (pi σ).bind fun k => match k with
 | .int k => (σ x).bind fun t => (Zcn (Ze3 k w) ks t).map fun t' => (none, Zcq (ZZ σ x t') N)
 | _ => none
theorem Zfi {H : Hp} (X : Hp) : ∀ {ks : List Int} {v w : V}, follow H ks v = some w → follow (H ++ X) ks v = some w
 | [], _, _, h => h
 | k :: ks, v, w, h => by
  obtain ⟨⟨w1, K⟩, h1, h2⟩ := Zz0.mp h
  simp only [follow, (Zkn h1 X).2, Option.bind_some]
  exact Zfi X h2
theorem Ze0 {x : Nat} {N : List Nat} {o e : Ex} {po : PPa} {p : PE} (hx : x ∈ O) (y : Pa O x o po) (z : E O N true e p) (hN : ∀ j ∈ N, j ∈ O ∧ j ≠ x) (hO : ∀ j ∈ O', j ∈ O ∧ j ∉ N) : S O O' R fr (Zcs (Zdq o e)) (ZcQ x N po p) := fun c ρ σ H Φ r s q => by
 obtain ⟨ks, h1, q⟩ := Zz0.mp q
 obtain ⟨w, h2, q⟩ := Zz0.mp q
 obtain ⟨t, h3, q⟩ := Zz0.mp q
 obtain ⟨t', h4, q⟩ := Zz1.mp q
 subst q
 obtain ⟨v, ev, rv⟩ := s.slot x t h3
 have hlow : ∀ k t, σ k = some t → ∀ a ∈ Φ k, a < H.length := fun k t e a m => by
  obtain ⟨_, _, r⟩ := s.slot k t e
  exact r.lt a m
 obtain ⟨o1, o2, o3⟩ := s.own x hx t h3
 obtain ⟨a, vs0, ts0, ts0', G0, l0, _⟩ := ZeU (Gn := []) ks rv o1 (by simp) h4
 obtain ⟨X, a1⟩ := y c ρ σ H Φ ks v (.ref a) s h1 ev l0.follow
 obtain ⟨vw, Y, Fw, b1, b2, b3, b4⟩ := z c ρ σ (H ++ X) Φ w (s.ext X) h2
 have s2 := (s.ext X).ext Y
 have rv2 : RF (H ++ X ++ Y) v t (Φ x) := (rv.ext X).ext Y
 have hFw : ∀ a ∈ Fw, H.length ≤ a ∨ ∃ j ∈ N, (∃ t, σ j = some t) ∧ a ∈ Φ j := fun a m => (b3 a m).back
 have dsj : ∀ a ∈ Fw, a ∉ Φ x := fun a m q => by
  rcases hFw a m with h | ⟨j, hj, ⟨tj, ej⟩, mj⟩
  ·have := hlow x t h3 a q; omega
  ·exact o3 j tj (hN j hj).2 ej a q mj
 obtain ⟨a', vs, ts, ts', G, l, am, ea, hs, hf, gn, na, gs, go⟩ := ZeU (Gn := Fw) ks rv2 o1 dsj h4
 have haa : a' = a := by
  have f2 := Zfi Y (Zfi X l0.follow)
  rw [l.follow] at f2
  cases f2
  rfl
 subst haa
 unfold ZdV at hf
 split at hf
 ·rename_i hl
  cases hf
  obtain ⟨F', r', n', sub'⟩ := go (vs ++ [vw]) (G ++ Fw) (hs.snoc b2) (by
   rw [List.nodup_append]
   exact ⟨gn, b4 rfl, fun y hy z hz e => dsj z hz (e ▸ gs y hy)⟩) (fun m => (List.mem_append.mp m).elim na fun m => dsj _ m am) (fun y m => List.mem_append.mp m)
  obtain ⟨st, com⟩ := Zn9 (O' := O') (b := H.length) s2 hx h3 ev s.len hlow hFw hN am r' n' sub' hO
  refine ⟨ρ, (H ++ X ++ Y).set a' (vs ++ [vw]), Zap Φ x F', by simp, fun y hy hn => ?_, .inl ⟨rfl, ?_, st, com⟩⟩
  ·have : a' ≠ y := fun q => hn ⟨x, hx, ⟨t, h3⟩, q ▸ am⟩
   rw [List.getElem?_set_ne this, List.append_assoc, List.getElem?_append_left hy]
  ·simp only [Zcs, Zdq, a1, Option.bind_some, b1, ZfC, ea]
   rw [if_pos ⟨Zlg s hx h3 am, by rw [hs.length]; exact hl⟩]
   rfl
 ·cases hf
theorem S.put {x : Nat} {N M : List Nat} {u : Bool} {o e i : Ex} {po : PPa} {p pi : PE} (hx : x ∈ O) (z : E O N true e p) (y : Pa O x o po) (zi : E O M u i pi) (hN : ∀ j ∈ N, j ∈ O ∧ j ≠ x) (hO : ∀ j ∈ O', j ∈ O ∧ j ∉ N) : S O O' R fr (ZbX e o i) (ZbB x N p po pi) := fun c ρ σ H Φ r s q => by
 obtain ⟨w, h2, q⟩ := Zz0.mp q
 obtain ⟨ks, h1, q⟩ := Zz0.mp q
 obtain ⟨tk, h5, q⟩ := Zz0.mp q
 cases tk <;> first | (cases q; done) | skip
 rename_i k
 obtain ⟨t, h3, q⟩ := Zz0.mp q
 obtain ⟨t', h4, q⟩ := Zz1.mp q
 subst q
 obtain ⟨v, ev, rv⟩ := s.slot x t h3
 have hlow : ∀ k t, σ k = some t → ∀ a ∈ Φ k, a < H.length := fun k t e a m => by
  obtain ⟨_, _, r⟩ := s.slot k t e
  exact r.lt a m
 obtain ⟨o1, o2, o3⟩ := s.own x hx t h3
 obtain ⟨vw, X, Fw, b1, b2, b3, b4⟩ := z c ρ σ H Φ w s h2
 obtain ⟨a, vs0, ts0, ts0', G0, l0, _⟩ := ZeU (Gn := []) ks (rv.ext X) o1 (by simp) h4
 obtain ⟨Y, a1⟩ := y c ρ σ (H ++ X) Φ ks v (.ref a) (s.ext X) h1 ev l0.follow
 obtain ⟨vk, Z, Fk, d1, d2, d3, d4⟩ := zi c ρ σ (H ++ X ++ Y) Φ _ ((s.ext X).ext Y) h5
 cases d2
 have s2 := ((s.ext X).ext Y).ext Z
 have rv2 : RF (H ++ X ++ Y ++ Z) v t (Φ x) := ((rv.ext X).ext Y).ext Z
 have hFw : ∀ a ∈ Fw, H.length ≤ a ∨ ∃ j ∈ N, (∃ t, σ j = some t) ∧ a ∈ Φ j := b3
 have dsj : ∀ a ∈ Fw, a ∉ Φ x := fun a m q => by
  rcases hFw a m with h | ⟨j, hj, ⟨tj, ej⟩, mj⟩
  ·have := hlow x t h3 a q; omega
  ·exact o3 j tj (hN j hj).2 ej a q mj
 obtain ⟨a', vs, ts, ts', G, l, am, ea, hs, hf, gn, na, gs, go⟩ := ZeU (Gn := Fw) ks rv2 o1 dsj h4
 have haa : a' = a := by
  have f2 := Zfi Z (Zfi Y l0.follow)
  rw [l.follow] at f2
  cases f2
  rfl
 subst haa
 unfold Ze3 at hf
 split at hf
 ·rename_i hl
  cases hf
  have hk : k.toNat < ts.length := by omega
  obtain ⟨v0, Gk, F1, F2, e0, r0, eG, rb⟩ := hs.split (List.getElem?_eq_getElem hk)
  have b2' : RF (H ++ X ++ Y ++ Z) vw w Fw := (b2.ext Y).ext Z
  have rs := rb (H ++ X ++ Y ++ Z) vw w Fw b2' (fun _ _ => rfl) (fun _ _ => rfl)
  have sub0 : ∀ a ∈ Fw, a ∈ Gk ∨ a ∈ Fw := fun a m => .inr m
  subst eG
  obtain ⟨F', r', n', sub'⟩ := go _ _ rs (nd3 gn (b4 rfl) sub0 fun a m q => dsj a m (gs a q)) (fun m => by
   rcases in3 (G := Gk) sub0 _ m with m | m
   ·exact na m
   ·exact dsj _ m am) (in3 sub0)
  obtain ⟨st, com⟩ := Zn9 (O' := O') (b := H.length) s2 hx h3 ev s.len hlow hFw hN am r' n' sub' hO
  refine ⟨ρ, (H ++ X ++ Y ++ Z).set a' (vs.set k.toNat vw), Zap Φ x F', by simp, fun y hy hn => ?_, .inl ⟨rfl, ?_, st, com⟩⟩
  ·have : a' ≠ y := fun q => hn ⟨x, hx, ⟨t, h3⟩, q ▸ am⟩
   rw [List.getElem?_set_ne this, List.append_assoc, List.append_assoc, List.getElem?_append_left hy]
  ·simp only [ZbX, b1, Option.bind_some, a1, d1, ZlS, ea]
   rw [if_pos ⟨Zlg s hx h3 am, by rw [hs.length]; exact hl⟩]
   rfl
 ·cases hf
noncomputable def Zet (put : T → TL → Option TL) (b : PS) : TL → List T → Option (Option T × TL)
 | σ, [] => some (none, σ)
 | σ, t :: ts => (put t σ).bind fun σ1 => (b σ1).bind fun r => match r.1 with
  | some _ => some r
  | none => Zet put b r.2 ts
noncomputable def ZaO (g : PG) (put : T → TL → Option TL) (b : PS) : PS := fun σ => (g σ).bind fun ts => Zet put b σ ts
theorem ZkR {J : List Nat} {put : V → Lc → Option Lc} {pput : T → TL → Option TL} {b : Sm} {qb : PS} (hj : PutOk O J put pput) (hJ : ∀ i ∈ J, i ∉ O) (hb : S O O R fr b qb) {c : Ctx} {nx : Nx} {vs : List V} {G : List Nat} {H1 : Hp} (hG : ∀ a ∈ G, a < H1.length) (hsrc : ∀ a ∈ G, c.H0.length ≤ a ∨ c.P a) (hnx : ∀ K : Hp, (∀ a ∈ G, K[a]? = H1[a]?) → ∀ i, i ≤ vs.length → nx i K = some vs[i]?) :
  ∀ (rs : List T) (ws : List V) (i : Nat) (ρ : Lc) (σ : TL) (K : Hp) (Φ : Nat → List Nat) (Fr : List Nat) (r : Option T × TL), (∀ j, vs[i + j]? = ws[j]?) → i + ws.length = vs.length → St c O ρ σ K Φ → H1.length ≤ K.length → (∀ a ∈ G, K[a]? = H1[a]?) → (∀ a ∈ G, ¬ ZcD O σ Φ a) → RFs K ws rs Fr → (∀ a ∈ Fr, a ∈ G) → Zet pput qb σ rs = some r →
   Aft c O O R fr σ K Φ (Zdf nx put b (rs.length + 1) i ρ K) r
 | [], ws, i, ρ, σ, K, Φ, Fr, r, hat, hlen, s, hl, hk, hoff, rr, hfr, h => by
  cases rr
  cases h
  have e := hnx K hk i (by simp at hlen; omega)
  have e2 : vs[i]? = none := by have := hat 0; simpa using this
  exact ⟨ρ, K, Φ, Nat.le_refl _, fun _ _ _ => rfl, .inl ⟨rfl, by simp [Zdf, e, e2], s, fun a m => .inr m⟩⟩
 | t :: rs, ws0, i, ρ, σ, K, Φ, Fr0, r, hat, hlen, s, hl, hk, hoff, rr, hfr, h => by
  cases rr with
  | @cons v _ F1 ws _ F2 a b' =>
  simp only [List.length_cons] at hlen
  obtain ⟨σ1, h1, h⟩ := Zz0.mp h
  obtain ⟨r1, h2, h⟩ := Zz0.mp h
  have e := hnx K hk i (by omega)
  have e2 : vs[i]? = some v := by have := hat 0; simpa using this
  have hat' : ∀ j, vs[i + 1 + j]? = ws[j]? := fun j => by have := hat (j + 1); rw [show i + 1 + j = i + (j + 1) by omega, this]; simp
  obtain ⟨ρ1, Φ1, p1, s1, p3, p4⟩ := hj c ρ σ K Φ v t F1 σ1 s a (fun x m => hsrc x (hfr x (Zz4 _ m))) (fun k hk t' e x m q => hoff x (hfr x (Zz4 _ q)) ⟨k, hk, ⟨t', e⟩, m⟩) h1
  have hh : ∀ x, ZcD O σ1 Φ1 x → ZcD O σ Φ x := fun x ⟨k, hk, ⟨t', e⟩, m⟩ => by
   obtain ⟨q1, q2⟩ := p3 k fun q => hJ k q hk
   exact ⟨k, hk, ⟨t', q1 ▸ e⟩, q2 ▸ m⟩
  obtain ⟨ρ2, K2, Φ2, g1, g2, g3⟩ := hb c ρ1 σ1 K Φ1 r1 s1 h2
  have estep : Zdf nx put b ((t :: rs).length + 1) i ρ K = (b ρ1 K).bind fun q => match q.1 with
    | some _ => some q
    | none => Zdf nx put b (rs.length + 1) (i + 1) q.2.1 q.2.2 := by
   rw [List.length_cons]
   show (nx i K).bind _ = _
   rw [e, e2]
   first | (simp only [Option.bind_some, p1]; done) | (simp only [Option.bind_some, p1]; rfl)
  rcases g3 with ⟨k1, k2, k3, k4⟩ | ⟨t', v', F', k1, k2, k3⟩
  ·rw [k1] at h
   have hG2 : ∀ a ∈ G, K2[a]? = K[a]? := fun x m => g2 x (by have := hG x m; omega) fun q => hoff x m (hh x q)
   have hoff2 : ∀ a ∈ G, ¬ ZcD O r1.2 Φ2 a := fun x m q => by
    rcases k4 x q with q | q
    ·have := hG x m; omega
    ·exact hoff x m (hh x q)
   have ih := ZkR hj hJ hb hG hsrc hnx rs ws (i + 1) ρ2 r1.2 K2 Φ2 F2 r hat' (by omega) k3 (by omega) (fun x m => (hG2 x m).trans (hk x m)) hoff2 (b'.frame fun x m => hG2 x (hfr x (Zz3 _ m))) (fun x m => hfr x (Zz3 _ m)) h
   rw [estep, k2]
   simp only [Option.bind_some]
   obtain ⟨ρ3, K3, Φ3, l1, l2, l3⟩ := ih
   refine ⟨ρ3, K3, Φ3, by omega, fun x hx hn => ?_, ?_⟩
   ·rw [l2 x (by omega) fun q => (k4 x q).elim (fun q => by omega) fun q => hn (hh x q), g2 x hx fun q => hn (hh x q)]
   ·rcases l3 with ⟨m1, m2, m3, m4⟩ | l
    ·refine .inl ⟨m1, m2, m3, fun x q => ?_⟩
     rcases m4 x q with q | q
     ·exact .inl (by omega)
     ·exact (k4 x q).imp id (hh x)
    ·exact .inr l
  ·rw [k1] at h
   cases h
   refine ⟨ρ2, K2, Φ2, g1, fun x hx hn => g2 x hx fun q => hn (hh x q), .inr ⟨t', v', F', k1, ?_, k3⟩⟩
   rw [estep, k2]
   rfl
theorem Zbh {J Ns : List Nat} {g : Src} {q : PG} {put : V → Lc → Option Lc} {pput : T → TL → Option TL} {b : Sm} {qb : PS} (hg : Gs O Ns g q) (hj : PutOk O J put pput) (hJ : ∀ i ∈ J, i ∉ O) (hN : ∀ i ∈ Ns, i ∉ O) (hb : S O O R fr b qb) : S O O R fr (ZaY g put b) (ZaO q pput qb) := fun c ρ σ H Φ r s h => by
 obtain ⟨ts, h1, h⟩ := Zz0.mp h
 obtain ⟨nx, X, vs, F, G, g1, g2, g3, g4, g5⟩ := hg c ρ σ H Φ ts s h1
 have := ZkR hj hJ hb (H1 := H ++ X) (fun a m => (g4 a m).1) (fun a m => s.from_src (g4 a m).2) g5 ts vs 0 ρ σ (H ++ X) Φ F r (by simp) (by simp) (s.ext X) (Nat.le_refl _) (fun _ _ => rfl) (fun a m ⟨k, hk, ⟨t, e⟩, q⟩ => s.from_off hN (g4 a m).2 hk e q) g2 g3 h
 have eg : ZaY g put b ρ H = Zdf nx put b (ts.length + 1) 0 ρ (H ++ X) := by simp only [ZaY, g1, Option.bind_some]
 rw [eg]
 exact this.grow
noncomputable def ZcZ (t : PB) (b : PS) : Nat → PS
 | 0 => fun _ => none
 | n + 1 => fun σ => (t σ).bind fun p => if p then (b σ).bind fun q => (match q.1 with
   | some _ => some q
   | none => ZcZ t b n q.2) else some (none, σ)
theorem ZeR {t : Ts} {pt : PB} {b : Sm} {qb : PS} (z : Bt O t pt) (y : S O O R fr b qb) : ∀ n, S O O R fr (ZcK t b n) (ZcZ pt qb n)
 | 0 => fun c ρ σ H Φ r s h => by cases h
 | n + 1 => fun c ρ σ H Φ r s h => by
  obtain ⟨p, h1, h⟩ := Zz0.mp h
  obtain ⟨X, a1⟩ := z c ρ σ H Φ p s h1
  cases p with
  | false =>
   cases h
   exact ⟨ρ, H ++ X, Φ, by simp, fun a ha _ => List.getElem?_append_left ha, .inl ⟨rfl, by simp [ZcK, a1], s.ext X, fun a m => .inr m⟩⟩
  | true =>
   simp only [if_true] at h
   obtain ⟨r1, h2, h⟩ := Zz0.mp h
   have b1 := (y c ρ σ (H ++ X) Φ r1 (s.ext X) h2).grow
   have eg : ZcK t b (n + 1) ρ H = (b ρ (H ++ X)).bind fun q => (match q.1 with
    | some _ => some q
    | none => ZcK t b n q.2.1 q.2.2) := by
    show (t ρ H).bind _ = _
    rw [a1]
    rfl
   rw [eg]
   obtain ⟨ρ1, H1, Φ1, g1, g2, g3⟩ := b1
   rcases g3 with ⟨k1, k2, k3, k4⟩ | ⟨t', v', F', k1, k2, k3⟩
   ·rw [k1] at h
    obtain ⟨ρ3, K3, Φ3, l1, l2, l3⟩ := ZeR z y n c ρ1 r1.2 H1 Φ1 r k3 h
    rw [k2]
    simp only [Option.bind_some]
    refine ⟨ρ3, K3, Φ3, by omega, fun x hx hn => ?_, ?_⟩
    ·rw [l2 x (by omega) fun q => (k4 x q).elim (fun q => by omega) hn, g2 x hx hn]
    ·rcases l3 with ⟨m1, m2, m3, m4⟩ | l
     ·refine .inl ⟨m1, m2, m3, fun x q => ?_⟩
      rcases m4 x q with q | q
      ·exact .inl (by omega)
      ·exact k4 x q
     ·exact .inr l
   ·rw [k1] at h
    cases h
    exact ⟨ρ1, H1, Φ1, g1, g2, .inr ⟨t', v', F', k1, by rw [k2]; rfl, k3⟩⟩
end
noncomputable def Zaf (n : Nat) (q : PS) : List T → Option T := fun ts => if ts.length = n then (q fun i => ts[i]?).map fun r => r.1.getD .none else none
theorem RFs.slots {H : Hp} : ∀ {vs : List V} {ts : List T} {F : List Nat}, RFs H vs ts F → ∃ Φ : Nat → List Nat, ∀ i t, ts[i]? = some t → ∃ v, vs[i]? = some v ∧ RF H v t (Φ i) ∧ ∀ a ∈ Φ i, a ∈ F
 | _, _, _, .nil => ⟨fun _ => [], fun i t e => by simp at e⟩
 | _, _, _, .cons (F := F1) a b => by
  obtain ⟨Φ, h⟩ := b.slots
  refine ⟨fun i => match i with | 0 => F1 | i + 1 => Φ i, fun i t e => ?_⟩
  cases i with
  | zero => simp at e; subst e; exact ⟨_, by simp, a, fun x m => List.mem_append_left _ m⟩
  | succ i =>
   simp at e
   obtain ⟨v, h1, h2, h3⟩ := h i t e
   exact ⟨v, by simpa using h1, h2, fun x m => List.mem_append_right _ (h3 x m)⟩
theorem Zms {H H' : Hp} (hl : H.length ≤ H'.length) (h : ∀ a, a < H.length → H'[a]? = H[a]?) : H' = H ++ H'.drop H.length := by
 conv => lhs; rw [← List.take_append_drop H.length H']
 congr 1
 refine List.ext_getElem? fun i => ?_
 by_cases q : i < H.length
 ·rw [List.getElem?_take_of_lt q, h i q]
 ·rw [List.getElem?_eq_none (by simp; omega), List.getElem?_eq_none (by omega)]
theorem Zai {O' : List Nat} {fr : Bool} {n : Nat} {g : Sm} {q : PS} (h : S [] O' [] fr g q) : SimF fr (Zaa n g) (Zaf n q) := fun H vs ts t F1 hp r e => by
 unfold Zaf at e
 split at e
 ·rename_i hl
  obtain ⟨r1, e1, e2⟩ := Zz1.mp e
  obtain ⟨Φ, hΦ⟩ := r.slots
  have st : St ⟨H, [], fun a => a ∈ F1⟩ [] (fun i => vs[i]?) (fun i => ts[i]?) H Φ :=
   ⟨(fun i t e => by obtain ⟨v, h1, h2, _⟩ := hΦ i t e; exact ⟨v, h1, h2⟩), fun i t e a m => (by obtain ⟨v, h1, h2, h3⟩ := hΦ i t e; exact .inr (h3 a m)), (fun i hi => nomatch hi), Nat.le_refl _, fun a _ _ => rfl, hp, by simp⟩
  obtain ⟨ρ', H', Φ', h1, h2, h3⟩ := h _ _ _ _ _ _ st e1
  rcases h3 with ⟨k1, k2, k3, k4⟩ | ⟨t', v', F', k1, k2, k3, k4, k5, k6⟩
  ·have eh := Zms k3.len fun a ha => k3.keep a ha (by simp)
   refine ⟨.none, H'.drop H.length, [], ?_, ?_, by simp, by simp⟩
   ·have hv : vs.length = n := r.length.trans hl
    simp only [Zaa, hv, if_true, k2, Option.map_some, Option.getD_none]
    rw [← eh]
   ·rw [k1] at e2
    subst e2
    exact .none
  ·have eh := Zms k4.len fun a ha => k4.keep a ha (by simp)
   refine ⟨v', H'.drop H.length, F', ?_, ?_, k5, fun hf => ⟨(k6 hf).1, fun a m => ((k6 hf).2 a m).elim id fun q => by cases q⟩⟩
   ·have hv : vs.length = n := r.length.trans hl
    simp only [Zaa, hv, if_true, k2, Option.map_some, Option.getD_some]
    rw [← eh]
   ·rw [k1] at e2
    subst e2
    rw [← eh]
    exact k3
 ·cases e
theorem Zq3 {f : List V → Hp → Option (V × Hp)} {p : List T → Option T} {fr : Bool} (h : SimF fr f p) (ns : List Int) (e : p [.lst (ns.map T.int)] = some (.bool true)) : ∃ H', f [.ref 0] [ns.map V.int] = some (.bool true, H') := by
 have intsAre : ∀ l : List Int, RFs [ns.map V.int] (l.map V.int) (l.map T.int) [] := fun l => by
  induction l with
  | nil => exact .nil
  | cons a l ih => exact .cons (.int a) ih
 obtain ⟨v, X, F, h1, h2, _⟩ := h [ns.map V.int] [.ref 0] [.lst (ns.map T.int)] _ _ (by simp) (.one (.ref rfl (intsAre ns))) e
 cases h2
 exact ⟨_, h1⟩
end TM
end
section
set_option maxRecDepth 100000
set_option linter.all false
set_option autoImplicit false
namespace TM
open PySem PM
section
variable {O Ns Ne J : List Nat}
theorem Zbw {u : Bool} {g : Src} {q : PG} {put : V → Lc → Option Lc} {pput : T → TL → Option TL} {tc : Ts} {pc : PB} {f : Ex} {pf : PE} (hg : Gs O Ns g q) (hj : PutOk O J put pput) (hN : ∀ i ∈ Ns, i ∉ O) (hc : Bt O tc pc) (hf : E O Ne u f pf) : E O (Ns ++ Ne) false (Zaz g put tc f) (Zan q pput pc pf) :=
 Zn8 hg hj hN hc hf.sh (by simp)
theorem Zdr {g : Src} {q : PG} {put : V → Lc → Option Lc} {pput : T → TL → Option TL} {tc : Ts} {pc : PB} {f : Ex} {pf : PE} (hg : Gs O Ns g q) (hj : PutOk O J put pput) (hN : ∀ i ∈ Ns, i ∉ O) (hc : Bt O tc pc) (hf : E O [] true f pf) : E O [] true (Zaz g put tc f) (Zan q pput pc pf) :=
 Zn8 hg hj hN hc hf (by simp)
end
end TM
end
section
set_option maxRecDepth 100000
set_option linter.all false
set_option autoImplicit false
/-! Forward reckoning over trees. -/
namespace TM
open PySem PM
noncomputable def dec (P : Prop) : Bool := @decide P (Classical.propDecidable P)
theorem dec_iff {P : Prop} : dec P = true ↔ P := by unfold dec; exact @decide_eq_true_iff P (Classical.propDecidable P)
theorem Zbi {P : Prop} (h : P) : dec P = true := dec_iff.mpr h
theorem Zb9 {P : Prop} (h : ¬ P) : dec P = false := by
 cases e : dec P with
 | true => exact absurd (dec_iff.mp e) h
 | false => rfl
theorem Zko {P Q : Prop} (h : P ↔ Q) : dec P = dec Q := by
 by_cases p : P
 ·rw [Zbi p, Zbi (h.mp p)]
 ·rw [Zb9 p, Zb9 fun q => p (h.mpr q)]
theorem Zlw {P : Prop} {b : Bool} (h : b = true ↔ P) : dec P = b := by
 cases b with
 | true => exact Zbi (h.mp rfl)
 | false => exact Zb9 fun p => by simpa using h.mpr p
theorem ZgG {P : Prop} [i : Decidable P] : decide P = dec P := by
 unfold dec; congr
noncomputable def tab {α : Type} (n : Nat) (f : Nat → α) : List α := (List.range n).map f
theorem ZaC {α : Type} {n : Nat} {f : Nat → α} : (tab n f).length = n := by simp [tab]
theorem ZbD {α : Type} {n : Nat} {f : Nat → α} {i : Nat} (h : i < n) : (tab n f)[i]? = some (f i) := by simp [tab, h]
theorem ZtJ {α : Type} {n : Nat} {f : Nat → α} {i : Nat} (h : n ≤ i) : (tab n f)[i]? = none := by simp [tab, h]
theorem Zc7 {α : Type} {n : Nat} {f : Nat → α} : tab n f ++ [f n] = tab (n + 1) f := by simp [tab, List.range_succ]
theorem Zhi {α : Type} {n : Nat} {xs : List α} {f : Nat → α} (hl : xs.length = n) (h : ∀ i, i < n → xs[i]? = some (f i)) : xs = tab n f := by
 refine List.ext_getElem? fun i => ?_
 by_cases q : i < n
 ·rw [h i q, ZbD q]
 ·rw [List.getElem?_eq_none (by omega), ZtJ (by omega)]
theorem Zb6 {α : Type} {n : Nat} {f g : Nat → α} (h : ∀ i, i < n → f i = g i) : tab n f = tab n g := by
 refine Zhi ZaC fun i hi => ?_
 rw [ZbD hi, h i hi]
theorem Zhj {α : Type} {n k : Nat} {f : Nat → α} {v : α} : (tab n f).set k v = tab n fun i => if i = k then v else f i := by
 refine Zhi (by rw [List.length_set, ZaC]) fun i hi => ?_
 by_cases q : i = k
 ·subst q
  rw [List.getElem?_set_self (by rw [ZaC]; exact hi), if_pos rfl]
 ·rw [List.getElem?_set_ne (Ne.symm q), ZbD hi, if_neg q]
theorem tab_map {α β : Type} {n : Nat} {f : Nat → α} {g : α → β} : (tab n f).map g = tab n fun i => g (f i) := by simp [tab]
noncomputable def cn {α : Type} (a : α) (f : Nat → α) : Nat → α
 | 0 => a
 | i + 1 => f i
theorem ZrO {α : Type} {n : Nat} {a : α} {f : Nat → α} : a :: tab n f = tab (n + 1) (cn a f) := by
 refine Zhi (by rw [List.length_cons, ZaC]) fun i hi => ?_
 cases i with
 | zero => rfl
 | succ i => rw [List.getElem?_cons_succ, ZbD (by omega)]; rfl
theorem Zny {α β γ : Type} {n m : Nat} {f : Nat → α} {g : Nat → β} {h : α → β → γ} : List.zipWith h (tab n f) (tab m g) = tab (min n m) fun i => h (f i) (g i) := by
 refine Zhi (by rw [List.length_zipWith, ZaC, ZaC]) fun i hi => ?_
 rw [List.getElem?_zipWith, ZbD (show i < n by omega), ZbD (show i < m by omega)]
noncomputable def Pk (c : Option T) (Q : T → Prop) : Prop := ∃ t, c = some t ∧ Q t
noncomputable def Pl (c : Option (List T)) (Q : List T → Prop) : Prop := ∃ t, c = some t ∧ Q t
noncomputable def Pb (c : Option Bool) (Q : Bool → Prop) : Prop := ∃ t, c = some t ∧ Q t
noncomputable def Psk (c : Option (Option T × TL)) (R : T → Prop) (N : TL → Prop) : Prop := ∃ o σ, c = some (o, σ) ∧ (∀ t, o = some t → R t) ∧ (o = none → N σ)
theorem ZT {c : Option T} {Q : T → Prop} {t : T} (h : c = some t) (k : Q t) : Pk c Q := ⟨t, h, k⟩
theorem Pk.eq {c : Option T} {t : T} (h : Pk c fun v => v = t) : c = some t := by obtain ⟨v, e, rfl⟩ := h; exact e
theorem Pk.mono {c : Option T} {Q Q' : T → Prop} (h : Pk c Q) (k : ∀ t, Q t → Q' t) : Pk c Q' := by obtain ⟨v, e, q⟩ := h; exact ⟨v, e, k v q⟩
section
variable {σ : TL} {Q : T → Prop} {L : List T → Prop} {B : Bool → Prop} {R : T → Prop} {N : TL → Prop}
theorem ZtK {k : Int} (h : Q (.int k)) : Pk (Zk k σ) Q := ⟨_, rfl, h⟩
theorem ZtL (h : Q .none) : Pk (ZY σ) Q := ⟨_, rfl, h⟩
theorem ZsF {k : Bool} (h : Q (.bool k)) : Pk (Zbs k σ) Q := ⟨_, rfl, h⟩
theorem ZtM {i : Nat} {t : T} (e : σ i = some t) (h : Q t) : Pk (Za i σ) Q := ⟨_, e, h⟩
theorem ZtN {q : T → T → Option T} {f g : PE} (h : Pk (f σ) fun x => Pk (g σ) fun y => Pk (q x y) Q) : Pk (Zd q f g σ) Q := by
 obtain ⟨x, a, y, b, z, c, k⟩ := h
 exact ⟨z, by simp only [Zd, a, b, Option.bind_some, c], k⟩
theorem Zuq {q : T → Option T} {f : PE} (h : Pk (f σ) fun x => Pk (q x) Q) : Pk (pUn q f σ) Q := by
 obtain ⟨x, a, z, c, k⟩ := h
 exact ⟨z, by simp only [pUn, a, Option.bind_some, c], k⟩
theorem ZsG {q : List T → Option T} {f : PEs} (h : Pl (f σ) fun x => Pk (q x) Q) : Pk (Zy q f σ) Q := by
 obtain ⟨x, a, z, c, k⟩ := h
 exact ⟨z, by simp only [Zy, a, Option.bind_some, c], k⟩
theorem ZtO (h : L []) : Pl (Zn σ) L := ⟨_, rfl, h⟩
theorem ZsH {f : PE} {g : PEs} (h : Pk (f σ) fun x => Pl (g σ) fun xs => L (x :: xs)) : Pl (Zf f g σ) L := by
 obtain ⟨x, a, y, b, k⟩ := h
 exact ⟨_, by simp only [Zf, a, b, Option.bind_some], k⟩
theorem ZtP {g : PEs} (h : Pl (g σ) fun xs => Q (.tup xs)) : Pk (Za3 g σ) Q := by
 obtain ⟨x, a, k⟩ := h; exact ⟨_, by simp only [Za3, a, Option.map_some], k⟩
theorem ZsI {g : PEs} (h : Pl (g σ) fun xs => Q (.lst xs)) : Pk (Za2 g σ) Q := by
 obtain ⟨x, a, k⟩ := h; exact ⟨_, by simp only [Za2, a, Option.map_some], k⟩
theorem ZsJ {f : PE} (h : Pk (f σ) fun t => t.flat = true ∧ Q t) : Pk (ZbV f σ) Q := by
 obtain ⟨x, a, b, k⟩ := h; exact ⟨_, by simp only [ZbV, a, Option.bind_some, b, if_true], k⟩
theorem Zur {f : PE} (h : Pk (f σ) fun t => t.flatIn = true ∧ Q t) : Pk (pFl f σ) Q := by
 obtain ⟨x, a, b, k⟩ := h; exact ⟨_, by simp only [pFl, a, Option.bind_some, b, if_true], k⟩
theorem Zus {b : PB} {f g : PE} (h : Pb (b σ) fun x => (x = true → Pk (f σ) Q) ∧ (x = false → Pk (g σ) Q)) : Pk (pIf b f g σ) Q := by
 obtain ⟨x, a, h1, h2⟩ := h
 cases x with
 | true => obtain ⟨t, c, q⟩ := h1 rfl; exact ⟨t, by simp [pIf, a, c], q⟩
 | false => obtain ⟨t, c, q⟩ := h2 rfl; exact ⟨t, by simp [pIf, a, c], q⟩
theorem ZtQ {f : PE} (h : Pk (f σ) fun x => Pb (ZbJ x) fun b => Q (.bool (!b))) : Pk (ZhV f σ) Q := by
 obtain ⟨x, a, b, e, q⟩ := h; exact ⟨_, by simp only [ZhV, a, Option.bind_some, e, Option.map_some], q⟩
theorem ZtR {f g : PE} (h : Pk (f σ) fun x => Pb (ZbJ x) fun b => (b = true → Pk (g σ) Q) ∧ (b = false → Q x)) : Pk (Zep f g σ) Q := by
 obtain ⟨x, a, b, e, h1, h2⟩ := h
 cases b with
 | true => obtain ⟨t, c, q⟩ := h1 rfl; exact ⟨t, by simp [Zep, a, e, c], q⟩
 | false => exact ⟨x, by simp [Zep, a, e], h2 rfl⟩
theorem Zut {f g : PE} (h : Pk (f σ) fun x => Pb (ZbJ x) fun b => (b = true → Q x) ∧ (b = false → Pk (g σ) Q)) : Pk (pOr f g σ) Q := by
 obtain ⟨x, a, b, e, h1, h2⟩ := h
 cases b with
 | false => obtain ⟨t, c, q⟩ := h2 rfl; exact ⟨t, by simp [pOr, a, e, c], q⟩
 | true => exact ⟨x, by simp [pOr, a, e], h1 rfl⟩
theorem Zuu {K : String} {f : PE} (h : Pk (f σ) fun x => Q (.bool (Zhg K x))) : Pk (pIs K f σ) Q := by
 obtain ⟨x, a, q⟩ := h; exact ⟨_, by simp only [pIs, a, Option.map_some], q⟩
theorem ZtS {f : PE} (h : Pk (f σ) fun x => Pb (ZbJ x) B) : Pb (ZF f σ) B := by
 obtain ⟨x, a, b, e, q⟩ := h; exact ⟨_, by simp only [ZF, a, Option.bind_some, e], q⟩
theorem ZsK {f : PB} (h : Pb (f σ) fun b => B (!b)) : Pb (Zb3 f σ) B := by
 obtain ⟨x, a, q⟩ := h; exact ⟨_, by simp only [Zb3, a, Option.map_some], q⟩
theorem ZsL (h : B true) : Pb (Zad σ) B := ⟨_, rfl, h⟩
theorem ZrP (h : B false) : Pb (Zci σ) B := ⟨_, rfl, h⟩
theorem ZsM {f g : PB} (h : Pb (f σ) fun b => (b = true → Pb (g σ) B) ∧ (b = false → B false)) : Pb (Zaw f g σ) B := by
 obtain ⟨x, a, h1, h2⟩ := h
 cases x with
 | true => obtain ⟨t, c, q⟩ := h1 rfl; exact ⟨t, by simp [Zaw, a, c], q⟩
 | false => exact ⟨_, by simp [Zaw, a], h2 rfl⟩
theorem ZtT {f g : PB} (h : Pb (f σ) fun b => (b = true → B true) ∧ (b = false → Pb (g σ) B)) : Pb (bOr f g σ) B := by
 obtain ⟨x, a, h1, h2⟩ := h
 cases x with
 | false => obtain ⟨t, c, q⟩ := h2 rfl; exact ⟨t, by simp [bOr, a, c], q⟩
 | true => exact ⟨_, by simp [bOr, a], h1 rfl⟩
theorem Zmt {b : Bool} (h : B b) : Pb (ZbJ (.bool b)) B := ⟨_, rfl, h⟩
theorem ZsN (h : N σ) : Psk (Z1 σ) R N := ⟨_, _, rfl, by simp, fun _ => h⟩
theorem ZtU {f : PE} (h : Pk (f σ) R) : Psk (ZG f σ) R N := by
 obtain ⟨x, a, q⟩ := h; exact ⟨some x, σ, by simp only [ZG, a, Option.map_some], fun t e => by cases e; exact q, by simp⟩
theorem Zlx {i : Nat} {f : PE} (h : Pk (f σ) fun t => N (ZZ σ i t)) : Psk (ZI i f σ) R N := by
 obtain ⟨x, a, q⟩ := h; exact ⟨none, ZZ σ i x, by simp only [ZI, a, Option.map_some], by simp, fun _ => q⟩
theorem ZhD {a b : PS} (h : Psk (a σ) R fun σ1 => Psk (b σ1) R N) : Psk (Zt a b σ) R N := by
 obtain ⟨o, σ1, e, h1, h2⟩ := h
 cases o with
 | some t => exact ⟨some t, σ1, by simp only [Zt, e, Option.bind_some], h1, by simp⟩
 | none =>
  obtain ⟨o2, σ2, e2, k1, k2⟩ := h2 rfl
  exact ⟨o2, σ2, by simp only [Zt, e, Option.bind_some, e2], k1, k2⟩
theorem Zly {b : PB} {f g : PS} (h : Pb (b σ) fun x => (x = true → Psk (f σ) R N) ∧ (x = false → Psk (g σ) R N)) : Psk (ZW b f g σ) R N := by
 obtain ⟨x, a, h1, h2⟩ := h
 cases x with
 | true => obtain ⟨o, s, c, q⟩ := h1 rfl; exact ⟨o, s, by simp [ZW, a, c], q⟩
 | false => obtain ⟨o, s, c, q⟩ := h2 rfl; exact ⟨o, s, by simp [ZW, a, c], q⟩
theorem Zlz {n : Nat} {q : PS} {ts : List T} (hn : ts.length = n) (h : Psk (q fun i => ts[i]?) Q fun _ => Q .none) : Pk (Zaf n q ts) Q := by
 obtain ⟨o, s, e, h1, h2⟩ := h
 cases o with
 | some t => exact ⟨t, by simp only [Zaf, hn, if_true, e, Option.map_some, Option.getD_some], h1 t rfl⟩
 | none => exact ⟨.none, by simp only [Zaf, hn, if_true, e, Option.map_some, Option.getD_none], h2 rfl⟩
theorem Zoa {b : Bool} {A C : Prop} (h : b = true) (k : A) : (b = true → A) ∧ (b = false → C) := ⟨fun _ => k, fun e => (by rw [h] at e; cases e)⟩
theorem ZtV {b : Bool} {A C : Prop} (h : b = false) (k : C) : (b = true → A) ∧ (b = false → C) := ⟨fun e => (by rw [h] at e; cases e), fun _ => k⟩
theorem Zob {a b : Int} (h : Q (.int (a + b))) : Pk (Z6 (.int a) (.int b)) Q := ⟨_, rfl, h⟩
theorem ZtW {a b : Int} (h : Q (.int (a - b))) : Pk (ZaU (.int a) (.int b)) Q := ⟨_, rfl, h⟩
theorem ZtX {a : Int} (h : Q (.int (-a))) : Pk (Zdj (.int a)) Q := ⟨_, rfl, h⟩
theorem Zuv {a b : Int} (h : Q (.bool (decide (a < b)))) : Pk (qLt (.int a) (.int b)) Q := ⟨_, rfl, h⟩
theorem Zuw {a b : Int} (h : Q (.bool (decide (a ≤ b)))) : Pk (qLe (.int a) (.int b)) Q := ⟨_, rfl, h⟩
theorem Zux {a b : Int} (h : Q (.bool (decide (b < a)))) : Pk (qGt (.int a) (.int b)) Q := ⟨_, rfl, h⟩
theorem ZtY {a b : Int} (hb : b ≠ 0) (h : Q (.int (a.fmod b))) : Pk (Za1 (.int a) (.int b)) Q := ⟨_, by simp only [Za1]; rw [if_pos hb], h⟩
theorem Zdu {a b : Int} (hb : b ≠ 0) (hd : Builtin.divisionGoesByPylong a b = false) (h : Q (.int (a.fdiv b))) : Pk (ZcB (.int a) (.int b)) Q := ⟨_, by simp only [ZcB]; rw [if_pos ⟨hb, hd⟩], h⟩
theorem ZbE {a b : Int} (hm : mulOk a b = true) (h : Q (.int (a * b))) : Pk (Zat (.int a) (.int b)) Q := ⟨_, by simp only [Zat]; rw [if_pos hm], h⟩
theorem ZtZ {a : Int} (h : Q (.int (if a < 0 then -a else a))) : Pk (Zdk [.int a]) Q := ⟨_, rfl, h⟩
theorem Zt0 {a b : Int} (h : Q (.int (if b > a then b else a))) : Pk (ZfZ [.int a, .int b]) Q := ⟨_, rfl, h⟩
theorem Zhk (a b : Int) : ZdU (.int a) (.int b) = some (decide (a = b)) := by
 simp [ZdU, ZcC, SeqAt.shaped, PyData.canLay0, PyData.depth, PyData.eqv]
 by_cases h : a = b <;> simp [h]
theorem Zuy {a b : Int} (h : Q (.bool (decide (a = b)))) : Pk (qEq (.int a) (.int b)) Q := ⟨_, by simp only [qEq, Zhk, Option.map_some], h⟩
theorem Zuz {a b : Int} (h : Q (.bool (decide (a ≠ b)))) : Pk (qNe (.int a) (.int b)) Q := ⟨.bool (decide (a ≠ b)), by simp only [qNe, Zhk, Option.map_some]; simp, h⟩
theorem Zt1 (h : Q (.bool true)) : Pk (qIs .none .none) Q := ⟨_, rfl, h⟩
theorem Zt2 {a : Int} (h : Q (.bool false)) : Pk (qIs (.int a) .none) Q := ⟨_, rfl, h⟩
theorem Zt3 {a : List T} (h : Q (.bool false)) : Pk (qIs (.lst a) .none) Q := ⟨_, rfl, h⟩
theorem Zt4 {a : List T} (h : Q (.bool false)) : Pk (qIs (.tup a) .none) Q := ⟨_, rfl, h⟩
theorem ZsO (h : Q (.bool false)) : Pk (ZbC .none .none) Q := ⟨_, rfl, h⟩
theorem ZsP {a : Int} (h : Q (.bool true)) : Pk (ZbC (.int a) .none) Q := ⟨_, rfl, h⟩
theorem ZsQ {a : List T} (h : Q (.bool true)) : Pk (ZbC (.tup a) .none) Q := ⟨_, rfl, h⟩
theorem ZsR {n : Nat} {f : Nat → T} (h : Q (.int n)) : Pk (Zao [.lst (tab n f)]) Q := ⟨_, by simp only [Zao, ZaC], h⟩
theorem Zt5 {ts : List T} (h : Q (.int ts.length)) : Pk (Zao [.lst ts]) Q := ⟨_, rfl, h⟩
theorem ZsS {ts : List T} (h : Q (.int ts.length)) : Pk (Zao [.tup ts]) Q := ⟨_, rfl, h⟩
theorem Zdy {k : Int} {n : Nat} (h0 : 0 ≤ k) (h1 : k < n) : seqIndex? k n = some k.toNat := by
 unfold seqIndex?
 have : ¬ k < 0 := by omega
 simp [this]
 omega
theorem ZsT {n i : Nat} {f : Nat → T} (hi : i < n) (h : Q (f i)) : Pk (Zo (.lst (tab n f)) (.int (i : Nat))) Q := ⟨_, by
 simp only [Zo, ZaC, Zdy (show (0 : Int) ≤ (i : Int) by omega) (show (i : Int) < (n : Int) by omega), Option.bind_some, Int.toNat_natCast]
 exact ZbD hi, h⟩
theorem ZsU {n : Nat} {k : Int} {f : Nat → T} (h0 : 0 ≤ k) (h1 : k < n) (h : Q (f k.toNat)) : Pk (Zo (.lst (tab n f)) (.int k)) Q := ⟨_, by
 simp only [Zo, ZaC, Zdy h0 h1, Option.bind_some]
 exact ZbD (by omega), h⟩
theorem ZfF {ts : List T} {k : Int} {t : T} (h0 : 0 ≤ k) (e : ts[k.toNat]? = some t) (h : Q t) : Pk (Zo (.lst ts) (.int k)) Q := ⟨_, by
 simp only [Zo]
 rw [Zdy h0 (by have := (Zz6.mp e).1; omega)]
 exact e, h⟩
theorem ZsV {ts : List T} {k : Int} {t : T} (h0 : 0 ≤ k) (e : ts[k.toNat]? = some t) (h : Q t) : Pk (Zo (.tup ts) (.int k)) Q := ⟨_, by
 simp only [Zo]
 rw [Zdy h0 (by have := (Zz6.mp e).1; omega)]
 exact e, h⟩
theorem Znz {n : Nat} {a : T} {f : Nat → T} (hn : n < 10000) (h : Q (.lst (tab (n + 1) (cn a f)))) : Pk (Z6 (.lst [a]) (.lst (tab n f))) Q := ⟨_, by
 simp only [Z6]
 rw [if_pos (by rw [Zbc, List.length_append, ZaC]; simp; omega), List.singleton_append, ZrO], h⟩
theorem ZrQ {ts : List T} (h : Q (.lst ts)) : Pk (Zcj [.lst ts]) Q := ⟨_, rfl, h⟩
theorem Zq4 {n : Nat} {f : Nat → Bool} : ZeV (tab n fun i => .bool (f i)) = some (tab n f) := by
 have : ∀ l : List Bool, ZeV (l.map T.bool) = some l := fun l => by
  induction l with
  | nil => rfl
  | cons a l ih => simp only [List.map_cons, ZeV, ih, Option.map_some]
 rw [show (tab n fun i => T.bool (f i)) = (tab n f).map T.bool from tab_map.symm]
 exact this _
theorem ZrR {n : Nat} {f : Nat → Int} : Zc1 (tab n fun i => .int (f i)) = some (tab n f) := by
 have : ∀ l : List Int, Zc1 (l.map T.int) = some l := fun l => by
  induction l with
  | nil => rfl
  | cons a l ih => simp only [List.map_cons, Zc1, ih, Option.map_some]
 rw [show (tab n fun i => T.int (f i)) = (tab n f).map T.int from tab_map.symm]
 exact this _
theorem Zt6 {n : Nat} {P : Nat → Prop} (h : Q (.bool (dec (∃ i, i < n ∧ P i)))) : Pk (Zf6 [.lst (tab n fun i => .bool (dec (P i)))]) Q := ⟨_, by
 simp only [Zf6, Zq4, Option.map_some]
 congr 2
 symm
 apply Zlw
 rw [List.any_eq_true]
 constructor
 ·rintro ⟨x, hx, h⟩
  obtain ⟨i, hi, e⟩ := List.getElem_of_mem hx
  rw [ZaC] at hi
  have := ZbD (f := fun i => dec (P i)) hi
  rw [List.getElem?_eq_getElem (by rw [ZaC]; exact hi)] at this
  rw [← e, Option.some.inj this] at h
  exact ⟨i, hi, dec_iff.mp h⟩
 ·rintro ⟨i, hi, h⟩
  exact ⟨_, List.mem_of_getElem? (ZbD hi), Zbi h⟩, h⟩
noncomputable def SqP (x : T) (L : List T → Prop) : Prop := ∃ ts, (x = .lst ts ∨ x = .tup ts) ∧ L ts
theorem Zhl {f : PE} (h : Pk (f σ) fun t => SqP t L) : Pl (ZaE f σ) L := by
 obtain ⟨t, a, ts, rfl | rfl, q⟩ := h <;> exact ⟨_, by simp only [ZaE, a, Option.bind_some], q⟩
theorem Sq.lst {ts : List T} (h : L ts) : SqP (.lst ts) L := ⟨ts, .inl rfl, h⟩
theorem Zoc {a b c : Int} {H : Hp} {z : Nx × Nat × Hp} (h : Zcf a b c H = some z) : Zcb a b c = some ((List.range (rngN a b c)).map fun (i : Nat) => .int (a + (i : Int) * c)) := by
 unfold Zcf at h
 split at h
 ·rename_i hc
  unfold Zcb
  rw [if_pos hc]
 ·cases h
theorem ZrS {n : Nat} (hn : n ≤ 1000) : Zcb 0 n 1 = some (tab n fun i => .int i) := by
 rw [Zoc (ZtC (H := []) (b := n) (by omega) (by omega))]
 have e : rngN 0 n 1 = n := by
  unfold rngN Builtin.Range.rangeSize
  by_cases q : (0 : Int) < n
  ·rw [if_pos (by decide), if_pos (by omega)]; omega
  ·rw [if_pos (by decide), if_neg (by omega)]; omega
 rw [e]
 simp [tab]
theorem ZnA {a n : Nat} (ha : 0 < n) (hn : a + n ≤ 1000) : Zcb a (a + n) 1 = some (tab n fun i => .int (a + i)) := by
 rw [Zoc (ZtE (H := []) (a := a) (b := a + n) (c := 1) (by omega) (by omega) (by omega) (by omega) (by omega))]
 have e : rngN a (a + n) 1 = n := by
  unfold rngN
  rw [Zou (by omega) (by omega)]
  omega
 rw [e]
 simp [tab]
theorem ZsW {g : PEs} {b : Int} {o : Option (List T)} (e : g σ = some [.int b]) (h : Zcb 0 b 1 = o) : ZaG g σ = o := by
 subst h; unfold ZaG; rw [e]; rfl
theorem ZfG {g : PEs} {a b : Int} {o : Option (List T)} (e : g σ = some [.int a, .int b]) (h : Zcb a b 1 = o) : ZaG g σ = o := by
 subst h; unfold ZaG; rw [e]; rfl
noncomputable def RnP (xs : List T) (L : List T → Prop) : Prop := (∃ n : Nat, xs = [.int n] ∧ n ≤ 1000 ∧ L (tab n fun i => .int i)) ∨ ∃ (a : Nat) (n : Nat), xs = [.int a, .int (a + n)] ∧ 0 < n ∧ a + n ≤ 1000 ∧ L (tab n fun i => .int (a + i))
theorem ZrT {g : PEs} (h : Pl (g σ) fun xs => RnP xs L) : Pl (ZaG g σ) L := by
 obtain ⟨xs, e, h⟩ := h
 rcases h with ⟨n, h0, h1, q⟩ | ⟨a, n, h0, h1, h2, q⟩
 ·subst h0; exact ⟨_, ZsW e (ZrS h1), q⟩
 ·subst h0; exact ⟨_, ZfG e (ZnA h1 h2), q⟩
theorem Rn.one {n : Nat} (hn : n ≤ 1000) (h : L (tab n fun i => .int i)) : RnP [.int n] L := .inl ⟨n, rfl, hn, h⟩
theorem Zov {k : Int} (n : Nat) (e : k = n) (hn : n ≤ 1000) (h : L (tab n fun i => .int i)) : RnP [.int k] L := .inl ⟨n, by rw [e], hn, h⟩
theorem Rn.two {k l : Int} (a n : Nat) (e0 : l = a) (e : k = a + n) (ha : 0 < n) (hn : a + n ≤ 1000) (h : L (tab n fun i => .int (a + i))) : RnP [.int l, .int k] L := .inr ⟨a, n, by rw [e, e0], ha, hn, h⟩
noncomputable def ZiP (x y : T) (L : List T → Prop) : Prop := ∃ xs ys, x = .lst xs ∧ y = .lst ys ∧ L (List.zipWith (fun a b => .tup [a, b]) xs ys)
theorem ZlA {f g : PE} (h : Pk (f σ) fun x => Pk (g σ) fun y => ZiP x y L) : Pl (ZdC f g σ) L := by
 obtain ⟨x, a, y, b, xs, ys, rfl, rfl, q⟩ := h; exact ⟨_, by simp only [ZdC, a, b, Option.bind_some], q⟩
theorem Zi.eq {n : Nat} {f g : Nat → T} (h : L (tab n fun i => .tup [f i, g i])) : ZiP (.lst (tab n f)) (.lst (tab n g)) L := ⟨_, _, rfl, rfl, by rw [Zny, Nat.min_self]; exact h⟩
theorem Zlh {put : T → TL → Option TL} {f : PE} : ∀ {ts us : List T}, us.length = ts.length → (∀ (i : Nat) t u, ts[i]? = some t → us[i]? = some u → ∃ σ1, put t σ = some σ1 ∧ f σ1 = some u) → Zcp put Zad f σ ts = some us
 | [], us, hl, _ => by cases us with
  | nil => rfl
  | cons _ _ => simp at hl
 | t :: ts, us, hl, k => by
  cases us with
  | nil => simp at hl
  | cons u us =>
   obtain ⟨σ1, h1, h2⟩ := k 0 t u (by simp) (by simp)
   have := Zlh (ts := ts) (us := us) (f := f) (put := put) (by simpa using hl) fun i t' u' h3 h4 => k (i + 1) t' u' (by simpa using h3) (by simpa using h4)
   simp only [Zcp, h1, Zad, Option.bind_some, if_true, h2, this, Option.map_some]
theorem ZbR {g : PG} {j n : Nat} {a b : Nat → T} {f : PE} (hn : n < 10000) (hg : Pl (g σ) fun ts => ts = tab n a) (hf : ∀ i, i < n → Pk (f (ZZ σ j (a i))) fun t => t = b i) (h : Q (.lst (tab n b))) : Pk (Zan g (Z5 j) Zad f σ) Q := by
 obtain ⟨ts, e, rfl⟩ := hg
 refine ⟨_, ?_, h⟩
 simp only [Zan, e, Option.bind_some, ZaC]
 rw [if_pos (by rw [Zbc]; omega), Zlh (us := tab n b) (by rw [ZaC, ZaC]) fun i t u h1 h2 => ?_]
 ·rfl
 ·have hi : i < n := by have := (Zz6.mp h1).1; rwa [ZaC] at this
  rw [ZbD hi] at h1 h2
  cases h1; cases h2
  exact ⟨_, rfl, (hf i hi).eq⟩
theorem ZkS {g : PG} {j k n : Nat} {a b c : Nat → T} {f : PE} (hn : n < 10000) (hg : Pl (g σ) fun ts => ts = tab n fun i => .tup [a i, b i]) (hf : ∀ i, i < n → Pk (f (ZZ (ZZ σ j (a i)) k (b i))) fun t => t = c i) (h : Q (.lst (tab n c))) : Pk (Zan g (Zcz j k) Zad f σ) Q := by
 obtain ⟨ts, e, rfl⟩ := hg
 refine ⟨_, ?_, h⟩
 simp only [Zan, e, Option.bind_some, ZaC]
 rw [if_pos (by rw [Zbc]; omega), Zlh (us := tab n c) (by rw [ZaC, ZaC]) fun i t u h1 h2 => ?_]
 ·rfl
 ·have hi : i < n := by have := (Zz6.mp h1).1; rwa [ZaC] at this
  rw [ZbD hi] at h1 h2
  cases h1; cases h2
  exact ⟨_, rfl, (hf i hi).eq⟩
theorem ZhE {put : T → TL → Option TL} {b : PS} : ∀ {ts : List T} (P : Nat → TL → Prop) {σ : TL}, P 0 σ → (∀ (i : Nat) t σ, ts[i]? = some t → P i σ → ∃ σ1, put t σ = some σ1 ∧ Psk (b σ1) R (P (i + 1))) → (∀ σ, P ts.length σ → N σ) → Psk (Zet put b σ ts) R N
 | [], P, σ, h0, _, h2 => ⟨_, _, rfl, by simp, fun _ => h2 _ h0⟩
 | t :: ts, P, σ, h0, h1, h2 => by
  obtain ⟨σ1, e1, o, σ2, e2, k1, k2⟩ := h1 0 t σ (by simp) h0
  cases o with
  | some v => exact ⟨some v, σ2, by simp only [Zet, e1, Option.bind_some, e2], k1, by simp⟩
  | none =>
   obtain ⟨o3, σ3, e3, l1, l2⟩ := ZhE (ts := ts) (fun i => P (i + 1)) (k2 rfl) (fun i t' σ' h3 h4 => h1 (i + 1) t' σ' (by simpa using h3) h4) (fun σ' h => h2 σ' (by simpa using h))
   exact ⟨o3, σ3, by simp only [Zet, e1, Option.bind_some, e2, e3], l1, l2⟩
theorem ZbL {g : PG} {j n : Nat} {a : Nat → T} {b : PS} (hg : Pl (g σ) fun ts => ts = tab n a) (P : Nat → TL → Prop) (h0 : P 0 σ) (h1 : ∀ i σ, i < n → P i σ → Psk (b (ZZ σ j (a i))) R (P (i + 1))) (h2 : ∀ σ, P n σ → N σ) : Psk (ZaO g (Z5 j) b σ) R N := by
 obtain ⟨ts, e, rfl⟩ := hg
 have := ZhE (R := R) (N := N) (put := Z5 j) (b := b) (ts := tab n a) P h0 (fun i t σ' h3 h4 => by
  have hi : i < n := by have := (Zz6.mp h3).1; rwa [ZaC] at this
  rw [ZbD hi] at h3
  cases h3
  exact ⟨_, rfl, h1 i σ' hi h4⟩) (by rw [ZaC]; exact h2)
 obtain ⟨o, s, e2, q⟩ := this
 exact ⟨o, s, by simp only [ZaO, e, Option.bind_some, e2], q⟩
theorem Zhm {g : PG} {j k n : Nat} {a c : Nat → T} {b : PS} (hg : Pl (g σ) fun ts => ts = tab n fun i => .tup [a i, c i]) (P : Nat → TL → Prop) (h0 : P 0 σ) (h1 : ∀ i σ, i < n → P i σ → Psk (b (ZZ (ZZ σ j (a i)) k (c i))) R (P (i + 1))) (h2 : ∀ σ, P n σ → N σ) : Psk (ZaO g (Zcz j k) b σ) R N := by
 obtain ⟨ts, e, rfl⟩ := hg
 have := ZhE (R := R) (N := N) (put := Zcz j k) (b := b) (ts := tab n fun i => .tup [a i, c i]) P h0 (fun i t σ' h3 h4 => by
  have hi : i < n := by have := (Zz6.mp h3).1; rwa [ZaC] at this
  rw [ZbD hi] at h3
  cases h3
  exact ⟨_, rfl, h1 i σ' hi h4⟩) (by rw [ZaC]; exact h2)
 obtain ⟨o, s, e2, q⟩ := this
 exact ⟨o, s, by simp only [ZaO, e, Option.bind_some, e2], q⟩
theorem ZsX {g : PG} {j : Nat} {ts : List T} {b : PS} (hg : Pl (g σ) fun us => us = ts) (P : Nat → TL → Prop) (h0 : P 0 σ) (h1 : ∀ (i : Nat) t σ, ts[i]? = some t → P i σ → Psk (b (ZZ σ j t)) R (P (i + 1))) (h2 : ∀ σ, P ts.length σ → N σ) : Psk (ZaO g (Z5 j) b σ) R N := by
 obtain ⟨us, e, rfl⟩ := hg
 obtain ⟨o, s, e2, q⟩ := ZhE (R := R) (N := N) (put := Z5 j) (b := b) (ts := us) P h0 (fun i t σ' h3 h4 => ⟨_, rfl, h1 i t σ' h3 h4⟩) h2
 exact ⟨o, s, by simp only [ZaO, e, Option.bind_some, e2], q⟩
theorem ZeK {t : PB} {b : PS} (P : Nat → TL → Prop) (R : T → Prop) (N : TL → Prop) (h : ∀ m σ, P m σ → Pb (t σ) fun x => (x = true → Psk (b σ) R fun σ1 => ∃ m', m' < m ∧ P m' σ1) ∧ (x = false → N σ)) : ∀ (n : Nat) {m : Nat} {σ : TL}, P m σ → m < n → Psk (ZcZ t b n σ) R N
 | 0, _, _, _, hm => by omega
 | n + 1, m, σ, hp, hm => by
  obtain ⟨x, e, h1, h2⟩ := h m σ hp
  cases x with
  | false => exact ⟨none, σ, by simp [ZcZ, e], by simp, fun _ => h2 rfl⟩
  | true =>
   obtain ⟨o, σ1, e1, k1, k2⟩ := h1 rfl
   cases o with
   | some v => exact ⟨some v, σ1, by simp [ZcZ, e, e1], k1, by simp⟩
   | none =>
    obtain ⟨m', hm', hp'⟩ := k2 rfl
    obtain ⟨o2, σ2, e2, l1, l2⟩ := ZeK P R N h n hp' (by omega)
    exact ⟨o2, σ2, by simp [ZcZ, e, e1, e2], l1, l2⟩
theorem ZgW : Zcq σ [] = σ := by funext i; simp [Zcq]
noncomputable def AppP (σ : TL) (x : Nat) (w : T) (N : TL → Prop) : Prop := ∃ ts, σ x = some (.lst ts) ∧ ts.length < 10000 ∧ N (ZZ σ x (.lst (ts ++ [w])))
theorem ZsY {x : Nat} {w : T} {ts : List T} (e : σ x = some (.lst ts)) (hl : ts.length < 10000) (h : N (ZZ σ x (.lst (ts ++ [w])))) : AppP σ x w N := ⟨ts, e, hl, h⟩
theorem Zt7 {x : Nat} {f : PE} (h : Pk (f σ) fun w => AppP σ x w N) : Psk (ZcQ x [] Za0 f σ) R N := by
 obtain ⟨w, e, ts, h1, h2, q⟩ := h
 refine ⟨none, _, ?_, by simp, fun _ => q⟩
 simp only [ZcQ, Za0, Option.bind_some, e, h1, Zcn, ZdV]
 rw [if_pos (by rw [Zbc]; omega)]
 simp only [Option.map_some, ZgW]
noncomputable def AppQ (σ : TL) (x y : Nat) (w : T) (N : TL → Prop) : Prop := ∃ ts, σ x = some (.lst ts) ∧ ts.length < 10000 ∧ N (Zcq (ZZ σ x (.lst (ts ++ [w]))) [y])
theorem ZsZ {x y : Nat} {w : T} {ts : List T} (e : σ x = some (.lst ts)) (hl : ts.length < 10000) (h : N (Zcq (ZZ σ x (.lst (ts ++ [w]))) [y])) : AppQ σ x y w N := ⟨ts, e, hl, h⟩
theorem Zs0 {x y : Nat} {f : PE} (h : Pk (f σ) fun w => AppQ σ x y w N) : Psk (ZcQ x [y] Za0 f σ) R N := by
 obtain ⟨w, e, ts, h1, h2, q⟩ := h
 refine ⟨none, _, ?_, by simp, fun _ => q⟩
 simp only [ZcQ, Za0, Option.bind_some, e, h1, Zcn, ZdV]
 rw [if_pos (by rw [Zbc]; omega)]
 simp only [Option.map_some]
noncomputable def PutP (σ : TL) (x : Nat) (w k : T) (N : TL → Prop) : Prop := ∃ ts m, k = .int m ∧ σ x = some (.lst ts) ∧ 0 ≤ m ∧ m < ts.length ∧ N (ZZ σ x (.lst (ts.set m.toNat w)))
theorem ZrU {x n i : Nat} {w : T} {f : Nat → T} (e : σ x = some (.lst (TM.tab n f))) (hi : i < n) (h : N (ZZ σ x (.lst (TM.tab n fun k => if k = i then w else f k)))) : PutP σ x w (.int i) N := ⟨_, _, rfl, e, by omega, by rw [ZaC]; omega, by rw [Int.toNat_natCast, Zhj]; exact h⟩
theorem Zq5 {x n : Nat} {k : Int} {w : T} {f : Nat → T} (e : σ x = some (.lst (TM.tab n f))) (h0 : 0 ≤ k) (hi : k < n) (h : N (ZZ σ x (.lst (TM.tab n fun i => if i = k.toNat then w else f i)))) : PutP σ x w (.int k) N := ⟨_, _, rfl, e, h0, by rw [ZaC]; omega, by rw [Zhj]; exact h⟩
theorem Zt8 {x : Nat} {f i : PE} (h : Pk (f σ) fun w => Pk (i σ) fun k => PutP σ x w k N) : Psk (ZbB x [] f Za0 i σ) R N := by
 obtain ⟨w, e, k, e2, ts, m, rfl, h1, h2, h3, q⟩ := h
 refine ⟨none, _, ?_, by simp, fun _ => q⟩
 simp only [ZbB, Za0, Option.bind_some, e, e2, h1, Zcn, Ze3]
 rw [if_pos ⟨h2, h3⟩]
 simp only [Option.map_some, ZgW]
noncomputable def Put2 (σ : TL) (x : Nat) (w a k : T) (N : TL → Prop) : Prop := ∃ ts us l m, a = .int l ∧ k = .int m ∧ σ x = some (.lst ts) ∧ 0 ≤ l ∧ ts[l.toNat]? = some (.lst us) ∧ 0 ≤ m ∧ m < us.length ∧ N (ZZ σ x (.lst (ts.set l.toNat (.lst (us.set m.toNat w)))))
theorem ZrV {x n m i j : Nat} {w : T} {f : Nat → Nat → T} (e : σ x = some (.lst (TM.tab n fun a => .lst (TM.tab m (f a))))) (hi : i < n) (hj : j < m) (h : N (ZZ σ x (.lst (TM.tab n fun a => .lst (TM.tab m fun b => if a = i ∧ b = j then w else f a b))))) : Put2 σ x w (.int i) (.int j) N := by
 refine ⟨_, TM.tab m (f i), i, j, rfl, rfl, e, by omega, ?_, by omega, by rw [ZaC]; omega, ?_⟩
 ·rw [Int.toNat_natCast, ZbD hi]
 ·rw [Int.toNat_natCast, Int.toNat_natCast, Zhj, Zhj]
  have : (TM.tab n fun a => if a = i then T.lst (TM.tab m fun b => if b = j then w else f i b) else T.lst (TM.tab m (f a))) = TM.tab n fun a => .lst (TM.tab m fun b => if a = i ∧ b = j then w else f a b) := Zb6 fun a _ => by
   by_cases q : a = i
   ·subst q; simp
   ·simp [q]
  rw [this]; exact h
theorem Zs1 {x : Nat} {f i j : PE} (h : Pk (f σ) fun w => Pk (i σ) fun a => Pk (j σ) fun k => Put2 σ x w a k N) : Psk (ZbB x [] f (Zcx Za0 i) j σ) R N := by
 obtain ⟨w, e, a, e1, k, e2, ts, us, l, m, rfl, rfl, h1, h0, h4, h2, h3, q⟩ := h
 refine ⟨none, _, ?_, by simp, fun _ => q⟩
 have hl := (Zz6.mp h4).1
 simp only [ZbB, Za0, Zcx, Option.bind_some, e, e1, e2, h1, List.nil_append, Zcn, Ze3, Zdy h0 (show l < ts.length by omega), h4]
 rw [if_pos ⟨h2, h3⟩]
 simp only [Option.map_some, ZgW]
theorem Zs2 {i j : Nat} {t : T} {o : Option T} (h : j ≠ i) (e : σ j = o) : ZZ σ i t j = o := by simp [ZZ, h, e]
theorem ZrW {j : Nat} {J : List Nat} {o : Option T} (h : j ∉ J) (e : σ j = o) : Zcq σ J j = o := by simp [Zcq, h, e]
end
end TM
end
section
set_option maxRecDepth 100000
set_option linter.all false
set_option autoImplicit false
namespace TM
open PySem PM
inductive Pln : Nat → T → Prop where
 | none {n : Nat} : Pln n .none
 | int {n : Nat} {i : Int} : Pln n (.int i)
 | str {n : Nat} {x : Str} : PyData.strOk x = true → Pln n (.str x)
 | tup {n : Nat} {ts : List T} : (∀ t ∈ ts, Pln n t) → Pln (n + 1) (.tup ts)
 | lst {n : Nat} {ts : List T} : (∀ t ∈ ts, Pln n t) → Pln (n + 1) (.lst ts)
mutual
noncomputable def dd : T → PyData
 | .none => .none
 | .bool b => .bool b
 | .int i => .int i
 | .str x => .str x
 | .tup ts => .tuple (dds ts)
 | .lst ts => .list (dds ts)
noncomputable def dds : List T → List PyData
 | [] => []
 | t :: ts => dd t :: dds ts
end
theorem ZkT {f : T → Option PyData} : ∀ {ts : List T}, (∀ t ∈ ts, f t = some (dd t)) → Zeg f ts = some (dds ts)
 | [], _ => rfl
 | t :: ts, h => by simp only [Zeg, h t Zz5, ZkT fun t m => h t (Zz2 _ m), Option.bind_some, dds]
theorem Zli : ∀ {ts : List T}, (∀ t ∈ ts, PyData.canLay0 (dd t) = true) → PyData.canLayAll0 (dds ts) = true
 | [], _ => rfl
 | t :: ts, h => by simp only [dds, PyData.canLayAll0, h t Zz5, Zli fun t m => h t (Zz2 _ m), Bool.and_self]
theorem Zlj {n : Nat} : ∀ {ts : List T}, (∀ t ∈ ts, PyData.depth (dd t) ≤ n) → PyData.depthAll (dds ts) ≤ n
 | [], _ => by simp [dds, PyData.depthAll]
 | t :: ts, h => by
  have h1 := h t Zz5
  have h2 := Zlj fun t m => h t (Zz2 _ m)
  simp only [dds, PyData.depthAll]
  omega
theorem Pln.dat {n : Nat} {t : T} (h : Pln n t) : ZcC n t = some (dd t) ∧ PyData.canLay0 (dd t) = true ∧ PyData.depth (dd t) ≤ n := by
 induction h with
 | @none n => cases n <;> exact ⟨rfl, rfl, by simp [dd, PyData.depth]⟩
 | @int n i => cases n <;> exact ⟨rfl, rfl, by simp [dd, PyData.depth]⟩
 | @str n x h => cases n <;> exact ⟨rfl, by simpa [dd, PyData.canLay0] using h, by simp [dd, PyData.depth]⟩
 | @tup n ts _ ih =>
  refine ⟨?_, ?_, ?_⟩
  ·simp only [ZcC, ZkT fun t m => (ih t m).1, Option.map_some, dd]
  ·simp only [dd, PyData.canLay0]; exact Zli fun t m => (ih t m).2.1
  ·simp only [dd, PyData.depth]
   have := Zlj fun t m => (ih t m).2.2
   omega
 | @lst n ts _ ih =>
  refine ⟨?_, ?_, ?_⟩
  ·simp only [ZcC, ZkT fun t m => (ih t m).1, Option.map_some, dd]
  ·simp only [dd, PyData.canLay0]; exact Zli fun t m => (ih t m).2.1
  ·simp only [dd, PyData.depth]
   have := Zlj fun t m => (ih t m).2.2
   omega
theorem Zlk : ∀ {ts us : List T}, (∀ t ∈ ts, ∀ u ∈ us, (PyData.eqv (dd t) (dd u) = true ↔ t = u)) → (PyData.eqvAll (dds ts) (dds us) = true ↔ ts = us)
 | [], [], _ => by simp [dds, PyData.eqvAll]
 | [], _ :: _, _ => by simp [dds, PyData.eqvAll]
 | _ :: _, [], _ => by simp [dds, PyData.eqvAll]
 | t :: ts, u :: us, h => by
  simp only [dds, PyData.eqvAll, Bool.and_eq_true, h t Zz5 u Zz5, Zlk fun t m u n => h t (Zz2 _ m) u (Zz2 _ n), List.cons.injEq]
theorem Pln.eqv {n : Nat} {t : T} (h : Pln n t) : ∀ {m : Nat} {u : T}, Pln m u → (PyData.eqv (dd t) (dd u) = true ↔ t = u) := by
 induction h with
 | none => intro m u h; cases h <;> simp [dd, PyData.eqv]
 | int => intro m u h; cases h <;> simp [dd, PyData.eqv]
 | str _ => intro m u h; cases h <;> simp [dd, PyData.eqv]
 | tup hs ih =>
  intro m u h
  cases h with
  | tup hu => simp only [dd, PyData.eqv, T.tup.injEq]; exact Zlk fun t a u b => ih t a (hu u b)
  | none => simp [dd, PyData.eqv]
  | int => simp [dd, PyData.eqv]
  | str => simp [dd, PyData.eqv]
  | lst => simp [dd, PyData.eqv]
 | lst hs ih =>
  intro m u h
  cases h with
  | lst hu => simp only [dd, PyData.eqv, T.lst.injEq]; exact Zlk fun t a u b => ih t a (hu u b)
  | none => simp [dd, PyData.eqv]
  | int => simp [dd, PyData.eqv]
  | str => simp [dd, PyData.eqv]
  | tup => simp [dd, PyData.eqv]
theorem Pln.mono {n : Nat} {t : T} (h : Pln n t) : ∀ {m : Nat}, n ≤ m → Pln m t := by
 induction h with
 | none => intro m _; exact .none
 | int => intro m _; exact .int
 | str h => intro m _; exact .str h
 | tup hs ih =>
  intro m hm
  cases m with
  | zero => omega
  | succ m => exact .tup fun t a => ih t a (by omega)
 | lst hs ih =>
  intro m hm
  cases m with
  | zero => omega
  | succ m => exact .lst fun t a => ih t a (by omega)
theorem ZnB {n m : Nat} {a b : T} (ha : Pln n a) (hb : Pln m b) (hn : n ≤ 8 := by decide) (hm : m ≤ 8 := by decide) : ZdU a b = some (dec (a = b)) := by
 have ha := ha.mono hn
 have hb := hb.mono hm
 obtain ⟨a1, a2, a3⟩ := ha.dat
 obtain ⟨b1, b2, b3⟩ := hb.dat
 unfold ZdU ZbN
 rw [a1, b1]
 simp only [Option.bind_some]
 rw [if_pos ⟨by simp only [SeqAt.shaped, a2, Bool.true_and, decide_eq_true_eq]; omega, by simp only [SeqAt.shaped, b2, Bool.true_and, decide_eq_true_eq]; omega⟩, Zlw (ha.eqv hb)]
section
variable {Q : T → Prop}
theorem ZfL {n m : Nat} {a b : T} (ha : Pln n a) (hb : Pln m b) (h : Q (.bool (dec (a = b)))) (hn : n ≤ 8 := by decide) (hm : m ≤ 8 := by decide) : Pk (qEq a b) Q := ⟨_, by simp only [qEq, ZnB ha hb hn hm, Option.map_some], h⟩
theorem Zod {n m : Nat} {a b : T} (ha : Pln n a) (hb : Pln m b) (h : Q (.bool (!dec (a = b)))) (hn : n ≤ 8 := by decide) (hm : m ≤ 8 := by decide) : Pk (qNe a b) Q := ⟨_, by simp only [qNe, ZnB ha hb hn hm, Option.map_some], h⟩
end
theorem ZdN {α : Type} {n : Nat} {f : Nat → α} {x : α} (h : x ∈ tab n f) : ∃ i, i < n ∧ x = f i := by
 obtain ⟨i, hi, e⟩ := List.mem_map.mp h
 exact ⟨i, List.mem_range.mp hi, e.symm⟩
theorem ZmI {n : Nat} {f : Nat → T} (h : ∀ i, i < n → (f i).flat = true) : T.flats (tab n f) = true := by
 have key : ∀ l : List T, (∀ t ∈ l, t.flat = true) → T.flats l = true := fun l => by
  induction l with
  | nil => intro _; rfl
  | cons t l ih => intro h; simp only [T.flats, h t Zz5, ih fun t m => h t (Zz2 _ m), Bool.and_self]
 exact key _ fun t m => by obtain ⟨i, hi, rfl⟩ := ZdN m; exact h i hi
theorem Zmu {n : Nat} {f : Nat → T} (h : ∀ i, i < n → (f i).flat = true) : T.flatIn (.lst (tab n f)) = true := ZmI h
noncomputable def oT : Option Int → T
 | none => .none
 | some x => .int x
noncomputable def Z4 (q : Int × Int) : T := .tup [.int q.1, .int q.2]
noncomputable def ZdW (n : Nat) (x : Nat → Int) : T := .lst (tab n fun i => .int (x i))
noncomputable def Zar (n : Nat) (b : Nat → Option Int) : T := .lst (tab n fun j => oT (b j))
noncomputable def Zag (n : Nat) (G : Nat → Nat → Option Int) : T := .lst (tab n fun i => Zar n (G i))
noncomputable def ZaT (n : Nat) (R : Nat → Int × Int) : T := .lst (tab n fun i => Z4 (R i))
noncomputable def Z3 (n : Nat) (G : Nat → Nat → Option Int) (R : Nat → Int × Int) : T := .tup [Zag (n + 1) G, ZaT n R]
theorem ZbI : oT none = .none := rfl
theorem ZaD {c : Int} : oT (some c) = .int c := rfl
theorem Zhn {b : Option Int} : (oT b).flat = true := by cases b <;> rfl
theorem Zg7 {q : Int × Int} : (Z4 q).flat = true := rfl
theorem oT_inj {a b : Option Int} : oT a = oT b ↔ a = b := by cases a <;> cases b <;> simp [oT]
theorem ZeW {n k : Nat} {f : Nat → T} (h : ∀ i, i < k → Pln n (f i)) : Pln (n + 1) (.lst (tab k f)) := .lst fun t m => by obtain ⟨i, hi, rfl⟩ := ZdN m; exact h i hi
theorem Zf0 {n : Nat} {b : Option Int} : Pln n (oT b) := by cases b; exact .none; exact .int
theorem Zoe {n : Nat} {q : Int × Int} : Pln (n + 1) (Z4 q) := .tup fun t m => by
 simp at m; rcases m with rfl | rfl <;> exact .int
theorem ZnC {n : Nat} {b : Nat → Option Int} : Pln 1 (Zar n b) := ZeW fun _ _ => Zf0
theorem ZrX {n : Nat} {G : Nat → Nat → Option Int} : Pln 2 (Zag n G) := ZeW fun _ _ => ZnC
theorem ZrY {n : Nat} {R : Nat → Int × Int} : Pln 2 (ZaT n R) := ZeW fun _ _ => Zoe
theorem Zg8 {n : Nat} {G : Nat → Nat → Option Int} {R : Nat → Int × Int} : Pln 3 (Z3 n G R) := .tup fun t m => by
 simp at m; rcases m with rfl | rfl
 ·exact ZrX
 ·exact ZrY
theorem Zb0 {σ : TL} {i : Nat} {t : T} : ZZ σ i t i = some t := by simp [ZZ]
end TM
end
section
set_option maxRecDepth 100000
set_option linter.all false
set_option autoImplicit false
namespace PM
open PySem PySem.W PySem.Calls PyProof.Rows PyProof PyProof.Rows.LCg PyProof.Rows.LCp
noncomputable def sNo : Sm := fun _ _ => none
noncomputable def inD (d : PyData) : PyData → Option Bool
 | .list xs => if PyData.canLayAll0 xs = true ∧ d.canLay0 = true ∧ d.depth ≤ 64 then some (xs.any fun y => PyData.eqv y d) else none
 | .tuple xs => if PyData.canLayAll0 xs = true ∧ d.canLay0 = true ∧ d.depth ≤ 64 then some (xs.any fun y => PyData.eqv y d) else none
 | _ => none
noncomputable def ZlV (a b : V) (H : Hp) : Option Bool := (toD H ZbN a).bind fun d => (toD H ZbN b).bind fun e => inD d e
noncomputable def oIn (a b : V) (H : Hp) : Option (V × Hp) := (ZlV a b H).map fun c => (.bool c, H)
noncomputable def ZfM (a : Nat) : Nx := fun i H => H[a]?.bind fun vs => match vs[i]? with
 | some x => some (some (.tup [.int i, x]))
 | none => if i = vs.length then some none else none
noncomputable def ZhM (f : Ex) : Src := fun ρ H => (f ρ H).bind fun p => match p.1 with
 | .ref a => p.2[a]?.map fun vs => (ZfM a, vs.length + 1, p.2)
 | _ => none
section
variable {prog : Program} {w : World} {Γ : Cx}
theorem ZuA {st : Stmt} : S1 prog w Γ st sNo := fun W ρ H fr s Q E r rp hf post => by cases hf
theorem ZhN : Op2 prog w (compareOp .In) oIn := by
 intro Γ W ρ H fr s Q E a b x y v H' r hx hy ho post
 obtain ⟨c, e1, e2⟩ := Zz1.mp ho
 cases e2
 obtain ⟨d, h1, e1⟩ := Zz0.mp e1
 obtain ⟨e, h2, e1⟩ := Zz0.mp e1
 obtain ⟨as, R1⟩ := ZeG r ZbN a x d hx h1
 obtain ⟨bs, R2⟩ := ZeG r ZbN b y e hy h2
 have hu := Γ.hu
 unfold inD at e1
 split at e1
 ·split at e1
  ·rename_i hs
   cases e1
   exact SeqAt.in_list_reads R2 R1 hs.1 hs.2.1 (by omega) (post W s.heap s.toks _ (.refl W) r (.bool _))
  ·cases e1
 ·split at e1
  ·rename_i hs
   cases e1
   exact SeqAt.in_tuple_reads R2 R1 hs.1 hs.2.1 (by omega) (post W s.heap s.toks _ (.refl W) r (.bool _))
  ·cases e1
 ·cases e1
noncomputable def ES (e it l : Addr) (i : Nat) (h : Heap) : Prop := (∃ old, IsEnum h e it i old) ∧ h.IsListIter it l i
theorem ES.at {e it l : Addr} {i : Nat} {h h' : Heap} (x : ES e it l i h) (k : ∀ a ∈ [e, it], ∀ o, h.get? a = some o → h'.get? a = some o) : ES e it l i h' := by
 obtain ⟨⟨old, h1⟩, h2⟩ := x
 exact ⟨⟨old, k e (by simp) _ h1⟩, h2.at fun o x => k it (by simp) o x⟩
theorem ES.have {e it l : Addr} {i : Nat} {h : Heap} (x : ES e it l i h) : ∀ a ∈ [e, it], ∃ o, h.get? a = some o := by
 obtain ⟨⟨old, h1⟩, o, h2, _⟩ := x
 intro a ha
 simp at ha
 rcases ha with rfl | rfl
 ·exact ⟨_, h1⟩
 ·exact ⟨_, h2⟩
noncomputable def EIt (e it l : Addr) (i : Nat) (fs : List (Addr × Obj)) : Prop := fs.map (·.1) = [e, it] ∧ ∀ h : Heap, (∀ q ∈ fs, h.get? q.1 = some q.2) → ES e it l i h
theorem ZnD {e it l : Addr} {i : Nat} {h : Heap} (x : ES e it l i h) : ∃ fs, EIt e it l i fs ∧ ∀ q ∈ fs, h.get? q.1 = some q.2 := by
 obtain ⟨fs, h1, h2⟩ := ZlT h [e, it] x.have
 refine ⟨fs, ⟨h1, fun h' k => x.at fun a ha o ho => ?_⟩, h2⟩
 rw [← h1] at ha
 obtain ⟨q, hq, eq⟩ := List.mem_map.mp ha
 have := h2 q hq
 rw [eq, ho] at this
 cases this
 exact eq ▸ k q hq
theorem Zs3 {W0 : Wd} {e it l : Addr} {a : Nat} (ea : W0.pi[a]? = some l) (hei : e ≠ it) (hle : l ≠ e) (hli : l ≠ it) :
  Itr2 prog w Γ W0 (.ref e) [e, it] (EIt e it l) (ZfM a) := by
 refine ⟨fun i fs h => h.1, ?_, ?_, ?_, ?_⟩
 ·intro i H v hh
  obtain ⟨vs, e1, hh⟩ := Zz0.mp hh
  split at hh
  ·cases hh
   exact ⟨_, _, rfl⟩
  ·split at hh <;> cases hh
 ·intro i W ρ H fr fs s Q E va vb le r ap hit hn post
  obtain ⟨vs, e1, hh⟩ := Zz0.mp hn
  have hv : va = .int i ∧ vs[i]? = some vb := by
   split at hh
   ·rename_i x h1
    cases hh
    exact ⟨rfl, h1⟩
   ·split at hh <;> cases hh
  obtain ⟨_, xs, k1, g1, v1⟩ := r.at e1 (le.at ea)
  obtain ⟨x, hx, rx⟩ := v1.at hv.2
  have st : ES e it l i s.heap := hit.2 _ fun q hq => r.frAt (Zz4 _ hq)
  have Wk := WalksT.enumerate (prog := prog) (w := w) (A := Γ.A) Γ.hh e it l hei hle hli xs.toArray
  have isl1 : s.heap.IsList l xs.toArray := ⟨_, g1, rfl, k1, rfl⟩
  have hi : i < xs.toArray.size := by
   have h1 := (Zz6.mp hx).1
   simpa using h1
  refine Wk.item i s Q E hi ⟨st.1, st.2, isl1⟩ fun T vals h1 t1 hp hT hTup hmid keep1 => post T h1 t1 ?_
  intro elts k pos s1 Q1 E1 es1 q1
  subst es1
  have hTw := Wk.apart i T _ hmid
  refine Wk.go elts k pos i T _ Q1 E1 hmid fun h2 st2 keep2 => ?_
  obtain ⟨tk, x', hx', ev⟩ := hp
  have ex : x' = x := by
   have : xs[i]? = some x' := by simpa using hx'
   rw [hx] at this
   exact (Option.some.inj this).symm
  subst ex ev
  obtain ⟨fs', hit', at'⟩ := ZnD (h := h2) (⟨st2.1, st2.2.1⟩ : ES e it l (i + 1) h2)
  obtain ⟨oT, gT, cT, nT, dT⟩ := hTup
  refine q1 fs' h2 (.int i tk) x' hit' ?_ ⟨oT, keep2 T oT hTw gT, cT, nT, dT⟩ (by rw [hv.1]; exact .int _ _) rx
  refine r.swap (fs' := fs') (fun q hq t ht => ?_) (fun c o hc e => ?_) fun q hq => ⟨at' q hq, ?_⟩
  ·exact ap _ (hit.1 ▸ List.mem_map_of_mem hq) t ht
  ·rw [hit.1] at hc
   exact keep2 c o hc (keep1 c o hc e)
  ·rw [hit.1, ← hit'.1]
   exact List.mem_map_of_mem hq
 ·intro i W ρ H fr fs s Q E le r ap hit hn post
  obtain ⟨vs, e1, hh⟩ := Zz0.mp hn
  obtain ⟨_, xs, k1, g1, v1⟩ := r.at e1 (le.at ea)
  have hi : i = vs.length := by
   split at hh
   ·cases hh
   ·split at hh
    ·assumption
    ·cases hh
  have st : ES e it l i s.heap := hit.2 _ fun q hq => r.frAt (Zz4 _ hq)
  have Wk := WalksT.enumerate (prog := prog) (w := w) (A := Γ.A) Γ.hh e it l hei hle hli xs.toArray
  have hm : xs.toArray.size = i := by simp [v1.length, hi]
  refine Wk.done s Q E (by rw [hm]; exact ⟨st.1, st.2, ⟨_, g1, rfl, k1, rfl⟩⟩) fun h' tk keep => post h' tk ?_
  have := r.swap (fs' := []) (fun q hq t ht => ap _ (hit.1 ▸ List.mem_map_of_mem hq) t ht) (fun c o hc e => keep c o (by rw [hit.1] at hc; exact hc) e) (fun q hq => nomatch hq)
  exact this
 ·intro i W ρ H fr fs s Q E o le r hit hn q
  obtain ⟨vs, e1, hh⟩ := Zz0.mp hn
  obtain ⟨_, xs, k1, g1, v1⟩ := r.at e1 (le.at ea)
  have st : ES e it l i s.heap := hit.2 _ fun q hq => r.frAt (Zz4 _ hq)
  have Wk := WalksT.enumerate (prog := prog) (w := w) (A := Γ.A) Γ.hh e it l hei hle hli xs.toArray
  exact Wk.self i s Q E ⟨st.1, st.2, ⟨_, g1, rfl, k1, rfl⟩⟩ q
theorem ZrZ {x : Str} {np pos : Pos} {e1 : Expr} {f : Ex} (hn : Nm prog w Γ x (.type "enumerate")) (h1 : J prog w Γ e1 f)
  (he : starEach [e1] Γ.env = (false, eval e1 Γ.env) :: starEach [] Γ.env := by rfl) (hp : ∀ pos, (backTo pos (starEach [] Γ.env)).any (·.1) = false := by intro _; rfl) : JI2 prog w Γ (.Call (.Name x np) [e1] [] pos) (ZhM f) := by
 intro W ρ H fr s Q E nx n H' r hf post
 obtain ⟨p, a1, hf⟩ := Zz0.mp hf
 refine wpAny_Call_ofName (hn.use r ?_)
 refine PySem.Pv.callWith_type1 (wpAny_items_cons (h1 W ρ H fr s _ E _ _ r a1 fun W1 k1 t1 y1 l1 r1 v1 => wpAny_items_nil ?_) he) he (hp pos)
 obtain ⟨u1, H1⟩ := p
 simp only at hf v1 r1
 cases u1 <;> first | (cases hf; done) | skip
 rename_i b1
 obtain ⟨vs, c1, c3⟩ := Zz1.mp hf
 cases c3
 cases v1 with
 | @ref _ m1 ea =>
 obtain ⟨_, xs, n1, g1, w1⟩ := r1.at c1 ea
 have isl1 : k1.IsList m1 xs.toArray := ⟨_, g1, rfl, n1, rfl⟩
 refine call_enumerate_list (s := { s with heap := k1, toks := t1 }) isl1 fun h₁ hE hI hsz up => ?_
 have hlt : m1 < k1.objs.size := Heap.lt_size g1
 have Wk := WalksT.enumerate (prog := prog) (w := w) (A := Γ.A) Γ.hh (k1.objs.size + 1) k1.objs.size m1 (Nat.succ_ne_self _) (Nat.ne_of_lt (Nat.lt_succ_of_lt hlt)) (Nat.ne_of_lt hlt) xs.toArray
 have zs : ES (k1.objs.size + 1) k1.objs.size m1 0 h₁ := ⟨⟨_, hE⟩, hI⟩
 refine Wk.self 0 _ _ _ ⟨⟨_, hE⟩, hI, isl1.at fun o e => up _ o e⟩ ?_
 obtain ⟨fs, hit, at'⟩ := ZnD zs
 obtain ⟨r3, ap3⟩ := r1.more (fs := fs) (h' := h₁) (fun b o e => up b o e) (fun q hq => ⟨at' q hq, by
  have : q.1 ∈ fs.map (·.1) := List.mem_map_of_mem hq
  rw [hit.1] at this
  simp at this
  rcases this with e | e <;> rw [e] <;> omega⟩)
 refine post W1 h₁ t1 _ _ _ fs l1 hit r3 (fun b hb t ht => ?_) (Zs3 ea (Nat.succ_ne_self _) (Nat.ne_of_lt (Nat.lt_succ_of_lt hlt)) (Nat.ne_of_lt hlt)) ?_
 ·rw [← hit.1] at hb
  obtain ⟨q, hq, e⟩ := List.mem_map.mp hb
  exact e ▸ ap3 q hq t ht
 ·simp only [ZfM, c1, Option.bind_some]
  cases q : vs[0]? with
  | some x => exact ⟨_, rfl⟩
  | none =>
   have : vs.length = 0 := by simpa using q
   simp [this]
end
end PM
end
section
set_option maxRecDepth 100000
set_option linter.all false
set_option autoImplicit false
namespace TM
open PySem PM
noncomputable def Zf8 (a b : T) : Option Bool := (ZcC ZbN a).bind fun d => (ZcC ZbN b).bind fun e => inD d e
noncomputable def qIn (a b : T) : Option T := (Zf8 a b).map .bool
theorem Zt9 {H : Hp} {v1 v2 : V} {t1 t2 : T} {F1 F2 : List Nat} (r1 : RF H v1 t1 F1) (r2 : RF H v2 t2 F2) : ZlV v1 v2 H = Zf8 t1 t2 := by
 simp only [ZlV, Zf8, ZhB ZbN _ _ _ r1, ZhB ZbN _ _ _ r2]
theorem Zf9 : OA2 oIn qIn := fun H v1 v2 t1 t2 t F1 F2 r1 r2 h => by
 obtain ⟨c, h1, h⟩ := Zz1.mp h
 subst h
 exact ⟨_, by simp only [oIn, Zt9 r1 r2, h1, Option.map_some], .bool _⟩
theorem Zof {d : T} : ∀ {ts : List T}, (∀ t ∈ ts, (PyData.eqv (dd t) (dd d) = true ↔ t = d)) → ((dds ts).any fun y => PyData.eqv y (dd d)) = dec (d ∈ ts)
 | [], _ => by simp [dds, Zb9]
 | t :: ts, h => by
  have ih := Zof (d := d) (ts := ts) fun t m => h t (Zz2 _ m)
  simp only [dds, List.any_cons, ih]
  symm
  apply Zlw
  rw [Bool.or_eq_true, h t Zz5, dec_iff]
  simp [eq_comm]
theorem Zua {n m : Nat} {a : T} {ts : List T} (ha : Pln n a) (hb : Pln m (.lst ts)) (hn : n ≤ 8 := by decide) (hm : m ≤ 8 := by decide) : Zf8 a (.lst ts) = some (dec (a ∈ ts)) := by
 have ha := ha.mono hn
 have hb := hb.mono hm
 obtain ⟨a1, a2, a3⟩ := ha.dat
 obtain ⟨b1, b2, b3⟩ := hb.dat
 unfold Zf8 ZbN
 rw [a1, b1]
 simp only [Option.bind_some, dd, inD]
 simp only [dd, PyData.canLay0] at b2
 rw [if_pos ⟨b2, a2, by omega⟩, Zof]
 intro t m
 cases hb with
 | lst hs => exact (hs t m).eqv ha
section
variable {Q : T → Prop}
theorem ZhO {n m : Nat} {a : T} {ts : List T} (ha : Pln n a) (hb : Pln m (.lst ts)) (h : Q (.bool (dec (a ∈ ts)))) (hn : n ≤ 8 := by decide) (hm : m ≤ 8 := by decide) : Pk (qIn a (.lst ts)) Q := ⟨_, by simp only [qIn, Zua ha hb hn hm, Option.map_some], h⟩
end
noncomputable def Zei (ts : List T) : List T := List.zipWith (fun i t => .tup [.int (i : Nat), t]) (List.range ts.length) ts
noncomputable def ZhP (p : PE) : PG := fun σ => (p σ).bind fun t => match t with
 | .lst ts => some (Zei ts)
 | _ => none
theorem Zr0 {ts : List T} : (Zei ts).length = ts.length := by simp [Zei]
theorem Zm7 {H : Hp} : ∀ {vs : List V} {ts : List T} {F : List Nat} (k : Nat), RFs H vs ts F → RFs H (List.zipWith (fun i v => V.tup [.int (i : Nat), v]) (List.range' k ts.length) vs) (List.zipWith (fun i t => T.tup [.int (i : Nat), t]) (List.range' k ts.length) ts) F
 | _, _, _, _, .nil => .nil
 | _, _, _, k, .cons a b => by
  rw [List.length_cons, List.range'_succ]
  have h1 : RF H (V.tup [.int (k : Nat), _]) (T.tup [.int (k : Nat), _]) _ := .tup (.cons (.int _) (.one a))
  simpa using RFs.cons h1 (Zm7 (k + 1) b)
theorem Zs4 {O N : List Nat} {u : Bool} {e : Ex} {p : PE} (x : E O N u e p) : Gs O N (ZhM e) (ZhP p) := fun c ρ σ H Φ ts s h => by
 obtain ⟨t1, h1, h⟩ := Zz0.mp h
 obtain ⟨v, X, F, a1, a2, a3, a4⟩ := x c ρ σ H Φ t1 s h1
 have hlt := a2.lt
 cases a2 with
 | none => cases h
 | bool => cases h
 | int => cases h
 | str => cases h
 | tup => cases h
 | @ref b vs us F' e1 hs =>
  cases h
  have hl := hs.length
  refine ⟨ZfM b, X, List.zipWith (fun i v => V.tup [.int (i : Nat), v]) (List.range us.length) vs, F', b :: F', by simp only [ZhM, a1, Option.bind_some, e1, Option.map_some, Zr0, hl], ?_, fun _ m => List.mem_cons_of_mem _ m, fun a m => ⟨hlt a m, a3 a m⟩, fun K hK i hi => ?_⟩
  ·have := Zm7 0 hs
   unfold Zei
   rw [List.range_eq_range']
   exact this
  ·simp only [ZfM, hK b Zz5, e1, Option.bind_some, List.getElem?_zipWith]
   simp only [List.length_zipWith, List.length_range] at hi
   by_cases q : i < vs.length
   ·rw [List.getElem?_eq_getElem q, List.getElem?_range (by omega)]
   ·rw [List.getElem?_eq_none (by omega), List.getElem?_eq_none (by simp; omega)]
    simp
    omega
theorem Zr1 {n : Nat} {f : Nat → T} : Zei (tab n f) = tab n fun i => .tup [.int (i : Nat), f i] := by
 unfold Zei
 rw [ZaC]
 have : List.range n = tab n fun i => i := by simp [tab]
 rw [this, Zny, Nat.min_self]
section
variable {σ : TL} {L : List T → Prop}
noncomputable def EnP (x : T) (L : List T → Prop) : Prop := ∃ ts, x = .lst ts ∧ L (Zei ts)
theorem Zs5 {f : PE} (h : Pk (f σ) fun t => EnP t L) : Pl (ZhP f σ) L := by
 obtain ⟨t, a, ts, rfl, q⟩ := h; exact ⟨_, by simp only [ZhP, a, Option.bind_some], q⟩
theorem Zs6 {n : Nat} {f : Nat → T} (h : L (TM.tab n fun i => .tup [.int (i : Nat), f i])) : EnP (.lst (TM.tab n f)) L := ⟨_, rfl, by rw [Zr1]; exact h⟩
end
noncomputable def ZhQ (g : PG) (put : T → TL → Option TL) (b : PS) : PS := fun σ => (g σ).bind fun ts => if ts = [] then none else Zet put b σ ts
end TM
end
section
set_option maxRecDepth 100000
set_option linter.all false
set_option autoImplicit false
namespace PM
open PySem PySem.W PySem.Calls PyProof.Rows PyProof
noncomputable def ZfN (o1 o2 : V → V → Hp → Option (V × Hp)) (f g h : Ex) : Ts := fun ρ H => (f ρ H).bind fun p => (g ρ p.2).bind fun q => (o1 p.1 q.1 q.2).bind fun u => (Zcu u.1 u.2).bind fun b => if b then (h ρ u.2).bind fun x => (o2 q.1 x.1 x.2).bind fun y => (Zcu y.1 y.2).map fun c => (c, y.2) else some (false, u.2)
section
variable {prog : Program} {w : World} {Γ : Cx}
theorem Zr2 {e1 e2 e3 : Expr} {op1 op2 : CmpOp} {pos : Pos} {f g h : Ex} {o1 o2 : V → V → Hp → Option (V × Hp)} (h1 : J prog w Γ e1 f) (h2 : J prog w Γ e2 g) (h3 : J prog w Γ e3 h) (k1 : Op2 prog w (compareOp op1) o1) (k2 : Op2 prog w (compareOp op2) o2) (hm : lastMarks [op1, op2] [e2, e3] = false := by with_unfolding_all rfl) : JT prog w Γ (.Compare e1 [op1, op2] [e2, e3] pos) (ZfN o1 o2 f g h) := by
 intro W ρ H fr s Q E b H' r hf post
 obtain ⟨p, a1, hf⟩ := Zz0.mp hf
 obtain ⟨q, a2, hf⟩ := Zz0.mp hf
 obtain ⟨u, a3, hf⟩ := Zz0.mp hf
 obtain ⟨c, a4, hf⟩ := Zz0.mp hf
 refine isTrue_chain (h1 W ρ H fr s _ E _ _ r a1 fun W1 n1 t1 x l1 r1 x1 => ?_) hm
 refine test_link (h2 W1 ρ _ fr _ _ E _ _ r1 a2 fun W2 n2 t2 y l2 r2 y2 => ?_)
 refine k1 Γ W2 ρ _ fr _ _ E _ _ x y _ _ r2 (x1.mono l2) y2 a3 fun W3 n3 t3 z l3 r3 z3 => ?_
 refine Zec Γ W3 ρ _ fr _ _ E _ z c r3 z3 a4 fun W4 n4 t4 l4 r4 => ?_
 cases c with
 | false =>
  cases hf
  exact post W4 n4 t4 (((l1.trans l2).trans l3).trans l4) r4
 | true =>
  simp only [if_true] at hf
  obtain ⟨v, a5, hf⟩ := Zz0.mp hf
  obtain ⟨v2, a6, hf⟩ := Zz0.mp hf
  obtain ⟨d, a7, a8⟩ := Zz1.mp hf
  cases a8
  refine test_last (h3 W4 ρ _ fr _ _ E _ _ r4 a5 fun W5 n5 t5 y5 l5 r5 x5 => ?_)
  refine k2 Γ W5 ρ _ fr _ _ E _ _ y y5 _ _ r5 (((y2.mono l3).mono l4).mono l5) x5 a6 fun W6 n6 t6 z6 l6 r6 x6 => ?_
  exact Zec Γ W6 ρ _ fr _ _ E _ z6 b r6 x6 a7 fun W7 n7 t7 l7 r7 => post W7 n7 t7 ((((((l1.trans l2).trans l3).trans l4).trans l5).trans l6).trans l7) r7
end
end PM
end
section
set_option maxRecDepth 100000
set_option linter.all false
set_option autoImplicit false
namespace TM
open PySem PM
section
variable {O N M K : List Nat} {u u' u'' : Bool}
noncomputable def ZfO (q1 q2 : T → T → Option T) (p1 p2 p3 : PE) : PB := fun σ => (p1 σ).bind fun x => (p2 σ).bind fun y => (q1 x y).bind fun z => (ZbJ z).bind fun b => if b then (p3 σ).bind fun v => (q2 y v).bind ZbJ else some false
theorem Zr3 {e1 e2 e3 : Ex} {p1 p2 p3 : PE} {q1 q2 : T → T → Option T} {o1 o2 : V → V → Hp → Option (V × Hp)} (k1 : OA2 o1 q1) (k2 : OA2 o2 q2) (x : E O N u e1 p1) (y : E O M u' e2 p2) (z : E O K u'' e3 p3) : Bt O (ZfN o1 o2 e1 e2 e3) (ZfO q1 q2 p1 p2 p3) := fun c ρ σ H Φ b s h => by
 obtain ⟨t1, h1, h⟩ := Zz0.mp h
 obtain ⟨t2, h2, h⟩ := Zz0.mp h
 obtain ⟨t3, h3, h⟩ := Zz0.mp h
 obtain ⟨b0, h4, h⟩ := Zz0.mp h
 obtain ⟨v1, X, F, a1, a2, _, _⟩ := x c ρ σ H Φ t1 s h1
 obtain ⟨v2, Y, G, b1, b2, _, _⟩ := y c ρ σ (H ++ X) Φ t2 (s.ext X) h2
 obtain ⟨v3, c1, c2⟩ := k1 _ v1 v2 t1 t2 t3 F G (a2.ext Y) b2 h3
 have d1 := ZdK c2 h4
 cases b0 with
 | false =>
  cases h
  exact ⟨X ++ Y, by simp only [ZfN, a1, b1, Option.bind_some, c1, d1]; simp⟩
 | true =>
  simp only [if_true] at h
  obtain ⟨t5, h5, h⟩ := Zz0.mp h
  obtain ⟨t6, h6, h⟩ := Zz0.mp h
  obtain ⟨v5, Z, F5, e1, e2, _, _⟩ := z c ρ σ (H ++ X ++ Y) Φ t5 ((s.ext X).ext Y) h5
  obtain ⟨v6, f1, f2⟩ := k2 _ v2 v5 t2 t5 t6 G F5 (b2.ext Z) e2 h6
  have g1 := ZdK f2 h
  exact ⟨X ++ Y ++ Z, by simp only [ZfN, a1, b1, Option.bind_some, c1, d1, if_true, e1, f1, g1, Option.map_some]; simp⟩
end
theorem Zub {O O1 R J Ns : List Nat} {fr : Bool} {g : Src} {q : PG} {put : V → Lc → Option Lc} {pput : T → TL → Option TL} {b : Sm} {qb : PS} (hg : Gs O Ns g q) (hj : PutOk O J put pput) (hj1 : PutOk O1 J put pput) (hJ : ∀ i ∈ J, i ∉ O) (hJ1 : ∀ i ∈ J, i ∉ O1) (hN : ∀ i ∈ Ns, i ∉ O) (hb : S O O1 R fr b qb) (hb1 : S O1 O1 R fr b qb) : S O O1 R fr (ZaY g put b) (ZhQ q pput qb) := fun c ρ σ H Φ r s h => by
 obtain ⟨ts, h1, h⟩ := Zz0.mp h
 obtain ⟨nx, X, vs, F, G, g1, g2, g3, g4, g5⟩ := hg c ρ σ H Φ ts s h1
 split at h
 ·cases h
 ·rename_i hne
  cases ts with
  | nil => exact absurd rfl hne
  | cons t rs =>
   cases g2 with
   | @cons v _ F1 ws _ F2 a b' =>
   have sx := s.ext X
   have hsrc : ∀ a ∈ G, c.H0.length ≤ a ∨ c.P a := fun a m => s.from_src (g4 a m).2
   have hoff : ∀ a ∈ G, ¬ ZcD O σ Φ a := fun a m ⟨k, hk, ⟨t, e⟩, q⟩ => s.from_off hN (g4 a m).2 hk e q
   obtain ⟨σ1, p0, h⟩ := Zz0.mp h
   obtain ⟨r1, h2, h⟩ := Zz0.mp h
   obtain ⟨ρ1, Φ1, p1, s1, p3, p4⟩ := hj c ρ σ (H ++ X) Φ v t F1 σ1 sx a (fun x m => hsrc x (g3 x (Zz4 _ m))) (fun k hk t' e x m q => hoff x (g3 x (Zz4 _ q)) ⟨k, hk, ⟨t', e⟩, m⟩) p0
   have hh : ∀ x, ZcD O σ1 Φ1 x → ZcD O σ Φ x := fun x ⟨k, hk, ⟨t', e⟩, m⟩ => by
    obtain ⟨q1, q2⟩ := p3 k fun q => hJ k q hk
    exact ⟨k, hk, ⟨t', q1 ▸ e⟩, q2 ▸ m⟩
   obtain ⟨ρ2, K2, Φ2, w1, w2, w3⟩ := hb c ρ1 σ1 (H ++ X) Φ1 r1 s1 h2
   have e0 : nx 0 (H ++ X) = some (some v) := by have := g5 (H ++ X) (fun _ _ => rfl) 0 (Nat.zero_le _); simpa using this
   have estep : ZaY g put b ρ H = (b ρ1 (H ++ X)).bind fun q => match q.1 with
     | some _ => some q
     | none => Zdf nx put b (rs.length + 1) 1 q.2.1 q.2.2 := by
    simp only [ZaY, g1, Option.bind_some, List.length_cons]
    show (nx 0 (H ++ X)).bind _ = _
    rw [e0]
    first | (simp only [Option.bind_some, p1]; done) | (simp only [Option.bind_some, p1]; rfl)
   rw [estep]
   refine Aft.grow (X := X) ?_
   rcases w3 with ⟨k1, k2, k3, k4⟩ | ⟨t', v', F', k1, k2, k3⟩
   ·rw [k1] at h
    have hG2 : ∀ a ∈ G, K2[a]? = (H ++ X)[a]? := fun x m => w2 x (g4 x m).1 fun q => hoff x m (hh x q)
    have hoff2 : ∀ a ∈ G, ¬ ZcD O1 r1.2 Φ2 a := fun x m q => by
     rcases k4 x q with q | q
     ·have := (g4 x m).1; omega
     ·exact hoff x m (hh x q)
    have ih := ZkR hj1 hJ1 hb1 (H1 := H ++ X) (fun a m => (g4 a m).1) hsrc g5 rs ws 1 ρ2 r1.2 K2 Φ2 F2 r (fun j => by rw [Nat.add_comm]; simp) (by simp; omega) k3 w1 hG2 hoff2 (b'.frame fun x m => hG2 x (g3 x (Zz3 _ m))) (fun x m => g3 x (Zz3 _ m)) h
    rw [k2]
    simp only [Option.bind_some]
    obtain ⟨ρ3, K3, Φ3, l1, l2, l3⟩ := ih
    refine ⟨ρ3, K3, Φ3, by omega, fun x hx hn => ?_, ?_⟩
    ·rw [l2 x (by omega) fun q => (k4 x q).elim (fun q => by omega) fun q => hn (hh x q), w2 x hx fun q => hn (hh x q)]
    ·rcases l3 with ⟨m1, m2, m3, m4⟩ | l
     ·refine .inl ⟨m1, m2, m3, fun x q => ?_⟩
      rcases m4 x q with q | q
      ·exact .inl (by omega)
      ·exact (k4 x q).imp id (hh x)
     ·exact .inr l
   ·rw [k1] at h
    cases h
    refine ⟨ρ2, K2, Φ2, w1, fun x hx hn => w2 x hx fun q => hn (hh x q), .inr ⟨t', v', F', k1, ?_, k3⟩⟩
    rw [k2]
    rfl
section
variable {σ : TL} {Q : T → Prop} {B : Bool → Prop} {R : T → Prop} {N : TL → Prop}
theorem Zr4 {q1 q2 : T → T → Option T} {f g h : PE} (k : Pk (f σ) fun x => Pk (g σ) fun y => Pk (q1 x y) fun z => Pb (ZbJ z) fun b => (b = true → Pk (h σ) fun v => Pk (q2 y v) fun w => Pb (ZbJ w) B) ∧ (b = false → B false)) : Pb (ZfO q1 q2 f g h σ) B := by
 obtain ⟨x, a1, y, a2, z, a3, b, a4, k1, k2⟩ := k
 cases b with
 | false => exact ⟨false, by simp [ZfO, a1, a2, a3, a4], k2 rfl⟩
 | true =>
  obtain ⟨v, b1, w, b2, c, b3, q⟩ := k1 rfl
  exact ⟨c, by simp [ZfO, a1, a2, a3, a4, b1, b2, b3], q⟩
theorem Zs7 {g : PG} {j n : Nat} {a : Nat → T} {b : PS} (hn : 0 < n) (hg : Pl (g σ) fun ts => ts = tab n a) (P : Nat → TL → Prop) (h0 : P 0 σ) (h1 : ∀ i σ, i < n → P i σ → Psk (b (ZZ σ j (a i))) R (P (i + 1))) (h2 : ∀ σ, P n σ → N σ) : Psk (ZhQ g (Z5 j) b σ) R N := by
 obtain ⟨o, s, e, q⟩ := ZbL (R := R) (N := N) (b := b) (j := j) hg P h0 h1 h2
 obtain ⟨ts, e1, rfl⟩ := hg
 refine ⟨o, s, ?_, q⟩
 have hne : tab n a ≠ [] := fun h => by have := congrArg List.length h; rw [ZaC] at this; simp at this; omega
 simp only [ZhQ, e1, Option.bind_some, hne, if_false]
 simpa only [ZaO, e1, Option.bind_some] using e
end
end TM
end
section
set_option maxRecDepth 100000
set_option linter.all false
set_option autoImplicit false
namespace TM
open PySem PM
noncomputable def Keep0 (g : Sm) : Prop := ∀ ρ H r, g ρ H = some r → r.2.1 0 = ρ 0
theorem Keep0.next : Keep0 Z2 := fun ρ H r h => by cases h; rfl
theorem Zq6 {e : Ex} : Keep0 (Zcs e) := fun ρ H r h => by
 obtain ⟨_, _, q⟩ := Zz1.mp h
 subst q; rfl
theorem Keep0.ret {e : Ex} : Keep0 (ZH e) := fun ρ H r h => by
 obtain ⟨_, _, q⟩ := Zz1.mp h
 subst q; rfl
theorem Keep0.put {f o i : Ex} : Keep0 (ZbX f o i) := fun ρ H r h => by
 obtain ⟨_, _, h⟩ := Zz0.mp h
 obtain ⟨_, _, h⟩ := Zz0.mp h
 obtain ⟨_, _, h⟩ := Zz0.mp h
 obtain ⟨_, _, q⟩ := Zz1.mp h
 subst q; rfl
theorem Keep0.seq {a b : Sm} (x : Keep0 a) (y : Keep0 b) : Keep0 (Zu a b) := fun ρ H r h => by
 obtain ⟨r1, e1, h⟩ := Zz0.mp h
 have h1 := x ρ H r1 e1
 split at h
 ·cases h; exact h1
 ·exact (y _ _ _ h).trans h1
theorem Zq7 {t : Ts} {a b : Sm} (x : Keep0 a) (y : Keep0 b) : Keep0 (ZV t a b) := fun ρ H r h => by
 obtain ⟨p, _, h⟩ := Zz0.mp h
 split at h
 ·exact x _ _ _ h
 ·exact y _ _ _ h
theorem Keep0.set {i : Nat} {e : Ex} (hi : 0 ≠ i) : Keep0 (ZK i e) := fun ρ H r h => by
 obtain ⟨_, _, q⟩ := Zz1.mp h
 subst q
 simp [upd, hi]
noncomputable def SimM (f : List V → Hp → Option (V × Hp)) (p : List T → Option T) : Prop := ∀ (H : Hp) (v : V) (vs : List V) (t : T) (ts : List T) (t' : T) (F0 F1 : List Nat), 0 < H.length → RF H v t F0 → F0.Nodup → 0 ∉ F0 → RFs H vs ts F1 → (∀ a ∈ F0, a ∉ F1) → p (t :: ts) = some t' →
 ∃ w H' F', f (v :: vs) H = some (w, H') ∧ H.length ≤ H'.length ∧ (∀ a, a < H.length → a ∉ F0 → H'[a]? = H[a]?) ∧ RF H' v t' F' ∧ F'.Nodup ∧ ∀ a ∈ F', H.length ≤ a ∨ a ∈ F0
noncomputable def Zga (n : Nat) (q : PS) : List T → Option T := fun ts => if ts.length = n then (q fun i => ts[i]?).bind fun r => r.2 0 else none
theorem Zs8 {O' : List Nat} {n : Nat} {g : Sm} {q : PS} (h : S [0] O' [0] false g q) (h0 : 0 ∈ O') (hk : Keep0 g) : SimM (Zaa n g) (Zga n q) := fun H v vs t ts t' F0 F1 hp r0 nd n0 rs dj e => by
 unfold Zga at e
 split at e
 ·rename_i hl
  obtain ⟨r1, e1, e2⟩ := Zz0.mp e
  obtain ⟨Φ, hΦ⟩ := rs.slots
  have st : St ⟨H, F0, fun a => a ∈ F0 ∨ a ∈ F1⟩ [0] (fun i => (v :: vs)[i]?) (fun i => (t :: ts)[i]?) H (fun i => match i with | 0 => F0 | i + 1 => Φ i) := by
   refine ⟨fun i u e => ?_, fun i u e a m => ?_, fun i hi u e => ?_, Nat.le_refl _, fun a _ _ => rfl, hp, n0⟩
   ·cases i with
    | zero => simp at e; subst e; exact ⟨v, rfl, r0⟩
    | succ i =>
     simp at e
     obtain ⟨w, h1, h2, _⟩ := hΦ i u e
     exact ⟨w, by simpa using h1, h2⟩
   ·cases i with
    | zero => exact .inr (.inl m)
    | succ i =>
     simp at e
     obtain ⟨w, h1, h2, h3⟩ := hΦ i u e
     exact .inr (.inr (h3 a m))
   ·have : i = 0 := by simpa using hi
    subst this
    refine ⟨nd, fun a m => .inr m, fun j u' hj ej a m => ?_⟩
    cases j with
    | zero => exact absurd rfl hj
    | succ j =>
     simp at ej
     obtain ⟨w, h1, h2, h3⟩ := hΦ j u' ej
     exact fun q => dj a m (h3 a q)
  obtain ⟨ρ', H', Φ', h1, h2, h3⟩ := h _ _ _ _ _ _ st e1
  have hv : (v :: vs).length = n := by rw [← hl]; simp [rs.length]
  have go : ∀ (o : Option V) (O2 : List Nat), 0 ∈ O2 → g (fun i => (v :: vs)[i]?) H = some (o, ρ', H') → St ⟨H, F0, fun a => a ∈ F0 ∨ a ∈ F1⟩ O2 ρ' r1.2 H' Φ' → ∃ w H' F', Zaa n g (v :: vs) H = some (w, H') ∧ H.length ≤ H'.length ∧ (∀ a, a < H.length → a ∉ F0 → H'[a]? = H[a]?) ∧ RF H' v t' F' ∧ F'.Nodup ∧ ∀ a ∈ F', H.length ≤ a ∨ a ∈ F0 := by
   intro o O2 hO eg s2
   obtain ⟨v', ev, rv⟩ := s2.slot 0 t' e2
   have kk := hk _ _ _ eg
   have : v' = v := by
    have k2 : ρ' 0 = some v := kk
    rw [ev] at k2
    cases k2
    rfl
   subst this
   obtain ⟨o1, o2, _⟩ := s2.own 0 hO t' e2
   exact ⟨o.getD .none, H', Φ' 0, by simp only [Zaa, hv, if_true, eg, Option.map_some], h1, s2.keep, rv, o1, o2⟩
  rcases h3 with ⟨k1, k2, k3, k4⟩ | ⟨u, v', F', k1, k2, k3, k4, k5, k6⟩
  ·exact go none O' h0 k2 k3
  ·exact go (some v') [0] List.mem_cons_self k2 k4
 ·cases e
noncomputable def Ze4 (x : Nat) (p : List T → Option T) (ps : PEs) : PS := fun σ => (ps σ).bind fun ts => (σ x).bind fun t => (p (t :: ts)).map fun t' => (none, ZZ σ x t')
section
variable {O O' R N : List Nat} {fr u : Bool}
theorem Zuc {x n : Nat} {f : List V → Hp → Option (V × Hp)} {p : List T → Option T} {es : Exs} {ps : PEs} (hx : x ∈ O) (k : SimM f p) (y : Es O N u n es ps) (hN : x ∉ N) (hO : ∀ j ∈ O', j ∈ O) : S O O' R fr (Zcs (ZB f (Zg (Zb x) es))) (Ze4 x p ps) := fun c ρ σ H Φ r s q => by
 obtain ⟨ts, h1, q⟩ := Zz0.mp q
 obtain ⟨t, h2, q⟩ := Zz0.mp q
 obtain ⟨t', h3, q⟩ := Zz1.mp q
 subst q
 obtain ⟨v, ev, rv⟩ := s.slot x t h2
 obtain ⟨o1, o2, o3⟩ := s.own x hx t h2
 have hlow : ∀ k t, σ k = some t → ∀ a ∈ Φ k, a < H.length := fun k t e a m => by
  obtain ⟨_, _, r⟩ := s.slot k t e
  exact r.lt a m
 obtain ⟨_, vs, X, F, a1, a2, a3, _⟩ := y c ρ σ H Φ ts s h1
 have hp : 0 < (H ++ X).length := by have := s.pos; have := s.len; rw [List.length_append]; omega
 have hlen : (H ++ X).length = H.length + X.length := List.length_append
 have dj : ∀ a ∈ Φ x, a ∉ F := fun a m q => by
  rcases a3 a q with h | ⟨j, hj, ⟨tj, ej⟩, mj⟩
  ·have := hlow x t h2 a m; omega
  ·exact o3 j tj (fun e => hN (e ▸ hj)) ej a m mj
 obtain ⟨w, H', F', b1, b2, b3, b4, b5, b6⟩ := k (H ++ X) v vs t ts t' (Φ x) F hp (rv.ext X) o1 (fun m => Zlg s hx h2 m rfl) a2 dj h3
 have same : ∀ a, a < H.length → a ∉ Φ x → H'[a]? = H[a]? := fun a ha hn => by
  rw [b3 a (by omega) hn, List.getElem?_append_left ha]
 have eg : Zcs (ZB f (Zg (Zb x) es)) ρ H = some (none, ρ, H') := by
  simp only [Zcs, ZB, Zg, Zb, ev, Option.map_some, Option.bind_some, a1, b1]
 refine ⟨ρ, H', Zap Φ x F', by omega, fun a ha hn => same a ha fun m => hn ⟨x, hx, ⟨t, h2⟩, m⟩, .inl ⟨rfl, eg, ⟨fun i u' e => ?_, fun i u' e a m => ?_, fun i hi u' e => ?_, by have := s.len; omega, fun a ha hn => ?_, s.pos, s.f0⟩, fun a hh => ?_⟩⟩
 ·by_cases c1 : i = x
  ·subst c1
   simp only [ZZ, if_true, Option.some.injEq] at e
   subst e
   exact ⟨v, ev, by simpa [Zap] using b4⟩
  ·simp only [ZZ, c1, if_false] at e
   obtain ⟨v2, e2, r2⟩ := s.slot i u' e
   refine ⟨v2, e2, ?_⟩
   simp only [Zap, c1, if_false]
   exact r2.frame fun a m => same a (hlow i u' e a m) fun q => o3 i u' c1 e a q m
 ·by_cases c1 : i = x
  ·subst c1
   simp only [Zap, if_true] at m
   rcases b6 a m with h | h
   ·exact .inl (by have := s.len; omega)
   ·exact s.src i t h2 a h
  ·simp only [ZZ, c1, if_false] at e
   simp only [Zap, c1, if_false] at m
   exact s.src i u' e a m
 ·by_cases c1 : i = x
  ·subst c1
   refine ⟨by simpa [Zap] using b5, fun a m => ?_, fun j u2 hj ej a m => ?_⟩
   ·simp only [Zap, if_true] at m
    rcases b6 a m with h | h
    ·exact .inl (by have := s.len; omega)
    ·exact o2 a h
   ·simp only [Zap, if_true] at m
    simp only [ZZ, hj, if_false] at ej
    simp only [Zap, hj, if_false]
    intro q
    have hq := hlow j u2 ej a q
    rcases b6 a m with h | h
    ·omega
    ·exact o3 j u2 hj ej a h q
  ·simp only [ZZ, c1, if_false] at e
   obtain ⟨q1, q2, q3⟩ := s.own i (hO i hi) u' e
   refine ⟨by simpa [Zap, c1] using q1, fun a m => ?_, fun j u2 hj ej a m => ?_⟩
   ·simp only [Zap, c1, if_false] at m
    exact q2 a m
   ·simp only [Zap, c1, if_false] at m
    by_cases c2 : j = x
    ·subst c2
     simp only [Zap, if_true]
     intro q
     have hm := hlow i u' e a m
     rcases b6 a q with h | h
     ·omega
     ·exact q3 j t hj h2 a m h
    ·simp only [ZZ, c2, if_false] at ej
     simp only [Zap, c2, if_false]
     exact q3 j u2 hj ej a m
 ·have hs := s.keep a ha hn
  rw [same a (by have := s.len; omega) fun m => ?_]
  ·exact hs
  ·rcases o2 a m with h | h
   ·omega
   ·exact hn h
 ·obtain ⟨j, hj, ⟨u', e⟩, m⟩ := hh
  by_cases c1 : j = x
  ·subst c1
   simp only [Zap, if_true] at m
   rcases b6 a m with h | h
   ·exact .inl (by omega)
   ·exact .inr ⟨j, hx, ⟨t, h2⟩, h⟩
  ·simp only [ZZ, c1, if_false] at e
   simp only [Zap, c1, if_false] at m
   exact .inr ⟨j, hO j hj, ⟨u', e⟩, m⟩
end
section
variable {σ : TL} {R : T → Prop} {N : TL → Prop}
theorem Zud {x : Nat} {p : List T → Option T} {ps : PEs} {t : T} (e : σ x = some t) (h : Pl (ps σ) fun ts => Pk (p (t :: ts)) fun t' => N (ZZ σ x t')) : Psk (Ze4 x p ps σ) R N := by
 obtain ⟨ts, e1, t', e2, q⟩ := h
 exact ⟨none, ZZ σ x t', by simp only [Ze4, e1, e, Option.bind_some, e2, Option.map_some], by simp, fun _ => q⟩
theorem Zs9 {n : Nat} {q : PS} {ts : List T} {Q : T → Prop} (hn : ts.length = n) (h : Psk (q fun i => ts[i]?) (fun _ => False) fun σ => ∃ t, σ 0 = some t ∧ Q t) : Pk (Zga n q ts) Q := by
 obtain ⟨o, s, e, h1, h2⟩ := h
 cases o with
 | none =>
  obtain ⟨t, e2, q2⟩ := h2 rfl
  exact ⟨t, by simp only [Zga, hn, if_true, e, Option.bind_some, e2], q2⟩
 | some u => exact absurd (h1 u rfl) (by simp)
end
end TM
end
section
set_option maxRecDepth 100000
set_option linter.all false
set_option autoImplicit false
namespace PM
open PySem PySem.W PySem.Calls PyProof.Rows PyProof PyProof.Rows.LCg PyProof.Rows.LCp
section
variable {prog : Program} {w : World} {Γ : Cx}
theorem ZpK {elt iter : Expr} {x x₂ y : Str} {px px₂ tp py pos spos : Pos} {kt : Nat} {scope : Scope} {cl : List (Str × Addr)} {t t₂ i : Nat} {g : Src} {f : Ex} (hy : Sto prog w Γ y i) (hg : JI2 prog w Γ iter g) (hel : ∀ C ρ, J prog w (Zbk Γ scope cl C [(x, t), (x₂, t₂)] ρ) elt f)
  (hsw : swapsWith (.ListComp elt [⟨.Tuple [.Name x px, .Name x₂ px₂] kt tp, iter, [], 0⟩] scope pos) (some (.Name y py)) spos.line Γ.env = pure true)
  (hclos : closureFor scope Γ.env = pure cl) (hcell : ∀ y ∈ scope.names, y.2 ≠ .cell) (hkind : scope.kind = .function) (hnames : ∀ y ∈ scope.names, y.2 = .local → scope.names.lookup y.1 = some .local) (hx : scope.names.lookup x = some .local) (hx₂ : scope.names.lookup x₂ = some .local) (hxx : x ≠ x₂) (htt : t ≠ t₂) (hs : ∀ x, foldedSetIterable iter Γ.env x = pure x := by intro _; rfl) :
  S1 prog w Γ (.Assign [.Name y py] (.ListComp elt [⟨.Tuple [.Name x px, .Name x₂ px₂] kt tp, iter, [], 0⟩] scope pos) spos) (ZK i (Zaz g (Zca t t₂) Zaq f)) := by
 intro W ρ H fr s Q E r rp hf post
 obtain ⟨p, e0, e9⟩ := Zz1.mp hf
 cases e9
 obtain ⟨z, e1, hf⟩ := Zz0.mp e0
 obtain ⟨q, e2, e3⟩ := Zz1.mp hf
 cases e3
 rw [exec_Assign_Name_used _ _ _ _ hsw]
 refine wpAny_bind (wpAny_standAt (wpAny_bind ?_))
 show wpAny _ Γ.A (do let _ ← comprehension (.ListComp elt [⟨.Tuple [.Name x px, .Name x₂ px₂] kt tp, iter, [], 0⟩] scope pos) scope Γ.env _ (newList []) false (eval iter Γ.env) (some (assign (.Name y py) Γ.env))) _ _ s
 refine wpAny_bind (wpAny_mono (wpAny_comprehension_free (use := some (assign (.Name y py) Γ.env)) (Q := fun _ s' => Q .next s') rfl hs hclos hkind hnames ?_) (fun _ s' h' => wpAny_pure (wpAny_pure h')) fun _ _ e => e)
 refine Zmr (RR := fun acc C => compPost (model prog w) Γ.A E (some (assign (.Name y py) Γ.env)) (fun _ s' => Q .next s') acc C) hg hel hcell hkind hx hx₂ hxx htt rp (q := q) (by rw [e1]; exact e2) fun W2 h' tk' C D oC m₂ ys l2 hC hv hl aD aC cd r3 => ?_
 have r4 : Rep Γ W2 ρ q.2 ((D, lst ys) :: (C, oC) :: fr) h' := r3.less fun t ht => by
  rcases List.mem_cons.mp ht with e | ht
  ·exact e ▸ List.mem_cons_of_mem _ Zz5
  ·rcases List.mem_cons.mp ht with e | ht
   ·exact e ▸ List.mem_cons_self
   ·exact Zz2 _ (Zz2 _ ht)
 obtain ⟨W5, l5, r5, v5⟩ := Zfo r4 (fun t ht => by
  rcases List.mem_cons.mp ht with e | ht
  ·rw [e]
   exact cd.symm
  ·exact aD t ht) hv hl
 refine wpAny_assign_Name (hy W5 ρ _ _ _ _ _ _ _ r5 v5 fun h6 t6 r6 => ?_)
 refine ⟨m₂, hC.ns (r6.frAt (q := (C, oC)) Zz5), fun h'' sb => ?_⟩
 have r7 : Rep Γ W5 (upd ρ i (.ref q.2.length)) (q.2 ++ [q.1]) ([] ++ fr) h'' :=
  Rep.swap (fs := [(C, oC)]) (fs' := []) r6 (fun q hq t ht => by rw [List.mem_singleton.mp hq]; exact aC t ht) (fun b o hb e => sb.extBut b o (fun z => hb (by simp [z])) e) fun q hq => nomatch hq
 exact post W5 h'' t6 (l2.trans l5) r7
end
end PM
end
section
set_option maxRecDepth 100000
set_option linter.all false
set_option autoImplicit false
namespace PM
open PySem PySem.W PySem.Calls PyProof.Rows PyProof
noncomputable def Zc2 (ns : List Int) : List Int := ns.mergeSort fun a b => decide (a ≤ b)
theorem Zm8 {ns ms : List Int} (h1 : ms.Perm ns) (h2 : ms.Pairwise (· ≤ ·)) : ms = Zc2 ns := by
 refine List.Perm.eq_of_pairwise (le := fun a b : Int => a ≤ b) (fun a b _ _ h h' => Int.le_antisymm h h') h2 ?_ (h1.trans (List.mergeSort_perm ns _).symm)
 have := List.pairwise_mergeSort (le := fun a b : Int => decide (a ≤ b)) (fun a b c h h' => by simp at *; omega) (fun a b => by simp; omega) ns
 unfold Zc2
 simpa using this
theorem Zq8 {ns : List Int} : (Zc2 ns).length = ns.length := (List.mergeSort_perm ns _).length_eq
theorem Zll {W : Wd} : ∀ {vs : List V} {xs : List Value} {ks : List Int}, VRs W vs xs → Zdc vs = some ks → IntsAre xs ks := by
 intro vs
 induction vs with
 | nil => intro xs ks h e; cases h; cases e; exact .nil
 | cons v vs ih =>
  intro xs ks h e
  cases h with
  | cons a b =>
   cases v with
   | int i =>
    obtain ⟨js, e1, e2⟩ := Zz1.mp e
    subst e2
    cases a with
    | int _ t => exact .cons i t (ih b e1)
   | none => cases e
   | bool => cases e
   | str => cases e
   | tup => cases e
   | ref => cases e
theorem ZnE {W : Wd} : ∀ {xs : List Value} {ks : List Int}, IntsAre xs ks → VRs W (ks.map V.int) xs
 | _, _, .nil => .nil
 | _, _, .cons n t r => .cons (.int n t) (ZnE r)
noncomputable def ZfH : List V → Hp → Option (V × Hp)
 | [.ref a], H => H[a]?.bind fun vs => (Zdc vs).bind fun ns => if vs.length < 64 then some (.ref H.length, H ++ [(Zc2 ns).map V.int]) else none
 | _, _ => none
section
variable {prog : Program} {w : World}
theorem Zq9 : OpN prog w (fun xs => call (.builtin "sorted") xs) ZfH := by
 intro Γ W ρ H fr s Q E as xs v H' r hx ho post
 unfold ZfH at ho
 split at ho
 ·obtain ⟨vs, e1, ho⟩ := Zz0.mp ho
  obtain ⟨ks, e3, ho⟩ := Zz0.mp ho
  split at ho
  ·rename_i h64
   cases ho
   obtain ⟨x, ex, rx⟩ := hx.one
   subst ex
   cases rx with
   | @ref _ a ea =>
    obtain ⟨hl, ys, k, hg, hv⟩ := r.at e1 ea
    have isl : s.heap.IsList a ys.toArray := ⟨_, hg, rfl, k, rfl⟩
    refine sorted_ints isl (Zll hv e3) (by rw [hv.length]; exact h64) fun out ms a1 a2 a3 => ?_
    have em := Zm8 a2 a3
    subst em
    obtain ⟨q, hq⟩ := sortedAll_at s.heap ys out
    have hlen : ks.length = vs.length := by rw [← hv.length]; exact (Zll hv e3).length.symm
    obtain ⟨r2, ap⟩ := r.more (h' := sortedAll s.heap ys out) (fs := [(s.heap.objs.size + 1, ZbM out.toList q)]) (fun b o hb => sortedAll_old hb) (fun u hu => by
     rw [List.mem_singleton.mp hu]
     refine ⟨?_, Nat.le_succ _⟩
     rw [hq])
    obtain ⟨W2, l2, r3, v3⟩ := Zfo r2 (fun t ht => ap _ Zz5 t ht) (ZnE a1) (by rw [List.length_map, Zq8, hlen]; exact hl)
    exact post W2 _ s.toks _ l2 r3 v3
  ·cases ho
 ·cases ho
end
end PM
namespace PM
open PySem PySem.W PySem.Calls PyProof.Rows PyProof PySem.SeqAt
open SeqRoads2 MeetsSeq3 MeetsSeq2 MeetsSeq AutoSeq1
theorem Zqa (l : Addr) (its : Array Value) (n : Nat) (dd : Option Addr) (sl : Array (Option Value)) (x : Value) (tk : Tok) (e : Value → Bool) (j : Nat) (hj : j < its.size) (h1 : 1 ≤ j) (small : (j : Int) < 2 ^ 63 - 1)
  (hit : e its[j] = true) (no : ∀ m (hm : m < its.size), 1 ≤ m → m < j → e its[m] = false) :
  Meets (Builtin.«list.index» ⟨[.ref l, x, .int 1 tk], []⟩) fun A R s => s.heap.get? l = some { cls := .type "list", dict := dd, data := .seq its n, slots := sl } ∧ (∀ y, y ∈ its → EqAt A.in1 s y x (e y)) ∧ R (.ok (.ret (.int j s.toks))) { s with toks := s.toks + 1 } := by
 intro prog w A R s h
 obtain ⟨hp, g, d, tk', os⟩ := s
 obtain ⟨hq0, he, h⟩ := h
 wp_walk using wpAny_loadPart' hq0
 have b1 : ((fun i : Int => if i < 0 then max 0 (i + (its.size : Int)) else i) ((some (1 : Int)).getD 0)) = ((1 : Nat) : Int) := by simp
 have b2 : ((fun i : Int => if i < 0 then max 0 (i + (its.size : Int)) else i) ((Option.none : Option Int).getD (2 ^ 63 - 1))) = 2 ^ 63 - 1 := by simp
 rw [b1, b2]
 refine ⟨plainId_quiet plain_index_loop _, codeAny_builtin entry_index_loop ?_⟩
 rw [Around.under_plainId plain_index_loop _]; exact index_loopAt l its n dd sl x e (2 ^ 63 - 1) j hj small hit _ 1 rfl h1 no prog w A R _ ⟨hq0, he, h⟩
section
variable {prog : Program} {w : World} {A : Around} {E : Value → Shared → Prop} {s : Shared}
theorem ZpL {l : Addr} {vs : List Value} {ns : List Int} {k : Int} {t t' : Tok} {Q : Value → Shared → Prop} (hl : s.heap.IsList l vs.toArray) (hi : IntsAre vs ns) (hn : ns.length ≤ 100000) (hk : k ∈ ns.drop 1)
  (h : Q (.int ((1 + (ns.drop 1).idxOf k : Nat)) s.toks) { s with toks := s.toks + 1 }) : wpAny (model prog w) A (call (.builtin "list.index") [.ref l, .int k t, .int 1 t']) Q E s := by
 obtain ⟨⟨c0, dd, da, sl⟩, ho, ec, n, ed⟩ := id hl
 simp only at ec ed
 subst ec ed
 have hlen := hi.length
 have hj : (ns.drop 1).idxOf k < (ns.drop 1).length := List.idxOf_lt_length_iff.mpr hk
 have hj' : 1 + (ns.drop 1).idxOf k < ns.length := by rw [List.length_drop] at hj; omega
 refine call_meets PySem.F.slot_list_index ⟨_, ho, rfl⟩ PySem.F.entry_list_index (PySem.F.args_list_index_3 _ _ _) (Zqa l vs.toArray n dd sl (.int k t) t' (isInt k) (1 + (ns.drop 1).idxOf k) (by simpa [hlen] using hj') (by omega) (by omega) ?_ ?_) ⟨ho, fun y hy => (eq_isInt k t hi y (by simpa using hy)).at _ _, h⟩
 ·show isInt k vs[1 + (ns.drop 1).idxOf k] = true
  rw [isInt_at k hi _ (by omega) hj']
  have := List.getElem_idxOf hj
  rw [List.getElem_drop] at this
  simpa using this
 ·intro m hm h1 h2
  show isInt k vs[m] = false
  rw [isInt_at k hi m (by simpa using hm) (by have := hm; simp [hlen] at this; omega)]
  have hm' : m - 1 < (ns.drop 1).length := by rw [List.length_drop]; omega
  have := ne_of_lt_idxOf (k := k) (ns := ns.drop 1) (j := m - 1) (by omega) hm'
  rw [List.getElem_drop] at this
  simpa [show 1 + (m - 1) = m by omega] using this
end
noncomputable def ZhF : V → V → V → Hp → Option (V × Hp)
 | .ref a, .int k, .int b, H => H[a]?.bind fun vs => (Zdc vs).bind fun ns => if b = 1 ∧ k ∈ ns.drop 1 then some (.int ((1 + (ns.drop 1).idxOf k : Nat) : Int), H) else none
 | _, _, _, _ => none
noncomputable def ZfP (f g h : Ex) : Ex := fun ρ H => (f ρ H).bind fun p => (g ρ p.2).bind fun q => (h ρ q.2).bind fun u => ZhF p.1 q.1 u.1 u.2
section
variable {prog : Program} {w : World} {Γ : Cx}
theorem ZpM {a b c : V} {H : Hp} {r : V × Hp} (h : ZhF a b c H = some r) : ∃ i k vs ns, a = .ref i ∧ b = .int k ∧ c = .int 1 ∧ H[i]? = some vs ∧ Zdc vs = some ns ∧ k ∈ ns.drop 1 ∧ r = (.int ((1 + (ns.drop 1).idxOf k : Nat) : Int), H) := by
 unfold ZhF at h
 split at h
 ·obtain ⟨vs, e1, h⟩ := Zz0.mp h
  obtain ⟨ns, e2, h⟩ := Zz0.mp h
  split at h
  ·rename_i q
   cases h
   obtain ⟨rfl, q⟩ := q
   exact ⟨_, _, vs, ns, rfl, rfl, rfl, e1, e2, q, rfl⟩
  ·cases h
 ·cases h
theorem J.index {o e1 e2 : Expr} {apos pos : Pos} {f g k : Ex} (ho : J prog w Γ o f) (h1 : J prog w Γ e1 g) (h2 : J prog w Γ e2 k) (hbase : attributeBase o "index" Γ.env (eval o Γ.env) = eval o Γ.env := by rfl)
  (hline : (apos.endLine == pos.line) = true := by rfl) (htrees : backTo pos (starEach [e1, e2] Γ.env) = [(false, eval e1 Γ.env), (false, eval e2 Γ.env)] := by rfl) (hstay : ∀ ρ H p, f ρ H = some p → ∀ q, g ρ p.2 = some q → p.2 = q.2 := by intro _ _ _ _ _ h; cases h; rfl) (hstay2 : ∀ ρ H p, g ρ H = some p → ∀ q, k ρ p.2 = some q → p.2 = q.2 := by intro _ _ _ _ _ h; cases h; rfl) : J prog w Γ (.Call (.Attribute o "index" apos) [e1, e2] [] pos) (ZfP f g k) := by
 intro W ρ H fr s Q E v H' r hx post
 obtain ⟨p, x1, hx⟩ := Zz0.mp hx
 obtain ⟨q, x2, hx⟩ := Zz0.mp hx
 obtain ⟨u, x3, x4⟩ := Zz0.mp hx
 obtain ⟨i, kk, vs, ns, ea, eb, ec, hvs, hns, hmem, er⟩ := ZpM x4
 refine wpAny_Call_method2_late hbase hline htrees (ho W ρ H fr s _ E _ _ r x1 fun W1 k1 t1 x l1 r1 y1 => ?_)
 rw [ea] at y1
 have s1 := hstay ρ H p x1 q x2
 have s2 := hstay2 ρ p.2 q x2 u x3
 cases y1 with
 | @ref _ a aa =>
 obtain ⟨hl, xs, n, hg, hv⟩ := r1.at (by rw [s1, s2]; exact hvs) aa
 refine ⟨"list", "list.index", PySem.F.plainAttrs_list, PySem.F.slot_list_index, PySem.F.type_list_index, (show k1.IsList a xs.toArray from ⟨_, hg, rfl, n, rfl⟩).typeIs, fun b eb => by cases eb; exact ⟨_, hg, rfl⟩, ?_⟩
 refine Calls.callWith_builtin rfl (Calls.evalArgs_plain (Calls.spliced_cons ?_))
 refine h1 W1 ρ _ fr _ _ E _ _ r1 x2 fun W2 k2 t2 y l2 r2 y2 => Calls.spliced_cons ?_
 refine h2 W2 ρ _ fr _ _ E _ _ r2 x3 fun W3 k3 t3 z l3 r3 z3 => Calls.spliced_nil ?_
 rw [eb] at y2
 rw [ec] at z3
 cases y2 with
 | int _ ty =>
 cases z3 with
 | int _ tz =>
 obtain ⟨hl3, xs3, n3, hg3, hv3⟩ := r3.at hvs (l3.at (l2.at aa))
 rw [Zbc] at hl3
 have hI := Zll hv3 hns
 refine ZpL ⟨_, hg3, rfl, n3, rfl⟩ hI (by rw [← hI.length, hv3.length]; omega) hmem ?_
 have := post W3 k3 (t3 + 1) (.int ((1 + (ns.drop 1).idxOf kk : Nat) : Int) t3) ((l1.trans l2).trans l3)
 cases er
 exact this r3 (.int _ _)
end
end PM
end
section
set_option maxRecDepth 100000
set_option linter.all false
set_option autoImplicit false
namespace TM
open PySem PM
theorem Zm9 {H : Hp} : ∀ ks : List Int, RFs H (ks.map V.int) (ks.map T.int) []
 | [] => .nil
 | k :: ks => .cons (.int k) (Zm9 ks)
noncomputable def Zho : List T → Option T
 | [.lst ts] => (Zc1 ts).bind fun ns => if ts.length < 64 then some (.lst ((Zc2 ns).map T.int)) else none
 | _ => none
theorem Zr5 : OCn ZfH Zho := fun H vs ts t F hp r h => by
 unfold Zho at h
 split at h
 ·obtain ⟨v, rfl, r'⟩ := r.one_inv
  cases r' with
  | ref e hs =>
   obtain ⟨ks, h1, h⟩ := Zz0.mp h
   split at h
   ·rename_i h64
    cases h
    refine ⟨_, [(Zc2 ks).map V.int], _, ?_, Zes (Zm9 (Zc2 ks)), fun a m => ?_, fun _ => ?_⟩
    ·simp only [ZfH, e, Option.bind_some, Zhh hs h1]
     rw [if_pos (by rw [hs.length]; exact h64)]
    ·rcases List.mem_cons.mp m with rfl | m
     ·exact .inl (Nat.le_refl _)
     ·cases m
    ·simp
   ·cases h
 ·cases h
noncomputable def ZfQ (p q r : PE) : PE := fun σ => (p σ).bind fun t => (q σ).bind fun k => (r σ).bind fun b => match t, k, b with
 | .lst ts, .int k, .int b => (Zc1 ts).bind fun ns => if b = 1 ∧ k ∈ ns.drop 1 then some (.int ((1 + (ns.drop 1).idxOf k : Nat) : Int)) else none
 | _, _, _ => none
section
variable {O N M K : List Nat} {u u' u'' : Bool}
theorem E.index {e1 e2 e3 : Ex} {p1 p2 p3 : PE} (x : E O N u e1 p1) (y : E O M u' e2 p2) (z : E O K u'' e3 p3) : E O [] true (ZfP e1 e2 e3) (ZfQ p1 p2 p3) := fun c ρ σ H Φ t s h => by
 obtain ⟨t1, h1, h⟩ := Zz0.mp h
 obtain ⟨t2, h2, h⟩ := Zz0.mp h
 obtain ⟨t3, h3, h⟩ := Zz0.mp h
 obtain ⟨v1, X, F1, a1, a2, _, _⟩ := x c ρ σ H Φ t1 s h1
 obtain ⟨v2, Y, F2, b1, b2, _, _⟩ := y c ρ σ (H ++ X) Φ t2 (s.ext X) h2
 obtain ⟨v3, Z, F3, c1, c2, _, _⟩ := z c ρ σ (H ++ X ++ Y) Φ t3 ((s.ext X).ext Y) h3
 have a3 := (a2.ext Y).ext Z
 split at h
 ·obtain ⟨ns, e1, h⟩ := Zz0.mp h
  split at h
  ·rename_i hc
   cases h
   cases b2
   cases c2
   cases a3 with
   | ref e hs =>
    refine ⟨_, X ++ Y ++ Z, [], ?_, .int _, by simp, by simp⟩
    have e' := e
    simp only [ZfP, a1, b1, c1, Option.bind_some, ZhF, e', Zhh hs e1]
    rw [if_pos hc]
    simp
  ·cases h
 ·cases h
end
section
variable {σ : TL} {Q : T → Prop}
end
end TM
end
section
set_option maxRecDepth 100000
set_option linter.all false
set_option autoImplicit false
namespace PM
open PySem PySem.W PySem.Calls PyProof.Rows PyProof PySem.Spec
section
variable {prog : Program} {w : World} {Γ : Cx}
theorem ln1 {α : Type _} : ∀ {xs : List α}, xs.length = 1 → ∃ x0, xs = [x0]
 | [x0], _ => ⟨x0, rfl⟩
theorem ln2 {α : Type _} : ∀ {xs : List α}, xs.length = 2 → ∃ x0 x1, xs = [x0, x1]
 | [x0, x1], _ => ⟨x0, x1, rfl⟩
theorem ln3 {α : Type _} : ∀ {xs : List α}, xs.length = 3 → ∃ x0 x1 x2, xs = [x0, x1, x2]
 | [x0, x1, x2], _ => ⟨x0, x1, x2, rfl⟩
theorem ln4 {α : Type _} : ∀ {xs : List α}, xs.length = 4 → ∃ x0 x1 x2 x3, xs = [x0, x1, x2, x3]
 | [x0, x1, x2, x3], _ => ⟨x0, x1, x2, x3, rfl⟩
theorem ln5 {α : Type _} : ∀ {xs : List α}, xs.length = 5 → ∃ x0 x1 x2 x3 x4, xs = [x0, x1, x2, x3, x4]
 | [x0, x1, x2, x3, x4], _ => ⟨x0, x1, x2, x3, x4, rfl⟩
theorem ln6 {α : Type _} : ∀ {xs : List α}, xs.length = 6 → ∃ x0 x1 x2 x3 x4 x5, xs = [x0, x1, x2, x3, x4, x5]
 | [x0, x1, x2, x3, x4, x5], _ => ⟨x0, x1, x2, x3, x4, x5, rfl⟩
theorem ln7 {α : Type _} : ∀ {xs : List α}, xs.length = 7 → ∃ x0 x1 x2 x3 x4 x5 x6, xs = [x0, x1, x2, x3, x4, x5, x6]
 | [x0, x1, x2, x3, x4, x5, x6], _ => ⟨x0, x1, x2, x3, x4, x5, x6, rfl⟩
theorem jI {k : Int} {n : Nat} {pos : Pos} : J prog w Γ (.Constant (.int k) n pos) (Zl k) := J.int _ _ _
theorem jN {n : Nat} {pos : Pos} : J prog w Γ (.Constant .none n pos) ZX := J.none _ _
theorem jB {b : Bool} {n : Nat} {pos : Pos} : J prog w Γ (.Constant (.bool b) n pos) (Zbz b) := J.bool _ _ _
theorem cO {elt iter : Expr} {x : Str} {px : Pos} {ifs : List Expr} {scope : Scope} {pos : Pos} {cl : List (Str × Addr)} {t : Nat} {g : Src} {c : Ts} {f : Ex} (hg : JI prog w Γ iter g) (hel : ∀ C ρ, J prog w (Zbk Γ scope cl C [(x, t)] ρ) elt f) (hif : ∀ C ρ, JF prog w (Zbk Γ scope cl C [(x, t)] ρ) ifs c)
  (hclos : closureFor scope Γ.env = pure cl := by with_unfolding_all rfl) (hcell : ∀ y ∈ scope.names, y.2 ≠ .cell := by decide) (hkind : scope.kind = .function := by exact rfl) (hnames : ∀ y ∈ scope.names, y.2 = .local → scope.names.lookup y.1 = some .local := by decide) (hx : scope.names.lookup x = some .local := by exact rfl) (hs : ∀ x, foldedSetIterable iter Γ.env x = pure x := by intro _; rfl) :
  J prog w Γ (.ListComp elt [⟨.Name x px, iter, ifs, 0⟩] scope pos) (Zaz g (Zam t) c f) := Ztw hg hel hif hclos hcell hkind hnames hx hs
theorem cT {elt iter : Expr} {x x₂ : Str} {px px₂ tp : Pos} {kt : Nat} {scope : Scope} {pos : Pos} {cl : List (Str × Addr)} {t t₂ : Nat} {g : Src} {f : Ex} (hg : JI2 prog w Γ iter g) (hel : ∀ C ρ, J prog w (Zbk Γ scope cl C [(x, t), (x₂, t₂)] ρ) elt f)
  (hclos : closureFor scope Γ.env = pure cl := by with_unfolding_all rfl) (hcell : ∀ y ∈ scope.names, y.2 ≠ .cell := by decide) (hkind : scope.kind = .function := by exact rfl) (hnames : ∀ y ∈ scope.names, y.2 = .local → scope.names.lookup y.1 = some .local := by decide) (hx : scope.names.lookup x = some .local := by exact rfl) (hx₂ : scope.names.lookup x₂ = some .local := by exact rfl) (hxx : x ≠ x₂ := by decide) (htt : t ≠ t₂ := by decide) (hs : ∀ x, foldedSetIterable iter Γ.env x = pure x := by intro _; rfl) :
  J prog w Γ (.ListComp elt [⟨.Tuple [.Name x px, .Name x₂ px₂] kt tp, iter, [], 0⟩] scope pos) (Zaz g (Zca t t₂) Zaq f) := Zsx hg hel hclos hcell hkind hnames hx hx₂ hxx htt hs
theorem sO {elt iter : Expr} {x y : Str} {px py pos spos : Pos} {ifs : List Expr} {scope : Scope} {cl : List (Str × Addr)} {t i : Nat} {g : Src} {c : Ts} {f : Ex} (hy : Sto prog w Γ y i) (hg : JI prog w Γ iter g) (hel : ∀ C ρ, J prog w (Zbk Γ scope cl C [(x, t)] ρ) elt f) (hif : ∀ C ρ, JF prog w (Zbk Γ scope cl C [(x, t)] ρ) ifs c)
  (hsw : swapsWith (.ListComp elt [⟨.Name x px, iter, ifs, 0⟩] scope pos) (some (.Name y py)) spos.line Γ.env = pure true := by rfl)
  (hclos : closureFor scope Γ.env = pure cl := by with_unfolding_all rfl) (hcell : ∀ y ∈ scope.names, y.2 ≠ .cell := by decide) (hkind : scope.kind = .function := by exact rfl) (hnames : ∀ y ∈ scope.names, y.2 = .local → scope.names.lookup y.1 = some .local := by decide) (hx : scope.names.lookup x = some .local := by exact rfl) (hs : ∀ x, foldedSetIterable iter Γ.env x = pure x := by intro _; rfl) :
  S1 prog w Γ (.Assign [.Name y py] (.ListComp elt [⟨.Name x px, iter, ifs, 0⟩] scope pos) spos) (ZK i (Zaz g (Zam t) c f)) := Zp8 hy hg hel hif hsw hclos hcell hkind hnames hx hs
theorem sT {elt iter : Expr} {x x₂ y : Str} {px px₂ tp py pos spos : Pos} {kt : Nat} {scope : Scope} {cl : List (Str × Addr)} {t t₂ i : Nat} {g : Src} {f : Ex} (hy : Sto prog w Γ y i) (hg : JI2 prog w Γ iter g) (hel : ∀ C ρ, J prog w (Zbk Γ scope cl C [(x, t), (x₂, t₂)] ρ) elt f)
  (hsw : swapsWith (.ListComp elt [⟨.Tuple [.Name x px, .Name x₂ px₂] kt tp, iter, [], 0⟩] scope pos) (some (.Name y py)) spos.line Γ.env = pure true := by rfl)
  (hclos : closureFor scope Γ.env = pure cl := by with_unfolding_all rfl) (hcell : ∀ y ∈ scope.names, y.2 ≠ .cell := by decide) (hkind : scope.kind = .function := by exact rfl) (hnames : ∀ y ∈ scope.names, y.2 = .local → scope.names.lookup y.1 = some .local := by decide) (hx : scope.names.lookup x = some .local := by exact rfl) (hx₂ : scope.names.lookup x₂ = some .local := by exact rfl) (hxx : x ≠ x₂ := by decide) (htt : t ≠ t₂ := by decide) (hs : ∀ x, foldedSetIterable iter Γ.env x = pure x := by intro _; rfl) :
  S1 prog w Γ (.Assign [.Name y py] (.ListComp elt [⟨.Tuple [.Name x px, .Name x₂ px₂] kt tp, iter, [], 0⟩] scope pos) spos) (ZK i (Zaz g (Zca t t₂) Zaq f)) := ZpK hy hg hel hsw hclos hcell hkind hnames hx hx₂ hxx htt hs
end
section
variable {prog : Program} {w : World} {dp un : Nat} {gd : Option (List Code)} {cn : Str} {cs : Scope} {L a : Addr} {ccd : Value} {cl : List (Str × Addr)} {outer : List Env} {h₀ : Heap} {hu : un + 200 < cLine} {names : List Str}
theorem vL {x : Str} {i : Nat} {pos : Pos} (hi : names[i]? = some x := by rfl) (hx : cs.names.lookup x = some .local := by exact rfl) (hk : cs.kind = .function := by exact rfl) (hd : (x == ("__debug__" : Str)) = false := by exact rfl) : J prog w (ZbF dp un gd cn cs L a ccd cl outer h₀ hu names) (.Name x pos) (Zb i) := ZhL (Ztu hi hx hk hd)
theorem vC {x : Str} {i : Nat} {pos : Pos} (hi : names[i]? = some x := by rfl) (hx : cs.names.lookup x = some .cell := by exact rfl) (hk : cs.kind = .function := by exact rfl) (hd : (x == ("__debug__" : Str)) = false := by exact rfl) : J prog w (ZbF dp un gd cn cs L a ccd cl outer h₀ hu names) (.Name x pos) (Zb i) := ZhL (Ztv hi hx hk hd)
theorem sL {x : Str} {i : Nat} (nd : names.Nodup := by decide) (hi : names[i]? = some x := by rfl) (hx : cs.names.lookup x = some .local := by exact rfl) (hk : cs.kind = .function := by exact rfl) : Sto prog w (ZbF dp un gd cn cs L a ccd cl outer h₀ hu names) x i := Zsu nd hi hx hk
theorem sC {x : Str} {i : Nat} (nd : names.Nodup := by decide) (hi : names[i]? = some x := by rfl) (hx : cs.names.lookup x = some .cell := by exact rfl) (hk : cs.kind = .function := by exact rfl) (hcl : (cl.lookup x).isSome = true := by exact rfl) : Sto prog w (ZbF dp un gd cn cs L a ccd cl outer h₀ hu names) x i := Zsv nd hi hx hk hcl
end
section
variable {prog : Program} {w : World} {K : Frag} {p : Program} {loose : List Str} {mean : ExcName → Option Value} {mg mb : Str → Option Value} {Γ : Cx} {dp un : Nat}
theorem nB {x : Str} {v : Value} (clr : Clr K p loose mean mg mb Γ dp un) (e : nsIn K mainGlobals x = some Option.none := by k_is) (hv : bootBuiltins x = some v := by boot_by_name) (hn : x ≠ "__name__" := by decide) (hg : Γ.env.globals = mainGlobals := by exact rfl) (hb : Γ.env.builtins = builtinsNs := by exact rfl) (hk : Γ.env.scope.kind = .function := by exact rfl) (hx : Γ.env.kindOf x = some .globalImplicit := by exact rfl) (hd : (x == ("__debug__" : Str)) = false := by exact rfl) : Nm prog w Γ x v := ZrJ clr e hv hn hg hb hk hx hd
theorem cF {x : Str} {np pos : Pos} {f : Addr} {room : Nat} {e : Expr} {es : List Expr} {g : Exs} {o : List V → Hp → Option (V × Hp)} (clr : Clr K p loose mean mg mb Γ dp un) (D : Def prog w K p loose mean mg mb f room o) (h : Js prog w Γ (e :: es) g)
  (en : nsIn K mainGlobals x = some (some (.ref f)) := by k_is) (hg : Γ.env.globals = mainGlobals := by exact rfl) (hk : Γ.env.scope.kind = .function := by exact rfl) (hx : Γ.env.kindOf x = some .globalImplicit := by exact rfl) (hd0 : (x == ("__debug__" : Str)) = false := by exact rfl)
  (hkeep : keepIn K (.ref f) = true := by k_is) (hd : dp + room < recursionLimit := by omega) (hu : un + 10 * room + 300 < cLine := by omega)
  (he : starEach (e :: es) Γ.env = (false, eval e Γ.env) :: starEach es Γ.env := by rfl) (hp : ∀ pos, (backTo pos (starEach es Γ.env)).any (·.1) = false := by intro _; rfl) : J prog w Γ (.Call (.Name x np) (e :: es) [] pos) (ZB o g) := Zsy clr (ZtB clr en hg hk hx hd0) hkeep D hd hu h he hp
theorem Dof {name qual : Str} {params : Arguments} {body : List Stmt} {scope : Scope} {dV kV doc pm cdv ct oc : Value} {an od : Option Addr} {osl : Array (Option Value)} {f : Addr} {names : List Str} {n room : Nat} {g : Sm}
  (hbody : ∀ (dp un : Nat) (gd : Option (List Code)) (L : Addr) (outer : List Env) (h₀ : Heap) (hu : un + 200 < cLine), Clr K p loose mean mg mb (ZbF dp un gd qual scope L f cdv (cellsFrom (L + 1) scope.names []) outer h₀ hu names) dp un → dp + room < recursionLimit → un + 10 * room + 300 < cLine →
   Ss prog w (ZbF dp un gd qual scope L f cdv (cellsFrom (L + 1) scope.names []) outer h₀ hu names) body g)
  (ho : K.lookup f = some ⟨oc, od, .func (fnOf name qual params body scope dV kV doc pm an cdv ct), osl⟩ := by k_is) (hcd : codeIn K cdv qual = true := by k_is) (nd : names.Nodup := by decide) (hn : n ≤ names.length := by decide)
  (hbind : ∀ s xs, xs.length = n → BindsTo s (fnOf name qual params body scope dV kV doc pm an cdv ct) ⟨xs, []⟩ ((names.take n).zip xs) := by
   intro s xs hx
   first
   | (obtain ⟨x0, rfl⟩ := ln1 hx; exact BindsTo.of_eq rfl)
   | (obtain ⟨x0, x1, rfl⟩ := ln2 hx; exact BindsTo.of_eq rfl)
   | (obtain ⟨x0, x1, x2, rfl⟩ := ln3 hx; exact BindsTo.of_eq rfl)
   | (obtain ⟨x0, x1, x2, x3, rfl⟩ := ln4 hx; exact BindsTo.of_eq rfl)
   | (obtain ⟨x0, x1, x2, x3, x4, rfl⟩ := ln5 hx; exact BindsTo.of_eq rfl)
   | (obtain ⟨x0, x1, x2, x3, x4, x5, rfl⟩ := ln6 hx; exact BindsTo.of_eq rfl)
   | (obtain ⟨x0, x1, x2, x3, x4, x5, x6, rfl⟩ := ln7 hx; exact BindsTo.of_eq rfl)) (hkinds : ∀ x ∈ names.take n, scope.names.lookup x = some .local ∨ scope.names.lookup x = some .cell := by decide) (hone : ((cellsFrom 0 scope.names []).map (·.1)).Nodup := by decide +kernel)
  (hco : scope.isCoroutine = false := by exact rfl) (hgen : scope.isGenerator = false := by exact rfl) (hk : scope.kind = .function := by exact rfl) :
  Def prog w K p loose mean mg mb f (room + 1) (Zaa n g) := Ztz ho hcd nd hn hbind hkinds hone hco hgen hk hbody
end
section
variable {prog : Program} {w : World} {Γ : Cx} {scope : Scope} {cl : List (Str × Addr)} {C : Addr} {ts : List (Str × Nat)} {ρ0 : Lc}
theorem vO {x : Str} {t : Nat} {pos : Pos} (hm : (x, t) ∈ ts := by first | exact Zz5 | exact Zz2 _ Zz5) (hk : scope.kind = .function := by exact rfl) (hl : (compEnvC scope cl C Γ.env).kindOf x = some .local := by exact rfl) (hd : (x == ("__debug__" : Str)) = false := by exact rfl) : J prog w (Zbk Γ scope cl C ts ρ0) (.Name x pos) (Zb t) := ZhL (ZsA hm hk hl hd)
end
section
variable {prog : Program} {w : World} {dp un : Nat} {gd : Option (List Code)} {cn : Str} {cs : Scope} {L a : Addr} {ccd : Value} {clf : List (Str × Addr)} {outer : List Env} {h₀ : Heap} {hu : un + 200 < cLine} {names : List Str} {scope : Scope} {cl : List (Str × Addr)} {C : Addr} {ts : List (Str × Nat)} {ρ0 : Lc}
theorem vD {x : Str} {i : Nat} {pos : Pos} (hi : names[i]? = some x := by rfl) (hx : cs.names.lookup x = some .cell := by exact rfl) (hne : ∀ p ∈ ts, p.2 ≠ i := by decide) (hcl : cl.lookup x = clf.lookup x := by exact rfl) (hk : scope.kind = .function := by exact rfl) (hl : (compEnvC scope cl C (envX cn cs L a ccd clf)).kindOf x = some .cell := by exact rfl) (hd : (x == ("__debug__" : Str)) = false := by exact rfl) :
  J prog w (Zbk (ZbF dp un gd cn cs L a ccd clf outer h₀ hu names) scope cl C ts ρ0) (.Name x pos) (Zb i) := ZhL (ZsB hi hx hne hcl hk hl hd)
end
end PM
end
section
set_option linter.all false
set_option maxRecDepth 100000
set_option maxHeartbeats 2000000
open PySem PM TM
namespace L
noncomputable def Zi6 : Sm := Zu (ZK 2 (Ze Zah (Ze ZaJ (Ze ZaJ (Zb 1) (Zb 1)) (Zl 7919)) (Zl 11))) (Zu (ZV (ZJ (Ze oGt (ZB Zax (Zg (Zb 0) Zp)) (Zl 0))) (ZK 2 (Ze Zah (Zb 2) (Ze Zs (Zb 0) (Ze oMod (Zb 1) (ZB Zax (Zg (Zb 0) Zp)))))) Z2) (ZH (Zb 2)))
noncomputable def Zgx : List V → Hp → Option (V × Hp) := Zaa 2 Zi6
noncomputable def Zi7 : PS := (Zt (ZI 2 (Zd Z6 (Zd Zat (Zd Zat (Za 1) (Za 1)) (Zk 7919)) (Zk 11))) (Zt (ZW (ZF (Zd qGt (Zy Zao (Zf (Za 0) Zn)) (Zk 0))) (ZI 2 (Zd Z6 (Za 2) (Zd Zo (Za 0) (Zd Za1 (Za 1) (Zy Zao (Zf (Za 0) Zn)))))) Z1) (ZG (Za 2))))
noncomputable def Zfd : List T → Option T := Zaf 2 Zi7
theorem Zmh : SimF false Zgx Zfd := Zai (show S [] [] [] false Zi6 Zi7 from (ZA (ZR (O' := []) (Z0 Zal (Z0 ZaS (Z0 ZaS (Zc 1) (Zc 1)) (Zm _)) (Zm _)) (by decide) (by decide) (by decide)) (ZA (Z9 (ZL (ZC Zer (Zav ZaI (Zj (Zc 0) Zq)) (Zm _))) (ZR (O' := []) (Z0 Zal (Zc 2) (Zx Zw (Zc 0) (ZC Zbb (Zc 1) (Zav ZaI (Zj (Zc 0) Zq))))) (by decide) (by decide) (by decide)) Zac) (ZP (O' := []) (Zc 2) (by decide)))))
noncomputable def ZjG : Sm := ZH (Ze oMod (Ze oMod (Ze ZaJ (ZB Zgx (Zg (Zb 0) (Zg (Zb 1) Zp))) (Zl 48271)) (Zl 2147483647)) (Zb 2))
noncomputable def ZbH : List V → Hp → Option (V × Hp) := Zaa 3 ZjG
noncomputable def ZjH : PS := (ZG (Zd Za1 (Zd Za1 (Zd Zat (Zy Zfd (Zf (Za 0) (Zf (Za 1) Zn))) (Zk 48271)) (Zk 2147483647)) (Za 2)))
noncomputable def Zbm : List T → Option T := Zaf 3 ZjH
theorem ZbT : SimF false ZbH Zbm := Zai (show S [] [] [] false ZjG ZjH from (ZP (O' := []) (ZC Zbb (ZC Zbb (Z0 ZaS (ZU Zmh (Zj (Zc 0) (Zj (Zc 1) Zq))) (Zm _)) (Zm _)) (Zc 2)) (by decide)))
noncomputable def ZiI : Sm := Zu (ZK 2 (ZB Zgx (Zg (Zb 0) (Zg (Zb 1) Zp)))) (Zu (ZK 3 (Ze Zs (Zbe (Zg (Zl 3) (Zg (Zl 9) (Zg (Ze oPow (Zl 10) (Zl 9)) (Zg (Ze oPow (Zl 10) (Zl 40)) Zp))))) (Ze oMod (Ze oMod (Ze ZaJ (Zb 2) (Zl 69621)) (Zl 2147483629)) (Zl 4)))) (ZH (Ze Za9 (Ze oMod (Ze ZaJ (Zb 2) (Ze oPow (Zl 48271) (Zl 9))) (Ze Zah (Ze ZaJ (Zl 2) (Zb 3)) (Zl 1))) (Zb 3))))
noncomputable def Zd0 : List V → Hp → Option (V × Hp) := Zaa 2 ZiI
noncomputable def ZiJ : PS := (Zt (ZI 2 (Zy Zfd (Zf (Za 0) (Zf (Za 1) Zn)))) (Zt (ZI 3 (Zd Zo (Za2 (Zf (Zk 3) (Zf (Zk 9) (Zf (Zd Zc3 (Zk 10) (Zk 9)) (Zf (Zd Zc3 (Zk 10) (Zk 40)) Zn))))) (Zd Za1 (Zd Za1 (Zd Zat (Za 2) (Zk 69621)) (Zk 2147483629)) (Zk 4)))) (ZG (Zd ZaU (Zd Za1 (Zd Zat (Za 2) (Zd Zc3 (Zk 48271) (Zk 9))) (Zd Z6 (Zd Zat (Zk 2) (Za 3)) (Zk 1))) (Za 3)))))
noncomputable def ZdF : List T → Option T := Zaf 2 ZiJ
theorem Ze9 : SimF false Zd0 ZdF := Zai (show S [] [] [] false ZiI ZiJ from (ZA (ZR (O' := []) (ZU Zmh (Zj (Zc 0) (Zj (Zc 1) Zq))) (by decide) (by decide) (by decide)) (ZA (ZR (O' := []) (Zx Zw (E.list (Zj (Zm _) (Zj (Zm _) (Zj (ZC ZlO (Zm _) (Zm _)) (Zj (ZC ZlO (Zm _) (Zm _)) Zq)))) (by decide)) (ZC Zbb (ZC Zbb (Z0 ZaS (Zc 2) (Zm _)) (Zm _)) (Zm _))) (by decide) (by decide) (by decide)) (ZP (O' := []) (ZC Zbf (ZC Zbb (Z0 ZaS (Zc 2) (ZC ZlO (Zm _) (Zm _))) (Z0 Zal (Z0 ZaS (Zm _) (Zc 3)) (Zm _))) (Zc 3)) (by decide)))))
noncomputable def Zi8 : Sm := Zu (ZK 2 (ZB ZbH (Zg (Zb 0) (Zg (Zb 1) (Zg (Zl 42) Zp))))) (Zu (ZV (ZJ (Ze oLt (Ze oMod (Zb 2) (Zl 6)) (Zl 2))) (ZH (ZX)) Z2) (Zu (ZV (ZJ (Ze oLt (Ze oMod (Zb 2) (Zl 6)) (Zl 4))) (ZH (Zl 0)) Z2) (Zu (ZV (ZJ (Ze oEq (Ze oMod (Zb 2) (Zl 6)) (Zl 4))) (ZH (Ze oDiv (Zb 2) (Zl 6))) Z2) (ZH (ZB Zdi (Zg (ZB Zd0 (Zg (Zb 0) (Zg (Zb 1) Zp))) Zp))))))
noncomputable def Zi9 : List V → Hp → Option (V × Hp) := Zaa 2 Zi8
noncomputable def Zja : PS := (Zt (ZI 2 (Zy Zbm (Zf (Za 0) (Zf (Za 1) (Zf (Zk 42) Zn))))) (Zt (ZW (ZF (Zd qLt (Zd Za1 (Za 2) (Zk 6)) (Zk 2))) (ZG (ZY)) Z1) (Zt (ZW (ZF (Zd qLt (Zd Za1 (Za 2) (Zk 6)) (Zk 4))) (ZG (Zk 0)) Z1) (Zt (ZW (ZF (Zd qEq (Zd Za1 (Za 2) (Zk 6)) (Zk 4))) (ZG (Zd ZcB (Za 2) (Zk 6))) Z1) (ZG (Zy Zdk (Zf (Zy ZdF (Zf (Za 0) (Zf (Za 1) Zn))) Zn)))))))
noncomputable def Zgy : List T → Option T := Zaf 2 Zja
theorem ZpN : SimF false Zi9 Zgy := Zai (show S [] [] [] false Zi8 Zja from (ZA (ZR (O' := []) (ZU ZbT (Zj (Zc 0) (Zj (Zc 1) (Zj (Zm _) Zq)))) (by decide) (by decide) (by decide)) (ZA (Z9 (ZL (ZC Zco (ZC Zbb (Zc 2) (Zm _)) (Zm _))) (ZP (O' := []) (Zae) (by decide)) Zac) (ZA (Z9 (ZL (ZC Zco (ZC Zbb (Zc 2) (Zm _)) (Zm _))) (ZP (O' := []) (Zm _) (by decide)) Zac) (ZA (Z9 (ZL (ZC ZaZ (ZC Zbb (Zc 2) (Zm _)) (Zm _))) (ZP (O' := []) (ZC Zdx (Zc 2) (Zm _)) (by decide)) Zac) (ZP (O' := []) (Zav Zeh (Zj (ZU Ze9 (Zj (Zc 0) (Zj (Zc 1) Zq))) Zq)) (by decide)))))))
noncomputable def Ziu : Sm := Zu (ZV (ZJ (Ze oEq (Zb 0) (Zl 0))) (ZH (ZaX (Zg (Zl 0) (Zg (Zb 1) Zp)))) Z2) (ZH (ZaX (Zg (Zb 0) (Zg (Ze oMod (Zb 1) (Zb 0)) Zp))))
noncomputable def ZdD : List V → Hp → Option (V × Hp) := Zaa 2 Ziu
noncomputable def Ziv : PS := (Zt (ZW (ZF (Zd qEq (Za 0) (Zk 0))) (ZG (Za3 (Zf (Zk 0) (Zf (Za 1) Zn)))) Z1) (ZG (Za3 (Zf (Za 0) (Zf (Zd Za1 (Za 1) (Za 0)) Zn)))))
noncomputable def Zdm : List T → Option T := Zaf 2 Ziv
theorem Zew : SimF false ZdD Zdm := Zai (show S [] [] [] false Ziu Ziv from (ZA (Z9 (ZL (ZC ZaZ (Zc 0) (Zm _))) (ZP (O' := []) (E.tup (Zj (Zm _) (Zj (Zc 1) Zq)) (by decide)) (by decide)) Zac) (ZP (O' := []) (E.tup (Zj (Zc 0) (Zj (ZC Zbb (Zc 1) (Zc 0)) Zq)) (by decide)) (by decide))))
noncomputable def ZjI : Sm := Zu (ZK 3 (ZB ZbH (Zg (Zb 0) (Zg (Zb 1) (Zg (Zl 60) Zp))))) (Zu (ZV (ZJ (Ze oLt (Ze oMod (Zb 3) (Zl 5)) (Zl 2))) (ZH (ZaX (Zg (Zl 1) (Zg (Zl 0) Zp)))) Z2) (Zu (ZV (ZJ (Ze oEq (Ze oMod (Zb 3) (Zl 5)) (Zl 2))) (ZH (ZaX (Zg (Zl 0) (Zg (Zb 2) Zp)))) Z2) (Zu (ZV (ZJ (Ze oEq (Ze oMod (Zb 3) (Zl 5)) (Zl 3))) (ZH (ZB ZdD (Zg (Ze Zah (Ze oDiv (Zb 3) (Zl 5)) (Zl 1)) (Zg (Zb 2) Zp)))) Z2) (ZH (ZB ZdD (Zg (ZB Zdi (Zg (ZB Zd0 (Zg (Zb 0) (Zg (Zb 1) Zp))) Zp)) (Zg (Zb 2) Zp)))))))
noncomputable def ZjJ : List V → Hp → Option (V × Hp) := Zaa 3 ZjI
noncomputable def ZjK : PS := (Zt (ZI 3 (Zy Zbm (Zf (Za 0) (Zf (Za 1) (Zf (Zk 60) Zn))))) (Zt (ZW (ZF (Zd qLt (Zd Za1 (Za 3) (Zk 5)) (Zk 2))) (ZG (Za3 (Zf (Zk 1) (Zf (Zk 0) Zn)))) Z1) (Zt (ZW (ZF (Zd qEq (Zd Za1 (Za 3) (Zk 5)) (Zk 2))) (ZG (Za3 (Zf (Zk 0) (Zf (Za 2) Zn)))) Z1) (Zt (ZW (ZF (Zd qEq (Zd Za1 (Za 3) (Zk 5)) (Zk 3))) (ZG (Zy Zdm (Zf (Zd Z6 (Zd ZcB (Za 3) (Zk 5)) (Zk 1)) (Zf (Za 2) Zn)))) Z1) (ZG (Zy Zdm (Zf (Zy Zdk (Zf (Zy ZdF (Zf (Za 0) (Zf (Za 1) Zn))) Zn)) (Zf (Za 2) Zn))))))))
noncomputable def ZgH : List T → Option T := Zaf 3 ZjK
theorem Zqb : SimF false ZjJ ZgH := Zai (show S [] [] [] false ZjI ZjK from (ZA (ZR (O' := []) (ZU ZbT (Zj (Zc 0) (Zj (Zc 1) (Zj (Zm _) Zq)))) (by decide) (by decide) (by decide)) (ZA (Z9 (ZL (ZC Zco (ZC Zbb (Zc 3) (Zm _)) (Zm _))) (ZP (O' := []) (E.tup (Zj (Zm _) (Zj (Zm _) Zq)) (by decide)) (by decide)) Zac) (ZA (Z9 (ZL (ZC ZaZ (ZC Zbb (Zc 3) (Zm _)) (Zm _))) (ZP (O' := []) (E.tup (Zj (Zm _) (Zj (Zc 2) Zq)) (by decide)) (by decide)) Zac) (ZA (Z9 (ZL (ZC ZaZ (ZC Zbb (Zc 3) (Zm _)) (Zm _))) (ZP (O' := []) (ZU Zew (Zj (Z0 Zal (ZC Zdx (Zc 3) (Zm _)) (Zm _)) (Zj (Zc 2) Zq))) (by decide)) Zac) (ZP (O' := []) (ZU Zew (Zj (Zav Zeh (Zj (ZU Ze9 (Zj (Zc 0) (Zj (Zc 1) Zq))) Zq)) (Zj (Zc 2) Zq))) (by decide)))))))
noncomputable def ZjL : Sm := Zu (ZK 3 (Ze Zah (Zbe (Zg (Zl 0) Zp)) (Zb 2))) (Zu (ZK 4 (ZB Zax (Zg (Zb 3) Zp))) (Zu (ZK 5 (Zbe Zp)) (Zu (ZaY (ZaR (Zg (Zb 4) Zp)) (Zam 6) (Zu (ZK 7 (Zbe Zp)) (Zu (ZaY (ZaR (Zg (Zb 4) Zp)) (Zam 8) (Zu (ZK 9 (ZB Zi9 (Zg (Zb 0) (Zg (Ze Zah (Ze Zah (Zb 1) (Ze ZaJ (Zb 6) (Zb 4))) (Zb 8)) Zp)))) (Zu (ZV (ZJ (Ze Zb2 (Zb 9) (ZX))) (ZK 9 (Ze Zah (Ze Za9 (Ze Zs (Zb 3) (Zb 6)) (Ze Zs (Zb 3) (Zb 8))) (Zb 9))) Z2) (Zcs (Zdq (Zb 7) (Zb 9)))))) (Zu (ZbX (Zl 0) (Zb 7) (Zb 6)) (Zcs (Zdq (Zb 5) (Zb 7))))))) (ZH (ZaX (Zg (Zb 5) (Zg (Zaz (ZaR (Zg (Ze Za9 (Zb 4) (Zl 1)) Zp)) (Zam 100) Zaq (ZB ZjJ (Zg (Zb 0) (Zg (Ze Zah (Ze Zah (Zb 1) (Ze ZaJ (Zb 4) (Zb 4))) (Zb 100)) (Zg (Ze Zs (Zb 2) (Zb 100)) Zp))))) Zp)))))))
noncomputable def ZjM : List V → Hp → Option (V × Hp) := Zaa 3 ZjL
noncomputable def ZjN : PS := (Zt (ZI 3 (Zd Z6 (Za2 (Zf (Zk 0) Zn)) (Za 2))) (Zt (ZI 4 (Zy Zao (Zf (Za 3) Zn))) (Zt (ZI 5 (Za2 Zn)) (Zt (ZaO (ZaG (Zf (Za 4) Zn)) (Z5 6) (Zt (ZI 7 (Za2 Zn)) (Zt (ZaO (ZaG (Zf (Za 4) Zn)) (Z5 8) (Zt (ZI 9 (Zy Zgy (Zf (Za 0) (Zf (Zd Z6 (Zd Z6 (Za 1) (Zd Zat (Za 6) (Za 4))) (Za 8)) Zn)))) (Zt (ZW (ZF (Zd ZbC (Za 9) (ZY))) (ZI 9 (Zd Z6 (Zd ZaU (Zd Zo (Za 3) (Za 6)) (Zd Zo (Za 3) (Za 8))) (Za 9))) Z1) (ZcQ 7 [] Za0 (ZbV (Za 9)))))) (Zt (ZbB 7 [] (Zk 0) Za0 (Za 6)) (ZcQ 5 [7] Za0 (Za 7)))))) (ZG (Za3 (Zf (Za 5) (Zf (Zan (ZaG (Zf (Zd ZaU (Za 4) (Zk 1)) Zn)) (Z5 100) Zad (ZbV (Zy ZgH (Zf (Za 0) (Zf (Zd Z6 (Zd Z6 (Za 1) (Zd Zat (Za 4) (Za 4))) (Za 100)) (Zf (Zd Zo (Za 2) (Za 100)) Zn)))))) Zn))))))))
noncomputable def ZgI : List T → Option T := Zaf 3 ZjN
theorem Zqc : SimF true ZjM ZgI := Zai (show S [] [5] [] true ZjL ZjN from (ZA (ZR (O' := []) (Z0 Zal (E.list (Zj (Zm _) Zq) (by decide)) (Zc 2)) (by decide) (by decide) (by decide)) (ZA (ZR (O' := []) (Zav ZaI (Zj (Zc 3) Zq)) (by decide) (by decide) (by decide)) (ZA (Zcw (O' := [5]) (E.list Zq (by decide)) (by decide)) (ZA (Zbh (Gs.range (Zj (Zc 4) Zq)) (PutOk.one (by decide)) (by decide) (by decide) (ZA (Zcw (O' := [5, 7]) (Zbg (O' := []) (E.list Zq (by decide)) (by decide)) (by decide)) (ZA (Zbh (Gs.range (Zj (Zc 4) Zq)) (PutOk.one (by decide)) (by decide) (by decide) (ZA (ZR (O' := [5, 7]) (ZU ZpN (Zj (Zc 0) (Zj (Z0 Zal (Z0 Zal (Zc 1) (Z0 ZaS (Zc 6) (Zc 4))) (Zc 8)) Zq))) (by decide) (by decide) (by decide)) (ZA (Z9 (ZL (ZC Zcg (Zc 9) (Zae))) (ZR (O' := [5, 7]) (Z0 Zal (ZC Zbf (Zx Zw (Zc 3) (Zc 6)) (Zx Zw (Zc 3) (Zc 8))) (Zc 9)) (by decide) (by decide) (by decide)) Zac) (Ze0 (O' := [5, 7]) (by decide) ZbK (Zbg (O' := [5]) (E.flat (Zc 9)) (by decide)) (by decide) (by decide))))) (ZA (S.put (O' := [5, 7]) (by decide) (Zbg (O' := [5]) (Zm _) (by decide)) ZbK (Zc 6) (by decide) (by decide)) (Ze0 (O' := [5]) (by decide) ZbK (Zbg (O' := [7]) (E.own (by decide)) (by decide)) (by decide) (by decide)))))) (ZcY (O' := [5]) (E.tup (Zfx (E.own (by decide)) (Zfx (Zdr (Gs.range (Zj (ZC Zbf (Zc 4) (Zm _)) Zq)) (PutOk.one (by decide)) (by decide) Zay (Zbg (O' := []) (E.flat (ZU Zqb (Zj (Zc 0) (Zj (Z0 Zal (Z0 Zal (Zc 1) (Z0 ZaS (Zc 4) (Zc 4))) (Zc 100)) (Zj (Zx Zw (Zc 2) (Zc 100)) Zq))))) (by decide))) Zq (by decide) (by decide)) (by decide) (by decide)) (by decide)) (by decide) (by decide)))))))
noncomputable def ZjO : Sm := Zu (ZV (ZJ (Ze oIs (Zb 0) (ZX))) (ZH (ZX)) Z2) (ZH (ZaX (Zg (Zaz (Zbj (Ze Zs (Zb 0) (Zl 0))) (Zam 100) Zaq (ZB Zcv (Zg (Zb 100) Zp))) (Zg (ZB Zcv (Zg (Ze Zs (Zb 0) (Zl 1)) Zp)) Zp))))
noncomputable def ZjP : List V → Hp → Option (V × Hp) := Zaa 1 ZjO
noncomputable def ZgJ : PS := (Zt (ZW (ZF (Zd qIs (Za 0) (ZY))) (ZG (ZY)) Z1) (ZG (Za3 (Zf (Zan (ZaE (Zd Zo (Za 0) (Zk 0))) (Z5 100) Zad (Zy Zcj (Zf (Za 100) Zn))) (Zf (Zy Zcj (Zf (Zd Zo (Za 0) (Zk 1)) Zn)) Zn)))))
noncomputable def ZdG : List T → Option T := Zaf 1 ZgJ
theorem Zqd : SimF false ZjP ZdG := Zai (show S [] [] [] false ZjO ZgJ from (ZA (Z9 (ZL (ZC ZbA (Zc 0) (Zae))) (ZP (O' := []) (Zae) (by decide)) Zac) (ZP (O' := []) (E.tup (Zj (Zbw (Gs.seq (Zx Zw (Zc 0) (Zm _))) (PutOk.one (by decide)) (by decide) Zay (Zhf ZdM (Zj (Zc 100) Zq))) (Zj (Zhf ZdM (Zj (Zx Zw (Zc 0) (Zm _)) Zq)) Zq)) (by decide)) (by decide))))
noncomputable def Zjb : Sm := ZH (eOr (Ze oIs (Zb 1) (ZX)) (Zem (Ze Zb2 (Zb 0) (ZX)) (Ze oLe (Zb 0) (Zb 1))))
noncomputable def Zjc : List V → Hp → Option (V × Hp) := Zaa 2 Zjb
noncomputable def Zjd : PS := (ZG ((pOr (Zd qIs (Za 1) (ZY)) ((Zep (Zd ZbC (Za 0) (ZY)) (Zd qLe (Za 0) (Za 1)))))))
noncomputable def Zgz : List T → Option T := Zaf 2 Zjd
theorem ZpO : SimF false Zjc Zgz := Zai (show S [] [] [] false Zjb Zjd from (ZP (O' := []) ((ZuN (E.sh (ZC ZbA (Zc 1) (Zae))) (E.sh ((ZlN (E.sh (ZC Zcg (Zc 0) (Zae))) (E.sh (ZC ZlU (Zc 0) (Zc 1)))))))) (by decide)))
noncomputable def ZjQ : Sm := Zu (ZV (ZJ (Ze oEq (Ze Zs (Zb 0) (Zl 0)) (Zl 0))) (ZH (Ze oEq (Zb 1) (Ze Zs (Zb 0) (Zl 1)))) Z2) (ZH (Ze oEq (Ze oMod (Zb 1) (Ze Zs (Zb 0) (Zl 0))) (Ze Zs (Zb 0) (Zl 1))))
noncomputable def ZgK : List V → Hp → Option (V × Hp) := Zaa 2 ZjQ
noncomputable def ZjR : PS := (Zt (ZW (ZF (Zd qEq (Zd Zo (Za 0) (Zk 0)) (Zk 0))) (ZG (Zd qEq (Za 1) (Zd Zo (Za 0) (Zk 1)))) Z1) (ZG (Zd qEq (Zd Za1 (Za 1) (Zd Zo (Za 0) (Zk 0))) (Zd Zo (Za 0) (Zk 1)))))
noncomputable def Zfj : List T → Option T := Zaf 2 ZjR
theorem Zmv : SimF false ZgK Zfj := Zai (show S [] [] [] false ZjQ ZjR from (ZA (Z9 (ZL (ZC ZaZ (Zx Zw (Zc 0) (Zm _)) (Zm _))) (ZP (O' := []) (ZC ZaZ (Zc 1) (Zx Zw (Zc 0) (Zm _))) (by decide)) Zac) (ZP (O' := []) (ZC ZaZ (ZC Zbb (Zc 1) (Zx Zw (Zc 0) (Zm _))) (Zx Zw (Zc 0) (Zm _))) (by decide))))
noncomputable def Zkp : Sm := Zu (ZK 0 (ZB Zdi (Zg (Zb 0) Zp))) (Zu (ZK 1 (ZB Zdi (Zg (Zb 1) Zp))) (Zu (ZcK (ZJ (Ze oNe (Zb 1) (Zl 0))) (Zu (ZK 2 (Ze oMod (Zb 0) (Zb 1))) (Zu (ZK 0 (Zb 1)) (ZK 1 (Zb 2)))) 1000000) (ZH (Zb 0))))
noncomputable def ZgX : List V → Hp → Option (V × Hp) := Zaa 2 Zkp
noncomputable def Zkq : PS := (Zt (ZI 0 (Zy Zdk (Zf (Za 0) Zn))) (Zt (ZI 1 (Zy Zdk (Zf (Za 1) Zn))) (Zt (ZcZ (ZF (Zd qNe (Za 1) (Zk 0))) (Zt (ZI 2 (Zd Za1 (Za 0) (Za 1))) (Zt (ZI 0 (Za 1)) (ZI 1 (Za 2)))) 1000000) (ZG (Za 0)))))
noncomputable def Zfq : List T → Option T := Zaf 2 Zkq
theorem ZmJ : SimF false ZgX Zfq := Zai (show S [] [] [] false Zkp Zkq from (ZA (ZR (O' := []) (Zav Zeh (Zj (Zc 0) Zq)) (by decide) (by decide) (by decide)) (ZA (ZR (O' := []) (Zav Zeh (Zj (Zc 1) Zq)) (by decide) (by decide) (by decide)) (ZA (ZeR (ZL (ZC Zbt (Zc 1) (Zm _))) (ZA (ZR (O' := []) (ZC Zbb (Zc 0) (Zc 1)) (by decide) (by decide) (by decide)) (ZA (ZR (O' := []) (Zc 1) (by decide) (by decide) (by decide)) (ZR (O' := []) (Zc 2) (by decide) (by decide) (by decide)))) 1000000) (ZP (O' := []) (Zc 0) (by decide))))))
noncomputable def ZiK : Sm := Zu (ZK 3 (Zaz (Zbj (Ze Zs (Zb 2) (Zl 0))) (Zam 100) Zaq (ZB Zcv (Zg (Zb 100) Zp)))) (Zu (ZK 4 (ZB Zcv (Zg (Ze Zs (Zb 2) (Zl 1)) Zp))) (Zu (ZK 5 (ZB ZbH (Zg (Zb 0) (Zg (Zb 1) (Zg (ZB Zax (Zg (Zb 3) Zp)) Zp))))) (Zu (ZK 6 (ZB ZbH (Zg (Zb 0) (Zg (Ze Zah (Zb 1) (Zl 1)) (Zg (ZB Zax (Zg (Zb 3) Zp)) Zp))))) (Zu (ZK 7 (ZB ZbH (Zg (Zb 0) (Zg (Ze Zah (Zb 1) (Zl 2)) (Zg (Zl 5) Zp))))) (Zu (ZV (ZaB (ZJ (Ze oLt (Zb 7) (Zl 3))) (ZaB (ZJ (Ze oNe (Zb 5) (Zb 6))) (ZaB (ZJ (Ze oIs (Ze Zs (Ze Zs (Zb 3) (Zb 5)) (Zb 6)) (ZX))) Zaq))) (ZbX (ZB Zd0 (Zg (Zb 0) (Zg (Ze Zah (Zb 1) (Zl 3)) Zp))) (Ze Zs (Zb 3) (Zb 5)) (Zb 6)) (ZV (ZaB (ZJ (Ze oLt (Zb 7) (Zl 3))) (ZaB (ZJ (Ze oNe (Zb 5) (Zb 6))) Zaq)) (ZbX (Ze Za9 (Ze Za9 (Ze Zs (Ze Zs (Zb 3) (Zb 5)) (Zb 6)) (Zl 1)) (ZB ZbH (Zg (Zb 0) (Zg (Ze Zah (Zb 1) (Zl 3)) (Zg (Zl 4) Zp))))) (Ze Zs (Zb 3) (Zb 5)) (Zb 6)) (ZV (ZJ (Ze oGt (ZB Zax (Zg (Zb 4) Zp)) (Zl 0))) (Zu (ZK 8 (ZB ZbH (Zg (Zb 0) (Zg (Zb 1) (Zg (ZB Zax (Zg (Zb 4) Zp)) Zp))))) (Zu (ZK 9 (Ze Zs (Zb 4) (Zb 8))) (ZbX (ZB ZdD (Zg (Ze ZaJ (Ze Zs (Zb 9) (Zl 0)) (Ze Zah (Zl 1) (Ze oMod (Zb 7) (Zl 2)))) (Zg (Ze Zah (Ze Zs (Zb 9) (Zl 1)) (ZB ZbH (Zg (Zb 0) (Zg (Ze Zah (Zb 1) (Zl 3)) (Zg (Zl 3) Zp))))) Zp))) (Zb 4) (Zb 8)))) Z2))) (ZH (ZaX (Zg (Zb 3) (Zg (Zb 4) Zp)))))))))
noncomputable def ZiL : List V → Hp → Option (V × Hp) := Zaa 3 ZiK
noncomputable def ZiM : PS := (Zt (ZI 3 (Zan (ZaE (Zd Zo (Za 2) (Zk 0))) (Z5 100) Zad (pFl (Zy Zcj (Zf (Za 100) Zn))))) (Zt (ZI 4 (pFl (Zy Zcj (Zf (Zd Zo (Za 2) (Zk 1)) Zn)))) (Zt (ZI 5 (Zy Zbm (Zf (Za 0) (Zf (Za 1) (Zf (Zy Zao (Zf (Za 3) Zn)) Zn))))) (Zt (ZI 6 (Zy Zbm (Zf (Za 0) (Zf (Zd Z6 (Za 1) (Zk 1)) (Zf (Zy Zao (Zf (Za 3) Zn)) Zn))))) (Zt (ZI 7 (Zy Zbm (Zf (Za 0) (Zf (Zd Z6 (Za 1) (Zk 2)) (Zf (Zk 5) Zn))))) (Zt (ZW (Zaw (ZF (Zd qLt (Za 7) (Zk 3))) (Zaw (ZF (Zd qNe (Za 5) (Za 6))) (Zaw (ZF (Zd qIs (Zd Zo (Zd Zo (Za 3) (Za 5)) (Za 6)) (ZY))) Zad))) (ZbB 3 [] (ZbV (Zy ZdF (Zf (Za 0) (Zf (Zd Z6 (Za 1) (Zk 3)) Zn)))) (Zcx Za0 (Za 5)) (Za 6)) (ZW (Zaw (ZF (Zd qLt (Za 7) (Zk 3))) (Zaw (ZF (Zd qNe (Za 5) (Za 6))) Zad)) (ZbB 3 [] (Zd ZaU (Zd ZaU (Zd Zo (Zd Zo (Za 3) (Za 5)) (Za 6)) (Zk 1)) (Zy Zbm (Zf (Za 0) (Zf (Zd Z6 (Za 1) (Zk 3)) (Zf (Zk 4) Zn))))) (Zcx Za0 (Za 5)) (Za 6)) (ZW (ZF (Zd qGt (Zy Zao (Zf (Za 4) Zn)) (Zk 0))) (Zt (ZI 8 (Zy Zbm (Zf (Za 0) (Zf (Za 1) (Zf (Zy Zao (Zf (Za 4) Zn)) Zn))))) (Zt (ZI 9 (ZbV (Zd Zo (Za 4) (Za 8)))) (ZbB 4 [] (ZbV (Zy Zdm (Zf (Zd Zat (Zd Zo (Za 9) (Zk 0)) (Zd Z6 (Zk 1) (Zd Za1 (Za 7) (Zk 2)))) (Zf (Zd Z6 (Zd Zo (Za 9) (Zk 1)) (Zy Zbm (Zf (Za 0) (Zf (Zd Z6 (Za 1) (Zk 3)) (Zf (Zk 3) Zn))))) Zn)))) Za0 (Za 8)))) Z1))) (ZG (Za3 (Zf (Za 3) (Zf (Za 4) Zn))))))))))
noncomputable def Zgp : List T → Option T := Zaf 3 ZiM
theorem Zpp : SimF false ZiL Zgp := Zai (show S [] [3, 4] [] false ZiK ZiM from (ZA (Zcw (O' := [3]) (Zdr (Gs.seq (Zx Zw (Zc 2) (Zm _))) (PutOk.one (by decide)) (by decide) Zay (ZfE ZdM (Zj (Zc 100) Zq))) (by decide)) (ZA (Zcw (O' := [3, 4]) (Zbg (O' := []) (ZfE ZdM (Zj (Zx Zw (Zc 2) (Zm _)) Zq)) (by decide)) (by decide)) (ZA (ZR (O' := [3, 4]) (ZU ZbT (Zj (Zc 0) (Zj (Zc 1) (Zj (Zav ZaI (Zj (Zc 3) Zq)) Zq)))) (by decide) (by decide) (by decide)) (ZA (ZR (O' := [3, 4]) (ZU ZbT (Zj (Zc 0) (Zj (Z0 Zal (Zc 1) (Zm _)) (Zj (Zav ZaI (Zj (Zc 3) Zq)) Zq)))) (by decide) (by decide) (by decide)) (ZA (ZR (O' := [3, 4]) (ZU ZbT (Zj (Zc 0) (Zj (Z0 Zal (Zc 1) (Zm _)) (Zj (Zm _) Zq)))) (by decide) (by decide) (by decide)) (ZA (Z9 (ZaN (ZL (ZC Zco (Zc 7) (Zm _))) (ZaN (ZL (ZC Zbt (Zc 5) (Zc 6))) (ZaN (ZL (ZC ZbA (Zx Zw (Zx Zw (Zc 3) (Zc 5)) (Zc 6)) (Zae))) Zay))) (S.put (O' := [3, 4]) (by decide) (Zbg (O' := [4]) (E.flat (ZU Ze9 (Zj (Zc 0) (Zj (Z0 Zal (Zc 1) (Zm _)) Zq)))) (by decide)) (Zdt ZbK (Zc 5)) (Zc 6) (by decide) (by decide)) (Z9 (ZaN (ZL (ZC Zco (Zc 7) (Zm _))) (ZaN (ZL (ZC Zbt (Zc 5) (Zc 6))) Zay)) (S.put (O' := [3, 4]) (by decide) (Zbg (O' := [4]) (ZC Zbf (ZC Zbf (Zx Zw (Zx Zw (Zc 3) (Zc 5)) (Zc 6)) (Zm _)) (ZU ZbT (Zj (Zc 0) (Zj (Z0 Zal (Zc 1) (Zm _)) (Zj (Zm _) Zq))))) (by decide)) (Zdt ZbK (Zc 5)) (Zc 6) (by decide) (by decide)) (Z9 (ZL (ZC Zer (Zav ZaI (Zj (Zc 4) Zq)) (Zm _))) (ZA (ZR (O' := [3, 4]) (ZU ZbT (Zj (Zc 0) (Zj (Zc 1) (Zj (Zav ZaI (Zj (Zc 4) Zq)) Zq)))) (by decide) (by decide) (by decide)) (ZA (ZR (O' := [3, 4]) (Zbg (O' := []) (E.flat (Zx Zw (Zc 4) (Zc 8))) (by decide)) (by decide) (by decide) (by decide)) (S.put (O' := [3, 4]) (by decide) (Zbg (O' := [3]) (E.flat (ZU Zew (Zj (Z0 ZaS (Zx Zw (Zc 9) (Zm _)) (Z0 Zal (Zm _) (ZC Zbb (Zc 7) (Zm _)))) (Zj (Z0 Zal (Zx Zw (Zc 9) (Zm _)) (ZU ZbT (Zj (Zc 0) (Zj (Z0 Zal (Zc 1) (Zm _)) (Zj (Zm _) Zq))))) Zq)))) (by decide)) ZbK (Zc 8) (by decide) (by decide)))) Zac))) (ZP (O' := [3, 4]) (E.tup (Zj (Zc 3) (Zj (Zc 4) Zq)) (by decide)) (by decide)))))))))
noncomputable def Zkr : Sm := Zu (ZK 2 (ZB Zdi (Zg (Zb 0) Zp))) (Zu (ZK 3 (ZB Zdi (Zg (Zb 1) Zp))) (Zu (ZcK (ZJ (Ze oNe (Zb 3) (Zl 0))) (Zu (ZK 4 (Ze oMod (Zb 2) (Zb 3))) (Zu (ZK 2 (Zb 3)) (ZK 3 (Zb 4)))) 1000000) (ZH (Zb 2))))
noncomputable def ZgY : List V → Hp → Option (V × Hp) := Zaa 2 Zkr
noncomputable def Zks : PS := (Zt (ZI 2 (Zy Zdk (Zf (Za 0) Zn))) (Zt (ZI 3 (Zy Zdk (Zf (Za 1) Zn))) (Zt (ZcZ (ZF (Zd qNe (Za 3) (Zk 0))) (Zt (ZI 4 (Zd Za1 (Za 2) (Za 3))) (Zt (ZI 2 (Za 3)) (ZI 3 (Za 4)))) 1000000) (ZG (Za 2)))))
noncomputable def Zfr : List T → Option T := Zaf 2 Zks
theorem ZmK : SimF false ZgY Zfr := Zai (show S [] [] [] false Zkr Zks from (ZA (ZR (O' := []) (Zav Zeh (Zj (Zc 0) Zq)) (by decide) (by decide) (by decide)) (ZA (ZR (O' := []) (Zav Zeh (Zj (Zc 1) Zq)) (by decide) (by decide) (by decide)) (ZA (ZeR (ZL (ZC Zbt (Zc 3) (Zm _))) (ZA (ZR (O' := []) (ZC Zbb (Zc 2) (Zc 3)) (by decide) (by decide) (by decide)) (ZA (ZR (O' := []) (Zc 3) (by decide) (by decide) (by decide)) (ZR (O' := []) (Zc 4) (by decide) (by decide) (by decide)))) 1000000) (ZP (O' := []) (Zc 2) (by decide))))))
noncomputable def ZlB : Sm := Zu (ZV (ZJ (Ze oLt (Zb 0) (Zl 0))) (PM.sNo) Z2) (Zu (ZV (ZJ (Ze oEq (Zb 0) (Zl 0))) (ZH (ZaX (Zg (Zl 0) (Zg (Zb 1) Zp)))) Z2) (ZH (ZaX (Zg (Zb 0) (Zg (Ze oMod (Zb 1) (Zb 0)) Zp)))))
noncomputable def ZfR : List V → Hp → Option (V × Hp) := Zaa 2 ZlB
noncomputable def ZlC : PS := (Zt (ZW (ZF (Zd qLt (Za 0) (Zk 0))) (qNo) Z1) (Zt (ZW (ZF (Zd qEq (Za 0) (Zk 0))) (ZG (Za3 (Zf (Zk 0) (Zf (Za 1) Zn)))) Z1) (ZG (Za3 (Zf (Za 0) (Zf (Zd Za1 (Za 1) (Za 0)) Zn))))))
noncomputable def ZeX : List T → Option T := Zaf 2 ZlC
theorem ZlD : SimF false ZfR ZeX := Zai (show S [] [] [] false ZlB ZlC from (ZA (Z9 (ZL (ZC Zco (Zc 0) (Zm _))) (ZuO (O' := [])) Zac) (ZA (Z9 (ZL (ZC ZaZ (Zc 0) (Zm _))) (ZP (O' := []) (E.tup (Zj (Zm _) (Zj (Zc 1) Zq)) (by decide)) (by decide)) Zac) (ZP (O' := []) (E.tup (Zj (Zc 0) (Zj (ZC Zbb (Zc 1) (Zc 0)) Zq)) (by decide)) (by decide)))))
noncomputable def Zkt : Sm := Zu (ZK 2 (Ze oMod (Zb 0) (Zb 1))) (Zu (ZK 3 (Zb 1)) (Zu (ZK 4 (Zl 1)) (Zu (ZK 5 (Zl 0)) (Zu (ZcK (ZJ (Ze oNe (Zb 3) (Zl 0))) (Zu (ZK 6 (Ze oDiv (Zb 2) (Zb 3))) (Zu (ZK 7 (Ze Za9 (Zb 2) (Ze ZaJ (Zb 6) (Zb 3)))) (Zu (ZK 8 (Ze Za9 (Zb 4) (Ze ZaJ (Zb 6) (Zb 5)))) (Zu (ZK 2 (Zb 3)) (Zu (ZK 4 (Zb 5)) (Zu (ZK 3 (Zb 7)) (ZK 5 (Zb 8)))))))) 1000000) (ZH (Ze oMod (Zb 4) (Zb 1)))))))
noncomputable def Zku : List V → Hp → Option (V × Hp) := Zaa 2 Zkt
noncomputable def Zkv : PS := (Zt (ZI 2 (Zd Za1 (Za 0) (Za 1))) (Zt (ZI 3 (Za 1)) (Zt (ZI 4 (Zk 1)) (Zt (ZI 5 (Zk 0)) (Zt (ZcZ (ZF (Zd qNe (Za 3) (Zk 0))) (Zt (ZI 6 (Zd ZcB (Za 2) (Za 3))) (Zt (ZI 7 (Zd ZaU (Za 2) (Zd Zat (Za 6) (Za 3)))) (Zt (ZI 8 (Zd ZaU (Za 4) (Zd Zat (Za 6) (Za 5)))) (Zt (ZI 2 (Za 3)) (Zt (ZI 4 (Za 5)) (Zt (ZI 3 (Za 7)) (ZI 5 (Za 8)))))))) 1000000) (ZG (Zd Za1 (Za 4) (Za 1))))))))
noncomputable def ZgZ : List T → Option T := Zaf 2 Zkv
theorem Zra : SimF false Zku ZgZ := Zai (show S [] [] [] false Zkt Zkv from (ZA (ZR (O' := []) (ZC Zbb (Zc 0) (Zc 1)) (by decide) (by decide) (by decide)) (ZA (ZR (O' := []) (Zc 1) (by decide) (by decide) (by decide)) (ZA (ZR (O' := []) (Zm _) (by decide) (by decide) (by decide)) (ZA (ZR (O' := []) (Zm _) (by decide) (by decide) (by decide)) (ZA (ZeR (ZL (ZC Zbt (Zc 3) (Zm _))) (ZA (ZR (O' := []) (ZC Zdx (Zc 2) (Zc 3)) (by decide) (by decide) (by decide)) (ZA (ZR (O' := []) (ZC Zbf (Zc 2) (Z0 ZaS (Zc 6) (Zc 3))) (by decide) (by decide) (by decide)) (ZA (ZR (O' := []) (ZC Zbf (Zc 4) (Z0 ZaS (Zc 6) (Zc 5))) (by decide) (by decide) (by decide)) (ZA (ZR (O' := []) (Zc 3) (by decide) (by decide) (by decide)) (ZA (ZR (O' := []) (Zc 5) (by decide) (by decide) (by decide)) (ZA (ZR (O' := []) (Zc 7) (by decide) (by decide) (by decide)) (ZR (O' := []) (Zc 8) (by decide) (by decide) (by decide)))))))) 1000000) (ZP (O' := []) (ZC Zbb (Zc 4) (Zc 1)) (by decide))))))))
noncomputable def ZjS : Sm := Zu (ZV (ZJ (Ze oEq (Ze Zs (Zb 0) (Zl 0)) (Zl 0))) (ZH (eIf (ZJ (ZB ZgK (Zg (Zb 1) (Zg (Ze Zs (Zb 0) (Zl 1)) Zp)))) (Zb 0) (ZX))) Z2) (Zu (ZV (ZJ (Ze oEq (Ze Zs (Zb 1) (Zl 0)) (Zl 0))) (ZH (eIf (ZJ (ZB ZgK (Zg (Zb 0) (Zg (Ze Zs (Zb 1) (Zl 1)) Zp)))) (Zb 1) (ZX))) Z2) (Zu (ZK 2 (ZB ZgY (Zg (Ze Zs (Zb 0) (Zl 0)) (Zg (Ze Zs (Zb 1) (Zl 0)) Zp)))) (Zu (ZK 3 (Ze Za9 (Ze Zs (Zb 1) (Zl 1)) (Ze Zs (Zb 0) (Zl 1)))) (Zu (ZV (ZJ (Ze oNe (Ze oMod (Zb 3) (Zb 2)) (Zl 0))) (ZH (ZX)) Z2) (Zu (ZK 4 (Ze oDiv (Ze Zs (Zb 1) (Zl 0)) (Zb 2))) (Zu (ZK 5 (Ze ZaJ (Ze oDiv (Zb 3) (Zb 2)) (ZB Zku (Zg (Ze oDiv (Ze Zs (Zb 0) (Zl 0)) (Zb 2)) (Zg (Zb 4) Zp))))) (ZH (ZB ZfR (Zg (Ze ZaJ (Ze Zs (Zb 0) (Zl 0)) (Zb 4)) (Zg (Ze Zah (Ze Zs (Zb 0) (Zl 1)) (Ze ZaJ (Ze Zs (Zb 0) (Zl 0)) (Zb 5))) Zp))))))))))
noncomputable def ZjT : List V → Hp → Option (V × Hp) := Zaa 2 ZjS
noncomputable def ZjU : PS := (Zt (ZW (ZF (Zd qEq (Zd Zo (Za 0) (Zk 0)) (Zk 0))) (ZG (pIf (ZF (Zy Zfj (Zf (Za 1) (Zf (Zd Zo (Za 0) (Zk 1)) Zn)))) (Za 0) (ZY))) Z1) (Zt (ZW (ZF (Zd qEq (Zd Zo (Za 1) (Zk 0)) (Zk 0))) (ZG (pIf (ZF (Zy Zfj (Zf (Za 0) (Zf (Zd Zo (Za 1) (Zk 1)) Zn)))) (Za 1) (ZY))) Z1) (Zt (ZI 2 (Zy Zfr (Zf (Zd Zo (Za 0) (Zk 0)) (Zf (Zd Zo (Za 1) (Zk 0)) Zn)))) (Zt (ZI 3 (Zd ZaU (Zd Zo (Za 1) (Zk 1)) (Zd Zo (Za 0) (Zk 1)))) (Zt (ZW (ZF (Zd qNe (Zd Za1 (Za 3) (Za 2)) (Zk 0))) (ZG (ZY)) Z1) (Zt (ZI 4 (Zd ZcB (Zd Zo (Za 1) (Zk 0)) (Za 2))) (Zt (ZI 5 (Zd Zat (Zd ZcB (Za 3) (Za 2)) (Zy ZgZ (Zf (Zd ZcB (Zd Zo (Za 0) (Zk 0)) (Za 2)) (Zf (Za 4) Zn))))) (ZG (Zy ZeX (Zf (Zd Zat (Zd Zo (Za 0) (Zk 0)) (Za 4)) (Zf (Zd Z6 (Zd Zo (Za 0) (Zk 1)) (Zd Zat (Zd Zo (Za 0) (Zk 0)) (Za 5))) Zn)))))))))))
noncomputable def ZgL : List T → Option T := Zaf 2 ZjU
theorem Zqe : SimF false ZjT ZgL := Zai (show S [] [] [] false ZjS ZjU from (ZA (Z9 (ZL (ZC ZaZ (Zx Zw (Zc 0) (Zm _)) (Zm _))) (ZP (O' := []) (ZfY (ZL (ZU Zmv (Zj (Zc 1) (Zj (Zx Zw (Zc 0) (Zm _)) Zq)))) (E.sh (Zc 0)) (E.sh (Zae))) (by decide)) Zac) (ZA (Z9 (ZL (ZC ZaZ (Zx Zw (Zc 1) (Zm _)) (Zm _))) (ZP (O' := []) (ZfY (ZL (ZU Zmv (Zj (Zc 0) (Zj (Zx Zw (Zc 1) (Zm _)) Zq)))) (E.sh (Zc 1)) (E.sh (Zae))) (by decide)) Zac) (ZA (ZR (O' := []) (ZU ZmK (Zj (Zx Zw (Zc 0) (Zm _)) (Zj (Zx Zw (Zc 1) (Zm _)) Zq))) (by decide) (by decide) (by decide)) (ZA (ZR (O' := []) (ZC Zbf (Zx Zw (Zc 1) (Zm _)) (Zx Zw (Zc 0) (Zm _))) (by decide) (by decide) (by decide)) (ZA (Z9 (ZL (ZC Zbt (ZC Zbb (Zc 3) (Zc 2)) (Zm _))) (ZP (O' := []) (Zae) (by decide)) Zac) (ZA (ZR (O' := []) (ZC Zdx (Zx Zw (Zc 1) (Zm _)) (Zc 2)) (by decide) (by decide) (by decide)) (ZA (ZR (O' := []) (Z0 ZaS (ZC Zdx (Zc 3) (Zc 2)) (ZU Zra (Zj (ZC Zdx (Zx Zw (Zc 0) (Zm _)) (Zc 2)) (Zj (Zc 4) Zq)))) (by decide) (by decide) (by decide)) (ZP (O' := []) (ZU ZlD (Zj (Z0 ZaS (Zx Zw (Zc 0) (Zm _)) (Zc 4)) (Zj (Z0 Zal (Zx Zw (Zc 0) (Zm _)) (Z0 ZaS (Zx Zw (Zc 0) (Zm _)) (Zc 5))) Zq))) (by decide))))))))))
noncomputable def Zje : Sm := ZH (ZB ZfR (Zg (ZB ZgY (Zg (Ze Zs (Zb 0) (Zl 0)) (Zg (Ze Zs (Zb 1) (Zl 0)) Zp))) (Zg (Ze Zah (Ze Zs (Zb 0) (Zl 1)) (Ze Zs (Zb 1) (Zl 1))) Zp)))
noncomputable def Zfe : List V → Hp → Option (V × Hp) := Zaa 2 Zje
noncomputable def Zjf : PS := (ZG (Zy ZeX (Zf (Zy Zfr (Zf (Zd Zo (Za 0) (Zk 0)) (Zf (Zd Zo (Za 1) (Zk 0)) Zn))) (Zf (Zd Z6 (Zd Zo (Za 0) (Zk 1)) (Zd Zo (Za 1) (Zk 1))) Zn))))
noncomputable def ZeA : List T → Option T := Zaf 2 Zjf
theorem Zjg : SimF false Zfe ZeA := Zai (show S [] [] [] false Zje Zjf from (ZP (O' := []) (ZU ZlD (Zj (ZU ZmK (Zj (Zx Zw (Zc 0) (Zm _)) (Zj (Zx Zw (Zc 1) (Zm _)) Zq))) (Zj (Z0 Zal (Zx Zw (Zc 0) (Zm _)) (Zx Zw (Zc 1) (Zm _))) Zq))) (by decide)))
noncomputable def ZiN : Sm := ZH (ZB ZfR (Zg (Ze ZaJ (Ze Zs (Zb 0) (Zl 0)) (ZB Zdi (Zg (Zb 1) Zp))) (Zg (Ze ZaJ (Ze Zs (Zb 0) (Zl 1)) (Zb 1)) Zp)))
noncomputable def Zgq : List V → Hp → Option (V × Hp) := Zaa 2 ZiN
noncomputable def ZiO : PS := (ZG (Zy ZeX (Zf (Zd Zat (Zd Zo (Za 0) (Zk 0)) (Zy Zdk (Zf (Za 1) Zn))) (Zf (Zd Zat (Zd Zo (Za 0) (Zk 1)) (Za 1)) Zn))))
noncomputable def Zfa : List T → Option T := Zaf 2 ZiO
theorem Zl9 : SimF false Zgq Zfa := Zai (show S [] [] [] false ZiN ZiO from (ZP (O' := []) (ZU ZlD (Zj (Z0 ZaS (Zx Zw (Zc 0) (Zm _)) (Zav Zeh (Zj (Zc 1) Zq))) (Zj (Z0 ZaS (Zx Zw (Zc 0) (Zm _)) (Zc 1)) Zq))) (by decide)))
noncomputable def ZiQ : Sm := Zu (ZV (ZJ (Ze oEq (Ze Zs (Zb 0) (Zl 0)) (Zl 0))) (ZH (eIf (ZJ (Ze oLe (Ze Zs (Zb 0) (Zl 1)) (Zb 1))) (Ze Zs (Zb 0) (Zl 1)) (ZX))) Z2) (ZH (Ze Za9 (Zb 1) (Ze oMod (Ze Za9 (Zb 1) (Ze Zs (Zb 0) (Zl 1))) (Ze Zs (Zb 0) (Zl 0)))))
noncomputable def ZiR : List V → Hp → Option (V × Hp) := Zaa 2 ZiQ
noncomputable def ZiS : PS := (Zt (ZW (ZF (Zd qEq (Zd Zo (Za 0) (Zk 0)) (Zk 0))) (ZG (pIf (ZF (Zd qLe (Zd Zo (Za 0) (Zk 1)) (Za 1))) (Zd Zo (Za 0) (Zk 1)) (ZY))) Z1) (ZG (Zd ZaU (Za 1) (Zd Za1 (Zd ZaU (Za 1) (Zd Zo (Za 0) (Zk 1))) (Zd Zo (Za 0) (Zk 0))))))
noncomputable def Zgr : List T → Option T := Zaf 2 ZiS
theorem Zpq : SimF false ZiR Zgr := Zai (show S [] [] [] false ZiQ ZiS from (ZA (Z9 (ZL (ZC ZaZ (Zx Zw (Zc 0) (Zm _)) (Zm _))) (ZP (O' := []) (ZfY (ZL (ZC ZlU (Zx Zw (Zc 0) (Zm _)) (Zc 1))) (E.sh (Zx Zw (Zc 0) (Zm _))) (E.sh (Zae))) (by decide)) Zac) (ZP (O' := []) (ZC Zbf (Zc 1) (ZC Zbb (ZC Zbf (Zc 1) (Zx Zw (Zc 0) (Zm _))) (Zx Zw (Zc 0) (Zm _)))) (by decide))))
noncomputable def ZkU : Sm := ZH (eIf (ZJ (ZB Zjc (Zg (Zb 0) (Zg (Zb 1) Zp)))) (Zb 0) (Zb 1))
noncomputable def ZkV : List V → Hp → Option (V × Hp) := Zaa 2 ZkU
noncomputable def ZkW : PS := (ZG (pIf (ZF (Zy Zgz (Zf (Za 0) (Zf (Za 1) Zn)))) (Za 0) (Za 1)))
noncomputable def Zg9 : List T → Option T := Zaf 2 ZkW
theorem Zr6 : SimF false ZkV Zg9 := Zai (show S [] [] [] false ZkU ZkW from (ZP (O' := []) (ZfY (ZL (ZU ZpO (Zj (Zc 0) (Zj (Zc 1) Zq)))) (E.sh (Zc 0)) (E.sh (Zc 1))) (by decide)))
noncomputable def ZjV : Sm := Zu (ZV (tOr (ZJ (Ze oIs (Zb 0) (ZX))) (tOr (ZJ (Ze oIs (Zb 1) (ZX))) Zch)) (ZH (ZX)) Z2) (ZH (Ze Zah (Zb 0) (Zb 1)))
noncomputable def Zd2 : List V → Hp → Option (V × Hp) := Zaa 2 ZjV
noncomputable def ZjW : PS := (Zt (ZW (bOr (ZF (Zd qIs (Za 0) (ZY))) (bOr (ZF (Zd qIs (Za 1) (ZY))) Zci)) (ZG (ZY)) Z1) (ZG (Zd Z6 (Za 0) (Za 1))))
noncomputable def ZdH : List T → Option T := Zaf 2 ZjW
theorem Zfk : SimF false Zd2 ZdH := Zai (show S [] [] [] false ZjV ZjW from (ZA (Z9 (Zbp (ZL (ZC ZbA (Zc 0) (Zae))) (Zbp (ZL (ZC ZbA (Zc 1) (Zae))) ZcG)) (ZP (O' := []) (Zae) (by decide)) Zac) (ZP (O' := []) (Z0 Zal (Zc 0) (Zc 1)) (by decide))))
noncomputable def Zh0 : Sm := ZH (Zaz (ZdB (Zb 0) (Zb 2)) (Zca 100 101) Zaq (ZB ZkV (Zg (Zb 100) (Zg (ZB Zd2 (Zg (Zb 1) (Zg (Zb 101) Zp))) Zp))))
noncomputable def Zh1 : List V → Hp → Option (V × Hp) := Zaa 3 Zh0
noncomputable def Zh2 : PS := (ZG (Zan (ZdC (Za 0) (Za 2)) (Zcz 100 101) Zad (ZbV (Zy Zg9 (Zf (Za 100) (Zf (Zy ZdH (Zf (Za 1) (Zf (Za 101) Zn))) Zn))))))
noncomputable def Zgd : List T → Option T := Zaf 3 Zh2
theorem ZoF : SimF true Zh1 Zgd := Zai (show S [] [] [] true Zh0 Zh2 from (ZcY (O' := []) (Zdr (Gs.zip (Zc 0) (Zc 2)) (PutOk.two (by decide) (by decide) (by decide)) (by decide) Zay (E.flat (ZU Zr6 (Zj (Zc 100) (Zj (ZU Zfk (Zj (Zc 1) (Zj (Zc 101) Zq))) Zq))))) (by decide) (by decide)))
noncomputable def Zjh : Sm := ZH (Zaz (Zbj (Zb 0)) (Zam 100) Zaq (ZB Zh1 (Zg (Zb 100) (Zg (Ze Zs (Zb 100) (Zb 1)) (Zg (Ze Zs (Zb 0) (Zb 1)) Zp)))))
noncomputable def Zji : List V → Hp → Option (V × Hp) := Zaa 2 Zjh
noncomputable def Zjj : PS := (ZG (Zan (ZaE (Za 0)) (Z5 100) Zad (Zy Zgd (Zf (Za 100) (Zf (Zd Zo (Za 100) (Za 1)) (Zf (Zd Zo (Za 0) (Za 1)) Zn))))))
noncomputable def ZgA : List T → Option T := Zaf 2 Zjj
theorem Zmi : SimF true Zji ZgA := Zai (show S [] [] [] true Zjh Zjj from (ZcY (O' := []) (Zdr (Gs.seq (Zc 0)) (PutOk.one (by decide)) (by decide) Zay (ZdR ZoF (Zj (Zc 100) (Zj (Zx Zw (Zc 100) (Zc 1)) (Zj (Zx Zw (Zc 0) (Zc 1)) Zq))))) (by decide) (by decide)))
noncomputable def Zic : Sm := ZH (ZB Zf5 (Zg (Zaz (ZaR (Zg (ZB Zax (Zg (Zb 0) Zp)) Zp)) (Zam 100) Zaq (Ze oLt (Ze Zs (Ze Zs (Zb 0) (Zb 100)) (Zb 100)) (Zl 0))) Zp))
noncomputable def Zid : List V → Hp → Option (V × Hp) := Zaa 1 Zic
noncomputable def Zie : PS := (ZG (Zy Zf6 (Zf (Zan (ZaG (Zf (Zy Zao (Zf (Za 0) Zn)) Zn)) (Z5 100) Zad (Zd qLt (Zd Zo (Zd Zo (Za 0) (Za 100)) (Za 100)) (Zk 0))) Zn)))
noncomputable def Zgh : List T → Option T := Zaf 1 Zie
theorem Zl3 : SimF false Zid Zgh := Zai (show S [] [] [] false Zic Zie from (ZP (O' := []) (Zav Zup (Zj (Zbw (Gs.range (Zj (Zav ZaI (Zj (Zc 0) Zq)) Zq)) (PutOk.one (by decide)) (by decide) Zay (ZC Zco (Zx Zw (Zx Zw (Zc 0) (Zc 100)) (Zc 100)) (Zm _))) Zq)) (by decide)))
noncomputable def ZkX : Sm := Zu (ZK 1 (Zb 0)) (Zu (ZaY (ZaR (Zg (ZB Zax (Zg (Zb 0) Zp)) Zp)) (Zam 2) (Zu (ZK 1 (ZB Zji (Zg (Zb 1) (Zg (Zb 2) Zp)))) (ZV (ZJ (ZB Zid (Zg (Zb 1) Zp))) (ZH (ZX)) Z2))) (ZH (Zb 1)))
noncomputable def ZeL : List V → Hp → Option (V × Hp) := Zaa 1 ZkX
noncomputable def ZkY : PS := (Zt (ZI 1 (Za 0)) (Zt (ZhQ (ZaG (Zf (Zy Zao (Zf (Za 0) Zn)) Zn)) (Z5 2) (Zt (ZI 1 (Zy ZgA (Zf (Za 1) (Zf (Za 2) Zn)))) (ZW (ZF (Zy Zgh (Zf (Za 1) Zn))) (ZG (ZY)) Z1))) (ZG (Za 1))))
noncomputable def Zfy : List T → Option T := Zaf 1 ZkY
theorem Zr7 : SimF true ZeL Zfy := Zai (show S [] [1] [] true ZkX ZkY from (ZA (ZR (O' := []) (Zc 0) (by decide) (by decide) (by decide)) (ZA (Zub (Gs.range (Zj (Zav ZaI (Zj (Zc 0) Zq)) Zq)) (PutOk.one (by decide)) (PutOk.one (by decide)) (by decide) (by decide) (by decide) (ZA (Zcw (O' := [1]) (ZdR Zmi (Zj (Zc 1) (Zj (Zc 2) Zq))) (by decide)) (Z9 (ZL (ZU Zl3 (Zj (Zc 1) Zq))) (ZcY (O' := [1]) (Zae) (by decide) (by decide)) Zac)) (ZA (Zcw (O' := [1]) (Zbg (O' := []) (ZdR Zmi (Zj (Zc 1) (Zj (Zc 2) Zq))) (by decide)) (by decide)) (Z9 (ZL (ZU Zl3 (Zj (Zc 1) Zq))) (ZcY (O' := [1]) (Zae) (by decide) (by decide)) Zac))) (ZcY (O' := [1]) (E.own (by decide)) (by decide) (by decide)))))
noncomputable def Zjk : Sm := ZH (Zem (eIs "int" (Zb 0)) (ZhS (eIs "bool" (Zb 0))))
noncomputable def Zff : List V → Hp → Option (V × Hp) := Zaa 1 Zjk
noncomputable def Zjl : PS := (ZG ((Zep (pIs "int" (Za 0)) (ZhV (pIs "bool" (Za 0))))))
noncomputable def ZeB : List T → Option T := Zaf 1 Zjl
theorem Zjm : SimF false Zff ZeB := Zai (show S [] [] [] false Zjk Zjl from (ZP (O' := []) ((ZlN (E.sh (Zeq (Zc 0))) (E.sh (Zun (Zeq (Zc 0)))))) (by decide)))
noncomputable def ZjX : Sm := Zu (ZV (tOr (Zcm (ZJ (eIs "list" (Zb 0)))) (tOr (ZJ (Ze oNe (ZB Zax (Zg (Zb 0) Zp)) (Zb 1))) Zch)) (ZH (Zbz false)) Z2) (Zu (ZaY (ZaR (Zg (Zb 1) Zp)) (Zam 2) (Zu (ZV (tOr (Zcm (ZJ (eIs "list" (Ze Zs (Zb 0) (Zb 2))))) (tOr (ZJ (Ze oNe (ZB Zax (Zg (Ze Zs (Zb 0) (Zb 2)) Zp)) (Zb 1))) Zch)) (ZH (Zbz false)) Z2) (Zu (ZaY (Zbj (Ze Zs (Zb 0) (Zb 2))) (Zam 3) (ZV (ZaB (ZJ (Ze Zb2 (Zb 3) (ZX))) (ZaB (Zcm (ZJ (ZB Zff (Zg (Zb 3) Zp)))) Zaq)) (ZH (Zbz false)) Z2)) (ZV (ZJ (Ze oNe (Ze Zs (Ze Zs (Zb 0) (Zb 2)) (Zb 2)) (Zl 0))) (ZH (Zbz false)) Z2)))) (ZH (Zbz true)))
noncomputable def ZjY : List V → Hp → Option (V × Hp) := Zaa 2 ZjX
noncomputable def ZjZ : PS := (Zt (ZW (bOr (Zb3 (ZF (pIs "list" (Za 0)))) (bOr (ZF (Zd qNe (Zy Zao (Zf (Za 0) Zn)) (Za 1))) Zci)) (ZG (Zbs false)) Z1) (Zt (ZaO (ZaG (Zf (Za 1) Zn)) (Z5 2) (Zt (ZW (bOr (Zb3 (ZF (pIs "list" (Zd Zo (Za 0) (Za 2))))) (bOr (ZF (Zd qNe (Zy Zao (Zf (Zd Zo (Za 0) (Za 2)) Zn)) (Za 1))) Zci)) (ZG (Zbs false)) Z1) (Zt (ZaO (ZaE (Zd Zo (Za 0) (Za 2))) (Z5 3) (ZW (Zaw (ZF (Zd ZbC (Za 3) (ZY))) (Zaw (Zb3 (ZF (Zy ZeB (Zf (Za 3) Zn)))) Zad)) (ZG (Zbs false)) Z1)) (ZW (ZF (Zd qNe (Zd Zo (Zd Zo (Za 0) (Za 2)) (Za 2)) (Zk 0))) (ZG (Zbs false)) Z1)))) (ZG (Zbs true))))
noncomputable def ZgM : List T → Option T := Zaf 2 ZjZ
theorem Zqf : SimF false ZjY ZgM := Zai (show S [] [] [] false ZjX ZjZ from (ZA (Z9 (Zbp (ZcL (ZL (Zeq (Zc 0)))) (Zbp (ZL (ZC Zbt (Zav ZaI (Zj (Zc 0) Zq)) (Zc 1))) ZcG)) (ZP (O' := []) (E.bool _) (by decide)) Zac) (ZA (Zbh (Gs.range (Zj (Zc 1) Zq)) (PutOk.one (by decide)) (by decide) (by decide) (ZA (Z9 (Zbp (ZcL (ZL (Zeq (Zx Zw (Zc 0) (Zc 2))))) (Zbp (ZL (ZC Zbt (Zav ZaI (Zj (Zx Zw (Zc 0) (Zc 2)) Zq)) (Zc 1))) ZcG)) (ZP (O' := []) (E.bool _) (by decide)) Zac) (ZA (Zbh (Gs.seq (Zx Zw (Zc 0) (Zc 2))) (PutOk.one (by decide)) (by decide) (by decide) (Z9 (ZaN (ZL (ZC Zcg (Zc 3) (Zae))) (ZaN (ZcL (ZL (ZU Zjm (Zj (Zc 3) Zq)))) Zay)) (ZP (O' := []) (E.bool _) (by decide)) Zac)) (Z9 (ZL (ZC Zbt (Zx Zw (Zx Zw (Zc 0) (Zc 2)) (Zc 2)) (Zm _))) (ZP (O' := []) (E.bool _) (by decide)) Zac)))) (ZP (O' := []) (E.bool _) (by decide)))))
noncomputable def Zif : Sm := ZH (ZaX (Zg (ZB Zd2 (Zg (Ze Zs (Zb 0) (Zl 0)) (Zg (Ze Zs (Zb 1) (Zl 0)) Zp))) (Zg (ZB Zd2 (Zg (Ze Zs (Zb 0) (Zl 1)) (Zg (Ze Zs (Zb 1) (Zl 1)) Zp))) Zp)))
noncomputable def Zig : List V → Hp → Option (V × Hp) := Zaa 2 Zif
noncomputable def Zih : PS := (ZG (Za3 (Zf (Zy ZdH (Zf (Zd Zo (Za 0) (Zk 0)) (Zf (Zd Zo (Za 1) (Zk 0)) Zn))) (Zf (Zy ZdH (Zf (Zd Zo (Za 0) (Zk 1)) (Zf (Zd Zo (Za 1) (Zk 1)) Zn))) Zn))))
noncomputable def Zgi : List T → Option T := Zaf 2 Zih
theorem ZoS : SimF false Zig Zgi := Zai (show S [] [] [] false Zif Zih from (ZP (O' := []) (E.tup (Zj (ZU Zfk (Zj (Zx Zw (Zc 0) (Zm _)) (Zj (Zx Zw (Zc 1) (Zm _)) Zq))) (Zj (ZU Zfk (Zj (Zx Zw (Zc 0) (Zm _)) (Zj (Zx Zw (Zc 1) (Zm _)) Zq))) Zq)) (by decide)) (by decide)))
noncomputable def Zjn : Sm := Zu (ZV (ZJ (Ze oIs (Zb 0) (ZX))) (ZH (ZX)) Z2) (ZH (Ze ZaJ (Zb 0) (Zb 1)))
noncomputable def Zfg : List V → Hp → Option (V × Hp) := Zaa 2 Zjn
noncomputable def Zjo : PS := (Zt (ZW (ZF (Zd qIs (Za 0) (ZY))) (ZG (ZY)) Z1) (ZG (Zd Zat (Za 0) (Za 1))))
noncomputable def ZeC : List T → Option T := Zaf 2 Zjo
theorem Zjp : SimF false Zfg ZeC := Zai (show S [] [] [] false Zjn Zjo from (ZA (Z9 (ZL (ZC ZbA (Zc 0) (Zae))) (ZP (O' := []) (Zae) (by decide)) Zac) (ZP (O' := []) (Z0 ZaS (Zc 0) (Zc 1)) (by decide))))
noncomputable def Zh3 : Sm := Zu (ZV (ZJ (Ze oEq (Zb 1) (Zl 0))) (ZH (ZaX (Zg (Zl 0) (Zg (Zl 0) Zp)))) Z2) (Zu (ZK 2 (ZB Zfg (Zg (Ze Zs (Zb 0) (Zl 0)) (Zg (Zb 1) Zp)))) (Zu (ZK 3 (ZB Zfg (Zg (Ze Zs (Zb 0) (Zl 1)) (Zg (Zb 1) Zp)))) (Zu (ZV (ZJ (Ze oLt (Zb 1) (Zl 0))) (ZH (ZaX (Zg (Zb 3) (Zg (Zb 2) Zp)))) Z2) (ZH (ZaX (Zg (Zb 2) (Zg (Zb 3) Zp)))))))
noncomputable def Zh4 : List V → Hp → Option (V × Hp) := Zaa 2 Zh3
noncomputable def Zh5 : PS := (Zt (ZW (ZF (Zd qEq (Za 1) (Zk 0))) (ZG (Za3 (Zf (Zk 0) (Zf (Zk 0) Zn)))) Z1) (Zt (ZI 2 (Zy ZeC (Zf (Zd Zo (Za 0) (Zk 0)) (Zf (Za 1) Zn)))) (Zt (ZI 3 (Zy ZeC (Zf (Zd Zo (Za 0) (Zk 1)) (Zf (Za 1) Zn)))) (Zt (ZW (ZF (Zd qLt (Za 1) (Zk 0))) (ZG (Za3 (Zf (Za 3) (Zf (Za 2) Zn)))) Z1) (ZG (Za3 (Zf (Za 2) (Zf (Za 3) Zn))))))))
noncomputable def Zge : List T → Option T := Zaf 2 Zh5
theorem ZoG : SimF false Zh4 Zge := Zai (show S [] [] [] false Zh3 Zh5 from (ZA (Z9 (ZL (ZC ZaZ (Zc 1) (Zm _))) (ZP (O' := []) (E.tup (Zj (Zm _) (Zj (Zm _) Zq)) (by decide)) (by decide)) Zac) (ZA (ZR (O' := []) (ZU Zjp (Zj (Zx Zw (Zc 0) (Zm _)) (Zj (Zc 1) Zq))) (by decide) (by decide) (by decide)) (ZA (ZR (O' := []) (ZU Zjp (Zj (Zx Zw (Zc 0) (Zm _)) (Zj (Zc 1) Zq))) (by decide) (by decide) (by decide)) (ZA (Z9 (ZL (ZC Zco (Zc 1) (Zm _))) (ZP (O' := []) (E.tup (Zj (Zc 3) (Zj (Zc 2) Zq)) (by decide)) (by decide)) Zac) (ZP (O' := []) (E.tup (Zj (Zc 2) (Zj (Zc 3) Zq)) (by decide)) (by decide)))))))
noncomputable def Ziw : Sm := Zu (ZK 2 (ZaX (Zg (Ze Zs (Zb 0) (Zl 0)) (Zg (Ze Zs (Zb 0) (Zl 0)) Zp)))) (Zu (ZaY (ZdB (Zdw (Zb 0) 1) (Zb 1)) (Zca 3 4) (ZK 2 (ZB Zig (Zg (Zb 2) (Zg (ZB Zh4 (Zg (Zb 4) (Zg (Zb 3) Zp))) Zp))))) (ZH (Zb 2)))
noncomputable def Zix : List V → Hp → Option (V × Hp) := Zaa 2 Ziw
noncomputable def Ziy : PS := (Zt (ZI 2 (Za3 (Zf (Zd Zo (Za 0) (Zk 0)) (Zf (Zd Zo (Za 0) (Zk 0)) Zn)))) (Zt (ZaO (ZdC (Zdg (Za 0) 1) (Za 1)) (Zcz 3 4) (ZI 2 (Zy Zgi (Zf (Za 2) (Zf (Zy Zge (Zf (Za 4) (Zf (Za 3) Zn))) Zn))))) (ZG (Za 2))))
noncomputable def Zgm : List T → Option T := Zaf 2 Ziy
theorem Zo8 : SimF false Zix Zgm := Zai (show S [] [] [] false Ziw Ziy from (ZA (ZR (O' := []) (E.tup (Zj (Zx Zw (Zc 0) (Zm _)) (Zj (Zx Zw (Zc 0) (Zm _)) Zq)) (by decide)) (by decide) (by decide) (by decide)) (ZA (Zbh (Gs.zip (ZhC (Zc 0)) (Zc 1)) (PutOk.two (by decide) (by decide) (by decide)) (by decide) (by decide) (ZR (O' := []) (ZU ZoS (Zj (Zc 2) (Zj (ZU ZoG (Zj (Zc 4) (Zj (Zc 3) Zq))) Zq))) (by decide) (by decide) (by decide))) (ZP (O' := []) (Zc 2) (by decide)))))
noncomputable def Zj0 : Sm := Zu (ZK 2 (ZaX (Zg (Zl 0) (Zg (Ze Zs (Zb 0) (Zl 0)) Zp)))) (Zu (ZaY (ZdB (Zdw (Zb 0) 1) (Zb 1)) (Zca 3 4) (ZK 2 (ZB Zfe (Zg (Zb 2) (Zg (ZB Zgq (Zg (Zb 4) (Zg (Zb 3) Zp))) Zp))))) (ZH (Zb 2)))
noncomputable def Zj1 : List V → Hp → Option (V × Hp) := Zaa 2 Zj0
noncomputable def Zj2 : PS := (Zt (ZI 2 (Za3 (Zf (Zk 0) (Zf (Zd Zo (Za 0) (Zk 0)) Zn)))) (Zt (ZaO (ZdC (Zdg (Za 0) 1) (Za 1)) (Zcz 3 4) (ZI 2 (Zy ZeA (Zf (Za 2) (Zf (Zy Zfa (Zf (Za 4) (Zf (Za 3) Zn))) Zn))))) (ZG (Za 2))))
noncomputable def ZgN : List T → Option T := Zaf 2 Zj2
theorem Zqg : SimF false Zj1 ZgN := Zai (show S [] [] [] false Zj0 Zj2 from (ZA (ZR (O' := []) (E.tup (Zj (Zm _) (Zj (Zx Zw (Zc 0) (Zm _)) Zq)) (by decide)) (by decide) (by decide) (by decide)) (ZA (Zbh (Gs.zip (ZhC (Zc 0)) (Zc 1)) (PutOk.two (by decide) (by decide) (by decide)) (by decide) (by decide) (ZR (O' := []) (ZU Zjg (Zj (Zc 2) (Zj (ZU Zl9 (Zj (Zc 4) (Zj (Zc 3) Zq))) Zq))) (by decide) (by decide) (by decide))) (ZP (O' := []) (Zc 2) (by decide)))))
noncomputable def Ziz : Sm := ZH (Ze Zah (Zbe (Zg (ZaX (Zg (Zl 0) (Zg (Zl 0) Zp))) Zp)) (Zb 0))
noncomputable def Zex : List V → Hp → Option (V × Hp) := Zaa 1 Ziz
noncomputable def ZiA : PS := (ZG (Zd Z6 (Za2 (Zf (Za3 (Zf (Zk 0) (Zf (Zk 0) Zn))) Zn)) (Za 0)))
noncomputable def Zey : List T → Option T := Zaf 1 ZiA
theorem ZiB : SimF false Zex Zey := Zai (show S [] [] [] false Ziz ZiA from (ZP (O' := []) (Z0 Zal (E.list (Zj (E.tup (Zj (Zm _) (Zj (Zm _) Zq)) (by decide)) Zq) (by decide)) (Zc 0)) (by decide)))
noncomputable def Zii : Sm := Zu (ZK 3 (Ze Zs (Zb 1) (Zb 2))) (Zu (ZaY (ZhM (Zb 1)) (Zca 4 5) (ZV (ZaB (ZJ (Ze Zb2 (Zb 3) (ZX))) (ZaB (ZJ (Ze oEq (ZB Zd2 (Zg (Ze Zs (Ze Zs (Zb 0) (Zb 2)) (Zb 4)) (Zg (Ze Zs (Ze Zs (Zb 0) (Zb 4)) (Zb 2)) Zp))) (Zl 0))) Zaq)) (ZK 3 (ZB ZjT (Zg (Zb 3) (Zg (ZB Zfe (Zg (Zb 5) (Zg (ZaX (Zg (Zl 0) (Zg (Ze Zs (Ze Zs (Zb 0) (Zb 2)) (Zb 4)) Zp))) Zp))) Zp)))) Z2)) (ZH (Zb 3)))
noncomputable def Ze6 : List V → Hp → Option (V × Hp) := Zaa 3 Zii
noncomputable def Zij : PS := (Zt (ZI 3 (Zd Zo (Za 1) (Za 2))) (Zt (ZaO (ZhP (Za 1)) (Zcz 4 5) (ZW (Zaw (ZF (Zd ZbC (Za 3) (ZY))) (Zaw (ZF (Zd qEq (Zy ZdH (Zf (Zd Zo (Zd Zo (Za 0) (Za 2)) (Za 4)) (Zf (Zd Zo (Zd Zo (Za 0) (Za 4)) (Za 2)) Zn))) (Zk 0))) Zad)) (ZI 3 (Zy ZgL (Zf (Za 3) (Zf (Zy ZeA (Zf (Za 5) (Zf (Za3 (Zf (Zk 0) (Zf (Zd Zo (Zd Zo (Za 0) (Za 2)) (Za 4)) Zn))) Zn))) Zn)))) Z1)) (ZG (Za 3))))
noncomputable def ZdZ : List T → Option T := Zaf 3 Zij
theorem Zl4 : SimF false Ze6 ZdZ := Zai (show S [] [] [] false Zii Zij from (ZA (ZR (O' := []) (Zx Zw (Zc 1) (Zc 2)) (by decide) (by decide) (by decide)) (ZA (Zbh (Zs4 (Zc 1)) (PutOk.two (by decide) (by decide) (by decide)) (by decide) (by decide) (Z9 (ZaN (ZL (ZC Zcg (Zc 3) (Zae))) (ZaN (ZL (ZC ZaZ (ZU Zfk (Zj (Zx Zw (Zx Zw (Zc 0) (Zc 2)) (Zc 4)) (Zj (Zx Zw (Zx Zw (Zc 0) (Zc 4)) (Zc 2)) Zq))) (Zm _))) Zay)) (ZR (O' := []) (ZU Zqe (Zj (Zc 3) (Zj (ZU Zjg (Zj (Zc 5) (Zj (E.tup (Zj (Zm _) (Zj (Zx Zw (Zx Zw (Zc 0) (Zc 2)) (Zc 4)) Zq)) (by decide)) Zq))) Zq))) (by decide) (by decide) (by decide)) Zac)) (ZP (O' := []) (Zc 3) (by decide)))))
noncomputable def Ze7 : Sm := Zu (ZV (ZJ (Ze oIs (Zb 0) (ZX))) (ZH (ZX)) Z2) (Zu (ZK 1 (ZB Zex (Zg (Ze Zs (Zb 0) (Zl 1)) Zp))) (Zu (ZK 2 (Zaz (ZaR (Zg (Zl 1) (Zg (ZB Zax (Zg (Zb 1) Zp)) Zp))) (Zam 100) Zaq (ZB Ze6 (Zg (Ze Zs (Zb 0) (Zl 0)) (Zg (Zb 1) (Zg (Zb 100) Zp)))))) (Zu (ZV (ZJ (Ze oIn (ZX) (Zb 2))) (ZH (ZX)) Z2) (ZH (ZaX (Zg (Ze Zs (Zb 0) (Zl 0)) (Zg (Zb 2) Zp)))))))
noncomputable def ZdE : List V → Hp → Option (V × Hp) := Zaa 1 Ze7
noncomputable def Ze8 : PS := (Zt (ZW (ZF (Zd qIs (Za 0) (ZY))) (ZG (ZY)) Z1) (Zt (ZI 1 (Zy Zey (Zf (Zd Zo (Za 0) (Zk 1)) Zn))) (Zt (ZI 2 (Zan (ZaG (Zf (Zk 1) (Zf (Zy Zao (Zf (Za 1) Zn)) Zn))) (Z5 100) Zad (Zy ZdZ (Zf (Zd Zo (Za 0) (Zk 0)) (Zf (Za 1) (Zf (Za 100) Zn)))))) (Zt (ZW (ZF (Zd qIn (ZY) (Za 2))) (ZG (ZY)) Z1) (ZG (Za3 (Zf (Zd Zo (Za 0) (Zk 0)) (Zf (Za 2) Zn))))))))
noncomputable def Zdn : List T → Option T := Zaf 1 Ze8
theorem Zo9 : SimF false ZdE Zdn := Zai (show S [] [] [] false Ze7 Ze8 from (ZA (Z9 (ZL (ZC ZbA (Zc 0) (Zae))) (ZP (O' := []) (Zae) (by decide)) Zac) (ZA (ZR (O' := []) (ZU ZiB (Zj (Zx Zw (Zc 0) (Zm _)) Zq)) (by decide) (by decide) (by decide)) (ZA (ZR (O' := []) (Zbw (Gs.range (Zj (Zm _) (Zj (Zav ZaI (Zj (Zc 1) Zq)) Zq))) (PutOk.one (by decide)) (by decide) Zay (ZU Zl4 (Zj (Zx Zw (Zc 0) (Zm _)) (Zj (Zc 1) (Zj (Zc 100) Zq))))) (by decide) (by decide) (by decide)) (ZA (Z9 (ZL (ZC Zf9 (Zae) (Zc 2))) (ZP (O' := []) (Zae) (by decide)) Zac) (ZP (O' := []) (E.tup (Zj (Zx Zw (Zc 0) (Zm _)) (Zj (Zc 2) Zq)) (by decide)) (by decide)))))))
noncomputable def ZhG : Sm := Zu (ZV (ZJ (Ze oIs (Zb 0) (ZX))) (ZH (ZX)) Z2) (Zu (ZK 1 (ZB ZeL (Zg (Ze Zs (Zb 0) (Zl 0)) Zp))) (Zu (ZV (ZJ (Ze oIs (Zb 1) (ZX))) (ZH (ZX)) Z2) (ZH (ZaX (Zg (Zb 1) (Zg (Ze Zs (Zb 0) (Zl 1)) Zp))))))
noncomputable def ZdP : List V → Hp → Option (V × Hp) := Zaa 1 ZhG
noncomputable def ZhH : PS := (Zt (ZW (ZF (Zd qIs (Za 0) (ZY))) (ZG (ZY)) Z1) (Zt (ZI 1 (Zy Zfy (Zf (Zd Zo (Za 0) (Zk 0)) Zn))) (Zt (ZW (ZF (Zd qIs (Za 1) (ZY))) (ZG (ZY)) Z1) (ZG (Za3 (Zf (Za 1) (Zf (Zd Zo (Za 0) (Zk 1)) Zn)))))))
noncomputable def ZdQ : List T → Option T := Zaf 1 ZhH
noncomputable def ZlE : Sm := ZH (ZB ZdE (Zg (ZB ZdP (Zg (Zb 0) Zp)) Zp))
noncomputable def ZeY : List V → Hp → Option (V × Hp) := Zaa 1 ZlE
noncomputable def ZhI : PS := (ZG (Zy Zdn (Zf (Zy ZdQ (Zf (Za 0) Zn)) Zn)))
noncomputable def ZfI : T → Bool
 | .none => true
 | .tup [_, .lst ts] => T.flats ts
 | _ => false
noncomputable def Zd9 : List T → Option T := fun ts => (Zaf 1 ZhI ts).bind fun t => if ZfI t then some t else none
theorem Zog {H : Hp} {a : V} {t : T} {F : List Nat} (hp : 0 < H.length) (r : RF H a t F) : St ⟨H, [], fun x => x ∈ F⟩ [] (fun i => [a][i]?) (fun i => [t][i]?) H (fun _ => F) := by
 refine ⟨fun i u e => ?_, fun i u e x m => .inr m, fun i hi => (nomatch hi), Nat.le_refl _, fun x _ _ => rfl, hp, by simp⟩
 cases i with
 | zero => cases e; exact ⟨a, rfl, r⟩
 | succ i => simp at e
theorem ZnF {ρ : Lc} {H : Hp} {a : V} {t : T} {F : List Nat} (e : ρ 0 = some a) (r : RF H a t F) (ht : t ≠ .none) : ZV (ZJ (Ze oIs (Zb 0) (ZX))) (ZH (ZX)) Z2 ρ H = some (none, ρ, H) := by
 cases r <;> first | exact absurd rfl ht | simp [ZV, ZJ, Ze, Zb, e, ZX, oIs, Zcu, Z2]
theorem ZnG {σ : TL} {t : T} (e : σ 0 = some t) (ht : t ≠ .none) : ZW (ZF (Zd qIs (Za 0) (ZY))) (ZG (ZY)) Z1 σ = some (none, σ) := by
 cases t <;> first | exact absurd rfl ht | simp [ZW, ZF, Zd, Za, e, ZY, qIs, ZbJ, Z1]
theorem ZnH {σ : TL} (e : σ 0 = some .none) : ZW (ZF (Zd qIs (Za 0) (ZY))) (ZG (ZY)) Z1 σ = some (some .none, σ) := by
 simp [ZW, ZF, Zd, Za, e, ZY, qIs, ZbJ, ZG]
theorem ZlW {a b : PS} {σ σ1 : TL} (h : a σ = some (none, σ1)) : Zt a b σ = b σ1 := by simp only [Zt, h, Option.bind_some]
theorem ZoA {a b : PS} {σ σ1 : TL} {t : T} (h : a σ = some (some t, σ1)) : Zt a b σ = some (some t, σ1) := by simp only [Zt, h, Option.bind_some]
theorem Zej {a b : Sm} {ρ ρ1 : Lc} {H H1 : Hp} (h : a ρ H = some (none, ρ1, H1)) : Zu a b ρ H = b ρ1 H1 := by simp only [Zu, h, Option.bind_some]
theorem ZuB {a b : Sm} {ρ ρ1 : Lc} {H H1 : Hp} {v : V} (h : a ρ H = some (some v, ρ1, H1)) : Zu a b ρ H = some (some v, ρ1, H1) := by simp only [Zu, h, Option.bind_some]
theorem Zqh {H : Hp} {a : V} {t u : T} {F : List Nat} (hp : 0 < H.length) (r : RF H a t F) (h : ZdQ [t] = some u) :
  (u = .none ∧ ∃ X, ZdP [a] H = some (.none, H ++ X)) ∨ ∃ w0 v1 u0 u1 X F0 F1, u = .tup [u0, u1] ∧ ZdP [a] H = some (.tup [w0, v1], H ++ X) ∧ RF (H ++ X) w0 u0 F0 ∧ F0.Nodup ∧ (∀ x ∈ F0, H.length ≤ x) ∧ RF (H ++ X) v1 u1 F1 := by
 have st := Zog hp r
 unfold ZdQ Zaf at h
 simp only [List.length_cons, List.length_nil, Nat.zero_add, if_true] at h
 obtain ⟨r1, h, h0⟩ := Zz1.mp h
 unfold ZhH at h
 by_cases hn : t = .none
 ·subst hn
  rw [ZoA (ZnH rfl)] at h
  cases h
  cases h0
  cases r
  exact .inl ⟨rfl, [], by simp [ZdP, Zaa, ZhG, Zu, ZV, ZJ, Ze, Zb, ZX, oIs, Zcu, ZH]⟩
 ·rw [ZlW (ZnG (σ := fun i => [t][i]?) rfl hn)] at h
  have ev : ∀ b : Sm, Zu (ZV (ZJ (Ze oIs (Zb 0) (ZX))) (ZH (ZX)) Z2) b (fun i => [a][i]?) H = b (fun i => [a][i]?) H := fun b => Zej (ZnF rfl r hn)
  obtain ⟨r2, h1', h⟩ := Zz0.mp h
  obtain ⟨u0, h1, e1⟩ := Zz1.mp h1'
  subst e1
  have x1 : E [] [] true (ZB ZeL (Zg (Ze Zs (Zb 0) (Zl 0)) Zp)) (Zy Zfy (Zf (Zd Zo (Za 0) (Zk 0)) Zn)) := ZdR Zr7 (Zj (Zx Zw (Zc 0) (Zm _)) Zq)
  obtain ⟨w0, X, F0, a1, a2, a3, a4⟩ := x1 _ _ _ _ _ _ st h1
  have new : ∀ x ∈ F0, H.length ≤ x := fun x m => (a3 x m).nil
  have e2 : ZK 1 (ZB ZeL (Zg (Ze Zs (Zb 0) (Zl 0)) Zp)) (fun i => [a][i]?) H = some (none, upd (fun i => [a][i]?) 1 w0, H ++ X) := by simp only [ZK, a1, Option.map_some]
  simp only at h
  have ev2 : ∀ b : Sm, Zu (ZK 1 (ZB ZeL (Zg (Ze Zs (Zb 0) (Zl 0)) Zp))) b (fun i => [a][i]?) H = b (upd (fun i => [a][i]?) 1 w0) (H ++ X) := fun b => Zej e2
  have fin : ∀ o, Zu (ZV (ZJ (Ze oIs (Zb 1) (ZX))) (ZH (ZX)) Z2) (ZH (ZaX (Zg (Zb 1) (Zg (Ze Zs (Zb 0) (Zl 1)) Zp)))) (upd (fun i => [a][i]?) 1 w0) (H ++ X) = some o → ZdP [a] H = some (o.1.getD .none, o.2.2) := fun o ho => by
   unfold ZdP Zaa ZhG
   simp only [List.length_cons, List.length_nil, Nat.zero_add, if_true]
   rw [ev, ev2, ho]
   rfl
  by_cases hu : u0 = .none
  ·subst hu
   cases a2
   obtain ⟨r3, h2, h⟩ := Zz0.mp h
   have : r3 = (some .none, ZZ (fun i => [t][i]?) 1 .none) := by
    have := h2
    simp [ZW, ZF, Zd, Za, ZZ, ZY, qIs, ZbJ, ZG] at this
    exact this.symm
   subst this
   cases h
   cases h0
   refine .inl ⟨rfl, X, fin (some .none, upd (fun i => [a][i]?) 1 .none, H ++ X) ?_⟩
   exact ZuB (by simp [ZV, ZJ, Ze, Zb, upd, ZX, oIs, Zcu, ZH])
  ·have e3 : ZV (ZJ (Ze oIs (Zb 1) (ZX))) (ZH (ZX)) Z2 (upd (fun i => [a][i]?) 1 w0) (H ++ X) = some (none, upd (fun i => [a][i]?) 1 w0, H ++ X) := by
    cases a2 <;> first | exact (hu rfl).elim | simp [ZV, ZJ, Ze, Zb, upd, ZX, oIs, Zcu, Z2]
   have e4 : ZW (ZF (Zd qIs (Za 1) (ZY))) (ZG (ZY)) Z1 (ZZ (fun i => [t][i]?) 1 u0) = some (none, ZZ (fun i => [t][i]?) 1 u0) := by
    cases u0 <;> first | exact (hu rfl).elim | simp [ZW, ZF, Zd, Za, ZZ, ZY, qIs, ZbJ, Z1]
   rw [ZlW e4] at h
   obtain ⟨u', h5, h6⟩ := Zz1.mp h
   subst h6
   obtain ⟨us, h7, h8⟩ := Zz1.mp h5
   subst h8
   obtain ⟨q0, g1, h9⟩ := Zz0.mp h7
   obtain ⟨qs, g2, h10⟩ := Zz0.mp h9
   cases h10
   obtain ⟨q1, g3, g6⟩ := Zz0.mp g2
   obtain ⟨qs', g4, g7⟩ := Zz0.mp g6
   cases g7
   cases g4
   have eq0 : q0 = u0 := by
    have : ZZ (fun i => [t][i]?) 1 u0 1 = some q0 := g1
    simp [ZZ] at this
    exact this.symm
   subst eq0
   have g5 : Zo t (.int 1) = some q1 := by
    have := g3
    simpa [Zd, Za, ZZ, Zk] using this
   obtain ⟨v1, F1, b1, b2, b3⟩ := Zw _ _ _ _ _ _ _ _ (r.ext X) (RF.int (H := H ++ X) 1) g5
   cases h0
   refine .inr ⟨w0, v1, q0, q1, X, F0, F1, rfl, fin (some (.tup [w0, v1]), upd (fun i => [a][i]?) 1 w0, H ++ X) ?_, a2, a4 rfl, new, b2⟩
   rw [Zej e3]
   simp [ZH, ZaX, Zg, Zb, upd, Ze, Zl, b1, Zp, Zbc]
theorem ZmL {put : T → TL → Option TL} {f : PE} {σ : TL} : ∀ {ts us : List T}, Zcp put Zad f σ ts = some us → T.flats us = true → Zcp put Zad (ZbV f) σ ts = some us
 | [], _, h, _ => h
 | t :: ts, us, h, hf => by
  obtain ⟨σ1, h1, h⟩ := Zz0.mp h
  simp only [Zad, Option.bind_some, if_true] at h
  obtain ⟨x, h2, h⟩ := Zz0.mp h
  obtain ⟨xs, h3, h⟩ := Zz1.mp h
  subst h
  simp only [T.flats, Bool.and_eq_true] at hf
  simp only [Zcp, h1, Option.bind_some, Zad, if_true, ZbV, h2, hf.1, ZmL h3 hf.2, Option.map_some]
theorem Zmw {H : Hp} {a : V} {t u : T} {F : List Nat} (hp : 0 < H.length) (r : RF H a t F) (h : Zdn [t] = some u) (ok : ZfI u = true) :
  (u = .none ∧ ∃ X, ZdE [a] H = some (.none, H ++ X)) ∨ ∃ w0 w1 u0 u1 X F1, u = .tup [u0, u1] ∧ Zs a (.int 0) H = some (w0, H) ∧ Zo t (.int 0) = some u0 ∧ ZdE [a] H = some (.tup [w0, w1], H ++ X) ∧ RF (H ++ X) w1 u1 F1 ∧ F1.Nodup ∧ (∀ x ∈ F1, H.length ≤ x) := by
 have st := Zog hp r
 have hfull := h
 unfold Zdn Zaf at h
 simp only [List.length_cons, List.length_nil, Nat.zero_add, if_true] at h
 obtain ⟨r1, h, h0⟩ := Zz1.mp h
 unfold Ze8 at h
 by_cases hn : t = .none
 ·subst hn
  rw [ZoA (ZnH rfl)] at h
  cases h
  cases h0
  cases r
  exact .inl ⟨rfl, [], by simp [ZdE, Zaa, Ze7, Zu, ZV, ZJ, Ze, Zb, ZX, oIs, Zcu, ZH]⟩
 ·rw [ZlW (ZnG (σ := fun i => [t][i]?) rfl hn)] at h
  have ev : ∀ b : Sm, Zu (ZV (ZJ (Ze oIs (Zb 0) (ZX))) (ZH (ZX)) Z2) b (fun i => [a][i]?) H = b (fun i => [a][i]?) H := fun b => Zej (ZnF rfl r hn)
  obtain ⟨r2, h1', h⟩ := Zz0.mp h
  obtain ⟨t1, h1, e1⟩ := Zz1.mp h1'
  subst e1
  have x1 : E [] ([0] ++ []) false (ZB Zex (Zg (Ze Zs (Zb 0) (Zl 1)) Zp)) (Zy Zey (Zf (Zd Zo (Za 0) (Zk 1)) Zn)) := ZU ZiB (Zj (Zx Zw (Zc 0) (Zm _)) Zq)
  obtain ⟨v1, X1, Fr, a1, a2, a3, _⟩ := x1 _ _ _ _ _ _ st h1
  have st1 := (st.ext X1).put (j := 1) (by simp) a2 (fun x m => st.from_src (a3 x m)) (fun i hi => (nomatch hi))
  have ev1 : ∀ b : Sm, Zu (ZK 1 (ZB Zex (Zg (Ze Zs (Zb 0) (Zl 1)) Zp))) b (fun i => [a][i]?) H = b (upd (fun i => [a][i]?) 1 v1) (H ++ X1) := fun b => Zej (by simp only [ZK, a1, Option.map_some])
  simp only at h
  obtain ⟨r3, h2', h⟩ := Zz0.mp h
  obtain ⟨t2, h2, e2⟩ := Zz1.mp h2'
  subst e2
  simp only at h
  generalize hσ : ZZ (fun i => [t][i]?) 1 t1 = σ1 at *
  generalize hρ : upd (fun i => [a][i]?) 1 v1 = ρ1 at *
  have hρ0 : ρ1 0 = some a := by rw [← hρ]; simp [upd]
  have hσ0 : σ1 0 = some t := by rw [← hσ]; simp [ZZ]
  have x2 : ∀ ts, T.flats ts = true → Zan (ZaG (Zf (Zk 1) (Zf (Zy Zao (Zf (Za 1) Zn)) Zn))) (Z5 100) Zad (Zy ZdZ (Zf (Zd Zo (Za 0) (Zk 0)) (Zf (Za 1) (Zf (Za 100) Zn)))) σ1 = some (.lst ts) → ∃ w X G, Zaz (ZaR (Zg (Zl 1) (Zg (ZB Zax (Zg (Zb 1) Zp)) Zp))) (Zam 100) Zaq (ZB Ze6 (Zg (Ze Zs (Zb 0) (Zl 0)) (Zg (Zb 1) (Zg (Zb 100) Zp)))) ρ1 (H ++ X1) = some (w, H ++ X1 ++ X) ∧ RF (H ++ X1 ++ X) w (.lst ts) G ∧ G.Nodup ∧ ∀ x ∈ G, (H ++ X1).length ≤ x := fun ts hf he => by
   have y : E [] [] true (Zaz (ZaR (Zg (Zl 1) (Zg (ZB Zax (Zg (Zb 1) Zp)) Zp))) (Zam 100) Zaq (ZB Ze6 (Zg (Ze Zs (Zb 0) (Zl 0)) (Zg (Zb 1) (Zg (Zb 100) Zp))))) (Zan (ZaG (Zf (Zk 1) (Zf (Zy Zao (Zf (Za 1) Zn)) Zn))) (Z5 100) Zad (ZbV (Zy ZdZ (Zf (Zd Zo (Za 0) (Zk 0)) (Zf (Za 1) (Zf (Za 100) Zn)))))) := Zdr (Gs.range (Zj (Zm _) (Zj (Zav ZaI (Zj (Zc 1) Zq)) Zq))) (PutOk.one (by decide)) (by decide) Zay (E.flat (ZU Zl4 (Zj (Zx Zw (Zc 0) (Zm _)) (Zj (Zc 1) (Zj (Zc 100) Zq)))))
   have he2 : Zan (ZaG (Zf (Zk 1) (Zf (Zy Zao (Zf (Za 1) Zn)) Zn))) (Z5 100) Zad (ZbV (Zy ZdZ (Zf (Zd Zo (Za 0) (Zk 0)) (Zf (Za 1) (Zf (Za 100) Zn))))) σ1 = some (.lst ts) := by
    obtain ⟨zs, g1, g2⟩ := Zz0.mp he
    split at g2
    ·rename_i hl
     obtain ⟨us, g3, g4⟩ := Zz1.mp g2
     cases g4
     simp only [Zan, g1, Option.bind_some]
     rw [if_pos hl, ZmL g3 hf]
     rfl
    ·cases g2
   obtain ⟨w, X, G, b1, b2, b3, b4⟩ := y _ _ _ _ _ _ st1 he2
   exact ⟨w, X, G, b1, b2, b4 rfl, fun x m => (b3 x m).nil⟩
  obtain ⟨ts, rfl⟩ : ∃ ts, t2 = .lst ts := by
   obtain ⟨zs, g1, g2⟩ := Zz0.mp h2
   split at g2
   ·obtain ⟨us, g3, g4⟩ := Zz1.mp g2
    exact ⟨us, g4.symm⟩
   ·cases g2
  by_cases hu : u = .none
  ·subst hu
   obtain ⟨v, X, G, c1, c2, _⟩ := Zo9 H [a] [t] .none F hp (RFs.one r) hfull
   cases c2
   exact .inl ⟨rfl, X, c1⟩
  ·obtain ⟨r4, h3, h⟩ := Zz0.mp h
   obtain ⟨b, h4, h5⟩ := Zz0.mp h3
   cases b with
   | true =>
    simp only [if_true] at h5
    cases h5
    cases h
    cases h0
    exact absurd rfl hu
   | false =>
    cases h5
    simp only at h
    obtain ⟨u', h6, h7⟩ := Zz1.mp h
    subst h7
    obtain ⟨us, h8, h9⟩ := Zz1.mp h6
    subst h9
    obtain ⟨q0, g1, h10⟩ := Zz0.mp h8
    obtain ⟨qs, g2, h11⟩ := Zz0.mp h10
    cases h11
    obtain ⟨q1, g3, g6⟩ := Zz0.mp g2
    obtain ⟨qs', g4, g7⟩ := Zz0.mp g6
    cases g7
    cases g4
    have eq1 : q1 = .lst ts := by
     have : ZZ σ1 2 (.lst ts) 2 = some q1 := g3
     simp [ZZ] at this
     exact this.symm
    subst eq1
    have g5 : Zo t (.int 0) = some q0 := by
     have := g1
     simpa [Zd, Za, ZZ, Zk, hσ0] using this
    cases h0
    obtain ⟨w, X, G, b1, b2, b3, b4⟩ := x2 ts ok h2
    obtain ⟨w0, F0, i1, i2, i3⟩ := Zw _ _ _ _ _ _ _ _ r (RF.int (H := H) 0) g5
    have st2 := (st1.ext X).put (j := 2) (by simp) b2 (fun x m => .inl (by have := b4 x m; simp at this; show H.length ≤ x; omega)) (fun i hi => (nomatch hi))
    have bt : Bt [] (ZJ (Ze oIn (ZX) (Zb 2))) (ZF (Zd qIn (ZY) (Za 2))) := ZL (ZC Zf9 Zae (Zc 2))
    obtain ⟨Y, k1⟩ := bt _ _ _ _ _ _ st2 h4
    refine .inr ⟨w0, w, q0, .lst ts, X1 ++ X ++ Y, G, rfl, i1, g5, ?_, by rw [← List.append_assoc, ← List.append_assoc]; exact b2.ext Y, b3, fun x m => by have := b4 x m; simp at this; omega⟩
    unfold ZdE Zaa Ze7
    simp only [List.length_cons, List.length_nil, Nat.zero_add, if_true]
    rw [ev, ev1, Zej (ρ1 := upd ρ1 2 w) (H1 := H ++ X1 ++ X) (by simp only [ZK, b1, Option.map_some]), Zej (ρ1 := upd ρ1 2 w) (H1 := H ++ X1 ++ X ++ Y) (by simp only [ZV, k1, Option.bind_some]; rfl)]
    have hidx := (Zkn i1 (X1 ++ X ++ Y)).2
    have hr : (upd ρ1 2 w) 0 = some a := by simp [upd, hρ0]
    have h2w : (upd ρ1 2 w) 2 = some w := by simp [upd]
    simp only [← List.append_assoc] at hidx ⊢
    generalize H ++ X1 ++ X ++ Y = K at *
    have e5 : ZaX (Zg (Ze Zs (Zb 0) (Zl 0)) (Zg (Zb 2) Zp)) (upd ρ1 2 w) K = some (.tup [w0, w], K) := by
     simp only [ZaX, Zg, Ze, Zb, hr, h2w, Zl, Zp, Option.map_some, Option.bind_some, hidx]
     rw [if_pos (by rw [Zbc]; simp)]
    simp only [ZH, e5, Option.map_some]
    rfl
theorem Zoh : SimF true ZeY Zd9 := fun H vs ts t F1 hp r h => by
 obtain ⟨t', h1, h2⟩ := Zz0.mp h
 by_cases ok : ZfI t' = true
 ·rw [if_pos ok] at h2
  cases h2
  unfold Zaf at h1
  split at h1
  ·rename_i hl
   obtain ⟨t0, rfl⟩ : ∃ t0, ts = [t0] := List.length_eq_one_iff.mp hl
   obtain ⟨a, rfl, r0⟩ := r.one_inv
   obtain ⟨r1, h3, h4⟩ := Zz1.mp h1
   obtain ⟨u, h5, h6⟩ := Zz1.mp h3
   subst h6
   cases h4
   obtain ⟨us, h7, h8⟩ := Zz0.mp h5
   obtain ⟨q0, g1, h9⟩ := Zz0.mp h7
   obtain ⟨qs, g2, h10⟩ := Zz0.mp h9
   cases h10
   cases g2
   have g3 : ZdQ [t0] = some q0 := by
    have := g1
    simpa [Zy, Zf, Za, Zn] using this
   have g4 : Zdn [q0] = some u := h8
   have run : ∀ v1 X1 v2 X2, ZdP [a] H = some (v1, H ++ X1) → ZdE [v1] (H ++ X1) = some (v2, H ++ X1 ++ X2) → ZeY [a] H = some (v2, H ++ (X1 ++ X2)) := fun v1 X1 v2 X2 e1 e2 => by
    simp [ZeY, Zaa, ZlE, ZH, ZB, Zg, Zb, Zp, e1, e2]
   rcases Zqh hp r0 g3 with ⟨rfl, X, e1⟩ | ⟨w0, v1, u0, u1, X, F0, F2, rfl, e1, a1, a2, a3, a4⟩
   ·have hp2 : 0 < (H ++ X).length := by rw [List.length_append]; omega
    rcases Zmw hp2 (.none (H := H ++ X)) g4 ok with ⟨rfl, Y, e2⟩ | ⟨_, _, _, _, _, _, _, e2, _⟩
    ·exact ⟨.none, X ++ Y, [], run _ _ _ _ e1 e2, .none, by simp, by simp⟩
    ·cases e2
   ·have hp2 : 0 < (H ++ X).length := by rw [List.length_append]; omega
    rcases Zmw hp2 (.tup (.cons a1 (.one a4))) g4 ok with ⟨rfl, Y, e2⟩ | ⟨x0, w1, y0, y1, Y, F1', rfl, e3, e4, e2, b1, b2, b3⟩
    ·exact ⟨.none, X ++ Y, [], run _ _ _ _ e1 e2, .none, by simp, by simp⟩
    ·have ex : x0 = w0 := by
      have : Zs (.tup [w0, v1]) (.int 0) (H ++ X) = some (w0, H ++ X) := by simp [Zs, seqIndex?]
      rw [this] at e3
      cases e3
      rfl
     have ey : y0 = u0 := by
      have : Zo (.tup [u0, u1]) (.int 0) = some u0 := by simp [Zo, seqIndex?]
      rw [this] at e4
      cases e4
      rfl
     subst ex ey
     have nd : (F0 ++ F1').Nodup := by
      rw [List.nodup_append]
      refine ⟨a2, b2, fun x hx y hy e => ?_⟩
      have := a1.lt x hx
      have := b3 y hy
      omega
     have nw : ∀ x ∈ F0 ++ F1', H.length ≤ x := fun x m => by
      rcases List.mem_append.mp m with m | m
      ·exact a3 x m
      ·have := b3 x m; rw [List.length_append] at this; omega
     exact ⟨.tup [x0, w1], X ++ Y, F0 ++ F1', run _ _ _ _ e1 e2, by rw [← List.append_assoc]; exact .tup (.cons (a1.ext Y) (.one b1)), fun x m => .inl (nw x m), fun _ => ⟨nd, nw⟩⟩
  ·cases h1
 ·rw [if_neg ok] at h2
  cases h2
noncomputable def Zh6 : Sm := Zu (ZV (ZJ (Ze Zb2 (Zb 0) (ZX))) (ZH (ZB ZiR (Zg (Zb 1) (Zg (Zb 0) Zp)))) Z2) (Zu (ZV (ZJ (Ze oEq (Ze Zs (Zb 1) (Zl 0)) (Zl 0))) (ZH (Ze Zs (Zb 1) (Zl 1))) Z2) (ZH (ZX)))
noncomputable def Zh7 : List V → Hp → Option (V × Hp) := Zaa 2 Zh6
noncomputable def Zh8 : PS := (Zt (ZW (ZF (Zd ZbC (Za 0) (ZY))) (ZG (Zy Zgr (Zf (Za 1) (Zf (Za 0) Zn)))) Z1) (Zt (ZW (ZF (Zd qEq (Zd Zo (Za 1) (Zk 0)) (Zk 0))) (ZG (Zd Zo (Za 1) (Zk 1))) Z1) (ZG (ZY))))
noncomputable def Zgf : List T → Option T := Zaf 2 Zh8
theorem ZoH : SimF false Zh7 Zgf := Zai (show S [] [] [] false Zh6 Zh8 from (ZA (Z9 (ZL (ZC Zcg (Zc 0) (Zae))) (ZP (O' := []) (ZU Zpq (Zj (Zc 1) (Zj (Zc 0) Zq))) (by decide)) Zac) (ZA (Z9 (ZL (ZC ZaZ (Zx Zw (Zc 1) (Zm _)) (Zm _))) (ZP (O' := []) (Zx Zw (Zc 1) (Zm _)) (by decide)) Zac) (ZP (O' := []) (Zae) (by decide)))))
noncomputable def ZiC : Sm := Zu (ZK 3 (Zbe Zp)) (Zu (ZaY (ZdB (Zb 0) (Zb 2)) (Zca 4 5) (Zu (ZK 6 (ZB Zh7 (Zg (Zb 4) (Zg (ZB Zfe (Zg (Zb 1) (Zg (ZB Zgq (Zg (Zb 5) (Zg (eUn ZdA (Zl 1)) Zp))) Zp))) Zp)))) (Zu (ZV (ZaB (ZJ (Ze oIs (Zb 6) (ZX))) (ZaB (ZJ (Ze Zb2 (Zb 4) (ZX))) Zaq)) (ZH (ZX)) Z2) (Zcs (Zdq (Zb 3) (Zb 6)))))) (ZH (Zb 3)))
noncomputable def ZiD : List V → Hp → Option (V × Hp) := Zaa 3 ZiC
noncomputable def ZiE : PS := (Zt (ZI 3 (Za2 Zn)) (Zt (ZaO (ZdC (Za 0) (Za 2)) (Zcz 4 5) (Zt (ZI 6 (Zy Zgf (Zf (Za 4) (Zf (Zy ZeA (Zf (Za 1) (Zf (Zy Zfa (Zf (Za 5) (Zf (pUn Zdj (Zk 1)) Zn))) Zn))) Zn)))) (Zt (ZW (Zaw (ZF (Zd qIs (Za 6) (ZY))) (Zaw (ZF (Zd ZbC (Za 4) (ZY))) Zad)) (ZG (ZY)) Z1) (ZcQ 3 [] Za0 (ZbV (Za 6)))))) (ZG (Za 3))))
noncomputable def Zgn : List T → Option T := Zaf 3 ZiE
theorem Zpa : SimF false ZiD Zgn := Zai (show S [] [3] [] false ZiC ZiE from (ZA (Zcw (O' := [3]) (E.list Zq (by decide)) (by decide)) (ZA (Zbh (Gs.zip (Zc 0) (Zc 2)) (PutOk.two (by decide) (by decide) (by decide)) (by decide) (by decide) (ZA (ZR (O' := [3]) (ZU ZoH (Zj (Zc 4) (Zj (ZU Zjg (Zj (Zc 1) (Zj (ZU Zl9 (Zj (Zc 5) (Zj (Zee Zef (Zm _)) Zq))) Zq))) Zq))) (by decide) (by decide) (by decide)) (ZA (Z9 (ZaN (ZL (ZC ZbA (Zc 6) (Zae))) (ZaN (ZL (ZC Zcg (Zc 4) (Zae))) Zay)) (ZP (O' := [3]) (Zae) (by decide)) Zac) (Ze0 (O' := [3]) (by decide) ZbK (Zbg (O' := []) (E.flat (Zc 6)) (by decide)) (by decide) (by decide))))) (ZP (O' := [3]) (Zc 3) (by decide)))))
noncomputable def Zkw : Sm := Zu (ZV (ZJ (Ze oIs (Zb 0) (ZX))) (ZH (ZX)) Z2) (Zu (ZK 1 (ZB Zex (Zg (Ze Zs (Zb 0) (Zl 1)) Zp))) (Zu (ZK 2 (Zaz (ZdB (Ze Zs (Zb 0) (Zl 0)) (Zb 1)) (Zca 100 101) Zaq (ZB ZiD (Zg (Zb 100) (Zg (Zb 101) (Zg (Zb 1) Zp)))))) (Zu (ZV (ZJ (Ze oIn (ZX) (Zb 2))) (ZH (ZX)) Z2) (ZH (ZaX (Zg (Zb 2) (Zg (Ze Zs (Zb 0) (Zl 1)) Zp)))))))
noncomputable def Zkx : List V → Hp → Option (V × Hp) := Zaa 1 Zkw
noncomputable def Zg0 : PS := (Zt (ZW (ZF (Zd qIs (Za 0) (ZY))) (ZG (ZY)) Z1) (Zt (ZI 1 (Zy Zey (Zf (Zd Zo (Za 0) (Zk 1)) Zn))) (Zt (ZI 2 (Zan (ZdC (Zd Zo (Za 0) (Zk 0)) (Za 1)) (Zcz 100 101) Zad (Zy Zgn (Zf (Za 100) (Zf (Za 101) (Zf (Za 1) Zn)))))) (Zt (ZW (ZF (Zd qIn (ZY) (Za 2))) (ZG (ZY)) Z1) (ZG (Za3 (Zf (Za 2) (Zf (Zd Zo (Za 0) (Zk 1)) Zn))))))))
noncomputable def ZeH : List T → Option T := Zaf 1 Zg0
theorem Zrb : SimF false Zkx ZeH := Zai (show S [] [] [] false Zkw Zg0 from (ZA (Z9 (ZL (ZC ZbA (Zc 0) (Zae))) (ZP (O' := []) (Zae) (by decide)) Zac) (ZA (ZR (O' := []) (ZU ZiB (Zj (Zx Zw (Zc 0) (Zm _)) Zq)) (by decide) (by decide) (by decide)) (ZA (ZR (O' := []) (Zbw (Gs.zip (Zx Zw (Zc 0) (Zm _)) (Zc 1)) (PutOk.two (by decide) (by decide) (by decide)) (by decide) Zay (ZU Zpa (Zj (Zc 100) (Zj (Zc 101) (Zj (Zc 1) Zq))))) (by decide) (by decide) (by decide)) (ZA (Z9 (ZL (ZC Zf9 (Zae) (Zc 2))) (ZP (O' := []) (Zae) (by decide)) Zac) (ZP (O' := []) (E.tup (Zj (Zc 2) (Zj (Zx Zw (Zc 0) (Zm _)) Zq)) (by decide)) (by decide)))))))
noncomputable def Zlm : Sm := ZH (ZB ZeY (Zg (ZB Zkx (Zg (ZB ZeY (Zg (Zb 0) Zp)) Zp)) Zp))
noncomputable def Zhp : List V → Hp → Option (V × Hp) := Zaa 1 Zlm
noncomputable def Zhq : PS := (ZG (Zy Zd9 (Zf (Zy ZeH (Zf (Zy Zd9 (Zf (Za 0) Zn)) Zn)) Zn)))
noncomputable def ZcW : List T → Option T := Zaf 1 Zhq
theorem ZnI : SimF true Zhp ZcW := Zai (show S [] [] [] true Zlm Zhq from (ZcY (O' := []) (ZdR Zoh (Zj (ZU Zrb (Zj (ZU Zoh (Zj (Zc 0) Zq)) Zq)) Zq)) (by decide) (by decide)))
noncomputable def ZhY : Sm := Zu (ZK 1 (ZB Zax (Zg (Zb 0) Zp))) (Zu (ZK 2 (Zaz (Zbj (Zb 0)) (Zam 100) Zaq (ZB Zcv (Zg (Zb 100) Zp)))) (Zu (ZK 3 (Zl 1)) (Zu (ZcK (ZJ (Ze oLt (Zb 3) (Zb 1))) (Zu (ZK 4 (Zaz (Zbj (Zb 2)) (Zam 102) Zaq (ZB Zcv (Zg (Zb 102) Zp)))) (Zu (ZaY (ZaR (Zg (Zb 1) Zp)) (Zam 5) (ZaY (ZaR (Zg (Zb 1) Zp)) (Zam 6) (ZaY (ZaR (Zg (Zb 1) Zp)) (Zam 7) (ZV (ZaB (ZJ (Ze Zb2 (Ze Zs (Ze Zs (Zb 4) (Zb 5)) (Zb 7)) (ZX))) (ZaB (ZJ (Ze Zb2 (Ze Zs (Ze Zs (Zb 4) (Zb 7)) (Zb 6)) (ZX))) Zaq)) (Zu (ZK 8 (Ze Zah (Ze Zs (Ze Zs (Zb 4) (Zb 5)) (Zb 7)) (Ze Zs (Ze Zs (Zb 4) (Zb 7)) (Zb 6)))) (ZV (tOr (ZJ (Ze oIs (Ze Zs (Ze Zs (Zb 2) (Zb 5)) (Zb 6)) (ZX))) (tOr (ZJ (Ze oLt (Zb 8) (Ze Zs (Ze Zs (Zb 2) (Zb 5)) (Zb 6)))) Zch)) (ZbX (Zb 8) (Ze Zs (Zb 2) (Zb 5)) (Zb 6)) Z2)) Z2)))) (ZK 3 (Ze ZaJ (Zl 2) (Zb 3))))) 1000000) (Zu (ZaY (ZaR (Zg (Zb 1) Zp)) (Zam 5) (ZV (ZJ (Ze oLt (Ze Zs (Ze Zs (Zb 2) (Zb 5)) (Zb 5)) (Zl 0))) (ZH (ZX)) Z2)) (ZH (Zb 2))))))
noncomputable def Zgc : List V → Hp → Option (V × Hp) := Zaa 1 ZhY
noncomputable def ZhZ : PS := (Zt (ZI 1 (Zy Zao (Zf (Za 0) Zn))) (Zt (ZI 2 (Zan (ZaE (Za 0)) (Z5 100) Zad (pFl (Zy Zcj (Zf (Za 100) Zn))))) (Zt (ZI 3 (Zk 1)) (Zt (ZcZ (ZF (Zd qLt (Za 3) (Za 1))) (Zt (ZI 4 (Zan (ZaE (Za 2)) (Z5 102) Zad (pFl (Zy Zcj (Zf (Za 102) Zn))))) (Zt (ZaO (ZaG (Zf (Za 1) Zn)) (Z5 5) (ZaO (ZaG (Zf (Za 1) Zn)) (Z5 6) (ZaO (ZaG (Zf (Za 1) Zn)) (Z5 7) (ZW (Zaw (ZF (Zd ZbC (Zd Zo (Zd Zo (Za 4) (Za 5)) (Za 7)) (ZY))) (Zaw (ZF (Zd ZbC (Zd Zo (Zd Zo (Za 4) (Za 7)) (Za 6)) (ZY))) Zad)) (Zt (ZI 8 (Zd Z6 (Zd Zo (Zd Zo (Za 4) (Za 5)) (Za 7)) (Zd Zo (Zd Zo (Za 4) (Za 7)) (Za 6)))) (ZW (bOr (ZF (Zd qIs (Zd Zo (Zd Zo (Za 2) (Za 5)) (Za 6)) (ZY))) (bOr (ZF (Zd qLt (Za 8) (Zd Zo (Zd Zo (Za 2) (Za 5)) (Za 6)))) Zci)) (ZbB 2 [] (ZbV (Za 8)) (Zcx Za0 (Za 5)) (Za 6)) Z1)) Z1)))) (ZI 3 (Zd Zat (Zk 2) (Za 3))))) 1000000) (Zt (ZaO (ZaG (Zf (Za 1) Zn)) (Z5 5) (ZW (ZF (Zd qLt (Zd Zo (Zd Zo (Za 2) (Za 5)) (Za 5)) (Zk 0))) (ZG (ZY)) Z1)) (ZG (Za 2)))))))
noncomputable def Zev : List T → Option T := Zaf 1 ZhZ
theorem ZlZ : SimF false Zgc Zev := Zai (show S [] [2] [] false ZhY ZhZ from (ZA (ZR (O' := []) (Zav ZaI (Zj (Zc 0) Zq)) (by decide) (by decide) (by decide)) (ZA (Zcw (O' := [2]) (Zdr (Gs.seq (Zc 0)) (PutOk.one (by decide)) (by decide) Zay (ZfE ZdM (Zj (Zc 100) Zq))) (by decide)) (ZA (ZR (O' := [2]) (Zm _) (by decide) (by decide) (by decide)) (ZA (ZeR (ZL (ZC Zco (Zc 3) (Zc 1))) (ZA (ZR (O' := [2]) (Zbg (O' := []) (Zdr (Gs.seq (Zc 2)) (PutOk.one (by decide)) (by decide) Zay (ZfE ZdM (Zj (Zc 102) Zq))) (by decide)) (by decide) (by decide) (by decide)) (ZA (Zbh (Gs.range (Zj (Zc 1) Zq)) (PutOk.one (by decide)) (by decide) (by decide) (Zbh (Gs.range (Zj (Zc 1) Zq)) (PutOk.one (by decide)) (by decide) (by decide) (Zbh (Gs.range (Zj (Zc 1) Zq)) (PutOk.one (by decide)) (by decide) (by decide) (Z9 (ZaN (ZL (ZC Zcg (Zx Zw (Zx Zw (Zc 4) (Zc 5)) (Zc 7)) (Zae))) (ZaN (ZL (ZC Zcg (Zx Zw (Zx Zw (Zc 4) (Zc 7)) (Zc 6)) (Zae))) Zay)) (ZA (ZR (O' := [2]) (Z0 Zal (Zx Zw (Zx Zw (Zc 4) (Zc 5)) (Zc 7)) (Zx Zw (Zx Zw (Zc 4) (Zc 7)) (Zc 6))) (by decide) (by decide) (by decide)) (Z9 (Zbp (ZL (ZC ZbA (Zx Zw (Zx Zw (Zc 2) (Zc 5)) (Zc 6)) (Zae))) (Zbp (ZL (ZC Zco (Zc 8) (Zx Zw (Zx Zw (Zc 2) (Zc 5)) (Zc 6)))) ZcG)) (S.put (O' := [2]) (by decide) (Zbg (O' := []) (E.flat (Zc 8)) (by decide)) (Zdt ZbK (Zc 5)) (Zc 6) (by decide) (by decide)) Zac)) Zac)))) (ZR (O' := [2]) (Z0 ZaS (Zm _) (Zc 3)) (by decide) (by decide) (by decide)))) 1000000) (ZA (Zbh (Gs.range (Zj (Zc 1) Zq)) (PutOk.one (by decide)) (by decide) (by decide) (Z9 (ZL (ZC Zco (Zx Zw (Zx Zw (Zc 2) (Zc 5)) (Zc 5)) (Zm _))) (ZP (O' := [2]) (Zae) (by decide)) Zac)) (ZP (O' := [2]) (Zc 2) (by decide))))))))
noncomputable def Zky : Sm := Zu (ZK 2 (Ze Zs (Zb 0) (Zl 0))) (Zu (ZK 3 (Ze Zs (Zb 1) (Zl 0))) (Zu (ZK 4 (Zl 1)) (Zu (ZK 5 (Zl 0)) (Zu (ZcK (ZJ (Ze oNe (Zb 3) (Zl 0))) (Zu (ZK 6 (Ze oDiv (Zb 2) (Zb 3))) (Zu (ZK 7 (Ze Za9 (Zb 2) (Ze ZaJ (Zb 6) (Zb 3)))) (Zu (ZK 2 (Zb 3)) (Zu (ZK 3 (Zb 7)) (Zu (ZK 7 (Ze Za9 (Zb 4) (Ze ZaJ (Zb 6) (Zb 5)))) (Zu (ZK 4 (Zb 5)) (ZK 5 (Zb 7)))))))) 1000000) (Zu (ZK 8 (Ze Za9 (Ze Zs (Zb 1) (Zl 1)) (Ze Zs (Zb 0) (Zl 1)))) (Zu (ZV (ZJ (Ze oEq (Zb 2) (Zl 0))) (Zu (ZV (ZJ (Ze oNe (Zb 8) (Zl 0))) (ZH (ZX)) Z2) (ZH (Zb 0))) Z2) (Zu (ZV (ZJ (Ze oNe (Ze oMod (Zb 8) (Zb 2)) (Zl 0))) (ZH (ZX)) Z2) (ZH (ZB ZdD (Zg (Ze ZaJ (Ze oDiv (Ze Zs (Zb 0) (Zl 0)) (Zb 2)) (Ze Zs (Zb 1) (Zl 0))) (Zg (Ze Zah (Ze Zs (Zb 0) (Zl 1)) (Ze ZaJ (Ze ZaJ (Ze Zs (Zb 0) (Zl 0)) (Zb 4)) (Ze oDiv (Zb 8) (Zb 2)))) Zp)))))))))))
noncomputable def Zkz : List V → Hp → Option (V × Hp) := Zaa 2 Zky
noncomputable def ZkA : PS := (Zt (ZI 2 (Zd Zo (Za 0) (Zk 0))) (Zt (ZI 3 (Zd Zo (Za 1) (Zk 0))) (Zt (ZI 4 (Zk 1)) (Zt (ZI 5 (Zk 0)) (Zt (ZcZ (ZF (Zd qNe (Za 3) (Zk 0))) (Zt (ZI 6 (Zd ZcB (Za 2) (Za 3))) (Zt (ZI 7 (Zd ZaU (Za 2) (Zd Zat (Za 6) (Za 3)))) (Zt (ZI 2 (Za 3)) (Zt (ZI 3 (Za 7)) (Zt (ZI 7 (Zd ZaU (Za 4) (Zd Zat (Za 6) (Za 5)))) (Zt (ZI 4 (Za 5)) (ZI 5 (Za 7)))))))) 1000000) (Zt (ZI 8 (Zd ZaU (Zd Zo (Za 1) (Zk 1)) (Zd Zo (Za 0) (Zk 1)))) (Zt (ZW (ZF (Zd qEq (Za 2) (Zk 0))) (Zt (ZW (ZF (Zd qNe (Za 8) (Zk 0))) (ZG (ZY)) Z1) (ZG (Za 0))) Z1) (Zt (ZW (ZF (Zd qNe (Zd Za1 (Za 8) (Za 2)) (Zk 0))) (ZG (ZY)) Z1) (ZG (Zy Zdm (Zf (Zd Zat (Zd ZcB (Zd Zo (Za 0) (Zk 0)) (Za 2)) (Zd Zo (Za 1) (Zk 0))) (Zf (Zd Z6 (Zd Zo (Za 0) (Zk 1)) (Zd Zat (Zd Zat (Zd Zo (Za 0) (Zk 0)) (Za 4)) (Zd ZcB (Za 8) (Za 2)))) Zn))))))))))))
noncomputable def Zg1 : List T → Option T := Zaf 2 ZkA
theorem Zrc : SimF false Zkz Zg1 := Zai (show S [] [] [] false Zky ZkA from (ZA (ZR (O' := []) (Zx Zw (Zc 0) (Zm _)) (by decide) (by decide) (by decide)) (ZA (ZR (O' := []) (Zx Zw (Zc 1) (Zm _)) (by decide) (by decide) (by decide)) (ZA (ZR (O' := []) (Zm _) (by decide) (by decide) (by decide)) (ZA (ZR (O' := []) (Zm _) (by decide) (by decide) (by decide)) (ZA (ZeR (ZL (ZC Zbt (Zc 3) (Zm _))) (ZA (ZR (O' := []) (ZC Zdx (Zc 2) (Zc 3)) (by decide) (by decide) (by decide)) (ZA (ZR (O' := []) (ZC Zbf (Zc 2) (Z0 ZaS (Zc 6) (Zc 3))) (by decide) (by decide) (by decide)) (ZA (ZR (O' := []) (Zc 3) (by decide) (by decide) (by decide)) (ZA (ZR (O' := []) (Zc 7) (by decide) (by decide) (by decide)) (ZA (ZR (O' := []) (ZC Zbf (Zc 4) (Z0 ZaS (Zc 6) (Zc 5))) (by decide) (by decide) (by decide)) (ZA (ZR (O' := []) (Zc 5) (by decide) (by decide) (by decide)) (ZR (O' := []) (Zc 7) (by decide) (by decide) (by decide)))))))) 1000000) (ZA (ZR (O' := []) (ZC Zbf (Zx Zw (Zc 1) (Zm _)) (Zx Zw (Zc 0) (Zm _))) (by decide) (by decide) (by decide)) (ZA (Z9 (ZL (ZC ZaZ (Zc 2) (Zm _))) (ZA (Z9 (ZL (ZC Zbt (Zc 8) (Zm _))) (ZP (O' := []) (Zae) (by decide)) Zac) (ZP (O' := []) (Zc 0) (by decide))) Zac) (ZA (Z9 (ZL (ZC Zbt (ZC Zbb (Zc 8) (Zc 2)) (Zm _))) (ZP (O' := []) (Zae) (by decide)) Zac) (ZP (O' := []) (ZU Zew (Zj (Z0 ZaS (ZC Zdx (Zx Zw (Zc 0) (Zm _)) (Zc 2)) (Zx Zw (Zc 1) (Zm _))) (Zj (Z0 Zal (Zx Zw (Zc 0) (Zm _)) (Z0 ZaS (Z0 ZaS (Zx Zw (Zc 0) (Zm _)) (Zc 4)) (ZC Zdx (Zc 8) (Zc 2)))) Zq))) (by decide)))))))))))
noncomputable def ZiT : Sm := Zu (ZK 2 (Ze Zah (Zbe (Zg (ZaX (Zg (Zl 0) (Zg (Zl 0) Zp))) Zp)) (Zb 1))) (Zu (ZK 3 (Ze Zah (Zbe (Zg (ZaX (Zg (Zl 0) (Zg (Zl 0) Zp))) Zp)) (Zb 1))) (Zu (ZaY (ZaR (Zg (Zl 1) (Zg (ZB Zax (Zg (Zb 2) Zp)) Zp))) (Zam 4) (ZaY (ZaR (Zg (ZB Zax (Zg (Zb 2) Zp)) Zp)) (Zam 5) (Zu (ZK 6 (Ze Zs (Ze Zs (Zb 0) (Zb 4)) (Zb 5))) (ZV (ZaB (ZJ (Ze oNe (Zb 4) (Zb 5))) (ZaB (ZJ (Ze Zb2 (Zb 6) (ZX))) (ZaB (ZJ (Ze oEq (Ze Zs (Ze Zs (Zb 0) (Zb 5)) (Zb 4)) (eUn ZdA (Zb 6)))) (ZaB (ZJ (Ze Zb2 (Ze Zs (Zb 3) (Zb 4)) (ZX))) Zaq)))) (ZbX (ZB Zkz (Zg (Ze Zs (Zb 3) (Zb 4)) (Zg (ZB ZdD (Zg (Ze Zs (Ze Zs (Zb 2) (Zb 5)) (Zl 0)) (Zg (Ze Zah (Ze Zs (Ze Zs (Zb 2) (Zb 5)) (Zl 1)) (Zb 6)) Zp))) Zp))) (Zb 3) (Zb 4)) Z2)))) (Zu (ZV (ZJ (Ze oIn (ZX) (Zb 3))) (ZH (ZX)) Z2) (ZH (Zdw (Zb 3) 1)))))
noncomputable def Zgs : List V → Hp → Option (V × Hp) := Zaa 2 ZiT
noncomputable def ZiU : PS := (Zt (ZI 2 (Zd Z6 (Za2 (Zf (Za3 (Zf (Zk 0) (Zf (Zk 0) Zn))) Zn)) (Za 1))) (Zt (ZI 3 (pFl (Zd Z6 (Za2 (Zf (Za3 (Zf (Zk 0) (Zf (Zk 0) Zn))) Zn)) (Za 1)))) (Zt (ZaO (ZaG (Zf (Zk 1) (Zf (Zy Zao (Zf (Za 2) Zn)) Zn))) (Z5 4) (ZaO (ZaG (Zf (Zy Zao (Zf (Za 2) Zn)) Zn)) (Z5 5) (Zt (ZI 6 (Zd Zo (Zd Zo (Za 0) (Za 4)) (Za 5))) (ZW (Zaw (ZF (Zd qNe (Za 4) (Za 5))) (Zaw (ZF (Zd ZbC (Za 6) (ZY))) (Zaw (ZF (Zd qEq (Zd Zo (Zd Zo (Za 0) (Za 5)) (Za 4)) (pUn Zdj (Za 6)))) (Zaw (ZF (Zd ZbC (Zd Zo (Za 3) (Za 4)) (ZY))) Zad)))) (ZbB 3 [] (ZbV (Zy Zg1 (Zf (Zd Zo (Za 3) (Za 4)) (Zf (Zy Zdm (Zf (Zd Zo (Zd Zo (Za 2) (Za 5)) (Zk 0)) (Zf (Zd Z6 (Zd Zo (Zd Zo (Za 2) (Za 5)) (Zk 1)) (Za 6)) Zn))) Zn)))) Za0 (Za 4)) Z1)))) (Zt (ZW (ZF (Zd qIn (ZY) (Za 3))) (ZG (ZY)) Z1) (ZG (Zdg (Za 3) 1))))))
noncomputable def Zfb : List T → Option T := Zaf 2 ZiU
theorem Zma : SimF false Zgs Zfb := Zai (show S [] [3] [] false ZiT ZiU from (ZA (ZR (O' := []) (Z0 Zal (E.list (Zj (E.tup (Zj (Zm _) (Zj (Zm _) Zq)) (by decide)) Zq) (by decide)) (Zc 1)) (by decide) (by decide) (by decide)) (ZA (Zcw (O' := [3]) (Zn5 Zal (E.list (Zj (E.tup (Zj (Zm _) (Zj (Zm _) Zq)) (by decide)) Zq) (by decide)) (Zc 1)) (by decide)) (ZA (Zbh (Gs.range (Zj (Zm _) (Zj (Zav ZaI (Zj (Zc 2) Zq)) Zq))) (PutOk.one (by decide)) (by decide) (by decide) (Zbh (Gs.range (Zj (Zav ZaI (Zj (Zc 2) Zq)) Zq)) (PutOk.one (by decide)) (by decide) (by decide) (ZA (ZR (O' := [3]) (Zx Zw (Zx Zw (Zc 0) (Zc 4)) (Zc 5)) (by decide) (by decide) (by decide)) (Z9 (ZaN (ZL (ZC Zbt (Zc 4) (Zc 5))) (ZaN (ZL (ZC Zcg (Zc 6) (Zae))) (ZaN (ZL (ZC ZaZ (Zx Zw (Zx Zw (Zc 0) (Zc 5)) (Zc 4)) (Zee Zef (Zc 6)))) (ZaN (ZL (ZC Zcg (Zx Zw (Zc 3) (Zc 4)) (Zae))) Zay)))) (S.put (O' := [3]) (by decide) (Zbg (O' := []) (E.flat (ZU Zrc (Zj (Zx Zw (Zc 3) (Zc 4)) (Zj (ZU Zew (Zj (Zx Zw (Zx Zw (Zc 2) (Zc 5)) (Zm _)) (Zj (Z0 Zal (Zx Zw (Zx Zw (Zc 2) (Zc 5)) (Zm _)) (Zc 6)) Zq))) Zq)))) (by decide)) ZbK (Zc 4) (by decide) (by decide)) Zac)))) (ZA (Z9 (ZL (ZC Zf9 (Zae) (Zc 3))) (ZP (O' := [3]) (Zae) (by decide)) Zac) (ZP (O' := [3]) (ZhC (Zc 3)) (by decide)))))))
noncomputable def ZiF : Sm := Zu (ZK 2 (Ze Zah (Zbe (Zg (ZaX (Zg (Zl 0) (Zg (Zl 0) Zp))) Zp)) (Zb 1))) (Zu (ZK 3 (Zaz (Zbj (Zb 0)) (Zam 100) Zaq (ZB Zcv (Zg (Zb 100) Zp)))) (Zu (ZaY (ZaR (Zg (ZB Zax (Zg (Zb 2) Zp)) Zp)) (Zam 4) (ZaY (ZaR (Zg (ZB Zax (Zg (Zb 2) Zp)) Zp)) (Zam 5) (Zu (ZK 6 (ZB ZgX (Zg (Ze Zs (Ze Zs (Zb 2) (Zb 4)) (Zl 0)) (Zg (Ze Zs (Ze Zs (Zb 2) (Zb 5)) (Zl 0)) Zp)))) (Zu (ZK 7 (Ze Za9 (Ze Zs (Ze Zs (Zb 2) (Zb 4)) (Zl 1)) (Ze Zs (Ze Zs (Zb 2) (Zb 5)) (Zl 1)))) (Zu (ZK 8 (Ze Zs (Ze Zs (Zb 0) (Zb 4)) (Zb 5))) (ZV (ZaB (ZJ (Ze oNe (Zb 4) (Zb 5))) (ZaB (ZJ (Ze oEq (Zb 6) (Zl 0))) Zaq)) (Zu (ZV (ZaB (ZJ (Ze Zb2 (Zb 8) (ZX))) (ZaB (ZJ (Ze oLt (Zb 8) (Zb 7))) Zaq)) (ZH (ZX)) Z2) (ZbX (Zb 7) (Ze Zs (Zb 3) (Zb 4)) (Zb 5))) (ZV (ZaB (ZJ (Ze oNe (Zb 4) (Zb 5))) (ZaB (ZJ (Ze Zb2 (Zb 8) (ZX))) Zaq)) (ZbX (Ze Za9 (Zb 8) (Ze oMod (Ze Za9 (Zb 8) (Zb 7)) (Zb 6))) (Ze Zs (Zb 3) (Zb 4)) (Zb 5)) Z2))))))) (ZH (Zb 3))))
noncomputable def ZiG : List V → Hp → Option (V × Hp) := Zaa 2 ZiF
noncomputable def ZiH : PS := (Zt (ZI 2 (Zd Z6 (Za2 (Zf (Za3 (Zf (Zk 0) (Zf (Zk 0) Zn))) Zn)) (Za 1))) (Zt (ZI 3 (Zan (ZaE (Za 0)) (Z5 100) Zad (pFl (Zy Zcj (Zf (Za 100) Zn))))) (Zt (ZaO (ZaG (Zf (Zy Zao (Zf (Za 2) Zn)) Zn)) (Z5 4) (ZaO (ZaG (Zf (Zy Zao (Zf (Za 2) Zn)) Zn)) (Z5 5) (Zt (ZI 6 (Zy Zfq (Zf (Zd Zo (Zd Zo (Za 2) (Za 4)) (Zk 0)) (Zf (Zd Zo (Zd Zo (Za 2) (Za 5)) (Zk 0)) Zn)))) (Zt (ZI 7 (Zd ZaU (Zd Zo (Zd Zo (Za 2) (Za 4)) (Zk 1)) (Zd Zo (Zd Zo (Za 2) (Za 5)) (Zk 1)))) (Zt (ZI 8 (Zd Zo (Zd Zo (Za 0) (Za 4)) (Za 5))) (ZW (Zaw (ZF (Zd qNe (Za 4) (Za 5))) (Zaw (ZF (Zd qEq (Za 6) (Zk 0))) Zad)) (Zt (ZW (Zaw (ZF (Zd ZbC (Za 8) (ZY))) (Zaw (ZF (Zd qLt (Za 8) (Za 7))) Zad)) (ZG (ZY)) Z1) (ZbB 3 [] (ZbV (Za 7)) (Zcx Za0 (Za 4)) (Za 5))) (ZW (Zaw (ZF (Zd qNe (Za 4) (Za 5))) (Zaw (ZF (Zd ZbC (Za 8) (ZY))) Zad)) (ZbB 3 [] (Zd ZaU (Za 8) (Zd Za1 (Zd ZaU (Za 8) (Za 7)) (Za 6))) (Zcx Za0 (Za 4)) (Za 5)) Z1))))))) (ZG (Za 3)))))
noncomputable def Zgo : List T → Option T := Zaf 2 ZiH
theorem Zpb : SimF false ZiG Zgo := Zai (show S [] [3] [] false ZiF ZiH from (ZA (ZR (O' := []) (Z0 Zal (E.list (Zj (E.tup (Zj (Zm _) (Zj (Zm _) Zq)) (by decide)) Zq) (by decide)) (Zc 1)) (by decide) (by decide) (by decide)) (ZA (Zcw (O' := [3]) (Zdr (Gs.seq (Zc 0)) (PutOk.one (by decide)) (by decide) Zay (ZfE ZdM (Zj (Zc 100) Zq))) (by decide)) (ZA (Zbh (Gs.range (Zj (Zav ZaI (Zj (Zc 2) Zq)) Zq)) (PutOk.one (by decide)) (by decide) (by decide) (Zbh (Gs.range (Zj (Zav ZaI (Zj (Zc 2) Zq)) Zq)) (PutOk.one (by decide)) (by decide) (by decide) (ZA (ZR (O' := [3]) (ZU ZmJ (Zj (Zx Zw (Zx Zw (Zc 2) (Zc 4)) (Zm _)) (Zj (Zx Zw (Zx Zw (Zc 2) (Zc 5)) (Zm _)) Zq))) (by decide) (by decide) (by decide)) (ZA (ZR (O' := [3]) (ZC Zbf (Zx Zw (Zx Zw (Zc 2) (Zc 4)) (Zm _)) (Zx Zw (Zx Zw (Zc 2) (Zc 5)) (Zm _))) (by decide) (by decide) (by decide)) (ZA (ZR (O' := [3]) (Zx Zw (Zx Zw (Zc 0) (Zc 4)) (Zc 5)) (by decide) (by decide) (by decide)) (Z9 (ZaN (ZL (ZC Zbt (Zc 4) (Zc 5))) (ZaN (ZL (ZC ZaZ (Zc 6) (Zm _))) Zay)) (ZA (Z9 (ZaN (ZL (ZC Zcg (Zc 8) (Zae))) (ZaN (ZL (ZC Zco (Zc 8) (Zc 7))) Zay)) (ZP (O' := [3]) (Zae) (by decide)) Zac) (S.put (O' := [3]) (by decide) (Zbg (O' := []) (E.flat (Zc 7)) (by decide)) (Zdt ZbK (Zc 4)) (Zc 5) (by decide) (by decide))) (Z9 (ZaN (ZL (ZC Zbt (Zc 4) (Zc 5))) (ZaN (ZL (ZC Zcg (Zc 8) (Zae))) Zay)) (S.put (O' := [3]) (by decide) (Zbg (O' := []) (ZC Zbf (Zc 8) (ZC Zbb (ZC Zbf (Zc 8) (Zc 7)) (Zc 6))) (by decide)) (Zdt ZbK (Zc 4)) (Zc 5) (by decide) (by decide)) Zac))))))) (ZP (O' := [3]) (Zc 3) (by decide))))))
noncomputable def Zjq : Sm := Zu (ZV (ZJ (Ze oIs (Zb 0) (ZX))) (ZH (ZX)) Z2) (Zu (ZK 1 (ZB Zgc (Zg (Ze Zs (Zb 0) (Zl 0)) Zp))) (Zu (ZV (ZJ (Ze oIs (Zb 1) (ZX))) (ZH (ZX)) Z2) (Zu (ZK 2 (ZB Zgs (Zg (Zb 1) (Zg (Ze Zs (Zb 0) (Zl 1)) Zp)))) (Zu (ZV (ZJ (Ze oIs (Zb 2) (ZX))) (ZH (ZX)) Z2) (Zu (ZK 1 (ZB ZiG (Zg (Zb 1) (Zg (Zb 2) Zp)))) (Zu (ZV (ZJ (Ze oIs (Zb 1) (ZX))) (ZH (ZX)) Z2) (Zu (ZK 1 (ZB Zgc (Zg (Zb 1) Zp))) (Zu (ZV (ZJ (Ze oIs (Zb 1) (ZX))) (ZH (ZX)) Z2) (Zu (ZK 2 (ZB Zgs (Zg (Zb 1) (Zg (Zb 2) Zp)))) (Zu (ZV (ZJ (Ze oIs (Zb 2) (ZX))) (ZH (ZX)) Z2) (ZH (ZaX (Zg (Zb 1) (Zg (Zb 2) Zp))))))))))))))
noncomputable def ZgB : List V → Hp → Option (V × Hp) := Zaa 1 Zjq
noncomputable def ZgC : PS := (Zt (ZW (ZF (Zd qIs (Za 0) (ZY))) (ZG (ZY)) Z1) (Zt (ZI 1 (Zy Zev (Zf (Zd Zo (Za 0) (Zk 0)) Zn))) (Zt (ZW (ZF (Zd qIs (Za 1) (ZY))) (ZG (ZY)) Z1) (Zt (ZI 2 (Zy Zfb (Zf (Za 1) (Zf (Zd Zo (Za 0) (Zk 1)) Zn)))) (Zt (ZW (ZF (Zd qIs (Za 2) (ZY))) (ZG (ZY)) Z1) (Zt (ZI 1 (Zy Zgo (Zf (Za 1) (Zf (Za 2) Zn)))) (Zt (ZW (ZF (Zd qIs (Za 1) (ZY))) (ZG (ZY)) Z1) (Zt (ZI 1 (Zy Zev (Zf (Za 1) Zn))) (Zt (ZW (ZF (Zd qIs (Za 1) (ZY))) (ZG (ZY)) Z1) (Zt (ZI 2 (Zy Zfb (Zf (Za 1) (Zf (Za 2) Zn)))) (Zt (ZW (ZF (Zd qIs (Za 2) (ZY))) (ZG (ZY)) Z1) (ZG (Za3 (Zf (Za 1) (Zf (Za 2) Zn)))))))))))))))
noncomputable def ZcU : List T → Option T := Zaf 1 ZgC
theorem Zmj : SimF false ZgB ZcU := Zai (show S [] [] [] false Zjq ZgC from (ZA (Z9 (ZL (ZC ZbA (Zc 0) (Zae))) (ZP (O' := []) (Zae) (by decide)) Zac) (ZA (ZR (O' := []) (ZU ZlZ (Zj (Zx Zw (Zc 0) (Zm _)) Zq)) (by decide) (by decide) (by decide)) (ZA (Z9 (ZL (ZC ZbA (Zc 1) (Zae))) (ZP (O' := []) (Zae) (by decide)) Zac) (ZA (ZR (O' := []) (ZU Zma (Zj (Zc 1) (Zj (Zx Zw (Zc 0) (Zm _)) Zq))) (by decide) (by decide) (by decide)) (ZA (Z9 (ZL (ZC ZbA (Zc 2) (Zae))) (ZP (O' := []) (Zae) (by decide)) Zac) (ZA (ZR (O' := []) (ZU Zpb (Zj (Zc 1) (Zj (Zc 2) Zq))) (by decide) (by decide) (by decide)) (ZA (Z9 (ZL (ZC ZbA (Zc 1) (Zae))) (ZP (O' := []) (Zae) (by decide)) Zac) (ZA (ZR (O' := []) (ZU ZlZ (Zj (Zc 1) Zq)) (by decide) (by decide) (by decide)) (ZA (Z9 (ZL (ZC ZbA (Zc 1) (Zae))) (ZP (O' := []) (Zae) (by decide)) Zac) (ZA (ZR (O' := []) (ZU Zma (Zj (Zc 1) (Zj (Zc 2) Zq))) (by decide) (by decide) (by decide)) (ZA (Z9 (ZL (ZC ZbA (Zc 2) (Zae))) (ZP (O' := []) (Zae) (by decide)) Zac) (ZP (O' := []) (E.tup (Zj (Zc 1) (Zj (Zc 2) Zq)) (by decide)) (by decide))))))))))))))
noncomputable def Zjr : Sm := Zu (ZV (tOr (Zcm (ZJ (eIs "tuple" (Zb 0)))) (tOr (ZJ (Ze oNe (ZB Zax (Zg (Zb 0) Zp)) (Zl 2))) (tOr (Zcm (ZJ (ZB ZjY (Zg (Ze Zs (Zb 0) (Zl 0)) (Zg (Ze Zah (Zb 1) (Zl 1)) Zp))))) Zch))) (ZH (Zbz false)) Z2) (Zu (ZV (tOr (Zcm (ZJ (eIs "list" (Ze Zs (Zb 0) (Zl 1))))) (tOr (ZJ (Ze oNe (ZB Zax (Zg (Ze Zs (Zb 0) (Zl 1)) Zp)) (Zb 1))) Zch)) (ZH (Zbz false)) Z2) (Zu (ZaY (Zbj (Ze Zs (Zb 0) (Zl 1))) (Zam 2) (Zu (ZV (tOr (Zcm (ZJ (eIs "tuple" (Zb 2)))) (tOr (ZJ (Ze oNe (ZB Zax (Zg (Zb 2) Zp)) (Zl 2))) Zch)) (ZH (Zbz false)) Z2) (Zu (ZV (tOr (Zcm (ZJ (ZB Zff (Zg (Ze Zs (Zb 2) (Zl 0)) Zp)))) (tOr (Zcm (ZJ (ZB Zff (Zg (Ze Zs (Zb 2) (Zl 1)) Zp)))) Zch)) (ZH (Zbz false)) Z2) (ZV (tOr (ZJ (Ze oLt (Ze Zs (Zb 2) (Zl 0)) (Zl 0))) (tOr (ZaB (ZJ (Ze oGt (Ze Zs (Zb 2) (Zl 0)) (Zl 0))) (ZaB (Zcm (ZfN oLe oLt (Zl 0) (Ze Zs (Zb 2) (Zl 1)) (Ze Zs (Zb 2) (Zl 0)))) Zaq)) Zch)) (ZH (Zbz false)) Z2)))) (ZH (Zbz true))))
noncomputable def Zjs : List V → Hp → Option (V × Hp) := Zaa 2 Zjr
noncomputable def Zjt : PS := (Zt (ZW (bOr (Zb3 (ZF (pIs "tuple" (Za 0)))) (bOr (ZF (Zd qNe (Zy Zao (Zf (Za 0) Zn)) (Zk 2))) (bOr (Zb3 (ZF (Zy ZgM (Zf (Zd Zo (Za 0) (Zk 0)) (Zf (Zd Z6 (Za 1) (Zk 1)) Zn))))) Zci))) (ZG (Zbs false)) Z1) (Zt (ZW (bOr (Zb3 (ZF (pIs "list" (Zd Zo (Za 0) (Zk 1))))) (bOr (ZF (Zd qNe (Zy Zao (Zf (Zd Zo (Za 0) (Zk 1)) Zn)) (Za 1))) Zci)) (ZG (Zbs false)) Z1) (Zt (ZaO (ZaE (Zd Zo (Za 0) (Zk 1))) (Z5 2) (Zt (ZW (bOr (Zb3 (ZF (pIs "tuple" (Za 2)))) (bOr (ZF (Zd qNe (Zy Zao (Zf (Za 2) Zn)) (Zk 2))) Zci)) (ZG (Zbs false)) Z1) (Zt (ZW (bOr (Zb3 (ZF (Zy ZeB (Zf (Zd Zo (Za 2) (Zk 0)) Zn)))) (bOr (Zb3 (ZF (Zy ZeB (Zf (Zd Zo (Za 2) (Zk 1)) Zn)))) Zci)) (ZG (Zbs false)) Z1) (ZW (bOr (ZF (Zd qLt (Zd Zo (Za 2) (Zk 0)) (Zk 0))) (bOr (Zaw (ZF (Zd qGt (Zd Zo (Za 2) (Zk 0)) (Zk 0))) (Zaw (Zb3 (ZfO qLe qLt (Zk 0) (Zd Zo (Za 2) (Zk 1)) (Zd Zo (Za 2) (Zk 0)))) Zad)) Zci)) (ZG (Zbs false)) Z1)))) (ZG (Zbs true)))))
noncomputable def ZgD : List T → Option T := Zaf 2 Zjt
theorem ZpP : SimF false Zjs ZgD := Zai (show S [] [] [] false Zjr Zjt from (ZA (Z9 (Zbp (ZcL (ZL (Zeq (Zc 0)))) (Zbp (ZL (ZC Zbt (Zav ZaI (Zj (Zc 0) Zq)) (Zm _))) (Zbp (ZcL (ZL (ZU Zqf (Zj (Zx Zw (Zc 0) (Zm _)) (Zj (Z0 Zal (Zc 1) (Zm _)) Zq))))) ZcG))) (ZP (O' := []) (E.bool _) (by decide)) Zac) (ZA (Z9 (Zbp (ZcL (ZL (Zeq (Zx Zw (Zc 0) (Zm _))))) (Zbp (ZL (ZC Zbt (Zav ZaI (Zj (Zx Zw (Zc 0) (Zm _)) Zq)) (Zc 1))) ZcG)) (ZP (O' := []) (E.bool _) (by decide)) Zac) (ZA (Zbh (Gs.seq (Zx Zw (Zc 0) (Zm _))) (PutOk.one (by decide)) (by decide) (by decide) (ZA (Z9 (Zbp (ZcL (ZL (Zeq (Zc 2)))) (Zbp (ZL (ZC Zbt (Zav ZaI (Zj (Zc 2) Zq)) (Zm _))) ZcG)) (ZP (O' := []) (E.bool _) (by decide)) Zac) (ZA (Z9 (Zbp (ZcL (ZL (ZU Zjm (Zj (Zx Zw (Zc 2) (Zm _)) Zq)))) (Zbp (ZcL (ZL (ZU Zjm (Zj (Zx Zw (Zc 2) (Zm _)) Zq)))) ZcG)) (ZP (O' := []) (E.bool _) (by decide)) Zac) (Z9 (Zbp (ZL (ZC Zco (Zx Zw (Zc 2) (Zm _)) (Zm _))) (Zbp (ZaN (ZL (ZC Zer (Zx Zw (Zc 2) (Zm _)) (Zm _))) (ZaN (ZcL (Zr3 ZlU Zco (Zm _) (Zx Zw (Zc 2) (Zm _)) (Zx Zw (Zc 2) (Zm _)))) Zay)) ZcG)) (ZP (O' := []) (E.bool _) (by decide)) Zac)))) (ZP (O' := []) (E.bool _) (by decide))))))
noncomputable def Zj3 : Sm := Zu (ZV (ZJ (Ze oIs (Zb 1) (ZX))) (ZH (Ze oIs (Zb 0) (ZX))) Z2) (ZH (Zem (ZB Zjs (Zg (Zb 0) (Zg (ZB Zax (Zg (Ze Zs (Zb 1) (Zl 1)) Zp)) Zp))) (Ze oEq (Zb 0) (Zb 1))))
noncomputable def Zj4 : List V → Hp → Option (V × Hp) := Zaa 2 Zj3
noncomputable def ZgO : PS := (Zt (ZW (ZF (Zd qIs (Za 1) (ZY))) (ZG (Zd qIs (Za 0) (ZY))) Z1) (ZG ((Zep (Zy ZgD (Zf (Za 0) (Zf (Zy Zao (Zf (Zd Zo (Za 1) (Zk 1)) Zn)) Zn))) (Zd qEq (Za 0) (Za 1))))))
noncomputable def ZdI : List T → Option T := Zaf 2 ZgO
theorem Zqi : SimF false Zj4 ZdI := Zai (show S [] [] [] false Zj3 ZgO from (ZA (Z9 (ZL (ZC ZbA (Zc 1) (Zae))) (ZP (O' := []) (ZC ZbA (Zc 0) (Zae)) (by decide)) Zac) (ZP (O' := []) ((ZlN (E.sh (ZU ZpP (Zj (Zc 0) (Zj (Zav ZaI (Zj (Zx Zw (Zc 1) (Zm _)) Zq)) Zq)))) (E.sh (ZC ZaZ (Zc 0) (Zc 1))))) (by decide))))
noncomputable def Zj5 : Sm := Zu (ZV (ZJ (Ze oIs (Zb 0) (ZX))) (ZH (Zbz false)) Z2) (Zu (ZK 2 (Ze Zah (Zbe (Zg (Zl 0) Zp)) (Zb 1))) (Zu (ZaY (ZaR (Zg (ZB Zax (Zg (Zb 2) Zp)) Zp)) (Zam 3) (ZaY (ZaR (Zg (ZB Zax (Zg (Zb 2) Zp)) Zp)) (Zam 4) (ZV (ZaB (ZJ (Ze Zb2 (Ze Zs (Ze Zs (Ze Zs (Zb 0) (Zl 0)) (Zb 3)) (Zb 4)) (ZX))) (ZaB (ZJ (Ze oGt (Ze Zs (Zb 2) (Zb 3)) (Ze Zah (Ze Zs (Zb 2) (Zb 4)) (Ze Zs (Ze Zs (Ze Zs (Zb 0) (Zl 0)) (Zb 3)) (Zb 4))))) Zaq)) (ZH (Zbz false)) Z2))) (Zu (ZaY (ZaR (Zg (ZB Zax (Zg (Zb 1) Zp)) Zp)) (Zam 5) (Zu (ZK 6 (Ze Za9 (Ze Zs (Zb 1) (Zb 5)) (Ze Zs (Ze Zs (Ze Zs (Zb 0) (Zl 1)) (Zb 5)) (Zl 1)))) (Zu (ZV (ZaB (ZJ (Ze oEq (Ze Zs (Ze Zs (Ze Zs (Zb 0) (Zl 1)) (Zb 5)) (Zl 0)) (Zl 0))) (ZaB (ZJ (Ze oNe (Zb 6) (Zl 0))) Zaq)) (ZH (Zbz false)) Z2) (ZV (ZaB (ZJ (Ze oGt (Ze Zs (Ze Zs (Ze Zs (Zb 0) (Zl 1)) (Zb 5)) (Zl 0)) (Zl 0))) (ZaB (ZJ (Ze oNe (Ze oMod (Zb 6) (Ze Zs (Ze Zs (Ze Zs (Zb 0) (Zl 1)) (Zb 5)) (Zl 0))) (Zl 0))) Zaq)) (ZH (Zbz false)) Z2)))) (ZH (Zbz true)))))
noncomputable def Zj6 : List V → Hp → Option (V × Hp) := Zaa 2 Zj5
noncomputable def Zj7 : PS := (Zt (ZW (ZF (Zd qIs (Za 0) (ZY))) (ZG (Zbs false)) Z1) (Zt (ZI 2 (Zd Z6 (Za2 (Zf (Zk 0) Zn)) (Za 1))) (Zt (ZaO (ZaG (Zf (Zy Zao (Zf (Za 2) Zn)) Zn)) (Z5 3) (ZaO (ZaG (Zf (Zy Zao (Zf (Za 2) Zn)) Zn)) (Z5 4) (ZW (Zaw (ZF (Zd ZbC (Zd Zo (Zd Zo (Zd Zo (Za 0) (Zk 0)) (Za 3)) (Za 4)) (ZY))) (Zaw (ZF (Zd qGt (Zd Zo (Za 2) (Za 3)) (Zd Z6 (Zd Zo (Za 2) (Za 4)) (Zd Zo (Zd Zo (Zd Zo (Za 0) (Zk 0)) (Za 3)) (Za 4))))) Zad)) (ZG (Zbs false)) Z1))) (Zt (ZaO (ZaG (Zf (Zy Zao (Zf (Za 1) Zn)) Zn)) (Z5 5) (Zt (ZI 6 (Zd ZaU (Zd Zo (Za 1) (Za 5)) (Zd Zo (Zd Zo (Zd Zo (Za 0) (Zk 1)) (Za 5)) (Zk 1)))) (Zt (ZW (Zaw (ZF (Zd qEq (Zd Zo (Zd Zo (Zd Zo (Za 0) (Zk 1)) (Za 5)) (Zk 0)) (Zk 0))) (Zaw (ZF (Zd qNe (Za 6) (Zk 0))) Zad)) (ZG (Zbs false)) Z1) (ZW (Zaw (ZF (Zd qGt (Zd Zo (Zd Zo (Zd Zo (Za 0) (Zk 1)) (Za 5)) (Zk 0)) (Zk 0))) (Zaw (ZF (Zd qNe (Zd Za1 (Za 6) (Zd Zo (Zd Zo (Zd Zo (Za 0) (Zk 1)) (Za 5)) (Zk 0))) (Zk 0))) Zad)) (ZG (Zbs false)) Z1)))) (ZG (Zbs true))))))
noncomputable def Zd3 : List T → Option T := Zaf 2 Zj7
theorem Zqj : SimF false Zj6 Zd3 := Zai (show S [] [] [] false Zj5 Zj7 from (ZA (Z9 (ZL (ZC ZbA (Zc 0) (Zae))) (ZP (O' := []) (E.bool _) (by decide)) Zac) (ZA (ZR (O' := []) (Z0 Zal (E.list (Zj (Zm _) Zq) (by decide)) (Zc 1)) (by decide) (by decide) (by decide)) (ZA (Zbh (Gs.range (Zj (Zav ZaI (Zj (Zc 2) Zq)) Zq)) (PutOk.one (by decide)) (by decide) (by decide) (Zbh (Gs.range (Zj (Zav ZaI (Zj (Zc 2) Zq)) Zq)) (PutOk.one (by decide)) (by decide) (by decide) (Z9 (ZaN (ZL (ZC Zcg (Zx Zw (Zx Zw (Zx Zw (Zc 0) (Zm _)) (Zc 3)) (Zc 4)) (Zae))) (ZaN (ZL (ZC Zer (Zx Zw (Zc 2) (Zc 3)) (Z0 Zal (Zx Zw (Zc 2) (Zc 4)) (Zx Zw (Zx Zw (Zx Zw (Zc 0) (Zm _)) (Zc 3)) (Zc 4))))) Zay)) (ZP (O' := []) (E.bool _) (by decide)) Zac))) (ZA (Zbh (Gs.range (Zj (Zav ZaI (Zj (Zc 1) Zq)) Zq)) (PutOk.one (by decide)) (by decide) (by decide) (ZA (ZR (O' := []) (ZC Zbf (Zx Zw (Zc 1) (Zc 5)) (Zx Zw (Zx Zw (Zx Zw (Zc 0) (Zm _)) (Zc 5)) (Zm _))) (by decide) (by decide) (by decide)) (ZA (Z9 (ZaN (ZL (ZC ZaZ (Zx Zw (Zx Zw (Zx Zw (Zc 0) (Zm _)) (Zc 5)) (Zm _)) (Zm _))) (ZaN (ZL (ZC Zbt (Zc 6) (Zm _))) Zay)) (ZP (O' := []) (E.bool _) (by decide)) Zac) (Z9 (ZaN (ZL (ZC Zer (Zx Zw (Zx Zw (Zx Zw (Zc 0) (Zm _)) (Zc 5)) (Zm _)) (Zm _))) (ZaN (ZL (ZC Zbt (ZC Zbb (Zc 6) (Zx Zw (Zx Zw (Zx Zw (Zc 0) (Zm _)) (Zc 5)) (Zm _))) (Zm _))) Zay)) (ZP (O' := []) (E.bool _) (by decide)) Zac)))) (ZP (O' := []) (E.bool _) (by decide)))))))
noncomputable def Zgt : Sm := ZV (ZJ (Ze Zb2 (Zb 0) (ZX))) (Zu (ZbX (Zl 7) (Ze Zs (Ze Zs (Zb 0) (Zl 0)) (Zl 0)) (Zl 0)) (Zu (Zcs (Zdq (Ze Zs (Zb 0) (Zl 0)) (Zbe (Zg (Zl 7) Zp)))) (Zcs (Zdq (Ze Zs (Zb 0) (Zl 1)) (ZaX (Zg (Zl 7) (Zg (Zl 7) Zp))))))) Z2
noncomputable def ZiV : List V → Hp → Option (V × Hp) := Zaa 1 Zgt
noncomputable def ZiW : PS := (ZW (ZF (Zd ZbC (Za 0) (ZY))) (Zt (ZbB 0 [] (Zk 7) (Zcx (Zcx Za0 (Zk 0)) (Zk 0)) (Zk 0)) (Zt (ZcQ 0 [] (Zcx Za0 (Zk 0)) (Za2 (Zf (Zk 7) Zn))) (ZcQ 0 [] (Zcx Za0 (Zk 1)) (Za3 (Zf (Zk 7) (Zf (Zk 7) Zn)))))) Z1)
noncomputable def Zd1 : List T → Option T := Zga 1 ZiW
theorem Zpr : SimM ZiV Zd1 := Zs8 (show S [0] [0] [0] false Zgt ZiW from (Z9 (ZL (ZC Zcg (Zc 0) (Zae))) (ZA (S.put (O' := [0]) (by decide) (Zbg (O' := []) (Zm _) (by decide)) (Zdt (Zdt ZbK (Zm _)) (Zm _)) (Zm _) (by decide) (by decide)) (ZA (Ze0 (O' := [0]) (by decide) (Zdt ZbK (Zm _)) (Zbg (O' := []) (E.list (Zfx (Zm _) Zq (by decide) (by decide)) (by decide)) (by decide)) (by decide) (by decide)) (Ze0 (O' := [0]) (by decide) (Zdt ZbK (Zm _)) (Zbg (O' := []) (E.tup (Zfx (Zm _) (Zfx (Zm _) Zq (by decide) (by decide)) (by decide) (by decide)) (by decide)) (by decide)) (by decide) (by decide)))) Zac)) (by decide) (by unfold Zgt; repeat' first | exact Keep0.next | exact Zq6 | exact Keep0.ret | exact Keep0.put | apply Keep0.seq | apply Zq7 | exact Keep0.set (by decide))
noncomputable def ZkB : Sm := Zu (ZK 3 (Ze Zah (Zbe (Zg (ZB Zd0 (Zg (Zb 0) (Zg (Zb 1) Zp))) Zp)) (Ze ZaJ (Zbe (Zg (Zl 0) Zp)) (Zb 2)))) (Zu (ZK 4 (ZB ZbH (Zg (Zb 0) (Zg (Zb 1) (Zg (Zl 6) Zp))))) (Zu (ZV (tOr (ZJ (Ze oEq (Zb 4) (Zl 0))) (tOr (ZJ (Ze oEq (Zb 2) (Zl 0))) Zch)) (ZH (Zb 3)) Z2) (Zu (ZK 5 (Ze Zah (Zl 1) (ZB ZbH (Zg (Zb 0) (Zg (Ze Zah (Zb 1) (Zl 1)) (Zg (Zb 2) Zp)))))) (Zu (ZV (ZJ (Ze oEq (Zb 4) (Zl 1))) (ZbX (Ze Za9 (ZB ZbH (Zg (Zb 0) (Zg (Ze Zah (Zb 1) (Zl 2)) (Zg (Zl 13) Zp)))) (Zl 6)) (Zb 3) (Zb 5)) Z2) (Zu (ZV (tOr (ZJ (Ze oEq (Zb 4) (Zl 2))) (tOr (ZJ (Ze oEq (Zb 4) (Zl 3))) Zch)) (Zu (ZK 6 (Ze Zah (Zl 1) (ZB ZbH (Zg (Zb 0) (Zg (Ze Zah (Zb 1) (Zl 2)) (Zg (Zb 2) Zp)))))) (Zu (ZbX (Zl 1) (Zb 3) (Zb 5)) (ZbX (Ze Za9 (Ze Zs (Zb 3) (Zb 6)) (Zl 1)) (Zb 3) (Zb 6)))) Z2) (Zu (ZV (ZJ (Ze oEq (Zb 4) (Zl 4))) (ZaY (ZaR (Zg (Zb 2) Zp)) (Zam 7) (ZbX (Ze Za9 (ZB ZbH (Zg (Zb 0) (Zg (Ze Zah (Ze Zah (Zb 1) (Zl 1)) (Zb 7)) (Zg (Zl 7) Zp)))) (Zl 3)) (Zb 3) (Ze Zah (Zb 7) (Zl 1)))) Z2) (Zu (ZV (ZJ (Ze oEq (Zb 4) (Zl 5))) (ZaY (ZaR (Zg (Zb 2) Zp)) (Zam 7) (ZbX (Ze Za9 (ZB ZbH (Zg (Zb 0) (Zg (Ze Zah (Ze Zah (Zb 1) (Zl 1)) (Zb 7)) (Zg (Zl 2000000001) Zp)))) (Zl 1000000000)) (Zb 3) (Ze Zah (Zb 7) (Zl 1)))) Z2) (ZH (Zb 3)))))))))
noncomputable def ZkC : List V → Hp → Option (V × Hp) := Zaa 3 ZkB
noncomputable def ZkD : PS := (Zt (ZI 3 (pFl (Zd Z6 (Za2 (Zf (Zy ZdF (Zf (Za 0) (Zf (Za 1) Zn))) Zn)) (Zd Zat (Za2 (Zf (Zk 0) Zn)) (Za 2))))) (Zt (ZI 4 (Zy Zbm (Zf (Za 0) (Zf (Za 1) (Zf (Zk 6) Zn))))) (Zt (ZW (bOr (ZF (Zd qEq (Za 4) (Zk 0))) (bOr (ZF (Zd qEq (Za 2) (Zk 0))) Zci)) (ZG (Za 3)) Z1) (Zt (ZI 5 (Zd Z6 (Zk 1) (Zy Zbm (Zf (Za 0) (Zf (Zd Z6 (Za 1) (Zk 1)) (Zf (Za 2) Zn)))))) (Zt (ZW (ZF (Zd qEq (Za 4) (Zk 1))) (ZbB 3 [] (Zd ZaU (Zy Zbm (Zf (Za 0) (Zf (Zd Z6 (Za 1) (Zk 2)) (Zf (Zk 13) Zn)))) (Zk 6)) Za0 (Za 5)) Z1) (Zt (ZW (bOr (ZF (Zd qEq (Za 4) (Zk 2))) (bOr (ZF (Zd qEq (Za 4) (Zk 3))) Zci)) (Zt (ZI 6 (Zd Z6 (Zk 1) (Zy Zbm (Zf (Za 0) (Zf (Zd Z6 (Za 1) (Zk 2)) (Zf (Za 2) Zn)))))) (Zt (ZbB 3 [] (Zk 1) Za0 (Za 5)) (ZbB 3 [] (Zd ZaU (Zd Zo (Za 3) (Za 6)) (Zk 1)) Za0 (Za 6)))) Z1) (Zt (ZW (ZF (Zd qEq (Za 4) (Zk 4))) (ZaO (ZaG (Zf (Za 2) Zn)) (Z5 7) (ZbB 3 [] (Zd ZaU (Zy Zbm (Zf (Za 0) (Zf (Zd Z6 (Zd Z6 (Za 1) (Zk 1)) (Za 7)) (Zf (Zk 7) Zn)))) (Zk 3)) Za0 (Zd Z6 (Za 7) (Zk 1)))) Z1) (Zt (ZW (ZF (Zd qEq (Za 4) (Zk 5))) (ZaO (ZaG (Zf (Za 2) Zn)) (Z5 7) (ZbB 3 [] (Zd ZaU (Zy Zbm (Zf (Za 0) (Zf (Zd Z6 (Zd Z6 (Za 1) (Zk 1)) (Za 7)) (Zf (Zk 2000000001) Zn)))) (Zk 1000000000)) Za0 (Zd Z6 (Za 7) (Zk 1)))) Z1) (ZG (Za 3))))))))))
noncomputable def Zfs : List T → Option T := Zaf 3 ZkD
theorem Zrd : SimF false ZkC Zfs := Zai (show S [] [3] [] false ZkB ZkD from (ZA (Zcw (O' := [3]) (Zn5 Zal (E.list (Zj (ZU Ze9 (Zj (Zc 0) (Zj (Zc 1) Zq))) Zq) (by decide)) (Z0 ZaS (E.list (Zj (Zm _) Zq) (by decide)) (Zc 2))) (by decide)) (ZA (ZR (O' := [3]) (ZU ZbT (Zj (Zc 0) (Zj (Zc 1) (Zj (Zm _) Zq)))) (by decide) (by decide) (by decide)) (ZA (Z9 (Zbp (ZL (ZC ZaZ (Zc 4) (Zm _))) (Zbp (ZL (ZC ZaZ (Zc 2) (Zm _))) ZcG)) (ZP (O' := [3]) (Zc 3) (by decide)) Zac) (ZA (ZR (O' := [3]) (Z0 Zal (Zm _) (ZU ZbT (Zj (Zc 0) (Zj (Z0 Zal (Zc 1) (Zm _)) (Zj (Zc 2) Zq))))) (by decide) (by decide) (by decide)) (ZA (Z9 (ZL (ZC ZaZ (Zc 4) (Zm _))) (S.put (O' := [3]) (by decide) (Zbg (O' := []) (ZC Zbf (ZU ZbT (Zj (Zc 0) (Zj (Z0 Zal (Zc 1) (Zm _)) (Zj (Zm _) Zq)))) (Zm _)) (by decide)) ZbK (Zc 5) (by decide) (by decide)) Zac) (ZA (Z9 (Zbp (ZL (ZC ZaZ (Zc 4) (Zm _))) (Zbp (ZL (ZC ZaZ (Zc 4) (Zm _))) ZcG)) (ZA (ZR (O' := [3]) (Z0 Zal (Zm _) (ZU ZbT (Zj (Zc 0) (Zj (Z0 Zal (Zc 1) (Zm _)) (Zj (Zc 2) Zq))))) (by decide) (by decide) (by decide)) (ZA (S.put (O' := [3]) (by decide) (Zbg (O' := []) (Zm _) (by decide)) ZbK (Zc 5) (by decide) (by decide)) (S.put (O' := [3]) (by decide) (Zbg (O' := []) (ZC Zbf (Zx Zw (Zc 3) (Zc 6)) (Zm _)) (by decide)) ZbK (Zc 6) (by decide) (by decide)))) Zac) (ZA (Z9 (ZL (ZC ZaZ (Zc 4) (Zm _))) (Zbh (Gs.range (Zj (Zc 2) Zq)) (PutOk.one (by decide)) (by decide) (by decide) (S.put (O' := [3]) (by decide) (Zbg (O' := []) (ZC Zbf (ZU ZbT (Zj (Zc 0) (Zj (Z0 Zal (Z0 Zal (Zc 1) (Zm _)) (Zc 7)) (Zj (Zm _) Zq)))) (Zm _)) (by decide)) ZbK (Z0 Zal (Zc 7) (Zm _)) (by decide) (by decide))) Zac) (ZA (Z9 (ZL (ZC ZaZ (Zc 4) (Zm _))) (Zbh (Gs.range (Zj (Zc 2) Zq)) (PutOk.one (by decide)) (by decide) (by decide) (S.put (O' := [3]) (by decide) (Zbg (O' := []) (ZC Zbf (ZU ZbT (Zj (Zc 0) (Zj (Z0 Zal (Z0 Zal (Zc 1) (Zm _)) (Zc 7)) (Zj (Zm _) Zq)))) (Zm _)) (by decide)) ZbK (Z0 Zal (Zc 7) (Zm _)) (by decide) (by decide))) Zac) (ZP (O' := [3]) (Zc 3) (by decide)))))))))))
noncomputable def Zik : Sm := Zu (ZK 2 (Zaz (ZaR (Zg (Zl 1) (Zg (ZB Zax (Zg (Zb 1) Zp)) Zp))) (Zam 100) (ZJ (Ze oGt (Ze Zs (Zb 1) (Zb 100)) (Zl 0))) (Zb 100))) (Zu (ZK 3 (Zaz (ZaR (Zg (Zl 1) (Zg (ZB Zax (Zg (Zb 1) Zp)) Zp))) (Zam 102) (ZJ (Ze oLt (Ze Zs (Zb 1) (Zb 102)) (Zl 0))) (Zb 102))) (Zu (ZV (ZaB (ZJ (Ze oEq (ZB Zax (Zg (Zb 2) Zp)) (Zl 1))) (ZaB (ZJ (Ze oEq (ZB Zax (Zg (Zb 3) Zp)) (Zl 1))) (ZaB (ZJ (Ze oEq (Ze Zs (Zb 1) (Ze Zs (Zb 2) (Zl 0))) (Zl 1))) (ZaB (ZJ (Ze oEq (Ze Zs (Zb 1) (Ze Zs (Zb 3) (Zl 0))) (eUn ZdA (Zl 1)))) Zaq)))) (Zu (ZV (ZJ (Ze oIs (Ze Zs (Ze Zs (Ze Zs (Zb 0) (Zl 0)) (Ze Zs (Zb 2) (Zl 0))) (Ze Zs (Zb 3) (Zl 0))) (ZX))) (ZH (ZX)) Z2) (ZH (Ze Zah (Ze Zs (Ze Zs (Ze Zs (Zb 0) (Zl 0)) (Ze Zs (Zb 2) (Zl 0))) (Ze Zs (Zb 3) (Zl 0))) (Ze Zs (Zb 1) (Zl 0))))) Z2) (Zu (ZK 4 (Ze Zah (Zaz (Zbj (Zb 2)) (Zam 104) Zaq (Ze Zs (Ze Zs (Ze Zs (Zb 0) (Zl 0)) (Zb 104)) (Zl 0))) (Zaz (Zbj (Zb 3)) (Zam 106) Zaq (Ze Zs (Ze Zs (Ze Zs (Zb 0) (Zl 0)) (Zl 0)) (Zb 106))))) (Zu (ZV (ZJ (Ze oIn (ZX) (Zb 4))) (ZH (ZX)) Z2) (Zu (ZK 5 (Ze Zs (Zb 1) (Zl 0))) (Zu (ZaY (Zbj (Zb 2)) (Zam 6) (ZK 5 (Ze Zah (Zb 5) (Ze ZaJ (Ze Zs (Zb 1) (Zb 6)) (Ze Zs (Ze Zs (Ze Zs (Zb 0) (Zl 0)) (Zb 6)) (Zl 0)))))) (Zu (ZaY (Zbj (Zb 3)) (Zam 6) (ZK 5 (Ze Za9 (Zb 5) (Ze ZaJ (Ze Zs (Zb 1) (Zb 6)) (Ze Zs (Ze Zs (Ze Zs (Zb 0) (Zl 0)) (Zl 0)) (Zb 6)))))) (ZH (Zb 5)))))))))
noncomputable def Zil : List V → Hp → Option (V × Hp) := Zaa 2 Zik
noncomputable def Zim : PS := (Zt (ZI 2 (Zan (ZaG (Zf (Zk 1) (Zf (Zy Zao (Zf (Za 1) Zn)) Zn))) (Z5 100) (ZF (Zd qGt (Zd Zo (Za 1) (Za 100)) (Zk 0))) (Za 100))) (Zt (ZI 3 (Zan (ZaG (Zf (Zk 1) (Zf (Zy Zao (Zf (Za 1) Zn)) Zn))) (Z5 102) (ZF (Zd qLt (Zd Zo (Za 1) (Za 102)) (Zk 0))) (Za 102))) (Zt (ZW (Zaw (ZF (Zd qEq (Zy Zao (Zf (Za 2) Zn)) (Zk 1))) (Zaw (ZF (Zd qEq (Zy Zao (Zf (Za 3) Zn)) (Zk 1))) (Zaw (ZF (Zd qEq (Zd Zo (Za 1) (Zd Zo (Za 2) (Zk 0))) (Zk 1))) (Zaw (ZF (Zd qEq (Zd Zo (Za 1) (Zd Zo (Za 3) (Zk 0))) (pUn Zdj (Zk 1)))) Zad)))) (Zt (ZW (ZF (Zd qIs (Zd Zo (Zd Zo (Zd Zo (Za 0) (Zk 0)) (Zd Zo (Za 2) (Zk 0))) (Zd Zo (Za 3) (Zk 0))) (ZY))) (ZG (ZY)) Z1) (ZG (Zd Z6 (Zd Zo (Zd Zo (Zd Zo (Za 0) (Zk 0)) (Zd Zo (Za 2) (Zk 0))) (Zd Zo (Za 3) (Zk 0))) (Zd Zo (Za 1) (Zk 0))))) Z1) (Zt (ZI 4 (Zd Z6 (Zan (ZaE (Za 2)) (Z5 104) Zad (Zd Zo (Zd Zo (Zd Zo (Za 0) (Zk 0)) (Za 104)) (Zk 0))) (Zan (ZaE (Za 3)) (Z5 106) Zad (Zd Zo (Zd Zo (Zd Zo (Za 0) (Zk 0)) (Zk 0)) (Za 106))))) (Zt (ZW (ZF (Zd qIn (ZY) (Za 4))) (ZG (ZY)) Z1) (Zt (ZI 5 (Zd Zo (Za 1) (Zk 0))) (Zt (ZaO (ZaE (Za 2)) (Z5 6) (ZI 5 (Zd Z6 (Za 5) (Zd Zat (Zd Zo (Za 1) (Za 6)) (Zd Zo (Zd Zo (Zd Zo (Za 0) (Zk 0)) (Za 6)) (Zk 0)))))) (Zt (ZaO (ZaE (Za 3)) (Z5 6) (ZI 5 (Zd ZaU (Za 5) (Zd Zat (Zd Zo (Za 1) (Za 6)) (Zd Zo (Zd Zo (Zd Zo (Za 0) (Zk 0)) (Zk 0)) (Za 6)))))) (ZG (Za 5))))))))))
noncomputable def Zgj : List T → Option T := Zaf 2 Zim
theorem ZoT : SimF false Zil Zgj := Zai (show S [] [] [] false Zik Zim from (ZA (ZR (O' := []) (Zbw (Gs.range (Zj (Zm _) (Zj (Zav ZaI (Zj (Zc 1) Zq)) Zq))) (PutOk.one (by decide)) (by decide) (ZL (ZC Zer (Zx Zw (Zc 1) (Zc 100)) (Zm _))) (Zc 100)) (by decide) (by decide) (by decide)) (ZA (ZR (O' := []) (Zbw (Gs.range (Zj (Zm _) (Zj (Zav ZaI (Zj (Zc 1) Zq)) Zq))) (PutOk.one (by decide)) (by decide) (ZL (ZC Zco (Zx Zw (Zc 1) (Zc 102)) (Zm _))) (Zc 102)) (by decide) (by decide) (by decide)) (ZA (Z9 (ZaN (ZL (ZC ZaZ (Zav ZaI (Zj (Zc 2) Zq)) (Zm _))) (ZaN (ZL (ZC ZaZ (Zav ZaI (Zj (Zc 3) Zq)) (Zm _))) (ZaN (ZL (ZC ZaZ (Zx Zw (Zc 1) (Zx Zw (Zc 2) (Zm _))) (Zm _))) (ZaN (ZL (ZC ZaZ (Zx Zw (Zc 1) (Zx Zw (Zc 3) (Zm _))) (Zee Zef (Zm _)))) Zay)))) (ZA (Z9 (ZL (ZC ZbA (Zx Zw (Zx Zw (Zx Zw (Zc 0) (Zm _)) (Zx Zw (Zc 2) (Zm _))) (Zx Zw (Zc 3) (Zm _))) (Zae))) (ZP (O' := []) (Zae) (by decide)) Zac) (ZP (O' := []) (Z0 Zal (Zx Zw (Zx Zw (Zx Zw (Zc 0) (Zm _)) (Zx Zw (Zc 2) (Zm _))) (Zx Zw (Zc 3) (Zm _))) (Zx Zw (Zc 1) (Zm _))) (by decide))) Zac) (ZA (ZR (O' := []) (Z0 Zal (Zbw (Gs.seq (Zc 2)) (PutOk.one (by decide)) (by decide) Zay (Zx Zw (Zx Zw (Zx Zw (Zc 0) (Zm _)) (Zc 104)) (Zm _))) (Zbw (Gs.seq (Zc 3)) (PutOk.one (by decide)) (by decide) Zay (Zx Zw (Zx Zw (Zx Zw (Zc 0) (Zm _)) (Zm _)) (Zc 106)))) (by decide) (by decide) (by decide)) (ZA (Z9 (ZL (ZC Zf9 (Zae) (Zc 4))) (ZP (O' := []) (Zae) (by decide)) Zac) (ZA (ZR (O' := []) (Zx Zw (Zc 1) (Zm _)) (by decide) (by decide) (by decide)) (ZA (Zbh (Gs.seq (Zc 2)) (PutOk.one (by decide)) (by decide) (by decide) (ZR (O' := []) (Z0 Zal (Zc 5) (Z0 ZaS (Zx Zw (Zc 1) (Zc 6)) (Zx Zw (Zx Zw (Zx Zw (Zc 0) (Zm _)) (Zc 6)) (Zm _)))) (by decide) (by decide) (by decide))) (ZA (Zbh (Gs.seq (Zc 3)) (PutOk.one (by decide)) (by decide) (by decide) (ZR (O' := []) (ZC Zbf (Zc 5) (Z0 ZaS (Zx Zw (Zc 1) (Zc 6)) (Zx Zw (Zx Zw (Zx Zw (Zc 0) (Zm _)) (Zm _)) (Zc 6)))) (by decide) (by decide) (by decide))) (ZP (O' := []) (Zc 5) (by decide)))))))))))
noncomputable def Zh9 : Sm := ZH (Ze oEq (ZB ZfH (Zg (Zaz (Zbj (Zdw (Zb 0) 1)) (Zam 100) (ZJ (Ze oNe (Zb 100) (Zl 0))) (Zb 100)) Zp)) (Zbe (Zg (eUn ZdA (Zl 1)) (Zg (Zl 1) Zp))))
noncomputable def Zia : List V → Hp → Option (V × Hp) := Zaa 1 Zh9
noncomputable def Zib : PS := (ZG (Zd qEq (Zy Zho (Zf (Zan (ZaE (Zdg (Za 0) 1)) (Z5 100) (ZF (Zd qNe (Za 100) (Zk 0))) (Za 100)) Zn)) (Za2 (Zf (pUn Zdj (Zk 1)) (Zf (Zk 1) Zn)))))
noncomputable def Zgg : List T → Option T := Zaf 1 Zib
theorem ZoI : SimF false Zia Zgg := Zai (show S [] [] [] false Zh9 Zib from (ZP (O' := []) (ZC ZaZ (Zhf Zr5 (Zj (Zbw (Gs.seq (ZhC (Zc 0))) (PutOk.one (by decide)) (by decide) (ZL (ZC Zbt (Zc 100) (Zm _))) (Zc 100)) Zq)) (E.list (Zj (Zee Zef (Zm _)) (Zj (Zm _) Zq)) (by decide))) (by decide)))
noncomputable def Zin : Sm := Zu (ZK 1 (Ze Zs (Zb 0) (Zl 0))) (ZH (Zaz (ZaR (Zg (Zl 1) (Zg (ZB Zax (Zg (Zb 1) Zp)) Zp))) (Zam 100) Zaq (ZaX (Zg (ZB Zfg (Zg (Ze Zs (Ze Zs (Zb 1) (Zl 0)) (Zb 100)) (Zg (eUn ZdA (Zl 1)) Zp))) (Zg (Ze Zs (Ze Zs (Zb 1) (Zb 100)) (Zl 0)) Zp)))))
noncomputable def Zio : List V → Hp → Option (V × Hp) := Zaa 1 Zin
noncomputable def Zip : PS := (Zt (ZI 1 (Zd Zo (Za 0) (Zk 0))) (ZG (Zan (ZaG (Zf (Zk 1) (Zf (Zy Zao (Zf (Za 1) Zn)) Zn))) (Z5 100) Zad (Za3 (Zf (Zy ZeC (Zf (Zd Zo (Zd Zo (Za 1) (Zk 0)) (Za 100)) (Zf (pUn Zdj (Zk 1)) Zn))) (Zf (Zd Zo (Zd Zo (Za 1) (Za 100)) (Zk 0)) Zn))))))
noncomputable def Zgk : List T → Option T := Zaf 1 Zip
theorem ZoU : SimF false Zio Zgk := Zai (show S [] [] [] false Zin Zip from (ZA (ZR (O' := []) (Zx Zw (Zc 0) (Zm _)) (by decide) (by decide) (by decide)) (ZP (O' := []) (Zbw (Gs.range (Zj (Zm _) (Zj (Zav ZaI (Zj (Zc 1) Zq)) Zq))) (PutOk.one (by decide)) (by decide) Zay (E.tup (Zj (ZU Zjp (Zj (Zx Zw (Zx Zw (Zc 1) (Zm _)) (Zc 100)) (Zj (Zee Zef (Zm _)) Zq))) (Zj (Zx Zw (Zx Zw (Zc 1) (Zc 100)) (Zm _)) Zq)) (by decide))) (by decide))))
noncomputable def Zj8 : Sm := Zu (ZV (ZJ (ZB Zia (Zg (Zb 1) Zp))) (ZH (ZB Zd2 (Zg (Ze Zs (Ze Zs (Ze Zs (Zb 0) (Zl 0)) (ZfP (Zb 1) (Zl 1) (Zl 1))) (ZfP (Zb 1) (eUn ZdA (Zl 1)) (Zl 1))) (Zg (Ze Zs (Zb 1) (Zl 0)) Zp)))) Z2) (ZH (Ze Zs (ZB Zix (Zg (Zb 1) (Zg (ZB Zio (Zg (Zb 0) Zp)) Zp))) (Zl 1)))
noncomputable def Zj9 : List V → Hp → Option (V × Hp) := Zaa 2 Zj8
noncomputable def Zka : PS := (Zt (ZW (ZF (Zy Zgg (Zf (Za 1) Zn))) (ZG (Zy ZdH (Zf (Zd Zo (Zd Zo (Zd Zo (Za 0) (Zk 0)) (ZfQ (Za 1) (Zk 1) (Zk 1))) (ZfQ (Za 1) (pUn Zdj (Zk 1)) (Zk 1))) (Zf (Zd Zo (Za 1) (Zk 0)) Zn)))) Z1) (ZG (Zd Zo (Zy Zgm (Zf (Za 1) (Zf (Zy Zgk (Zf (Za 0) Zn)) Zn))) (Zk 1))))
noncomputable def ZgP : List T → Option T := Zaf 2 Zka
theorem Zqk : SimF false Zj9 ZgP := Zai (show S [] [] [] false Zj8 Zka from (ZA (Z9 (ZL (ZU ZoI (Zj (Zc 1) Zq))) (ZP (O' := []) (ZU Zfk (Zj (Zx Zw (Zx Zw (Zx Zw (Zc 0) (Zm _)) (E.index (Zc 1) (Zm _) (Zm _))) (E.index (Zc 1) (Zee Zef (Zm _)) (Zm _))) (Zj (Zx Zw (Zc 1) (Zm _)) Zq))) (by decide)) Zac) (ZP (O' := []) (Zx Zw (ZU Zo8 (Zj (Zc 1) (Zj (ZU ZoU (Zj (Zc 0) Zq)) Zq))) (Zm _)) (by decide))))
noncomputable def Zju : Sm := ZH (Zaz (Zbj (Zb 0)) (Zam 100) Zaq (Ze ZaJ (Zb 100) (Zb 1)))
noncomputable def Zjv : List V → Hp → Option (V × Hp) := Zaa 2 Zju
noncomputable def Zjw : PS := (ZG (Zan (ZaE (Za 0)) (Z5 100) Zad (Zd Zat (Za 100) (Za 1))))
noncomputable def ZgE : List T → Option T := Zaf 2 Zjw
theorem ZpQ : SimF false Zjv ZgE := Zai (show S [] [] [] false Zju Zjw from (ZP (O' := []) (Zbw (Gs.seq (Zc 0)) (PutOk.one (by decide)) (by decide) Zay (Z0 ZaS (Zc 100) (Zc 1))) (by decide)))
noncomputable def Zjx : Sm := ZH (Ze Zah (Ze Zs (Zb 0) (Zl 0)) (ZB Zf3 (Zg (Zaz (ZaR (Zg (ZB Zax (Zg (Zb 1) Zp)) Zp)) (Zam 100) Zaq (Ze ZaJ (Ze Zs (Zb 0) (Ze Zah (Zb 100) (Zl 1))) (Ze Zs (Zb 1) (Zb 100)))) Zp)))
noncomputable def Zjy : List V → Hp → Option (V × Hp) := Zaa 2 Zjx
noncomputable def Zjz : PS := (ZG (Zd Z6 (Zd Zo (Za 0) (Zk 0)) (Zy ZhX (Zf (Zan (ZaG (Zf (Zy Zao (Zf (Za 1) Zn)) Zn)) (Z5 100) Zad (Zd Zat (Zd Zo (Za 0) (Zd Z6 (Za 100) (Zk 1))) (Zd Zo (Za 1) (Za 100)))) Zn))))
noncomputable def ZeD : List T → Option T := Zaf 2 Zjz
theorem ZpR : SimF false Zjy ZeD := Zai (show S [] [] [] false Zjx Zjz from (ZP (O' := []) (Z0 Zal (Zx Zw (Zc 0) (Zm _)) (Zav Zuo (Zj (Zbw (Gs.range (Zj (Zav ZaI (Zj (Zc 1) Zq)) Zq)) (PutOk.one (by decide)) (by decide) Zay (Z0 ZaS (Zx Zw (Zc 0) (Z0 Zal (Zc 100) (Zm _))) (Zx Zw (Zc 1) (Zc 100)))) Zq))) (by decide)))
noncomputable def Zkb : Sm := ZH (Zaz (ZdB (Zb 0) (Zb 1)) (Zca 100 101) Zaq (Ze Zah (Zb 100) (Zb 101)))
noncomputable def Zkc : List V → Hp → Option (V × Hp) := Zaa 2 Zkb
noncomputable def Zkd : PS := (ZG (Zan (ZdC (Za 0) (Za 1)) (Zcz 100 101) Zad (Zd Z6 (Za 100) (Za 101))))
noncomputable def ZgQ : List T → Option T := Zaf 2 Zkd
theorem Zql : SimF false Zkc ZgQ := Zai (show S [] [] [] false Zkb Zkd from (ZP (O' := []) (Zbw (Gs.zip (Zc 0) (Zc 1)) (PutOk.two (by decide) (by decide) (by decide)) (by decide) Zay (Z0 Zal (Zc 100) (Zc 101))) (by decide)))
noncomputable def Zke : Sm := ZH (ZB Zkc (Zg (Zb 0) (Zg (ZB Zjv (Zg (Zb 1) (Zg (eUn ZdA (Zl 1)) Zp))) Zp)))
noncomputable def Zkf : List V → Hp → Option (V × Hp) := Zaa 2 Zke
noncomputable def Zkg : PS := (ZG (Zy ZgQ (Zf (Za 0) (Zf (Zy ZgE (Zf (Za 1) (Zf (pUn Zdj (Zk 1)) Zn))) Zn))))
noncomputable def ZgR : List T → Option T := Zaf 2 Zkg
theorem Zqm : SimF false Zkf ZgR := Zai (show S [] [] [] false Zke Zkg from (ZP (O' := []) (ZU Zql (Zj (Zc 0) (Zj (ZU ZpQ (Zj (Zc 1) (Zj (Zee Zef (Zm _)) Zq))) Zq))) (by decide)))
noncomputable def ZiX : Sm := ZH (Zaz (Zbj (Zb 2)) (Zam 100) Zaq (ZB Zj9 (Zg (Zb 0) (Zg (ZB Zkf (Zg (Zb 1) (Zg (Zb 100) Zp))) Zp))))
noncomputable def ZiY : List V → Hp → Option (V × Hp) := Zaa 3 ZiX
noncomputable def ZiZ : PS := (ZG (Zan (ZaE (Za 2)) (Z5 100) Zad (Zy ZgP (Zf (Za 0) (Zf (Zy ZgR (Zf (Za 1) (Zf (Za 100) Zn))) Zn)))))
noncomputable def Zgu : List T → Option T := Zaf 3 ZiZ
theorem Zps : SimF false ZiY Zgu := Zai (show S [] [] [] false ZiX ZiZ from (ZP (O' := []) (Zbw (Gs.seq (Zc 2)) (PutOk.one (by decide)) (by decide) Zay (ZU Zqk (Zj (Zc 0) (Zj (ZU Zqm (Zj (Zc 1) (Zj (Zc 100) Zq))) Zq)))) (by decide)))
noncomputable def ZkE : Sm := ZH (Zaz (ZaR (Zg (Ze Zah (Zb 1) (Zl 1)) Zp)) (Zam 100) Zaq (eIf (ZaB (ZJ (Ze oGt (Zb 0) (Zl 0))) (ZaB (ZJ (Ze oEq (Zb 100) (Zb 0))) Zaq)) (Zl 1) (Zl 0)))
noncomputable def Zg2 : List V → Hp → Option (V × Hp) := Zaa 2 ZkE
noncomputable def ZkF : PS := (ZG (Zan (ZaG (Zf (Zd Z6 (Za 1) (Zk 1)) Zn)) (Z5 100) Zad (pIf (Zaw (ZF (Zd qGt (Za 0) (Zk 0))) (Zaw (ZF (Zd qEq (Za 100) (Za 0))) Zad)) (Zk 1) (Zk 0))))
noncomputable def Zft : List T → Option T := Zaf 2 ZkF
theorem ZmM : SimF false Zg2 Zft := Zai (show S [] [] [] false ZkE ZkF from (ZP (O' := []) (Zbw (Gs.range (Zj (Z0 Zal (Zc 1) (Zm _)) Zq)) (PutOk.one (by decide)) (by decide) Zay (ZfY (ZaN (ZL (ZC Zer (Zc 0) (Zm _))) (ZaN (ZL (ZC ZaZ (Zc 100) (Zc 0))) Zay)) (E.sh (Zm _)) (E.sh (Zm _)))) (by decide)))
noncomputable def ZkZ : Sm := Zu (ZV (ZJ (Ze oIs (Zb 0) (ZX))) (ZH (ZX)) Z2) (Zu (ZK 2 (Ze Zah (Zbe (Zg (ZB Zg2 (Zg (Zl 0) (Zg (ZB Zax (Zg (Ze Zs (Zb 0) (Zl 1)) Zp)) Zp))) Zp)) (Zb 1))) (Zu (ZK 3 (Zaz (Zbj (Zb 2)) (Zam 100) Zaq (ZB ZiY (Zg (Zb 0) (Zg (Zb 100) (Zg (Zb 2) Zp)))))) (Zu (ZK 4 (Zaz (Zbj (Zb 1)) (Zam 102) Zaq (ZB Zj1 (Zg (Zb 102) (Zg (Ze Zs (Zb 0) (Zl 1)) Zp))))) (ZH (ZB Zhp (Zg (ZaX (Zg (Zb 3) (Zg (Zb 4) Zp))) Zp))))))
noncomputable def Zk0 : List V → Hp → Option (V × Hp) := Zaa 2 ZkZ
noncomputable def Zk1 : PS := (Zt (ZW (ZF (Zd qIs (Za 0) (ZY))) (ZG (ZY)) Z1) (Zt (ZI 2 (Zd Z6 (Za2 (Zf (Zy Zft (Zf (Zk 0) (Zf (Zy Zao (Zf (Zd Zo (Za 0) (Zk 1)) Zn)) Zn))) Zn)) (Za 1))) (Zt (ZI 3 (Zan (ZaE (Za 2)) (Z5 100) Zad (Zy Zgu (Zf (Za 0) (Zf (Za 100) (Zf (Za 2) Zn)))))) (Zt (ZI 4 (Zan (ZaE (Za 1)) (Z5 102) Zad (Zy ZgN (Zf (Za 102) (Zf (Zd Zo (Za 0) (Zk 1)) Zn))))) (ZG (Zy ZcW (Zf (Za3 (Zf (Za 3) (Zf (Za 4) Zn))) Zn)))))))
noncomputable def ZeM : List T → Option T := Zaf 2 Zk1
theorem Zr8 : SimF true Zk0 ZeM := Zai (show S [] [] [] true ZkZ Zk1 from (ZA (Z9 (ZL (ZC ZbA (Zc 0) (Zae))) (ZcY (O' := []) (Zae) (by decide) (by decide)) Zac) (ZA (ZR (O' := []) (Z0 Zal (E.list (Zj (ZU ZmM (Zj (Zm _) (Zj (Zav ZaI (Zj (Zx Zw (Zc 0) (Zm _)) Zq)) Zq))) Zq) (by decide)) (Zc 1)) (by decide) (by decide) (by decide)) (ZA (ZR (O' := []) (Zbw (Gs.seq (Zc 2)) (PutOk.one (by decide)) (by decide) Zay (ZU Zps (Zj (Zc 0) (Zj (Zc 100) (Zj (Zc 2) Zq))))) (by decide) (by decide) (by decide)) (ZA (ZR (O' := []) (Zbw (Gs.seq (Zc 1)) (PutOk.one (by decide)) (by decide) Zay (ZU Zqg (Zj (Zc 102) (Zj (Zx Zw (Zc 0) (Zm _)) Zq)))) (by decide) (by decide) (by decide)) (ZcY (O' := []) (ZdR ZnI (Zj (E.tup (Zj (Zc 3) (Zj (Zc 4) Zq)) (by decide)) Zq)) (by decide) (by decide)))))))
noncomputable def Ziq : Sm := Zu (ZK 2 (Zl 0)) (Zu (ZK 3 (Ze Zs (Zb 0) (Zl 0))) (Zu (ZaY (ZaR (Zg (ZB Zax (Zg (Zb 1) Zp)) Zp)) (Zam 4) (Zu (ZK 2 (ZB ZgX (Zg (Zb 2) (Zg (Ze ZaJ (Ze Zs (Zb 0) (Ze Zah (Zb 4) (Zl 1))) (Ze Zs (Ze Zs (Zb 1) (Zb 4)) (Zl 0))) Zp)))) (ZK 3 (Ze Zah (Zb 3) (Ze ZaJ (Ze Zs (Zb 0) (Ze Zah (Zb 4) (Zl 1))) (Ze Zs (Ze Zs (Zb 1) (Zb 4)) (Zl 1))))))) (ZH (ZB ZdD (Zg (Zb 2) (Zg (Zb 3) Zp))))))
noncomputable def Zir : List V → Hp → Option (V × Hp) := Zaa 2 Ziq
noncomputable def Zis : PS := (Zt (ZI 2 (Zk 0)) (Zt (ZI 3 (Zd Zo (Za 0) (Zk 0))) (Zt (ZaO (ZaG (Zf (Zy Zao (Zf (Za 1) Zn)) Zn)) (Z5 4) (Zt (ZI 2 (Zy Zfq (Zf (Za 2) (Zf (Zd Zat (Zd Zo (Za 0) (Zd Z6 (Za 4) (Zk 1))) (Zd Zo (Zd Zo (Za 1) (Za 4)) (Zk 0))) Zn)))) (ZI 3 (Zd Z6 (Za 3) (Zd Zat (Zd Zo (Za 0) (Zd Z6 (Za 4) (Zk 1))) (Zd Zo (Zd Zo (Za 1) (Za 4)) (Zk 1))))))) (ZG (Zy Zdm (Zf (Za 2) (Zf (Za 3) Zn)))))))
noncomputable def Zgl : List T → Option T := Zaf 2 Zis
theorem ZoV : SimF false Zir Zgl := Zai (show S [] [] [] false Ziq Zis from (ZA (ZR (O' := []) (Zm _) (by decide) (by decide) (by decide)) (ZA (ZR (O' := []) (Zx Zw (Zc 0) (Zm _)) (by decide) (by decide) (by decide)) (ZA (Zbh (Gs.range (Zj (Zav ZaI (Zj (Zc 1) Zq)) Zq)) (PutOk.one (by decide)) (by decide) (by decide) (ZA (ZR (O' := []) (ZU ZmJ (Zj (Zc 2) (Zj (Z0 ZaS (Zx Zw (Zc 0) (Z0 Zal (Zc 4) (Zm _))) (Zx Zw (Zx Zw (Zc 1) (Zc 4)) (Zm _))) Zq))) (by decide) (by decide) (by decide)) (ZR (O' := []) (Z0 Zal (Zc 3) (Z0 ZaS (Zx Zw (Zc 0) (Z0 Zal (Zc 4) (Zm _))) (Zx Zw (Zx Zw (Zc 1) (Zc 4)) (Zm _)))) (by decide) (by decide) (by decide)))) (ZP (O' := []) (ZU Zew (Zj (Zc 2) (Zj (Zc 3) Zq))) (by decide))))))
noncomputable def Zkh : Sm := ZH (Zaz (ZaR (Zg (ZB Zax (Zg (Zb 0) Zp)) Zp)) (Zam 100) Zaq (Ze Za9 (Ze Zs (Zb 0) (Zb 100)) (Ze Zs (Zb 1) (Zb 100))))
noncomputable def Zki : List V → Hp → Option (V × Hp) := Zaa 2 Zkh
noncomputable def Zkj : PS := (ZG (Zan (ZaG (Zf (Zy Zao (Zf (Za 0) Zn)) Zn)) (Z5 100) Zad (Zd ZaU (Zd Zo (Za 0) (Za 100)) (Zd Zo (Za 1) (Za 100)))))
noncomputable def ZgS : List T → Option T := Zaf 2 Zkj
theorem Zqn : SimF false Zki ZgS := Zai (show S [] [] [] false Zkh Zkj from (ZP (O' := []) (Zbw (Gs.range (Zj (Zav ZaI (Zj (Zc 0) Zq)) Zq)) (PutOk.one (by decide)) (by decide) Zay (ZC Zbf (Zx Zw (Zc 0) (Zc 100)) (Zx Zw (Zc 1) (Zc 100)))) (by decide)))
noncomputable def Zi0 : Sm := Zu (ZV (ZJ (Ze oIs (Zb 0) (ZX))) (ZH (ZX)) Z2) (Zu (ZK 2 (Ze Zah (Zbe (Zg (Ze ZaJ (Zbe (Zg (Zl 0) Zp)) (Ze Zah (ZB Zax (Zg (Ze Zs (Zb 0) (Zl 1)) Zp)) (Zl 1))) Zp)) (Zb 1))) (Zu (ZK 3 (Zbe Zp)) (Zu (ZaY (Zbj (Zb 2)) (Zam 4) (Zcs (Zdq (Zb 3) (Zaz (Zbj (Zb 2)) (Zam 100) Zaq (ZB Zil (Zg (Zb 0) (Zg (ZB Zki (Zg (Zb 4) (Zg (Zb 100) Zp))) Zp))))))) (ZH (ZB ZgB (Zg (ZaX (Zg (Zb 3) (Zg (Zaz (Zbj (Zb 1)) (Zam 102) Zaq (ZB Zir (Zg (Zb 102) (Zg (Ze Zs (Zb 0) (Zl 1)) Zp)))) Zp))) Zp))))))
noncomputable def Zi1 : List V → Hp → Option (V × Hp) := Zaa 2 Zi0
noncomputable def Zgv : PS := (Zt (ZW (ZF (Zd qIs (Za 0) (ZY))) (ZG (ZY)) Z1) (Zt (ZI 2 (Zd Z6 (Za2 (Zf (Zd Zat (Za2 (Zf (Zk 0) Zn)) (Zd Z6 (Zy Zao (Zf (Zd Zo (Za 0) (Zk 1)) Zn)) (Zk 1))) Zn)) (Za 1))) (Zt (ZI 3 (Za2 Zn)) (Zt (ZaO (ZaE (Za 2)) (Z5 4) (ZcQ 3 [] Za0 (Zan (ZaE (Za 2)) (Z5 100) Zad (ZbV (Zy Zgj (Zf (Za 0) (Zf (Zy ZgS (Zf (Za 4) (Zf (Za 100) Zn))) Zn))))))) (ZG (Zy ZcU (Zf (Za3 (Zf (Za 3) (Zf (Zan (ZaE (Za 1)) (Z5 102) Zad (Zy Zgl (Zf (Za 102) (Zf (Zd Zo (Za 0) (Zk 1)) Zn)))) Zn))) Zn)))))))
noncomputable def Zdo : List T → Option T := Zaf 2 Zgv
theorem Zpt : SimF false Zi1 Zdo := Zai (show S [] [3] [] false Zi0 Zgv from (ZA (Z9 (ZL (ZC ZbA (Zc 0) (Zae))) (ZP (O' := []) (Zae) (by decide)) Zac) (ZA (ZR (O' := []) (Z0 Zal (E.list (Zj (Z0 ZaS (E.list (Zj (Zm _) Zq) (by decide)) (Z0 Zal (Zav ZaI (Zj (Zx Zw (Zc 0) (Zm _)) Zq)) (Zm _))) Zq) (by decide)) (Zc 1)) (by decide) (by decide) (by decide)) (ZA (Zcw (O' := [3]) (E.list Zq (by decide)) (by decide)) (ZA (Zbh (Gs.seq (Zc 2)) (PutOk.one (by decide)) (by decide) (by decide) (Ze0 (O' := [3]) (by decide) ZbK (Zbg (O' := []) (Zdr (Gs.seq (Zc 2)) (PutOk.one (by decide)) (by decide) Zay (E.flat (ZU ZoT (Zj (Zc 0) (Zj (ZU Zqn (Zj (Zc 4) (Zj (Zc 100) Zq))) Zq))))) (by decide)) (by decide) (by decide))) (ZP (O' := [3]) (ZU Zmj (Zj (E.tup (Zj (Zc 3) (Zj (Zbw (Gs.seq (Zc 1)) (PutOk.one (by decide)) (by decide) Zay (ZU ZoV (Zj (Zc 102) (Zj (Zx Zw (Zc 0) (Zm _)) Zq)))) Zq)) (by decide)) Zq)) (by decide)))))))
noncomputable def Zk2 : Sm := Zu (ZK 3 (ZB Zhp (Zg (Zb 0) Zp))) (Zu (ZV (ZJ (Ze oIs (Zb 3) (ZX))) (ZH (ZX)) Z2) (Zu (ZK 4 (ZB Zg2 (Zg (Zl 0) (Zg (ZB Zax (Zg (Ze Zs (Zb 3) (Zl 1)) Zp)) Zp)))) (ZH (ZB Zk0 (Zg (Zb 3) (Zg (Ze Zah (Zb 1) (Ze ZaJ (Zbe (Zg (Zb 4) Zp)) (Ze Za9 (Zb 2) (ZB Zax (Zg (Zb 1) Zp))))) Zp))))))
noncomputable def Zk3 : List V → Hp → Option (V × Hp) := Zaa 3 Zk2
noncomputable def Zfz : PS := (Zt (ZI 3 (Zy ZcW (Zf (Za 0) Zn))) (Zt (ZW (ZF (Zd qIs (Za 3) (ZY))) (ZG (ZY)) Z1) (Zt (ZI 4 (Zy Zft (Zf (Zk 0) (Zf (Zy Zao (Zf (Zd Zo (Za 3) (Zk 1)) Zn)) Zn)))) (ZG (Zy ZeM (Zf (Za 3) (Zf (Zd Z6 (Za 1) (Zd Zat (Za2 (Zf (Za 4) Zn)) (Zd ZaU (Za 2) (Zy Zao (Zf (Za 1) Zn))))) Zn)))))))
noncomputable def Zc8 : List T → Option T := Zaf 3 Zfz
theorem Zr9 : SimF true Zk3 Zc8 := Zai (show S [] [] [] true Zk2 Zfz from (ZA (ZR (O' := []) (ZU ZnI (Zj (Zc 0) Zq)) (by decide) (by decide) (by decide)) (ZA (Z9 (ZL (ZC ZbA (Zc 3) (Zae))) (ZcY (O' := []) (Zae) (by decide) (by decide)) Zac) (ZA (ZR (O' := []) (ZU ZmM (Zj (Zm _) (Zj (Zav ZaI (Zj (Zx Zw (Zc 3) (Zm _)) Zq)) Zq))) (by decide) (by decide) (by decide)) (ZcY (O' := []) (ZdR Zr8 (Zj (Zc 3) (Zj (Z0 Zal (Zc 1) (Z0 ZaS (E.list (Zj (Zc 4) Zq) (by decide)) (ZC Zbf (Zc 2) (Zav ZaI (Zj (Zc 1) Zq))))) Zq))) (by decide) (by decide))))))
noncomputable def Zk4 : Sm := Zu (ZK 1 (Ze Zs (Zbe (Zg (Zl 0) (Zg (Zl 1) (Zg (Zl 2) (Zg (Zl 1) (Zg (Zl 2) (Zg (Zl 1) (Zg (Zl 2) (Zg (Zl 1) (Zg (Zl 3) Zp)))))))))) (ZB ZbH (Zg (Zb 0) (Zg (Zl 0) (Zg (Zl 9) Zp)))))) (Zu (ZK 2 (Zaz (ZaR (Zg (Zb 1) Zp)) (Zam 100) Zaq (ZB Zd0 (Zg (Zb 0) (Zg (Ze Zah (Zl 2) (Zb 100)) Zp))))) (Zu (ZK 3 (ZB ZjM (Zg (Zb 0) (Zg (Zl 30) (Zg (Zb 2) Zp))))) (Zu (ZK 4 (ZB ZbH (Zg (Zb 0) (Zg (Zl 1) (Zg (Zl 55) Zp))))) (Zu (ZV (ZJ (Ze oEq (Ze oMod (Zb 4) (Zl 5)) (Zl 1))) (ZK 3 (ZB ZiL (Zg (Zb 0) (Zg (Zl 52) (Zg (Zb 3) Zp))))) Z2) (Zu (ZV (ZJ (Ze oEq (Ze oMod (Zb 4) (Zl 11)) (Zl 4))) (ZK 3 (ZX)) Z2) (Zu (ZK 5 (Zaz (ZaR (Zg (Ze Zs (Zbe (Zg (Zl 0) (Zg (Zl 1) (Zg (Zl 2) (Zg (Zl 1) (Zg (Zl 2) (Zg (Zl 1) (Zg (Zl 3) (Zg (Zl 4) Zp))))))))) (ZB ZbH (Zg (Zb 0) (Zg (Zl 5) (Zg (Zl 8) Zp))))) Zp)) (Zam 102) Zaq (ZB ZkC (Zg (Zb 0) (Zg (Ze Zah (Zl 8) (Ze ZaJ (Zl 5) (Zb 102))) (Zg (Zb 1) Zp)))))) (Zu (ZK 6 (ZB ZhK (Zg (Zl 1) (Zg (Ze Zah (ZB Zax (Zg (Zb 5) Zp)) (ZB ZbH (Zg (Zb 0) (Zg (Zl 6) (Zg (Ze Za9 (Zl 5) (ZB Zax (Zg (Zb 5) Zp))) Zp))))) Zp)))) (Zu (ZK 7 (ZB ZjP (Zg (Zb 3) Zp))) (Zu (ZK 8 (Zaz (Zbj (Zb 5)) (Zam 104) Zaq (ZB Zcv (Zg (Zb 104) Zp)))) (Zu (ZK 9 (ZB Zk3 (Zg (Zb 3) (Zg (Zb 8) (Zg (Zb 6) Zp))))) (Zu (ZV (tOr (ZJ (Ze oNe (Zb 3) (Zb 7))) (tOr (ZJ (Ze oNe (Zb 8) (Zb 5))) Zch)) (ZH (Zbz false)) Z2) (Zu (ZK 10 (Ze ZaJ (Zbe (Zg (Ze ZaJ (Zbe (Zg (Zl 0) Zp)) (Ze Zah (Zb 1) (Zl 1))) Zp)) (Ze Za9 (Zb 6) (ZB Zax (Zg (Zb 5) Zp))))) (Zu (ZV (Zcm (ZJ (ZB Zj4 (Zg (Zb 9) (Zg (ZB Zi1 (Zg (ZB ZgB (Zg (Zb 7) Zp)) (Zg (Ze Zah (Zb 5) (Zb 10)) Zp))) Zp))))) (ZH (Zbz false)) Z2) (Zu (ZK 11 (Ze Zah (Zaz (Zbj (Zb 5)) (Zam 106) Zaq (ZB Zjy (Zg (Zb 106) (Zg (Zb 2) Zp)))) (Ze ZaJ (Zbe (Zg (Zl 0) Zp)) (Ze Za9 (Zb 6) (ZB Zax (Zg (Zb 5) Zp)))))) (Zu (ZV (ZaB (ZJ (Ze Zb2 (Zb 3) (ZX))) (ZaB (ZJ (Ze oNe (Ze oMod (Zb 4) (Zl 5)) (Zl 1))) (ZaB (Zcm (ZJ (ZB Zj6 (Zg (Zb 9) (Zg (Zb 11) Zp))))) Zaq))) (ZH (Zbz false)) Z2) (Zu (Zcs (ZB ZiV (Zg (Zb 9) Zp))) (ZH (Ze oEq (Zb 3) (Zb 7)))))))))))))))))))
noncomputable def Zna : List V → Hp → Option (V × Hp) := Zaa 1 Zk4
noncomputable def Zk5 : PS := (Zt (ZI 1 (Zd Zo (Za2 (Zf (Zk 0) (Zf (Zk 1) (Zf (Zk 2) (Zf (Zk 1) (Zf (Zk 2) (Zf (Zk 1) (Zf (Zk 2) (Zf (Zk 1) (Zf (Zk 3) Zn)))))))))) (Zy Zbm (Zf (Za 0) (Zf (Zk 0) (Zf (Zk 9) Zn)))))) (Zt (ZI 2 (Zan (ZaG (Zf (Za 1) Zn)) (Z5 100) Zad (Zy ZdF (Zf (Za 0) (Zf (Zd Z6 (Zk 2) (Za 100)) Zn))))) (Zt (ZI 3 (Zy ZgI (Zf (Za 0) (Zf (Zk 30) (Zf (Za 2) Zn))))) (Zt (ZI 4 (Zy Zbm (Zf (Za 0) (Zf (Zk 1) (Zf (Zk 55) Zn))))) (Zt (ZW (ZF (Zd qEq (Zd Za1 (Za 4) (Zk 5)) (Zk 1))) (ZI 3 (Zy Zgp (Zf (Za 0) (Zf (Zk 52) (Zf (Za 3) Zn))))) Z1) (Zt (ZW (ZF (Zd qEq (Zd Za1 (Za 4) (Zk 11)) (Zk 4))) (ZI 3 (ZY)) Z1) (Zt (ZI 5 (Zan (ZaG (Zf (Zd Zo (Za2 (Zf (Zk 0) (Zf (Zk 1) (Zf (Zk 2) (Zf (Zk 1) (Zf (Zk 2) (Zf (Zk 1) (Zf (Zk 3) (Zf (Zk 4) Zn))))))))) (Zy Zbm (Zf (Za 0) (Zf (Zk 5) (Zf (Zk 8) Zn))))) Zn)) (Z5 102) Zad (Zy Zfs (Zf (Za 0) (Zf (Zd Z6 (Zk 8) (Zd Zat (Zk 5) (Za 102))) (Zf (Za 1) Zn)))))) (Zt (ZI 6 (Zy ZfZ (Zf (Zk 1) (Zf (Zd Z6 (Zy Zao (Zf (Za 5) Zn)) (Zy Zbm (Zf (Za 0) (Zf (Zk 6) (Zf (Zd ZaU (Zk 5) (Zy Zao (Zf (Za 5) Zn))) Zn))))) Zn)))) (Zt (ZI 7 (Zy ZdG (Zf (Za 3) Zn))) (Zt (ZI 8 (Zan (ZaE (Za 5)) (Z5 104) Zad (Zy Zcj (Zf (Za 104) Zn)))) (Zt (ZI 9 (Zy Zc8 (Zf (Za 3) (Zf (Za 8) (Zf (Za 6) Zn))))) (Zt (ZW (bOr (ZF (Zd qNe (Za 3) (Za 7))) (bOr (ZF (Zd qNe (Za 8) (Za 5))) Zci)) (ZG (Zbs false)) Z1) (Zt (ZI 10 (Zd Zat (Za2 (Zf (Zd Zat (Za2 (Zf (Zk 0) Zn)) (Zd Z6 (Za 1) (Zk 1))) Zn)) (Zd ZaU (Za 6) (Zy Zao (Zf (Za 5) Zn))))) (Zt (ZW (Zb3 (ZF (Zy ZdI (Zf (Za 9) (Zf (Zy Zdo (Zf (Zy ZcU (Zf (Za 7) Zn)) (Zf (Zd Z6 (Za 5) (Za 10)) Zn))) Zn))))) (ZG (Zbs false)) Z1) (Zt (ZI 11 (Zd Z6 (Zan (ZaE (Za 5)) (Z5 106) Zad (Zy ZeD (Zf (Za 106) (Zf (Za 2) Zn)))) (Zd Zat (Za2 (Zf (Zk 0) Zn)) (Zd ZaU (Za 6) (Zy Zao (Zf (Za 5) Zn)))))) (Zt (ZW (Zaw (ZF (Zd ZbC (Za 3) (ZY))) (Zaw (ZF (Zd qNe (Zd Za1 (Za 4) (Zk 5)) (Zk 1))) (Zaw (Zb3 (ZF (Zy Zd3 (Zf (Za 9) (Zf (Za 11) Zn))))) Zad))) (ZG (Zbs false)) Z1) (Zt (Ze4 9 Zd1 Zn) (ZG (Zd qEq (Za 3) (Za 7))))))))))))))))))))
noncomputable def Zk6 : List T → Option T := Zaf 1 Zk5
theorem Zsa : SimF false Zna Zk6 := Zai (show S [] [9] [] false Zk4 Zk5 from (ZA (ZR (O' := []) (Zx Zw (E.list (Zj (Zm _) (Zj (Zm _) (Zj (Zm _) (Zj (Zm _) (Zj (Zm _) (Zj (Zm _) (Zj (Zm _) (Zj (Zm _) (Zj (Zm _) Zq))))))))) (by decide)) (ZU ZbT (Zj (Zc 0) (Zj (Zm _) (Zj (Zm _) Zq))))) (by decide) (by decide) (by decide)) (ZA (ZR (O' := []) (Zbw (Gs.range (Zj (Zc 1) Zq)) (PutOk.one (by decide)) (by decide) Zay (ZU Ze9 (Zj (Zc 0) (Zj (Z0 Zal (Zm _) (Zc 100)) Zq)))) (by decide) (by decide) (by decide)) (ZA (ZR (O' := []) (ZU Zqc (Zj (Zc 0) (Zj (Zm _) (Zj (Zc 2) Zq)))) (by decide) (by decide) (by decide)) (ZA (ZR (O' := []) (ZU ZbT (Zj (Zc 0) (Zj (Zm _) (Zj (Zm _) Zq)))) (by decide) (by decide) (by decide)) (ZA (Z9 (ZL (ZC ZaZ (ZC Zbb (Zc 4) (Zm _)) (Zm _))) (ZR (O' := []) (ZU Zpp (Zj (Zc 0) (Zj (Zm _) (Zj (Zc 3) Zq)))) (by decide) (by decide) (by decide)) Zac) (ZA (Z9 (ZL (ZC ZaZ (ZC Zbb (Zc 4) (Zm _)) (Zm _))) (ZR (O' := []) (Zae) (by decide) (by decide) (by decide)) Zac) (ZA (ZR (O' := []) (Zbw (Gs.range (Zj (Zx Zw (E.list (Zj (Zm _) (Zj (Zm _) (Zj (Zm _) (Zj (Zm _) (Zj (Zm _) (Zj (Zm _) (Zj (Zm _) (Zj (Zm _) Zq)))))))) (by decide)) (ZU ZbT (Zj (Zc 0) (Zj (Zm _) (Zj (Zm _) Zq))))) Zq)) (PutOk.one (by decide)) (by decide) Zay (ZU Zrd (Zj (Zc 0) (Zj (Z0 Zal (Zm _) (Z0 ZaS (Zm _) (Zc 102))) (Zj (Zc 1) Zq))))) (by decide) (by decide) (by decide)) (ZA (ZR (O' := []) (Zav ZtH (Zj (Zm _) (Zj (Z0 Zal (Zav ZaI (Zj (Zc 5) Zq)) (ZU ZbT (Zj (Zc 0) (Zj (Zm _) (Zj (ZC Zbf (Zm _) (Zav ZaI (Zj (Zc 5) Zq))) Zq))))) Zq))) (by decide) (by decide) (by decide)) (ZA (ZR (O' := []) (ZU Zqd (Zj (Zc 3) Zq)) (by decide) (by decide) (by decide)) (ZA (ZR (O' := []) (Zbw (Gs.seq (Zc 5)) (PutOk.one (by decide)) (by decide) Zay (Zhf ZdM (Zj (Zc 104) Zq))) (by decide) (by decide) (by decide)) (ZA (Zcw (O' := [9]) (ZdR Zr9 (Zj (Zc 3) (Zj (Zc 8) (Zj (Zc 6) Zq)))) (by decide)) (ZA (Z9 (Zbp (ZL (ZC Zbt (Zc 3) (Zc 7))) (Zbp (ZL (ZC Zbt (Zc 8) (Zc 5))) ZcG)) (ZP (O' := [9]) (E.bool _) (by decide)) Zac) (ZA (ZR (O' := [9]) (Z0 ZaS (E.list (Zj (Z0 ZaS (E.list (Zj (Zm _) Zq) (by decide)) (Z0 Zal (Zc 1) (Zm _))) Zq) (by decide)) (ZC Zbf (Zc 6) (Zav ZaI (Zj (Zc 5) Zq)))) (by decide) (by decide) (by decide)) (ZA (Z9 (ZcL (ZL (ZU Zqi (Zj (Zc 9) (Zj (ZU Zpt (Zj (ZU Zmj (Zj (Zc 7) Zq)) (Zj (Z0 Zal (Zc 5) (Zc 10)) Zq))) Zq))))) (ZP (O' := [9]) (E.bool _) (by decide)) Zac) (ZA (ZR (O' := [9]) (Z0 Zal (Zbw (Gs.seq (Zc 5)) (PutOk.one (by decide)) (by decide) Zay (ZU ZpR (Zj (Zc 106) (Zj (Zc 2) Zq)))) (Z0 ZaS (E.list (Zj (Zm _) Zq) (by decide)) (ZC Zbf (Zc 6) (Zav ZaI (Zj (Zc 5) Zq))))) (by decide) (by decide) (by decide)) (ZA (Z9 (ZaN (ZL (ZC Zcg (Zc 3) (Zae))) (ZaN (ZL (ZC Zbt (ZC Zbb (Zc 4) (Zm _)) (Zm _))) (ZaN (ZcL (ZL (ZU Zqj (Zj (Zc 9) (Zj (Zc 11) Zq))))) Zay))) (ZP (O' := [9]) (E.bool _) (by decide)) Zac) (ZA (Zuc (O' := [9]) (by decide) Zpr Zq (by decide) (by decide)) (ZP (O' := [9]) (ZC ZaZ (Zc 3) (Zc 7)) (by decide))))))))))))))))))))
end L
end
section
set_option maxRecDepth 100000
set_option maxHeartbeats 4000000
set_option linter.all false
set_option autoImplicit false
open PySem PySem.W PyProof.Rows PM TM My
local macro_rules | `(tactic| walk_at "tkrd") => `(tactic| first | with_reducible assumption | with_reducible exact Zb0 | ((with_reducible apply Zs2); decide; walk_at "tkrd") | ((with_reducible apply ZrW); decide; walk_at "tkrd") | exact rfl | assumption)
local macro_rules | `(tactic| walk_at "tkyes") => `(tactic| first | rfl | (with_reducible assumption) | (simp only [Bool.not_eq_true', Bool.not_eq_false', decide_eq_true_eq, decide_eq_false_iff_not, beq_iff_eq, beq_eq_false_iff_ne, ne_eq, Bool.not_true, Bool.not_false, not_false_eq_true, not_true_eq_false, bne_iff_ne, Decidable.not_not, List.length_map] <;> first | done | omega | assumption))
local macro_rules | `(tactic| walk_at "tkflat") => `(tactic| first | rfl | exact Zhn | exact Zg7 | exact Zmu fun i hi => by first | rfl | exact Zhn | exact Zg7)
local macro_rules | `(tactic| walk_at "tkop") => `(tactic| first | with_reducible refine Zob ?_ | with_reducible refine ZtW ?_ | with_reducible refine ZtX ?_ | with_reducible refine Zuv ?_ | with_reducible refine Zuw ?_ | with_reducible refine Zux ?_ | with_reducible refine tk_ge ?_ | with_reducible refine ZtZ ?_ | with_reducible refine Zt0 ?_ | with_reducible refine tk_min ?_ | with_reducible refine Zuy ?_ | with_reducible refine Zuz ?_ | with_reducible refine tk_eqb ?_ | with_reducible refine tk_neb ?_ | with_reducible refine Zt1 ?_ | with_reducible refine Zt2 ?_ | with_reducible refine Zt3 ?_ | with_reducible refine Zt4 ?_ | with_reducible refine ZsO ?_ | with_reducible refine ZsP ?_ | with_reducible refine tk_notl ?_ | with_reducible refine ZsQ ?_ | with_reducible refine ZsR ?_ | with_reducible refine Zt5 ?_ | with_reducible refine ZsS ?_ | ((with_reducible apply ZsT); (first | assumption | omega)) | ((with_reducible apply ZsU); (first | decide | omega); (first | decide | omega)) | ((with_reducible apply ZsV); (first | decide | omega); rfl) | ((with_reducible apply ZfF); (first | decide | omega); rfl) | ((with_reducible apply Znz); omega) | with_reducible refine ZrQ ?_ | with_reducible refine tk_list1t ?_ | with_reducible refine tk_tup1 ?_ | with_reducible refine tk_all ?_ | with_reducible refine Zt6 ?_ | ((with_reducible apply ZtY); (first | decide | omega)))
local macro_rules | `(tactic| walk_at "tk1") => `(tactic| first | with_reducible refine ZtN ?_ | with_reducible refine Zuq ?_ | with_reducible refine ZsH ?_ | with_reducible refine ZtO ?_ | with_reducible refine ZtP ?_ | with_reducible refine ZsI ?_ | with_reducible refine ZsG ?_ | with_reducible refine ZsJ ?_ | with_reducible refine Zur ?_ | with_reducible refine Zus ?_ | with_reducible refine ZtQ ?_ | with_reducible refine ZtR ?_ | with_reducible refine Zut ?_ | with_reducible refine Zuu ?_ | with_reducible refine ZtS ?_ | with_reducible refine ZsK ?_ | with_reducible refine ZsL ?_ | with_reducible refine ZrP ?_ | with_reducible refine ZsM ?_ | with_reducible refine ZtT ?_ | with_reducible refine Zmt ?_ | with_reducible refine tk_truth_n ?_ | with_reducible refine ZsN ?_ | with_reducible refine ZtU ?_ | with_reducible refine Zlx ?_ | with_reducible refine tk_exp ?_ | with_reducible refine ZhD ?_ | with_reducible refine Zly ?_ | with_reducible refine ZtK ?_ | with_reducible refine ZtL ?_ | with_reducible refine ZsF ?_ | with_reducible refine tk_str ?_ | ((with_reducible apply ZtM); walk_at "tkrd") | ((with_reducible apply Zoa); walk_at "tkyes") | ((with_reducible apply ZtV); walk_at "tkyes") | ((with_reducible apply Zlz); rfl) | (refine And.intro (show T.flat _ = true by walk_at "tkflat") ?_) | (refine And.intro (show T.flatIn _ = true by walk_at "tkflat") ?_) | with_reducible refine Zhl ?_ | with_reducible refine Sq.lst ?_ | with_reducible refine Sq.tup ?_ | with_reducible refine ZrT ?_ | ((with_reducible apply Rn.one); omega) | with_reducible refine ZlA ?_ | with_reducible refine Zs5 ?_ | with_reducible refine Zs6 ?_ | with_reducible refine Zr4 ?_ | with_reducible refine Zi.eq ?_ | with_reducible refine Zi.mn ?_ | with_reducible refine Zt7 ?_ | with_reducible refine Zs0 ?_ | with_reducible refine Zt8 ?_ | with_reducible refine Zs1 ?_ | ((with_reducible apply ZsY); walk_at "tkrd"; (first | (rw [ZaC]; omega) | (simp; done))) | ((with_reducible apply ZsZ); walk_at "tkrd"; (first | (rw [ZaC]; omega) | (simp; done))) | ((with_reducible apply ZrU); walk_at "tkrd"; (first | assumption | omega)) | ((with_reducible apply ZrV); walk_at "tkrd"; (first | assumption | omega); (first | assumption | omega)) | walk_at "tkop")
local macro_rules | `(tactic| walk_at "zz") => `(tactic| repeat' walk_at "tk1")
local macro_rules | `(tactic| walk_at "zr") => `(tactic| walk_at "tkrd")
namespace L
open PySem PySem.W PyProof.Rows PM TM My
section
variable {Q : T → Prop}
theorem ZuP (h : Q (.int T9)) : Pk (Zc3 (.int 10) (.int 9)) Q := by
 have := Zum []
 simp only [oPow] at this
 split at this
 ·rename_i hc
  refine ⟨_, by simp only [Zc3]; rw [if_pos hc], ?_⟩
  simp only [Option.some.injEq, Prod.mk.injEq, V.int.injEq, and_true] at this
  rw [this]; exact h
 ·cases this
theorem ZuC (h : Q (.int T40)) : Pk (Zc3 (.int 10) (.int 40)) Q := by
 have := ZtG []
 simp only [oPow] at this
 split at this
 ·rename_i hc
  refine ⟨_, by simp only [Zc3]; rw [if_pos hc], ?_⟩
  simp only [Option.some.injEq, Prod.mk.injEq, V.int.injEq, and_true] at this
  rw [this]; exact h
 ·cases this
theorem ZuD (h : Q (.int M9)) : Pk (Zc3 (.int 48271) (.int 9)) Q := by
 have := ZtF []
 simp only [oPow] at this
 split at this
 ·rename_i hc
  refine ⟨_, by simp only [Zc3]; rw [if_pos hc], ?_⟩
  simp only [Option.some.injEq, Prod.mk.injEq, V.int.injEq, and_true] at this
  rw [this]; exact h
 ·cases this
theorem Zda {a b : Int} (h1 : -(2 ^ 64) < b) (h2 : b < 2 ^ 64) (h : Q (.int (a * b))) : Pk (Zat (.int a) (.int b)) Q := ZbE (Zq1 h1 h2) h
theorem ZnJ {a b : Int} (h1 : -(2 ^ 64) < a) (h2 : a < 2 ^ 64) (h : Q (.int (a * b))) : Pk (Zat (.int a) (.int b)) Q := ZbE (Zp9 h1 h2) h
end
noncomputable def scr (ns : List Int) : T := .lst (ns.map T.int)
noncomputable def Lay (ns : List Int) : Prop := PyData.layable0 (.list (ns.map .int)) = true
noncomputable def Zb8 (ns : List Int) (k : Int) : Int := k * k * 7919 + 11 + (if 0 < ns.length then cellAt ns (k.fmod ns.length) 0 else 0)
theorem Znb {ns : List Int} {k : Int} (h0 : 0 ≤ k) (h9 : k ≤ 10000) : Zfd [scr ns, .int k] = some (.int (Zb8 ns k)) := by
 apply Pk.eq
 unfold Zfd Zi7 Zb8 scr
 by_cases hl : 0 < ns.length
 ·have a := Int.fmod_nonneg_of_pos k (show (0 : Int) < ns.length by omega)
  have b := Int.fmod_lt_of_pos k (show (0 : Int) < ns.length by omega)
  have e : (ns.map T.int).length = ns.length := by simp
  walk_at "zz"
  refine Zda (by omega) (by omega) ?_
  walk_at "zz"
  refine Zda (by omega) (by omega) ?_
  walk_at "zz"
  refine ZfF (t := .int (cellAt ns (k.fmod ns.length) 0)) (by rw [e]; omega) ?_ ?_
  ·rw [e, List.getElem?_map, List.getElem?_eq_getElem (by omega), cellAt_def]
   simp only [Option.map_some, T.int.injEq, Option.some.injEq]
   rw [List.getD_eq_getElem?_getD, List.getElem?_eq_getElem (by omega)]
   rfl
  walk_at "zz"
  rw [if_pos hl]
 ·walk_at "zz"
  refine Zda (by omega) (by omega) ?_
  walk_at "zz"
  refine Zda (by omega) (by omega) ?_
  walk_at "zz"
  rw [if_neg hl]
  simp
theorem Zqo {ns : List Int} {k : Int} (hL : Lay ns) (h0 : 0 ≤ k) (h9 : k ≤ 10000) : Builtin.Int.intBits (Zb8 ns k) ≤ 2 ^ 21 := by
 unfold Zb8
 have h1 : 0 ≤ k * k := Int.mul_nonneg h0 h0
 have h2 : k * k ≤ 10000 * 10000 := Int.mul_le_mul h9 h9 h0 (by decide)
 have hb : Builtin.Int.intBits (k * k * 7919 + 11) ≤ 2 ^ 20 := Nat.le_trans (intBits_le_64 (by omega) (by omega)) (by decide)
 have hc : Builtin.Int.intBits (if 0 < ns.length then cellAt ns (k.fmod ns.length) 0 else 0) ≤ 2 ^ 20 := by
  split
  ·exact (cell_at hL _).bits
  ·exact bits_zero
 exact Nat.le_trans (PM.ZrM hb hc) (by decide)
noncomputable def Za8 (ns : List Int) (k many : Int) : Int := ((Zb8 ns k * 48271).fmod 2147483647).fmod many
theorem ZbU (ns : List Int) (k : Int) {many : Int} (h : 0 < many) : 0 ≤ Za8 ns k many ∧ Za8 ns k many < many := ⟨Int.fmod_nonneg_of_pos _ h, Int.fmod_lt_of_pos _ h⟩
theorem Zb1 {ns : List Int} {k many : Int} (h0 : 0 ≤ k) (h9 : k ≤ 10000) (hm : 0 < many) : Zbm [scr ns, .int k, .int many] = some (.int (Za8 ns k many)) := by
 apply Pk.eq
 unfold Zbm ZjH
 walk_at "zz"
 refine ZT (Znb h0 h9) ?_
 walk_at "zz"
 refine Zda (by decide) (by decide) ?_
 walk_at "zz"
 rfl
noncomputable def Zdv (ns : List Int) (k : Int) : Int := [3, 9, T9, T40].getD (((Zb8 ns k * 69621).fmod 2147483629).fmod 4).toNat 0
theorem Znc (ns : List Int) (k : Int) : 0 < Zdv ns k ∧ Zdv ns k ≤ T40 := by
 unfold Zdv
 have a := Int.fmod_nonneg_of_pos ((Zb8 ns k * 69621).fmod 2147483629) (show (0 : Int) < 4 by decide)
 have b := Int.fmod_lt_of_pos ((Zb8 ns k * 69621).fmod 2147483629) (show (0 : Int) < 4 by decide)
 generalize ((Zb8 ns k * 69621).fmod 2147483629).fmod 4 = i at a b
 have h9 := T9_eq
 have h40 := ZhA
 have : i = 0 ∨ i = 1 ∨ i = 2 ∨ i = 3 := by omega
 obtain rfl | rfl | rfl | rfl := this
 ·show 0 < 3 ∧ 3 ≤ T40; omega
 ·show 0 < 9 ∧ 9 ≤ T40; omega
 ·show 0 < T9 ∧ T9 ≤ T40; omega
 ·show 0 < T40 ∧ T40 ≤ T40; omega
noncomputable def Zb4 (ns : List Int) (k : Int) : Int := (Zb8 ns k * M9).fmod (2 * Zdv ns k + 1) - Zdv ns k
theorem Zoi (ns : List Int) (k : Int) : -T40 ≤ Zb4 ns k ∧ Zb4 ns k ≤ T40 := by
 obtain ⟨a, b⟩ := Znc ns k
 have h1 := Int.fmod_nonneg_of_pos (Zb8 ns k * M9) (show 0 < 2 * Zdv ns k + 1 by omega)
 have h2 := Int.fmod_lt_of_pos (Zb8 ns k * M9) (show 0 < 2 * Zdv ns k + 1 by omega)
 unfold Zb4
 omega
theorem Zfu {ns : List Int} {k : Int} (hL : Lay ns) (h0 : 0 ≤ k) (h9 : k ≤ 10000) : ZdF [scr ns, .int k] = some (.int (Zb4 ns k)) := by
 apply Pk.eq
 unfold ZdF ZiJ
 have hb := Zm3 (Zqo hL h0 h9) ZsD
 obtain ⟨r0, r1⟩ := Znc ns k
 have a := Int.fmod_nonneg_of_pos ((Zb8 ns k * 69621).fmod 2147483629) (show (0 : Int) < 4 by decide)
 have b := Int.fmod_lt_of_pos ((Zb8 ns k * 69621).fmod 2147483629) (show (0 : Int) < 4 by decide)
 walk_at "zz"
 refine ZT (Znb h0 h9) ?_
 walk_at "zz"
 refine ZuP ?_
 walk_at "zz"
 refine ZuC ?_
 walk_at "zz"
 refine Zda (by decide) (by decide) ?_
 walk_at "zz"
 refine ZfF (t := .int (Zdv ns k)) (by omega) ?_ ?_
 ·unfold Zdv
  have : (((Zb8 ns k * 69621).fmod 2147483629).fmod 4).toNat < 4 := by omega
  generalize (((Zb8 ns k * 69621).fmod 2147483629).fmod 4).toNat = i at this
  match i, this with
  | 0, _ => rfl
  | 1, _ => rfl
  | 2, _ => rfl
  | 3, _ => rfl
 walk_at "zz"
 refine ZuD ?_
 walk_at "zz"
 refine ZbE hb ?_
 walk_at "zz"
 refine ZnJ (by decide) (by decide) ?_
 walk_at "zz"
 rfl
noncomputable def Zbl (a : Int) : Int := if a < 0 then -a else a
theorem ZcX (a : Int) : 0 ≤ Zbl a := by unfold Zbl; split <;> omega
noncomputable def Zc0 (ns : List Int) (k : Int) : Option Int :=
 if (Za8 ns k 42).fmod 6 < 2 then none else if (Za8 ns k 42).fmod 6 < 4 then some 0 else if (Za8 ns k 42).fmod 6 = 4 then some ((Za8 ns k 42).fdiv 6) else some (Zbl (Zb4 ns k))
theorem Znd (ns : List Int) (k : Int) {c : Int} (h : Zc0 ns k = some c) : 0 ≤ c ∧ c ≤ T40 := by
 have h40 := ZhA
 unfold Zc0 at h
 split at h
 ·cases h
 ·split at h
  ·cases h; omega
  ·split at h
   ·cases h
    obtain ⟨p0, p1⟩ := ZbU ns k (show (0 : Int) < 42 by decide)
    rw [Int.fdiv_eq_ediv_of_nonneg _ (by decide)]
    omega
   ·cases h
    have := Zoi ns k
    have := ZcX (Zb4 ns k)
    unfold Zbl at *
    split at * <;> omega
theorem ZmN {a b : Int} (h0 : 0 ≤ b) (h1 : b < 2 ^ 30) : Builtin.divisionGoesByPylong a b = false := PyProof.noPylong_small (by omega)
theorem Zsb {ns : List Int} {k : Int} (hL : Lay ns) (h0 : 0 ≤ k) (h9 : k ≤ 10000) : Zgy [scr ns, .int k] = some (oT (Zc0 ns k)) := by
 apply Pk.eq
 unfold Zgy Zja Zc0
 obtain ⟨p0, p1⟩ := ZbU ns k (show (0 : Int) < 42 by decide)
 walk_at "zz"
 refine ZT (Zb1 h0 h9 (by decide)) ?_
 walk_at "zz"
 refine ⟨fun c => ?_, fun c => ?_⟩
 ·walk_at "zz"
  rw [if_pos (by simpa using c)]; rfl
 rw [if_neg (by simpa using c)]
 walk_at "zz"
 refine ⟨fun c => ?_, fun c => ?_⟩
 ·walk_at "zz"
  rw [if_pos (by simpa using c)]; rfl
 rw [if_neg (by simpa using c)]
 walk_at "zz"
 refine ⟨fun c => ?_, fun c => ?_⟩
 ·walk_at "zz"
  refine Zdu (by decide) (ZmN (by decide) (by decide)) ?_
  rw [if_pos (by simpa using c)]; rfl
 rw [if_neg (by simpa using c)]
 walk_at "zz"
 refine ZT (Zfu hL h0 h9) ?_
 walk_at "zz"
 rfl
noncomputable def RestOk (q : Int × Int) : Prop := q.1 = 0 ∨ (0 < q.1 ∧ 0 ≤ q.2 ∧ q.2 < q.1)
noncomputable def ZaH (m r : Int) : Int × Int := if m = 0 then (0, r) else (m, r.fmod m)
theorem ZcE {m : Int} (h : 0 ≤ m) (r : Int) : RestOk (ZaH m r) := by
 unfold RestOk ZaH
 split
 ·exact .inl rfl
 ·exact .inr ⟨by show 0 < m; omega, Int.fmod_nonneg_of_pos _ (by omega), Int.fmod_lt_of_pos _ (by omega)⟩
theorem ZeE {m r : Int} : Zdm [.int m, .int r] = some (Z4 (ZaH m r)) := by
 apply Pk.eq
 unfold Zdm Ziv ZaH
 by_cases c : m = 0
 ·walk_at "zz"
  rw [if_pos c]; rfl
 ·walk_at "zz"
  rw [if_neg c]; rfl
noncomputable def Zdh (ns : List Int) (k x : Int) : Int × Int :=
 if (Za8 ns k 60).fmod 5 < 2 then (1, 0) else if (Za8 ns k 60).fmod 5 = 2 then (0, x) else if (Za8 ns k 60).fmod 5 = 3 then ZaH ((Za8 ns k 60).fdiv 5 + 1) x else ZaH (Zbl (Zb4 ns k)) x
noncomputable def ZaK (q : Int × Int) (x : Int) : Prop := (q.1 = 0 → x = q.2) ∧ (0 < q.1 → (x - q.2).emod q.1 = 0)
theorem Zmx {m : Int} (h : 0 ≤ m) (r : Int) : ZaK (ZaH m r) r := by
 unfold ZaK ZaH
 split
 ·exact ⟨fun _ => rfl, fun q => absurd q (by simp)⟩
 ·refine ⟨fun q => absurd q (by simpa using ‹¬ m = 0›), fun q => ?_⟩
  show (r - r.fmod m) % m = 0
  rw [Int.fmod_eq_emod_of_nonneg _ h, Int.sub_emod, Int.emod_emod, Int.sub_self]
  simp
theorem Zk7 (ns : List Int) (k : Int) : 0 ≤ (Za8 ns k 60).fdiv 5 ∧ (Za8 ns k 60).fdiv 5 < 12 := by
 obtain ⟨p0, p1⟩ := ZbU ns k (show (0 : Int) < 60 by decide)
 rw [Int.fdiv_eq_ediv_of_nonneg _ (by decide)]
 omega
theorem Zsc (ns : List Int) (k x : Int) : RestOk (Zdh ns k x) := by
 have := Zk7 ns k
 unfold Zdh
 split
 ·exact .inr ⟨by decide, by decide, by decide⟩
 ·split
  ·exact .inl rfl
  ·split
   ·exact ZcE (by omega) x
   ·exact ZcE (ZcX _) x
theorem Zre (ns : List Int) (k x : Int) : ZaK (Zdh ns k x) x := by
 have := Zk7 ns k
 unfold Zdh
 split
 ·exact ⟨fun q => absurd q (by decide), fun _ => by show (x - 0) % 1 = 0; omega⟩
 ·split
  ·exact ⟨fun _ => rfl, fun q => absurd q (by simp)⟩
  ·split
   ·exact Zmx (by omega) x
   ·exact Zmx (ZcX _) x
theorem Zta {ns : List Int} {k x : Int} (hL : Lay ns) (h0 : 0 ≤ k) (h9 : k ≤ 10000) : ZgH [scr ns, .int k, .int x] = some (Z4 (Zdh ns k x)) := by
 apply Pk.eq
 unfold ZgH ZjK Zdh
 obtain ⟨p0, p1⟩ := ZbU ns k (show (0 : Int) < 60 by decide)
 walk_at "zz"
 refine ZT (Zb1 h0 h9 (by decide)) ?_
 walk_at "zz"
 refine ⟨fun c => ?_, fun c => ?_⟩
 ·walk_at "zz"
  rw [if_pos (by simpa using c)]; rfl
 rw [if_neg (by simpa using c)]
 walk_at "zz"
 refine ⟨fun c => ?_, fun c => ?_⟩
 ·walk_at "zz"
  rw [if_pos (by simpa using c)]; rfl
 rw [if_neg (by simpa using c)]
 walk_at "zz"
 refine ⟨fun c => ?_, fun c => ?_⟩
 ·walk_at "zz"
  refine Zdu (by decide) (ZmN (by decide) (by decide)) ?_
  walk_at "zz"
  refine ZT ZeE ?_
  rw [if_pos (by simpa using c)]
 rw [if_neg (by simpa using c)]
 walk_at "zz"
 refine ZT (Zfu hL h0 h9) ?_
 walk_at "zz"
 exact ZT ZeE rfl
noncomputable def ZaP (x : Nat → Int) : Nat → Int := cn 0 x
theorem Zoj (x : Nat → Int) : cn (T.int 0) (fun i => T.int (x i)) = fun i => T.int (ZaP x i) := by
 funext i; cases i <;> rfl
noncomputable def ZbW (ns : List Int) (k : Int) (n : Nat) (x : Nat → Int) (i j : Nat) : Option Int := if j = i then some 0 else (Zc0 ns (k + i * (n + 1 : Nat) + j)).map fun c => ZaP x i - ZaP x j + c
noncomputable def Zek (ns : List Int) (k : Int) (n : Nat) (x : Nat → Int) (t : Nat) : Int × Int := Zdh ns (k + (n + 1 : Nat) * (n + 1 : Nat) + t) (x t)
theorem Zqp (ns : List Int) (k : Int) (n : Nat) (x : Nat → Int) (i : Nat) : ZbW ns k n x i i = some 0 := by simp [ZbW]
theorem Zsd (ns : List Int) (k : Int) (n : Nat) (x : Nat → Int) (i : Nat) : (fun j => if j = i then T.int 0 else oT ((Zc0 ns (k + i * (n + 1 : Nat) + j)).map fun c => ZaP x i - ZaP x j + c)) = fun j => oT (ZbW ns k n x i j) := by
 funext j
 unfold ZbW
 split <;> rfl
theorem Ztb {ns : List Int} {k : Int} {n : Nat} {x : Nat → Int} (hL : Lay ns) (h0 : 0 ≤ k) (h9 : k ≤ 1000) (hn : n ≤ 9) : ZgI [scr ns, .int k, ZdW n x] = some (Z3 n (ZbW ns k n x) (Zek ns k n x)) := by
 apply Pk.eq
 unfold ZgI ZjN ZdW
 have hq : ((n + 1 : Nat) : Int) * ((n + 1 : Nat) : Int) ≤ 10 * 10 := Int.mul_le_mul (by omega) (by omega) (by omega) (by decide)
 have hq0 : (0 : Int) ≤ ((n + 1 : Nat) : Int) * ((n + 1 : Nat) : Int) := Int.mul_nonneg (by omega) (by omega)
 walk_at "zz"
 rw [Zoj]
 refine ZbL (n := n + 1) (a := fun i => .int i) (P := fun i σ => σ 0 = some (scr ns) ∧ σ 1 = some (.int k) ∧ σ 2 = some (.lst (tab n fun i => .int (x i))) ∧ σ 3 = some (.lst (tab (n + 1) fun i => .int (ZaP x i))) ∧ σ 4 = some (.int (n + 1 : Nat)) ∧ σ 5 = some (.lst (tab i fun i => Zar (n + 1) (ZbW ns k n x i)))) ?_ ⟨rfl, rfl, rfl, rfl, rfl, rfl⟩ ?_ ?_
 ·walk_at "zz"
  rfl
 ·rintro i σ hi ⟨e0, e1, e2, e3, e4, e5⟩
  walk_at "zz"
  refine ZbL (n := n + 1) (a := fun i => .int i) (P := fun j σ => σ 0 = some (scr ns) ∧ σ 1 = some (.int k) ∧ σ 2 = some (.lst (tab n fun i => .int (x i))) ∧ σ 3 = some (.lst (tab (n + 1) fun i => .int (ZaP x i))) ∧ σ 4 = some (.int (n + 1 : Nat)) ∧ σ 5 = some (.lst (tab i fun i => Zar (n + 1) (ZbW ns k n x i))) ∧ σ 6 = some (.int i) ∧ σ 7 = some (.lst (tab j fun j => oT ((Zc0 ns (k + i * (n + 1 : Nat) + j)).map fun c => ZaP x i - ZaP x j + c)))) ?_ ⟨?_, ?_, ?_, ?_, ?_, ?_, ?_, ?_⟩ ?_ ?_
  ·walk_at "zz"
   rfl
  all_goals first | walk_at "zr" | skip
  ·rintro j σ hj ⟨e0, e1, e2, e3, e4, e5, e6, e7⟩
   have hb1 : (0 : Int) ≤ i * ((n + 1 : Nat) : Int) := Int.mul_nonneg (by omega) (by omega)
   have hb2 : (i : Int) * ((n + 1 : Nat) : Int) ≤ 10 * 10 := Int.mul_le_mul (by omega) (by omega) (by omega) (by decide)
   walk_at "zz"
   refine Zda (by omega) (by omega) ?_
   walk_at "zz"
   refine ZT (Zsb hL (by omega) (by omega)) ?_
   have key : ∀ w, w = oT ((Zc0 ns (k + i * (n + 1 : Nat) + j)).map fun c => ZaP x i - ZaP x j + c) → tab j (fun j => oT ((Zc0 ns (k + i * (n + 1 : Nat) + j)).map fun c => ZaP x i - ZaP x j + c)) ++ [w] = tab (j + 1) fun j => oT ((Zc0 ns (k + i * (n + 1 : Nat) + j)).map fun c => ZaP x i - ZaP x j + c) := fun w e => by
    rw [e]; exact Zc7
   cases hs : Zc0 ns (k + ↑i * ↑(n + 1) + ↑j) with
   | none =>
    simp only [ZbI, ZaD]
    walk_at "zz"
    rw [key _ (by rw [hs]; rfl)]
    refine ⟨?_, ?_, ?_, ?_, ?_, ?_, ?_, ?_⟩ <;> walk_at "zr"
   | some c =>
    simp only [ZbI, ZaD]
    walk_at "zz"
    rw [key _ (by rw [hs]; rfl)]
    refine ⟨?_, ?_, ?_, ?_, ?_, ?_, ?_, ?_⟩ <;> walk_at "zr"
  ·rintro σ ⟨e0, e1, e2, e3, e4, e5, e6, e7⟩
   walk_at "zz"
   rw [Zsd, show tab i (fun i => Zar (n + 1) (ZbW ns k n x i)) ++ [T.lst (tab (n + 1) fun j => oT (ZbW ns k n x i j))] = tab (i + 1) fun i => Zar (n + 1) (ZbW ns k n x i) from Zc7 (f := fun i => Zar (n + 1) (ZbW ns k n x i))]
   refine ⟨?_, ?_, ?_, ?_, ?_, ?_⟩ <;> walk_at "zr"
 ·rintro σ ⟨e0, e1, e2, e3, e4, e5⟩
  walk_at "zz"
  refine ZbR (n := n) (a := fun i => .int i) (b := fun t => Z4 (Zek ns k n x t)) (by omega) ?_ (fun t ht => ?_) ?_
  ·walk_at "zz"
   refine Zov n (by omega) (by omega) rfl
  ·walk_at "zz"
   refine Zda (by omega) (by omega) ?_
   walk_at "zz"
   exact ZT (Zta hL (by omega) (by omega)) ⟨Zg7, rfl⟩
  walk_at "zz"
  rfl
noncomputable def Za5 (n : Nat) (G : Nat → Nat → Option Int) (R : Nat → Int × Int) (x : Nat → Int) : Prop := (∀ i j, i < n + 1 → j < n + 1 → ∀ b, G i j = some b → ZaP x i - ZaP x j ≤ b) ∧ ∀ t, t < n → ZaK (R t) (x t)
theorem Zrf (ns : List Int) (k : Int) (n : Nat) (x : Nat → Int) : Za5 n (ZbW ns k n x) (Zek ns k n x) x := by
 refine ⟨fun i j _ _ b h => ?_, fun t _ => Zre ns _ _⟩
 unfold ZbW at h
 split at h
 ·rename_i e; subst e; cases h; omega
 ·obtain ⟨c, h1, h2⟩ := Zz1.mp h
  have := (Znd ns _ h1).1
  omega
noncomputable def ZuQ (n : Nat) (G : Nat → Nat → Option Int) (R : Nat → Int × Int) : Prop := (∀ i, i < n + 1 → G i i = some 0) ∧ ∀ t, t < n → RestOk (R t)
theorem Zrg (ns : List Int) (k : Int) (n : Nat) (x : Nat → Int) : ZuQ n (ZbW ns k n x) (Zek ns k n x) := ⟨fun i _ => Zqp ns k n x i, fun t _ => Zsc ns _ _⟩
theorem Zrh {n : Nat} {G : Nat → Nat → Option Int} {σ : TL} {j : Nat} {g : PE} {Q : T → Prop} (hn : n < 10000) (e : Pk (g σ) fun t => t = Zag n G) (h : Q (Zag n G)) : Pk (Zan (ZaE g) (Z5 j) Zad (Zy Zcj (Zf (Za j) Zn)) σ) Q := by
 refine ZbR (n := n) (a := fun i => Zar n (G i)) (b := fun i => Zar n (G i)) hn ?_ (fun i hi => ?_) h
 ·refine Zhl (e.mono ?_)
  rintro _ rfl
  exact Sq.lst rfl
 ·unfold Zar
  walk_at "zz"
  rfl
theorem ZnK {n : Nat} {G : Nat → Nat → Option Int} {R : Nat → Int × Int} (hn : n ≤ 100) : ZdG [Z3 n G R] = some (Z3 n G R) := by
 apply Pk.eq
 unfold ZdG ZgJ Z3 ZaT
 walk_at "zz"
 refine Zrh (n := n + 1) (G := G) (by omega) ?_ ?_
 ·walk_at "zz"
  rfl
 walk_at "zz"
 rfl
theorem Zri : ZdG [.none] = some .none := by
 apply Pk.eq
 unfold ZdG ZgJ
 walk_at "zz"
 rfl
end L
namespace L
open PySem PySem.W PyProof.Rows PM TM My
noncomputable def leO (a b : Option Int) : Prop := ∀ y, b = some y → ∃ x, a = some x ∧ x ≤ y
theorem ZeN {a : Option Int} : leO a none := fun _ e => by cases e
theorem leO_some {x y : Int} : leO (some x) (some y) ↔ x ≤ y := ⟨fun h => by obtain ⟨z, e, q⟩ := h y rfl; cases e; exact q, fun h z e => by cases e; exact ⟨x, rfl, h⟩⟩
theorem Zln {y : Int} : ¬ leO none (some y) := fun h => by obtain ⟨z, e, _⟩ := h y rfl; cases e
theorem Zpu {a b : Option Int} : Zgz [oT a, oT b] = some (.bool (dec (leO a b))) := by
 apply Pk.eq
 unfold Zgz Zjd
 cases b with
 | none =>
  simp only [ZbI]
  walk_at "zz"
  rw [Zbi ZeN]
 | some y =>
  cases a with
  | none =>
   simp only [ZbI, ZaD]
   walk_at "zz"
   rw [Zb9 Zln]
  | some x =>
   simp only [ZaD]
   walk_at "zz"
   rw [Zko leO_some, ZgG]
theorem Ztc {q : Int × Int} (h : 0 < q.1 ∧ 0 ≤ q.2 ∧ q.2 < q.1) (x : Int) : x.fmod q.1 = q.2 ↔ (x - q.2) % q.1 = 0 := by
 rw [Int.fmod_eq_emod_of_nonneg _ (by omega)]
 constructor
 ·intro e
  rw [← e, Int.sub_emod, Int.emod_emod, Int.sub_self]
  simp
 ·intro e
  have : x % q.1 = q.2 % q.1 := Int.emod_eq_emod_iff_emod_sub_eq_zero.mpr e
  rw [this, Int.emod_eq_of_lt h.2.1 h.2.2]
theorem Ztd {q : Int × Int} (h : RestOk q) (x : Int) : (if q.1 = 0 then x = q.2 else x.fmod q.1 = q.2) ↔ ZaK q x := by
 unfold ZaK
 rcases h with h | h
 ·rw [if_pos h]; simp [h]
 ·rw [if_neg (by omega), Ztc h]
  have h1 : ¬ q.1 = 0 := by omega
  simp only [h1, false_implies, true_and, h.1, true_implies]
  rfl
theorem Zmk {q : Int × Int} {x : Int} (h : RestOk q) : Zfj [Z4 q, .int x] = some (.bool (dec (ZaK q x))) := by
 apply Pk.eq
 unfold Zfj ZjR Z4
 rw [← Zko (Ztd h x)]
 by_cases c : q.1 = 0
 ·walk_at "zz"
  rw [if_pos c, ZgG]
 ·walk_at "zz"
  rw [if_neg c, ZgG]
end L
namespace L
open PySem PySem.W PyProof.Rows PM TM My
noncomputable def Eu (m : Nat) (a b : Int) : Prop := 0 ≤ a ∧ 0 ≤ b ∧ ∃ k : Nat, a * b < 2 ^ k ∧ m = 2 * k + if a < b then 1 else 0
theorem Eu.step {m : Nat} {a b : Int} (h : Eu m a b) (hb : b ≠ 0) : ∃ m', m' < m ∧ Eu m' b (a % b) := by
 obtain ⟨h0, h1, k, h2, h3⟩ := h
 have hb' : 0 < b := by omega
 have r0 := Int.emod_nonneg a hb
 have r1 := Int.emod_lt_of_pos a hb'
 by_cases q : a < b
 ·rw [if_pos q] at h3
  have e : a % b = a := Int.emod_eq_of_lt h0 q
  rw [e]
  exact ⟨2 * k, by omega, h1, h0, k, by rw [Int.mul_comm]; exact h2, by rw [if_neg (by omega)]; omega⟩
 ·rw [if_neg q] at h3
  have hd := Int.emod_add_mul_ediv a b
  have hq : 1 ≤ a / b := Int.le_ediv_of_mul_le hb' (by omega)
  have hm : b * 1 ≤ b * (a / b) := Int.mul_le_mul_of_nonneg_left hq h1
  have h2r : 2 * (a % b) < a := by omega
  have hp : b * (2 * (a % b)) < b * a := Int.mul_lt_mul_of_pos_left h2r hb'
  have hk : k ≠ 0 := by
   rintro rfl
   have : 0 < a * b := Int.mul_pos (by omega) hb'
   simp at h2
   omega
  obtain ⟨k', rfl⟩ : ∃ k', k = k' + 1 := ⟨k - 1, by omega⟩
  refine ⟨2 * k', by omega, h1, r0, k', ?_, by rw [if_neg (by omega)]; omega⟩
  have e1 : b * (2 * (a % b)) = 2 * (b * (a % b)) := by rw [← Int.mul_assoc, Int.mul_comm b 2, Int.mul_assoc]
  have e2 : a * b = b * a := Int.mul_comm _ _
  rw [Int.pow_succ] at h2
  omega
theorem Zha {a b : Int} (ha : 0 ≤ a) (hb : 0 ≤ b) (ha2 : a < 2 ^ 200000) (hb2 : b < 2 ^ 200000) : ∃ m, m < 1000000 ∧ Eu m a b := by
 refine ⟨_, ?_, ha, hb, 400000, ?_, rfl⟩
 ·split <;> omega
 ·have h1 : a * b ≤ a * 2 ^ 200000 := Int.mul_le_mul_of_nonneg_left (by omega) ha
  have h2 : a * 2 ^ 200000 < 2 ^ 200000 * 2 ^ 200000 := Int.mul_lt_mul_of_pos_right ha2 (Int.pow_pos (by decide))
  have h3 : (2 : Int) ^ 200000 * 2 ^ 200000 = 2 ^ 400000 := by rw [← Int.pow_add]
  omega
theorem ZfA {a b : Int} (hb : 0 < b) : Int.gcd b (a % b) = Int.gcd a b := by
 rw [Int.gcd_comm a b, Int.emod_def, Int.gcd_sub_mul_left_right]
theorem ZnL {a b : Int} : Int.gcd (Zbl a) (Zbl b) = Int.gcd a b := by
 unfold Zbl Int.gcd
 split <;> split <;> simp
theorem Zhr {a : Int} {k : Nat} (h : a.natAbs < 2 ^ k) : Zbl a < 2 ^ k := by
 have : ((a.natAbs : Nat) : Int) < 2 ^ k := by exact_mod_cast h
 unfold Zbl
 split <;> omega
theorem Zmy {a b : Int} (ha : a.natAbs < 2 ^ 200000) (hb : b.natAbs < 2 ^ 200000) : Zfq [.int a, .int b] = some (.int (Int.gcd a b)) := by
 apply Pk.eq
 unfold Zfq Zkq
 walk_at "zz"
 obtain ⟨m, hm, eu⟩ := Zha (ZcX a) (ZcX b) (Zhr ha) (Zhr hb)
 refine ZeK (fun m σ => ∃ c d : Int, σ 0 = some (.int c) ∧ σ 1 = some (.int d) ∧ Eu m c d ∧ Int.gcd c d = Int.gcd a b) _ _ ?_ 1000000 (m := m) ⟨Zbl a, Zbl b, by walk_at "zr", by walk_at "zr", eu, ZnL⟩ hm
 rintro m σ ⟨c, d, e0, e1, eu, eg⟩
 walk_at "zz"
 refine ⟨fun h => ?_, fun h => ?_⟩
 ·have hd : d ≠ 0 := by simpa using h
  have hd0 : 0 ≤ d := eu.2.1
  walk_at "zz"
  rw [Int.fmod_eq_emod_of_nonneg _ hd0]
  obtain ⟨m', h1, h2⟩ := eu.step hd
  exact ⟨m', h1, d, c % d, by walk_at "zr", by walk_at "zr", h2, by rw [ZfA (by omega)]; exact eg⟩
 ·have hd : d = 0 := by simpa using h
  subst hd
  walk_at "zz"
  rw [← eg, Int.gcd_zero_right]
  have := eu.1
  congr 1
  omega
theorem Zhs (ns : List Int) (k : Int) : (Zb4 ns k).natAbs < 2 ^ 134 := by
 have h := Zoi ns k
 have h2 := ZhA
 have : (2 : Nat) ^ 134 = 21778071482940061661655974875633165533184 := by decide
 omega
theorem Za4 {a : Nat} {i j : Nat} (h : a < 2 ^ i) (hij : i ≤ j) : a < 2 ^ j := Nat.lt_of_lt_of_le h (Nat.pow_le_pow_right (by decide) hij)
noncomputable def SmG (k n : Nat) (G : Nat → Nat → Option Int) : Prop := ∀ i j, i < n + 1 → j < n + 1 → ∀ b, G i j = some b → b.natAbs < 2 ^ k
noncomputable def SmR (k n : Nat) (R : Nat → Int × Int) : Prop := ∀ t, t < n → (R t).1.natAbs < 2 ^ k ∧ (R t).2.natAbs < 2 ^ k
theorem Zgw {m r : Int} {k : Nat} (h0 : 0 ≤ m) (hm : m.natAbs < 2 ^ k) (hr : r.natAbs < 2 ^ k) : (ZaH m r).1.natAbs < 2 ^ k ∧ (ZaH m r).2.natAbs < 2 ^ k := by
 unfold ZaH
 split
 ·exact ⟨Nat.two_pow_pos k, hr⟩
 ·have h1 := Int.fmod_nonneg_of_pos r (show 0 < m by omega)
  have h2 := Int.fmod_lt_of_pos r (show 0 < m by omega)
  exact ⟨hm, by show (r.fmod m).natAbs < _; omega⟩
theorem Zk8 (a : Int) : (Zbl a).natAbs = a.natAbs := by unfold Zbl; split <;> omega
theorem ZpS {ns : List Int} {k x : Int} (hx : x.natAbs < 2 ^ 134) : (Zdh ns k x).1.natAbs < 2 ^ 134 ∧ (Zdh ns k x).2.natAbs < 2 ^ 134 := by
 have h := Zk7 ns k
 have h2 := Zhs ns k
 have e : (2 : Nat) ^ 134 = 21778071482940061661655974875633165533184 := by decide
 unfold Zdh
 split
 ·exact ⟨by show (1 : Nat) < _; omega, by show (0 : Nat) < _; omega⟩
 ·split
  ·exact ⟨by show (0 : Nat) < _; omega, hx⟩
  ·split
   ·exact Zgw (by omega) (by omega) hx
   ·exact Zgw (ZcX _) (by rw [Zk8]; exact h2) hx
theorem Zmz {n k : Nat} {x : Nat → Int} (hx : ∀ i, i < n → (x i).natAbs < 2 ^ k) (i : Nat) (hi : i < n + 1) : (ZaP x i).natAbs < 2 ^ k := by
 cases i with
 | zero => exact Nat.two_pow_pos k
 | succ i => exact hx i (by omega)
theorem Zse {ns : List Int} {k : Int} {n : Nat} {x : Nat → Int} (hx : ∀ i, i < n → (x i).natAbs < 2 ^ 134) : SmG 136 n (ZbW ns k n x) := by
 intro i j hi hj b h
 have e : (2 : Nat) ^ 134 = 21778071482940061661655974875633165533184 := by decide
 have e2 : (2 : Nat) ^ 136 = 4 * 21778071482940061661655974875633165533184 := by decide
 have h40 := ZhA
 have h1 := Zmz hx i hi
 have h2 := Zmz hx j hj
 unfold ZbW at h
 split at h
 ·cases h; exact Nat.two_pow_pos _
 ·obtain ⟨c, h3, h4⟩ := Zz1.mp h
  have := Znd ns _ h3
  subst h4
  omega
theorem Zne {ns : List Int} {k : Int} {n : Nat} {x : Nat → Int} (hx : ∀ i, i < n → (x i).natAbs < 2 ^ 134) : SmR 134 n (Zek ns k n x) := fun t ht => ZpS (hx t ht)
theorem ZmO {σ : TL} {Q : T → Prop} {g : PG} {j n : Nat} {a : Nat → T} {f : PE} {β : Type} (e : β → T) (P : Nat → β → Prop) (hn : n < 10000) (hg : Pl (g σ) fun ts => ts = tab n a) (hf : ∀ i, i < n → Pk (f (ZZ σ j (a i))) fun t => ∃ y, t = e y ∧ P i y) (d : β) (h : ∀ y : Nat → β, (∀ i, i < n → P i (y i)) → Q (.lst (tab n fun i => e (y i)))) : Pk (Zan g (Z5 j) Zad f σ) Q := by
 have hc : ∃ y : Nat → β, ∀ i, i < n → Pk (f (ZZ σ j (a i))) (fun t => t = e (y i)) ∧ P i (y i) := by
  have hx : ∀ i, ∃ y : β, i < n → Pk (f (ZZ σ j (a i))) (fun t => t = e y) ∧ P i y := fun i => by
   by_cases q : i < n
   ·obtain ⟨t, e1, y, e2, p⟩ := hf i q
    exact ⟨y, fun _ => ⟨⟨t, e1, e2⟩, p⟩⟩
   ·exact ⟨d, fun h => absurd h q⟩
  exact ⟨fun i => Classical.choose (hx i), fun i => Classical.choose_spec (hx i)⟩
 obtain ⟨y, hy⟩ := hc
 exact ZbR hn hg (fun i hi => (hy i hi).1) (h y fun i hi => (hy i hi).2)
theorem ZgT {n : Nat} {G : Nat → Nat → Option Int} {σ : TL} {j : Nat} {g : PE} {Q : T → Prop} (hn : n < 10000) (e : Pk (g σ) fun t => t = Zag n G) (h : Q (Zag n G)) : Pk (Zan (ZaE g) (Z5 j) Zad (pFl (Zy Zcj (Zf (Za j) Zn))) σ) Q := by
 refine ZbR (n := n) (a := fun i => Zar n (G i)) (b := fun i => Zar n (G i)) hn ?_ (fun i hi => ?_) h
 ·refine Zhl (e.mono ?_)
  rintro _ rfl
  exact Sq.lst rfl
 ·unfold Zar
  walk_at "zz"
  rfl
noncomputable def ZcR (G : Nat → Nat → Option Int) (i j : Nat) (v : Option Int) : Nat → Nat → Option Int := fun a b => if a = i ∧ b = j then v else G a b
theorem Zea {n : Nat} {G : Nat → Nat → Option Int} {i j : Nat} {v : Option Int} : T.lst (tab n fun a => T.lst (tab n fun b => if a = i ∧ b = j then oT v else oT (G a b))) = Zag n (ZcR G i j v) := by
 unfold Zag Zar ZcR
 congr 2
 funext a
 congr 2
 funext b
 split <;> rfl
theorem Zlo {G : Nat → Nat → Option Int} {i j : Nat} {v : Option Int} : ZcR G i j v i j = v := by simp [ZcR]
theorem Zht {G : Nat → Nat → Option Int} {i j a b : Nat} {v : Option Int} (h : ¬ (a = i ∧ b = j)) : ZcR G i j v a b = G a b := by simp [ZcR, h]
theorem ZcH {a : Option Int} : leO a a := fun y e => ⟨y, e, Int.le_refl y⟩
theorem Zc5 {a b c : Option Int} (h : leO a b) (k : leO b c) : leO a c := fun y e => by
 obtain ⟨x, e1, l1⟩ := k y e
 obtain ⟨w, e2, l2⟩ := h x e1
 exact ⟨w, e2, by omega⟩
theorem ZfS {k : Int} {n : Nat} (h0 : 0 ≤ k) (h1 : k < n) : ∃ i : Nat, k = i ∧ i < n := ⟨k.toNat, by omega, by omega⟩
end L
namespace L
open PySem PySem.W PyProof.Rows PM TM My
theorem ZmA {a b : Int} (ha : a.natAbs < 2 ^ 200000) (hb : b.natAbs < 2 ^ 200000) : Zfr [.int a, .int b] = some (.int (Int.gcd a b)) := by
 apply Pk.eq
 unfold Zfr Zks
 walk_at "zz"
 obtain ⟨m, hm, eu⟩ := Zha (ZcX a) (ZcX b) (Zhr ha) (Zhr hb)
 refine ZeK (fun m σ => ∃ c d : Int, σ 2 = some (.int c) ∧ σ 3 = some (.int d) ∧ Eu m c d ∧ Int.gcd c d = Int.gcd a b) _ _ ?_ 1000000 (m := m) ⟨Zbl a, Zbl b, by walk_at "zr", by walk_at "zr", eu, ZnL⟩ hm
 rintro m σ ⟨c, d, e0, e1, eu, eg⟩
 walk_at "zz"
 refine ⟨fun h => ?_, fun h => ?_⟩
 ·have hd : d ≠ 0 := by simpa using h
  have hd0 : 0 ≤ d := eu.2.1
  walk_at "zz"
  rw [Int.fmod_eq_emod_of_nonneg _ hd0]
  obtain ⟨m', h1, h2⟩ := eu.step hd
  exact ⟨m', h1, d, c % d, by walk_at "zr", by walk_at "zr", h2, by rw [ZfA (by omega)]; exact eg⟩
 ·have hd : d = 0 := by simpa using h
  subst hd
  walk_at "zz"
  rw [← eg, Int.gcd_zero_right]
  have := eu.1
  congr 1
  omega
noncomputable def Bd (k : Nat) (x : Int) : Prop := x.natAbs < 2 ^ k
theorem Bd.mono {i j : Nat} {x : Int} (h : Bd i x) (hij : i ≤ j) : Bd j x := Za4 h hij
theorem ZbQ {i j : Nat} {x y : Int} (h : Bd i x) (k : Bd j y) (hi : i ≤ 1000000) (hj : j ≤ 1000000) : mulOk x y = true := Zm3 (Nat.le_trans (PyProof.Rows.intBits_le h) (Nat.le_trans hi (by decide))) (Nat.le_trans (PyProof.Rows.intBits_le k) (Nat.le_trans hj (by decide)))
theorem Bd.mul {i j : Nat} {x y : Int} (h : Bd i x) (k : Bd j y) : Bd (i + j) (x * y) := by
 unfold Bd at *
 rw [Int.natAbs_mul, Nat.pow_add]
 exact Nat.mul_lt_mul'' h k
theorem Bd.add {i : Nat} {x y : Int} (h : Bd i x) (k : Bd i y) : Bd (i + 1) (x + y) := by
 unfold Bd at *
 rw [Nat.pow_succ]
 omega
theorem Bd.sub {i : Nat} {x y : Int} (h : Bd i x) (k : Bd i y) : Bd (i + 1) (x - y) := by
 unfold Bd at *
 rw [Nat.pow_succ]
 omega
theorem Zeb {i : Nat} {y x : Int} (h : Bd i y) (hi : i ≤ 9000) : Builtin.divisionGoesByPylong x y = false := by
 refine PyProof.noPylong_of_log2 ?_
 by_cases h0 : y.natAbs = 0
 ·rw [h0]; decide +kernel
 ·exact Nat.lt_of_lt_of_le ((Nat.log2_lt h0).mpr h) hi
theorem ZcP {i : Nat} {x y : Int} (h : Bd i y) (h0 : 0 ≤ x) (h1 : x ≤ y) : Bd i x := by unfold Bd at *; omega
theorem Zgb {i : Nat} (h : 1 ≤ i) : Bd i 1 := Za4 (i := 1) (by decide) h
theorem ZdX {i : Nat} : Bd i 0 := Nat.two_pow_pos i
theorem Zqq {a b : Int} {k : Nat} (hb : 0 < b) (kb : Bd k b) (hk : k ≤ 8000) (ha : 0 ≤ a) (hg : Int.gcd a b = 1) : Pk (ZgZ [.int a, .int b]) fun t => ∃ x : Int, t = .int x ∧ 0 ≤ x ∧ x < b ∧ ∃ q, a * x = 1 + b * q := by
 unfold ZgZ Zkv
 walk_at "zz"
 rw [Int.fmod_eq_emod_of_nonneg _ (by omega)]
 have r0 := Int.emod_nonneg a (show b ≠ 0 by omega)
 have r1 := Int.emod_lt_of_pos a hb
 have hlt : ∀ x : Int, 0 ≤ x → x ≤ b → x < 2 ^ 200000 := fun x h0 h1 => by
  have h2 : b.natAbs < 2 ^ 200000 := Za4 kb (by omega)
  have h3 : ((b.natAbs : Nat) : Int) < 2 ^ 200000 := by exact_mod_cast h2
  omega
 obtain ⟨m, hm, eu⟩ := Zha r0 (show 0 ≤ b by omega) (hlt _ r0 (by omega)) (hlt b (by omega) (by omega))
 have hg0 : Int.gcd (a % b) b = 1 := by
  rw [Int.gcd_comm, ZfA hb]; exact hg
 refine ZeK (fun m σ => ∃ l r s t : Int, σ 1 = some (.int b) ∧ σ 2 = some (.int l) ∧ σ 3 = some (.int r) ∧ σ 4 = some (.int s) ∧ σ 5 = some (.int t) ∧ Eu m l r ∧ Int.gcd l r = 1 ∧ l ≤ b ∧ r ≤ b ∧ (∃ q, s * a = l + b * q) ∧ (∃ q, t * a = r + b * q) ∧ (s.natAbs : Int) * r + (t.natAbs : Int) * l ≤ b ∧ (1 ≤ l ∨ t = 0)) _ _ ?_ 1000000 (m := m) ⟨a % b, b, 1, 0, by walk_at "zr", by walk_at "zr", by walk_at "zr", by walk_at "zr", by walk_at "zr", eu, hg0, by omega, by omega, ⟨a / b, ?_⟩, ⟨-1, by omega⟩, by simp, .inr rfl⟩ hm
 ·rintro m σ ⟨l, r, s, t, e1, e2, e3, e4, e5, eu, gl, lb, rb, ⟨q1, h1⟩, ⟨q2, h2⟩, hb1, hl⟩
  walk_at "zz"
  refine ⟨fun h => ?_, fun h => ?_⟩
  ·have hr : r ≠ 0 := by simpa using h
   have hr0 : 0 ≤ r := eu.2.1
   have hl0 : 0 ≤ l := eu.1
   have hrp : 0 < r := by omega
   have kr : Bd k r := ZcP kb hr0 rb
   have kl : Bd k l := ZcP kb hl0 lb
   have hdiv0 : 0 ≤ l / r := Int.ediv_nonneg hl0 hr0
   have hdiv1 : l / r ≤ l := Int.ediv_le_self _ hl0
   have ks : (s.natAbs : Int) ≤ b := by
    have : (s.natAbs : Int) * 1 ≤ (s.natAbs : Int) * r := Int.mul_le_mul_of_nonneg_left (by omega) (by omega)
    have : 0 ≤ (t.natAbs : Int) * l := Int.mul_nonneg (by omega) hl0
    omega
   have kt : (t.natAbs : Int) ≤ b := by
    rcases hl with hl | hl
    ·have : (t.natAbs : Int) * 1 ≤ (t.natAbs : Int) * l := Int.mul_le_mul_of_nonneg_left (by omega) (by omega)
     have : 0 ≤ (s.natAbs : Int) * r := Int.mul_nonneg (by omega) hr0
     omega
    ·rw [hl]; simp; omega
   have kt' : Bd k t := by unfold Bd at *; omega
   have kd : Bd k (l / r) := ZcP kl hdiv0 hdiv1
   walk_at "zz"
   refine Zdu hr (Zeb kr (by omega)) ?_
   rw [Int.fdiv_eq_ediv_of_nonneg _ hr0]
   walk_at "zz"
   refine ZbE (ZbQ kd kr (by omega) (by omega)) ?_
   walk_at "zz"
   refine ZbE (ZbQ kd kt' (by omega) (by omega)) ?_
   walk_at "zz"
   have hover : l - l / r * r = l % r := by
    have := Int.emod_add_mul_ediv l r
    rw [Int.mul_comm r (l / r)] at this
    omega
   rw [hover]
   obtain ⟨m', hm1, hm2⟩ := eu.step hr
   have o0 := Int.emod_nonneg l hr
   have o1 := Int.emod_lt_of_pos l hrp
   refine ⟨m', hm1, r, l % r, t, s - l / r * t, by walk_at "zr", by walk_at "zr", by walk_at "zr", by walk_at "zr", by walk_at "zr", hm2, by rw [ZfA hrp]; exact gl, rb, by omega, ⟨q2, h2⟩, ⟨q1 - l / r * q2, ?_⟩, ?_, .inl (by omega)⟩
   ·rw [Int.sub_mul, h1, Int.mul_assoc, h2, Int.mul_add, Int.mul_sub, ← hover]
    have e1 : b * (l / r * q2) = l / r * (b * q2) := by rw [← Int.mul_assoc, Int.mul_comm b, Int.mul_assoc]
    rw [e1]
    omega
   ·have ht : ((s - l / r * t).natAbs : Int) ≤ (s.natAbs : Int) + l / r * (t.natAbs : Int) := by
     have h3 : (s - l / r * t).natAbs ≤ s.natAbs + (l / r * t).natAbs := by omega
     have h4 : (l / r * t).natAbs = (l / r).natAbs * t.natAbs := Int.natAbs_mul ..
     have h5 : (((l / r).natAbs * t.natAbs : Nat) : Int) = l / r * (t.natAbs : Int) := by
      rw [Int.natCast_mul, Int.natAbs_of_nonneg hdiv0]
     rw [h4] at h3
     omega
    have h6 : ((s - l / r * t).natAbs : Int) * r ≤ ((s.natAbs : Int) + l / r * (t.natAbs : Int)) * r := Int.mul_le_mul_of_nonneg_right ht hr0
    have h7 : ((s.natAbs : Int) + l / r * (t.natAbs : Int)) * r = (s.natAbs : Int) * r + (t.natAbs : Int) * (l / r * r) := by
     rw [Int.add_mul, Int.mul_comm (l / r) (t.natAbs : Int), Int.mul_assoc]
    have h8 : (t.natAbs : Int) * (l % r) + (t.natAbs : Int) * (l / r * r) = (t.natAbs : Int) * l := by
     rw [← Int.mul_add, ← hover]
     congr 1
     omega
    omega
  ·have hr : r = 0 := by simpa using h
   subst hr
   rw [Int.gcd_zero_right] at gl
   have hl1 : l = 1 := by have := eu.1; omega
   subst hl1
   walk_at "zz"
   rw [Int.fmod_eq_emod_of_nonneg _ (by omega)]
   refine ⟨s % b, rfl, Int.emod_nonneg _ (by omega), Int.emod_lt_of_pos _ hb, q1 - s / b * a, ?_⟩
   have h3 := Int.emod_add_mul_ediv s b
   have h4 : s % b = s - b * (s / b) := by omega
   rw [h4, Int.mul_sub, Int.mul_comm a s, h1, Int.mul_sub]
   have e1 : a * (b * (s / b)) = b * (s / b * a) := by rw [Int.mul_comm a, Int.mul_assoc]
   rw [e1]
   omega
 ·have h3 := Int.emod_add_mul_ediv a b
  rw [Int.one_mul]
  omega
end L
namespace L
open PySem PySem.W PyProof.Rows PM TM My
theorem Zi2 {m r : Int} (h : 0 ≤ m) : ZeX [.int m, .int r] = some (Z4 (ZaH m r)) := by
 apply Pk.eq
 unfold ZeX ZlC ZaH
 by_cases c : m = 0
 ·walk_at "zz"
  rw [if_pos c]; rfl
 ·walk_at "zz"
  rw [if_neg c]; rfl
theorem Zbx {q : Int × Int} (h : 0 ≤ q.1) (x : Int) : ZaK q x ↔ q.1 ∣ x - q.2 := by
 unfold ZaK
 by_cases c : q.1 = 0
 ·rw [c]
  simp
  omega
 ·have : 0 < q.1 := by omega
  simp only [c, false_implies, true_and, this, true_implies]
  exact (Int.dvd_iff_emod_eq_zero).symm
theorem Zrj {m r : Int} (h : 0 ≤ m) : 0 ≤ (ZaH m r).1 := by unfold ZaH; split <;> simp [h]
theorem Zc4 {m r : Int} (h : 0 ≤ m) (x : Int) : ZaK (ZaH m r) x ↔ m ∣ x - r := by
 rw [Zbx (Zrj h)]
 unfold ZaH
 split
 ·rename_i c; subst c; rfl
 ·show m ∣ x - r.fmod m ↔ _
  rw [Int.fmod_eq_emod_of_nonneg _ h]
  have h1 : x - r % m = (x - r) + m * (r / m) := by have := Int.emod_add_mul_ediv r m; omega
  rw [h1]
  constructor
  ·intro q
   have := Int.dvd_sub q (Int.dvd_mul_right m (r / m))
   rwa [Int.add_sub_cancel] at this
  ·intro q
   exact Int.dvd_add q (Int.dvd_mul_right m (r / m))
theorem RestOk.nn {q : Int × Int} (h : RestOk q) : 0 ≤ q.1 := by rcases h with h | h <;> omega
theorem RestOk.self {q : Int × Int} (h : RestOk q) : ZaK q q.2 := by rw [Zbx h.nn]; simp
theorem ZgF {p q : Int × Int} (hp : RestOk p) (hq : RestOk q) (h : ∀ x, ZaK p x ↔ ZaK q x) : p = q := by
 have e1 : ∀ x, p.1 ∣ x - p.2 ↔ q.1 ∣ x - q.2 := fun x => by rw [← Zbx hp.nn, ← Zbx hq.nn]; exact h x
 have a1 : q.1 ∣ p.2 - q.2 := (e1 p.2).mp (by simp)
 have a2 : q.1 ∣ p.2 + p.1 - q.2 := (e1 (p.2 + p.1)).mp (by rw [show p.2 + p.1 - p.2 = p.1 by omega]; exact Int.dvd_refl _)
 have b1 : p.1 ∣ q.2 - p.2 := (e1 q.2).mpr (by simp)
 have b2 : p.1 ∣ q.2 + q.1 - p.2 := (e1 (q.2 + q.1)).mpr (by rw [show q.2 + q.1 - q.2 = q.1 by omega]; exact Int.dvd_refl _)
 have c1 : q.1 ∣ p.1 := by have := Int.dvd_sub a2 a1; rwa [show p.2 + p.1 - q.2 - (p.2 - q.2) = p.1 by omega] at this
 have c2 : p.1 ∣ q.1 := by have := Int.dvd_sub b2 b1; rwa [show q.2 + q.1 - p.2 - (q.2 - p.2) = q.1 by omega] at this
 have em : p.1 = q.1 := Int.dvd_antisymm hp.nn hq.nn c2 c1
 have er : p.2 = q.2 := by
  rcases hp with hp | hp
  ·rw [hp] at em
   rw [← em] at a1
   have := Int.zero_dvd.mp a1
   omega
  ·rcases hq with hq | hq
   ·omega
   ·rw [← em] at a1 hq
    obtain ⟨k, hk⟩ := a1
    have : k = 0 := by
     rcases Int.lt_trichotomy k 0 with h | h | h
     ·have : p.1 * k ≤ p.1 * (-1) := Int.mul_le_mul_of_nonneg_left (by omega) (by omega)
      omega
     ·exact h
     ·have : p.1 * 1 ≤ p.1 * k := Int.mul_le_mul_of_nonneg_left (by omega) (by omega)
      omega
    subst this
    simp at hk
    omega
 exact Prod.ext em er
noncomputable def RBd (k : Nat) (q : Int × Int) : Prop := Bd k q.1 ∧ Bd k q.2
theorem Zg3 {m r : Int} {k : Nat} (h0 : 0 ≤ m) (hm : Bd k m) (hr : Bd k r) : RBd k (ZaH m r) := Zgw h0 hm hr
noncomputable def Zbq (p q : Int × Int) : Int × Int := ZaH (Int.gcd p.1 q.1) (p.2 + q.2)
theorem Zhb (p q : Int × Int) : RestOk (Zbq p q) := ZcE (by omega) _
theorem Zi3 {p q : Int × Int} {k : Nat} (hk : k ≤ 200000) (hp : Bd k p.1) (hq : Bd k q.1) : ZeA [Z4 p, Z4 q] = some (Z4 (Zbq p q)) := by
 apply Pk.eq
 unfold ZeA Zjf Z4 Zbq
 walk_at "zz"
 refine ZT (ZmA (Za4 hp hk) (Za4 hq hk)) ?_
 walk_at "zz"
 exact ZT (Zi2 (by omega)) rfl
noncomputable def ZcM (p : Int × Int) (k : Int) : Int × Int := ZaH (p.1 * Zbl k) (p.2 * k)
theorem Zl6 {p : Int × Int} {c : Int} {k : Nat} (hk : k ≤ 200000) (hp0 : 0 ≤ p.1) (hp : RBd k p) (hc : Bd k c) : Zfa [Z4 p, .int c] = some (Z4 (ZcM p c)) := by
 apply Pk.eq
 unfold Zfa ZiO Z4 ZcM
 have ha : Bd k (Zbl c) := by unfold Bd at *; rw [Zk8]; exact hc
 walk_at "zz"
 refine ZbE (ZbQ hp.1 ha (by omega) (by omega)) ?_
 walk_at "zz"
 refine ZbE (ZbQ hp.2 hc (by omega) (by omega)) ?_
 walk_at "zz"
 exact ZT (Zi2 (Int.mul_nonneg hp0 (ZcX c))) rfl
noncomputable def Zdd (p : Int × Int) (top : Int) : Option Int := if p.1 = 0 then (if p.2 ≤ top then some p.2 else none) else some (top - (top - p.2) % p.1)
theorem Zpc {p : Int × Int} {top : Int} (hp : 0 ≤ p.1) : Zgr [Z4 p, .int top] = some (oT (Zdd p top)) := by
 apply Pk.eq
 unfold Zgr ZiS Z4 Zdd
 by_cases c : p.1 = 0
 ·rw [if_pos c]
  by_cases d : p.2 ≤ top
  ·walk_at "zz"
   rw [if_pos d]; rfl
  ·walk_at "zz"
   rw [if_neg d]; rfl
 ·rw [if_neg c]
  walk_at "zz"
  rw [Int.fmod_eq_emod_of_nonneg _ hp]
  rfl
noncomputable def oR : Option (Int × Int) → T
 | none => .none
 | some q => Z4 q
noncomputable def Met (p q : Int × Int) (o : Option (Int × Int)) : Prop := match o with
 | none => ∀ x, ¬ (ZaK p x ∧ ZaK q x)
 | some r => RestOk r ∧ (∀ x, ZaK r x ↔ ZaK p x ∧ ZaK q x)
theorem Zqr {p q : Int × Int} {a b : Option (Int × Int)} (ha : Met p q a) (hb : Met p q b) : a = b := by
 cases a with
 | none =>
  cases b with
  | none => rfl
  | some r => exact absurd ((hb.2 r.2).mp hb.1.self) (ha r.2)
 | some s =>
  cases b with
  | none => exact absurd ((ha.2 s.2).mp ha.1.self) (hb s.2)
  | some r => rw [ZgF ha.1 hb.1 fun x => (ha.2 x).trans (hb.2 x).symm]
theorem Zml {p q : Int × Int} {k : Nat} (hk : k ≤ 8000) (op : RestOk p) (oq : RestOk q) (bp : RBd k p) (bq : RBd k q) : Pk (ZgL [Z4 p, Z4 q]) fun t => ∃ o, t = oR o ∧ Met p q o ∧ ∀ r, o = some r → (r = p ∨ r = q ∨ (p.1 ≠ 0 ∧ q.1 ≠ 0 ∧ r.1 = Int.lcm p.1 q.1)) := by
 unfold ZgL ZjU
 have ep : Z4 p = .tup [.int p.1, .int p.2] := rfl
 have eq : Z4 q = .tup [.int q.1, .int q.2] := rfl
 have np := op.nn
 have nq := oq.nn
 by_cases c1 : p.1 = 0
 ·rw [ep]
  walk_at "zz"
  refine ZT (Zmk oq) ?_
  walk_at "zz"
  have hone : ∀ x, ZaK p x ↔ x = p.2 := fun x => by rw [Zbx np, c1, Int.zero_dvd]; omega
  refine ⟨fun e => ?_, fun e => ?_⟩
  ·walk_at "zz"
   refine ⟨some p, rfl, ⟨op, fun x => ⟨fun h => ⟨h, ?_⟩, fun h => h.1⟩⟩, fun r e => by cases e; exact .inl rfl⟩
   rw [(hone x).mp h]; exact dec_iff.mp e
  ·walk_at "zz"
   refine ⟨none, rfl, fun x h => ?_, by simp⟩
   have := (hone x).mp h.1
   subst this
   have h2 := Zbi h.2
   rw [h2] at e
   cases e
 by_cases c2 : q.1 = 0
 ·have hone : ∀ x, ZaK q x ↔ x = q.2 := fun x => by rw [Zbx nq, c2, Int.zero_dvd]; omega
  rw [ep, eq]
  walk_at "zz"
  rw [← ep]
  refine ZT (Zmk op) ?_
  walk_at "zz"
  refine ⟨fun e => ?_, fun e => ?_⟩
  ·walk_at "zz"
   refine ⟨some q, rfl, ⟨oq, fun x => ⟨fun h => ⟨?_, h⟩, fun h => h.2⟩⟩, fun r e => by cases e; exact .inr (.inl rfl)⟩
   rw [(hone x).mp h]; exact dec_iff.mp e
  ·walk_at "zz"
   refine ⟨none, rfl, fun x h => ?_, by simp⟩
   have := (hone x).mp h.2
   subst this
   have h2 := Zbi h.1
   rw [h2] at e
   cases e
 ·have pp : 0 < p.1 := by omega
  have pq : 0 < q.1 := by omega
  obtain ⟨g, hg⟩ : ∃ g : Nat, Int.gcd p.1 q.1 = g := ⟨_, rfl⟩
  have hg0 : 0 < (g : Int) := by
   have : Int.gcd p.1 q.1 ≠ 0 := fun h => c1 (Int.gcd_eq_zero_iff.mp h).1
   omega
  have gp : (g : Int) ∣ p.1 := by rw [← hg]; exact Int.gcd_dvd_left ..
  have gq : (g : Int) ∣ q.1 := by rw [← hg]; exact Int.gcd_dvd_right ..
  obtain ⟨a, ea⟩ := gp
  obtain ⟨b, eb⟩ := gq
  have ha : 0 < a := by
   rcases Int.lt_trichotomy a 0 with h | h | h
   ·have := Int.mul_neg_of_pos_of_neg hg0 h; omega
   ·subst h; simp at ea; omega
   ·exact h
  have hb : 0 < b := by
   rcases Int.lt_trichotomy b 0 with h | h | h
   ·have := Int.mul_neg_of_pos_of_neg hg0 h; omega
   ·subst h; simp at eb; omega
   ·exact h
  have da : p.1 / g = a := by rw [ea]; exact Int.mul_ediv_cancel_left _ (by omega)
  have db : q.1 / g = b := by rw [eb]; exact Int.mul_ediv_cancel_left _ (by omega)
  have kg : Bd k (g : Int) := ZcP bp.1 (by omega) (by
   rw [ea]
   have : (g : Int) * 1 ≤ g * a := Int.mul_le_mul_of_nonneg_left (by omega) (by omega)
   omega)
  have kb : Bd k b := ZcP bq.1 (by omega) (by
   rw [eb]
   have : 1 * b ≤ g * b := Int.mul_le_mul_of_nonneg_right (by omega) (by omega)
   omega)
  have cop : Int.gcd a b = 1 := by
   have h1 := Int.gcd_mul_left (g : Int) a b
   rw [← ea, ← eb, hg, Int.natAbs_natCast] at h1
   have h2 : g * 1 = g * Int.gcd a b := by omega
   exact (Nat.eq_of_mul_eq_mul_left (by omega) h2).symm
  rw [ep, eq]
  walk_at "zz"
  refine ZT (ZmA (Za4 bp.1 (by omega)) (Za4 bq.1 (by omega))) ?_
  rw [hg]
  walk_at "zz"
  rw [Int.fmod_eq_emod_of_nonneg _ (by omega)]
  by_cases c3 : (q.2 - p.2) % (g : Int) = 0
  ·obtain ⟨d, ed⟩ := Int.dvd_of_emod_eq_zero c3
   have dd : (q.2 - p.2) / g = d := by rw [ed]; exact Int.mul_ediv_cancel_left _ (by omega)
   have kd : Bd (k + 1) d := by
    have h1 : Bd (k + 1) (q.2 - p.2) := Bd.sub bq.2 bp.2
    unfold Bd at *
    rw [ed, Int.natAbs_mul] at h1
    have : 1 * d.natAbs ≤ (g : Int).natAbs * d.natAbs := Nat.mul_le_mul_right _ (by omega)
    omega
   walk_at "zz"
   refine Zdu (by omega) (Zeb kg (by omega)) ?_
   rw [Int.fdiv_eq_ediv_of_nonneg _ (by omega), db]
   walk_at "zz"
   refine Zdu (by omega) (Zeb kg (by omega)) ?_
   rw [Int.fdiv_eq_ediv_of_nonneg _ (by omega), dd]
   walk_at "zz"
   refine Zdu (by omega) (Zeb kg (by omega)) ?_
   rw [Int.fdiv_eq_ediv_of_nonneg _ (by omega), da]
   walk_at "zz"
   refine (Zqq hb kb hk (by omega) cop).mono ?_
   rintro _ ⟨y, rfl, y0, y1, z, hz⟩
   have ky : Bd k y := ZcP kb y0 (by omega)
   walk_at "zz"
   refine ZbE (ZbQ kd ky (by omega) (by omega)) ?_
   walk_at "zz"
   refine ZbE (ZbQ bp.1 kb (by omega) (by omega)) ?_
   walk_at "zz"
   refine ZbE (ZbQ bp.1 (Bd.mul kd ky) (by omega) (by omega)) ?_
   walk_at "zz"
   have hL : (p.1 * b).natAbs = Int.lcm p.1 q.1 := by
    have h1 := Int.gcd_mul_lcm p.1 q.1
    rw [hg] at h1
    have h2 : p.1.natAbs * q.1.natAbs = g * (p.1 * b).natAbs := by
     rw [Int.natAbs_mul]
     conv => lhs; rw [show q.1.natAbs = g * b.natAbs by rw [eb, Int.natAbs_mul, Int.natAbs_natCast]]
     rw [← Nat.mul_assoc, Nat.mul_comm p.1.natAbs g, Nat.mul_assoc]
    have h3 : g * Int.lcm p.1 q.1 = g * (p.1 * b).natAbs := by omega
    exact (Nat.eq_of_mul_eq_mul_left (by omega) h3).symm
   have hpb : 0 < p.1 * b := Int.mul_pos pp hb
   refine ZT (Zi2 (by omega)) ⟨some _, rfl, ⟨ZcE (by omega) _, fun x => ?_⟩, fun r e => ?_⟩
   ·rw [Zc4 (by omega), Zbx np, Zbx nq]
    have hx0 : p.1 * (d * y) = (q.2 - p.2) + q.1 * (d * z) := by
     rw [ed, ea, eb]
     have : (g : Int) * a * (d * y) = g * d * (a * y) := by
      rw [Int.mul_assoc, Int.mul_assoc, Int.mul_left_comm a d y]
     rw [this, hz, Int.mul_add, Int.mul_one]
     congr 1
     rw [Int.mul_assoc, Int.mul_assoc, Int.mul_left_comm d b z]
    constructor
    ·intro h
     have h1 : p.1 ∣ x - (p.2 + p.1 * (d * y)) := Int.dvd_trans (Int.dvd_mul_right _ _) h
     have h2 : q.1 ∣ x - (p.2 + p.1 * (d * y)) := Int.dvd_trans ⟨a, by rw [ea, eb]; rw [Int.mul_assoc, Int.mul_assoc, Int.mul_comm a b]⟩ h
     refine ⟨?_, ?_⟩
     ·have := Int.dvd_add h1 (Int.dvd_mul_right p.1 (d * y))
      rwa [show x - (p.2 + p.1 * (d * y)) + p.1 * (d * y) = x - p.2 by omega] at this
     ·have := Int.dvd_add h2 (Int.dvd_mul_right q.1 (d * z))
      rwa [show x - (p.2 + p.1 * (d * y)) + q.1 * (d * z) = x - q.2 by omega] at this
    ·rintro ⟨h1, h2⟩
     have h3 : p.1 ∣ x - (p.2 + p.1 * (d * y)) := by
      have := Int.dvd_sub h1 (Int.dvd_mul_right p.1 (d * y))
      rwa [show x - p.2 - p.1 * (d * y) = x - (p.2 + p.1 * (d * y)) by omega] at this
     have h4 : q.1 ∣ x - (p.2 + p.1 * (d * y)) := by
      have := Int.dvd_sub h2 (Int.dvd_mul_right q.1 (d * z))
      rwa [show x - q.2 - q.1 * (d * z) = x - (p.2 + p.1 * (d * y)) by omega] at this
     have h5 := Int.lcm_dvd (Int.dvd_natAbs.mpr h3) (Int.dvd_natAbs.mpr h4)
     rw [← hL] at h5
     have h6 : (((p.1 * b).natAbs : Nat) : Int) ∣ (((x - (p.2 + p.1 * (d * y))).natAbs : Nat) : Int) := Int.natCast_dvd_natCast.mpr h5
     exact Int.natAbs_dvd.mp (Int.dvd_natAbs.mp h6)
   ·cases e
    refine .inr (.inr ⟨c1, c2, ?_⟩)
    unfold ZaH
    rw [if_neg (by omega)]
    show p.1 * b = _
    rw [← hL]
    omega
  ·walk_at "zz"
   refine ⟨none, rfl, fun x h => c3 ?_, by simp⟩
   rw [Zbx np, Zbx nq] at h
   have h1 : (g : Int) ∣ x - p.2 := Int.dvd_trans ⟨a, ea⟩ h.1
   have h2 : (g : Int) ∣ x - q.2 := Int.dvd_trans ⟨b, eb⟩ h.2
   have h3 := Int.dvd_sub h1 h2
   rw [show x - p.2 - (x - q.2) = q.2 - p.2 by omega] at h3
   exact Int.emod_eq_zero_of_dvd h3
end L
namespace L
open PySem PySem.W PyProof.Rows PM TM My
theorem Zue {k : Nat} {a b : Int} (ha : Bd k a) (hb : Bd k b) : Bd k ((Int.gcd a b : Nat) : Int) := by
 unfold Bd at *
 rw [Int.natAbs_natCast]
 by_cases z : a = 0
 ·rw [z, Int.gcd_zero_left]; exact hb
 ·exact Nat.lt_of_le_of_lt (Nat.gcd_le_left _ (by omega)) ha
end L
namespace L
open PySem PySem.W PyProof.Rows PM TM My
noncomputable def Zcc (a b : Option Int) : Option Int := if dec (leO a b) then a else b
noncomputable def Zas : Option Int → Option Int → Option Int
 | some a, some b => some (a + b)
 | _, _ => none
theorem addO_some {a b : Option Int} {c : Int} : Zas a b = some c ↔ ∃ x y, a = some x ∧ b = some y ∧ x + y = c := by
 cases a <;> cases b <;> simp [Zas]
theorem leO_total {a b : Option Int} (h : ¬ leO a b) : leO b a := by
 cases a with
 | none => exact ZeN
 | some x =>
  cases b with
  | none => exact absurd ZeN h
  | some y => rw [leO_some] at h ⊢; omega
theorem ZlF {a b : Option Int} : leO (Zcc a b) a := by
 unfold Zcc
 split
 ·exact ZcH
 ·rename_i h; exact leO_total fun q => h (Zbi q)
theorem Zok {a b : Option Int} : leO (Zcc a b) b := by
 unfold Zcc
 split
 ·rename_i h; exact dec_iff.mp h
 ·exact ZcH
theorem ZfJ (a b : Option Int) : Zcc a b = a ∨ Zcc a b = b := by
 unfold Zcc; split <;> simp
theorem Zpv {a b : Option Int} (h : leO a b) (k : leO b a) : a = b := by
 cases a with
 | none =>
  cases b with
  | none => rfl
  | some y => exact absurd h Zln
 | some x =>
  cases b with
  | none => exact absurd k Zln
  | some y => rw [leO_some] at h k; rw [show x = y by omega]
theorem ZnM {a b : Option Int} (h : leO a b) : Zcc a b = a := by unfold Zcc; rw [Zbi h]; rfl
theorem ZeI {a b c d : Option Int} (h : leO a c) (k : leO b d) : leO (Zas a b) (Zas c d) := by
 intro y e
 obtain ⟨p, q, rfl, rfl, rfl⟩ := addO_some.mp e
 obtain ⟨p', rfl, l1⟩ := h p rfl
 obtain ⟨q', rfl, l2⟩ := k q rfl
 exact ⟨p' + q', rfl, by omega⟩
theorem Zol {a : Option Int} : Zas a (some 0) = a := by cases a <;> simp [Zas]
theorem Zom {a : Option Int} : Zas (some 0) a = a := by cases a <;> simp [Zas]
theorem Zfl {a b c : Option Int} : Zas (Zas a b) c = Zas a (Zas b c) := by cases a <;> cases b <;> cases c <;> simp [Zas, Int.add_assoc]
theorem Zfh {a b : Option Int} : ZdH [oT a, oT b] = some (oT (Zas a b)) := by
 apply Pk.eq
 unfold ZdH ZjW
 cases a with
 | none =>
  rw [ZbI]
  walk_at "zz"
  rfl
 | some x =>
  cases b with
  | none =>
   rw [ZbI, ZaD]
   walk_at "zz"
   rfl
  | some y =>
   rw [ZaD, ZaD]
   walk_at "zz"
   rfl
theorem Zrk {a b : Option Int} : Zg9 [oT a, oT b] = some (oT (Zcc a b)) := by
 apply Pk.eq
 unfold Zg9 ZkW Zcc
 walk_at "zz"
 refine ZT Zpu ?_
 walk_at "zz"
 refine ⟨fun e => ?_, fun e => ?_⟩
 ·walk_at "zz"
  rw [e]; rfl
 ·walk_at "zz"
  rw [e]; rfl
noncomputable def ZbG (G : Nat → Nat → Option Int) (m : Nat) : Nat → Nat → Option Int := fun i j => Zcc (G i j) (Zas (G i m) (G m j))
theorem ZoB {n : Nat} {a b : Nat → Option Int} {c : Option Int} (hn : n < 10000) : Zgd [Zar n a, oT c, Zar n b] = some (Zar n fun j => Zcc (a j) (Zas c (b j))) := by
 apply Pk.eq
 unfold Zgd Zh2 Zar
 walk_at "zz"
 refine ZkS (n := n) (a := fun j => oT (a j)) (b := fun j => oT (b j)) (c := fun j => oT (Zcc (a j) (Zas c (b j)))) hn ?_ (fun j hj => ?_) ?_
 ·walk_at "zz"
  rfl
 ·walk_at "zz"
  refine ZT Zfh ?_
  walk_at "zz"
  exact ZT Zrk ⟨Zhn, rfl⟩
 rfl
theorem Zpw {n m : Nat} {G : Nat → Nat → Option Int} (hn : n < 10000) (hm : m < n) : ZgA [Zag n G, .int m] = some (Zag n (ZbG G m)) := by
 apply Pk.eq
 unfold ZgA Zjj Zag
 walk_at "zz"
 refine ZbR (n := n) (a := fun i => Zar n (G i)) (b := fun i => Zar n (ZbG G m i)) hn ?_ (fun i hi => ?_) ?_
 ·walk_at "zz"
  rfl
 ·have h : Zar n (G i) = .lst (tab n fun j => oT (G i j)) := rfl
  rw [h]
  walk_at "zz"
  rw [← h]
  exact ZT (ZoB hn) rfl
 rfl
noncomputable def Neg (n : Nat) (G : Nat → Nat → Option Int) : Prop := ∃ i, i < n ∧ ∃ b, G i i = some b ∧ b < 0
theorem Zsf {n : Nat} {G : Nat → Nat → Option Int} (hn : n ≤ 1000) (hd : ∀ i, i < n → ∃ b, G i i = some b) : Zgh [Zag n G] = some (.bool (dec (Neg n G))) := by
 apply Pk.eq
 unfold Zgh Zie Zag Zar
 walk_at "zz"
 refine ZbR (n := n) (a := fun i => .int i) (b := fun i => .bool (dec (∃ b, G i i = some b ∧ b < 0))) (by omega) ?_ (fun i hi => ?_) ?_
 ·walk_at "zz"
  rfl
 ·walk_at "zz"
  obtain ⟨b, e⟩ := hd i hi
  rw [e, ZaD]
  walk_at "zz"
  rw [ZgG]
  congr 1
  refine Zko ⟨fun h => ⟨b, rfl, h⟩, ?_⟩
  rintro ⟨c, e, h⟩
  cases e
  exact h
 walk_at "zz"
 rfl
noncomputable def Z8 (G : Nat → Nat → Option Int) : Nat → Nat → Nat → Option Int
 | 0 => G
 | m + 1 => ZbG (Z8 G m) m
theorem Znf {G : Nat → Nat → Option Int} {m i : Nat} (h : ∃ b, G i i = some b) : ∃ b, ZbG G m i i = some b := by
 obtain ⟨b, e⟩ := h
 have := ZlF (a := G i i) (b := Zas (G i m) (G m i))
 rw [e] at this
 obtain ⟨c, e2, _⟩ := this b rfl
 exact ⟨c, by unfold ZbG; rw [e]; exact e2⟩
theorem Zlp {n : Nat} {G : Nat → Nat → Option Int} (hd : ∀ i, i < n → ∃ b, G i i = some b) : ∀ m i, i < n → ∃ b, Z8 G m i i = some b
 | 0 => hd
 | m + 1 => fun i hi => Znf (Zlp hd m i hi)
theorem Zrl {n : Nat} {G : Nat → Nat → Option Int} (h0 : 0 < n) (hn : n ≤ 1000) (hd : ∀ i, i < n → ∃ b, G i i = some b) : Pk (Zfy [Zag n G]) fun t => (t = Zag n (Z8 G n) ∧ ∀ m, m < n → ¬ Neg n (Z8 G (m + 1))) ∨ (t = .none ∧ ∃ m, m < n ∧ Neg n (Z8 G (m + 1))) := by
 unfold Zfy ZkY
 have hg : Zag n G = .lst (tab n fun i => Zar n (G i)) := rfl
 walk_at "zz"
 refine Zs7 (n := n) (a := fun i => .int i) h0 ?_ (P := fun i σ => σ 1 = some (Zag n (Z8 G i)) ∧ ∀ m, m < i → ¬ Neg n (Z8 G (m + 1))) ⟨rfl, by omega⟩ ?_ ?_
 ·walk_at "zz"
  rw [hg]
  walk_at "zz"
  rfl
 ·rintro i σ hi ⟨e1, e2⟩
  walk_at "zz"
  refine ZT (Zpw (by omega) hi) ?_
  walk_at "zz"
  refine ZT (Zsf hn fun a ha => Znf (Zlp hd i a ha)) ?_
  walk_at "zz"
  refine ⟨fun e => ?_, fun e => ?_⟩
  ·walk_at "zz"
   exact .inr ⟨rfl, i, hi, dec_iff.mp e⟩
  ·walk_at "zz"
   refine ⟨by walk_at "zr", fun m hm => ?_⟩
   by_cases q : m = i
   ·subst q
    intro h
    have h2 : dec (Neg n (ZbG (Z8 G m) m)) = true := Zbi h
    rw [h2] at e
    cases e
   ·exact e2 m (by omega)
 ·rintro σ ⟨e1, e2⟩
  walk_at "zz"
  exact .inl ⟨rfl, e2⟩
theorem ZlQ {G : Nat → Nat → Option Int} : ∀ m i j, leO (Z8 G m i j) (G i j)
 | 0 => fun _ _ => ZcH
 | m + 1 => fun i j => Zc5 ZlF (ZlQ m i j)
theorem Zd5 {n : Nat} {G : Nat → Nat → Option Int} (hd : ∀ i, i < n → G i i = some 0) {m : Nat} (hn : ∀ k, k < m → ¬ Neg n (Z8 G (k + 1))) : ∀ i, i < n → Z8 G m i i = some 0 := by
 intro i hi
 obtain ⟨b, e⟩ := Zlp (fun i hi => ⟨0, hd i hi⟩) m i hi
 have h := ZlQ m i i (G := G)
 rw [hd i hi, e] at h
 have h1 := leO_some.mp h
 have h2 : ¬ b < 0 := fun q => by
  cases m with
  | zero => have := hd i hi; rw [show Z8 G 0 i i = G i i from rfl, this] at e; cases e; omega
  | succ m => exact hn m (by omega) ⟨i, hi, b, e, q⟩
 rw [e, show b = 0 by omega]
theorem ZlG {n : Nat} {G : Nat → Nat → Option Int} (hd : ∀ i, i < n → G i i = some 0) : ∀ m, m ≤ n → (∀ k, k < m → ¬ Neg n (Z8 G (k + 1))) → ∀ k, k < m → ∀ i j, i < n → j < n → leO (Z8 G m i j) (Zas (Z8 G m i k) (Z8 G m k j))
 | 0, _, _, k, hk => by omega
 | m + 1, hm, hn, k, hk => by
  intro i j hi hj
  have z := Zd5 hd (fun k hk => hn k (by omega) : ∀ k, k < m → _)
  have ih := ZlG hd m (by omega) (fun k hk => hn k (by omega))
  generalize hD : Z8 G m = D at z ih
  have hs : Z8 G (m + 1) = ZbG D m := by rw [← hD]; rfl
  rw [hs]
  have zm := z m (by omega)
  have cm : ∀ a, ZbG D m a m = D a m := fun a => by unfold ZbG; rw [zm, Zol]; exact ZnM ZcH
  have rm : ∀ b, ZbG D m m b = D m b := fun b => by unfold ZbG; rw [zm, Zom]; exact ZnM ZcH
  by_cases q : k = m
  ·subst q
   rw [cm, rm]
   exact Zok
  ·have hk' : k < m := by omega
   have t1 := ih k hk' i j hi hj
   have t2 := ih k hk' i m hi (by omega)
   have t3 := ih k hk' m j (by omega) hj
   have t4 := ih k hk' m m (by omega) (by omega)
   rw [zm] at t4
   have dn : leO (ZbG D m i j) (Zas (D i m) (D m j)) := Zok
   have d0 : leO (ZbG D m i j) (D i j) := ZlF
   rcases ZfJ (D i k) (Zas (D i m) (D m k)) with e1 | e1 <;> rcases ZfJ (D k j) (Zas (D k m) (D m j)) with e2 | e2
   ·rw [show ZbG D m i k = _ from e1, show ZbG D m k j = _ from e2]
    exact Zc5 d0 t1
   ·rw [show ZbG D m i k = _ from e1, show ZbG D m k j = _ from e2, ← Zfl]
    exact Zc5 dn (ZeI t2 ZcH)
   ·rw [show ZbG D m i k = _ from e1, show ZbG D m k j = _ from e2, Zfl]
    exact Zc5 dn (ZeI ZcH t3)
   ·rw [show ZbG D m i k = _ from e1, show ZbG D m k j = _ from e2, Zfl, ← Zfl (a := D m k)]
    refine Zc5 dn (ZeI ZcH ?_)
    have := ZeI t4 (ZcH (a := D m j))
    rwa [Zom] at this
noncomputable def Zf1 (n : Nat) (G : Nat → Nat → Option Int) (y : Nat → Int) : Prop := ∀ i j, i < n → j < n → ∀ b, G i j = some b → y i - y j ≤ b
theorem Zk9 {n : Nat} {G : Nat → Nat → Option Int} {y : Nat → Int} (h : Zf1 n G y) : ∀ m, m ≤ n → Zf1 n (Z8 G m) y
 | 0, _ => h
 | m + 1, hm => by
  have ih := Zk9 h m (by omega)
  intro i j hi hj b e
  rcases ZfJ (Z8 G m i j) (Zas (Z8 G m i m) (Z8 G m m j)) with e1 | e1
  ·rw [show Z8 G (m + 1) i j = _ from e1] at e; exact ih i j hi hj b e
  ·rw [show Z8 G (m + 1) i j = _ from e1] at e
   obtain ⟨p, q, h1, h2, h3⟩ := addO_some.mp e
   have := ih i m hi (by omega) p h1
   have := ih m j (by omega) hj q h2
   omega
theorem Zrm {n : Nat} {G : Nat → Nat → Option Int} {y : Nat → Int} (h : Zf1 n G y) : ¬ Neg n G := by
 rintro ⟨i, hi, b, e, hb⟩
 have := h i i hi hi b e
 omega
theorem ZmB {n : Nat} {G : Nat → Nat → Option Int} {R : Nat → Int × Int} {x : Nat → Int} (h : Za5 n G R x) : Zf1 (n + 1) G (ZaP x) := fun i j hi hj b e => h.1 i j hi hj b e
theorem ZkG {k : Int} : ZeB [.int k] = some (.bool true) := by
 apply Pk.eq
 unfold ZeB Zjl
 walk_at "zz"
 rfl
theorem Zte {n : Nat} {G : Nat → Nat → Option Int} (hn : n ≤ 1000) (hd : ∀ i, i < n → G i i = some 0) : ZgM [Zag n G, .int n] = some (.bool true) := by
 apply Pk.eq
 unfold ZgM ZjZ Zag Zar
 walk_at "zz"
 refine ZbL (n := n) (a := fun i => .int i) (P := fun i σ => σ 0 = some (Zag n G) ∧ σ 1 = some (.int n)) ?_ ⟨rfl, rfl⟩ ?_ ?_
 ·walk_at "zz"
  rfl
 ·rintro i σ hi ⟨e0, e1⟩
  unfold Zag Zar at e0
  walk_at "zz"
  refine ZbL (n := n) (a := fun j => oT (G i j)) (P := fun j σ => σ 0 = some (Zag n G) ∧ σ 1 = some (.int n) ∧ σ 2 = some (.int i)) ?_ ⟨by walk_at "zr", by walk_at "zr", by walk_at "zr"⟩ ?_ ?_
  ·walk_at "zz"
   rfl
  ·rintro j σ hj ⟨f0, f1, f2⟩
   cases G i j with
   | none =>
    rw [ZbI]
    walk_at "zz"
    exact ⟨by walk_at "zr", by walk_at "zr", by walk_at "zr"⟩
   | some b =>
    rw [ZaD]
    walk_at "zz"
    refine ZT ZkG ?_
    walk_at "zz"
    exact ⟨by walk_at "zr", by walk_at "zr", by walk_at "zr"⟩
  ·rintro σ ⟨f0, f1, f2⟩
   unfold Zag Zar at f0
   walk_at "zz"
   rw [hd i hi, ZaD]
   walk_at "zz"
   exact ⟨by walk_at "zr", by walk_at "zr"⟩
 ·rintro σ ⟨e0, e1⟩
  walk_at "zz"
  rfl
end L
namespace L
open PySem PySem.W PyProof.Rows PM TM My
section
variable {Q : T → Prop}
theorem ZkH {p : PE} {σ : TL} {k : Nat} (h : Pk (p σ) fun t => ∃ ts, t = .lst ts ∧ Q (.lst (ts.drop k))) : Pk (Zdg p k σ) Q := by
 obtain ⟨_, e, ts, rfl, q⟩ := h
 exact ⟨_, by simp only [Zdg, e, Option.bind_some], q⟩
end
noncomputable abbrev Sp := Option Int × Option Int
noncomputable def spT (s : Sp) : T := .tup [oT s.1, oT s.2]
noncomputable def SBd (k : Nat) (s : Sp) : Prop := (∀ x, s.1 = some x → Bd k x) ∧ ∀ x, s.2 = some x → Bd k x
theorem Ztf {k : Nat} {x : Int} (h : Bd k x) : Bd k (Zbl x) := by unfold Zbl; unfold Bd at *; split <;> omega
noncomputable def InS (s : Sp) (x : Int) : Prop := (∀ l, s.1 = some l → l ≤ x) ∧ ∀ h, s.2 = some h → x ≤ h
theorem Zi4 {a : Option Int} {k : Int} {i : Nat} (hi : i ≤ 100000) (ha : ∀ x, a = some x → Bd i x) (hk : Bd i k) : ZeC [oT a, .int k] = some (oT (a.map fun x => x * k)) := by
 apply Pk.eq
 unfold ZeC Zjo
 cases a with
 | none =>
  simp only [ZbI, Option.map_none]
  walk_at "zz"
  rfl
 | some x =>
  simp only [ZaD, Option.map_some]
  walk_at "zz"
  refine ZbE (ZbQ (ha x rfl) hk (by omega) (by omega)) ?_
  rfl
noncomputable def Zck (s : Sp) (k : Int) : Sp := if k = 0 then (some 0, some 0) else if k < 0 then (s.2.map fun x => x * k, s.1.map fun x => x * k) else (s.1.map fun x => x * k, s.2.map fun x => x * k)
theorem ZoC {s : Sp} {k : Int} {i : Nat} (hi : i ≤ 100000) (hs : SBd i s) (hk : Bd i k) : Zge [spT s, .int k] = some (spT (Zck s k)) := by
 apply Pk.eq
 unfold Zge Zh5 Zck spT
 by_cases c : k = 0
 ·walk_at "zz"
  rw [if_pos c]
  rfl
 ·rw [if_neg c]
  walk_at "zz"
  refine ZT (Zi4 hi hs.1 hk) ?_
  walk_at "zz"
  refine ZT (Zi4 hi hs.2 hk) ?_
  by_cases d : k < 0
  ·walk_at "zz"
   rw [if_pos d]
  ·walk_at "zz"
   rw [if_neg d]
noncomputable def ZhR (s u : Sp) : Sp := (Zas s.1 u.1, Zas s.2 u.2)
theorem ZoJ {s u : Sp} : Zgi [spT s, spT u] = some (spT (ZhR s u)) := by
 apply Pk.eq
 unfold Zgi Zih spT
 walk_at "zz"
 refine ZT Zfh ?_
 walk_at "zz"
 refine ZT Zfh ?_
 walk_at "zz"
 rfl
noncomputable def ZbS (c : Nat → Int) (S : Nat → Sp) : Nat → Sp
 | 0 => (some (c 0), some (c 0))
 | j + 1 => ZhR (ZbS c S j) (Zck (S j) (c (j + 1)))
theorem Zla {n : Nat} {f : Nat → T} : (tab (n + 1) f).drop 1 = tab n fun i => f (i + 1) := by
 apply List.ext_getElem
 ·simp [tab]
 ·intro i h1 h2
  simp [tab]
theorem ZoW {n i : Nat} {c : Nat → Int} {S : Nat → Sp} (hn : n ≤ 100) (hi : i ≤ 100000) (bc : ∀ j, j < n + 1 → Bd i (c j)) (bS : ∀ j, j < n → SBd i (S j)) : Zgm [.lst (tab (n + 1) fun j => .int (c j)), .lst (tab n fun j => spT (S j))] = some (spT (ZbS c S n)) := by
 apply Pk.eq
 unfold Zgm Ziy
 walk_at "zz"
 refine Zhm (n := n) (a := fun j => .int (c (j + 1))) (c := fun j => spT (S j)) (P := fun j σ => σ 2 = some (spT (ZbS c S j))) ?_ rfl ?_ ?_
 ·refine ZlA ?_
  refine ZkH ?_
  walk_at "zz"
  refine ⟨_, rfl, ?_⟩
  rw [Zla]
  walk_at "zz"
  rfl
 ·rintro j σ hj e2
  walk_at "zz"
  refine ZT (ZoC hi (bS j hj) (bc (j + 1) (by omega))) ?_
  walk_at "zz"
  refine ZT ZoJ ?_
  walk_at "zz"
  exact Zb0
 ·rintro σ e2
  walk_at "zz"
  rfl
noncomputable def ZdY (c : Nat → Int) (R : Nat → Int × Int) : Nat → Int × Int
 | 0 => (0, c 0)
 | j + 1 => Zbq (ZdY c R j) (ZcM (R j) (c (j + 1)))
noncomputable def Zb5 (c : Nat → Int) (R : Nat → Int × Int) : Nat → Int
 | 0 => 0
 | j + 1 => Int.gcd (Zb5 c R j) (c (j + 1) * (R j).1)
noncomputable def Zcd (c : Nat → Int) (R : Nat → Int × Int) : Nat → Int
 | 0 => c 0
 | j + 1 => Zcd c R j + c (j + 1) * (R j).2
theorem ZfK (c : Nat → Int) (R : Nat → Int × Int) : ∀ j, 0 ≤ Zb5 c R j
 | 0 => by show (0 : Int) ≤ 0; decide
 | j + 1 => by show (0 : Int) ≤ ((Int.gcd _ _ : Nat) : Int); omega
theorem Zhu {c : Nat → Int} {R : Nat → Int × Int} {n i : Nat} (bc : ∀ j, j < n + 1 → Bd i (c j)) (bR : ∀ j, j < n → RBd i (R j)) : ∀ j, j ≤ n → Bd (i + i) (Zb5 c R j)
 | 0, _ => ZdX
 | j + 1, h => Zue (Zhu bc bR j (by omega)) ((bc (j + 1) (by omega)).mul (bR j (by omega)).1)
theorem ZnN {c : Nat → Int} {R : Nat → Int × Int} {n i : Nat} (bc : ∀ j, j < n + 1 → Bd i (c j)) (bR : ∀ j, j < n → RBd i (R j)) : ∀ j, j ≤ n → Bd (i + i + j) (Zcd c R j)
 | 0, _ => (bc 0 (by omega)).mono (by omega)
 | j + 1, h => (ZnN bc bR j (by omega)).add (((bc (j + 1) (by omega)).mul (bR j (by omega)).2).mono (by omega))
theorem Zpx {m a b : Int} (h : 0 ≤ m) (hd : m ∣ a - b) : ZaH m a = ZaH m b := by
 refine ZgF (ZcE h _) (ZcE h _) fun x => ?_
 rw [Zc4 h, Zc4 h]
 constructor
 ·intro q
  have := Int.dvd_add q hd
  rwa [show x - a + (a - b) = x - b by omega] at this
 ·intro q
  have := Int.dvd_sub q hd
  rwa [show x - b - (a - b) = x - a by omega] at this
theorem ZmC {m r : Int} (h : 0 ≤ m) : m ∣ (ZaH m r).2 - r := by
 have := (Zc4 (r := r) h (ZaH m r).2).mp (ZcE h r).self
 exact this
theorem ZgU {m r : Int} : (ZaH m r).1 = m := by
 unfold ZaH
 split
 ·rename_i h; exact h.symm
 ·rfl
theorem ZeS {c : Nat → Int} {R : Nat → Int × Int} {n : Nat} (ok : ∀ j, j < n → RestOk (R j)) : ∀ j, j ≤ n → ZdY c R j = ZaH (Zb5 c R j) (Zcd c R j)
 | 0, _ => rfl
 | j + 1, h => by
  have ih := ZeS (c := c) ok j (by omega)
  have h0 := ZfK c R j
  have hr := (ok j (by omega)).nn
  show Zbq (ZdY c R j) (ZcM (R j) (c (j + 1))) = _
  rw [ih]
  unfold Zbq ZcM
  rw [ZgU, ZgU]
  have hab : 0 ≤ (R j).1 * Zbl (c (j + 1)) := Int.mul_nonneg hr (ZcX _)
  have eg : ((Int.gcd (Zb5 c R j) ((R j).1 * Zbl (c (j + 1))) : Nat) : Int) = Zb5 c R (j + 1) := by
   show _ = ((Int.gcd (Zb5 c R j) (c (j + 1) * (R j).1) : Nat) : Int)
   congr 1
   unfold Int.gcd
   rw [Int.natAbs_mul, Int.natAbs_mul, Zk8, Nat.mul_comm]
  rw [eg]
  have h1 : Zb5 c R (j + 1) ∣ Zb5 c R j := Int.gcd_dvd_left ..
  have h2 : Zb5 c R (j + 1) ∣ (R j).1 * Zbl (c (j + 1)) := by rw [← eg]; exact Int.gcd_dvd_right ..
  refine Zpx (ZfK _ _ _) ?_
  have a1 := Int.dvd_trans h1 (ZmC (r := Zcd c R j) h0)
  have a2 := Int.dvd_trans h2 (ZmC (r := (R j).2 * c (j + 1)) hab)
  have := Int.dvd_add a1 a2
  rw [show Zcd c R (j + 1) = Zcd c R j + c (j + 1) * (R j).2 from rfl, Int.mul_comm (c (j + 1))]
  generalize (ZaH (Zb5 c R j) (Zcd c R j)).2 = u at *
  generalize (ZaH ((R j).1 * Zbl (c (j + 1))) ((R j).2 * c (j + 1))).2 = v at *
  generalize (R j).2 * c (j + 1) = z at *
  rwa [show u - Zcd c R j + (v - z) = u + v - (Zcd c R j + z) by omega] at this
theorem ZpT {n i : Nat} {c : Nat → Int} {R : Nat → Int × Int} (hn : n ≤ 100) (hi : 1 ≤ i) (hi2 : i ≤ 1000) (bc : ∀ j, j < n + 1 → Bd i (c j)) (bR : ∀ j, j < n → RBd i (R j)) (ok : ∀ j, j < n → RestOk (R j)) : ZgN [.lst (tab (n + 1) fun j => .int (c j)), .lst (tab n fun j => Z4 (R j))] = some (Z4 (ZdY c R n)) := by
 apply Pk.eq
 unfold ZgN Zj2
 walk_at "zz"
 refine Zhm (n := n) (a := fun j => .int (c (j + 1))) (c := fun j => Z4 (R j)) (P := fun j σ => σ 2 = some (Z4 (ZdY c R j))) ?_ rfl ?_ ?_
 ·refine ZlA ?_
  refine ZkH ?_
  walk_at "zz"
  refine ⟨_, rfl, ?_⟩
  rw [Zla]
  walk_at "zz"
  rfl
 ·rintro j σ hj e2
  have hr := (ok j hj).nn
  have bt : Bd (i + i) (ZcM (R j) (c (j + 1))).1 := by
   unfold ZcM
   rw [ZgU]
   exact (bR j hj).1.mul (Ztf (bc (j + 1) (by omega)))
  have bv : Bd (i + i) (ZdY c R j).1 := by
   rw [ZeS ok j (by omega), ZgU]
   exact Zhu bc bR j (by omega)
  walk_at "zz"
  refine ZT (Zl6 (k := i) (by omega) hr (bR j hj) (bc (j + 1) (by omega))) ?_
  walk_at "zz"
  refine ZT (Zi3 (k := i + i) (by omega) bv bt) ?_
  walk_at "zz"
  exact Zb0
 ·rintro σ e2
  walk_at "zz"
  rfl
end L
namespace L
open PySem PySem.W PyProof.Rows PM TM My
end L
namespace L
open PySem PySem.W PyProof.Rows PM TM My
theorem Zrn {s : Sp} {x k : Int} (h : InS s x) : InS (Zck s k) (k * x) := by
 unfold Zck
 obtain ⟨a, b⟩ := s
 by_cases c : k = 0
 ·rw [if_pos c, c, Int.zero_mul]
  exact ⟨fun l e => by cases e; omega, fun l e => by cases e; omega⟩
 ·rw [if_neg c]
  by_cases d : k < 0
  ·rw [if_pos d]
   refine ⟨fun l e => ?_, fun l e => ?_⟩
   ·cases b with
    | none => cases e
    | some y =>
     cases e
     have := h.2 y rfl
     show y * k ≤ k * x
     rw [Int.mul_comm]
     exact Int.mul_le_mul_of_nonpos_left (a := k) (by omega) this
   ·cases a with
    | none => cases e
    | some y =>
     cases e
     have := h.1 y rfl
     show k * x ≤ y * k
     rw [Int.mul_comm y]
     exact Int.mul_le_mul_of_nonpos_left (a := k) (by omega) this
  ·rw [if_neg d]
   refine ⟨fun l e => ?_, fun l e => ?_⟩
   ·cases a with
    | none => cases e
    | some y =>
     cases e
     have := h.1 y rfl
     show y * k ≤ k * x
     rw [Int.mul_comm]
     exact Int.mul_le_mul_of_nonneg_left this (show 0 ≤ k by omega)
   ·cases b with
    | none => cases e
    | some y =>
     cases e
     have := h.2 y rfl
     show k * x ≤ y * k
     rw [Int.mul_comm y]
     exact Int.mul_le_mul_of_nonneg_left this (show 0 ≤ k by omega)
theorem Zsg {s u : Sp} {x y : Int} (h : InS s x) (k : InS u y) : InS (ZhR s u) (x + y) := by
 refine ⟨fun l e => ?_, fun l e => ?_⟩
 ·obtain ⟨a, b, h1, h2, rfl⟩ := addO_some.mp e
  have := h.1 a h1
  have := k.1 b h2
  omega
 ·obtain ⟨a, b, h1, h2, rfl⟩ := addO_some.mp e
  have := h.2 a h1
  have := k.2 b h2
  omega
end L
namespace L
open PySem PySem.W PyProof.Rows PM TM My
noncomputable def ZN (R : Nat → Int × Int) : Nat → Int × Int := cn (0, 0) R
theorem ZlR (R : Nat → Int × Int) : cn (T.tup [.int 0, .int 0]) (fun i => Z4 (R i)) = fun i => Z4 (ZN R i) := by
 funext i; cases i <;> rfl
theorem Zl5 {n : Nat} {R : Nat → Int × Int} (hn : n < 9000) : Zey [ZaT n R] = some (ZaT (n + 1) (ZN R)) := by
 apply Pk.eq
 unfold Zey ZiA ZaT
 walk_at "zz"
 rw [ZlR]
noncomputable def RB (M : Int) (k : Nat) (q : Int × Int) : Prop := RestOk q ∧ (q.1 = 0 ∨ q.1 ∣ M) ∧ Bd k q.2
theorem RB.mono {M : Int} {i j : Nat} {q : Int × Int} (h : RB M i q) (hij : i ≤ j) : RB M j q := ⟨h.1, h.2.1, h.2.2.mono hij⟩
theorem RB.bd {M : Int} {k : Nat} {q : Int × Int} (hM : 0 < M) (bM : Bd k M) (h : RB M k q) : RBd k q := by
 refine ⟨?_, h.2.2⟩
 rcases h.2.1 with e | e
 ·rw [e]; exact ZdX
 ·exact ZcP bM h.1.nn (Int.le_of_dvd hM e)
theorem ZcV {M : Int} {k n : Nat} {R : Nat → Int × Int} (h : ∀ t, t < n → RB M k (R t)) : ∀ i, i < n + 1 → RB M k (ZN R i)
 | 0, _ => ⟨.inl rfl, .inl rfl, ZdX⟩
 | i + 1, hi => h i (by omega)
noncomputable def Zct (n : Nat) (G : Nat → Nat → Option Int) (R : Nat → Int × Int) (i : Nat) (m : Nat) (x : Int) : Prop := ZaK (ZN R i) x ∧ ∀ j, j < m → ∀ a b, G i j = some a → G j i = some b → a + b = 0 → ZaK (ZN R j) (x - a)
noncomputable def ZcN (n : Nat) (G : Nat → Nat → Option Int) (R : Nat → Int × Int) (M : Int) (k : Nat) (i m : Nat) (o : Option (Int × Int)) : Prop := match o with
 | none => ∀ x, ¬ Zct n G R i m x
 | some q => RB M k q ∧ ∀ x, ZaK q x ↔ Zct n G R i m x
theorem Zmm {q : Int × Int} (h : RestOk q) (a x : Int) : ZaK (Zbq q (0, a)) x ↔ ZaK q (x - a) := by
 unfold Zbq
 rw [Zc4 (by omega), Zbx h.nn]
 simp only [Int.gcd_zero_right]
 rw [Int.natAbs_of_nonneg h.nn, show x - (q.2 + a) = x - a - q.2 by omega]
theorem ZoK {n i k : Nat} {G : Nat → Nat → Option Int} {R : Nat → Int × Int} {M : Int} (hn : n ≤ 100) (hi : i < n + 1) (hk : k ≤ 7000) (hM : 0 < M) (bM : Bd k M) (bG : ∀ a b c, a < n + 1 → b < n + 1 → G a b = some c → Bd k c) (hR : ∀ t, t < n → RB M k (R t)) : Pk (ZdZ [Zag (n + 1) G, ZaT (n + 1) (ZN R), .int i]) fun t => ∃ o, t = oR o ∧ ZcN n G R M (k + 1) i (n + 1) o := by
 unfold ZdZ Zij
 have hF := ZcV hR
 have bM1 : Bd (k + 1) M := bM.mono (by omega)
 have hr : ZaT (n + 1) (ZN R) = .lst (tab (n + 1) fun i => Z4 (ZN R i)) := rfl
 rw [hr]
 walk_at "zz"
 refine Zhm (n := n + 1) (a := fun j => .int j) (c := fun j => Z4 (ZN R j)) (P := fun m σ => ∃ o, σ 0 = some (Zag (n + 1) G) ∧ σ 1 = some (.lst (tab (n + 1) fun i => Z4 (ZN R i))) ∧ σ 2 = some (.int i) ∧ σ 3 = some (oR o) ∧ ZcN n G R M (k + 1) i m o) ?_ ⟨some (ZN R i), by walk_at "zr", by walk_at "zr", by walk_at "zr", by walk_at "zr", (hF i hi).mono (by omega), fun x => ⟨fun h => ⟨h, by omega⟩, fun h => h.1⟩⟩ ?_ ?_
 ·walk_at "zz"
  rfl
 ·rintro j σ hj ⟨o, e0, e1, e2, e3, ho⟩
  unfold Zag Zar at e0
  cases o with
  | none =>
   have e3' : σ 3 = some .none := e3
   clear e3
   walk_at "zz"
   refine ⟨none, by walk_at "zr", by walk_at "zr", by walk_at "zr", by walk_at "zr", fun x h => ho x ⟨h.1, fun j' hj' => h.2 j' (by omega)⟩⟩
  | some q =>
   have e3' : σ 3 = some (.tup [.int q.1, .int q.2]) := e3
   clear e3
   walk_at "zz"
   refine ZT Zfh ?_
   walk_at "zz"
   refine ZfL (Zf0 (n := 0)) (.int (n := 0)) ?_
   walk_at "zz"
   have stay : (∀ a b, G i j = some a → G j i = some b → ¬ a + b = 0) → ZcN n G R M (k + 1) i (j + 1) (some q) := fun h => ⟨ho.1, fun x => (ho.2 x).trans ⟨fun hx => ⟨hx.1, fun j' hj' a b ha hb hab => by
     by_cases q' : j' = j
     ·subst q'; exact absurd hab (h a b ha hb)
     ·exact hx.2 j' (by omega) a b ha hb hab⟩, fun hx => ⟨hx.1, fun j' hj' => hx.2 j' (by omega)⟩⟩⟩
   refine ⟨fun e => ?_, fun e => ?_⟩
   ·have e' := dec_iff.mp e
    rw [← ZaD, oT_inj] at e'
    obtain ⟨a, b, ha, hb, hab⟩ := addO_some.mp e'
    walk_at "zz"
    rw [ha, ZaD]
    have hj2 := hF j hj
    have ba := bG i j a hi hj ha
    refine ZT (Zi3 (p := ZN R j) (q := (0, a)) (k := k) (by omega) (hj2.bd hM bM).1 ZdX) ?_
    have hpl : RB M (k + 1) (Zbq (ZN R j) (0, a)) := by
     refine ⟨Zhb _ _, ?_, ?_⟩
     ·unfold Zbq ZaH
      simp only [Int.gcd_zero_right]
      rw [Int.natAbs_of_nonneg hj2.1.nn]
      split
      ·exact .inl rfl
      ·exact hj2.2.1
     ·have hm := (hj2.bd hM bM).1
      refine (Zg3 (k := k + 1) (by omega) ?_ (Bd.add hj2.2.2 ba)).2
      simp only [Int.gcd_zero_right]
      rw [Int.natAbs_of_nonneg hj2.1.nn]
      exact hm.mono (by omega)
    walk_at "zz"
    refine (Zml (p := q) (q := Zbq (ZN R j) (0, a)) (k := k + 1) (by omega) ho.1.1 hpl.1 (ho.1.bd hM bM1) (hpl.bd hM bM1)).mono ?_
    rintro _ ⟨o', rfl, mt, wh⟩
    refine ⟨o', by walk_at "zr", by walk_at "zr", by walk_at "zr", by walk_at "zr", ?_⟩
    have hset : ∀ x, (ZaK q x ∧ ZaK (Zbq (ZN R j) (0, a)) x) ↔ Zct n G R i (j + 1) x := fun x => by
     rw [ho.2 x, Zmm hj2.1]
     constructor
     ·rintro ⟨h1, h2⟩
      refine ⟨h1.1, fun j' hj' c d hc hd hcd => ?_⟩
      by_cases q' : j' = j
      ·subst q'; rw [ha] at hc; cases hc; exact h2
      ·exact h1.2 j' (by omega) c d hc hd hcd
     ·intro h
      exact ⟨⟨h.1, fun j' hj' => h.2 j' (by omega)⟩, h.2 j (by omega) a b ha hb hab⟩
    cases o' with
    | none => exact fun x hx => mt x ((hset x).mpr hx)
    | some r =>
     refine ⟨⟨mt.1, ?_, ?_⟩, fun x => (mt.2 x).trans (hset x)⟩
     ·rcases wh r rfl with h | h | ⟨h1, h2, h3⟩
      ·rw [h]; exact ho.1.2.1
      ·rw [h]; exact hpl.2.1
      ·right
       rw [h3]
       exact Int.coe_lcm_dvd (ho.1.2.1.resolve_left h1) (hpl.2.1.resolve_left h2)
     ·rcases wh r rfl with h | h | ⟨h1, h2, h3⟩
      ·rw [h]; exact ho.1.2.2
      ·rw [h]; exact hpl.2.2
      ·rcases mt.1 with z | z
       ·have : (Int.lcm q.1 (Zbq (ZN R j) (0, a)).1) ≠ 0 := Int.lcm_ne_zero h1 h2
        omega
       ·have hd : r.1 ∣ M := by
         rw [h3]
         exact Int.coe_lcm_dvd (ho.1.2.1.resolve_left h1) (hpl.2.1.resolve_left h2)
        exact ZcP bM1 z.2.1 (by have := Int.le_of_dvd hM hd; omega)
   ·walk_at "zz"
    refine ⟨some q, by walk_at "zr", by walk_at "zr", by walk_at "zr", by walk_at "zr", stay fun a b ha hb hab => ?_⟩
    have : dec (oT (Zas (G i j) (G j i)) = .int 0) = true := Zbi (by rw [ha, hb]; simp [Zas, oT, hab])
    rw [this] at e
    cases e
 ·rintro σ ⟨o, e0, e1, e2, e3, ho⟩
  walk_at "zz"
  exact ⟨o, rfl, ho⟩
theorem Zon : Zcb 1 1 1 = some [] := by
 unfold Zcb
 rw [if_pos (by decide +kernel)]
 rfl
theorem Zow {o : Option (Int × Int)} : Pln 1 (oR o) := by
 cases o with
 | none => exact .none
 | some q => exact Zoe
theorem oR_none {o : Option (Int × Int)} : oR o = .none ↔ o = none := by cases o <;> simp [oR, Z4]
noncomputable def Hand (n : Nat) (G : Nat → Nat → Option Int) (R R' : Nat → Int × Int) (M : Int) (k : Nat) : Prop := ∀ t, t < n → RB M k (R' t) ∧ ∀ x, ZaK (R' t) x ↔ Zct n G R (t + 1) (n + 1) x
theorem ZoX {n k : Nat} {G : Nat → Nat → Option Int} {R : Nat → Int × Int} {M : Int} (hn : n ≤ 100) (hk : k ≤ 7000) (hM : 0 < M) (bM : Bd k M) (bG : ∀ a b c, a < n + 1 → b < n + 1 → G a b = some c → Bd k c) (hR : ∀ t, t < n → RB M k (R t)) : Pk (Zdn [Z3 n G R]) fun t => (∃ R', t = Z3 n G R' ∧ Hand n G R R' M (k + 1)) ∨ (t = .none ∧ ∃ i, i < n ∧ ∀ x, ¬ Zct n G R (i + 1) (n + 1) x) := by
 unfold Zdn Ze8
 have ht : Z3 n G R = .tup [Zag (n + 1) G, ZaT n R] := rfl
 rw [ht]
 walk_at "zz"
 refine ZT (Zl5 (by omega)) ?_
 have hr : ZaT (n + 1) (ZN R) = .lst (tab (n + 1) fun i => Z4 (ZN R i)) := rfl
 walk_at "zz"
 refine ZmO oR (fun t o => ZcN n G R M (k + 1) (t + 1) (n + 1) o) (n := n) (a := fun i => .int (i + 1)) (by omega) ?_ (fun t ht => ?_) none (fun y hy => ?_)
 ·by_cases h0 : n = 0
  ·subst h0
   exact ⟨[], ZfG (a := 1) (b := 1) rfl Zon, rfl⟩
  ·rw [hr]
   walk_at "zz"
   refine Rn.two 1 n (by decide) (by omega) (by omega) (by omega) ?_
   refine Zb6 fun i _ => ?_
   congr 1
   omega
 ·walk_at "zz"
  refine (ZoK (i := t + 1) hn (by omega) hk hM bM bG hR).mono ?_
  rintro _ ⟨o, rfl, ho⟩
  exact ⟨o, rfl, ho⟩
 ·walk_at "zz"
  refine ZhO (.none (n := 0)) (ZeW (n := 1) fun i _ => Zow) ?_
  by_cases hc : ∃ i, i < n ∧ y i = none
  ·obtain ⟨i, hi, ei⟩ := hc
   rw [Zbi (show T.none ∈ tab n fun i => oR (y i) from List.mem_of_getElem? (i := i) (by rw [ZbD hi, ei]; rfl))]
   walk_at "zz"
   refine .inr ⟨rfl, i, hi, ?_⟩
   have := hy i hi
   rw [ei] at this
   exact this
  ·rw [Zb9 (show ¬ T.none ∈ tab n fun i => oR (y i) from fun h => by
    obtain ⟨i, hi, e⟩ := ZdN h
    exact hc ⟨i, hi, oR_none.mp e.symm⟩)]
   walk_at "zz"
   have hs : ∀ i, i < n → y i = some ((y i).getD (1, 0)) := fun i hi => by
    cases e : y i with
    | none => exact absurd ⟨i, hi, e⟩ hc
    | some q => rfl
   refine .inl ⟨fun i => (y i).getD (1, 0), ?_, fun t ht => ?_⟩
   ·unfold Z3 ZaT
    congr 4
    refine Zb6 fun i hi => ?_
    conv => lhs; rw [hs i hi]
    rfl
   ·have := hy t ht
    rw [hs t ht] at this
    exact this
theorem Zl0 : Zdn [.none] = some .none := by
 apply Pk.eq
 unfold Zdn Ze8
 walk_at "zz"
 rfl
noncomputable def Zbu (R : Nat → Int × Int) (i j : Nat) : Int × Int := Zbq (ZN R i) (ZcM (ZN R j) (-1))
noncomputable def ZbO (b : Option Int) (q : Int × Int) : Option Int := match b with
 | some b => Zdd q b
 | none => if q.1 = 0 then some q.2 else none
noncomputable def ZaV (G : Nat → Nat → Option Int) (R : Nat → Int × Int) : Nat → Nat → Option Int := fun i j => ZbO (G i j) (Zbu R i j)
noncomputable def Zdb (n : Nat) (G : Nat → Nat → Option Int) (R : Nat → Int × Int) : Prop := ∃ i j, i < n + 1 ∧ j < n + 1 ∧ ∃ b, G i j = some b ∧ ZaV G R i j = none
theorem ZoD {b : Option Int} {q : Int × Int} (hq : 0 ≤ q.1) : Zgf [oT b, Z4 q] = some (oT (ZbO b q)) := by
 apply Pk.eq
 unfold Zgf Zh8 ZbO
 cases b with
 | none =>
  have ep : Z4 q = .tup [.int q.1, .int q.2] := rfl
  rw [ZbI, ep]
  by_cases c : q.1 = 0
  ·walk_at "zz"
   simp [c, oT]
  ·walk_at "zz"
   simp [c, oT]
 | some b =>
  rw [ZaD]
  walk_at "zz"
  exact ZT (Zpc hq) rfl
theorem ZoY {n i k : Nat} {b : Nat → Option Int} {R : Nat → Int × Int} {M : Int} (hn : n ≤ 100) (hi : i < n + 1) (hk : k ≤ 7000) (hM : 0 < M) (bM : Bd k M) (hR : ∀ t, t < n → RB M k (R t)) : Pk (Zgn [Zar (n + 1) b, Z4 (ZN R i), ZaT (n + 1) (ZN R)]) fun t => (t = Zar (n + 1) (fun j => ZbO (b j) (Zbu R i j)) ∧ ∀ j, j < n + 1 → ∀ c, b j = some c → ZbO (b j) (Zbu R i j) ≠ none) ∨ (t = .none ∧ ∃ j, j < n + 1 ∧ ∃ c, b j = some c ∧ ZbO (b j) (Zbu R i j) = none) := by
 unfold Zgn ZiE
 have hF := ZcV hR
 have hb : Zar (n + 1) b = .lst (tab (n + 1) fun j => oT (b j)) := rfl
 have hr : ZaT (n + 1) (ZN R) = .lst (tab (n + 1) fun i => Z4 (ZN R i)) := rfl
 rw [hb, hr]
 walk_at "zz"
 refine Zhm (n := n + 1) (a := fun j => oT (b j)) (c := fun j => Z4 (ZN R j)) (P := fun m σ => σ 1 = some (Z4 (ZN R i)) ∧ σ 3 = some (.lst (tab m fun j => oT (ZbO (b j) (Zbu R i j)))) ∧ ∀ j, j < m → ∀ c, b j = some c → ZbO (b j) (Zbu R i j) ≠ none) ?_ ⟨by walk_at "zr", by walk_at "zr", by omega⟩ ?_ ?_
 ·walk_at "zz"
  rfl
 ·rintro j σ hj ⟨e1, e3, st⟩
  have h1 := hF i hi
  have h2 := hF j hj
  have b1 := h1.bd hM bM
  have b2 := h2.bd hM bM
  have bt : Bd (k + 1) (ZcM (ZN R j) (-1)).1 := by
   refine (Zg3 (k := k + 1) (Int.mul_nonneg h2.1.nn (ZcX _)) ?_ ?_).1
   ·have := Bd.mul b2.1 (show Bd 1 (Zbl (-1)) by unfold Bd; decide); exact this
   ·have := Bd.mul b2.2 (show Bd 1 (-1) by unfold Bd; decide); exact this
  walk_at "zz"
  refine ZT (Zl6 (p := ZN R j) (c := -1) (k := k + 1) (by omega) h2.1.nn ⟨b2.1.mono (by omega), b2.2.mono (by omega)⟩ (show Bd (k + 1) (-1) from (show Bd 1 (-1) by unfold Bd; decide).mono (by omega))) ?_
  walk_at "zz"
  refine ZT (Zi3 (k := k + 1) (by omega) (b1.1.mono (by omega)) bt) ?_
  walk_at "zz"
  refine ZT (ZoD (Zhb _ _).nn) ?_
  have hd : Zbq (ZN R i) (ZcM (ZN R j) (-1)) = Zbu R i j := rfl
  rw [hd]
  walk_at "zz"
  have app : ∀ w, w = oT (ZbO (b j) (Zbu R i j)) → tab j (fun j => oT (ZbO (b j) (Zbu R i j))) ++ [w] = tab (j + 1) fun j => oT (ZbO (b j) (Zbu R i j)) := fun w e => by rw [e]; exact Zc7
  cases hl : ZbO (b j) (Zbu R i j) with
  | none =>
   rw [ZbI]
   walk_at "zz"
   cases hbj : b j with
   | none =>
    rw [ZbI]
    walk_at "zz"
    rw [app _ (by rw [hl]; rfl)]
    refine ⟨by walk_at "zr", by walk_at "zr", fun j' hj' c hc => ?_⟩
    by_cases q : j' = j
    ·subst q; rw [hbj] at hc; cases hc
    ·exact st j' (by omega) c hc
   | some c =>
    rw [ZaD]
    walk_at "zz"
    exact .inr ⟨rfl, j, hj, c, hbj, hl⟩
  | some v =>
   rw [ZaD]
   walk_at "zz"
   rw [app _ (by rw [hl]; rfl)]
   refine ⟨by walk_at "zr", by walk_at "zr", fun j' hj' c hc => ?_⟩
   by_cases q : j' = j
   ·subst q; rw [hl]; simp
   ·exact st j' (by omega) c hc
 ·rintro σ ⟨e1, e3, st⟩
  walk_at "zz"
  exact .inl ⟨rfl, st⟩
noncomputable def Ze5 (n : Nat) : Option (Nat → Option Int) → T
 | none => .none
 | some b => Zar n b
theorem Ztg {n : Nat} {o : Option (Nat → Option Int)} : Pln 1 (Ze5 n o) := by
 cases o with
 | none => exact .none
 | some q => exact ZnC
end L
namespace L
open PySem PySem.W PyProof.Rows PM TM My
theorem Zqs {σ : TL} {Q : T → Prop} {g : PG} {j k n : Nat} {a b : Nat → T} {f : PE} {β : Type} (e : β → T) (P : Nat → β → Prop) (hn : n < 10000) (hg : Pl (g σ) fun ts => ts = tab n fun i => .tup [a i, b i]) (hf : ∀ i, i < n → Pk (f (ZZ (ZZ σ j (a i)) k (b i))) fun t => ∃ y, t = e y ∧ P i y) (d : β) (h : ∀ y : Nat → β, (∀ i, i < n → P i (y i)) → Q (.lst (tab n fun i => e (y i)))) : Pk (Zan g (Zcz j k) Zad f σ) Q := by
 have hc : ∃ y : Nat → β, ∀ i, i < n → Pk (f (ZZ (ZZ σ j (a i)) k (b i))) (fun t => t = e (y i)) ∧ P i (y i) := by
  have hx : ∀ i, ∃ y : β, i < n → Pk (f (ZZ (ZZ σ j (a i)) k (b i))) (fun t => t = e y) ∧ P i y := fun i => by
   by_cases q : i < n
   ·obtain ⟨t, e1, y, e2, p⟩ := hf i q
    exact ⟨y, fun _ => ⟨⟨t, e1, e2⟩, p⟩⟩
   ·exact ⟨d, fun h => absurd h q⟩
  exact ⟨fun i => Classical.choose (hx i), fun i => Classical.choose_spec (hx i)⟩
 obtain ⟨y, hy⟩ := hc
 exact ZkS hn hg (fun i hi => (hy i hi).1) (h y fun i hi => (hy i hi).2)
theorem oRow_none {n : Nat} {o : Option (Nat → Option Int)} : Ze5 n o = .none ↔ o = none := by cases o <;> simp [Ze5, Zar]
theorem Zqt {n k : Nat} {G : Nat → Nat → Option Int} {R : Nat → Int × Int} {M : Int} (hn : n ≤ 100) (hk : k ≤ 7000) (hM : 0 < M) (bM : Bd k M) (hR : ∀ t, t < n → RB M k (R t)) : Pk (ZeH [Z3 n G R]) fun t => (t = Z3 n (ZaV G R) R ∧ ¬ Zdb n G R) ∨ (t = .none ∧ Zdb n G R) := by
 unfold ZeH Zg0
 have ht : Z3 n G R = .tup [.lst (tab (n + 1) fun i => Zar (n + 1) (G i)), ZaT n R] := rfl
 rw [ht]
 walk_at "zz"
 refine ZT (Zl5 (by omega)) ?_
 have hr : ZaT (n + 1) (ZN R) = .lst (tab (n + 1) fun i => Z4 (ZN R i)) := rfl
 walk_at "zz"
 refine Zqs (Ze5 (n + 1)) (fun i o => match o with
  | none => ∃ j, j < n + 1 ∧ ∃ c, G i j = some c ∧ ZaV G R i j = none
  | some b => b = ZaV G R i ∧ ∀ j, j < n + 1 → ∀ c, G i j = some c → ZaV G R i j ≠ none) (n := n + 1) (a := fun i => Zar (n + 1) (G i)) (b := fun i => Z4 (ZN R i)) (by omega) ?_ (fun i hi => ?_) none (fun y hy => ?_)
 ·rw [hr]
  walk_at "zz"
  rfl
 ·walk_at "zz"
  refine (ZoY hn hi hk hM bM hR).mono ?_
  rintro t (⟨rfl, h⟩ | ⟨rfl, h⟩)
  ·exact ⟨some (ZaV G R i), rfl, rfl, h⟩
  ·exact ⟨none, rfl, h⟩
 ·walk_at "zz"
  refine ZhO (.none (n := 0)) (ZeW (n := 1) fun i _ => Ztg) ?_
  by_cases hc : ∃ i, i < n + 1 ∧ y i = none
  ·obtain ⟨i, hi, ei⟩ := hc
   rw [Zbi (show T.none ∈ tab (n + 1) fun i => Ze5 (n + 1) (y i) from List.mem_of_getElem? (i := i) (by rw [ZbD hi, ei]; rfl))]
   walk_at "zz"
   have := hy i hi
   rw [ei] at this
   obtain ⟨j, hj, c, h1, h2⟩ := this
   exact .inr ⟨rfl, i, j, hi, hj, c, h1, h2⟩
  ·rw [Zb9 (show ¬ T.none ∈ tab (n + 1) fun i => Ze5 (n + 1) (y i) from fun h => by
    obtain ⟨i, hi, e⟩ := ZdN h
    exact hc ⟨i, hi, oRow_none.mp e.symm⟩)]
   walk_at "zz"
   have hs : ∀ i, i < n + 1 → y i = some (ZaV G R i) ∧ ∀ j, j < n + 1 → ∀ c, G i j = some c → ZaV G R i j ≠ none := fun i hi => by
    have := hy i hi
    cases e : y i with
    | none => exact absurd ⟨i, hi, e⟩ hc
    | some b => rw [e] at this; exact ⟨by rw [this.1], this.2⟩
   refine .inl ⟨?_, ?_⟩
   ·unfold Z3 Zag
    congr 3
    refine Zb6 fun i hi => ?_
    rw [(hs i hi).1]
    rfl
   ·rintro ⟨i, j, hi, hj, c, h1, h2⟩
    exact (hs i hi).2 j hj c h1 h2
theorem Zmb : ZeH [.none] = some .none := by
 apply Pk.eq
 unfold ZeH Zg0
 walk_at "zz"
 rfl
theorem Zro : ZdQ [.none] = some .none := by
 apply Pk.eq
 unfold ZdQ ZhH
 walk_at "zz"
 rfl
noncomputable def ZbY (n : Nat) (G : Nat → Nat → Option Int) : Prop := ∃ m, m < n ∧ Neg n (Z8 G (m + 1))
theorem Zth {n : Nat} {G : Nat → Nat → Option Int} {R : Nat → Int × Int} (hn : n ≤ 100) (hd : ∀ i, i < n + 1 → G i i = some 0) : Pk (ZdQ [Z3 n G R]) fun t => (t = Z3 n (Z8 G (n + 1)) R ∧ ¬ ZbY (n + 1) G) ∨ (t = .none ∧ ZbY (n + 1) G) := by
 unfold ZdQ ZhH
 have ht : Z3 n G R = .tup [Zag (n + 1) G, ZaT n R] := rfl
 rw [ht]
 walk_at "zz"
 refine (Zrl (n := n + 1) (by omega) (by omega) fun i hi => ⟨0, hd i hi⟩).mono ?_
 rintro t (⟨rfl, h⟩ | ⟨rfl, h⟩)
 ·have hg : Zag (n + 1) (Z8 G (n + 1)) = .lst (tab (n + 1) fun i => Zar (n + 1) (Z8 G (n + 1) i)) := rfl
  rw [hg]
  walk_at "zz"
  exact .inl ⟨rfl, fun ⟨m, hm, q⟩ => h m hm q⟩
 ·walk_at "zz"
  exact .inr ⟨rfl, h⟩
noncomputable def BdG (n k : Nat) (G : Nat → Nat → Option Int) : Prop := ∀ a b c, a < n → b < n → G a b = some c → Bd k c
theorem ZdS {n k : Nat} {G : Nat → Nat → Option Int} (h : BdG n k G) : ∀ m, m ≤ n → BdG n (k + m) (Z8 G m)
 | 0, _ => h
 | m + 1, hm => fun a b c ha hb e => by
  have ih := ZdS h m (by omega)
  rcases ZfJ (Z8 G m a b) (Zas (Z8 G m a m) (Z8 G m m b)) with e1 | e1
  ·rw [show Z8 G (m + 1) a b = _ from e1] at e
   exact (ih a b c ha hb e).mono (by omega)
  ·rw [show Z8 G (m + 1) a b = _ from e1] at e
   obtain ⟨p, q, h1, h2, rfl⟩ := addO_some.mp e
   exact Bd.add (ih a m p ha (by omega) h1) (ih m b q (by omega) hb h2)
theorem ZmD {q : Int × Int} (h : RestOk q) : ZcM q (-1) = ZaH q.1 (-q.2) := by
 unfold ZcM
 rw [show Zbl (-1) = 1 from rfl, Int.mul_one, Int.mul_neg, Int.mul_one]
theorem Zkk {m r : Int} : (ZaH m r).1 = m := by
 unfold ZaH; split
 ·rename_i c; exact c.symm
 ·rfl
theorem ZfB {R : Nat → Int × Int} {i j : Nat} (hi : RestOk (ZN R i)) (hj : RestOk (ZN R j)) (x : Int) : ZaK (Zbu R i j) x ↔ ((Int.gcd (ZN R i).1 (ZN R j).1 : Nat) : Int) ∣ x - ((ZN R i).2 - (ZN R j).2) := by
 unfold Zbu Zbq
 rw [Zc4 (by omega), ZmD hj, Zkk]
 have hr := Zc4 hj.nn (r := -(ZN R j).2) (ZaH (ZN R j).1 (-(ZN R j).2)).2
 have hs := (hr.mp (ZcE hj.nn _).self)
 generalize (ZaH (ZN R j).1 (-(ZN R j).2)).2 = s at *
 have hg : ((Int.gcd (ZN R i).1 (ZN R j).1 : Nat) : Int) ∣ s - -(ZN R j).2 := Int.dvd_trans (Int.gcd_dvd_right ..) hs
 constructor
 ·intro h
  have := Int.dvd_add h hg
  rwa [show x - ((ZN R i).2 + s) + (s - -(ZN R j).2) = x - ((ZN R i).2 - (ZN R j).2) by omega] at this
 ·intro h
  have := Int.dvd_sub h hg
  rwa [show x - ((ZN R i).2 - (ZN R j).2) - (s - -(ZN R j).2) = x - ((ZN R i).2 + s) by omega] at this
theorem ZmP {q : Int × Int} {b c : Int} (h0 : RestOk q) (h : Zdd q b = some c) : c ≤ b ∧ ZaK q c ∧ (q.1 = 0 ∨ b - c < q.1) := by
 unfold Zdd at h
 split at h
 ·rename_i z
  split at h
  ·cases h
   exact ⟨by assumption, h0.self, .inl z⟩
  ·cases h
 ·rename_i z
  cases h
  have hp : 0 < q.1 := by have := h0.nn; omega
  have h1 := Int.emod_nonneg (b - q.2) z
  have h2 := Int.emod_lt_of_pos (b - q.2) hp
  refine ⟨by omega, ?_, .inr (by omega)⟩
  rw [Zbx h0.nn]
  have h3 := Int.emod_add_mul_ediv (b - q.2) q.1
  exact ⟨(b - q.2) / q.1, by omega⟩
theorem Zkl {q : Int × Int} {b x : Int} (h0 : RestOk q) (hx : ZaK q x) (hb : x ≤ b) : ∃ c, Zdd q b = some c ∧ x ≤ c := by
 unfold Zdd
 rw [Zbx h0.nn] at hx
 split
 ·rename_i z
  rw [z, Int.zero_dvd] at hx
  rw [if_pos (by omega)]
  exact ⟨_, rfl, by omega⟩
 ·rename_i z
  have hp : 0 < q.1 := by have := h0.nn; omega
  refine ⟨_, rfl, ?_⟩
  obtain ⟨t, ht⟩ := hx
  have h3 := Int.emod_add_mul_ediv (b - q.2) q.1
  have h2 := Int.emod_lt_of_pos (b - q.2) hp
  have h4 : t ≤ (b - q.2) / q.1 := Int.le_ediv_of_mul_le hp (by rw [Int.mul_comm]; omega)
  have h5 : q.1 * t ≤ q.1 * ((b - q.2) / q.1) := Int.mul_le_mul_of_nonneg_left h4 (by omega)
  omega
theorem ZdO (R : Nat → Int × Int) (i j : Nat) : RestOk (Zbu R i j) := Zhb _ _
theorem ZlH {n k : Nat} {G : Nat → Nat → Option Int} {R : Nat → Int × Int} {M : Int} (hM : 0 < M) (bM : Bd k M) (hG : BdG (n + 1) k G) (hR : ∀ t, t < n → RB M k (R t)) : BdG (n + 1) (k + 1) (ZaV G R) := by
 intro i j c hi hj e
 have h1 := ZcV hR i hi
 have h2 := ZcV hR j hj
 have hd1 : (Zbu R i j).1 = ((Int.gcd (ZN R i).1 (ZN R j).1 : Nat) : Int) := by
  unfold Zbu Zbq
  rw [Zkk, ZmD h2.1, Zkk]
 have hb1 := (h1.bd hM bM).1
 have hb2 := (h2.bd hM bM).1
 have hm : Bd k (Zbu R i j).1 := by
  rw [hd1]
  by_cases z : (ZN R i).1 = 0
  ·rw [z, Int.gcd_zero_left]
   unfold Bd at *
   simpa using hb2
  ·have := Int.gcd_le_natAbs_left (b := (ZN R j).1) z
   unfold Bd at *
   simp only [Int.natAbs_natCast]
   omega
 unfold ZaV ZbO at e
 cases hg : G i j with
 | some b =>
  rw [hg] at e
  obtain ⟨u1, u2, u3⟩ := ZmP (ZdO R i j) e
  have hbb := hG i j b hi hj hg
  rcases u3 with z | z
  ·have hx := (ZfB h1.1 h2.1 c).mp u2
   rw [hd1] at z
   rw [z, Int.zero_dvd] at hx
   have : c = (ZN R i).2 - (ZN R j).2 := by omega
   rw [this]
   exact Bd.sub h1.2.2 h2.2.2
  ·unfold Bd at *
   rw [Nat.pow_succ]
   omega
 | none =>
  rw [hg] at e
  simp only at e
  split at e
  ·rename_i z
   cases e
   have hx := (ZfB h1.1 h2.1 (Zbu R i j).2).mp (ZdO R i j).self
   rw [hd1] at z
   rw [z, Int.zero_dvd] at hx
   have : (Zbu R i j).2 = (ZN R i).2 - (ZN R j).2 := by omega
   rw [this]
   exact Bd.sub h1.2.2 h2.2.2
  ·cases e
end L
namespace L
open PySem PySem.W PyProof.Rows PM TM My
noncomputable def ZeO (n : Nat) (C : Nat → Nat → Option Int) (R : Nat → Int × Int) : Prop := ∃ i, i < n ∧ ∀ x, ¬ Zct n C R (i + 1) (n + 1) x
theorem ZnO {ts : List T} {Q : T → Prop} (h : Pk (Zaf 1 ZhI ts) fun t => ZfI t = true ∧ Q t) : Pk (Zd9 ts) Q := by
 obtain ⟨t, e, o, q⟩ := h
 exact ⟨t, by simp only [Zd9, e, Option.bind_some, o, if_true], q⟩
theorem Zti {n : Nat} {G : Nat → Nat → Option Int} {R : Nat → Int × Int} : ZfI (Z3 n G R) = true := ZmI fun _ _ => Zg7
theorem ZnP {n k : Nat} {G : Nat → Nat → Option Int} {R : Nat → Int × Int} {M : Int} (hn : n ≤ 100) (hk : k + n + 1 ≤ 7000) (hM : 0 < M) (bM : Bd k M) (hd : ∀ i, i < n + 1 → G i i = some 0) (bG : BdG (n + 1) k G) (hR : ∀ t, t < n → RB M k (R t)) : Pk (Zd9 [Z3 n G R]) fun t => (∃ R', t = Z3 n (Z8 G (n + 1)) R' ∧ ¬ ZbY (n + 1) G ∧ Hand n (Z8 G (n + 1)) R R' M (k + n + 2)) ∨ (t = .none ∧ (ZbY (n + 1) G ∨ (¬ ZbY (n + 1) G ∧ ZeO n (Z8 G (n + 1)) R))) := by
 refine ZnO ?_
 unfold ZhI
 walk_at "zz"
 refine (Zth hn hd).mono ?_
 rintro t (⟨rfl, h⟩ | ⟨rfl, h⟩)
 ·walk_at "zz"
  refine (ZoX (k := k + n + 1) hn hk hM (bM.mono (by omega)) (ZdS bG (n + 1) (by omega)) (fun t ht => (hR t ht).mono (by omega))).mono ?_
  rintro t (⟨R', rfl, h2⟩ | ⟨rfl, h2⟩)
  ·exact ⟨Zti, .inl ⟨R', rfl, h, h2⟩⟩
  ·exact ⟨rfl, .inr ⟨rfl, .inr ⟨h, h2⟩⟩⟩
 ·walk_at "zz"
  exact ZT Zl0 ⟨rfl, .inr ⟨rfl, .inl h⟩⟩
theorem Zg4 : Zd9 [.none] = some .none := by
 apply Pk.eq
 refine ZnO ?_
 unfold ZhI
 walk_at "zz"
 refine ZT Zro ?_
 walk_at "zz"
 exact ZT Zl0 ⟨rfl, rfl⟩
theorem Zhc {n : Nat} {G : Nat → Nat → Option Int} {R : Nat → Int × Int} (hR : ∀ i, i < n + 1 → RestOk (ZN R i)) (hd : ∀ i, i < n + 1 → G i i = some 0) : ∀ i, i < n + 1 → ZaV G R i i = some 0 := by
 intro i hi
 unfold ZaV ZbO
 rw [hd i hi]
 have h0 : ZaK (Zbu R i i) 0 := (ZfB (hR i hi) (hR i hi) 0).mpr (by simp)
 obtain ⟨c, e, hc⟩ := Zkl (ZdO R i i) h0 (Int.le_refl 0)
 have := (ZmP (ZdO R i i) e).1
 show Zdd (Zbu R i i) 0 = some 0
 rw [e, show c = 0 by omega]
structure Sharp (n : Nat) (G : Nat → Nat → Option Int) (R : Nat → Int × Int) (G2 : Nat → Nat → Option Int) (R2 : Nat → Int × Int) (M : Int) (k : Nat) : Prop where
 go : ∃ R1, ¬ ZbY (n + 1) G ∧ Hand n (Z8 G (n + 1)) R R1 M k ∧ ¬ Zdb n (Z8 G (n + 1)) R1 ∧ ¬ ZbY (n + 1) (ZaV (Z8 G (n + 1)) R1) ∧ G2 = Z8 (ZaV (Z8 G (n + 1)) R1) (n + 1) ∧ Hand n G2 R1 R2 M k
noncomputable def ZeJ (n : Nat) (G : Nat → Nat → Option Int) (R : Nat → Int × Int) (M : Int) (k : Nat) : Prop := ZbY (n + 1) G ∨ (¬ ZbY (n + 1) G ∧ ZeO n (Z8 G (n + 1)) R) ∨ ∃ R1, ¬ ZbY (n + 1) G ∧ Hand n (Z8 G (n + 1)) R R1 M k ∧ (Zdb n (Z8 G (n + 1)) R1 ∨ (¬ Zdb n (Z8 G (n + 1)) R1 ∧ (ZbY (n + 1) (ZaV (Z8 G (n + 1)) R1) ∨ (¬ ZbY (n + 1) (ZaV (Z8 G (n + 1)) R1) ∧ ZeO n (Z8 (ZaV (Z8 G (n + 1)) R1) (n + 1)) R1))))
theorem Hand.mono {n : Nat} {G : Nat → Nat → Option Int} {R R' : Nat → Int × Int} {M : Int} {i j : Nat} (h : Hand n G R R' M i) (hij : i ≤ j) : Hand n G R R' M j := fun t ht => ⟨(h t ht).1.mono hij, (h t ht).2⟩
theorem Zsh {n k : Nat} {G : Nat → Nat → Option Int} {R : Nat → Int × Int} {M : Int} (hn : n ≤ 100) (hk : k + 2 * n + 4 ≤ 7000) (hM : 0 < M) (bM : Bd k M) (hd : ∀ i, i < n + 1 → G i i = some 0) (bG : BdG (n + 1) k G) (hR : ∀ t, t < n → RB M k (R t)) : Pk (ZcW [Z3 n G R]) fun t => (∃ G2 R2, t = Z3 n G2 R2 ∧ Sharp n G R G2 R2 M (k + 2 * n + 5)) ∨ (t = .none ∧ ZeJ n G R M (k + n + 2)) := by
 unfold ZcW Zhq
 walk_at "zz"
 refine (ZnP hn (by omega) hM bM hd bG hR).mono ?_
 rintro t (⟨R1, rfl, nr, h1⟩ | ⟨rfl, h⟩)
 ·have hR1 : ∀ t, t < n → RB M (k + n + 2) (R1 t) := fun t ht => (h1 t ht).1
  have hF1 := ZcV hR1
  have z1 := Zd5 hd (m := n + 1) fun m hm q => nr ⟨m, hm, q⟩
  walk_at "zz"
  refine (Zqt hn (by omega) hM (bM.mono (by omega)) hR1).mono ?_
  rintro t (⟨rfl, nl⟩ | ⟨rfl, fl⟩)
  ·walk_at "zz"
   have bG1 : BdG (n + 1) (k + n + 3) (ZaV (Z8 G (n + 1)) R1) := ZlH hM (bM.mono (by omega)) (fun a b c ha hb e => (ZdS bG (n + 1) (by omega) a b c ha hb e).mono (by omega)) hR1
   refine (ZnP (k := k + n + 3) hn (by omega) hM (bM.mono (by omega)) (Zhc (fun i hi => (hF1 i hi).1) z1) bG1 (fun t ht => (hR1 t ht).mono (by omega))).mono ?_
   rintro t (⟨R2, rfl, nr2, h2⟩ | ⟨rfl, h2⟩)
   ·exact .inl ⟨_, R2, rfl, ⟨R1, nr, h1.mono (by omega), nl, nr2, rfl, h2.mono (by omega)⟩⟩
   ·exact .inr ⟨rfl, .inr (.inr ⟨R1, nr, h1, .inr ⟨nl, h2⟩⟩)⟩
  ·walk_at "zz"
   exact ZT Zg4 (.inr ⟨rfl, .inr (.inr ⟨R1, nr, h1, .inl fl⟩)⟩)
 ·walk_at "zz"
  refine ZT Zmb ?_
  walk_at "zz"
  refine ZT Zg4 (.inr ⟨rfl, ?_⟩)
  rcases h with h | h
  ·exact .inl h
  ·exact .inr (.inl h)
theorem Zqu : ZcW [.none] = some .none := by
 apply Pk.eq
 unfold ZcW Zhq
 walk_at "zz"
 refine ZT Zg4 ?_
 walk_at "zz"
 refine ZT Zmb ?_
 walk_at "zz"
 exact ZT Zg4 rfl
theorem Zfm {n : Nat} {G : Nat → Nat → Option Int} {R : Nat → Int × Int} {x : Nat → Int} (h : Za5 n G R x) : Za5 n (Z8 G (n + 1)) R x := ⟨fun i j hi hj b e => Zk9 (ZmB h) (n + 1) (by omega) i j hi hj b e, h.2⟩
theorem Zmn {n : Nat} {G : Nat → Nat → Option Int} {R : Nat → Int × Int} {x : Nat → Int} (h : Za5 n G R x) : ¬ ZbY (n + 1) G := fun ⟨m, hm, q⟩ => Zrm (Zk9 (ZmB h) (m + 1) (by omega)) q
theorem ZkI {n : Nat} {G : Nat → Nat → Option Int} {R : Nat → Int × Int} {x : Nat → Int} (h : Za5 n G R x) : ∀ i, i < n + 1 → ZaK (ZN R i) (ZaP x i)
 | 0, _ => ⟨fun _ => rfl, fun q => absurd q (show ¬ (0 : Int) < 0 by decide)⟩
 | i + 1, hi => h.2 i (by omega)
theorem ZmQ {n : Nat} {G : Nat → Nat → Option Int} {R : Nat → Int × Int} {x : Nat → Int} (h : Za5 n G R x) {t : Nat} (ht : t < n) : Zct n G R (t + 1) (n + 1) (x t) := by
 refine ⟨h.2 t ht, fun j hj a b ha hb hab => ?_⟩
 have h1 := h.1 (t + 1) j (by omega) hj a ha
 have h2 := h.1 j (t + 1) hj (by omega) b hb
 have h3 : ZaP x (t + 1) = x t := rfl
 rw [h3] at h1 h2
 rw [show x t - a = ZaP x j by omega]
 exact ZkI h j hj
theorem ZjA {n : Nat} {G : Nat → Nat → Option Int} {R R' : Nat → Int × Int} {x : Nat → Int} {M : Int} {k : Nat} (h : Za5 n G R x) (q : Hand n G R R' M k) : Za5 n G R' x := ⟨h.1, fun t ht => ((q t ht).2 _).mpr (ZmQ h ht)⟩
theorem Zng {n : Nat} {G : Nat → Nat → Option Int} {R : Nat → Int × Int} {x : Nat → Int} (hR : ∀ i, i < n + 1 → RestOk (ZN R i)) (h : Za5 n G R x) {i j : Nat} (hi : i < n + 1) (hj : j < n + 1) : ZaK (Zbu R i j) (ZaP x i - ZaP x j) := by
 rw [ZfB (hR i hi) (hR j hj)]
 have h1 := (Zbx (hR i hi).nn _).mp (ZkI h i hi)
 have h2 := (Zbx (hR j hj).nn _).mp (ZkI h j hj)
 have h3 := Int.dvd_sub (Int.dvd_trans (Int.gcd_dvd_left (b := (ZN R j).1) ..) h1) (Int.dvd_trans (Int.gcd_dvd_right (a := (ZN R i).1) ..) h2)
 rwa [show ZaP x i - (ZN R i).2 - (ZaP x j - (ZN R j).2) = ZaP x i - ZaP x j - ((ZN R i).2 - (ZN R j).2) by omega] at h3
theorem Zqv {n : Nat} {G : Nat → Nat → Option Int} {R : Nat → Int × Int} {x : Nat → Int} (hR : ∀ i, i < n + 1 → RestOk (ZN R i)) (h : Za5 n G R x) : ¬ Zdb n G R := by
 rintro ⟨i, j, hi, hj, b, e, hn⟩
 obtain ⟨c, e2, _⟩ := Zkl (ZdO R i j) (Zng hR h hi hj) (h.1 i j hi hj b e)
 unfold ZaV ZbO at hn
 rw [e] at hn
 simp only at hn
 rw [e2] at hn
 cases hn
theorem Znh {n : Nat} {G : Nat → Nat → Option Int} {R : Nat → Int × Int} {x : Nat → Int} (hR : ∀ i, i < n + 1 → RestOk (ZN R i)) (h : Za5 n G R x) : Za5 n (ZaV G R) R x := by
 refine ⟨fun i j hi hj b e => ?_, h.2⟩
 have hd := Zng hR h hi hj
 unfold ZaV ZbO at e
 cases hg : G i j with
 | some c =>
  rw [hg] at e
  simp only at e
  obtain ⟨d, e2, hle⟩ := Zkl (ZdO R i j) hd (h.1 i j hi hj c hg)
  rw [e2] at e
  cases e
  exact hle
 | none =>
  rw [hg] at e
  simp only at e
  split at e
  ·rename_i z
   cases e
   rw [Zbx (ZdO R i j).nn, z, Int.zero_dvd] at hd
   omega
  ·cases e
theorem Zqw {n k : Nat} {G G2 : Nat → Nat → Option Int} {R R2 : Nat → Int × Int} {M : Int} {x : Nat → Int} (h : Za5 n G R x) (s : Sharp n G R G2 R2 M k) : Za5 n G2 R2 x := by
 obtain ⟨R1, h1, h2, h3, h4, rfl, h6⟩ := s.go
 have l1 := ZjA (Zfm h) h2
 have hF := ZcV fun t ht => (h2 t ht).1
 exact ZjA (Zfm (Znh (fun i hi => (hF i hi).1) l1)) h6
theorem ZpU {n k : Nat} {G : Nat → Nat → Option Int} {R : Nat → Int × Int} {M : Int} {x : Nat → Int} (h : Za5 n G R x) : ¬ ZeJ n G R M k := by
 have hf : ∀ {G : Nat → Nat → Option Int} {R : Nat → Int × Int}, Za5 n G R x → ¬ ZeO n G R := fun h ⟨i, hi, q⟩ => q _ (ZmQ h hi)
 rintro (q | ⟨_, q⟩ | ⟨R1, _, h2, q⟩)
 ·exact Zmn h q
 ·exact hf (Zfm h) q
 ·have l1 := ZjA (Zfm h) h2
  have hF := ZcV fun t ht => (h2 t ht).1
  have l2 := Znh (fun i hi => (hF i hi).1) l1
  rcases q with q | ⟨_, q | ⟨_, q⟩⟩
  ·exact Zqv (fun i hi => (hF i hi).1) l1 q
  ·exact Zmn l2 q
  ·exact hf (Zfm l2) q
end L
namespace L
open PySem PySem.W PyProof.Rows PM TM My
theorem Zqx {p q : Int × Int} {k : Nat} (hk : k ≤ 8000) (op : RestOk p) (oq : RestOk q) (bp : RBd k p) (bq : RBd k q) : Pk (Zg1 [Z4 p, Z4 q]) fun t => ∃ o, t = oR o ∧ Met p q o := by
 unfold Zg1 ZkA
 have ep : Z4 p = .tup [.int p.1, .int p.2] := rfl
 have eq : Z4 q = .tup [.int q.1, .int q.2] := rfl
 have np := op.nn
 have nq := oq.nn
 rw [ep, eq]
 walk_at "zz"
 have hlt : ∀ x : Int, 0 ≤ x → Bd k x → x < 2 ^ 200000 := fun x h0 h1 => by
  have h2 : x.natAbs < 2 ^ 200000 := Za4 h1 (by omega)
  have h3 : ((x.natAbs : Nat) : Int) < 2 ^ 200000 := by exact_mod_cast h2
  omega
 obtain ⟨m, hm, eu⟩ := Zha np nq (hlt _ np bp.1) (hlt _ nq bq.1)
 refine ZeK (fun m σ => ∃ l r s t : Int, σ 0 = some (.tup [.int p.1, .int p.2]) ∧ σ 1 = some (.tup [.int q.1, .int q.2]) ∧ σ 2 = some (.int l) ∧ σ 3 = some (.int r) ∧ σ 4 = some (.int s) ∧ σ 5 = some (.int t) ∧ Eu m l r ∧ Int.gcd l r = Int.gcd p.1 q.1 ∧ Bd k l ∧ Bd k r ∧ (∃ z, s * p.1 = l + q.1 * z) ∧ (∃ z, t * p.1 = r + q.1 * z) ∧ Bd (k + 1) s ∧ Bd (k + 1) t ∧ (s.natAbs : Int) * r + (t.natAbs : Int) * l ≤ q.1 ∧ (1 ≤ l ∨ t = 0)) _ _ ?_ 1000000 (m := m) ⟨p.1, q.1, 1, 0, by walk_at "zr", by walk_at "zr", by walk_at "zr", by walk_at "zr", by walk_at "zr", by walk_at "zr", eu, rfl, bp.1, bq.1, ⟨0, by omega⟩, ⟨-1, by omega⟩, Zgb (by omega), ZdX, by simp, .inr rfl⟩ hm
 rintro m σ ⟨l, r, s, t, e0, e1, e2, e3, e4, e5, eu, gl, kl, kr, ⟨z1, h1⟩, ⟨z2, h2⟩, ks, kt, hb1, hl⟩
 walk_at "zz"
 refine ⟨fun h => ?_, fun h => ?_⟩
 ·have hr : r ≠ 0 := by simpa using h
  have hr0 : 0 ≤ r := eu.2.1
  have hl0 : 0 ≤ l := eu.1
  have hrp : 0 < r := by omega
  have hdiv0 : 0 ≤ l / r := Int.ediv_nonneg hl0 hr0
  have hdiv1 : l / r ≤ l := Int.ediv_le_self _ hl0
  have kd : Bd k (l / r) := ZcP kl hdiv0 hdiv1
  walk_at "zz"
  refine Zdu hr (Zeb kr (by omega)) ?_
  rw [Int.fdiv_eq_ediv_of_nonneg _ hr0]
  walk_at "zz"
  refine ZbE (ZbQ kd kr (by omega) (by omega)) ?_
  walk_at "zz"
  refine ZbE (ZbQ kd kt (by omega) (by omega)) ?_
  walk_at "zz"
  have hover : l - l / r * r = l % r := by
   have := Int.emod_add_mul_ediv l r
   rw [Int.mul_comm r (l / r)] at this
   omega
  rw [hover]
  obtain ⟨m', hm1, hm2⟩ := eu.step hr
  have o0 := Int.emod_nonneg l hr
  have o1 := Int.emod_lt_of_pos l hrp
  have ht : ((s - l / r * t).natAbs : Int) ≤ (s.natAbs : Int) + l / r * (t.natAbs : Int) := by
   have h3 : (s - l / r * t).natAbs ≤ s.natAbs + (l / r * t).natAbs := by omega
   have h4 : (l / r * t).natAbs = (l / r).natAbs * t.natAbs := Int.natAbs_mul ..
   have h5 : (((l / r).natAbs * t.natAbs : Nat) : Int) = l / r * (t.natAbs : Int) := by
    rw [Int.natCast_mul, Int.natAbs_of_nonneg hdiv0]
   rw [h4] at h3
   omega
  have h6 : ((s - l / r * t).natAbs : Int) * r ≤ ((s.natAbs : Int) + l / r * (t.natAbs : Int)) * r := Int.mul_le_mul_of_nonneg_right ht hr0
  have h7 : ((s.natAbs : Int) + l / r * (t.natAbs : Int)) * r = (s.natAbs : Int) * r + (t.natAbs : Int) * (l / r * r) := by
   rw [Int.add_mul, Int.mul_comm (l / r) (t.natAbs : Int), Int.mul_assoc]
  have h8 : (t.natAbs : Int) * (l % r) + (t.natAbs : Int) * (l / r * r) = (t.natAbs : Int) * l := by
   rw [← Int.mul_add, ← hover]
   congr 1
   omega
  have h9 : (t.natAbs : Int) * (l % r) + ((s - l / r * t).natAbs : Int) * r ≤ q.1 := by omega
  have hpos : 0 ≤ (t.natAbs : Int) * (l % r) := Int.mul_nonneg (by omega) o0
  have kn : Bd (k + 1) (s - l / r * t) := by
   have h10 : ((s - l / r * t).natAbs : Int) * 1 ≤ ((s - l / r * t).natAbs : Int) * r := Int.mul_le_mul_of_nonneg_left (by omega) (by omega)
   have h11 : ((s - l / r * t).natAbs : Int) ≤ q.1 := by omega
   have h12 := bq.1
   unfold Bd at *
   rw [Nat.pow_succ]
   omega
  refine ⟨m', hm1, r, l % r, t, s - l / r * t, by walk_at "zr", by walk_at "zr", by walk_at "zr", by walk_at "zr", by walk_at "zr", by walk_at "zr", hm2, by rw [ZfA hrp]; exact gl, kr, ZcP kr o0 (by omega), ⟨z2, h2⟩, ⟨z1 - l / r * z2, ?_⟩, kt, kn, h9, .inl (by omega)⟩
  rw [Int.sub_mul, h1, Int.mul_assoc, h2, Int.mul_add, Int.mul_sub, ← hover]
  have e1 : q.1 * (l / r * z2) = l / r * (q.1 * z2) := by rw [← Int.mul_assoc, Int.mul_comm q.1, Int.mul_assoc]
  rw [e1]
  omega
 ·have hr : r = 0 := by simpa using h
  subst hr
  rw [Int.gcd_zero_right] at gl
  have hl0 := eu.1
  have hlg : l = (Int.gcd p.1 q.1 : Nat) := by omega
  walk_at "zz"
  by_cases c : l = 0
  ·have hz : p.1 = 0 ∧ q.1 = 0 := Int.gcd_eq_zero_iff.mp (by omega)
   have hp1 : ∀ x, ZaK p x ↔ x = p.2 := fun x => by rw [Zbx np, hz.1, Int.zero_dvd]; omega
   have hq1 : ∀ x, ZaK q x ↔ x = q.2 := fun x => by rw [Zbx nq, hz.2, Int.zero_dvd]; omega
   walk_at "zz"
   by_cases d : q.2 - p.2 = 0
   ·walk_at "zz"
    refine ⟨some p, rfl, op, fun x => ?_⟩
    rw [hp1, hq1]
    omega
   ·walk_at "zz"
    refine ⟨none, rfl, fun x hx => ?_⟩
    rw [hp1, hq1] at hx
    omega
  ·have hlp : 0 < l := by omega
   obtain ⟨a, ea⟩ : l ∣ p.1 := by rw [hlg]; exact Int.gcd_dvd_left ..
   obtain ⟨b, eb⟩ : l ∣ q.1 := by rw [hlg]; exact Int.gcd_dvd_right ..
   walk_at "zz"
   rw [Int.fmod_eq_emod_of_nonneg _ (by omega)]
   by_cases c3 : (q.2 - p.2) % l = 0
   ·obtain ⟨d, ed⟩ := Int.dvd_of_emod_eq_zero c3
    have da : p.1 / l = a := by rw [ea]; exact Int.mul_ediv_cancel_left _ (by omega)
    have dd : (q.2 - p.2) / l = d := by rw [ed]; exact Int.mul_ediv_cancel_left _ (by omega)
    have ha0 : 0 ≤ a := by rw [← da]; exact Int.ediv_nonneg np (by omega)
    have ka : Bd k a := ZcP bp.1 ha0 (by rw [← da]; exact Int.ediv_le_self _ np)
    have kdd : Bd (k + 1) d := by
     have h1 : Bd (k + 1) (q.2 - p.2) := Bd.sub bq.2 bp.2
     unfold Bd at *
     rw [ed, Int.natAbs_mul] at h1
     have : 1 * d.natAbs ≤ l.natAbs * d.natAbs := Nat.mul_le_mul_right _ (by omega)
     omega
    walk_at "zz"
    refine Zdu (by omega) (Zeb kl (by omega)) ?_
    rw [Int.fdiv_eq_ediv_of_nonneg _ (by omega), da]
    walk_at "zz"
    refine ZbE (ZbQ ka bq.1 (by omega) (by omega)) ?_
    walk_at "zz"
    refine ZbE (ZbQ bp.1 ks (by omega) (by omega)) ?_
    walk_at "zz"
    refine Zdu (by omega) (Zeb kl (by omega)) ?_
    rw [Int.fdiv_eq_ediv_of_nonneg _ (by omega), dd]
    walk_at "zz"
    refine ZbE (ZbQ (Bd.mul bp.1 ks) kdd (by omega) (by omega)) ?_
    walk_at "zz"
    have hm0 : 0 ≤ a * q.1 := Int.mul_nonneg ha0 nq
    refine ZT ZeE ⟨some _, rfl, ZcE hm0 _, fun x => ?_⟩
    rw [Zc4 hm0, Zbx np, Zbx nq]
    have hx0 : p.1 * s * d = (q.2 - p.2) + q.1 * (z1 * d) := by
     rw [Int.mul_comm p.1 s, h1, Int.add_mul, ed, Int.mul_assoc]
    have hpm : p.1 ∣ a * q.1 := ⟨b, by rw [ea, eb]; rw [Int.mul_left_comm, Int.mul_assoc]⟩
    have hqm : q.1 ∣ a * q.1 := Int.dvd_mul_left _ _
    constructor
    ·intro hx
     have g1 := Int.dvd_trans hpm hx
     have g2 := Int.dvd_trans hqm hx
     refine ⟨?_, ?_⟩
     ·have := Int.dvd_add g1 (show p.1 ∣ p.1 * s * d from ⟨s * d, by rw [Int.mul_assoc]⟩)
      rwa [show x - (p.2 + p.1 * s * d) + p.1 * s * d = x - p.2 by omega] at this
     ·have := Int.dvd_add g2 (Int.dvd_mul_right q.1 (z1 * d))
      rwa [show x - (p.2 + p.1 * s * d) + q.1 * (z1 * d) = x - q.2 by omega] at this
    ·rintro ⟨g1, g2⟩
     have g3 : p.1 ∣ x - (p.2 + p.1 * s * d) := by
      have := Int.dvd_sub g1 (show p.1 ∣ p.1 * s * d from ⟨s * d, by rw [Int.mul_assoc]⟩)
      rwa [show x - p.2 - p.1 * s * d = x - (p.2 + p.1 * s * d) by omega] at this
     have g4 : q.1 ∣ x - (p.2 + p.1 * s * d) := by
      have := Int.dvd_sub g2 (Int.dvd_mul_right q.1 (z1 * d))
      rwa [show x - q.2 - q.1 * (z1 * d) = x - (p.2 + p.1 * s * d) by omega] at this
     have g5 := Int.coe_lcm_dvd g3 g4
     have g6 : (a * q.1).natAbs = Int.lcm p.1 q.1 := by
      have k1 := Int.gcd_mul_lcm p.1 q.1
      have k2 : (l.natAbs) * (a * q.1).natAbs = p.1.natAbs * q.1.natAbs := by
       rw [Int.natAbs_mul, ← Nat.mul_assoc]
       congr 1
       rw [← Int.natAbs_mul, ← ea]
      have k3 : Int.gcd p.1 q.1 = l.natAbs := by omega
      rw [k3] at k1
      exact Nat.eq_of_mul_eq_mul_left (show 0 < l.natAbs by omega) (by omega)
     rw [← g6] at g5
     exact Int.natAbs_dvd.mp g5
   ·walk_at "zz"
    refine ⟨none, rfl, fun x hx => c3 ?_⟩
    rw [Zbx np, Zbx nq] at hx
    have g1 : l ∣ x - p.2 := Int.dvd_trans ⟨a, ea⟩ hx.1
    have g2 : l ∣ x - q.2 := Int.dvd_trans ⟨b, eb⟩ hx.2
    have g3 := Int.dvd_sub g1 g2
    rw [show x - p.2 - (x - q.2) = q.2 - p.2 by omega] at g3
    exact Int.emod_eq_zero_of_dvd g3
end L
namespace L
open PySem PySem.W PyProof.Rows PM TM My
theorem Zuf {p q : Int × Int} {k : Nat} (hk : k ≤ 8000) (op : RestOk p) (oq : RestOk q) (bp : RBd k p) (bq : RBd k q) {o : Option (Int × Int)} (h : Met p q o) : ∀ r, o = some r → (r = p ∨ r = q ∨ (p.1 ≠ 0 ∧ q.1 ≠ 0 ∧ r.1 = Int.lcm p.1 q.1)) := by
 obtain ⟨t, _, o', rfl, h', wh⟩ := Zml hk op oq bp bq
 rw [Zqr h h']
 exact wh
theorem Zrp (q : Int × Int) (h : 0 ≤ q.1) (a : Int) : ZaH q.1 (q.2 + a) = Zbq q (0, a) := by
 unfold Zbq
 simp only [Int.gcd_zero_right]
 rw [Int.natAbs_of_nonneg h]
theorem ZkJ {n i j k : Nat} {G : Nat → Nat → Option Int} {R : Nat → Int × Int} {M : Int} {o : Option (Int × Int)} (ho : ZcN n G R M k i j o) (h : ∀ a b x, G i j = some a → G j i = some b → a + b = 0 → Zct n G R i j x → ZaK (ZN R j) (x - a)) : ZcN n G R M k i (j + 1) o := by
 have hs : ∀ x, Zct n G R i j x ↔ Zct n G R i (j + 1) x := fun x => ⟨fun hx => ⟨hx.1, fun j' hj' a b ha hb hab => by
     by_cases q' : j' = j
     ·subst q'; exact h a b x ha hb hab hx
     ·exact hx.2 j' (by omega) a b ha hb hab⟩, fun hx => ⟨hx.1, fun j' hj' => hx.2 j' (by omega)⟩⟩
 cases o with
 | none => exact fun x hx => ho x ((hs x).mpr hx)
 | some q => exact ⟨ho.1, fun x => (ho.2 x).trans (hs x)⟩
theorem ZnQ {M : Int} {k : Nat} {q : Int × Int} {a : Int} (hM : 0 < M) (bM : Bd k M) (h : RB M k q) (ba : Bd k a) : RB M (k + 1) (Zbq q (0, a)) := by
 refine ⟨Zhb _ _, ?_, ?_⟩
 ·unfold Zbq ZaH
  simp only [Int.gcd_zero_right]
  rw [Int.natAbs_of_nonneg h.1.nn]
  split
  ·exact .inl rfl
  ·exact h.2.1
 ·have hm := (h.bd hM bM).1
  refine (Zg3 (k := k + 1) (by omega) ?_ (Bd.add h.2.2 ba)).2
  simp only [Int.gcd_zero_right]
  rw [Int.natAbs_of_nonneg h.1.nn]
  exact hm.mono (by omega)
theorem Zrq {n i j k : Nat} {G : Nat → Nat → Option Int} {R : Nat → Int × Int} {M : Int} {q : Int × Int} {o' : Option (Int × Int)} {a b : Int} (hk : k ≤ 7000) (hM : 0 < M) (bM : Bd k M) (ha : G i j = some a) (hb : G j i = some b) (hab : a + b = 0) (ba : Bd k a) (hj2 : RB M k (ZN R j)) (ho : ZcN n G R M (k + 1) i j (some q)) (mt : Met q (Zbq (ZN R j) (0, a)) o') : ZcN n G R M (k + 1) i (j + 1) o' := by
 have bM1 : Bd (k + 1) M := bM.mono (by omega)
 have hpl := ZnQ hM bM hj2 ba
 have wh := Zuf (k := k + 1) (by omega) ho.1.1 hpl.1 (ho.1.bd hM bM1) (hpl.bd hM bM1) mt
 have hset : ∀ x, (ZaK q x ∧ ZaK (Zbq (ZN R j) (0, a)) x) ↔ Zct n G R i (j + 1) x := fun x => by
  rw [ho.2 x, Zmm hj2.1]
  constructor
  ·rintro ⟨h1, h2⟩
   refine ⟨h1.1, fun j' hj' c d hc hd hcd => ?_⟩
   by_cases q' : j' = j
   ·subst q'; rw [ha] at hc; cases hc; exact h2
   ·exact h1.2 j' (by omega) c d hc hd hcd
  ·intro h
   exact ⟨⟨h.1, fun j' hj' => h.2 j' (by omega)⟩, h.2 j (by omega) a b ha hb hab⟩
 cases o' with
 | none => exact fun x hx => mt x ((hset x).mpr hx)
 | some r =>
  refine ⟨⟨mt.1, ?_, ?_⟩, fun x => (mt.2 x).trans (hset x)⟩
  ·rcases wh r rfl with h | h | ⟨h1, h2, h3⟩
   ·rw [h]; exact ho.1.2.1
   ·rw [h]; exact hpl.2.1
   ·right
    rw [h3]
    exact Int.coe_lcm_dvd (ho.1.2.1.resolve_left h1) (hpl.2.1.resolve_left h2)
  ·rcases wh r rfl with h | h | ⟨h1, h2, h3⟩
   ·rw [h]; exact ho.1.2.2
   ·rw [h]; exact hpl.2.2
   ·rcases mt.1 with z | z
    ·have : (Int.lcm q.1 (Zbq (ZN R j) (0, a)).1) ≠ 0 := Int.lcm_ne_zero h1 h2
     omega
    ·have hd : r.1 ∣ M := by
      rw [h3]
      exact Int.coe_lcm_dvd (ho.1.2.1.resolve_left h1) (hpl.2.1.resolve_left h2)
     exact ZcP bM1 z.2.1 (by have := Int.le_of_dvd hM hd; omega)
theorem Ztj {p : PE} {σ : TL} {k : Nat} {Q : T → Prop} (h : Pk (p σ) fun t => ∃ ts, t = .lst ts ∧ Q (.lst (ts.drop k))) : Pk (Zdg p k σ) Q := by
 obtain ⟨t, e, ts, rfl, q⟩ := h
 exact ⟨_, by simp only [Zdg, e, Option.bind_some], q⟩
theorem Zrr {n : Nat} {f : Nat → T} : (tab (n + 1) f).drop 1 = tab n fun i => f (i + 1) := by
 apply List.ext_getElem?
 intro i
 rw [List.getElem?_drop]
 by_cases h : i < n
 ·rw [ZbD h, Nat.add_comm 1 i, ZbD (by omega)]
 ·rw [List.getElem?_eq_none (by rw [ZaC]; omega), List.getElem?_eq_none (by rw [ZaC]; omega)]
theorem Zl7 {n k : Nat} {G : Nat → Nat → Option Int} {R : Nat → Int × Int} {M : Int} (hn : n ≤ 100) (hk : k ≤ 7000) (hM : 0 < M) (bM : Bd k M) (bG : ∀ a b c, a < n + 1 → b < n + 1 → G a b = some c → Bd k c) (hR : ∀ t, t < n → RB M k (R t)) : Pk (Zfb [Zag (n + 1) G, ZaT n R]) fun t => (∃ R', t = ZaT n R' ∧ Hand n G R R' M (k + 1)) ∨ (t = .none ∧ ZeO n G R) := by
 unfold Zfb ZiU
 have hF := ZcV hR
 have bM1 : Bd (k + 1) M := bM.mono (by omega)
 have hr : ZaT n R = .lst (tab n fun i => Z4 (R i)) := rfl
 rw [hr]
 walk_at "zz"
 rw [ZlR]
 walk_at "zz"
 refine ZbL (n := n) (a := fun i => .int ((i + 1 : Nat) : Int)) (P := fun m σ => ∃ F : Nat → Option (Int × Int), σ 0 = some (Zag (n + 1) G) ∧ σ 2 = some (.lst (tab (n + 1) fun i => Z4 (ZN R i))) ∧ σ 3 = some (.lst (tab (n + 1) fun i => oR (F i))) ∧ F 0 = some (0, 0) ∧ (∀ a, a < m → ZcN n G R M (k + 1) (a + 1) (n + 1) (F (a + 1))) ∧ ∀ a, m ≤ a → a < n → F (a + 1) = some (R a)) ?_ ⟨fun i => some (ZN R i), by walk_at "zr", by walk_at "zr", by walk_at "zr", rfl, by omega, fun _ _ _ => rfl⟩ ?_ ?_
 ·by_cases h0 : n = 0
  ·subst h0
   exact ⟨[], ZfG (a := 1) (b := 1) rfl Zon, rfl⟩
  ·walk_at "zz"
   refine Rn.two 1 n (by decide) (by omega) (by omega) (by omega) ?_
   refine Zb6 fun i _ => ?_
   congr 1
   omega
 ·rintro i σ hi ⟨F, e0, e2, e3, z0, h1, h2⟩
  have hself : (fun a => oR (F a)) = fun a => oR (if a = i + 1 then F (i + 1) else F a) := funext fun a => by split <;> simp_all
  rw [hself] at e3
  refine ZbL (n := n + 1) (a := fun j => .int j) (P := fun j σ => ∃ o, σ 0 = some (Zag (n + 1) G) ∧ σ 2 = some (.lst (tab (n + 1) fun i => Z4 (ZN R i))) ∧ σ 3 = some (.lst (tab (n + 1) fun a => oR (if a = i + 1 then o else F a))) ∧ σ 4 = some (.int ((i + 1 : Nat) : Int)) ∧ ZcN n G R M (k + 1) (i + 1) j o) ?_ ⟨F (i + 1), by walk_at "zr", by walk_at "zr", by walk_at "zr", by walk_at "zr", ?_⟩ ?_ ?_
  ·walk_at "zz"
   rfl
  ·rw [h2 i (by omega) hi]
   exact ⟨(hF (i + 1) (by omega)).mono (by omega), fun x => ⟨fun h => ⟨h, by omega⟩, fun h => h.1⟩⟩
  ·rintro j σ hj ⟨o, f0, f2, f3, f4, ho⟩
   unfold Zag Zar at f0
   walk_at "zz"
   have fin : ∀ σ' : TL, σ' 0 = σ 0 → σ' 2 = σ 2 → σ' 3 = σ 3 → σ' 4 = σ 4 → ZcN n G R M (k + 1) (i + 1) (j + 1) o → ∃ o, σ' 0 = some (Zag (n + 1) G) ∧ σ' 2 = some (.lst (tab (n + 1) fun i => Z4 (ZN R i))) ∧ σ' 3 = some (.lst (tab (n + 1) fun a => oR (if a = i + 1 then o else F a))) ∧ σ' 4 = some (.int ((i + 1 : Nat) : Int)) ∧ ZcN n G R M (k + 1) (i + 1) (j + 1) o := fun σ' g0 g2 g3 g4 h => ⟨o, g0.trans f0, g2.trans f2, g3.trans f3, g4.trans f4, h⟩
   refine ⟨fun c => ?_, fun c => ⟨fun h => (nomatch h), fun _ => ?_⟩⟩
   ·have cne : i + 1 ≠ j := fun q => of_decide_eq_true c (by omega)
    cases hg : G (i + 1) j with
    | none =>
     rw [ZbI]
     walk_at "zz"
     exact fin _ rfl rfl rfl rfl (ZkJ ho fun a b x ha => by rw [hg] at ha; cases ha)
    | some a =>
     rw [ZaD]
     walk_at "zz"
     refine ZfL (Zf0 (n := 0)) (.int (n := 0)) ?_
     walk_at "zz"
     refine ⟨fun e => ?_, fun e => ?_⟩
     ·have e' := dec_iff.mp e
      rw [← ZaD, oT_inj] at e'
      cases o with
      | none =>
       walk_at "zz"
       rw [if_pos rfl, show oR none = T.none from rfl]
       walk_at "zz"
       exact fin _ rfl rfl rfl rfl fun x hx => ho x ⟨hx.1, fun j' hj' => hx.2 j' (by omega)⟩
      | some q =>
       walk_at "zz"
       rw [if_pos rfl, show oR (some q) = T.tup [.int q.1, .int q.2] from rfl]
       walk_at "zz"
       rw [if_pos rfl]
       have hj2 := hF j hj
       have ba := bG (i + 1) j a (by omega) hj hg
       have hpl := ZnQ hM bM hj2 ba
       have eq : Z4 (ZN R j) = .tup [.int (ZN R j).1, .int (ZN R j).2] := rfl
       rw [eq]
       walk_at "zz"
       rw [eq]
       walk_at "zz"
       refine ZT ZeE ?_
       rw [Zrp _ hj2.1.nn]
       walk_at "zz"
       refine (Zqx (p := q) (q := Zbq (ZN R j) (0, a)) (k := k + 1) (by omega) ho.1.1 hpl.1 (ho.1.bd hM bM1) (hpl.bd hM bM1)).mono ?_
       rintro _ ⟨o', rfl, mt⟩
       refine ⟨by cases o' <;> rfl, ?_⟩
       walk_at "zz"
       refine ⟨o', by walk_at "zr", by walk_at "zr", ?_, by walk_at "zr", Zrq hk hM bM hg e' (by omega) ba hj2 ho mt⟩
       refine (show _ = _ from Zb0).trans ?_
       congr 2
       refine Zb6 fun a _ => ?_
       split <;> rfl
     ·walk_at "zz"
      refine fin _ rfl rfl rfl rfl (ZkJ ho fun a' b x ha hb hab hx => ?_)
      rw [hg] at ha
      cases ha
      have : dec (oT (G j (i + 1)) = .int (-a)) = true := Zbi (by rw [hb, ZaD]; congr 1; omega)
      rw [this] at e
      cases e
   ·walk_at "zz"
    refine fin _ rfl rfl rfl rfl (ZkJ ho fun a b x ha hb hab hx => ?_)
    have cj : i + 1 = j := by
     have := of_decide_eq_false c
     omega
    subst cj
    rw [ha] at hb
    cases hb
    rw [show x - a = x by omega]
    exact hx.1
  ·rintro σ ⟨o, f0, f2, f3, f4, ho⟩
   refine ⟨fun a => if a = i + 1 then o else F a, f0, f2, f3, by simp [z0], fun a ha => ?_, fun a ha hb => ?_⟩
   ·by_cases q : a = i
    ·subst q; simpa using ho
    ·simpa [q] using h1 a (by omega)
   ·simpa [show a ≠ i by omega] using h2 a (by omega) hb
 ·rintro σ ⟨F, e0, e2, e3, z0, h1, -⟩
  walk_at "zz"
  refine ZhO (.none (n := 0)) (ZeW (n := 1) fun i _ => Zow) ?_
  by_cases hc : ∃ i, i < n ∧ F (i + 1) = none
  ·obtain ⟨i, hi, ei⟩ := hc
   rw [Zbi (show T.none ∈ tab (n + 1) fun i => oR (F i) from List.mem_of_getElem? (i := i + 1) (by rw [ZbD (by omega), ei]; rfl))]
   walk_at "zz"
   refine .inr ⟨rfl, i, hi, ?_⟩
   have := h1 i hi
   rw [ei] at this
   exact this
  ·rw [Zb9 (show ¬ T.none ∈ tab (n + 1) fun i => oR (F i) from fun h => by
    obtain ⟨i, hi, e⟩ := ZdN h
    have e' := oR_none.mp e.symm
    cases i with
    | zero => rw [z0] at e'; cases e'
    | succ i => exact hc ⟨i, by omega, e'⟩)]
   walk_at "zz"
   refine Ztj ?_
   walk_at "zz"
   refine ⟨_, rfl, ?_⟩
   rw [Zrr]
   have hs : ∀ i, i < n → F (i + 1) = some ((F (i + 1)).getD (1, 0)) := fun i hi => by
    cases e : F (i + 1) with
    | none => exact absurd ⟨i, hi, e⟩ hc
    | some q => rfl
   refine .inl ⟨fun i => (F (i + 1)).getD (1, 0), ?_, fun t ht => ?_⟩
   ·unfold ZaT
    congr 1
    refine Zb6 fun i hi => ?_
    conv => lhs; rw [hs i hi]
    rfl
   ·have := h1 t ht
    rw [hs t ht] at this
    exact this
end L
namespace L
open PySem PySem.W PyProof.Rows PM TM My
theorem Ztk {R : Nat → Int × Int} {i j : Nat} (hi : RestOk (ZN R i)) (hj : RestOk (ZN R j)) : Zbu R i j = ZaH (Int.gcd (ZN R i).1 (ZN R j).1 : Nat) ((ZN R i).2 - (ZN R j).2) :=
 ZgF (ZdO R i j) (ZcE (by omega) _) fun x => (ZfB hi hj x).trans (Zc4 (by omega) x).symm
theorem Ztl {G : Nat → Nat → Option Int} {R : Nat → Int × Int} {i j : Nat} (hi : RestOk (ZN R i)) (hj : RestOk (ZN R j)) : ZaV G R i j = if ((Int.gcd (ZN R i).1 (ZN R j).1 : Nat) : Int) = 0 then (match G i j with | none => some ((ZN R i).2 - (ZN R j).2) | some b => if (ZN R i).2 - (ZN R j).2 ≤ b then some ((ZN R i).2 - (ZN R j).2) else none) else (match G i j with | none => none | some b => some (b - (b - ((ZN R i).2 - (ZN R j).2)) % (Int.gcd (ZN R i).1 (ZN R j).1 : Nat))) := by
 unfold ZaV
 rw [Ztk hi hj]
 generalize ((Int.gcd (ZN R i).1 (ZN R j).1 : Nat) : Int) = m at *
 generalize (ZN R i).2 - (ZN R j).2 = r
 unfold ZaH
 by_cases c : m = 0
 ·rw [if_pos c, if_pos c]
  cases G i j with
  | none => simp [ZbO]
  | some b => simp [ZbO, Zdd]
 ·rw [if_neg c, if_neg c]
  cases G i j with
  | none => simp [ZbO, c]
  | some b =>
   have : (b - r.fmod m) % m = (b - r) % m := by
    have h1 : m ∣ (b - r.fmod m) - (b - r) := by
     have := Int.mul_fdiv_add_fmod r m
     exact ⟨r.fdiv m, by omega⟩
    exact Int.emod_eq_emod_iff_emod_sub_eq_zero.mpr (Int.emod_eq_zero_of_dvd h1)
   simp [ZbO, Zdd, c, this]
noncomputable def Ze1 (n : Nat) (G : Nat → Nat → Option Int) (R : Nat → Int × Int) (F : Nat → Nat → Option Int) (i j : Nat) : Prop := ∀ a b, a < n + 1 → b < n + 1 → ((a < i ∨ (a = i ∧ b < j)) → F a b = ZaV G R a b ∧ ∀ c, G a b = some c → ZaV G R a b ≠ none) ∧ (¬ (a < i ∨ (a = i ∧ b < j)) → F a b = G a b)
theorem ZmE {n i j : Nat} {G F : Nat → Nat → Option Int} {R : Nat → Int × Int} (h : Ze1 n G R F i j) (e : G i j = ZaV G R i j) : Ze1 n G R F i (j + 1) := fun a b ha hb => by
 obtain ⟨h1, h2⟩ := h a b ha hb
 refine ⟨fun q => ?_, fun q => h2 (by omega)⟩
 by_cases q' : a = i ∧ b = j
 ·obtain ⟨rfl, rfl⟩ := q'
  rw [h2 (by omega)]
  exact ⟨e, fun c hc => by rw [← e, hc]; simp⟩
 ·exact h1 (by omega)
theorem ZkK {n i j : Nat} {G F : Nat → Nat → Option Int} {R : Nat → Int × Int} {v : Int} (h : Ze1 n G R F i j) (e : ZaV G R i j = some v) : Ze1 n G R (ZcR F i j (some v)) i (j + 1) := fun a b ha hb => by
 obtain ⟨h1, h2⟩ := h a b ha hb
 by_cases q' : a = i ∧ b = j
 ·obtain ⟨rfl, rfl⟩ := q'
  rw [Zlo]
  exact ⟨fun _ => ⟨e.symm, fun c _ => by rw [e]; simp⟩, fun q => by omega⟩
 ·rw [Zht q']
  exact ⟨fun q => h1 (by omega), fun q => h2 (by omega)⟩
theorem ZoZ {n k : Nat} {G : Nat → Nat → Option Int} {R : Nat → Int × Int} {M : Int} (hn : n ≤ 100) (hk : k ≤ 7000) (hM : 0 < M) (bM : Bd k M) (hR : ∀ t, t < n → RB M k (R t)) (hd : ∀ i, i < n + 1 → G i i = some 0) : Pk (Zgo [Zag (n + 1) G, ZaT n R]) fun t => (t = Zag (n + 1) (ZaV G R) ∧ ¬ Zdb n G R) ∨ (t = .none ∧ Zdb n G R) := by
 unfold Zgo ZiH
 have hF := ZcV hR
 have hlz := Zhc (fun i hi => (hF i hi).1) hd
 have hr : ZaT n R = .lst (tab n fun i => Z4 (R i)) := rfl
 rw [hr]
 walk_at "zz"
 rw [ZlR]
 refine ZgT (n := n + 1) (G := G) (by omega) ?_ ?_
 ·walk_at "zz"
  rfl
 walk_at "zz"
 refine ZbL (n := n + 1) (a := fun i => .int i) (P := fun i σ => ∃ F, σ 0 = some (Zag (n + 1) G) ∧ σ 2 = some (.lst (tab (n + 1) fun i => Z4 (ZN R i))) ∧ σ 3 = some (Zag (n + 1) F) ∧ Ze1 n G R F i 0) ?_ ⟨G, by walk_at "zr", by walk_at "zr", by walk_at "zr", fun a b _ _ => ⟨fun q => by omega, fun _ => rfl⟩⟩ ?_ ?_
 ·walk_at "zz"
  rfl
 ·rintro i σ hi ⟨F, e0, e2, e3, lt⟩
  refine ZbL (n := n + 1) (a := fun i => .int i) (P := fun j σ => ∃ F, σ 0 = some (Zag (n + 1) G) ∧ σ 2 = some (.lst (tab (n + 1) fun i => Z4 (ZN R i))) ∧ σ 3 = some (Zag (n + 1) F) ∧ σ 4 = some (.int i) ∧ Ze1 n G R F i j) ?_ ⟨F, by walk_at "zr", by walk_at "zr", by walk_at "zr", by walk_at "zr", lt⟩ ?_ ?_
  ·walk_at "zz"
   rfl
  ·rintro j σ hj ⟨F, e0, e2, e3, e4, lt⟩
   have hi1 := hF i hi
   have hj1 := hF j hj
   have lw := Ztl (G := G) hi1.1 hj1.1
   have f0 : σ 0 = some (.lst (tab (n + 1) fun i => .lst (tab (n + 1) fun j => oT (G i j)))) := e0
   have f3 : σ 3 = some (.lst (tab (n + 1) fun i => .lst (tab (n + 1) fun j => oT (F i j)))) := e3
   have eqi : Z4 (ZN R i) = .tup [.int (ZN R i).1, .int (ZN R i).2] := rfl
   have eqj : Z4 (ZN R j) = .tup [.int (ZN R j).1, .int (ZN R j).2] := rfl
   clear e0 e3
   walk_at "zz"
   rw [eqi]
   walk_at "zz"
   rw [eqj]
   walk_at "zz"
   refine ZT (Zmy (Za4 (hi1.bd hM bM).1 (by omega)) (Za4 (hj1.bd hM bM).1 (by omega))) ?_
   walk_at "zz"
   rw [eqi]
   walk_at "zz"
   rw [eqj]
   walk_at "zz"
   have hm0 : (0 : Int) ≤ ((Int.gcd (ZN R i).1 (ZN R j).1 : Nat) : Int) := by omega
   generalize ((Int.gcd (ZN R i).1 (ZN R j).1 : Nat) : Int) = m at *
   generalize (ZN R i).2 - (ZN R j).2 = r at *
   refine ⟨fun c => ?_, fun c => ⟨fun h => (nomatch h), fun _ => ?_⟩⟩
   ·have cne : (i : Int) ≠ j := of_decide_eq_true c
    by_cases cm : m = 0
    ·rw [if_pos cm] at lw
     walk_at "zz"
     cases hg : G i j with
     | none =>
      rw [hg] at lw
      rw [ZbI]
      walk_at "zz"
      rw [← ZaD (c := r), Zea]
      exact ⟨_, by walk_at "zr", by walk_at "zr", by walk_at "zr", by walk_at "zr", ZkK lt lw⟩
     | some b =>
      rw [hg] at lw
      rw [ZaD]
      walk_at "zz"
      by_cases cb : b < r
      ·walk_at "zz"
       refine .inr ⟨rfl, i, j, hi, hj, b, hg, ?_⟩
       rw [lw]
       exact if_neg (by omega)
      ·walk_at "zz"
       rw [← ZaD (c := r), Zea]
       exact ⟨_, by walk_at "zr", by walk_at "zr", by walk_at "zr", by walk_at "zr", ZkK lt (by rw [lw]; exact if_pos (by omega))⟩
    ·rw [if_neg cm] at lw
     walk_at "zz"
     cases hg : G i j with
     | none =>
      rw [hg] at lw
      rw [ZbI]
      walk_at "zz"
      exact ⟨F, by walk_at "zr", by walk_at "zr", by walk_at "zr", by walk_at "zr", ZmE lt (by rw [hg, lw])⟩
     | some b =>
      rw [hg] at lw
      rw [ZaD]
      walk_at "zz"
      rw [Int.fmod_eq_emod_of_nonneg _ hm0]
      walk_at "zz"
      rw [← ZaD (c := b - (b - r) % m), Zea]
      exact ⟨_, by walk_at "zr", by walk_at "zr", by walk_at "zr", by walk_at "zr", ZkK lt lw⟩
   ·have ceq : i = j := by
     have := of_decide_eq_false c
     omega
    walk_at "zz"
    subst ceq
    exact ⟨F, by walk_at "zr", by walk_at "zr", by walk_at "zr", by walk_at "zr", ZmE lt (by rw [hd _ hi, hlz _ hi])⟩
  ·rintro σ ⟨F, e0, e2, e3, e4, lt⟩
   exact ⟨F, e0, e2, e3, fun a b ha hb => ⟨fun q => (lt a b ha hb).1 (by omega), fun q => (lt a b ha hb).2 (by omega)⟩⟩
 ·rintro σ ⟨F, e0, e2, e3, lt⟩
  walk_at "zz"
  refine .inl ⟨?_, ?_⟩
  ·unfold Zag Zar
   congr 1
   refine Zb6 fun a ha => ?_
   congr 1
   refine Zb6 fun b hb => ?_
   rw [((lt a b ha hb).1 (by omega)).1]
  ·rintro ⟨a, b, ha, hb, c, hc, e⟩
   exact ((lt a b ha hb).1 (by omega)).2 c hc e
end L
namespace L
open PySem PySem.W PyProof.Rows PM TM My
noncomputable def ZbP (G : Nat → Nat → Option Int) : Nat → List Nat → Nat → Option Int
 | i, [], j => G i j
 | i, k :: l, j => Zas (G i k) (ZbP G k l j)
theorem ZcI (G : Nat → Nat → Option Int) : ∀ (i : Nat) (l1 : List Nat) (k : Nat) (l2 : List Nat) (j : Nat), ZbP G i (l1 ++ k :: l2) j = Zas (ZbP G i l1 k) (ZbP G k l2 j)
 | i, [], k, l2, j => rfl
 | i, a :: l1, k, l2, j => by
  show Zas (G i a) (ZbP G a (l1 ++ k :: l2) j) = Zas (Zas (G i a) (ZbP G a l1 k)) (ZbP G k l2 j)
  rw [ZcI G a l1 k l2 j, Zfl]
theorem Zni {n : Nat} {G C : Nat → Nat → Option Int} (hle : ∀ i j, i < n → j < n → leO (C i j) (G i j)) (tri : ∀ k i j, k < n → i < n → j < n → leO (C i j) (Zas (C i k) (C k j))) : ∀ (l : List Nat) (i j : Nat), (∀ a ∈ l, a < n) → i < n → j < n → leO (C i j) (ZbP G i l j)
 | [], i, j, _, hi, hj => hle i j hi hj
 | k :: l, i, j, hl, hi, hj => by
  have hk := hl k Zz5
  exact Zc5 (tri k i j hk hi hj) (ZeI (hle i k hi hk) (Zni hle tri l k j (fun a m => hl a (Zz2 _ m)) hk hj))
theorem ZfT {n : Nat} {G : Nat → Nat → Option Int} : ∀ (m : Nat), m ≤ n → ∀ i j c, Z8 G m i j = some c → ∃ l : List Nat, (∀ a ∈ l, a < n) ∧ ZbP G i l j = some c
 | 0, _, i, j, c, h => ⟨[], by simp, h⟩
 | m + 1, hm, i, j, c, h => by
  rcases ZfJ (Z8 G m i j) (Zas (Z8 G m i m) (Z8 G m m j)) with e | e
  ·rw [show Z8 G (m + 1) i j = _ from e] at h
   exact ZfT (n := n) m (by omega) i j c h
  ·rw [show Z8 G (m + 1) i j = _ from e] at h
   obtain ⟨p, q, h1, h2, h3⟩ := addO_some.mp h
   obtain ⟨l1, a1, b1⟩ := ZfT (n := n) m (by omega) i m p h1
   obtain ⟨l2, a2, b2⟩ := ZfT (n := n) m (by omega) m j q h2
   refine ⟨l1 ++ m :: l2, fun a ha => ?_, by rw [ZcI, b1, b2]; simp [Zas, h3]⟩
   rcases List.mem_append.mp ha with ha | ha
   ·exact a1 a ha
   ·rcases List.mem_cons.mp ha with rfl | ha
    ·omega
    ·exact a2 a ha
theorem ZkL : ∀ (n : Nat) (l : List Nat), l.Nodup → (∀ a ∈ l, a < n) → l.length ≤ n
 | 0, l, _, h => by
  cases l with
  | nil => simp
  | cons a l => exact absurd (h a Zz5) (by omega)
 | n + 1, l, hn, h => by
  have h1 := ZkL n (l.erase n) (hn.erase n) fun a ha => by
   have ha' := List.mem_of_mem_erase ha
   have := h a ha'
   have hne : a ≠ n := fun q => by
    subst q
    exact (List.Nodup.not_mem_erase hn) ha
   omega
  have h2 := List.length_erase_of_mem (a := n) (l := l)
  by_cases q : n ∈ l
  ·have := h2 q; have : 0 < l.length := List.length_pos_of_mem q; omega
  ·rw [List.erase_of_not_mem q] at h1; omega
theorem ZkM : ∀ (l : List Nat), ¬ l.Nodup → ∃ k l1 l2 l3, l = l1 ++ k :: (l2 ++ k :: l3)
 | [], h => absurd List.nodup_nil h
 | a :: l, h => by
  by_cases q : a ∈ l
  ·obtain ⟨l2, l3, e⟩ := List.append_of_mem q
   exact ⟨a, [], l2, l3, by rw [e]; rfl⟩
  ·have : ¬ l.Nodup := fun n => h (List.nodup_cons.mpr ⟨q, n⟩)
   obtain ⟨k, l1, l2, l3, e⟩ := ZkM l this
   exact ⟨k, a :: l1, l2, l3, by rw [e]; rfl⟩
theorem Ztm {n : Nat} {G : Nat → Nat → Option Int} (pos : ∀ k l s, k < n → (∀ a ∈ l, a < n) → ZbP G k l k = some s → 0 ≤ s) {i j : Nat} (hi : i < n) (hj : j < n) : ∀ (L : Nat) (l : List Nat) (s : Int), l.length = L → (∀ a ∈ l, a < n) → ZbP G i l j = some s → ∃ l' s', l'.length + 1 ≤ n ∧ (∀ a ∈ l', a < n) ∧ ZbP G i l' j = some s' ∧ s' ≤ s := by
 intro L
 induction L using Nat.strongRecOn with
 | _ L ih =>
  intro l s hL hl h
  by_cases q : i ∈ l
  ·obtain ⟨l1, l2, e⟩ := List.append_of_mem q
   subst e
   rw [ZcI] at h
   obtain ⟨p, r, h1, h2, h3⟩ := addO_some.mp h
   have hp := pos i l1 p hi (fun a ha => hl a (Zz4 _ ha)) h1
   obtain ⟨l', s', k1, k2, k3, k4⟩ := ih l2.length (by rw [← hL]; simp; omega) l2 r rfl (fun a ha => hl a (Zz3 _ (Zz2 _ ha))) h2
   exact ⟨l', s', k1, k2, k3, by omega⟩
  ·by_cases nd : l.Nodup
   ·have := ZkL n (i :: l) (List.nodup_cons.mpr ⟨q, nd⟩) (fun a ha => by
     rcases List.mem_cons.mp ha with rfl | ha
     ·exact hi
     ·exact hl a ha)
    exact ⟨l, s, by simpa using this, hl, h, by omega⟩
   ·obtain ⟨k, l1, l2, l3, e⟩ := ZkM l nd
    subst e
    rw [ZcI] at h
    obtain ⟨p, r, h1, h2, h3⟩ := addO_some.mp h
    rw [ZcI] at h2
    obtain ⟨p2, r2, h4, h5, h6⟩ := addO_some.mp h2
    have hk : k < n := hl k (by simp)
    have hp := pos k l2 p2 hk (fun a ha => hl a (by simp [ha])) h4
    have h7 : ZbP G i (l1 ++ k :: l3) j = some (p + r2) := by rw [ZcI, h1, h5]; rfl
    obtain ⟨l', s', k1, k2, k3, k4⟩ := ih (l1 ++ k :: l3).length (by rw [← hL]; simp; omega) (l1 ++ k :: l3) (p + r2) rfl (fun a ha => hl a (by simp at ha ⊢; rcases ha with h | h | h <;> simp [h])) h7
    exact ⟨l', s', k1, k2, k3, by omega⟩
theorem Zqy {n : Nat} {G : Nat → Nat → Option Int} : ∀ (L : Nat) (i : Nat) (l : List Nat) (s : Int), l.length = L → i < n → (∀ a ∈ l, a < n) → ZbP G i l i = some s → s < 0 → ∃ i' l' s', l'.length + 1 ≤ n ∧ i' < n ∧ (∀ a ∈ l', a < n) ∧ ZbP G i' l' i' = some s' ∧ s' < 0 := by
 intro L
 induction L using Nat.strongRecOn with
 | _ L ih =>
  intro i l s hL hi hl h hs
  by_cases q : i ∈ l
  ·obtain ⟨l1, l2, e⟩ := List.append_of_mem q
   subst e
   rw [ZcI] at h
   obtain ⟨p, r, h1, h2, h3⟩ := addO_some.mp h
   by_cases hp : p < 0
   ·exact ih l1.length (by rw [← hL]; simp) i l1 p rfl hi (fun a ha => hl a (Zz4 _ ha)) h1 hp
   ·exact ih l2.length (by rw [← hL]; simp; omega) i l2 r rfl hi (fun a ha => hl a (Zz3 _ (Zz2 _ ha))) h2 (by omega)
  ·by_cases nd : l.Nodup
   ·have := ZkL n (i :: l) (List.nodup_cons.mpr ⟨q, nd⟩) (fun a ha => by
     rcases List.mem_cons.mp ha with rfl | ha
     ·exact hi
     ·exact hl a ha)
    exact ⟨i, l, s, by simpa using this, hi, hl, h, hs⟩
   ·obtain ⟨k, l1, l2, l3, e⟩ := ZkM l nd
    subst e
    rw [ZcI] at h
    obtain ⟨p, r, h1, h2, h3⟩ := addO_some.mp h
    rw [ZcI] at h2
    obtain ⟨p2, r2, h4, h5, h6⟩ := addO_some.mp h2
    have hk : k < n := hl k (by simp)
    by_cases hp : p2 < 0
    ·exact ih l2.length (by rw [← hL]; simp; omega) k l2 p2 rfl hk (fun a ha => hl a (by simp [ha])) h4 hp
    ·have h7 : ZbP G i (l1 ++ k :: l3) i = some (p + r2) := by rw [ZcI, h1, h5]; rfl
     exact ih (l1 ++ k :: l3).length (by rw [← hL]; simp; omega) i (l1 ++ k :: l3) (p + r2) rfl hi (fun a ha => hl a (by simp at ha ⊢; rcases ha with h | h | h <;> simp [h])) h7 (by omega)
noncomputable def Zeu (n r : Nat) (G D : Nat → Nat → Option Int) : Prop := (∀ i j, i < n → j < n → ∀ c, D i j = some c → ∃ l : List Nat, (∀ a ∈ l, a < n) ∧ ZbP G i l j = some c) ∧ ∀ (l : List Nat) i j, l.length + 1 ≤ r → (∀ a ∈ l, a < n) → i < n → j < n → leO (D i j) (ZbP G i l j)
theorem Zsi {n : Nat} {G : Nat → Nat → Option Int} : Zeu n 1 G G := ⟨fun i j _ _ c h => ⟨[], by simp, h⟩, fun l i j h _ _ _ => by
 have : l = [] := List.length_eq_zero_iff.mp (by omega)
 subst this
 exact ZcH⟩
noncomputable def Zox (n : Nat) (D D' : Nat → Nat → Option Int) : Prop := ∀ i j, i < n → j < n → leO (D' i j) (D i j) ∧ (∀ k, k < n → leO (D' i j) (Zas (D i k) (D k j))) ∧ (D' i j = D i j ∨ ∃ k, k < n ∧ D' i j = Zas (D i k) (D k j))
theorem Zqz {n r : Nat} {G D D' : Nat → Nat → Option Int} (h : Zeu n r G D) (t : Zox n D D') : Zeu n (2 * r) G D' := by
 refine ⟨fun i j hi hj c e => ?_, fun l i j hl ha hi hj => ?_⟩
 ·obtain ⟨_, _, e1 | ⟨k, hk, e1⟩⟩ := t i j hi hj
  ·rw [e1] at e; exact h.1 i j hi hj c e
  ·rw [e1] at e
   obtain ⟨p, q, h1, h2, h3⟩ := addO_some.mp e
   obtain ⟨l1, a1, b1⟩ := h.1 i k hi hk p h1
   obtain ⟨l2, a2, b2⟩ := h.1 k j hk hj q h2
   refine ⟨l1 ++ k :: l2, fun a ha => ?_, by rw [ZcI, b1, b2]; simp [Zas, h3]⟩
   rcases List.mem_append.mp ha with ha | ha
   ·exact a1 a ha
   ·rcases List.mem_cons.mp ha with rfl | ha
    ·exact hk
    ·exact a2 a ha
 ·obtain ⟨t1, t2, _⟩ := t i j hi hj
  by_cases q : l.length + 1 ≤ r
  ·exact Zc5 t1 (h.2 l i j q ha hi hj)
  ·have hr : 1 ≤ r := by omega
   have hlt : r - 1 < l.length := by omega
   obtain ⟨k, l1, l2, e, hl1⟩ : ∃ k l1 l2, l = l1 ++ k :: l2 ∧ l1.length = r - 1 := ⟨l[r - 1], l.take (r - 1), l.drop r, by
    have e1 := (List.take_append_drop (r - 1) l).symm
    rw [List.drop_eq_getElem_cons hlt, show r - 1 + 1 = r by omega] at e1
    exact e1, by simp; omega⟩
   subst e
   have hk : k < n := ha k (by simp)
   rw [ZcI]
   refine Zc5 (t2 k hk) (ZeI (h.2 l1 i k (by omega) (fun a m => ha a (Zz4 _ m)) hi hk) (h.2 l2 k j ?_ (fun a m => ha a (Zz3 _ (Zz2 _ m))) hk hj))
   simp at hl
   omega
theorem ZqA {n r : Nat} {G D : Nat → Nat → Option Int} (hd : ∀ i, i < n → G i i = some 0) (hr : n ≤ r) (b : Zeu n r G D) (nn : ∀ m, m < n → ¬ Neg n (Z8 G (m + 1))) : ∀ i j, i < n → j < n → D i j = Z8 G n i j := by
 intro i j hi hj
 have low := Zni (n := n) (G := G) (C := Z8 G n) (fun i j _ _ => ZlQ n i j) (fun k i j hk hi hj => ZlG hd n (by omega) nn k hk i j hi hj)
 have zero := Zd5 hd (m := n) nn
 have pos : ∀ k l s, k < n → (∀ a ∈ l, a < n) → ZbP G k l k = some s → 0 ≤ s := fun k l s hk hl e => by
  have := low l k k hl hk hk
  rw [zero k hk, e] at this
  exact leO_some.mp this
 refine Zpv ?_ ?_
 ·intro c e
  obtain ⟨l, h1, h2⟩ := ZfT n (Nat.le_refl n) i j c e
  obtain ⟨l', s', k1, k2, k3, k4⟩ := Ztm pos hi hj _ l c rfl h1 h2
  have := b.2 l' i j (by omega) k2 hi hj
  rw [k3] at this
  obtain ⟨x, e1, e2⟩ := this s' rfl
  exact ⟨x, e1, by omega⟩
 ·intro c e
  obtain ⟨l, h1, h2⟩ := b.1 i j hi hj c e
  have := low l i j h1 hi hj
  rw [h2] at this
  exact this c rfl
theorem Zrs {n r m : Nat} {G D : Nat → Nat → Option Int} (hr : n ≤ r) (b : Zeu n r G D) (hm : m < n) (ng : Neg n (Z8 G (m + 1))) : Neg n D := by
 obtain ⟨i, hi, c, e, hc⟩ := ng
 obtain ⟨l, h1, h2⟩ := ZfT (n := n) (m + 1) (by omega) i i c e
 obtain ⟨i', l', s', k1, k2, k3, k4, k5⟩ := Zqy _ i l c rfl hi h1 h2 hc
 have := b.2 l' i' i' (by omega) k3 k2 k2
 rw [k4] at this
 obtain ⟨x, e1, e2⟩ := this s' rfl
 exact ⟨i', k2, x, e1, by omega⟩
end L
namespace L
open PySem PySem.W PyProof.Rows PM TM My
noncomputable def Zdl (n : Nat) (D F : Nat → Nat → Option Int) (done : Nat → Nat → Nat → Prop) : Prop := ∀ a b, a < n → b < n → leO (F a b) (D a b) ∧ (F a b = D a b ∨ ∃ k, k < n ∧ F a b = Zas (D a k) (D k b)) ∧ ∀ k, k < n → done a b k → leO (F a b) (Zas (D a k) (D k b))
theorem ZkN {n i j k : Nat} {D F : Nat → Nat → Option Int} {done done' : Nat → Nat → Nat → Prop} (h : Zdl n D F done) (hd : ∀ a b c, c < n → done' a b c → done a b c ∨ (a = i ∧ b = j ∧ c = k)) (hl : leO (F i j) (Zas (D i k) (D k j))) : Zdl n D F done' := fun a b ha hb => by
 obtain ⟨h1, h2, h3⟩ := h a b ha hb
 refine ⟨h1, h2, fun c hc q => ?_⟩
 rcases hd a b c hc q with q | ⟨rfl, rfl, rfl⟩
 ·exact h3 c hc q
 ·exact hl
theorem Zsj {n i j k : Nat} {D F : Nat → Nat → Option Int} {done done' : Nat → Nat → Nat → Prop} (h : Zdl n D F done) (hi : i < n) (hj : j < n) (hk : k < n) (hd : ∀ a b c, c < n → done' a b c → done a b c ∨ (a = i ∧ b = j ∧ c = k)) (hl : leO (Zas (D i k) (D k j)) (F i j)) : Zdl n D (ZcR F i j (Zas (D i k) (D k j))) done' := fun a b ha hb => by
 by_cases q : a = i ∧ b = j
 ·obtain ⟨rfl, rfl⟩ := q
  obtain ⟨h1, h2, h3⟩ := h a b ha hb
  rw [Zlo]
  refine ⟨Zc5 hl h1, .inr ⟨k, hk, rfl⟩, fun c hc q => ?_⟩
  rcases hd a b c hc q with q | ⟨_, _, rfl⟩
  ·exact Zc5 hl (h3 c hc q)
  ·exact ZcH
 ·rw [Zht q]
  obtain ⟨h1, h2, h3⟩ := h a b ha hb
  refine ⟨h1, h2, fun c hc q' => ?_⟩
  rcases hd a b c hc q' with q' | ⟨rfl, rfl, _⟩
  ·exact h3 c hc q'
  ·exact absurd ⟨rfl, rfl⟩ q
theorem Zfv {n : Nat} {D F : Nat → Nat → Option Int} {done done' : Nat → Nat → Nat → Prop} (h : Zdl n D F done) (hd : ∀ a b c, a < n → b < n → c < n → done' a b c → done a b c) : Zdl n D F done' := fun a b ha hb => by
 obtain ⟨h1, h2, h3⟩ := h a b ha hb
 exact ⟨h1, h2, fun c hc q => h3 c hc (hd a b c ha hb hc q)⟩
theorem ZqB {n : Nat} {D F : Nat → Nat → Option Int} (h : Zdl n D F fun _ _ _ => True) : Zox n D F := fun a b ha hb => by
 obtain ⟨h1, h2, h3⟩ := h a b ha hb
 exact ⟨h1, fun k hk => h3 k hk trivial, h2⟩
theorem Zpd {n : Nat} {G : Nat → Nat → Option Int} (h0 : 0 < n) (hn : n ≤ 100) (hd : ∀ i, i < n → G i i = some 0) : Pk (Zev [Zag n G]) fun t => ∃ r D, n ≤ r ∧ Zeu n r G D ∧ ((t = Zag n D ∧ ¬ Neg n D) ∨ (t = .none ∧ Neg n D)) := by
 unfold Zev ZhZ
 have hg : Zag n G = .lst (tab n fun i => Zar n (G i)) := rfl
 walk_at "zz"
 rw [hg]
 walk_at "zz"
 refine ZgT (n := n) (G := G) (by omega) ?_ ?_
 ·walk_at "zz"
  rfl
 walk_at "zz"
 refine ZeK (fun m σ => ∃ (r : Nat) (D : Nat → Nat → Option Int), σ 1 = some (.int n) ∧ σ 2 = some (Zag n D) ∧ σ 3 = some (.int r) ∧ Zeu n r G D ∧ 1 ≤ r ∧ r ≤ 2 * n ∧ m = 2 * n - r) _ _ ?_ 1000000 (m := 2 * n - 1) ⟨1, G, by walk_at "zr", by walk_at "zr", by walk_at "zr", Zsi, by omega, by omega, rfl⟩ (by omega)
 rintro m σ ⟨r, D, e1, e2, e3, bs, r1, r2, rfl⟩
 have hdD : ∀ i, i < n → ∃ b, D i i = some b := fun i hi => by
  have := bs.2 [] i i (by simpa using r1) (by simp) hi hi
  rw [show ZbP G i [] i = some 0 from hd i hi] at this
  obtain ⟨x, e, _⟩ := this 0 rfl
  exact ⟨x, e⟩
 walk_at "zz"
 refine ⟨fun c => ?_, fun c => ?_⟩
 ·have hrn : r < n := by simpa using c
  walk_at "zz"
  refine ZgT (n := n) (G := D) (by omega) ?_ ?_
  ·walk_at "zz"
   rfl
  walk_at "zz"
  refine ZbL (n := n) (a := fun i => .int i) (P := fun i σ => ∃ F, σ 1 = some (.int n) ∧ σ 2 = some (Zag n F) ∧ σ 3 = some (.int r) ∧ σ 4 = some (Zag n D) ∧ Zdl n D F fun a _ _ => a < i) ?_ ⟨D, by walk_at "zr", by walk_at "zr", by walk_at "zr", by walk_at "zr", fun a b _ _ => ⟨ZcH, .inl rfl, fun k _ q => by omega⟩⟩ ?_ ?_
  ·walk_at "zz"
   rfl
  ·rintro i σ hi ⟨F0, f1, f2, f3, f4, pt⟩
   refine ZbL (n := n) (a := fun i => .int i) (P := fun j σ => ∃ F, σ 1 = some (.int n) ∧ σ 2 = some (Zag n F) ∧ σ 3 = some (.int r) ∧ σ 4 = some (Zag n D) ∧ σ 5 = some (.int i) ∧ Zdl n D F fun a b _ => a < i ∨ (a = i ∧ b < j)) ?_ ⟨F0, by walk_at "zr", by walk_at "zr", by walk_at "zr", by walk_at "zr", by walk_at "zr", Zfv pt fun a b c _ _ _ q => by omega⟩ ?_ ?_
   ·walk_at "zz"
    rfl
   ·rintro j σ hj ⟨F1, f1, f2, f3, f4, f5, pt⟩
    refine ZbL (n := n) (a := fun i => .int i) (P := fun k σ => ∃ F, σ 1 = some (.int n) ∧ σ 2 = some (Zag n F) ∧ σ 3 = some (.int r) ∧ σ 4 = some (Zag n D) ∧ σ 5 = some (.int i) ∧ σ 6 = some (.int j) ∧ Zdl n D F fun a b c => a < i ∨ (a = i ∧ (b < j ∨ (b = j ∧ c < k)))) ?_ ⟨F1, by walk_at "zr", by walk_at "zr", by walk_at "zr", by walk_at "zr", by walk_at "zr", by walk_at "zr", Zfv pt fun a b c _ _ _ q => by omega⟩ ?_ ?_
    ·walk_at "zz"
     rfl
    ·rintro k σ hk ⟨F, f1, f2, f3, f4, f5, f6, pt⟩
     have hdn : ∀ a b c, c < n → (a < i ∨ (a = i ∧ (b < j ∨ (b = j ∧ c < k + 1)))) → (a < i ∨ (a = i ∧ (b < j ∨ (b = j ∧ c < k)))) ∨ (a = i ∧ b = j ∧ c = k) := fun a b c _ q => by omega
     have f2' := f2
     unfold Zag Zar at f2 f4
     walk_at "zz"
     cases hik : D i k with
     | none =>
      rw [ZbI]
      walk_at "zz"
      exact ⟨F, by walk_at "zr", by walk_at "zr", by walk_at "zr", by walk_at "zr", by walk_at "zr", by walk_at "zr", ZkN pt hdn (by rw [hik]; exact ZeN)⟩
     | some p =>
      rw [ZaD]
      walk_at "zz"
      cases hkj : D k j with
      | none =>
       rw [ZbI]
       walk_at "zz"
       exact ⟨F, by walk_at "zr", by walk_at "zr", by walk_at "zr", by walk_at "zr", by walk_at "zr", by walk_at "zr", ZkN pt hdn (by rw [hik, hkj]; exact ZeN)⟩
      | some q =>
       rw [ZaD]
       walk_at "zz"
       rw [hik, hkj, ZaD, ZaD]
       have hs : Zas (D i k) (D k j) = some (p + q) := by rw [hik, hkj]; rfl
       have hset := Zsj pt hi hj hk hdn
       have hkeep := ZkN pt hdn
       rw [hs] at hset hkeep
       clear f2'
       walk_at "zz"
       cases hij : F i j with
       | none =>
        rw [ZbI]
        walk_at "zz"
        rw [← ZaD (c := p + q), Zea]
        exact ⟨_, by walk_at "zr", by walk_at "zr", by walk_at "zr", by walk_at "zr", by walk_at "zr", by walk_at "zr", hset (by rw [hij]; exact ZeN)⟩
       | some g =>
        rw [ZaD]
        walk_at "zz"
        rw [hij, ZaD]
        walk_at "zz"
        by_cases hlt : p + q < g
        ·walk_at "zz"
         rw [← ZaD (c := p + q), Zea]
         exact ⟨_, by walk_at "zr", by walk_at "zr", by walk_at "zr", by walk_at "zr", by walk_at "zr", by walk_at "zr", hset (by rw [hij]; exact leO_some.mpr (by omega))⟩
        ·walk_at "zz"
         exact ⟨F, by walk_at "zr", by walk_at "zr", by walk_at "zr", by walk_at "zr", by walk_at "zr", by walk_at "zr", hkeep (by rw [hij]; exact leO_some.mpr (by omega))⟩
    ·rintro σ ⟨F, f1, f2, f3, f4, f5, f6, pt⟩
     exact ⟨F, f1, f2, f3, f4, f5, Zfv pt fun a b c _ _ hc q => by omega⟩
   ·rintro σ ⟨F, f1, f2, f3, f4, f5, pt⟩
    exact ⟨F, f1, f2, f3, f4, Zfv pt fun a b c _ hb _ q => by omega⟩
  ·rintro σ ⟨F, f1, f2, f3, f4, pt⟩
   walk_at "zz"
   refine ZnJ (by decide) (by decide) ?_
   walk_at "zz"
   exact ⟨2 * n - 2 * r, by omega, 2 * r, F, by walk_at "zr", by walk_at "zr", by rw [show ((2 * r : Nat) : Int) = 2 * (r : Int) by omega]; walk_at "zr", Zqz bs (ZqB (Zfv pt fun a b c ha _ _ _ => ha)), by omega, by omega, rfl⟩
 ·have hrn : n ≤ r := by simp at c; omega
  refine ZhD ?_
  refine ZbL (n := n) (a := fun i => .int i) (P := fun i σ => σ 2 = some (Zag n D) ∧ ∀ a, a < i → ∀ b, D a a = some b → 0 ≤ b) ?_ ⟨e2, by omega⟩ ?_ ?_
  ·walk_at "zz"
   rfl
  ·rintro i σ hi ⟨f2, f3⟩
   unfold Zag Zar at f2
   obtain ⟨b, eb⟩ := hdD i hi
   walk_at "zz"
   rw [eb, ZaD]
   walk_at "zz"
   by_cases hb : b < 0
   ·walk_at "zz"
    exact ⟨r, D, hrn, bs, .inr ⟨rfl, i, hi, b, eb, hb⟩⟩
   ·walk_at "zz"
    refine ⟨by walk_at "zr", fun a ha c hc => ?_⟩
    by_cases q : a = i
    ·subst q; rw [eb] at hc; cases hc; omega
    ·exact f3 a (by omega) c hc
  ·rintro σ ⟨f2, f3⟩
   walk_at "zz"
   refine ⟨r, D, hrn, bs, .inl ⟨rfl, ?_⟩⟩
   rintro ⟨i, hi, b, eb, hb⟩
   have := f3 i hi b eb
   omega
end L
namespace L
open PySem PySem.W PyProof.Rows PM TM My
theorem ZnR {n : Nat} {G : Nat → Nat → Option Int} (hn : n ≤ 99) (hd : ∀ i, i < n + 1 → G i i = some 0) : Pk (Zev [Zag (n + 1) G]) fun t => (t = Zag (n + 1) (Z8 G (n + 1)) ∧ ¬ ZbY (n + 1) G) ∨ (t = .none ∧ ZbY (n + 1) G) := by
 refine (Zpd (by omega) (by omega) hd).mono ?_
 rintro t ⟨r, D, hr, bs, h⟩
 by_cases hc : ZbY (n + 1) G
 ·obtain ⟨m, hm, ng⟩ := hc
  have ng2 := Zrs hr bs hm ng
  rcases h with ⟨_, h⟩ | ⟨h, _⟩
  ·exact absurd ng2 h
  ·exact .inr ⟨h, m, hm, ng⟩
 ·have nn : ∀ m, m < n + 1 → ¬ Neg (n + 1) (Z8 G (m + 1)) := fun m hm q => hc ⟨m, hm, q⟩
  have same := ZqA hd hr bs nn
  have hz := Zd5 hd nn
  rcases h with ⟨h, _⟩ | ⟨_, i, hi, b, e, hb⟩
  ·refine .inl ⟨?_, hc⟩
   rw [h]
   unfold Zag Zar
   congr 1
   refine Zb6 fun i hi => ?_
   congr 1
   refine Zb6 fun j hj => ?_
   rw [same i j hi hj]
  ·rw [same i i hi hi, hz i hi] at e
   cases e
   omega
theorem Zpy {n k : Nat} {G : Nat → Nat → Option Int} {R : Nat → Int × Int} {M : Int} (hn : n ≤ 99) (hk : k + 2 * n + 4 ≤ 7000) (hM : 0 < M) (bM : Bd k M) (hd : ∀ i, i < n + 1 → G i i = some 0) (bG : BdG (n + 1) k G) (hR : ∀ t, t < n → RB M k (R t)) : Pk (ZcU [Z3 n G R]) fun t => (∃ G2 R2, t = Z3 n G2 R2 ∧ Sharp n G R G2 R2 M (k + 2 * n + 5)) ∨ (t = .none ∧ ZeJ n G R M (k + n + 2)) := by
 unfold ZcU ZgC
 have ht : Z3 n G R = .tup [Zag (n + 1) G, ZaT n R] := rfl
 have hg : ∀ G, Zag (n + 1) G = .lst (tab (n + 1) fun i => Zar (n + 1) (G i)) := fun _ => rfl
 have hr : ∀ R, ZaT n R = .lst (tab n fun i => Z4 (R i)) := fun _ => rfl
 rw [ht]
 walk_at "zz"
 refine (ZnR hn hd).mono ?_
 rintro t (⟨rfl, nr⟩ | ⟨rfl, h⟩)
 ·rw [hg (Z8 G (n + 1))]
  walk_at "zz"
  rw [← hg (Z8 G (n + 1))]
  refine (Zl7 (k := k + n + 1) (by omega) (by omega) hM (bM.mono (by omega)) (ZdS bG (n + 1) (by omega)) (fun t ht => (hR t ht).mono (by omega))).mono ?_
  rintro t (⟨R1, rfl, h1⟩ | ⟨rfl, h⟩)
  ·have hR1 : ∀ t, t < n → RB M (k + n + 2) (R1 t) := fun t ht => (h1 t ht).1
   have hF1 := ZcV hR1
   have z1 := Zd5 hd (m := n + 1) fun m hm q => nr ⟨m, hm, q⟩
   rw [hr R1]
   walk_at "zz"
   rw [← hr R1]
   refine (ZoZ (k := k + n + 2) (by omega) (by omega) hM (bM.mono (by omega)) hR1 z1).mono ?_
   rintro t (⟨rfl, nl⟩ | ⟨rfl, fl⟩)
   ·have bG1 : BdG (n + 1) (k + n + 3) (ZaV (Z8 G (n + 1)) R1) := ZlH hM (bM.mono (by omega)) (fun a b c ha hb e => (ZdS bG (n + 1) (by omega) a b c ha hb e).mono (by omega)) hR1
    have z2 := Zhc (fun i hi => (hF1 i hi).1) z1
    rw [hg (ZaV (Z8 G (n + 1)) R1)]
    walk_at "zz"
    rw [← hg (ZaV (Z8 G (n + 1)) R1)]
    refine (ZnR hn z2).mono ?_
    rintro t (⟨rfl, nr2⟩ | ⟨rfl, h2⟩)
    ·rw [hg (Z8 (ZaV (Z8 G (n + 1)) R1) (n + 1))]
     walk_at "zz"
     rw [← hg (Z8 (ZaV (Z8 G (n + 1)) R1) (n + 1))]
     refine (Zl7 (k := k + n + 3 + n + 1) (by omega) (by omega) hM (bM.mono (by omega)) (fun a b c ha hb e => ZdS bG1 (n + 1) (by omega) a b c ha hb e) (fun t ht => (hR1 t ht).mono (by omega))).mono ?_
     rintro t (⟨R2, rfl, h2⟩ | ⟨rfl, h2⟩)
     ·rw [hr R2]
      walk_at "zz"
      exact .inl ⟨_, R2, rfl, ⟨R1, nr, h1.mono (by omega), nl, nr2, rfl, h2.mono (by omega)⟩⟩
     ·walk_at "zz"
      exact .inr ⟨rfl, .inr (.inr ⟨R1, nr, h1, .inr ⟨nl, .inr ⟨nr2, h2⟩⟩⟩)⟩
    ·walk_at "zz"
     exact .inr ⟨rfl, .inr (.inr ⟨R1, nr, h1, .inr ⟨nl, .inl h2⟩⟩)⟩
   ·walk_at "zz"
    exact .inr ⟨rfl, .inr (.inr ⟨R1, nr, h1, .inl fl⟩)⟩
  ·walk_at "zz"
   exact .inr ⟨rfl, .inr (.inl ⟨nr, h⟩)⟩
 ·walk_at "zz"
  exact .inr ⟨rfl, .inl h⟩
theorem Zo0 : ZcU [.none] = some .none := by
 apply Pk.eq
 unfold ZcU ZgC
 walk_at "zz"
 rfl
end L
namespace L
open PySem PySem.W PyProof.Rows PM TM My
noncomputable def SameG (n : Nat) (A B : Nat → Nat → Option Int) : Prop := ∀ i j, i < n → j < n → A i j = B i j
theorem Zhv {n : Nat} {A B : Nat → Nat → Option Int} (h : SameG n A B) : ∀ m, m ≤ n → SameG n (Z8 A m) (Z8 B m)
 | 0, _ => h
 | m + 1, hm => fun i j hi hj => by
  have ih := Zhv h m (by omega)
  show Zcc (Z8 A m i j) (Zas (Z8 A m i m) (Z8 A m m j)) = Zcc (Z8 B m i j) (Zas (Z8 B m i m) (Z8 B m m j))
  rw [ih i j hi hj, ih i m hi (by omega), ih m j (by omega) hj]
theorem Zrt {n : Nat} {A B : Nat → Nat → Option Int} (h : SameG n A B) (r : ZbY n A) : ZbY n B := by
 obtain ⟨m, hm, i, hi, b, e, hb⟩ := r
 exact ⟨m, hm, i, hi, b, by rw [← Zhv h (m + 1) (by omega) i i hi hi]; exact e, hb⟩
noncomputable def SameR (n : Nat) (R S : Nat → Int × Int) : Prop := ∀ t, t < n → R t = S t
theorem Zg5 {n : Nat} {R S : Nat → Int × Int} (h : SameR n R S) : ∀ i, i < n + 1 → ZN R i = ZN S i
 | 0, _ => rfl
 | i + 1, hi => h i (by omega)
theorem Zlb {n : Nat} {A B : Nat → Nat → Option Int} {R S : Nat → Int × Int} (h : SameG (n + 1) A B) (hr : SameR n R S) : SameG (n + 1) (ZaV A R) (ZaV B S) := fun i j hi hj => by
 unfold ZaV Zbu
 rw [h i j hi hj, Zg5 hr i hi, Zg5 hr j hj]
theorem Zpz {n : Nat} {A B : Nat → Nat → Option Int} {R S : Nat → Int × Int} (h : SameG (n + 1) A B) (hr : SameR n R S) (q : Zdb n A R) : Zdb n B S := by
 obtain ⟨i, j, hi, hj, b, e, l⟩ := q
 exact ⟨i, j, hi, hj, b, by rw [← h i j hi hj]; exact e, by rw [← Zlb h hr i j hi hj]; exact l⟩
theorem Zi5 {n i : Nat} {A B : Nat → Nat → Option Int} {R S : Nat → Int × Int} (h : SameG (n + 1) A B) (hr : SameR n R S) (hi : i < n + 1) {x : Int} (q : Zct n A R i (n + 1) x) : Zct n B S i (n + 1) x := by
 refine ⟨by rw [← Zg5 hr i hi]; exact q.1, fun j hj a b ha hb hab => ?_⟩
 rw [← Zg5 hr j hj]
 exact q.2 j hj a b (by rw [h i j hi hj]; exact ha) (by rw [h j i hj hi]; exact hb) hab
theorem SameG.symm {n : Nat} {A B : Nat → Nat → Option Int} (h : SameG n A B) : SameG n B A := fun i j hi hj => (h i j hi hj).symm
theorem SameR.symm {n : Nat} {A B : Nat → Int × Int} (h : SameR n A B) : SameR n B A := fun i hi => (h i hi).symm
theorem ZkO {n : Nat} {A B : Nat → Nat → Option Int} {R S R' S' : Nat → Int × Int} {M M' : Int} {k k' : Nat} (h : SameG (n + 1) A B) (hr : SameR n R S) (a : Hand n A R R' M k) (b : Hand n B S S' M' k') : SameR n R' S' := fun t ht =>
 ZgF (a t ht).1.1 (b t ht).1.1 fun x => ((a t ht).2 x).trans (Iff.trans ⟨Zi5 h hr (by omega), Zi5 h.symm hr.symm (by omega)⟩ ((b t ht).2 x).symm)
theorem ZmR {n : Nat} {A B : Nat → Nat → Option Int} {R S R' : Nat → Int × Int} {M : Int} {k : Nat} (h : SameG (n + 1) A B) (hr : SameR n R S) (a : Hand n A R R' M k) : ¬ ZeO n B S := by
 rintro ⟨i, hi, q⟩
 exact q _ (Zi5 h hr (by omega) (((a i hi).2 _).mp (a i hi).1.1.self))
theorem ZeF {n : Nat} {A : Nat → Nat → Option Int} : SameG n A A := fun _ _ _ _ => rfl
theorem Zkm {n : Nat} {A : Nat → Int × Int} : SameR n A A := fun _ _ => rfl
theorem Zru {n : Nat} {A B : Nat → Nat → Option Int} {R S : Nat → Int × Int} (h : SameG (n + 1) A B) (hr : SameR n R S) : Z3 n A R = Z3 n B S := by
 unfold Z3 Zag ZaT Zar
 have e1 : (tab (n + 1) fun i => T.lst (tab (n + 1) fun j => oT (A i j))) = tab (n + 1) fun i => T.lst (tab (n + 1) fun j => oT (B i j)) := Zb6 fun i hi => by
  congr 1
  exact Zb6 fun j hj => by rw [h i j hi hj]
 have e2 : (tab n fun i => Z4 (R i)) = tab n fun i => Z4 (S i) := Zb6 fun i hi => by rw [hr i hi]
 rw [e1, e2]
theorem ZqC {n : Nat} {G G2 G2' : Nat → Nat → Option Int} {R R2 R2' : Nat → Int × Int} {M M' : Int} {k k' : Nat} (a : Sharp n G R G2 R2 M k) (b : Sharp n G R G2' R2' M' k') : Z3 n G2 R2 = Z3 n G2' R2' := by
 obtain ⟨R1, a1, a2, a3, a4, rfl, a6⟩ := a.go
 obtain ⟨S1, b1, b2, b3, b4, rfl, b6⟩ := b.go
 have r1 := ZkO ZeF Zkm a2 b2
 have g2 := Zhv (Zlb (A := Z8 G (n + 1)) ZeF r1) (n + 1) (by omega)
 exact Zru g2 (ZkO g2 r1 a6 b6)
theorem ZmS {n : Nat} {G G2 : Nat → Nat → Option Int} {R R2 : Nat → Int × Int} {M M' : Int} {k k' : Nat} (a : Sharp n G R G2 R2 M k) (b : ZeJ n G R M' k') : False := by
 obtain ⟨R1, a1, a2, a3, a4, rfl, a6⟩ := a.go
 rcases b with b | ⟨_, b⟩ | ⟨S1, b1, b2, b⟩
 ·exact a1 b
 ·exact ZmR ZeF Zkm a2 b
 ·have r1 := ZkO ZeF Zkm a2 b2
  have g1 := Zlb (A := Z8 G (n + 1)) ZeF r1
  rcases b with b | ⟨_, b | ⟨_, b⟩⟩
  ·exact a3 (Zpz ZeF r1.symm b)
  ·exact a4 (Zrt g1.symm b)
  ·exact ZmR (Zhv g1 (n + 1) (by omega)) r1 a6 b
theorem ZqD {n k : Nat} {G : Nat → Nat → Option Int} {R : Nat → Int × Int} {M : Int} {t u : T} (h : (∃ G2 R2, t = Z3 n G2 R2 ∧ Sharp n G R G2 R2 M (k + 2 * n + 5)) ∨ (t = .none ∧ ZeJ n G R M (k + n + 2))) (h' : (∃ G2 R2, u = Z3 n G2 R2 ∧ Sharp n G R G2 R2 M (k + 2 * n + 5)) ∨ (u = .none ∧ ZeJ n G R M (k + n + 2))) : t = u := by
 rcases h with ⟨A, B, rfl, h⟩ | ⟨rfl, h⟩
 ·rcases h' with ⟨C, D, rfl, h'⟩ | ⟨rfl, h'⟩
  ·exact ZqC h h'
  ·exact absurd h' fun q => ZmS h q
 ·rcases h' with ⟨C, D, rfl, h'⟩ | ⟨rfl, h'⟩
  ·exact absurd h fun q => ZmS h' q
  ·rfl
end L
namespace L
open PySem PySem.W PyProof.Rows PM TM My
theorem ZqE {n : Nat} {G : Nat → Nat → Option Int} {R : Nat → Int × Int} (hn : n ≤ 100) (hd : ∀ i, i < n + 1 → G i i = some 0) (ok : ∀ t, t < n → RestOk (R t)) : ZgD [Z3 n G R, .int n] = some (.bool true) := by
 apply Pk.eq
 unfold ZgD Zjt Z3 ZaT
 walk_at "zz"
 rw [show (n : Int) + 1 = ((n + 1 : Nat) : Int) by omega]
 refine ZT (Zte (by omega) hd) ?_
 walk_at "zz"
 refine ZbL (n := n) (a := fun i => Z4 (R i)) (P := fun _ _ => True) ?_ trivial ?_ ?_
 ·walk_at "zz"
  rfl
 ·rintro t σ ht _
  have ho := ok t ht
  unfold Z4
  walk_at "zz"
  refine ZT ZkG ?_
  walk_at "zz"
  refine ZT ZkG ?_
  walk_at "zz"
  have h0 := ho.nn
  walk_at "zz"
  rcases ho with h | h
  ·walk_at "zz"
   trivial
  ·walk_at "zz"
   trivial
 ·rintro σ _
  walk_at "zz"
  rfl
theorem ZqF {n k : Nat} {G G2 : Nat → Nat → Option Int} {R R2 : Nat → Int × Int} {M : Int} (hd : ∀ i, i < n + 1 → G i i = some 0) (s : Sharp n G R G2 R2 M k) : (∀ i, i < n + 1 → G2 i i = some 0) ∧ ∀ k, k < n + 1 → ∀ i j, i < n + 1 → j < n + 1 → leO (G2 i j) (Zas (G2 i k) (G2 k j)) := by
 obtain ⟨R1, h1, h2, h3, h4, rfl, h6⟩ := s.go
 have hF := ZcV fun t ht => (h2 t ht).1
 have z1 := Zd5 hd (m := n + 1) fun m hm q => h1 ⟨m, hm, q⟩
 have z2 := Zhc (fun i hi => (hF i hi).1) z1
 exact ⟨Zd5 z2 fun m hm q => h4 ⟨m, hm, q⟩, ZlG z2 (n + 1) (by omega) fun m hm q => h4 ⟨m, hm, q⟩⟩
noncomputable def Zdz (R : Nat → Int × Int) : Nat → Int
 | 0 => 1
 | t + 1 => Zdz R t * (if (R t).1 = 0 then 1 else (R t).1)
theorem ZmT {n : Nat} {R : Nat → Int × Int} (h : ∀ t, t < n → RestOk (R t)) : ∀ m, m ≤ n → 0 < Zdz R m
 | 0, _ => by show (0 : Int) < 1; decide
 | m + 1, hm => by
  have ih := ZmT h m (by omega)
  have := (h m (by omega)).nn
  unfold Zdz
  refine Int.mul_pos ih ?_
  split
  ·decide
  ·omega
theorem ZmU {R : Nat → Int × Int} : ∀ m t, t < m → (R t).1 = 0 ∨ (R t).1 ∣ Zdz R m
 | m + 1, t, ht => by
  by_cases z : (R t).1 = 0
  ·exact .inl z
  ·right
   unfold Zdz
   by_cases q : t = m
   ·subst q
    rw [if_neg z]
    exact Int.dvd_mul_left _ _
   ·exact Int.dvd_trans ((ZmU m t (by omega)).resolve_left z) (Int.dvd_mul_right _ _)
theorem Znj {n k : Nat} {R : Nat → Int × Int} (hk : 1 ≤ k) (h : ∀ t, t < n → Bd k (R t).1) : ∀ m, m ≤ n → Bd (k * m + 1) (Zdz R m)
 | 0, _ => by rw [Nat.mul_zero]; exact Zgb (by omega)
 | m + 1, hm => by
  have ih := Znj hk h m (by omega)
  unfold Zdz
  have h2 : Bd k (if (R m).1 = 0 then 1 else (R m).1) := by
   split
   ·exact Zgb hk
   ·exact h m (by omega)
  have := Bd.mul ih h2
  rw [Nat.mul_succ]
  exact this.mono (by omega)
end L
namespace L
open PySem PySem.W PyProof.Rows PM TM My
theorem Zrv {ns : List Int} {k : Int} {n B : Nat} {G : Nat → Nat → Option Int} {R : Nat → Int × Int} (hL : Lay ns) (h0 : 0 ≤ k) (h9 : k ≤ 1000) (hn : n ≤ 9) (hB2 : 134 ≤ B) (hR : ∀ t, t < n → RestOk (R t)) (sR : SmR B n R) (sG : SmG B n G) : Pk (Zgp [scr ns, .int k, Z3 n G R]) fun t => ∃ G' R', t = Z3 n G' R' ∧ (∀ i, i < n + 1 → G' i i = G i i) ∧ (∀ t, t < n → RestOk (R' t)) ∧ SmG (B + 1) n G' ∧ SmR (B + 1) n R' := by
 unfold Zgp ZiM
 have ht : Z3 n G R = .tup [.lst (tab (n + 1) fun i => Zar (n + 1) (G i)), .lst (tab n fun i => Z4 (R i))] := rfl
 have e134 : (2 : Nat) ^ 134 = 21778071482940061661655974875633165533184 := by decide
 have hpB : (2 : Nat) ^ 134 ≤ 2 ^ B := Nat.pow_le_pow_right (by decide) hB2
 have hpB1 : (2 : Nat) ^ (B + 1) = 2 ^ B * 2 := Nat.pow_succ ..
 have sG1 : SmG (B + 1) n G := fun i j hi hj b h => Za4 (sG i j hi hj b h) (by omega)
 have sR1 : SmR (B + 1) n R := fun t ht => ⟨Za4 (sR t ht).1 (by omega), Za4 (sR t ht).2 (by omega)⟩
 rw [ht]
 walk_at "zz"
 refine ZgT (n := n + 1) (G := G) (by omega) ?_ ?_
 ·walk_at "zz"
  rfl
 unfold Zag Zar
 walk_at "zz"
 obtain ⟨p0, p1⟩ := ZbU ns k (show (0 : Int) < ((n + 1 : Nat) : Int) by omega)
 obtain ⟨i, ei, hi⟩ := ZfS p0 p1
 obtain ⟨p2, p3⟩ := ZbU ns (k + 1) (show (0 : Int) < ((n + 1 : Nat) : Int) by omega)
 obtain ⟨j, ej, hj⟩ := ZfS p2 p3
 obtain ⟨w0, w1⟩ := ZbU ns (k + 2) (show (0 : Int) < 5 by decide)
 obtain ⟨u0, u1⟩ := ZbU ns (k + 3) (show (0 : Int) < 4 by decide)
 obtain ⟨u2, u3⟩ := ZbU ns (k + 3) (show (0 : Int) < 3 by decide)
 refine ZT (Zb1 h0 (by omega) (by omega)) ?_
 rw [ei]
 walk_at "zz"
 refine ZT (Zb1 (by omega) (by omega) (by omega)) ?_
 rw [ej]
 walk_at "zz"
 refine ZT (Zb1 (by omega) (by omega) (by omega)) ?_
 walk_at "zz"
 generalize Za8 ns (k + 2) 5 = w at w0 w1
 by_cases hw : w < 3 ∧ i ≠ j
 ·have hij : (i : Int) ≠ (j : Int) := by omega
  have hw3 := hw.1
  have fin : ∀ v, (∀ b, v = some b → b.natAbs < 2 ^ (B + 1)) → (∀ a, a < n + 1 → ZcR G i j v a a = G a a) ∧ SmG (B + 1) n (ZcR G i j v) := fun v hv => by
   refine ⟨fun a ha => by rw [Zht (by omega)], fun a b ha hb c hc => ?_⟩
   by_cases q : a = i ∧ b = j
   ·obtain ⟨rfl, rfl⟩ := q; rw [Zlo] at hc; exact hv c hc
   ·rw [Zht q] at hc; exact sG1 a b ha hb c hc
  cases hg : G i j with
  | none =>
   walk_at "zz"
   rw [hg, ZbI]
   walk_at "zz"
   refine ZT (Zfu hL (by omega) (by omega)) ?_
   walk_at "zz"
   rw [← ZaD (c := Zb4 ns (k + 3)), Zea]
   walk_at "zz"
   have := Zhs ns (k + 3)
   obtain ⟨f1, f2⟩ := fin (some (Zb4 ns (k + 3))) (fun b e => by cases e; omega)
   exact ⟨ZcR G i j (some (Zb4 ns (k + 3))), R, rfl, f1, hR, f2, sR1⟩
  | some g =>
   walk_at "zz"
   rw [hg, ZaD]
   walk_at "zz"
   rw [hg, ZaD]
   walk_at "zz"
   refine ZT (Zb1 (by omega) (by omega) (by omega)) ?_
   walk_at "zz"
   rw [← ZaD (c := g - 1 - Za8 ns (k + 3) 4), Zea]
   walk_at "zz"
   have := sG i j (by omega) (by omega) g hg
   obtain ⟨f1, f2⟩ := fin (some (g - 1 - Za8 ns (k + 3) 4)) (fun b e => by cases e; omega)
   exact ⟨ZcR G i j _, R, rfl, f1, hR, f2, sR1⟩
 ·have hcase : (¬ w < 3) ∨ (w < 3 ∧ (i : Int) = (j : Int)) := by
   by_cases q : w < 3
   ·exact .inr ⟨q, by
     have : i = j := Classical.byContradiction fun h => hw ⟨q, h⟩
     rw [this]⟩
   ·exact .inl q
  clear hw
  rcases hcase with hw | ⟨hw, hij⟩
  all_goals
   by_cases hn0 : n = 0
   ·subst hn0
    walk_at "zz"
    exact ⟨G, R, rfl, fun _ _ => rfl, hR, sG1, sR1⟩
   ·have hnp : (0 : Int) < (n : Int) := by omega
    walk_at "zz"
    obtain ⟨q0, q1⟩ := ZbU ns k hnp
    obtain ⟨t, et, ht⟩ := ZfS q0 q1
    refine ZT (Zb1 h0 (by omega) hnp) ?_
    rw [et]
    walk_at "zz"
    have hp : Z4 (R t) = .tup [.int (R t).1, .int (R t).2] := rfl
    rw [hp]
    walk_at "zz"
    obtain ⟨m0, m1⟩ : 0 ≤ w.fmod 2 ∧ w.fmod 2 < 2 := ⟨Int.fmod_nonneg_of_pos _ (by decide), Int.fmod_lt_of_pos _ (by decide)⟩
    refine Zda (by omega) (by omega) ?_
    walk_at "zz"
    refine ZT (Zb1 (by omega) (by omega) (by omega)) ?_
    walk_at "zz"
    refine ZT ZeE ?_
    walk_at "zz"
    have hRt := hR t ht
    have hm0 : 0 ≤ (R t).1 := by rcases hRt with h | h <;> omega
    have sRt := sR t ht
    obtain ⟨c, hc, hc1⟩ : ∃ c, (R t).1 * (1 + w.fmod 2) = c ∧ 0 ≤ c ∧ c ≤ (R t).1 * 2 := ⟨_, rfl, Int.mul_nonneg hm0 (by omega), Int.mul_le_mul_of_nonneg_left (by omega) hm0⟩
    rw [hc]
    generalize hpp : ZaH c ((R t).2 + Za8 ns (k + 3) 3) = pp
    have p1 : RestOk pp := by rw [← hpp]; exact ZcE hc1.1 _
    have p2 : pp.1.natAbs < 2 ^ (B + 1) ∧ pp.2.natAbs < 2 ^ (B + 1) := by rw [← hpp]; exact Zgw hc1.1 (by omega) (by omega)
    refine ⟨G, fun s => if s = t then pp else R s, ?_, fun _ _ => rfl, fun s hs => ?_, sG1, fun s hs => ?_⟩
    ·unfold Z3 Zag Zar ZaT
     congr 5
     funext s
     show (if s = t then Z4 pp else Z4 (R s)) = Z4 (if s = t then pp else R s)
     split <;> rfl
    ·show RestOk (if s = t then pp else R s)
     split
     ·exact p1
     ·exact hR s hs
    ·show (if s = t then pp else R s).1.natAbs < _ ∧ (if s = t then pp else R s).2.natAbs < _
     split
     ·exact p2
     ·exact sR1 s hs
end L
namespace L
open PySem PySem.W PyProof.Rows PM TM My
theorem Zpe : ZdI [.none, .none] = some (.bool true) := by
 apply Pk.eq
 unfold ZdI ZgO
 walk_at "zz"
 rfl
theorem Zpf {n : Nat} {G : Nat → Nat → Option Int} {R : Nat → Int × Int} (hn : n ≤ 100) (hd : ∀ i, i < n + 1 → G i i = some 0) (ok : ∀ t, t < n → RestOk (R t)) : ZdI [Z3 n G R, Z3 n G R] = some (.bool true) := by
 apply Pk.eq
 unfold ZdI ZgO
 have ht : Z3 n G R = .tup [Zag (n + 1) G, .lst (tab n fun i => Z4 (R i))] := rfl
 rw [ht]
 walk_at "zz"
 rw [← ht]
 refine ZT (ZqE hn hd ok) ?_
 walk_at "zz"
 refine ZfL Zg8 Zg8 ?_
 rw [Zbi rfl]
end L
namespace L
open PySem PySem.W PyProof.Rows PM TM My
end L
namespace L
open PySem PySem.W PyProof.Rows PM TM My
theorem Zrw {n : Nat} {G : Nat → Nat → Option Int} {R : Nat → Int × Int} {x : Nat → Int} (hn : n ≤ 100) (h : Za5 n G R x) (ok : ∀ t, t < n → RestOk (R t)) : Zd3 [Z3 n G R, ZdW n x] = some (.bool true) := by
 apply Pk.eq
 unfold Zd3 Zj7 Z3 Zag Zar ZaT ZdW
 walk_at "zz"
 rw [Zoj]
 refine ZbL (n := n + 1) (a := fun i => .int i) (P := fun i σ => σ 0 = some (Z3 n G R) ∧ σ 1 = some (.lst (tab n fun i => .int (x i))) ∧ σ 2 = some (.lst (tab (n + 1) fun i => .int (ZaP x i)))) ?_ ⟨by walk_at "zr", by walk_at "zr", by walk_at "zr"⟩ ?_ ?_
 ·walk_at "zz"
  rfl
 ·rintro i σ hi ⟨e0, e1, e2⟩
  refine ZbL (n := n + 1) (a := fun i => .int i) (P := fun j σ => σ 0 = some (Z3 n G R) ∧ σ 1 = some (.lst (tab n fun i => .int (x i))) ∧ σ 2 = some (.lst (tab (n + 1) fun i => .int (ZaP x i))) ∧ σ 3 = some (.int i)) ?_ ⟨by walk_at "zr", by walk_at "zr", by walk_at "zr", by walk_at "zr"⟩ ?_ ?_
  ·walk_at "zz"
   rfl
  ·rintro j σ hj ⟨f0, f1, f2, f3⟩
   unfold Z3 Zag Zar ZaT at f0
   walk_at "zz"
   cases hg : G i j with
   | none =>
    rw [ZbI]
    walk_at "zz"
    exact ⟨by walk_at "zr", by walk_at "zr", by walk_at "zr", by walk_at "zr"⟩
   | some b =>
    have := h.1 i j hi hj b hg
    rw [ZaD]
    walk_at "zz"
    rw [hg, ZaD]
    walk_at "zz"
    exact ⟨by walk_at "zr", by walk_at "zr", by walk_at "zr", by walk_at "zr"⟩
  ·rintro σ ⟨f0, f1, f2, f3⟩
   exact ⟨f0, f1, f2⟩
 ·rintro σ ⟨e0, e1, e2⟩
  refine ZhD ?_
  refine ZbL (n := n) (a := fun i => .int i) (P := fun j σ => σ 0 = some (Z3 n G R) ∧ σ 1 = some (.lst (tab n fun i => .int (x i)))) ?_ ⟨e0, e1⟩ ?_ ?_
  ·walk_at "zz"
   rfl
  ·rintro t σ ht ⟨f0, f1⟩
   unfold Z3 Zag Zar ZaT Z4 at f0
   have ho := ok t ht
   have hh := h.2 t ht
   unfold ZaK at hh
   walk_at "zz"
   by_cases c : (R t).1 = 0
   ·have := hh.1 c
    walk_at "zz"
    exact ⟨by walk_at "zr", by walk_at "zr"⟩
   ·have hp : 0 < (R t).1 := by have := ho.nn; omega
    have h2 : (x t - (R t).2) % (R t).1 = 0 := hh.2 hp
    walk_at "zz"
    rw [Int.fmod_eq_emod_of_nonneg _ (by omega), h2]
    walk_at "zz"
    exact ⟨by walk_at "zr", by walk_at "zr"⟩
  ·rintro σ _
   walk_at "zz"
   rfl
end L
namespace L
open PySem PySem.W PyProof.Rows PM TM My
theorem ZuE {n : Nat} {G : Nat → Nat → Option Int} {R : Nat → Int × Int} : ∃ l, Zcn (Ze3 0 (.int 7)) [0, 0] (Z3 n G R) = some (.tup [.lst l, ZaT n R]) ∧ l.length = n + 1 := by
 refine ⟨((tab (n + 1) fun i => T.lst (tab (n + 1) fun j => oT (G i j))).set 0 (.lst ((tab (n + 1) fun j => oT (G 0 j)).set 0 (.int 7)))), ?_, by rw [List.length_set, ZaC]⟩
 unfold Z3 Zag Zar
 simp only [Zcn, List.length_cons, List.length_nil, ZaC, Zdy (show (0 : Int) ≤ 0 by decide) (show (0 : Int) < ((0 + 1 + 1 : Nat) : Int) by decide), Zdy (show (0 : Int) ≤ 0 by decide) (show (0 : Int) < ((n + 1 : Nat) : Int) by omega), Option.bind_some, Int.toNat_zero, List.getElem?_cons_zero, ZbD (show 0 < n + 1 by omega), Ze3]
 rw [if_pos ⟨by omega, by omega⟩]
 rfl
theorem ZuF {l : List T} {w r : T} (hl : l.length ≤ 1000) : Zcn (ZdV w) [0] (.tup [.lst l, r]) = some (.tup [.lst (l ++ [w]), r]) := by
 simp only [Zcn, List.length_cons, List.length_nil, Zdy (show (0 : Int) ≤ 0 by decide) (show (0 : Int) < ((0 + 1 + 1 : Nat) : Int) by decide), Option.bind_some, ZdV, show (0 : Int).toNat = 0 from rfl, List.getElem?_cons_zero]
 rw [if_pos (by rw [Zbc]; omega)]
 rfl
theorem ZuG {n : Nat} {g w : T} {R : Nat → Int × Int} (hn : n ≤ 100) : ∃ u, Zcn (ZdV w) [1] (.tup [g, ZaT n R]) = some u := by
 refine ⟨.tup [g, .lst ((tab n fun i => Z4 (R i)) ++ [w])], ?_⟩
 unfold ZaT
 simp only [Zcn, List.length_cons, List.length_nil, Zdy (show (0 : Int) ≤ 1 by decide) (show (1 : Int) < ((0 + 1 + 1 : Nat) : Int) by decide), Option.bind_some, ZdV, ZaC, show (1 : Int).toNat = 1 from rfl, List.getElem?_cons_succ, List.getElem?_cons_zero]
 rw [if_pos (by rw [Zbc]; omega)]
 rfl
end L
namespace L
open PySem PySem.W PyProof.Rows PM TM My
section
variable {σ : TL} {Q : T → Prop}
theorem Zhw {a b : List T} (hl : a.length + b.length ≤ 10000) (h : Q (.lst (a ++ b))) : Pk (Z6 (.lst a) (.lst b)) Q := by
 refine ⟨_, ?_, h⟩
 simp only [Z6]
 rw [if_pos (by rw [Zbc, List.length_append]; omega)]
theorem ZeT {a : T} {n : Nat} (hn : n ≤ 1000) (h : Q (.lst (tab n fun _ => a))) : Pk (Zat (.lst [a]) (.int n)) Q := by
 have e : ∀ n, Zf7 [a] n = tab n fun _ => a := fun n => by
  induction n with
  | zero => rfl
  | succ n ih => show Zf7 [a] n ++ [a] = _; rw [ih]; exact Zc7 (f := fun _ => a)
 refine ⟨_, ?_, h⟩
 simp only [Zat, List.length_cons, List.length_nil, Int.toNat_natCast, e]
 rw [if_pos ⟨by rw [Zbc]; omega, by omega, by omega⟩]
end
theorem Zc9 {a b : PS} {σ : TL} {R : T → Prop} {N : TL → Prop} (M : TL → Prop) (h1 : Psk (a σ) R M) (h2 : ∀ σ, M σ → Psk (b σ) R N) : Psk (Zt a b σ) R N := by
 obtain ⟨o, s, e, p, q⟩ := h1
 exact ZhD ⟨o, s, e, p, fun h => h2 s (q h)⟩
end L
namespace L
open PySem PySem.W PyProof.Rows PM TM My
theorem Ztn {a : Nat} (h : a ≤ 4) : Zcb a a 1 = some [] := by
 have : a = 0 ∨ a = 1 ∨ a = 2 ∨ a = 3 ∨ a = 4 := by omega
 obtain rfl | rfl | rfl | rfl | rfl := this <;> (unfold Zcb; rw [if_pos (by decide +kernel)]; rfl)
theorem Znk {σ : TL} {g : PEs} {a m : Nat} {L : List T → Prop} (ha : a ≤ 4) (hm : m ≤ 100) (e : g σ = some [.int a, .int (a + m)]) (h : L (tab m fun i => .int ((a + i : Nat) : Int))) : Pl (ZaG g σ) L := by
 cases m with
 | zero =>
  have e2 : Zcb (a : Int) ((a : Int) + ((0 : Nat) : Int)) 1 = some [] := by simpa using Ztn ha
  exact ⟨[], ZfG e e2, h⟩
 | succ m =>
  refine ⟨_, ZfG e (by have := ZnA (a := a) (n := m + 1) (by omega) (by omega); simpa using this), ?_⟩
  rw [show (tab (m + 1) fun i => T.int ((a : Int) + i)) = tab (m + 1) fun i => .int ((a + i : Nat) : Int) from Zb6 fun i _ => by congr 1]
  exact h
end L
namespace L
open PySem PySem.W PyProof.Rows PM TM My
noncomputable def Zaj (n : Nat) (c : Nat → Int) : T := .lst (tab (n + 1) fun i => .int (c i))
theorem ZpA {n b : Nat} {c : Nat → Int} {k : Int} (hn : n ≤ 1000) (hb : b ≤ 100000) (bc : ∀ i, i < n + 1 → Bd b (c i)) (bk : Bd b k) : ZgE [Zaj n c, .int k] = some (Zaj n fun i => c i * k) := by
 apply Pk.eq
 unfold ZgE Zjw Zaj
 walk_at "zz"
 refine ZbR (n := n + 1) (a := fun i => .int (c i)) (b := fun i => .int (c i * k)) (by omega) ?_ (fun i hi => ?_) rfl
 ·walk_at "zz"
  rfl
 ·walk_at "zz"
  exact ZbE (ZbQ (bc i hi) bk (by omega) (by omega)) rfl
noncomputable def S40 (G : Nat → Nat → Option Int) (i : Nat) : Sp := ((G 0 (i + 1)).map fun y => y * (-1), G (i + 1) 0)
theorem ZoL {n b : Nat} {G : Nat → Nat → Option Int} {R : Nat → Int × Int} (hn : n ≤ 90) (hb : b ≤ 100000) (hb1 : 1 ≤ b) (bG : ∀ i j, i < n + 1 → j < n + 1 → ∀ y, G i j = some y → Bd b y) : Zgk [Z3 n G R] = some (.lst (tab n fun i => spT (S40 G i))) := by
 apply Pk.eq
 unfold Zgk Zip
 have ht : Z3 n G R = .tup [.lst (tab (n + 1) fun i => .lst (tab (n + 1) fun j => oT (G i j))), .lst (tab n fun i => Z4 (R i))] := rfl
 rw [ht]
 walk_at "zz"
 refine ZbR (n := n) (a := fun i => .int ((1 + i : Nat) : Int)) (b := fun i => spT (S40 G i)) (by omega) ?_ (fun i hi => ?_) rfl
 ·refine Znk (a := 1) (m := n) (by omega) (by omega) ?_ rfl
  simp only [Zf, Zk, Zn, Zy, Za, ZZ, Option.bind_some, if_true, Zao, ZaC]
  congr 3
  congr 1
  omega
 ·have h1 : 1 + i < n + 1 := by omega
  have h0 : 0 < n + 1 := by omega
  walk_at "zz"
  refine ZT (Zi4 hb (fun y e => bG 0 (1 + i) h0 h1 y e) (show Bd b (-1) by unfold Bd; have := Zgb hb1; unfold Bd at this; simpa using this)) ?_
  walk_at "zz"
  unfold spT S40
  rw [show 1 + i = i + 1 by omega]
  rfl
theorem Zmo {σ : TL} {j : Nat} {cnd : PB} {P : T → Bool} : ∀ {ts : List T}, (∀ t ∈ ts, cnd (ZZ σ j t) = some (P t)) → Zcp (Z5 j) cnd (Za j) σ ts = some (ts.filter P)
 | [], _ => rfl
 | t :: ts, h => by
  have ih := Zmo fun t m => h t (Zz2 _ m)
  have h0 := h t Zz5
  simp only [Zcp, Z5, Option.bind_some, h0, Za, Zb0, ih, Option.map_some, List.filter_cons]
  cases P t <;> rfl
theorem ZkP {σ : TL} {j : Nat} {g : PG} {cnd : PB} {P : T → Bool} {ts : List T} {Q : T → Prop} (hl : ts.length ≤ 10000) (hg : Pl (g σ) fun us => us = ts) (hc : ∀ t ∈ ts, Pb (cnd (ZZ σ j t)) fun b => b = P t) (h : Q (.lst (ts.filter P))) : Pk (Zan g (Z5 j) cnd (Za j) σ) Q := by
 obtain ⟨us, e, rfl⟩ := hg
 refine ⟨_, ?_, h⟩
 have := Zmo (σ := σ) (j := j) (cnd := cnd) (P := P) (ts := us) fun t m => by
  obtain ⟨b, e1, rfl⟩ := hc t m
  exact e1
 simp only [Zan, e, Option.bind_some, this, Option.map_some]
 rw [if_pos (by rw [Zbc]; omega)]
noncomputable def xsI (n : Nat) (c : Nat → Int) : List Int := tab n fun i => c (i + 1)
noncomputable def nzI (n : Nat) (c : Nat → Int) : List Int := (xsI n c).filter fun x => decide (x ≠ 0)
noncomputable def Df (n : Nat) (c : Nat → Int) : Prop := PM.Zc2 (nzI n c) = [-1, 1]
theorem Zhd (ks : List Int) : Zc1 (ks.map T.int) = some ks := by
 induction ks with
 | nil => rfl
 | cons k ks ih => simp [Zc1, ih]
theorem ZpV {a b : List Int} (h : a.map T.int = b.map T.int) : a = b := by
 have := congrArg Zc1 h
 rw [Zhd, Zhd] at this
 simpa using this
theorem Zlq (ks : List Int) : Pln 1 (.lst (ks.map T.int)) := .lst fun t m => by
 obtain ⟨k, _, rfl⟩ := List.mem_map.mp m
 exact .int
theorem tab_map {α β : Type} {n : Nat} {f : Nat → α} {g : α → β} : (tab n f).map g = tab n fun i => g (f i) := by simp [tab]
theorem ZoE {n : Nat} {c : Nat → Int} (hn : n ≤ 60) : Zgg [Zaj n c] = some (.bool (dec (Df n c))) := by
 apply Pk.eq
 unfold Zgg Zib Zaj
 walk_at "zz"
 refine ZkP (ts := (xsI n c).map T.int) (P := fun t => match t with | .int x => decide (x ≠ 0) | _ => false) (by simp [xsI, ZaC]; omega) ?_ (fun t m => ?_) ?_
 ·refine Zhl ?_
  refine ZkH ?_
  walk_at "zz"
  refine ⟨_, rfl, ?_⟩
  rw [Zla]
  refine Sq.lst ?_
  unfold xsI
  rw [tab_map]
 ·obtain ⟨x, _, rfl⟩ := List.mem_map.mp m
  walk_at "zz"
  rfl
 have ef : ((xsI n c).map T.int).filter (fun t => match t with | .int x => decide (x ≠ 0) | _ => false) = (nzI n c).map T.int := by
  unfold nzI
  rw [List.filter_map]
  rfl
 rw [ef]
 have hl : (nzI n c).length ≤ n := by
  unfold nzI
  refine Nat.le_trans (List.length_filter_le _ _) ?_
  simp [xsI, ZaC]
 walk_at "zz"
 refine ⟨.lst ((PM.Zc2 (nzI n c)).map T.int), ?_, ?_⟩
 ·simp only [Zho, Zhd, Option.bind_some, List.length_map]
  rw [if_pos (by omega)]
 walk_at "zz"
 refine ZfL (n := 1) (m := 1) (Zlq _) (Zlq [-1, 1]) ?_
 by_cases h : Df n c
 ·rw [Zbi h, Zbi]
  show T.lst ((PM.Zc2 (nzI n c)).map T.int) = _
  rw [show PM.Zc2 (nzI n c) = [-1, 1] from h]
  rfl
 ·rw [Zb9 h, Zb9]
  intro q
  refine h (ZpV ?_)
  simpa using q
noncomputable def ZaA (c : Nat → Int) : Nat → List Nat
 | 0 => []
 | n + 1 => ZaA c n ++ (if 0 < c (n + 1) then [n + 1] else [])
noncomputable def ZaF (c : Nat → Int) : Nat → List Nat
 | 0 => []
 | n + 1 => ZaF c n ++ (if c (n + 1) < 0 then [n + 1] else [])
theorem ups_mem {c : Nat → Int} : ∀ {n i : Nat}, i ∈ ZaA c n ↔ 1 ≤ i ∧ i ≤ n ∧ 0 < c i
 | 0, i => by simp [ZaA]; omega
 | n + 1, i => by
  simp only [ZaA, List.mem_append, ups_mem (n := n)]
  by_cases h : 0 < c (n + 1)
  ·simp only [h, if_true, List.mem_singleton]
   constructor
   ·rintro (⟨a, b, d⟩ | rfl)
    ·exact ⟨a, by omega, d⟩
    ·exact ⟨by omega, by omega, h⟩
   ·rintro ⟨a, b, d⟩
    by_cases q : i = n + 1
    ·exact .inr q
    ·exact .inl ⟨a, by omega, d⟩
  ·simp only [h, if_false, List.not_mem_nil, or_false]
   constructor
   ·rintro ⟨a, b, d⟩; exact ⟨a, by omega, d⟩
   ·rintro ⟨a, b, d⟩
    have : i ≠ n + 1 := fun q => h (q ▸ d)
    exact ⟨a, by omega, d⟩
theorem dns_mem {c : Nat → Int} : ∀ {n i : Nat}, i ∈ ZaF c n ↔ 1 ≤ i ∧ i ≤ n ∧ c i < 0
 | 0, i => by simp [ZaF]; omega
 | n + 1, i => by
  simp only [ZaF, List.mem_append, dns_mem (n := n)]
  by_cases h : c (n + 1) < 0
  ·simp only [h, if_true, List.mem_singleton]
   constructor
   ·rintro (⟨a, b, d⟩ | rfl)
    ·exact ⟨a, by omega, d⟩
    ·exact ⟨by omega, by omega, h⟩
   ·rintro ⟨a, b, d⟩
    by_cases q : i = n + 1
    ·exact .inr q
    ·exact .inl ⟨a, by omega, d⟩
  ·simp only [h, if_false, List.not_mem_nil, or_false]
   constructor
   ·rintro ⟨a, b, d⟩; exact ⟨a, by omega, d⟩
   ·rintro ⟨a, b, d⟩
    have : i ≠ n + 1 := fun q => h (q ▸ d)
    exact ⟨a, by omega, d⟩
theorem ZnS {c : Nat → Int} : ∀ n, (ZaA c n).length ≤ n
 | 0 => Nat.le_refl 0
 | n + 1 => by
  have := ZnS (c := c) n
  simp only [ZaA, List.length_append]
  split <;> simp <;> omega
theorem ZnT {c : Nat → Int} : ∀ n, (ZaF c n).length ≤ n
 | 0 => Nat.le_refl 0
 | n + 1 => by
  have := ZnT (c := c) n
  simp only [ZaF, List.length_append]
  split <;> simp <;> omega
theorem Znl {c : Nat → Int} : ∀ n, (ZaA c n).map c = (xsI n c).filter fun x => decide (0 < x)
 | 0 => rfl
 | n + 1 => by
  have e : xsI (n + 1) c = xsI n c ++ [c (n + 1)] := (Zc7 (n := n) (f := fun i => c (i + 1))).symm
  rw [e, List.filter_append, ← Znl n]
  simp only [ZaA, List.map_append]
  by_cases h : 0 < c (n + 1) <;> simp [h]
theorem Znm {c : Nat → Int} : ∀ n, (ZaF c n).map c = (xsI n c).filter fun x => decide (x < 0)
 | 0 => rfl
 | n + 1 => by
  have e : xsI (n + 1) c = xsI n c ++ [c (n + 1)] := (Zc7 (n := n) (f := fun i => c (i + 1))).symm
  rw [e, List.filter_append, ← Znm n]
  simp only [ZaF, List.map_append]
  by_cases h : c (n + 1) < 0 <;> simp [h]
theorem df_iff {n : Nat} {c : Nat → Int} : Df n c ↔ (ZaA c n).map c = [1] ∧ (ZaF c n).map c = [-1] := by
 rw [Znl, Znm]
 have hp : (nzI n c).Perm ((xsI n c).filter (fun x => decide (0 < x)) ++ (xsI n c).filter (fun x => decide (x < 0))) := by
  unfold nzI
  generalize xsI n c = xs
  induction xs with
  | nil => exact List.Perm.refl _
  | cons x xs ih =>
   by_cases h1 : 0 < x
   ·have : x ≠ 0 := by omega
    have h2 : ¬ x < 0 := by omega
    simp only [List.filter_cons, h1, h2, this, decide_true, decide_false, ne_eq, not_false_eq_true, if_true, Bool.false_eq_true, if_false, List.cons_append]
    exact List.Perm.cons _ ih
   ·by_cases h2 : x < 0
    ·have : x ≠ 0 := by omega
     simp only [List.filter_cons, h1, h2, this, decide_true, decide_false, ne_eq, not_false_eq_true, if_true, Bool.false_eq_true, if_false]
     exact (List.Perm.cons _ ih).trans List.perm_middle.symm
    ·have : x = 0 := by omega
     subst this
     simpa using ih
 constructor
 ·intro h
  have hq : (nzI n c).Perm [-1, 1] := by
   have := List.mergeSort_perm (nzI n c) fun a b => decide (a ≤ b)
   rw [show (nzI n c).mergeSort (fun a b => decide (a ≤ b)) = [-1, 1] from h] at this
   exact this.symm
  have hf : ∀ q : Int → Bool, (∀ x, q x = true → x ≠ 0) → (xsI n c).filter q = (nzI n c).filter q := fun q hq => by
   unfold nzI
   rw [List.filter_filter]
   refine List.filter_congr fun x _ => ?_
   cases e : q x with
   | false => simp
   | true => simp [hq x e]
  rw [hf _ (fun x h => by simp at h; omega), hf _ (fun x h => by simp at h; omega)]
  have p1 := hq.filter fun x => decide (0 < x)
  have p2 := hq.filter fun x => decide (x < 0)
  exact ⟨List.perm_singleton.mp (by simpa using p1), List.perm_singleton.mp (by simpa using p2)⟩
 ·rintro ⟨h1, h2⟩
  rw [h1, h2] at hp
  unfold Df
  refine (PM.Zm8 ?_ ?_).symm
  ·exact (hp.trans (List.Perm.swap (-1) 1 [])).symm
  ·simp
end L
namespace L
open PySem PySem.W PyProof.Rows PM TM My
theorem Znn {σ : TL} {p q r : PE} {Q : T → Prop} (h : Pk (p σ) fun t => ∃ ks : List Int, t = .lst (ks.map T.int) ∧ Pk (q σ) fun u => ∃ k, u = .int k ∧ Pk (r σ) fun v => v = .int 1 ∧ k ∈ ks.drop 1 ∧ Q (.int ((1 + (ks.drop 1).idxOf k : Nat) : Int))) : Pk (ZfQ p q r σ) Q := by
 obtain ⟨_, e1, ks, rfl, _, e2, k, rfl, _, e3, rfl, hm, h⟩ := h
 refine ⟨_, ?_, h⟩
 simp only [ZfQ, e1, e2, e3, Option.bind_some, Zhd]
 rw [if_pos ⟨trivial, hm⟩]
theorem Zhx {n : Nat} {c : Nat → Int} : (tab (n + 1) c).drop 1 = xsI n c := by
 unfold xsI
 apply List.ext_getElem
 ·simp [tab]
 ·intro i h1 h2
  simp [tab]
theorem Zoo {l : List Nat} {c : Nat → Int} {k : Int} (h : l.map c = [k]) : ∃ u, l = [u] ∧ c u = k := by
 cases l with
 | nil => simp at h
 | cons a l =>
  cases l with
  | nil => exact ⟨a, rfl, by simpa using h⟩
  | cons b l => simp at h
theorem Zoy {n i : Nat} {c : Nat → Int} (hi : i < n) : (xsI n c)[i]? = some (c (i + 1)) := ZbD (f := fun i => c (i + 1)) hi
theorem Zop {n u : Nat} {c : Nat → Int} {k : Int} (h1 : 1 ≤ u) (h2 : u ≤ n) (hu : c u = k) (ho : ∀ i, 1 ≤ i → i ≤ n → c i = k → i = u) : 1 + (xsI n c).idxOf k = u ∧ k ∈ xsI n c := by
 have hm : k ∈ xsI n c := List.mem_of_getElem? (i := u - 1) (by rw [Zoy (by omega), show u - 1 + 1 = u by omega, hu])
 have hl : (xsI n c).idxOf k < (xsI n c).length := List.idxOf_lt_length_iff.mpr hm
 have hn : (xsI n c).length = n := ZaC
 have hk := List.getElem_idxOf hl
 have hx : (xsI n c)[(xsI n c).idxOf k]? = some k := by rw [List.getElem?_eq_getElem hl, hk]
 rw [Zoy (by omega)] at hx
 have := ho ((xsI n c).idxOf k + 1) (by omega) (by omega) (by simpa using hx)
 exact ⟨by omega, hm⟩
theorem Zg6 {n : Nat} {c : Nat → Int} (h : Df n c) : ∃ u d, ZaA c n = [u] ∧ ZaF c n = [d] ∧ c u = 1 ∧ c d = -1 ∧ u < n + 1 ∧ d < n + 1 ∧ 1 ≤ u ∧ 1 ≤ d ∧ 1 + (xsI n c).idxOf 1 = u ∧ 1 + (xsI n c).idxOf (-1) = d ∧ 1 ∈ xsI n c ∧ -1 ∈ xsI n c := by
 obtain ⟨h1, h2⟩ := df_iff.mp h
 obtain ⟨u, eu, hu⟩ := Zoo h1
 obtain ⟨d, ed, hd⟩ := Zoo h2
 have mu := ups_mem.mp (show u ∈ ZaA c n by rw [eu]; simp)
 have md := dns_mem.mp (show d ∈ ZaF c n by rw [ed]; simp)
 have a1 := Zop mu.1 mu.2.1 hu fun i q1 q2 q3 => by
  have : i ∈ ZaA c n := ups_mem.mpr ⟨q1, q2, by omega⟩
  rw [eu] at this
  simpa using this
 have a2 := Zop md.1 md.2.1 hd fun i q1 q2 q3 => by
  have : i ∈ ZaF c n := dns_mem.mpr ⟨q1, q2, by omega⟩
  rw [ed] at this
  simpa using this
 exact ⟨u, d, eu, ed, hu, hd, by omega, by omega, mu.1, md.1, a1.1, a2.1, a1.2, a2.2⟩
noncomputable def grt (n : Nat) (G : Nat → Nat → Option Int) (c : Nat → Int) : Option Int := if dec (Df n c) then Zas (G (1 + (xsI n c).idxOf 1) (1 + (xsI n c).idxOf (-1))) (some (c 0)) else (ZbS c (S40 G) n).2
noncomputable def GB (b n : Nat) (G : Nat → Nat → Option Int) : Prop := ∀ i j, i < n + 1 → j < n + 1 → ∀ y, G i j = some y → Bd b y
theorem Zoq {b n : Nat} {G : Nat → Nat → Option Int} (hG : GB b n G) : ∀ i, i < n → SBd b (S40 G i) := fun i hi => ⟨fun x e => by
 obtain ⟨y, e1, e2⟩ := Zz1.mp e
 have := hG 0 (i + 1) (by omega) (by omega) y e1
 subst e2
 unfold Bd at *
 omega, fun x e => hG (i + 1) 0 (by omega) (by omega) x e⟩
theorem ZpW {n b : Nat} {G : Nat → Nat → Option Int} {R : Nat → Int × Int} {c : Nat → Int} (hn : n ≤ 60) (hb : b ≤ 100000) (hb1 : 1 ≤ b) (hG : GB b n G) (bc : ∀ i, i < n + 1 → Bd b (c i)) : ZgP [Z3 n G R, Zaj n c] = some (oT (grt n G c)) := by
 apply Pk.eq
 unfold ZgP Zka grt
 have ht : Z3 n G R = .tup [.lst (tab (n + 1) fun i => .lst (tab (n + 1) fun j => oT (G i j))), .lst (tab n fun i => Z4 (R i))] := rfl
 have hs : Zaj n c = .lst ((tab (n + 1) c).map T.int) := by unfold Zaj; rw [tab_map]
 walk_at "zz"
 refine ZT (ZoE hn) ?_
 by_cases h : Df n c
 ·obtain ⟨u, d, _, _, _, _, hu, hd, _, _, eu, ed, mu, md⟩ := Zg6 h
  rw [Zbi h]
  rw [ht]
  walk_at "zz"
  refine Znn ?_
  walk_at "zz"
  refine ⟨tab (n + 1) c, hs, ?_⟩
  walk_at "zz"
  refine ⟨1, rfl, ?_⟩
  walk_at "zz"
  refine ⟨rfl, by rw [Zhx]; exact mu, ?_⟩
  rw [Zhx, eu]
  walk_at "zz"
  refine Znn ?_
  walk_at "zz"
  refine ⟨tab (n + 1) c, hs, ?_⟩
  walk_at "zz"
  refine ⟨-1, rfl, ?_⟩
  walk_at "zz"
  refine ⟨rfl, by rw [Zhx]; exact md, ?_⟩
  rw [Zhx, ed]
  unfold Zaj
  walk_at "zz"
  exact ZT (Zfh (b := some (c (Int.toNat 0)))) rfl
 ·rw [Zb9 h]
  walk_at "zz"
  refine ZT (ZoL (by omega) hb hb1 hG) ?_
  walk_at "zz"
  refine ZT (ZoW (by omega) hb bc (Zoq hG)) ?_
  unfold spT
  walk_at "zz"
  rfl
noncomputable def ZlX (c : Nat → Int) : T → Bool
 | .int i => decide (0 < c i.toNat)
 | _ => false
noncomputable def ZlY (c : Nat → Int) : T → Bool
 | .int i => decide (c i.toNat < 0)
 | _ => false
theorem Zno {c : Nat → Int} : ∀ n, ((tab n fun i => T.int ((1 + i : Nat) : Int)).filter (ZlX c)) = (ZaA c n).map fun i => T.int (i : Nat)
 | 0 => rfl
 | n + 1 => by
  rw [← Zc7 (n := n) (f := fun i => T.int ((1 + i : Nat) : Int)), List.filter_append, Zno n]
  simp only [ZaA, List.map_append]
  congr 1
  rw [show 1 + n = n + 1 by omega]
  by_cases h : 0 < c (n + 1) <;> simp [ZlX, h]
theorem Znp {c : Nat → Int} : ∀ n, ((tab n fun i => T.int ((1 + i : Nat) : Int)).filter (ZlY c)) = (ZaF c n).map fun i => T.int (i : Nat)
 | 0 => rfl
 | n + 1 => by
  rw [← Zc7 (n := n) (f := fun i => T.int ((1 + i : Nat) : Int)), List.filter_append, Znp n]
  simp only [ZaF, List.map_append]
  congr 1
  rw [show 1 + n = n + 1 by omega]
  by_cases h : c (n + 1) < 0 <;> simp [ZlY, h]
theorem Znq {σ : TL} {j : Nat} {g f : PE} {us : List Nat} {h : Nat → T} {Q : T → Prop} (hl : us.length ≤ 1000) (hg : Pk (g σ) fun t => t = .lst (us.map fun i => T.int (i : Nat))) (hf : ∀ i ∈ us, Pk (f (ZZ σ j (.int (i : Nat)))) fun t => t = h i) (q : Q (.lst (us.map h))) : Pk (Zan (ZaE g) (Z5 j) Zad f σ) Q := by
 obtain ⟨_, e, rfl⟩ := hg
 refine ⟨_, ?_, q⟩
 have hc : Zcp (Z5 j) Zad f σ (us.map fun i => T.int (i : Nat)) = some (us.map h) := by
  have key : ∀ l : List Nat, (∀ i ∈ l, i ∈ us) → Zcp (Z5 j) Zad f σ (l.map fun i => T.int (i : Nat)) = some (l.map h) := by
   intro l
   induction l with
   | nil => intro _; rfl
   | cons a l ih =>
    intro hm
    obtain ⟨_, e1, rfl⟩ := hf a (hm a Zz5)
    simp only [List.map_cons, Zcp, Z5, Option.bind_some, Zad, if_true, e1, ih fun i m => hm i (Zz2 _ m), Option.map_some]
  exact key us fun i m => m
 simp only [Zan, ZaE, e, Option.bind_some, hc, Option.map_some, List.length_map]
 rw [if_pos (by rw [Zbc]; omega)]
theorem ZnU {σ : TL} {j : Nat} {g : PE} {b : PS} {us : List Nat} {R : T → Prop} {N : TL → Prop} (hg : Pk (g σ) fun t => t = .lst (us.map fun i => T.int (i : Nat))) (P : List Nat → TL → Prop) (h0 : P [] σ) (h1 : ∀ pre i σ, i ∈ us → P pre σ → Psk (b (ZZ σ j (.int (i : Nat)))) R (P (pre ++ [i]))) (h2 : ∀ σ, P us σ → N σ) : Psk (ZaO (ZaE g) (Z5 j) b σ) R N := by
 refine ZsX (ts := us.map fun i => T.int (i : Nat)) (P := fun k σ => P (us.take k) σ) ?_ (by simpa using h0) (fun k t σ hk hP => ?_) (fun σ h => h2 σ (by simpa using h))
 ·obtain ⟨_, e, rfl⟩ := hg
  exact ⟨_, by simp only [ZaE, e, Option.bind_some], rfl⟩
 ·rw [List.getElem?_map] at hk
  obtain ⟨i, ei, rfl⟩ := Zz1.mp hk
  rw [List.take_add_one, ei]
  exact h1 _ i σ (List.mem_of_getElem? ei) hP
noncomputable def sU (G : Nat → Nat → Option Int) (c : Nat → Int) (l : List Nat) : Int := (l.map fun i => c i * (G i 0).getD 0).sum
noncomputable def sD (G : Nat → Nat → Option Int) (c : Nat → Int) (l : List Nat) : Int := (l.map fun i => c i * (G 0 i).getD 0).sum
noncomputable def ZcS (G : Nat → Nat → Option Int) (c : Nat → Int) (n : Nat) : Prop := (∃ i ∈ ZaA c n, G i 0 = none) ∨ ∃ i ∈ ZaF c n, G 0 i = none
theorem ZnV {G : Nat → Nat → Option Int} {c : Nat → Int} {l : List Nat} {i : Nat} : sU G c (l ++ [i]) = sU G c l + c i * (G i 0).getD 0 := by simp [sU]
theorem ZnW {G : Nat → Nat → Option Int} {c : Nat → Int} {l : List Nat} {i : Nat} : sD G c (l ++ [i]) = sD G c l + c i * (G 0 i).getD 0 := by simp [sD]
theorem tot {G : Nat → Nat → Option Int} {c : Nat → Int} : ∀ n, (ZcS G c n → (ZbS c (S40 G) n).2 = none) ∧ (¬ ZcS G c n → (ZbS c (S40 G) n).2 = some (c 0 + sU G c (ZaA c n) - sD G c (ZaF c n)))
 | 0 => ⟨fun h => (by rcases h with ⟨i, m, _⟩ | ⟨i, m, _⟩ <;> cases m), fun _ => by simp [ZbS, sU, sD, ZaA, ZaF]⟩
 | n + 1 => by
  obtain ⟨ih1, ih2⟩ := tot (G := G) (c := c) n
  have step : (ZbS c (S40 G) (n + 1)).2 = Zas (ZbS c (S40 G) n).2 (Zck (S40 G n) (c (n + 1))).2 := rfl
  rw [step]
  have mono : ZcS G c n → ZcS G c (n + 1) := fun h => h.imp (fun ⟨i, m, e⟩ => ⟨i, by simp only [ZaA, List.mem_append]; exact .inl m, e⟩) fun ⟨i, m, e⟩ => ⟨i, by simp only [ZaF, List.mem_append]; exact .inl m, e⟩
  rcases Int.lt_trichotomy (c (n + 1)) 0 with h | h | h
  ·have h0 : ¬ 0 < c (n + 1) := by omega
   have hz : ¬ c (n + 1) = 0 := by omega
   have eu : ZaA c (n + 1) = ZaA c n := by simp [ZaA, h0]
   have ed : ZaF c (n + 1) = ZaF c n ++ [n + 1] := by simp [ZaF, h]
   have et : (Zck (S40 G n) (c (n + 1))).2 = (G 0 (n + 1)).map fun y => y * (-1) * c (n + 1) := by
    unfold Zck S40
    rw [if_neg hz, if_pos h]
    cases G 0 (n + 1) <;> rfl
   rw [et]
   cases hg : G 0 (n + 1) with
   | none =>
    refine ⟨fun _ => ?_, fun q => absurd (.inr ⟨n + 1, by rw [ed]; simp, hg⟩) q⟩
    cases (ZbS c (S40 G) n).2 <;> rfl
   | some y =>
    have hl : ZcS G c (n + 1) → ZcS G c n := by
     rintro (⟨i, m, e⟩ | ⟨i, m, e⟩)
     ·rw [eu] at m; exact .inl ⟨i, m, e⟩
     ·rw [ed] at m
      rcases List.mem_append.mp m with m | m
      ·exact .inr ⟨i, m, e⟩
      ·rw [List.mem_singleton.mp m, hg] at e; cases e
    refine ⟨fun q => by rw [ih1 (hl q)]; rfl, fun q => ?_⟩
    rw [ih2 fun r => q (mono r), eu, ed, ZnW, hg]
    simp only [Zas, Option.map_some, Option.getD_some]
    congr 1
    have : y * (-1) * c (n + 1) = -(c (n + 1) * y) := by rw [Int.mul_neg, Int.mul_one, Int.neg_mul, Int.mul_comm]
    omega
  ·have h0 : ¬ 0 < c (n + 1) := by omega
   have h1 : ¬ c (n + 1) < 0 := by omega
   have eu : ZaA c (n + 1) = ZaA c n := by simp [ZaA, h0]
   have ed : ZaF c (n + 1) = ZaF c n := by simp [ZaF, h1]
   have et : (Zck (S40 G n) (c (n + 1))).2 = some 0 := by unfold Zck; rw [if_pos h]
   have el : ZcS G c (n + 1) ↔ ZcS G c n := by unfold ZcS; rw [eu, ed]
   rw [et, Zol, el, eu, ed]
   exact ⟨ih1, ih2⟩
  ·have h1 : ¬ c (n + 1) < 0 := by omega
   have hz : ¬ c (n + 1) = 0 := by omega
   have eu : ZaA c (n + 1) = ZaA c n ++ [n + 1] := by simp [ZaA, h]
   have ed : ZaF c (n + 1) = ZaF c n := by simp [ZaF, h1]
   have et : (Zck (S40 G n) (c (n + 1))).2 = (G (n + 1) 0).map fun y => y * c (n + 1) := by
    unfold Zck S40
    rw [if_neg hz, if_neg h1]
   rw [et]
   cases hg : G (n + 1) 0 with
   | none =>
    refine ⟨fun _ => ?_, fun q => absurd (.inl ⟨n + 1, by rw [eu]; simp, hg⟩) q⟩
    cases (ZbS c (S40 G) n).2 <;> rfl
   | some y =>
    have hl : ZcS G c (n + 1) → ZcS G c n := by
     rintro (⟨i, m, e⟩ | ⟨i, m, e⟩)
     ·rw [eu] at m
      rcases List.mem_append.mp m with m | m
      ·exact .inl ⟨i, m, e⟩
      ·rw [List.mem_singleton.mp m, hg] at e; cases e
     ·rw [ed] at m; exact .inr ⟨i, m, e⟩
    refine ⟨fun q => by rw [ih1 (hl q)]; rfl, fun q => ?_⟩
    rw [ih2 fun r => q (mono r), eu, ed, ZnV, hg]
    simp only [Zas, Option.map_some, Option.getD_some]
    congr 1
    have : y * c (n + 1) = c (n + 1) * y := Int.mul_comm _ _
    omega
end L
namespace L
open PySem PySem.W PyProof.Rows PM TM My
theorem Zo1 {n b : Nat} {G : Nat → Nat → Option Int} {R : Nat → Int × Int} {c : Nat → Int} {σ : TL} {N : TL → Prop} (hn : n ≤ 60) (hb : b ≤ 100000) (hG : GB b n G) (bc : ∀ i, i < n + 1 → Bd b (c i)) (e0 : σ 0 = some (.tup [.lst (tab (n + 1) fun i => .lst (tab (n + 1) fun j => oT (G i j))), .lst (tab n fun i => Z4 (R i))])) (e1 : σ 1 = some (.lst (tab (n + 1) fun i => .int (c i)))) (e2 : σ 2 = some (.lst ((ZaA c n).map fun i => T.int (i : Nat)))) (e3 : σ 3 = some (.lst ((ZaF c n).map fun i => T.int (i : Nat)))) : Psk ((Zt (ZI 4 (Zd Z6 (Zan (ZaE (Za 2)) (Z5 104) Zad (Zd Zo (Zd Zo (Zd Zo (Za 0) (Zk 0)) (Za 104)) (Zk 0))) (Zan (ZaE (Za 3)) (Z5 106) Zad (Zd Zo (Zd Zo (Zd Zo (Za 0) (Zk 0)) (Zk 0)) (Za 106))))) (Zt (ZW (ZF (Zd qIn (ZY) (Za 4))) (ZG (ZY)) Z1) (Zt (ZI 5 (Zd Zo (Za 1) (Zk 0))) (Zt (ZaO (ZaE (Za 2)) (Z5 6) (ZI 5 (Zd Z6 (Za 5) (Zd Zat (Zd Zo (Za 1) (Za 6)) (Zd Zo (Zd Zo (Zd Zo (Za 0) (Zk 0)) (Za 6)) (Zk 0)))))) (Zt (ZaO (ZaE (Za 3)) (Z5 6) (ZI 5 (Zd ZaU (Za 5) (Zd Zat (Zd Zo (Za 1) (Za 6)) (Zd Zo (Zd Zo (Zd Zo (Za 0) (Zk 0)) (Zk 0)) (Za 6)))))) (ZG (Za 5))))))) σ) (fun t => t = oT (ZbS c (S40 G) n).2) N := by
 have lu := ZnS (c := c) n
 have ld := ZnT (c := c) n
 have hu : ∀ i ∈ ZaA c n, i < n + 1 := fun i m => by have := ups_mem.mp m; omega
 have hd : ∀ i ∈ ZaF c n, i < n + 1 := fun i m => by have := dns_mem.mp m; omega
 have h0 : 0 < n + 1 := by omega
 walk_at "zz"
 refine Znq (us := ZaA c n) (h := fun i => oT (G i 0)) (by omega) ?_ (fun i m => ?_) ?_
 ·walk_at "zz"
  rfl
 ·have := hu i m
  walk_at "zz"
  rfl
 refine Znq (us := ZaF c n) (h := fun i => oT (G 0 i)) (by omega) ?_ (fun i m => ?_) ?_
 ·walk_at "zz"
  rfl
 ·have := hd i m
  walk_at "zz"
  rfl
 refine Zhw (by simp; omega) ?_
 walk_at "zz"
 refine ZhO (n := 0) (m := 1) .none (.lst fun t m => ?_) ?_
 ·rcases List.mem_append.mp m with m | m
  ·obtain ⟨i, _, rfl⟩ := List.mem_map.mp m; exact Zf0
  ·obtain ⟨i, _, rfl⟩ := List.mem_map.mp m; exact Zf0
 by_cases hl : ZcS G c n
 ·have hm : T.none ∈ (ZaA c n).map (fun i => oT (G i 0)) ++ (ZaF c n).map fun i => oT (G 0 i) := by
   rcases hl with ⟨i, m, e⟩ | ⟨i, m, e⟩
   ·exact Zz4 _ (List.mem_map.mpr ⟨i, m, by rw [e]; rfl⟩)
   ·exact Zz3 _ (List.mem_map.mpr ⟨i, m, by rw [e]; rfl⟩)
  rw [Zbi hm]
  walk_at "zz"
  rw [(tot n).1 hl]
  rfl
 ·have hm : ¬ T.none ∈ (ZaA c n).map (fun i => oT (G i 0)) ++ (ZaF c n).map fun i => oT (G 0 i) := fun m => hl (by
   rcases List.mem_append.mp m with m | m
   ·obtain ⟨i, m, e⟩ := List.mem_map.mp m
    exact .inl ⟨i, m, oT_inj.mp (by rw [e]; rfl)⟩
   ·obtain ⟨i, m, e⟩ := List.mem_map.mp m
    exact .inr ⟨i, m, oT_inj.mp (by rw [e]; rfl)⟩)
  have gu : ∀ i ∈ ZaA c n, ∃ y, G i 0 = some y := fun i m => by
   cases e : G i 0 with
   | none => exact absurd (.inl ⟨i, m, e⟩) hl
   | some y => exact ⟨y, rfl⟩
  have gd : ∀ i ∈ ZaF c n, ∃ y, G 0 i = some y := fun i m => by
   cases e : G 0 i with
   | none => exact absurd (.inr ⟨i, m, e⟩) hl
   | some y => exact ⟨y, rfl⟩
  rw [Zb9 hm]
  walk_at "zz"
  refine ZnU (us := ZaA c n) (P := fun pre σ' => σ' 0 = some (.tup [.lst (tab (n + 1) fun i => .lst (tab (n + 1) fun j => oT (G i j))), .lst (tab n fun i => Z4 (R i))]) ∧ σ' 1 = some (.lst (tab (n + 1) fun i => .int (c i))) ∧ σ' 3 = some (.lst ((ZaF c n).map fun i => T.int (i : Nat))) ∧ σ' 5 = some (.int (c 0 + sU G c pre))) ?_ ⟨by walk_at "zr", by walk_at "zr", by walk_at "zr", by simp [sU, ZZ]⟩ ?_ ?_
  ·walk_at "zz"
   rfl
  ·rintro pre i σ' m ⟨f0, f1, f3, f5⟩
   have hi := hu i m
   obtain ⟨y, ey⟩ := gu i m
   have by_ : Bd b y := hG i 0 hi h0 y ey
   walk_at "zz"
   rw [show (Int.toNat 0) = 0 from rfl, ey, ZaD]
   refine ZbE (ZbQ (bc i hi) by_ (by omega) (by omega)) ?_
   walk_at "zz"
   refine ⟨by walk_at "zr", by walk_at "zr", by walk_at "zr", ?_⟩
   rw [Zb0, ZnV, ey]
   simp only [Option.getD_some]
   congr 2
   omega
  rintro σ1 ⟨f0, f1, f3, f5⟩
  walk_at "zz"
  refine ZnU (us := ZaF c n) (P := fun pre σ' => σ' 0 = some (.tup [.lst (tab (n + 1) fun i => .lst (tab (n + 1) fun j => oT (G i j))), .lst (tab n fun i => Z4 (R i))]) ∧ σ' 1 = some (.lst (tab (n + 1) fun i => .int (c i))) ∧ σ' 5 = some (.int (c 0 + sU G c (ZaA c n) - sD G c pre))) ?_ ⟨by walk_at "zr", by walk_at "zr", by simpa [sD] using f5⟩ ?_ ?_
  ·walk_at "zz"
   rfl
  ·rintro pre i σ' m ⟨g0, g1, g5⟩
   have hi := hd i m
   obtain ⟨y, ey⟩ := gd i m
   have by_ : Bd b y := hG 0 i h0 hi y ey
   walk_at "zz"
   rw [show (Int.toNat 0) = 0 from rfl, ey, ZaD]
   refine ZbE (ZbQ (bc i hi) by_ (by omega) (by omega)) ?_
   walk_at "zz"
   refine ⟨by walk_at "zr", by walk_at "zr", ?_⟩
   rw [Zb0, ZnW, ey]
   simp only [Option.getD_some]
   congr 2
   omega
  rintro σ2 ⟨g0, g1, g5⟩
  walk_at "zz"
  rw [(tot n).2 hl]
  rfl
theorem ZpB {n b : Nat} {G : Nat → Nat → Option Int} {R : Nat → Int × Int} {c : Nat → Int} {σ : TL} {N : TL → Prop} (hn : n ≤ 60) (hb : b ≤ 100000) (hG : GB b n G) (bc : ∀ i, i < n + 1 → Bd b (c i)) (e0 : σ 0 = some (.tup [.lst (tab (n + 1) fun i => .lst (tab (n + 1) fun j => oT (G i j))), .lst (tab n fun i => Z4 (R i))])) (e1 : σ 1 = some (.lst (tab (n + 1) fun i => .int (c i)))) (e2 : σ 2 = some (.lst ((ZaA c n).map fun i => T.int (i : Nat)))) (e3 : σ 3 = some (.lst ((ZaF c n).map fun i => T.int (i : Nat)))) : Psk ((Zt (ZW (Zaw (ZF (Zd qEq (Zy Zao (Zf (Za 2) Zn)) (Zk 1))) (Zaw (ZF (Zd qEq (Zy Zao (Zf (Za 3) Zn)) (Zk 1))) (Zaw (ZF (Zd qEq (Zd Zo (Za 1) (Zd Zo (Za 2) (Zk 0))) (Zk 1))) (Zaw (ZF (Zd qEq (Zd Zo (Za 1) (Zd Zo (Za 3) (Zk 0))) (pUn Zdj (Zk 1)))) Zad)))) (Zt (ZW (ZF (Zd qIs (Zd Zo (Zd Zo (Zd Zo (Za 0) (Zk 0)) (Zd Zo (Za 2) (Zk 0))) (Zd Zo (Za 3) (Zk 0))) (ZY))) (ZG (ZY)) Z1) (ZG (Zd Z6 (Zd Zo (Zd Zo (Zd Zo (Za 0) (Zk 0)) (Zd Zo (Za 2) (Zk 0))) (Zd Zo (Za 3) (Zk 0))) (Zd Zo (Za 1) (Zk 0))))) Z1) (Zt (ZI 4 (Zd Z6 (Zan (ZaE (Za 2)) (Z5 104) Zad (Zd Zo (Zd Zo (Zd Zo (Za 0) (Zk 0)) (Za 104)) (Zk 0))) (Zan (ZaE (Za 3)) (Z5 106) Zad (Zd Zo (Zd Zo (Zd Zo (Za 0) (Zk 0)) (Zk 0)) (Za 106))))) (Zt (ZW (ZF (Zd qIn (ZY) (Za 4))) (ZG (ZY)) Z1) (Zt (ZI 5 (Zd Zo (Za 1) (Zk 0))) (Zt (ZaO (ZaE (Za 2)) (Z5 6) (ZI 5 (Zd Z6 (Za 5) (Zd Zat (Zd Zo (Za 1) (Za 6)) (Zd Zo (Zd Zo (Zd Zo (Za 0) (Zk 0)) (Za 6)) (Zk 0)))))) (Zt (ZaO (ZaE (Za 3)) (Z5 6) (ZI 5 (Zd ZaU (Za 5) (Zd Zat (Zd Zo (Za 1) (Za 6)) (Zd Zo (Zd Zo (Zd Zo (Za 0) (Zk 0)) (Zk 0)) (Za 6)))))) (ZG (Za 5)))))))) σ) (fun t => t = oT (grt n G c)) N := by
 by_cases h : Df n c
 ·obtain ⟨u, d, eu, ed, hcu, hcd, hu, hd, _, _, iu, id_, _, _⟩ := Zg6 h
  have hg : grt n G c = Zas (G u d) (some (c 0)) := by unfold grt; rw [Zbi h, iu, id_]; rfl
  rw [hg]
  rw [eu] at e2
  rw [ed] at e3
  simp only [List.map_cons, List.map_nil] at e2 e3
  walk_at "zz"
  cases hx : G u d with
  | none =>
   rw [ZbI]
   walk_at "zz"
   rfl
  | some y =>
   rw [ZaD]
   walk_at "zz"
   rw [hx, ZaD]
   walk_at "zz"
   rfl
 ·have hg : grt n G c = (ZbS c (S40 G) n).2 := by unfold grt; rw [Zb9 h]; rfl
  rw [hg]
  refine Zc9 (fun σ' => σ' = σ) ?_ ?_
  ·by_cases l1 : (ZaA c n).length = 1
   ·obtain ⟨u, eu⟩ := List.length_eq_one_iff.mp l1
    have hu : u < n + 1 := by have := ups_mem.mp (show u ∈ ZaA c n by rw [eu]; simp); omega
    by_cases l2 : (ZaF c n).length = 1
    ·obtain ⟨d, ed⟩ := List.length_eq_one_iff.mp l2
     have hd : d < n + 1 := by have := dns_mem.mp (show d ∈ ZaF c n by rw [ed]; simp); omega
     have hno : ¬ (c u = 1 ∧ c d = -1) := fun q => h (df_iff.mpr ⟨by rw [eu]; simp [q.1], by rw [ed]; simp [q.2]⟩)
     rw [eu] at e2
     rw [ed] at e3
     simp only [List.map_cons, List.map_nil] at e2 e3
     by_cases q1 : c u = 1
     ·have q2 : c d ≠ -1 := fun q => hno ⟨q1, q⟩
      walk_at "zz"
      rfl
     ·walk_at "zz"
      rfl
    ·rw [eu] at e2
     simp only [List.map_cons, List.map_nil] at e2
     have l3 : ((((ZaF c n).map fun i => T.int (i : Nat)).length : Nat) : Int) ≠ 1 := by rw [List.length_map]; omega
     walk_at "zz"
     rfl
   ·have l3 : ((((ZaA c n).map fun i => T.int (i : Nat)).length : Nat) : Int) ≠ 1 := by rw [List.length_map]; omega
    walk_at "zz"
    rfl
  ·rintro _ rfl
   exact Zo1 hn hb hG bc e0 e1 e2 e3
theorem ZoM {n b : Nat} {G : Nat → Nat → Option Int} {R : Nat → Int × Int} {c : Nat → Int} (hn : n ≤ 60) (hb : b ≤ 100000) (hG : GB b n G) (bc : ∀ i, i < n + 1 → Bd b (c i)) : Zgj [Z3 n G R, Zaj n c] = some (oT (grt n G c)) := by
 apply Pk.eq
 unfold Zgj Zim
 have ht : Z3 n G R = .tup [.lst (tab (n + 1) fun i => .lst (tab (n + 1) fun j => oT (G i j))), .lst (tab n fun i => Z4 (R i))] := rfl
 rw [ht]
 unfold Zaj
 refine Zlz rfl ?_
 have rg : ∀ {σ : TL} {j : Nat}, σ 1 = some (.lst (tab (n + 1) fun i => .int (c i))) → Pl (ZaG (Zf (Zk 1) (Zf (Zy Zao (Zf (Za 1) Zn)) Zn)) σ) fun us => us = tab n fun i => T.int ((1 + i : Nat) : Int) := fun {σ} {j} e => by
  refine Znk (a := 1) (m := n) (by omega) (by omega) ?_ rfl
  simp only [Zf, Zk, Zn, Zy, Za, e, Option.bind_some, Zao, ZaC]
  congr 3
  congr 1
  omega
 refine Zc9 (fun σ' => σ' 0 = some (.tup [.lst (tab (n + 1) fun i => .lst (tab (n + 1) fun j => oT (G i j))), .lst (tab n fun i => Z4 (R i))]) ∧ σ' 1 = some (.lst (tab (n + 1) fun i => .int (c i))) ∧ σ' 2 = some (.lst ((ZaA c n).map fun i => T.int (i : Nat)))) ?_ ?_
 ·refine Zlx ?_
  refine ZkP (ts := tab n fun i => T.int ((1 + i : Nat) : Int)) (P := ZlX c) (by rw [ZaC]; omega) (rg (j := 0) rfl) (fun t m => ?_) ?_
  ·obtain ⟨i, hi, rfl⟩ := ZdN m
   have h1 : 1 + i < n + 1 := by omega
   walk_at "zz"
   show decide (0 < c (1 + i)) = decide (0 < c ((1 + i : Nat) : Int).toNat)
   rw [Int.toNat_natCast]
  ·rw [Zno]
   exact ⟨rfl, rfl, Zb0⟩
 rintro σ1 ⟨f0, f1, f2⟩
 refine Zc9 (fun σ' => σ' 0 = some (.tup [.lst (tab (n + 1) fun i => .lst (tab (n + 1) fun j => oT (G i j))), .lst (tab n fun i => Z4 (R i))]) ∧ σ' 1 = some (.lst (tab (n + 1) fun i => .int (c i))) ∧ σ' 2 = some (.lst ((ZaA c n).map fun i => T.int (i : Nat))) ∧ σ' 3 = some (.lst ((ZaF c n).map fun i => T.int (i : Nat)))) ?_ ?_
 ·refine Zlx ?_
  refine ZkP (ts := tab n fun i => T.int ((1 + i : Nat) : Int)) (P := ZlY c) (by rw [ZaC]; omega) (rg (j := 0) f1) (fun t m => ?_) ?_
  ·obtain ⟨i, hi, rfl⟩ := ZdN m
   have h1 : 1 + i < n + 1 := by omega
   walk_at "zz"
   show decide (c (1 + i) < 0) = decide (c ((1 + i : Nat) : Int).toNat < 0)
   rw [Int.toNat_natCast]
  ·rw [Znp]
   exact ⟨by walk_at "zr", by walk_at "zr", by walk_at "zr", Zb0⟩
 rintro σ2 ⟨g0, g1, g2, g3⟩
 exact ZpB hn hb hG bc g0 g1 g2 g3
end L
namespace L
open PySem PySem.W PyProof.Rows PM TM My
theorem ZnX {b n : Nat} {c : Nat → Int} {S : Nat → Sp} (bc : ∀ i, i < n + 1 → Bd b (c i)) (bS : ∀ i, i < n → SBd b (S i)) : ∀ j, j ≤ n → ∀ y, (ZbS c S j).2 = some y → Bd (b + b + j + 1) y
 | 0, _, y, e => by cases e; exact (bc 0 (by omega)).mono (by omega)
 | j + 1, h, y, e => by
  obtain ⟨p, q, h1, h2, rfl⟩ := addO_some.mp (show Zas (ZbS c S j).2 (Zck (S j) (c (j + 1))).2 = some y from e)
  have ih := ZnX bc bS j (by omega) p h1
  have hq : Bd (b + b) q := by
   unfold Zck at h2
   split at h2
   ·cases h2; exact ZdX
   ·split at h2
    ·obtain ⟨z, e1, rfl⟩ := Zz1.mp h2
     exact ((bS j (by omega)).1 z e1).mul (bc (j + 1) (by omega))
    ·obtain ⟨z, e1, rfl⟩ := Zz1.mp h2
     exact ((bS j (by omega)).2 z e1).mul (bc (j + 1) (by omega))
  exact (ih.add (hq.mono (by omega))).mono (by omega)
noncomputable def Za6 (c : Nat → Int) (x : Nat → Int) : Nat → Int
 | 0 => c 0
 | j + 1 => Za6 c x j + c (j + 1) * x j
theorem ZnY {c x : Nat → Int} : ∀ n, c 0 + (tab n fun i => c (i + 1) * x i).sum = Za6 c x n
 | 0 => by simp [tab, Za6]
 | n + 1 => by
  rw [← Zc7 (n := n) (f := fun i => c (i + 1) * x i), List.sum_append]
  have := ZnY (c := c) (x := x) n
  simp only [List.sum_cons, List.sum_nil, Za6]
  omega
theorem Zor {c x : Nat → Int} {S : Nat → Sp} {n : Nat} (h : ∀ i, i < n → InS (S i) (x i)) : ∀ j, j ≤ n → InS (ZbS c S j) (Za6 c x j)
 | 0, _ => ⟨fun l e => by cases e; exact Int.le_refl _, fun l e => by cases e; exact Int.le_refl _⟩
 | j + 1, hj => Zsg (Zor h j (by omega)) (Zrn (h j (by omega)))
noncomputable def sV (c x : Nat → Int) (l : List Nat) : Int := (l.map fun i => c i * x (i - 1)).sum
theorem ZmV {c x : Nat → Int} : ∀ n, Za6 c x n = c 0 + sV c x (ZaA c n) + sV c x (ZaF c n)
 | 0 => by simp [Za6, sV, ZaA, ZaF]
 | n + 1 => by
  have ih := ZmV (c := c) (x := x) n
  have sn : ∀ l, sV c x (l ++ [n + 1]) = sV c x l + c (n + 1) * x n := fun l => by simp [sV]
  simp only [Za6, ZaA, ZaF, ih]
  rcases Int.lt_trichotomy (c (n + 1)) 0 with h | h | h
  ·rw [if_neg (by omega), if_pos h, List.append_nil, sn]
   omega
  ·rw [if_neg (by omega), if_neg (by omega), List.append_nil, List.append_nil, h]
   omega
  ·rw [if_pos h, if_neg (by omega), List.append_nil, sn]
   omega
theorem Zug {n : Nat} {G : Nat → Nat → Option Int} {R : Nat → Int × Int} {c x : Nat → Int} (h : Za5 n G R x) {y : Int} (e : grt n G c = some y) : Za6 c x n ≤ y := by
 unfold grt at e
 by_cases hd : Df n c
 ·rw [Zbi hd] at e
  obtain ⟨u, d, eu, ed, hcu, hcd, hu, hdn, hu1, hd1, iu, id_, _, _⟩ := Zg6 hd
  rw [iu, id_] at e
  obtain ⟨p, q, h1, h2, rfl⟩ := addO_some.mp (show Zas (G u d) (some (c 0)) = some y from e)
  cases h2
  have hb := h.1 u d hu hdn p h1
  rw [ZmV, eu, ed]
  have f : ∀ i, 1 ≤ i → ZaP x i = x (i - 1) := fun i hi => by
   cases i with
   | zero => omega
   | succ i => rfl
  rw [f u hu1, f d hd1] at hb
  simp only [sV, List.map_cons, List.map_nil, List.sum_cons, List.sum_nil, hcu, hcd]
  omega
 ·rw [Zb9 hd] at e
  refine (Zor (S := S40 G) (n := n) (fun i hi => ⟨fun l el => ?_, fun r er => ?_⟩) n (Nat.le_refl n)).2 y e
  ·obtain ⟨z, e1, rfl⟩ := Zz1.mp el
   have := h.1 0 (i + 1) (by omega) (by omega) z e1
   have f0 : ZaP x 0 = 0 := rfl
   have f1 : ZaP x (i + 1) = x i := rfl
   show z * (-1) ≤ x i
   omega
  ·have := h.1 (i + 1) 0 (by omega) (by omega) r er
   have f0 : ZaP x 0 = 0 := rfl
   have f1 : ZaP x (i + 1) = x i := rfl
   omega
theorem Zsk {n b : Nat} {c x : Nat → Int} (hn : n ≤ 60) (hb : b ≤ 100000) (bc : ∀ i, i < n + 1 → Bd b (c i)) (bx : ∀ i, i < n → Bd b (x i)) : ZeD [Zaj n c, ZdW n x] = some (.int (Za6 c x n)) := by
 apply Pk.eq
 unfold ZeD Zjz Zaj ZdW
 have h0 : 0 < n + 1 := by omega
 walk_at "zz"
 refine ZbR (n := n) (a := fun i => .int i) (b := fun i => .int (c (i + 1) * x i)) (by omega) ?_ (fun i hi => ?_) ?_
 ·walk_at "zz"
  rfl
 ·walk_at "zz"
  rw [show ((i : Int) + 1).toNat = i + 1 by omega]
  exact ZbE (ZbQ (bc (i + 1) (by omega)) (bx i hi) (by omega) (by omega)) rfl
 walk_at "zz"
 refine ⟨.int (tab n fun i => c (i + 1) * x i).sum, by simp only [ZhX, ZrR, Option.map_some], ?_⟩
 walk_at "zz"
 rw [show (Int.toNat 0) = 0 from rfl, ZnY]
end L
namespace L
open PySem PySem.W PyProof.Rows PM TM My
noncomputable def SumB (n : Nat) (c : Nat → Int) (K : Int) : Prop := Bd 140 (c 0) ∧ ∀ i, 1 ≤ i → i < n + 1 → -K ≤ c i ∧ c i ≤ K
theorem SumB.bd {n : Nat} {c : Nat → Int} {K : Int} (h : SumB n c K) (hK : K ≤ 4000000000) : ∀ i, i < n + 1 → Bd 140 (c i) := fun i hi => by
 by_cases q : i = 0
 ·subst q; exact h.1
 ·have := h.2 i (by omega) hi
  exact Za4 (i := 33) (by omega) (by decide)
theorem SumB.mono {n : Nat} {c : Nat → Int} {K K' : Int} (h : SumB n c K) (hK : K ≤ K') : SumB n c K' := ⟨h.1, fun i h1 h2 => by have := h.2 i h1 h2; omega⟩
theorem Zhy {σ : TL} {x n : Nat} {c : Nat → Int} {v k K K' : Int} {N : TL → Prop} (e : σ x = some (.lst (tab (n + 1) fun i => .int (c i)))) (h0 : 1 ≤ k) (h1 : k < (n + 1 : Nat)) (bc : SumB n c K) (hK : K ≤ K') (v0 : -K' ≤ v) (v1 : v ≤ K') (h : ∀ c', SumB n c' K' → N (ZZ σ x (.lst (tab (n + 1) fun i => .int (c' i))))) : PutP σ x (.int v) (.int k) N := by
 refine Zq5 (n := n + 1) (f := fun i => .int (c i)) e (by omega) h1 ?_
 have := h (fun i => if i = k.toNat then v else c i) ⟨by show Bd 140 (if 0 = k.toNat then v else c 0); rw [if_neg (by omega)]; exact bc.1, fun i hi1 hi2 => by
  by_cases q : i = k.toNat
  ·simp only [q, if_true]; exact ⟨v0, v1⟩
  ·simp only [q, if_false]; have := bc.2 i hi1 hi2; omega⟩
 rw [show (tab (n + 1) fun i => if i = k.toNat then T.int v else T.int (c i)) = tab (n + 1) fun i => T.int (if i = k.toNat then v else c i) from Zb6 fun i _ => by split <;> rfl]
 exact this
end L
namespace L
open PySem PySem.W PyProof.Rows PM TM My
end L
namespace L
open PySem PySem.W PyProof.Rows PM TM My
noncomputable def unC (i : Nat) : Nat → Int := fun k => if 0 < i ∧ k = i then 1 else 0
theorem ZmF {i n : Nat} (hn : n ≤ 900) : Zft [.int i, .int n] = some (Zaj n (unC i)) := by
 apply Pk.eq
 unfold Zft ZkF Zaj
 walk_at "zz"
 refine ZbR (n := n + 1) (a := fun k => .int (k : Nat)) (b := fun k => .int (unC i k)) (by omega) ?_ (fun k hk => ?_) rfl
 ·walk_at "zz"
  exact Zov (n + 1) (by omega) (by omega) rfl
 ·walk_at "zz"
  by_cases h : 0 < i
  ·refine ⟨fun _ => ?_, fun c => absurd c (by simp; omega)⟩
   walk_at "zz"
   by_cases q : k = i
   ·refine ⟨fun _ => ?_, fun c => absurd c (by simp [q])⟩
    walk_at "zz"
    show _ = T.int (unC i k)
    unfold unC
    rw [if_pos ⟨h, q⟩]
   ·refine ⟨fun c => absurd c (by simp; omega), fun _ => ?_⟩
    walk_at "zz"
    show _ = T.int (unC i k)
    unfold unC
    rw [if_neg (fun c => q c.2)]
  ·refine ⟨fun c => absurd c (by simp; omega), fun _ => ⟨fun c => absurd c (by decide), fun _ => ?_⟩⟩
   walk_at "zz"
   show _ = T.int (unC i k)
   unfold unC
   rw [if_neg (fun c => h c.1)]
theorem ZpX {n : Nat} {c d : Nat → Int} (hn : n ≤ 900) : ZgQ [Zaj n c, Zaj n d] = some (Zaj n fun k => c k + d k) := by
 apply Pk.eq
 unfold ZgQ Zkd Zaj
 walk_at "zz"
 refine ZkS (n := n + 1) (a := fun i => .int (c i)) (b := fun i => .int (d i)) (c := fun i => .int (c i + d i)) (by omega) ?_ (fun i hi => ?_) rfl
 ·walk_at "zz"
  rfl
 ·walk_at "zz"
  rfl
theorem ZpY {n b : Nat} {c d : Nat → Int} (hn : n ≤ 900) (hb1 : 1 ≤ b) (hb : b ≤ 100000) (bd : ∀ i, i < n + 1 → Bd b (d i)) : ZgR [Zaj n c, Zaj n d] = some (Zaj n fun k => c k - d k) := by
 apply Pk.eq
 unfold ZgR Zkg
 walk_at "zz"
 refine ZT (ZpA (by omega) hb bd (show Bd b (-1) by unfold Bd; have := Zgb hb1; unfold Bd at this; simpa using this)) ?_
 walk_at "zz"
 refine ZT (ZpX hn) ?_
 walk_at "zz"
 have : (fun k => c k + d k * -1) = fun k => c k - d k := by funext k; omega
 rw [this]
noncomputable def ZcA (C : Nat → Nat → Int) : Nat → Nat → Int
 | 0 => fun _ => 0
 | i + 1 => C i
noncomputable def dC (C : Nat → Nat → Int) (i j : Nat) : Nat → Int := fun k => ZcA C i k - ZcA C j k
noncomputable def rcG (n : Nat) (G : Nat → Nat → Option Int) (C : Nat → Nat → Int) (i j : Nat) : Option Int := grt n G (dC C i j)
noncomputable def rcR (n : Nat) (R : Nat → Int × Int) (C : Nat → Nat → Int) (i : Nat) : Int × Int := ZdY (C i) R n
noncomputable def Zcr (n m : Nat) (C : Nat → Nat → Int) : T := .lst (tab m fun i => Zaj n (C i))
noncomputable def CB (b n m : Nat) (C : Nat → Nat → Int) : Prop := ∀ i, i < m → ∀ k, k < n + 1 → Bd b (C i k)
theorem CB.full {b n m : Nat} {C : Nat → Nat → Int} (h : CB b n m C) : ∀ i, i < m + 1 → ∀ k, k < n + 1 → Bd b (ZcA C i k)
 | 0, _, _, _ => ZdX
 | i + 1, hi, k, hk => h i (by omega) k hk
theorem CB.dif {b n m : Nat} {C : Nat → Nat → Int} (h : CB b n m C) {i j : Nat} (hi : i < m + 1) (hj : j < m + 1) : ∀ k, k < n + 1 → Bd (b + 1) (dC C i j k) := fun k hk => by
 have h1 := h.full i hi k hk
 have h2 := h.full j hj k hk
 unfold Bd dC at *
 rw [Nat.pow_succ]
 omega
theorem Zoz : unC 0 = fun _ => 0 := by funext k; unfold unC; rw [if_neg (by omega)]
theorem Zpg {n m b : Nat} {G : Nat → Nat → Option Int} {R : Nat → Int × Int} {C : Nat → Nat → Int} {i : Nat} (hn : n ≤ 60) (hm : m ≤ 60) (hb : b ≤ 1000) (hb1 : 1 ≤ b) (hG : GB b n G) (hC : CB b n m C) (hi : i < m + 1) : Zgu [Z3 n G R, Zaj n (ZcA C i), .lst (tab (m + 1) fun j => Zaj n (ZcA C j))] = some (Zar (m + 1) fun j => rcG n G C i j) := by
 apply Pk.eq
 unfold Zgu ZiZ Zar
 walk_at "zz"
 refine ZbR (n := m + 1) (a := fun j => Zaj n (ZcA C j)) (b := fun j => oT (rcG n G C i j)) (by omega) ?_ (fun j hj => ?_) rfl
 ·walk_at "zz"
  rfl
 ·walk_at "zz"
  refine ZT (ZpY (b := b) (by omega) hb1 (by omega) (hC.full j hj)) ?_
  walk_at "zz"
  exact ZT (ZpW (b := b + 1) (c := dC C i j) hn (by omega) (by omega) (fun a b ha hb y e => (hG a b ha hb y e).mono (by omega)) (hC.dif hi hj)) rfl
theorem Zrx {n m b : Nat} {G : Nat → Nat → Option Int} {R : Nat → Int × Int} {C : Nat → Nat → Int} {Q : T → Prop} (hn : n ≤ 60) (hm : m ≤ 60) (hb : b ≤ 1000) (hb1 : 1 ≤ b) (hG : GB b n G) (hR : ∀ t, t < n → RBd b (R t)) (ok : ∀ t, t < n → RestOk (R t)) (hC : CB b n m C) (h : Pk (ZcW [Z3 m (rcG n G C) (rcR n R C)]) Q) : Pk (ZeM [Z3 n G R, Zcr n m C]) Q := by
 obtain ⟨t, et, qt⟩ := h
 refine ⟨t, ?_, qt⟩
 apply Pk.eq
 unfold ZeM Zk1
 have ht : Z3 n G R = .tup [.lst (tab (n + 1) fun i => .lst (tab (n + 1) fun j => oT (G i j))), .lst (tab n fun i => Z4 (R i))] := rfl
 have hc : cn (Zaj n (unC 0)) (fun i => Zaj n (C i)) = fun i => Zaj n (ZcA C i) := by
  funext i
  cases i with
  | zero => rw [Zoz]; rfl
  | succ i => rfl
 have hs : Zcr n m C = .lst (tab m fun i => Zaj n (C i)) := rfl
 rw [ht, hs]
 walk_at "zz"
 refine ZT (ZmF (i := 0) (n := n) (by omega)) ?_
 walk_at "zz"
 rw [hc]
 refine ZbR (n := m + 1) (a := fun j => Zaj n (ZcA C j)) (b := fun i => Zar (m + 1) fun j => rcG n G C i j) (by omega) ?_ (fun j hj => ?_) ?_
 ·walk_at "zz"
  rfl
 ·walk_at "zz"
  rw [← ht]
  exact ZT (Zpg (b := b) hn hm hb hb1 hG hC hj) rfl
 walk_at "zz"
 refine ZbR (n := m) (a := fun j => Zaj n (C j)) (b := fun i => Z4 (rcR n R C i)) (by omega) ?_ (fun j hj => ?_) ?_
 ·walk_at "zz"
  rfl
 ·walk_at "zz"
  exact ZT (ZpT (i := b) (by omega) hb1 hb (fun k hk => hC j hj k hk) hR ok) rfl
 walk_at "zz"
 exact ZT et rfl
theorem Zto {b n : Nat} {G : Nat → Nat → Option Int} {c : Nat → Int} (hG : GB b n G) (bc : ∀ i, i < n + 1 → Bd b (c i)) : ∀ y, grt n G c = some y → Bd (b + b + n + 1) y := fun y e => by
 unfold grt at e
 by_cases h : Df n c
 ·rw [Zbi h] at e
  obtain ⟨u, d, _, _, _, _, hu, hd, _, _, iu, id_, _, _⟩ := Zg6 h
  rw [iu, id_] at e
  obtain ⟨p, q, h1, h2, rfl⟩ := addO_some.mp (show Zas (G u d) (some (c 0)) = some y from e)
  cases h2
  exact ((hG u d hu hd p h1).add (bc 0 (by omega))).mono (by omega)
 ·rw [Zb9 h] at e
  exact (ZnX bc (Zoq hG) n (Nat.le_refl n) y e).mono (by omega)
theorem Zuh {b n m B : Nat} {G : Nat → Nat → Option Int} {C : Nat → Nat → Int} (hG : GB b n G) (hC : CB b n m C) (hB : b + b + n + 3 ≤ B) : SmG B m (rcG n G C) := fun i j hi hj y e => (Zto (b := b + 1) (fun u v hu hv z e => (hG u v hu hv z e).mono (by omega)) (hC.dif hi hj) y e).mono (by omega)
theorem ZuH {n m : Nat} {R : Nat → Int × Int} {C : Nat → Nat → Int} (ok : ∀ t, t < n → RestOk (R t)) : ∀ t, t < m → RestOk (rcR n R C t) := fun t _ => by
 unfold rcR
 rw [ZeS ok n (Nat.le_refl n)]
 exact ZcE (ZfK _ _ _) _
theorem Zui {b n m B : Nat} {R : Nat → Int × Int} {C : Nat → Nat → Int} (ok : ∀ t, t < n → RestOk (R t)) (hR : ∀ t, t < n → RBd b (R t)) (hC : CB b n m C) (hB : b + b + n ≤ B) : SmR B m (rcR n R C) := fun t ht => by
 unfold rcR
 rw [ZeS ok n (Nat.le_refl n)]
 exact Zg3 (ZfK _ _ _) ((Zhu (fun k hk => hC t ht k hk) hR n (Nat.le_refl n)).mono (by omega)) ((ZnN (fun k hk => hC t ht k hk) hR n (Nat.le_refl n)).mono (by omega))
theorem ZuI {c : Nat → Int} (h : ∀ k, c k = 0) : ∀ n, ZaA c n = []
 | n => List.eq_nil_iff_forall_not_mem.mpr fun i hi => by have := (ups_mem.mp hi).2.2; rw [h] at this; omega
theorem ZuJ {n : Nat} {G : Nat → Nat → Option Int} {c : Nat → Int} (h : ∀ k, c k = 0) : grt n G c = some 0 := by
 unfold grt
 have hd : ¬ Df n c := fun q => by have := (df_iff.mp q).1; rw [ZuI h] at this; cases this
 rw [Zb9 hd]
 have : ∀ j, ZbS c (S40 G) j = (some 0, some 0) := fun j => by
  induction j with
  | zero => show (some (c 0), some (c 0)) = _; rw [h]
  | succ j ih =>
   show ZhR (ZbS c (S40 G) j) (Zck (S40 G j) (c (j + 1))) = _
   rw [ih, h]
   rfl
 show (ZbS c (S40 G) n).2 = some 0
 rw [this]
theorem ZuR {n m : Nat} {G : Nat → Nat → Option Int} {C : Nat → Nat → Int} : ∀ i, i < m + 1 → rcG n G C i i = some 0 := fun i _ => ZuJ fun k => by unfold dC; omega
theorem ZnZ {c d x : Nat → Int} : ∀ n, Za6 (fun k => c k - d k) x n = Za6 c x n - Za6 d x n
 | 0 => rfl
 | n + 1 => by
  simp only [Za6, ZnZ n, Int.sub_mul]
  omega
theorem Zlc {x : Nat → Int} : ∀ n, Za6 (fun _ => 0) x n = 0
 | 0 => rfl
 | n + 1 => by simp only [Za6, Zlc n, Int.zero_mul]; omega
theorem Znr {n : Nat} {C : Nat → Nat → Int} {x : Nat → Int} : ∀ i, Za6 (ZcA C i) x n = ZaP (fun t => Za6 (C t) x n) i
 | 0 => Zlc n
 | i + 1 => rfl
theorem Zn0 {c : Nat → Int} {R : Nat → Int × Int} {x : Nat → Int} {n : Nat} (ok : ∀ t, t < n → RestOk (R t)) (h : ∀ t, t < n → ZaK (R t) (x t)) : ∀ j, j ≤ n → Zb5 c R j ∣ Za6 c x j - Zcd c R j
 | 0, _ => by show (0 : Int) ∣ c 0 - c 0; rw [Int.sub_self]; exact Int.dvd_zero _
 | j + 1, hj => by
  have h1 : Zb5 c R (j + 1) ∣ Zb5 c R j := Int.gcd_dvd_left ..
  have h2 : Zb5 c R (j + 1) ∣ c (j + 1) * (R j).1 := Int.gcd_dvd_right ..
  obtain ⟨z, hz⟩ := (Zbx (ok j (by omega)).nn (x j)).mp (h j (by omega))
  have h3 := Int.dvd_add (Int.dvd_trans h1 (Zn0 ok h j (by omega))) (Int.dvd_trans h2 (Int.dvd_mul_right _ z))
  rw [show Za6 c x (j + 1) = Za6 c x j + c (j + 1) * x j from rfl, show Zcd c R (j + 1) = Zcd c R j + c (j + 1) * (R j).2 from rfl, show x j = (R j).2 + (R j).1 * z by omega, Int.mul_add, ← Int.mul_assoc]
  generalize c (j + 1) * (R j).1 * z = u at *
  generalize c (j + 1) * (R j).2 = v at *
  rwa [show Za6 c x j + (v + u) - (Zcd c R j + v) = Za6 c x j - Zcd c R j + u by omega]
theorem Ztp {n m : Nat} {G : Nat → Nat → Option Int} {R : Nat → Int × Int} {C : Nat → Nat → Int} {x : Nat → Int} (ok : ∀ t, t < n → RestOk (R t)) (h : Za5 n G R x) : Za5 m (rcG n G C) (rcR n R C) fun t => Za6 (C t) x n := by
 refine ⟨fun i j hi hj b e => ?_, fun t ht => ?_⟩
 ·rw [← Znr, ← Znr, ← ZnZ]
  exact Zug h e
 ·unfold rcR
  rw [ZeS ok n (Nat.le_refl n)]
  exact (Zc4 (ZfK _ _ _) _).mpr (Zn0 ok h.2 n (Nat.le_refl n))
end L
namespace L
open PySem PySem.W PyProof.Rows PM TM My
theorem ZmW {ns : List Int} {n : Nat} {kk : Int} {w at_ m K lo K' : Int} {c : Nat → Int} {σ : TL} {Q : T → Prop} {N : TL → Prop} (hk0 : 0 ≤ kk) (hk9 : kk ≤ 1000) (hm : 0 < m) (hn : n ≤ 9) (hK : K ≤ K') (hlo : -K' ≤ -lo) (hhi : m - 1 - lo ≤ K') (e0 : σ 0 = some (scr ns)) (e1 : σ 1 = some (.int kk)) (e2 : σ 2 = some (.int n)) (e4 : σ 4 = some (.int w)) (e5 : σ 5 = some (.int (1 + at_))) (e3 : σ 3 = some (.lst (tab (n + 1) fun i => .int (c i)))) (bc : SumB n c K) (h : ∀ σ' c', σ' 0 = some (scr ns) → σ' 1 = some (.int kk) → σ' 2 = some (.int n) → σ' 4 = some (.int w) → σ' 5 = some (.int (1 + at_)) → σ' 3 = some (.lst (tab (n + 1) fun i => .int (c' i))) → SumB n c' K' → N σ') (pm plo : PE) (epm : ∀ σ, pm σ = some (.int m)) (eplo : ∀ σ, plo σ = some (.int lo)) : Psk (ZaO (ZaG (Zf (Za 2) Zn)) (Z5 7) (ZbB 3 [] (Zd ZaU (Zy Zbm (Zf (Za 0) (Zf (Zd Z6 (Zd Z6 (Za 1) (Zk 1)) (Za 7)) (Zf pm Zn)))) plo) Za0 (Zd Z6 (Za 7) (Zk 1))) σ) Q N := by
 refine ZbL (n := n) (a := fun i => .int i) (P := fun _ σ' => σ' 0 = some (scr ns) ∧ σ' 1 = some (.int kk) ∧ σ' 2 = some (.int n) ∧ σ' 4 = some (.int w) ∧ σ' 5 = some (.int (1 + at_)) ∧ ∃ c', σ' 3 = some (.lst (tab (n + 1) fun i => .int (c' i))) ∧ SumB n c' K') ?_ ⟨e0, e1, e2, e4, e5, c, e3, bc.mono hK⟩ ?_ ?_
 ·walk_at "zz"
  rfl
 ·rintro i σ' hi ⟨f0, f1, f2, f4, f5, c', f3, bc'⟩
  obtain ⟨k0, k1⟩ := ZbU ns (kk + 1 + (i : Int)) hm
  walk_at "zz"
  refine ⟨_, epm _, ?_⟩
  walk_at "zz"
  refine ZT (Zb1 (by omega) (by omega) hm) ?_
  refine ⟨_, eplo _, ?_⟩
  walk_at "zz"
  refine Zhy (n := n) (c := c') (K := K') (K' := K') (by walk_at "zr") (by omega) (by omega) bc' (Int.le_refl _) (by omega) (by omega) fun c2 bc2 => ?_
  exact ⟨by walk_at "zr", by walk_at "zr", by walk_at "zr", by walk_at "zr", by walk_at "zr", c2, Zb0, bc2⟩
 ·rintro σ' ⟨f0, f1, f2, f4, f5, c', f3, bc'⟩
  exact h σ' c' f0 f1 f2 f4 f5 f3 bc'
theorem ZuK {ns : List Int} {n : Nat} {kk : Int} (hk0 : 0 ≤ kk) (hk9 : kk ≤ 1000) (hL : Lay ns) (hn : n ≤ 9) : Pk (Zfs [scr ns, .int kk, .int n]) fun t => ∃ c, t = Zaj n c ∧ SumB n c 1000000000 := by
 unfold Zfs ZkD
 have bn : Bd 140 (Zb4 ns kk) := Za4 (Zhs ns kk) (by decide)
 obtain ⟨p0, p1⟩ := ZbU ns kk (show (0 : Int) < 6 by decide)
 refine Zlz rfl ?_
 refine Zc9 (fun σ' => σ' 0 = some (scr ns) ∧ σ' 1 = some (.int kk) ∧ σ' 2 = some (.int n) ∧ ∃ c, σ' 3 = some (.lst (tab (n + 1) fun i => .int (c i))) ∧ SumB n c 0) ?_ ?_
 ·walk_at "zz"
  refine ZT (Zfu hL (by omega) (by omega)) ?_
  walk_at "zz"
  refine ZeT (by omega) ?_
  refine Znz (by omega) ?_
  rw [show cn (T.int (Zb4 ns kk)) (fun _ => T.int 0) = fun i => T.int (cn (Zb4 ns kk) (fun _ => 0) i) from by funext i; cases i <;> rfl]
  refine ⟨Zmu fun _ _ => rfl, ?_⟩
  refine ⟨rfl, rfl, rfl, _, Zb0, bn, fun i h1 h2 => ?_⟩
  cases i with
  | zero => omega
  | succ i => exact ⟨Int.le_refl 0, Int.le_refl 0⟩
 rintro σ1 ⟨e0, e1, e2, c, e3, bc⟩
 walk_at "zz"
 refine ZT (Zb1 (by omega) (by omega) (by decide)) ?_
 by_cases hz : Za8 ns kk 6 = 0 ∨ n = 0
 ·rcases hz with hz | hz
  ·walk_at "zz"
   exact ⟨c, rfl, bc.mono (by decide)⟩
  ·by_cases q : Za8 ns kk 6 = 0
   ·walk_at "zz"
    exact ⟨c, rfl, bc.mono (by decide)⟩
   ·have : (n : Int) = 0 := by omega
    walk_at "zz"
    exact ⟨c, rfl, bc.mono (by decide)⟩
 have hz1 : Za8 ns kk 6 ≠ 0 := fun q => hz (.inl q)
 have hn0 : (n : Int) ≠ 0 := fun q => hz (.inr (by omega))
 obtain ⟨a0, a1⟩ := ZbU ns (kk + 1) (show (0 : Int) < n by omega)
 walk_at "zz"
 refine ZT (Zb1 (by omega) (by omega) (by omega)) ?_
 refine Zob ?_
 generalize Za8 ns kk 6 = w at *
 generalize Za8 ns (kk + 1) n = at_ at *
 let M : Int → TL → Prop := fun K σ' => σ' 0 = some (scr ns) ∧ σ' 1 = some (.int kk) ∧ σ' 2 = some (.int n) ∧ σ' 4 = some (.int w) ∧ σ' 5 = some (.int (1 + at_)) ∧ ∃ c, σ' 3 = some (.lst (tab (n + 1) fun i => .int (c i))) ∧ SumB n c K
 refine Zc9 (M 6) ?_ ?_
 ·walk_at "zz"
  refine ⟨fun q => ?_, fun q => ?_⟩
  ·obtain ⟨k0, k1⟩ := ZbU ns (kk + 2) (show (0 : Int) < 13 by decide)
   walk_at "zz"
   refine ZT (Zb1 (by omega) (by omega) (by decide)) ?_
   walk_at "zz"
   refine Zhy (n := n) (c := c) (K := 0) (K' := 6) (by walk_at "zr") (by omega) (by omega) bc (by decide) (by omega) (by omega) fun c' bc' => ?_
   exact ⟨by walk_at "zr", by walk_at "zr", by walk_at "zr", by walk_at "zr", by walk_at "zr", c', Zb0, bc'⟩
  ·walk_at "zz"
   exact ⟨by walk_at "zr", by walk_at "zr", by walk_at "zr", by walk_at "zr", by walk_at "zr", c, by walk_at "zr", bc.mono (by decide)⟩
 clear bc e3 c
 rintro σ2 ⟨f0, f1, f2, f4, f5, c1, f3, bc1⟩
 refine Zc9 (M 7) ?_ ?_
 ·have go : Psk ((Zt (ZI 6 (Zd Z6 (Zk 1) (Zy Zbm (Zf (Za 0) (Zf (Zd Z6 (Za 1) (Zk 2)) (Zf (Za 2) Zn)))))) (Zt (ZbB 3 [] (Zk 1) Za0 (Za 5)) (ZbB 3 [] (Zd ZaU (Zd Zo (Za 3) (Za 6)) (Zk 1)) Za0 (Za 6)))) σ2) (fun t => ∃ c, t = Zaj n c ∧ SumB n c 1000000000) (M 7) := by
   obtain ⟨k0, k1⟩ := ZbU ns (kk + 2) (show (0 : Int) < n by omega)
   walk_at "zz"
   refine ZT (Zb1 (by omega) (by omega) (by omega)) ?_
   generalize Za8 ns (kk + 2) n = to_ at *
   walk_at "zz"
   refine Zhy (n := n) (c := c1) (K := 6) (K' := 6) (by walk_at "zr") (by omega) (by omega) bc1 (by decide) (by decide) (by decide) fun c' bc' => ?_
   have hto := bc'.2 (1 + to_).toNat (by omega) (by omega)
   walk_at "zz"
   refine Zhy (n := n) (c := c') (K := 6) (K' := 7) (by walk_at "zr") (by omega) (by omega) bc' (by decide) (by omega) (by omega) fun c2 bc2 => ?_
   exact ⟨by walk_at "zr", by walk_at "zr", by walk_at "zr", by walk_at "zr", by walk_at "zr", c2, Zb0, bc2⟩
  have no : M 7 σ2 := ⟨f0, f1, f2, f4, f5, c1, f3, bc1.mono (by decide)⟩
  by_cases q2 : w = 2
  ·refine Zly ?_
   refine ⟨true, ?_, fun _ => go, fun e => by cases e⟩
   simp [bOr, ZF, Zd, Za, f4, Zk, qEq, Zhk, ZbJ, q2]
  ·by_cases q3 : w = 3
   ·refine Zly ?_
    refine ⟨true, ?_, fun _ => go, fun e => by cases e⟩
    simp [bOr, ZF, Zd, Za, f4, Zk, qEq, Zhk, ZbJ, q3]
   ·walk_at "zz"
    exact no
 clear bc1 f3 c1
 clear f0 f1 f2 f4 f5
 rintro σ3 ⟨f0, f1, f2, f4, f5, c1, f3, bc1⟩
 refine Zc9 (M 7) ?_ ?_
 ·walk_at "zz"
  refine ⟨fun q => ?_, fun q => ?_⟩
  ·exact ZmW hk0 hk9 (m := 7) (lo := 3) (K := 7) (K' := 7) (by decide) hn (by decide) (by decide) (by decide) f0 f1 f2 f4 f5 f3 bc1 (fun σ' c' g0 g1 g2 g4 g5 g3 bc' => ⟨g0, g1, g2, g4, g5, c', g3, bc'⟩) _ _ (fun _ => rfl) (fun _ => rfl)
  ·walk_at "zz"
   exact ⟨f0, f1, f2, f4, f5, c1, f3, bc1⟩
 clear bc1 f3 c1
 clear f0 f1 f2 f4 f5
 rintro σ4 ⟨f0, f1, f2, f4, f5, c1, f3, bc1⟩
 refine Zc9 (M 1000000000) ?_ ?_
 ·walk_at "zz"
  refine ⟨fun q => ?_, fun q => ?_⟩
  ·exact ZmW hk0 hk9 (m := 2000000001) (lo := 1000000000) (K := 7) (K' := 1000000000) (by decide) hn (by decide) (by decide) (by decide) f0 f1 f2 f4 f5 f3 bc1 (fun σ' c' g0 g1 g2 g4 g5 g3 bc' => ⟨g0, g1, g2, g4, g5, c', g3, bc'⟩) _ _ (fun _ => rfl) (fun _ => rfl)
  ·walk_at "zz"
   exact ⟨f0, f1, f2, f4, f5, c1, f3, bc1.mono (by decide)⟩
 rintro σ5 ⟨g0, g1, g2, g4, g5, c2, g3, bc2⟩
 walk_at "zz"
 exact ⟨c2, rfl, bc2⟩
end L
namespace L
open PySem PySem.W PyProof.Rows PM TM My
end L
namespace L
open PySem PySem.W PyProof.Rows PM TM My
theorem ZpZ {n : Nat} {c d : Nat → Int} (hn : n ≤ 900) : ZgS [Zaj n c, Zaj n d] = some (Zaj n fun k => c k - d k) := by
 apply Pk.eq
 unfold ZgS Zkj Zaj
 walk_at "zz"
 refine ZbR (n := n + 1) (a := fun i => .int i) (b := fun i => .int (c i - d i)) (by omega) ?_ (fun i hi => ?_) rfl
 ·walk_at "zz"
  rfl
 ·walk_at "zz"
  rfl
theorem ZoN {n b : Nat} {c : Nat → Int} {R : Nat → Int × Int} (hn : n ≤ 100) (hb : b ≤ 1000) (bc : ∀ j, j < n + 1 → Bd b (c j)) (bR : ∀ j, j < n → RBd b (R j)) (ok : ∀ j, j < n → RestOk (R j)) : Zgl [Zaj n c, .lst (tab n fun j => Z4 (R j))] = some (Z4 (ZdY c R n)) := by
 apply Pk.eq
 unfold Zgl Zis Zaj
 rw [ZeS ok n (Nat.le_refl n)]
 walk_at "zz"
 refine ZbL (n := n) (a := fun i => .int i) (P := fun j σ => σ 0 = some (.lst (tab (n + 1) fun i => .int (c i))) ∧ σ 1 = some (.lst (tab n fun j => Z4 (R j))) ∧ σ 2 = some (.int (Zb5 c R j)) ∧ σ 3 = some (.int (Zcd c R j))) ?_ ⟨by walk_at "zr", by walk_at "zr", by walk_at "zr", by walk_at "zr"⟩ ?_ ?_
 ·walk_at "zz"
  rfl
 ·rintro j σ hj ⟨e0, e1, e2, e3⟩
  have bj := bR j hj
  have cj := bc (j + 1) (by omega)
  have h1 : j + 1 < n + 1 := by omega
  have e1' : ZZ (ZZ (ZZ σ 4 (.int (j : Nat))) 2 (.int (Zb5 c R (j + 1)))) 3 (.int (Zcd c R (j + 1))) 1 = some (.lst (tab n fun j => Z4 (R j))) := e1
  unfold Z4 at e1
  have e' : ((j : Int) + 1).toNat = j + 1 := by omega
  walk_at "zz"
  rw [e']
  refine ZbE (ZbQ cj bj.1 (by omega) (by omega)) ?_
  walk_at "zz"
  refine ZT (Zmy ((Zhu bc bR j (by omega)).mono (by omega)) ((cj.mul bj.1).mono (by omega))) ?_
  walk_at "zz"
  rw [e']
  refine ZbE (ZbQ cj bj.2 (by omega) (by omega)) ?_
  walk_at "zz"
  exact ⟨by walk_at "zr", e1', by walk_at "zr", by walk_at "zr"⟩
 ·rintro σ ⟨e0, e1, e2, e3⟩
  walk_at "zz"
  exact ZT ZeE rfl
theorem Zph {n m b : Nat} {G : Nat → Nat → Option Int} {R : Nat → Int × Int} {C : Nat → Nat → Int} {Q : T → Prop} (hn : n ≤ 60) (hm : m ≤ 60) (hb : b ≤ 1000) (hb1 : 1 ≤ b) (hG : GB b n G) (hR : ∀ t, t < n → RBd b (R t)) (ok : ∀ t, t < n → RestOk (R t)) (hC : CB b n m C) (h : Pk (ZcU [Z3 m (rcG n G C) (rcR n R C)]) Q) : Pk (Zdo [Z3 n G R, Zcr n m C]) Q := by
 obtain ⟨t, et, qt⟩ := h
 refine ⟨t, ?_, qt⟩
 apply Pk.eq
 unfold Zdo Zgv
 have ht : Z3 n G R = .tup [.lst (tab (n + 1) fun i => .lst (tab (n + 1) fun j => oT (G i j))), .lst (tab n fun i => Z4 (R i))] := rfl
 have hc : cn (Zaj n fun _ => 0) (fun i => Zaj n (C i)) = fun i => Zaj n (ZcA C i) := by
  funext i
  cases i with
  | zero => rfl
  | succ i => rfl
 have hs : Zcr n m C = .lst (tab m fun i => Zaj n (C i)) := rfl
 rw [ht, hs]
 walk_at "zz"
 rw [show (n : Int) + 1 = ((n + 1 : Nat) : Int) by omega]
 refine ZeT (by omega) ?_
 walk_at "zz"
 rw [show (T.lst (tab (n + 1) fun _ => T.int 0)) = Zaj n fun _ => 0 from rfl, hc]
 refine ZbL (n := m + 1) (a := fun i => Zaj n (ZcA C i)) (P := fun i σ => σ 0 = some (Z3 n G R) ∧ σ 1 = some (.lst (tab m fun i => Zaj n (C i))) ∧ σ 2 = some (.lst (tab (m + 1) fun i => Zaj n (ZcA C i))) ∧ σ 3 = some (.lst (tab i fun i => Zar (m + 1) (rcG n G C i)))) ?_ ⟨by walk_at "zr", by walk_at "zr", by walk_at "zr", by walk_at "zr"⟩ ?_ ?_
 ·walk_at "zz"
  rfl
 ·rintro i σ hi ⟨e0, e1, e2, e3⟩
  walk_at "zz"
  refine ZbR (n := m + 1) (a := fun j => Zaj n (ZcA C j)) (b := fun j => oT (rcG n G C i j)) (by omega) ?_ (fun j hj => ?_) ?_
  ·walk_at "zz"
   rfl
  ·walk_at "zz"
   refine ZT (ZpZ (by omega)) ?_
   walk_at "zz"
   refine ZT (ZoM (b := b + 1) (c := dC C i j) hn (by omega) (fun a b ha hb y e => (hG a b ha hb y e).mono (by omega)) (hC.dif hi hj)) ?_
   exact ⟨Zhn, rfl⟩
  walk_at "zz"
  rw [show tab i (fun i => Zar (m + 1) (rcG n G C i)) ++ [T.lst (tab (m + 1) fun j => oT (rcG n G C i j))] = tab (i + 1) fun i => Zar (m + 1) (rcG n G C i) from Zc7 (f := fun i => Zar (m + 1) (rcG n G C i))]
  exact ⟨by walk_at "zr", by walk_at "zr", by walk_at "zr", by walk_at "zr"⟩
 ·rintro σ ⟨e0, e1, e2, e3⟩
  rw [ht] at e0
  walk_at "zz"
  refine ZbR (n := m) (a := fun j => Zaj n (C j)) (b := fun i => Z4 (rcR n R C i)) (by omega) ?_ (fun j hj => ?_) ?_
  ·walk_at "zz"
   rfl
  ·walk_at "zz"
   exact ZT (ZoN (b := b) (by omega) hb (fun k hk => hC j hj k hk) hR ok) rfl
  walk_at "zz"
  exact ZT et rfl
end L
namespace L
open PySem PySem.W PyProof.Rows PM TM My
end L
namespace L
open PySem PySem.W PyProof.Rows PM TM My
theorem Ztq {n m : Nat} {C : Nat → Nat → Int} : Pln 2 (Zcr n m C) := .lst fun t h => by
 obtain ⟨i, hi, rfl⟩ := ZdN h
 have := Zlq (tab (n + 1) (C i))
 rw [tab_map] at this
 exact this
end L
namespace L
open PySem PySem.W PyProof.Rows PM TM My
theorem Zry {n : Nat} {D : T} (hn : n ≤ 100) (h : D = .none ∨ ∃ G R, D = Z3 n G R) : ∃ t, Zd1 [D] = some t := by
 have key : Pk (Zd1 [D]) fun _ => True := by
  unfold Zd1 ZiW
  refine Zs9 rfl ?_
  rcases h with rfl | ⟨G, R, rfl⟩
  ·walk_at "zz"
   exact ⟨_, rfl, trivial⟩
  ·have hne : ∀ {Q : T → Prop}, Q (.bool true) → Pk (ZbC (Z3 n G R) .none) Q := fun h => ⟨_, rfl, h⟩
   walk_at "zz"
   refine hne ?_
   refine Zmt ?_
   refine Zoa rfl ?_
   obtain ⟨l, hg, hl⟩ := ZuE (n := n) (G := G) (R := R)
   obtain ⟨u, hu⟩ := ZuG (n := n) (g := .lst (l ++ [.lst [.int 7]])) (w := .tup [.int 7, .int 7]) (R := R) hn
   have ha := ZuF (l := l) (w := .lst [.int 7]) (r := ZaT n R) (by omega)
   have w1 : Za2 (Zf (Zk 7) Zn) = fun _ => some (.lst [.int 7]) := rfl
   have w2 : Za3 (Zf (Zk 7) (Zf (Zk 7) Zn)) = fun _ => some (.tup [.int 7, .int 7]) := rfl
   have e : (fun i => [Z3 n G R][i]? : TL) 0 = some (Z3 n G R) := rfl
   refine ⟨none, ZZ (ZZ (ZZ (fun i => [Z3 n G R][i]?) 0 (.tup [.lst l, ZaT n R])) 0 (.tup [.lst (l ++ [.lst [.int 7]]), ZaT n R])) 0 u, ?_, by simp, fun _ => ⟨u, Zb0, trivial⟩⟩
   simp only [Zt, ZbB, ZcQ, Za0, Zcx, Zk, Option.bind_some, e, List.nil_append, List.cons_append, hg, Option.map_some, ZgW, w1, w2, Zb0, ha, hu]
 obtain ⟨t, e, _⟩ := key
 exact ⟨t, e⟩
end L
namespace L
open PySem PySem.W PyProof.Rows PM TM My
noncomputable def DueOk (m : Nat) (D : T) : Prop := D = .none ∨ ∃ G R, D = Z3 m G R ∧ (∀ i, i < m + 1 → G i i = some 0) ∧ ∀ t, t < m → RestOk (R t)
theorem DueOk.same {m : Nat} {D : T} (hm : m ≤ 100) (h : DueOk m D) : ZdI [D, D] = some (.bool true) := by
 rcases h with rfl | ⟨G, R, rfl, hd, ok⟩
 ·exact Zpe
 ·exact Zpf hm hd ok
theorem DueOk.sh {m : Nat} {D : T} (h : DueOk m D) : D = .none ∨ ∃ G R, D = Z3 m G R := by
 rcases h with rfl | ⟨G, R, rfl, _, _⟩
 ·exact .inl rfl
 ·exact .inr ⟨G, R, rfl⟩
theorem Zl2 {S : T} : Zdo [.none, S] = some .none := by
 apply Pk.eq
 unfold Zdo Zgv
 walk_at "zz"
 rfl
end L
namespace L
open PySem PySem.W PyProof.Rows PM TM My
noncomputable def Tn (n K : Nat) (P : (Nat → Int) → Prop) (D : T) : Prop := (D = .none ∧ ∀ x, ¬ P x) ∨ ∃ G R, D = Z3 n G R ∧ (∀ i, i < n + 1 → G i i = some 0) ∧ (∀ t, t < n → RestOk (R t)) ∧ SmG K n G ∧ SmR K n R ∧ ∀ x, P x → Za5 n G R x
theorem Tn.due {n K : Nat} {P : (Nat → Int) → Prop} {D : T} (h : Tn n K P D) : DueOk n D := by
 rcases h with ⟨rfl, _⟩ | ⟨G, R, rfl, hd, ok, _⟩
 ·exact .inl rfl
 ·exact .inr ⟨G, R, rfl, hd, ok⟩
theorem Tn.sub {n K K' : Nat} {P P' : (Nat → Int) → Prop} {D : T} (h : Tn n K P D) (hK : K ≤ K') (hP : ∀ x, P' x → P x) : Tn n K' P' D := by
 rcases h with ⟨rfl, q⟩ | ⟨G, R, rfl, hd, ok, sG, sR, q⟩
 ·exact .inl ⟨rfl, fun x p => q x (hP x p)⟩
 ·exact .inr ⟨G, R, rfl, hd, ok, fun i j hi hj b e => Za4 (sG i j hi hj b e) hK, fun t ht => ⟨Za4 (sR t ht).1 hK, Za4 (sR t ht).2 hK⟩, fun x p => q x (hP x p)⟩
theorem Tn.lies {n K : Nat} {P : (Nat → Int) → Prop} {D : T} (h : Tn n K P D) (hn : n ≤ 20) {x : Nat → Int} (p : P x) : Zd3 [D, ZdW n x] = some (.bool true) := by
 rcases h with ⟨rfl, q⟩ | ⟨G, R, rfl, hd, ok, sG, sR, q⟩
 ·exact absurd p (q x)
 ·exact Zrw (by omega) (q x p) ok
theorem ZqG {n k K : Nat} {G G2 : Nat → Nat → Option Int} {R R2 : Nat → Int × Int} {M : Int} (hM : 0 < M) (bM : Bd K M) (bG : BdG (n + 1) k G) (hk : k + n + 1 ≤ K) (s : Sharp n G R G2 R2 M K) : BdG (n + 1) (K + n + 2) G2 ∧ ∀ t, t < n → RBd K (R2 t) := by
 obtain ⟨R1, _, h1, _, _, rfl, h2⟩ := s.go
 refine ⟨?_, fun t ht => (h2 t ht).1.bd hM bM⟩
 have b1 : BdG (n + 1) K (Z8 G (n + 1)) := fun a b c ha hb e => (ZdS bG (n + 1) (Nat.le_refl _) a b c ha hb e).mono (by omega)
 have b2 := ZlH hM bM b1 fun t ht => (h1 t ht).1
 exact fun a b c ha hb e => (ZdS b2 (n + 1) (Nat.le_refl _) a b c ha hb e).mono (by omega)
theorem Zn1 {n B : Nat} {G : Nat → Nat → Option Int} {R : Nat → Int × Int} (hn : n ≤ 20) (hB : 1 ≤ B) (hk : B * n + B + 2 * n + 5 ≤ 7000) (hd : ∀ i, i < n + 1 → G i i = some 0) (ok : ∀ t, t < n → RestOk (R t)) (sG : SmG B n G) (sR : SmR B n R) : ∃ D, ZcW [Z3 n G R] = some D ∧ ZcU [Z3 n G R] = some D ∧ Tn n (B * n + B + 3 * n + 9) (Za5 n G R) D := by
 have bM : Bd (B * n + B + 1) (Zdz R n) := (Znj hB (fun t ht => (sR t ht).1) n (Nat.le_refl n)).mono (by omega)
 have bG : BdG (n + 1) (B * n + B + 1) G := fun a b c ha hb e => (show Bd B c from sG a b ha hb c e).mono (by omega)
 have hR : ∀ t, t < n → RB (Zdz R n) (B * n + B + 1) (R t) := fun t ht => ⟨ok t ht, ZmU n t ht, (show Bd B (R t).2 from (sR t ht).2).mono (by omega)⟩
 have hM := ZmT ok n (Nat.le_refl n)
 obtain ⟨D, et, hD⟩ := Zsh (k := B * n + B + 1) (by omega) (by omega) hM bM hd bG hR
 obtain ⟨u, eu, hu⟩ := Zpy (k := B * n + B + 1) (by omega) (by omega) hM bM hd bG hR
 have := ZqD hD hu
 subst this
 refine ⟨D, et, eu, ?_⟩
 rcases hD with ⟨G2, R2, rfl, s⟩ | ⟨rfl, f⟩
 ·obtain ⟨z1, z2⟩ := ZqG hM (bM.mono (by omega)) bG (by omega) s
  obtain ⟨_, _, _, _, _, _, h6⟩ := s.go
  exact .inr ⟨G2, R2, rfl, (ZqF hd s).1, fun t ht => (h6 t ht).1.1, fun i j hi hj b e => Za4 (z1 i j b hi hj e) (by omega), fun t ht => ⟨Za4 (z2 t ht).1 (by omega), Za4 (z2 t ht).2 (by omega)⟩, fun x li => Zqw li s⟩
 ·exact .inl ⟨rfl, fun x li => absurd f (ZpU li)⟩
theorem ZqH {n : Nat} {G : Nat → Nat → Option Int} {R : Nat → Int × Int} {x y : Nat → Int} (h : Za5 n G R x) (e : ∀ t, t < n → y t = x t) : Za5 n G R y := by
 have f : ∀ i, i < n + 1 → ZaP y i = ZaP x i := fun i hi => by
  cases i with
  | zero => rfl
  | succ i => exact e i (by omega)
 exact ⟨fun i j hi hj b q => by rw [f i hi, f j hj]; exact h.1 i j hi hj b q, fun t ht => by rw [e t ht]; exact h.2 t ht⟩
theorem Zsl {n m b B : Nat} {G : Nat → Nat → Option Int} {R : Nat → Int × Int} {C : Nat → Nat → Int} (hn : n ≤ 20) (hm : m ≤ 20) (hb1 : 1 ≤ b) (hb : b ≤ 1000) (hB : b + b + n + 3 ≤ B) (hk : B * m + B + 2 * m + 5 ≤ 7000) (sG : SmG b n G) (sR : SmR b n R) (ok : ∀ t, t < n → RestOk (R t)) (hC : CB b n m C) : ∃ D, ZeM [Z3 n G R, Zcr n m C] = some D ∧ Zdo [Z3 n G R, Zcr n m C] = some D ∧ Tn m (B * m + B + 3 * m + 9) (fun v => ∃ x, Za5 n G R x ∧ ∀ t, t < m → v t = Za6 (C t) x n) D := by
 have hR : ∀ t, t < n → RBd b (R t) := sR
 obtain ⟨D, et, eu, hD⟩ := Zn1 (B := B) hm (by omega) hk (ZuR (G := G) (C := C)) (ZuH ok) (Zuh sG hC (by omega)) (Zui ok hR hC (by omega))
 refine ⟨D, Pk.eq (Zrx (b := b) (by omega) (by omega) hb hb1 sG hR ok hC (ZT et rfl)), Pk.eq (Zph (b := b) (by omega) (by omega) hb hb1 sG hR ok hC (ZT eu rfl)), hD.sub (Nat.le_refl _) ?_⟩
 rintro v ⟨x, li, e⟩
 exact ZqH (Ztp (m := m) (C := C) ok li) e
noncomputable def ZcT (r : Nat) (C : Nat → Nat → Int) : Nat → Nat → Int := fun i => if i < r then C i else fun _ => 0
theorem Ztr {b n r m : Nat} {C : Nat → Nat → Int} (h : CB b n r C) : CB b n m (ZcT r C) := fun i hi k hk => by
 unfold ZcT
 split
 ·rename_i q; exact h i q k hk
 ·exact ZdX
theorem Zn2 {n r z : Nat} {C : Nat → Nat → Int} : (tab r fun i => Zaj n (C i)) ++ (tab z fun _ => Zaj n fun _ => 0) = tab (r + z) fun i => Zaj n (ZcT r C i) := by
 apply List.ext_getElem
 ·simp [tab]
 ·intro i h1 h2
  by_cases q : i < r
  ·rw [List.getElem_append_left (by simpa [tab] using q)]
   simp [tab, ZcT, q]
  ·rw [List.getElem_append_right (by simpa [tab] using q)]
   simp [tab, ZcT, q]
theorem Zp0 {S k : T} : Zc8 [.none, S, k] = some .none := by
 apply Pk.eq
 unfold Zc8 Zfz
 walk_at "zz"
 refine ZT Zqu ?_
 walk_at "zz"
 rfl
theorem ZpC {n r s : Nat} {G : Nat → Nat → Option Int} {R : Nat → Int × Int} {S k : T} (h : ZcW [Z3 n G R] = some .none) : Zc8 [Z3 n G R, S, k] = some .none := by
 apply Pk.eq
 unfold Zc8 Zfz
 generalize Z3 n G R = T0 at *
 walk_at "zz"
 refine ZT h ?_
 walk_at "zz"
 rfl
theorem Zrz {n r z : Nat} {G G2 : Nat → Nat → Option Int} {R R2 : Nat → Int × Int} {C : Nat → Nat → Int} {D : T} (hn : n ≤ 20) (hr : r ≤ 20) (hz : z ≤ 20) (h : ZcW [Z3 n G R] = some (Z3 n G2 R2)) (h2 : ZeM [Z3 n G2 R2, Zcr n (r + z) (ZcT r C)] = some D) : Zc8 [Z3 n G R, Zcr n r C, .int (r + z : Nat)] = some D := by
 apply Pk.eq
 unfold Zc8 Zfz
 generalize Z3 n G R = T0 at *
 have ht : Z3 n G2 R2 = .tup [.lst (tab (n + 1) fun i => .lst (tab (n + 1) fun j => oT (G2 i j))), .lst (tab n fun i => Z4 (R2 i))] := rfl
 have hs : Zcr n r C = .lst (tab r fun i => Zaj n (C i)) := rfl
 rw [hs]
 walk_at "zz"
 refine ZT h ?_
 rw [ht]
 walk_at "zz"
 refine ZT (ZmF (i := 0) (n := n) (by omega)) ?_
 walk_at "zz"
 rw [Zoz, show ((r + z : Nat) : Int) - (r : Int) = ((z : Nat) : Int) by omega]
 refine ZeT (by omega) ?_
 refine Zhw (by simp [tab]; omega) ?_
 rw [Zn2]
 walk_at "zz"
 exact ZT h2 rfl
end L
namespace L
open PySem PySem.W PyProof.Rows PM TM My
theorem Zsm {n r z : Nat} {C : Nat → Nat → Int} {x : Nat → Int} : (tab r fun i => T.int (Za6 (C i) x n)) ++ (tab z fun _ => T.int 0) = tab (r + z) fun i => T.int (Za6 (ZcT r C i) x n) := by
 apply List.ext_getElem
 ·simp [tab]
 ·intro i h1 h2
  by_cases q : i < r
  ·rw [List.getElem_append_left (by simpa [tab] using q)]
   simp [tab, ZcT, q]
  ·rw [List.getElem_append_right (by simpa [tab] using q)]
   simp [tab, ZcT, q, Zlc]
theorem Zsn {n r z : Nat} {T0 : T} {C : Nat → Nat → Int} {x : Nat → Int} {Li : Prop} (hn : n ≤ 3) (hz : r + z ≤ 4) (hC : CB 140 n r C) (hT : T0 = .none ∨ ∃ (G : Nat → Nat → Option Int) (R : Nat → Int × Int), T0 = Z3 n G R ∧ (∀ i, i < n + 1 → G i i = some 0) ∧ (∀ t, t < n → RestOk (R t)) ∧ SmG 137 n G ∧ SmR 137 n R ∧ (Li → Za5 n G R x)) : ∃ D Sh, Zc8 [T0, Zcr n r C, .int (r + z : Nat)] = some D ∧ ZcU [T0] = some Sh ∧ Zdo [Sh, Zcr n (r + z) (ZcT r C)] = some D ∧ DueOk (r + z) D ∧ Pln 3 T0 ∧ ZdG [T0] = some T0 ∧ ∃ b, ZbC T0 .none = some (.bool b) ∧ (b = true → Li → Zd3 [D, ZdW (r + z) fun t => Za6 (ZcT r C t) x n] = some (.bool true)) := by
 rcases hT with rfl | ⟨G, R, rfl, hd, ok, sG, sR, hl⟩
 ·exact ⟨.none, .none, Zp0, Zo0, Zl2, .inl rfl, .none, Zri, false, rfl, fun h => by cases h⟩
 ·have hB : 137 * n ≤ 137 * 3 := Nat.mul_le_mul (Nat.le_refl _) hn
  have hm : 1150 * (r + z) ≤ 1150 * 4 := Nat.mul_le_mul (Nat.le_refl _) hz
  obtain ⟨D1, e1, e2, hD1⟩ := Zn1 (B := 137) (by omega) (by decide) (by omega) hd ok sG sR
  rcases hD1 with ⟨rfl, no⟩ | ⟨G2, R2, rfl, hd2, ok2, sG2, sR2, li2⟩
  ·exact ⟨.none, .none, ZpC (n := n) (r := r) (s := z) e1, e2, Zl2, .inl rfl, Zg8, ZnK (by omega), true, rfl, fun _ h => absurd (hl h) (no x)⟩
  ·have g2 : SmG 570 n G2 := fun i j hi hj b e => Za4 (sG2 i j hi hj b e) (by omega)
   have r2 : SmR 570 n R2 := fun t ht => ⟨Za4 (sR2 t ht).1 (by omega), Za4 (sR2 t ht).2 (by omega)⟩
   have c2 : CB 570 n (r + z) (ZcT r C) := Ztr fun i hi k hk => (hC i hi k hk).mono (by decide)
   obtain ⟨D, q1, q2, hD⟩ := Zsl (b := 570) (B := 1150) (by omega) (by omega) (by decide) (by decide) (by omega) (by omega) g2 r2 ok2 c2
   exact ⟨D, _, Zrz (by omega) (by omega) (by omega) e1 q1, e2, q2, hD.due, Zg8, ZnK (by omega), true, rfl, fun _ h => hD.lies (by omega) ⟨x, li2 x (hl h), fun t _ => rfl⟩⟩
theorem Zts {ns : List Int} {n : Nat} {T0 : T} {x : Nat → Int} {wy : Int} {σ : TL} {N : TL → Prop} (hL : Lay ns) (hn : n ≤ 3) (bx : ∀ i, i < n → Bd 140 (x i)) (e0 : σ 0 = some (scr ns)) (e1 : σ 1 = some (.int n)) (e2 : σ 2 = some (.lst (tab n fun i => .int (x i)))) (e3 : σ 3 = some T0) (e4 : σ 4 = some (.int wy)) (hT : T0 = .none ∨ ∃ (G : Nat → Nat → Option Int) (R : Nat → Int × Int), T0 = Z3 n G R ∧ (∀ i, i < n + 1 → G i i = some 0) ∧ (∀ t, t < n → RestOk (R t)) ∧ SmG 137 n G ∧ SmR 137 n R ∧ (wy.fmod 5 ≠ 1 → Za5 n G R x)) : Psk ((Zt (ZI 5 (Zan (ZaG (Zf (Zd Zo (Za2 (Zf (Zk 0) (Zf (Zk 1) (Zf (Zk 2) (Zf (Zk 1) (Zf (Zk 2) (Zf (Zk 1) (Zf (Zk 3) (Zf (Zk 4) Zn))))))))) (Zy Zbm (Zf (Za 0) (Zf (Zk 5) (Zf (Zk 8) Zn))))) Zn)) (Z5 102) Zad (Zy Zfs (Zf (Za 0) (Zf (Zd Z6 (Zk 8) (Zd Zat (Zk 5) (Za 102))) (Zf (Za 1) Zn)))))) (Zt (ZI 6 (Zy ZfZ (Zf (Zk 1) (Zf (Zd Z6 (Zy Zao (Zf (Za 5) Zn)) (Zy Zbm (Zf (Za 0) (Zf (Zk 6) (Zf (Zd ZaU (Zk 5) (Zy Zao (Zf (Za 5) Zn))) Zn))))) Zn)))) (Zt (ZI 7 (Zy ZdG (Zf (Za 3) Zn))) (Zt (ZI 8 (Zan (ZaE (Za 5)) (Z5 104) Zad (Zy Zcj (Zf (Za 104) Zn)))) (Zt (ZI 9 (Zy Zc8 (Zf (Za 3) (Zf (Za 8) (Zf (Za 6) Zn))))) (Zt (ZW (bOr (ZF (Zd qNe (Za 3) (Za 7))) (bOr (ZF (Zd qNe (Za 8) (Za 5))) Zci)) (ZG (Zbs false)) Z1) (Zt (ZI 10 (Zd Zat (Za2 (Zf (Zd Zat (Za2 (Zf (Zk 0) Zn)) (Zd Z6 (Za 1) (Zk 1))) Zn)) (Zd ZaU (Za 6) (Zy Zao (Zf (Za 5) Zn))))) (Zt (ZW (Zb3 (ZF (Zy ZdI (Zf (Za 9) (Zf (Zy Zdo (Zf (Zy ZcU (Zf (Za 7) Zn)) (Zf (Zd Z6 (Za 5) (Za 10)) Zn))) Zn))))) (ZG (Zbs false)) Z1) (Zt (ZI 11 (Zd Z6 (Zan (ZaE (Za 5)) (Z5 106) Zad (Zy ZeD (Zf (Za 106) (Zf (Za 2) Zn)))) (Zd Zat (Za2 (Zf (Zk 0) Zn)) (Zd ZaU (Za 6) (Zy Zao (Zf (Za 5) Zn)))))) (Zt (ZW (Zaw (ZF (Zd ZbC (Za 3) (ZY))) (Zaw (ZF (Zd qNe (Zd Za1 (Za 4) (Zk 5)) (Zk 1))) (Zaw (Zb3 (ZF (Zy Zd3 (Zf (Za 9) (Zf (Za 11) Zn))))) Zad))) (ZG (Zbs false)) Z1) (Zt (Ze4 9 Zd1 Zn) (ZG (Zd qEq (Za 3) (Za 7)))))))))))))) σ) (fun t => t = .bool true) N := by
 obtain ⟨q0, q1⟩ := ZbU ns 5 (show (0 : Int) < 8 by decide)
 obtain ⟨v, ev, hv⟩ := ZfS q0 (show Za8 ns 5 8 < (8 : Nat) by omega)
 obtain ⟨r, hr, hidr⟩ : ∃ r : Nat, r ≤ 4 ∧ [T.int 0, .int 1, .int 2, .int 1, .int 2, .int 1, .int 3, .int 4][v]? = some (.int r) := by
  match v, hv with
  | 0, _ => exact ⟨0, by decide, rfl⟩
  | 1, _ => exact ⟨1, by decide, rfl⟩
  | 2, _ => exact ⟨2, by decide, rfl⟩
  | 3, _ => exact ⟨1, by decide, rfl⟩
  | 4, _ => exact ⟨2, by decide, rfl⟩
  | 5, _ => exact ⟨1, by decide, rfl⟩
  | 6, _ => exact ⟨3, by decide, rfl⟩
  | 7, _ => exact ⟨4, by decide, rfl⟩
 walk_at "zz"
 refine ZmO (n := r) (a := fun i => .int i) (Zaj n) (fun _ c => SumB n c 1000000000) (by omega) ?_ (fun t ht => ?_) (fun _ => 0) fun C hC => ?_
 ·walk_at "zz"
  refine ZT (Zb1 (by decide) (by decide) (by decide)) ?_
  rw [ev]
  refine ZfF (t := .int r) (by omega) (by rw [Int.toNat_natCast]; exact hidr) ?_
  walk_at "zz"
  rfl
 ·walk_at "zz"
  refine Zda (by omega) (by omega) ?_
  walk_at "zz"
  exact ZuK (by omega) (by omega) hL (by omega)
 have hCB : CB 140 n r C := fun i hi k hk => (hC i hi).bd (by decide) k hk
 obtain ⟨p0, p1⟩ := ZbU ns 6 (show (0 : Int) < 5 - (r : Int) by omega)
 obtain ⟨z, ez, hz⟩ : ∃ z : Nat, (if (r : Int) + Za8 ns 6 (5 - (r : Int)) > 1 then (r : Int) + Za8 ns 6 (5 - (r : Int)) else 1) = ((r + z : Nat) : Int) ∧ r + z ≤ 4 := by
  generalize Za8 ns 6 (5 - (r : Int)) = p at *
  by_cases h : (r : Int) + p > 1
  ·exact ⟨p.toNat, by rw [if_pos h]; omega, by omega⟩
  ·exact ⟨1 - r, by rw [if_neg h]; omega, by omega⟩
 obtain ⟨D, Sh, a1, a2, a3, hD, pl, cp, bn, hbn, hlies⟩ := Zsn (x := x) hn hz hCB hT
 have hs := hD.same (by omega)
 obtain ⟨t, et⟩ := Zry (n := r + z) (by omega) hD.sh
 clear hT hD
 have es : T.lst (tab r fun i => Zaj n (C i)) = Zcr n r C := rfl
 have ps := Ztq (C := C) (n := n) (m := r)
 have hl : ∀ {σ : TL}, σ 5 = some (.lst (tab r fun i => Zaj n (C i))) → Pk (Zan (ZaE (Za 5)) (Z5 104) Zad (Zy Zcj (Zf (Za 104) Zn)) σ) fun t => t = Zcr n r C := fun e => by
  refine ZbR (n := r) (a := fun t => Zaj n (C t)) (b := fun t => Zaj n (C t)) (by omega) ?_ (fun t ht => ?_) rfl
  ·walk_at "zz"
   rfl
  ·unfold Zaj
   walk_at "zz"
   rfl
 have hval : ∀ {σ : TL}, σ 5 = some (.lst (tab r fun i => Zaj n (C i))) → σ 2 = some (.lst (tab n fun i => .int (x i))) → Pk (Zan (ZaE (Za 5)) (Z5 106) Zad (Zy ZeD (Zf (Za 106) (Zf (Za 2) Zn))) σ) fun t => t = .lst (tab r fun i => T.int (Za6 (C i) x n)) := fun e f => by
  refine ZbR (n := r) (a := fun t => Zaj n (C t)) (b := fun t => .int (Za6 (C t) x n)) (by omega) ?_ (fun t ht => ?_) rfl
  ·walk_at "zz"
   rfl
  ·walk_at "zz"
   exact ZT (Zsk (b := 140) (by omega) (by decide) (fun k hk => hCB t ht k hk) bx) rfl
 have hz2 : ((r + z : Nat) : Int) - (r : Int) = ((z : Nat) : Int) := by omega
 walk_at "zz"
 refine ZT (Zb1 (by decide) (by decide) (by omega)) ?_
 walk_at "zz"
 rw [ez]
 refine ZT cp ?_
 walk_at "zz"
 refine (hl (by walk_at "zr")).mono ?_
 rintro _ rfl
 walk_at "zz"
 refine ZT a1 ?_
 walk_at "zz"
 refine Zod pl pl ?_
 rw [Zbi rfl]
 walk_at "zz"
 refine Zod ps ps ?_
 rw [Zbi es.symm]
 walk_at "zz"
 rw [show (n : Int) + 1 = ((n + 1 : Nat) : Int) by omega]
 refine ZeT (by omega) ?_
 walk_at "zz"
 rw [hz2]
 refine ZeT (by omega) ?_
 walk_at "zz"
 refine ZT a2 ?_
 walk_at "zz"
 refine Zhw (by simp [tab]; omega) ?_
 rw [show (T.lst (tab (n + 1) fun _ => T.int 0)) = Zaj n fun _ => 0 from rfl, Zn2]
 walk_at "zz"
 refine ZT a3 ?_
 walk_at "zz"
 refine ZT hs ?_
 walk_at "zz"
 refine (hval (by walk_at "zr") (by walk_at "zr")).mono ?_
 rintro _ rfl
 walk_at "zz"
 rw [hz2]
 refine ZeT (by omega) ?_
 refine Zhw (by simp [tab]; omega) ?_
 rw [Zsm]
 walk_at "zz"
 refine ⟨_, hbn, ?_⟩
 have fin : ∀ {σ : TL}, σ 3 = some T0 → σ 7 = some T0 → σ 9 = some D → Psk (Ze4 9 Zd1 Zn σ) (fun t => t = .bool true) fun σ1 => Psk (ZG (Zd qEq (Za 3) (Za 7)) σ1) (fun t => t = .bool true) N := fun g3 g7 g9 => by
  refine Zud (t := D) (by walk_at "zr") ?_
  walk_at "zz"
  refine ZT et ?_
  walk_at "zz"
  refine ZfL pl pl ?_
  rw [Zbi rfl]
 cases bn with
 | false =>
  walk_at "zz"
  exact fin (by walk_at "zr") (by walk_at "zr") (by walk_at "zr")
 | true =>
  by_cases hw : wy.fmod 5 = 1
  ·walk_at "zz"
   exact fin (by walk_at "zr") (by walk_at "zr") (by walk_at "zr")
  ·walk_at "zz"
   refine ZT (hlies rfl hw) ?_
   walk_at "zz"
   exact fin (by walk_at "zr") (by walk_at "zr") (by walk_at "zr")
theorem Zp1 {ns : List Int} (hL : Lay ns) : Zk6 [scr ns] = some (.bool true) := by
 apply Pk.eq
 unfold Zk6 Zk5
 obtain ⟨p0, p1⟩ := ZbU ns 0 (show (0 : Int) < 9 by decide)
 obtain ⟨w, ew, hw⟩ := ZfS p0 (show Za8 ns 0 9 < (9 : Nat) by omega)
 walk_at "zz"
 refine ZT (Zb1 (by decide) (by decide) (by decide)) ?_
 rw [ew]
 obtain ⟨n, hn, hidx⟩ : ∃ n : Nat, n ≤ 3 ∧ [T.int 0, .int 1, .int 2, .int 1, .int 2, .int 1, .int 2, .int 1, .int 3][w]? = some (.int n) := by
  match w, hw with
  | 0, _ => exact ⟨0, by decide, rfl⟩
  | 1, _ => exact ⟨1, by decide, rfl⟩
  | 2, _ => exact ⟨2, by decide, rfl⟩
  | 3, _ => exact ⟨1, by decide, rfl⟩
  | 4, _ => exact ⟨2, by decide, rfl⟩
  | 5, _ => exact ⟨1, by decide, rfl⟩
  | 6, _ => exact ⟨2, by decide, rfl⟩
  | 7, _ => exact ⟨1, by decide, rfl⟩
  | 8, _ => exact ⟨3, by decide, rfl⟩
 refine ZfF (t := .int n) (by omega) (by rw [Int.toNat_natCast]; exact hidx) ?_
 walk_at "zz"
 refine ZbR (n := n) (a := fun i => .int i) (b := fun i => .int (Zb4 ns (2 + i))) (by omega) ?_ (fun t ht => ?_) ?_
 ·walk_at "zz"
  rfl
 ·walk_at "zz"
  exact ZT (Zfu hL (by omega) (by omega)) rfl
 generalize hx : (fun i : Nat => Zb4 ns (2 + i)) = x
 have sx : ∀ i, i < n → (x i).natAbs < 2 ^ 134 := fun i _ => by rw [← hx]; exact Zhs ns _
 rw [show (fun i : Nat => T.int (Zb4 ns (2 + i))) = fun i => T.int (x i) by rw [← hx]]
 walk_at "zz"
 refine ZT (Ztb (x := x) hL (by decide) (by decide) (by omega)) ?_
 have gd := Zrg ns 30 n x
 have li := Zrf ns 30 n x
 have smG : SmG 136 n (ZbW ns 30 n x) := Zse sx
 have smR : SmR 136 n (Zek ns 30 n x) := fun t ht => ⟨Za4 (Zne (ns := ns) (k := 30) sx t ht).1 (by decide), Za4 (Zne (ns := ns) (k := 30) sx t ht).2 (by decide)⟩
 generalize ZbW ns 30 n x = G at *
 generalize Zek ns 30 n x = R at *
 walk_at "zz"
 refine ZT (Zb1 (by decide) (by decide) (by decide)) ?_
 generalize Za8 ns 1 55 = wy at *
 refine Zc9 (fun σ' => σ' 0 = some (scr ns) ∧ σ' 1 = some (.int n) ∧ σ' 2 = some (.lst (tab n fun i => .int (x i))) ∧ σ' 4 = some (.int wy) ∧ ∃ (G : Nat → Nat → Option Int) (R : Nat → Int × Int), σ' 3 = some (Z3 n G R) ∧ (∀ i, i < n + 1 → G i i = some 0) ∧ (∀ t, t < n → RestOk (R t)) ∧ SmG 137 n G ∧ SmR 137 n R ∧ (wy.fmod 5 ≠ 1 → Za5 n G R x)) ?_ ?_
 ·walk_at "zz"
  refine ⟨fun c => ?_, fun c => ?_⟩
  ·walk_at "zz"
   refine (Zrv (B := 136) hL (by decide) (by decide) (by omega) (by decide) gd.2 smR smG).mono ?_
   rintro _ ⟨G2, R2, rfl, d2, r2, g2, s2⟩
   exact ⟨by walk_at "zr", by walk_at "zr", by walk_at "zr", by walk_at "zr", G2, R2, Zb0, fun i hi => by rw [d2 i hi]; exact gd.1 i hi, r2, g2, s2, fun q => absurd (by simpa using c) q⟩
  ·walk_at "zz"
   exact ⟨by walk_at "zr", by walk_at "zr", by walk_at "zr", by walk_at "zr", G, R, by walk_at "zr", gd.1, gd.2, fun a b ha hb c e => Za4 (smG a b ha hb c e) (by decide), fun t ht => ⟨Za4 (smR t ht).1 (by decide), Za4 (smR t ht).2 (by decide)⟩, fun _ => li⟩
 clear smG smR gd li
 rintro σ2 ⟨e0, e1, e2, e4, G1, R1, e3, hd1, ok1, sG1, sR1, li1⟩
 refine Zc9 (fun σ' => σ' 0 = some (scr ns) ∧ σ' 1 = some (.int n) ∧ σ' 2 = some (.lst (tab n fun i => .int (x i))) ∧ σ' 4 = some (.int wy) ∧ ∃ T0, σ' 3 = some T0 ∧ (T0 = .none ∨ ∃ (G : Nat → Nat → Option Int) (R : Nat → Int × Int), T0 = Z3 n G R ∧ (∀ i, i < n + 1 → G i i = some 0) ∧ (∀ t, t < n → RestOk (R t)) ∧ SmG 137 n G ∧ SmR 137 n R ∧ (wy.fmod 5 ≠ 1 → Za5 n G R x))) ?_ ?_
 ·walk_at "zz"
  refine ⟨fun c => ?_, fun c => ?_⟩
  ·walk_at "zz"
   exact ⟨by walk_at "zr", by walk_at "zr", by walk_at "zr", by walk_at "zr", .none, Zb0, .inl rfl⟩
  ·walk_at "zz"
   exact ⟨e0, e1, e2, e4, _, e3, .inr ⟨G1, R1, rfl, hd1, ok1, sG1, sR1, li1⟩⟩
 rintro σ3 ⟨f0, f1, f2, f4, T0, f3, hT⟩
 exact Zts hL hn (fun i hi => Za4 (sx i hi) (by decide)) f0 f1 f2 f3 f4 hT
theorem ZpD {ns : List Int} (hlen : ns.length ≤ 63) (hL : PyData.layable0 (.list (ns.map .int)) = true) : ∃ H', Zna [.ref 0] [ns.map V.int] = some (.bool true, H') := Zq3 Zsa ns (Zp1 hL)
end L
end
section
open PySem PySem.W PyProof.Rows
namespace PySem.W.Fast
def tw5105673956185107153:=0
def tw9296360433889664002:=0
def tw16968176118458789586:=0
def tw9497945907656264259:=0
def tw316514102143019080:=0
def tw1176975735165151067:=0
def tw9515242367644423802:=0
def tw10426125643436316091:=0
def tw16920697182585239240:=0
def tw10199354318988768051:=0
def tw4621932581444047675:=0
def tw13402640891724300857:=0
def tw14869557710840242666:=0
def tw17643754061406199020:=0
def tw11187973929812520656:=0
def tw10667965978278278033:=0
def tw9601000219436670146:=0
def tw15452572443179084588:=0
def tw9156678896304099913:=0
def tw15886500619415505586:=0
def tw3520363519792060846:=0
def tw12048056826642495367:=0
def tw4419873286371483742:=0
def tw4491058772748593153:=0
def tw13436231055378572716:=0
def tw15221209806709932071:=0
def tw11930311979851757478:=0
def tw10209164474934016114:=0
def tw9774394379856643515:=0
def tw2257529940240947247:=0
def tw12533650973541477374:=0
def tw3101917741504857134:=0
def tw7523194637212750777:=0
def tw4361700775904427359:=0
def tw3092117133297227249:=0
def tw10299302589577801163:=0
def tw13840814423707232359:=0
def tw15515405784836723652:=0
def tw17624731456758155189:=0
def tw11519117686961666697:=0
def tw2947586027576077979:=0
def tw16932301668260661676:=0
def tw4157206338815638501:=0
def tw11630328935867623959:=0
def tw5587826856885255690:=0
def tw6956825152630321102:=0
def tw16915470645016011554:=0
def tw16472409268878238316:=0
def tw10700183255674453818:=0
def tw8164005668110941744:=0
def tw3764688243253525356:=0
def tw5681066748535004433:=0
def tw234749781942434899:=0
def tw529536973988259948:=0
def tw1906743188756502811:=0
def tw8426798971799828003:=0
def tw10335527622381539264:=0
def tw14501001857826371202:=0
def tw17925384258215065573:=0
def tw5030944203280556702:=0
def tw7328447075739424539:=0
def tw13517250619966689955:=0
def tw16131593051203169754:=0
def tw8933567498414919238:=0
def tw7492102371377302679:=0
def tw5623994078177797194:=0
def tw5312734613080425828:=0
def tw10155365746132046468:=0
def tw17849293660312457548:=0
def tw14613296582639449008:=0
def tw12018387782679925087:=0
def tw16745343075639119971:=0
def tw16749348522385944071:=0
def tw4235718262950952673:=0
def tw69414778264802052:=0
def tw16550838102048051623:=0
def tw7537285074954141530:=0
def tw7215932318001415403:=0
def tw12300527617525357084:=0
def tw16950569574821323974:=0
def tw4843473975253519250:=0
def tw16172578528114110199:=0
def tw1541540961381408409:=0
def tw8789256864460932259:=0
def tw15622835117965313283:=0
def tw5388663596951873645:=0
def tw11849525312028181438:=0
def tw10785849952161257653:=0
def tw15943592676296772274:=0
def tw7317576523658780031:=0
def tw16317983856663788926:=0
def tw8621301723031713458:=0
def tw4248988804066548162:=0
def tw12068798485007620914:=0
def tw7363425622247834253:=0
def tw12941643214049860704:=0
def tw13056512690104125533:=0
def tw8934421753687110507:=0
def tw3094701115853657799:=0
def tw1385777081429181588:=0
def tw16279701975793424917:=0
def tw4179031660912777645:=0
def tw305048472116853797:=0
def tw3857615796733700780:=0
def tw804092199982636349:=0
def tw15508019666092448443:=0
def tw13829591483307370896:=0
def tw2133357390318303931:=0
def tw17969941481158815411:=0
def tw16469568281967520401:=0
def tw15213048550514571353:=0
def tw17334881123488906936:=0
def tw1165732905965986049:=0
def tw4033379813872489195:=0
def tw14712817762504950641:=0
def tw8903238766108814736:=0
def tw539595736760451978:=0
def tw16149030986926176842:=0
def tw11622863634709415212:=0
def tw13478877428745155630:=0
def tw1820406046763328738:=0
def tw8436589768386056944:=0
def tw3103751414666246812:=0
def tw145712597652796589:=0
def tw10097012582147076362:=0
def tw17721039672839981703:=0
def tw112567504061534027:=0
def tw9192171586001469603:=0
def tw9455475090630465045:=0
def tw2766794811542550618:=0
def tw17004574920194074796:=0
def tw7825248364748044718:=0
def tw17845374550828520631:=0
def tw17619882183920601743:=0
def tw14439765378166140033:=0
def tw8454840944936950519:=0
def tw18221076124747093969:=0
def tw10752687858943698738:=0
def tw7470021291188754609:=0
def tw16629561534657121264:=0
def tw17601101962401091345:=0
def tw14864845329073380503:=0
def tw7586693836618795562:=0
def tw12059592832596718669:=0
def tw16118103595353321548:=0
def tw11712190458185945011:=0
def tw12976177241038019767:=0
def tw13231743877010270464:=0
def tw14566440943485919492:=0
def tw15069716523494295500:=0
def tw14678158920106854735:=0
def tw14790834132378566595:=0
def tw8839083969933755074:=0
def tw10188337973796604112:=0
def tw802917404587063742:=0
def tw5488966160659634681:=0
def tw15845117809764550140:=0
def tw6664951462986138201:=0
def tw3241244739717862871:=0
def tw15679247252792206210:=0
def tw8160871880118814707:=0
def tw7805864855692585105:=0
def tw15431134087688302020:=0
def tw16606372426019300928:=0
def tw9508736203920968164:=0
def tw6585068141940680455:=0
def tw15274285528044863693:=0
def tw11990459337992974956:=0
def tw5036445103931068615:=0
def tw517312751163448032:=0
def tw10780761586765376359:=0
def tw11732214188671553305:=0
def tw13792483299354683862:=0
def tw4954584648838934644:=0
def tw6511239469406747073:=0
def tw6737687440995333003:=0
def tw11289143093466461953:=0
def tw16919330064296535691:=0
def tw13989995598129119793:=0
def tw9516800180062724845:=0
def tw1948689806639624469:=0
def tw2852278927748849453:=0
def tw5427499738942290107:=0
def tw10390157646234782899:=0
def tw10042499479572932358:=0
def tw6731276024794131016:=0
def tw17996964024917085871:=0
def tw3018857605461269779:=0
def tw3992908553847606798:=0
def tw7042659310547366237:=0
def tw10015853644003576960:=0
def tw17857563459279650048:=0
def tw8864380892348041232:=0
def tw1322031339247656150:=0
def tw12434779806091606683:=0
def tw13218621648322568166:=0
def tw14495299557687959983:=0
def tw5353813085845620550:=0
def tw12184380411685104690:=0
def tw4475145619620083286:=0
def tw10693841506766600124:=0
def tw15724745641170818534:=0
def tw5485572742587201778:=0
def tw13481268755573549168:=0
def tw17093224777342109595:=0
def tw8237626310708396552:=0
def tw4211700434839312001:=0
def tw17837415989878807268:=0
def tw9585978970863474492:=0
def tw4674102799890499726:=0
def tw5552461122284547459:=0
def tw6315216371427503177:=0
def tw5260856337621036202:=0
def tw8824595633291508535:=0
def tw5196745748485118893:=0
def tw14805814515597417852:=0
def tw726985913927333873:=0
def tw2385268686561707046:=0
def tw2335157872551914648:=0
def tw2927799364441409784:=0
def tw729466047920990731:=0
def tw17513604867990543079:=0
def tw8605165415444627158:=0
def tw15124591269120493529:=0
def tw13553050674002434610:=0
def tw14987661418082201831:=0
def tw15632992782082381434:=0
def tw5426448371682200115:=0
def tw5661640270340304354:=0
def tw17094580856887593759:=0
def tw3904583755211930517:=0
def tw17119971604622065936:=0
def tw14788362278542820120:=0
def tw2648174423076098445:=0
def tw7317234293075219:=0
def tw10069975712529536831:=0
def tw4425046354534653865:=0
def tw3373145609055282853:=0
def tw18431155831084640082:=0
def tw14722794537435163219:=0
def tw11069628954808310989:=0
def tw7942853410682446962:=0
def tw17698735102306075112:=0
def tw11118301316682269745:=0
def tw15078095837771203109:=0
def tw11188117447681078326:=0
def tw4227517698962585424:=0
def tw11763852733077360975:=0
def tw8526028360262338249:=0
def tw10052001805573714066:=0
def tw1877378965866140348:=0
def tw306725001281121169:=0
def tw17882641709403210578:=0
def tw12694589447371642155:=0
def tw4153491320931672185:=0
def tw15545184769064153574:=0
def tw12067549021546063074:=0
def tw16396790404030501481:=0
def tw15755044616229629136:=0
def tw1647960591809683682:=0
def tw17878424488110687958:=0
def tw14267268813261638861:=0
def tw5835942142707902020:=0
def tw4185518321428705831:=0
def tw10015450608781386451:=0
def tw3345597093286824917:=0
def tw8174591469460913490:=0
def tw5680315236850328200:=0
def tw5916140570258018564:=0
def tw7340446101256811000:=0
def tw3121739546393284973:=0
def tw14323227155912201964:=0
def tw14734032772098568817:=0
def tw2962324470309885386:=0
def tw16266442582153907279:=0
def tw11320351676317602388:=0
def tw6793172497655745189:=0
def tw6905212232875527693:=0
def tw13952158723898717365:=0
def tw18012574323051992567:=0
def tw5310652868755799522:=0
def tw7524379617451308511:=0
def tw12674656310777702994:=0
def tw18167724695441219349:=0
def tw12392129776423771058:=0
def tw4968929673044707356:=0
def tw13887902116395311400:=0
def tw1391549112126926301:=0
def tw12712400820596877648:=0
def tw13055661147411815287:=0
def tw3934833063311361131:=0
def tw7076977106511060911:=0
def tw274189353798237994:=0
def tw2873748437651673626:=0
def tw10896712999787139778:=0
def tw16655083059833703075:=0
def tw6771182271545134960:=0
def tw3664731896753646195:=0
def tw6873971014812347169:=0
def tw4340971767527515617:=0
def tw10497823618577955822:=0
def tw644751248652905101:=0
def tw13508602156133886167:=0
def tw2680141511932349947:=0
def tw897888412878121761:=0
def tw10131873952172028942:=0
def tw18329075359065952542:=0
def tw16463793508043411602:=0
def tw5587484289544270231:=0
def tw8131721106225051767:=0
def tw15261137711255440680:=0
def tw10800367221633172730:=0
def tw10134030333460990790:=0
def tw2202087279664922802:=0
def tw3471986238504059686:=0
def tw4799189423077775474:=0
def tw17456480263006714056:=0
def tw1567247161763788871:=0
def tw18182889222666715495:=0
def tw7894344252036594922:=0
def tw7090585071989052306:=0
def tw5845538515087863352:=0
def tw4188684199736651882:=0
def tw17338234738716814015:=0
def tw6623812351622530092:=0
def tw12325562205625792791:=0
def tw1998032249293215463:=0
def tw9161490523856799436:=0
def tw6760056911573607715:=0
def tw7618804249908900691:=0
def tw11300376045408061371:=0
def tw18277388166739348960:=0
def tw3133745999044795564:=0
def tw670427922429333600:=0
def tw3083371992184736890:=0
def tw10354477200866600673:=0
def tw12079628635447562283:=0
def tw6252695792229605141:=0
def tw14658174975189471336:=0
def tw12487779173672901959:=0
def tw10393078302967963895:=0
def tw6205024481829086969:=0
def tw16884622931589843948:=0
def tw5015507407206683207:=0
def tw8621336744817483243:=0
def tw16408362238061914836:=0
def tw10412780308102683651:=0
def tw14064692534454641163:=0
def tw15155859288707382567:=0
def tw5425125011635884837:=0
def tw11347631108264317165:=0
def tw11586196018267737339:=0
def tw17590088832654516399:=0
def tw4842887358765978389:=0
def tw14398365135244066966:=0
def tw6606014719576569030:=0
def tw6999941293234460784:=0
def tw10241233070082051121:=0
def tw14112606434462084385:=0
def tw1173414789623836638:=0
def tw12319047049370110589:=0
def tw7158441374720773216:=0
def tw16286715671046524454:=0
def tw133755455108545178:=0
def tw12514039047250868702:=0
def tw5609530884314319229:=0
def tw6788773261714906821:=0
def tw7945405709010385892:=0
def tw12694112234171929671:=0
def tw7717702957765121957:=0
def tw13350131943787299761:=0
def tw1354003750591732747:=0
def tw14731147920152588799:=0
def tw11887224372650548316:=0
def tw8078195926588453703:=0
def tw3822784309164373692:=0
def tw5674458297940323589:=0
def tw12523711969749109062:=0
def tw5011889884212318148:=0
def tw11970942820725077907:=0
def tw14245618210516037357:=0
def tw6784790241324674965:=0
def tw2456577590951144490:=0
def tw8697654515486363317:=0
def tw12661032092557703082:=0
def tw16607927582987124570:=0
def tw13949155002146243131:=0
def tw4589182232624314844:=0
def tw16970792351503237766:=0
def tw14949513074056673275:=0
def tw1620389302784492585:=0
def tw13323373534744806615:=0
def tw15854262060937163188:=0
def tw17960848765466677729:=0
def tw7910172739516966087:=0
def tw17802128708061929859:=0
def tw9835382159548102362:=0
def tw5517803901209239669:=0
def tw14650769484350525481:=0
def tw5713610079918043996:=0
def tw18042889414512086050:=0
def tw1833547357909804662:=0
def tw3016012700857477809:=0
def tw3942624392001961204:=0
def tw5738919822854818926:=0
def tw6728313399510405491:=0
def tw2450569374399577549:=0
def tw6662249597110656733:=0
def tw7750522813701495628:=0
def tw11654023200298843171:=0
def tw11843833423457600547:=0
def tw15536387163757344236:=0
def tw17108046237660401759:=0
def tw16504757533647375273:=0
end PySem.W.Fast
set_option maxRecDepth 100000 in
set_option maxHeartbeats 8000000 in
open_top head for PySem.Challenge.rw_seer_k51_arguments
end
section
set_option maxRecDepth 100000
set_option maxHeartbeats 8000000
set_option linter.all false
open PySem PySem.W PySem.Calls PyProof.Rows PM
namespace L
noncomputable abbrev DD (w : World) (s₀ : Shared) (mg mb : Str → Option Value) (f : Addr) (r : Nat) (F : List V → Hp → Option (V × Hp)) : Prop := Def PySem.Challenge.rw_seer_k51_arguments.row.prog w (head.heap_39 w.params) head.view_39 (looseW head.view_39 []) (ExcName.means s₀.heap) mg mb f r F
section
variable {w : World} {s₀ : Shared} {mg mb : Str → Option Value}
theorem Zmp : DD w s₀ mg mb 295 1 Zgx := by
 unfold DD; k_fill
 refine Dof (names := ["_law_script", "_law_k", "_law_number_here"]) (g := Zi6) ?_
 exact fun _ _ _ _ _ _ _ c _ _ => (Zz (ZO sL (ZE (ZE (ZE vL vL ZaQ) jI ZaQ) jI Zak)) (Zz (Z7 (ZQ (Zau (nB c) (Zh vL Zr) ZaM) jI Zed) (ZD (ZO sL (ZE vL (Zv vL (ZE vL (Zau (nB c) (Zh vL Zr) ZaM) Zba)) Zak))) Zab) (ZD (ZM vL))))
theorem law_pick_d : DD w s₀ mg mb 302 2 ZbH := by
 unfold DD; k_fill
 refine Dof (names := ["_law_script", "_law_k", "_law_many"]) (g := ZjG) ?_
 exact fun _ _ _ _ _ _ _ c _ _ => (ZD (ZM (ZE (ZE (ZE (cF c Zmp (Zh vL (Zh vL Zr))) jI ZaQ) jI Zba) vL Zba)))
theorem Zfc : DD w s₀ mg mb 309 2 Zd0 := by
 unfold DD; k_fill
 refine Dof (names := ["_law_script", "_law_k", "_law_number_here", "_law_reach"]) (g := ZiI) ?_
 exact fun _ _ _ _ _ _ _ c _ _ => (Zz (ZO sL (cF c Zmp (Zh vL (Zh vL Zr)))) (Zz (ZO sL (Zv (J.list (Zh jI (Zh jI (Zh (ZE jI jI Zlr) (Zh (ZE jI jI Zlr) Zr))))) (ZE (ZE (ZE vL jI ZaQ) jI Zba) jI Zba))) (ZD (ZM (ZE (ZE (ZE vL (ZE jI jI Zlr) ZaQ) (ZE (ZE jI vL ZaQ) jI Zak) Zba) vL Zbd)))))
theorem Zp2 : DD w s₀ mg mb 316 3 Zi9 := by
 unfold DD; k_fill
 refine Dof (names := ["_law_script", "_law_k", "_law_way"]) (g := Zi8) ?_
 exact fun _ _ _ _ _ _ _ c _ _ => (Zz (ZO sL (cF c law_pick_d (Zh vL (Zh vL (Zh jI Zr))))) (Zz (Z7 (ZQ (ZE vL jI Zba) jI Zcl) (ZD (ZM jN)) Zab) (Zz (Z7 (ZQ (ZE vL jI Zba) jI Zcl) (ZD (ZM jI)) Zab) (Zz (Z7 (ZQ (ZE vL jI Zba) jI ZaW) (ZD (ZM (ZE vL jI Zds))) Zab) (ZD (ZM (Zau (nB c) (Zh (cF c Zfc (Zh vL (Zh vL Zr))) Zr) Zd7)))))))
theorem Zez : DD w s₀ mg mb 323 1 ZdD := by
 unfold DD; k_fill
 refine Dof (names := ["_law_m", "_law_r"]) (g := Ziu) ?_
 exact fun _ _ _ _ _ _ _ c _ _ => (Zz (Z7 (ZQ vL jI ZaW) (ZD (ZM (J.tup (Zh jI (Zh vL Zr))))) Zab) (ZD (ZM (J.tup (Zh vL (Zh (ZE vL vL Zba) Zr))))))
theorem ZqI : DD w s₀ mg mb 330 3 ZjJ := by
 unfold DD; k_fill
 refine Dof (names := ["_law_script", "_law_k", "_law_number_here", "_law_way"]) (g := ZjI) ?_
 exact fun _ _ _ _ _ _ _ c _ _ => (Zz (ZO sL (cF c law_pick_d (Zh vL (Zh vL (Zh jI Zr))))) (Zz (Z7 (ZQ (ZE vL jI Zba) jI Zcl) (ZD (ZM (J.tup (Zh jI (Zh jI Zr))))) Zab) (Zz (Z7 (ZQ (ZE vL jI Zba) jI ZaW) (ZD (ZM (J.tup (Zh jI (Zh vL Zr))))) Zab) (Zz (Z7 (ZQ (ZE vL jI Zba) jI ZaW) (ZD (ZM (cF c Zez (Zh (ZE (ZE vL jI Zds) jI Zak) (Zh vL Zr))))) Zab) (ZD (ZM (cF c Zez (Zh (Zau (nB c) (Zh (cF c Zfc (Zh vL (Zh vL Zr))) Zr) Zd7) (Zh vL Zr)))))))))
theorem ZqJ : DD w s₀ mg mb 335 4 ZjM := by
 unfold DD; k_fill
 refine Dof (names := ["_law_script", "_law_k", "_law_boxes", "_law_full", "_law_size", "_law_bounds", "_law_i", "_law_row", "_law_j", "_law_top"]) (g := ZjL) ?_
 exact fun _ _ _ _ _ _ _ c _ _ => (Zz (ZO sL (ZE (J.list (Zh jI Zr)) vC Zak)) (Zz (ZO sC (Zau (nB c) (Zh vL Zr) ZaM)) (Zz (ZO sL (J.list Zr)) (Zz (Zby sL (JI.range (nB c) (Zh vC Zr)) (Zz (ZO sL (J.list Zr)) (Zz (Zby sL (JI.range (nB c) (Zh vC Zr)) (Zz (ZO sL (cF c Zp2 (Zh vC (Zh (ZE (ZE vC (ZE vL vC ZaQ) Zak) vL Zak) Zr)))) (Zz (Z7 (ZQ vL jN Zce) (ZD (ZO sL (ZE (ZE (Zv vL vL) (Zv vL vL) Zbd) vL Zak))) Zab) (ZD (Zd8 (J.append vL vL)))))) (Zz (S1.put jI vL vL) (ZD (Zd8 (J.append vL vL))))))) (ZD (ZM (J.tup (Zh vL (Zh (by refine cO ?_ ?_ ?_; (exact (JI.range (nB c) (Zh (ZE vC jI Zbd) Zr))); (exact fun _ _ => (cF (Zbv c) ZqI (Zh vD (Zh (ZE (ZE vD (ZE vD vD ZaQ) Zak) vO Zak) (Zh (Zv vD vO) Zr))))); (exact fun _ _ => JF.nil)) Zr)))))))))
theorem ZqK : DD w s₀ mg mb 340 1 ZjP := by
 unfold DD; k_fill
 refine Dof (names := ["_law_told_here"]) (g := ZjO) ?_
 exact fun _ _ _ _ _ _ _ c _ _ => (Zz (Z7 (ZQ vL jN Zbo) (ZD (ZM jN)) Zab) (ZD (ZM (J.tup (Zh (by refine cO ?_ ?_ ?_; (exact (JI.seq (Zv vL jI))); (exact fun _ _ => (ZdL (nB (Zbv c)) (Zh vO Zr) ZdJ)); (exact fun _ _ => JF.nil)) (Zh (ZdL (nB c) (Zh (Zv vL jI) Zr) ZdJ) Zr))))))
theorem Zl8 : DD w s₀ mg mb 228 1 Zex := by
 unfold DD; k_fill
 refine Dof (names := ["rests"]) (g := Ziz) ?_
 exact fun _ _ _ _ _ _ _ c _ _ => (ZD (ZM (ZE (J.list (Zh (J.tup (Zh jI (Zh jI Zr))) Zr)) vL Zak)))
theorem ZmX : DD w s₀ mg mb 110 1 ZgY := by
 unfold DD; k_fill
 refine Dof (names := ["one", "other", "left", "right", "over"]) (g := Zkr) ?_
 exact fun _ _ _ _ _ _ _ c _ _ => (Zz (ZO sL (Zau (nB c) (Zh vL Zr) Zd7)) (Zz (ZO sL (Zau (nB c) (Zh vL Zr) Zd7)) (Zz (Zfw 1000000 (ZQ vL jI Zbr) (Zz (ZO sL (ZE vL vL Zba)) (Zz (ZO sL vL) (ZD (ZO sL vL))))) (ZD (ZM vL)))))
theorem ZlI : DD w s₀ mg mb 124 1 ZfR := by
 unfold DD; k_fill
 refine Dof (names := ["m", "r"]) (g := ZlB) ?_
 exact fun _ _ _ _ _ _ _ c _ _ => (Zz (Z7 (ZQ vL jI Zcl) (ZD (ZuA)) Zab) (Zz (Z7 (ZQ vL jI ZaW) (ZD (ZM (J.tup (Zh jI (Zh vL Zr))))) Zab) (ZD (ZM (J.tup (Zh vL (Zh (ZE vL vL Zba) Zr)))))))
theorem ZrA : DD w s₀ mg mb 117 1 Zku := by
 unfold DD; k_fill
 refine Dof (names := ["one", "by", "left", "right", "left_turns", "right_turns", "part", "over", "over_turns"]) (g := Zkt) ?_
 exact fun _ _ _ _ _ _ _ c _ _ => (Zz (ZO sL (ZE vL vL Zba)) (Zz (ZO sL vL) (Zz (ZO sL jI) (Zz (ZO sL jI) (Zz (Zfw 1000000 (ZQ vL jI Zbr) (Zz (ZO sL (ZE vL vL Zds)) (Zz (ZO sL (ZE vL (ZE vL vL ZaQ) Zbd)) (Zz (ZO sL (ZE vL (ZE vL vL ZaQ) Zbd)) (Zz (ZO sL vL) (Zz (ZO sL vL) (Zz (ZO sL vL) (ZD (ZO sL vL))))))))) (ZD (ZM (ZE vL vL Zba))))))))
theorem ZmG : DD w s₀ mg mb 131 1 ZgK := by
 unfold DD; k_fill
 refine Dof (names := ["one", "number"]) (g := ZjQ) ?_
 exact fun _ _ _ _ _ _ _ c _ _ => (Zz (Z7 (ZQ (Zv vL jI) jI ZaW) (ZD (ZM (Zde vL (Zv vL jI) ZaW))) Zab) (ZD (ZM (Zde (ZE vL (Zv vL jI) Zba) (Zv vL jI) ZaW))))
theorem ZqL : DD w s₀ mg mb 138 2 ZjT := by
 unfold DD; k_fill
 refine Dof (names := ["one", "other", "common", "apart", "width", "turns"]) (g := ZjS) ?_
 exact fun _ _ _ _ _ _ _ c _ _ => (Zz (Z7 (ZQ (Zv vL jI) jI ZaW) (ZD (ZM (ZfU (Zb7 (cF c ZmG (Zh vL (Zh (Zv vL jI) Zr)))) vL jN))) Zab) (Zz (Z7 (ZQ (Zv vL jI) jI ZaW) (ZD (ZM (ZfU (Zb7 (cF c ZmG (Zh vL (Zh (Zv vL jI) Zr)))) vL jN))) Zab) (Zz (ZO sL (cF c ZmX (Zh (Zv vL jI) (Zh (Zv vL jI) Zr)))) (Zz (ZO sL (ZE (Zv vL jI) (Zv vL jI) Zbd)) (Zz (Z7 (ZQ (ZE vL vL Zba) jI Zbr) (ZD (ZM jN)) Zab) (Zz (ZO sL (ZE (Zv vL jI) vL Zds)) (Zz (ZO sL (ZE (ZE vL vL Zds) (cF c ZrA (Zh (ZE (Zv vL jI) vL Zds) (Zh vL Zr))) ZaQ)) (ZD (ZM (cF c ZlI (Zh (ZE (Zv vL jI) vL ZaQ) (Zh (ZE (Zv vL jI) (ZE (Zv vL jI) vL ZaQ) Zak) Zr))))))))))))
theorem Zfn : DD w s₀ mg mb 53 1 Zd2 := by
 unfold DD; k_fill
 refine Dof (names := ["one", "other"]) (g := ZjV) ?_
 exact fun _ _ _ _ _ _ _ c _ _ => (Zz (Z7 (Za7 (Zbn (ZQ vL jN Zbo) (Zbn (ZQ vL jN Zbo) ZcF))) (ZD (ZM jN)) Zab) (ZD (ZM (ZE vL vL Zak))))
theorem ZjB : DD w s₀ mg mb 145 2 Zfe := by
 unfold DD; k_fill
 refine Dof (names := ["one", "other"]) (g := Zje) ?_
 exact fun _ _ _ _ _ _ _ c _ _ => (ZD (ZM (cF c ZlI (Zh (cF c ZmX (Zh (Zv vL jI) (Zh (Zv vL jI) Zr))) (Zh (ZE (Zv vL jI) (Zv vL jI) Zak) Zr)))))
theorem Zo2 : DD w s₀ mg mb 235 3 Ze6 := by
 unfold DD; k_fill
 refine Dof (names := ["bounds", "rests", "i", "met", "j", "other"]) (g := Zii) ?_
 exact fun _ _ _ _ _ _ _ c _ _ => (Zz (ZO sL (Zv vL vL)) (Zz (Zhe sL sL (ZrZ (nB c) vL) (ZD (Z7 (Za7 (ZaL (ZQ vL jN Zce) (ZaL (ZQ (cF c Zfn (Zh (Zv (Zv vL vL) vL) (Zh (Zv (Zv vL vL) vL) Zr))) jI ZaW) ZbZ))) (ZD (ZO sL (cF c ZqL (Zh vL (Zh (cF c ZjB (Zh vL (Zh (J.tup (Zh jI (Zh (Zv (Zv vL vL) vL) Zr))) Zr))) Zr))))) Zab))) (ZD (ZM vL))))
theorem Zpi : DD w s₀ mg mb 221 4 ZdE := by
 unfold DD; k_fill
 refine Dof (names := ["told", "rests", "met"]) (g := Ze7) ?_
 exact fun _ _ _ _ _ _ _ c _ _ => (Zz (Z7 (ZQ vC jN Zbo) (ZD (ZM jN)) Zab) (Zz (ZO sC (cF c Zl8 (Zh (Zv vC jI) Zr))) (Zz (by refine sO sL ?_ ?_ ?_; (exact (JI.range (nB c) (Zh jI (Zh (Zau (nB c) (Zh vC Zr) ZaM) Zr)))); (exact fun _ _ => (cF (Zbv c) Zo2 (Zh (Zv vD jI) (Zh vD (Zh vO Zr))))); (exact fun _ _ => JF.nil)) (Zz (Z7 (ZQ jN vL ZhN) (ZD (ZM jN)) Zab) (ZD (ZM (J.tup (Zh (Zv vC jI) (Zh vL Zr)))))))))
theorem Zp3 : DD w s₀ mg mb 74 1 Zjc := by
 unfold DD; k_fill
 refine Dof (names := ["one", "other"]) (g := Zjb) ?_
 exact fun _ _ _ _ _ _ _ c _ _ => (ZD (ZM (ZuL (Zde vL jN Zbo) (ZlJ (Zde vL jN Zce) (Zde vL vL ZlK)))))
theorem Zso : DD w s₀ mg mb 81 2 ZkV := by
 unfold DD; k_fill
 refine Dof (names := ["one", "other"]) (g := ZkU) ?_
 exact fun _ _ _ _ _ _ _ c _ _ => (ZD (ZM (ZfU (Zb7 (cF c Zp3 (Zh vL (Zh vL Zr)))) vL vL)))
theorem ZoO : DD w s₀ mg mb 98 3 Zh1 := by
 unfold DD; k_fill
 refine Dof (names := ["row", "there", "further"]) (g := Zh0) ?_
 exact fun _ _ _ _ _ _ _ c _ _ => (ZD (ZM (by refine cT ?_ ?_; (exact (JI2.zip (nB c) vL vL)); (exact fun _ _ => (cF (Zbv c) Zso (Zh vO (Zh (cF (Zbv c) Zfn (Zh vD (Zh vO Zr))) Zr)))))))
theorem Zp4 : DD w s₀ mg mb 93 4 Zji := by
 unfold DD; k_fill
 refine Dof (names := ["bounds", "mid"]) (g := Zjh) ?_
 exact fun _ _ _ _ _ _ _ c _ _ => (ZD (ZM (by refine cO ?_ ?_ ?_; (exact (JI.seq vC)); (exact fun _ _ => (cF (Zbv c) ZoO (Zh vO (Zh (Zv vO vD) (Zh (Zv vD vD) Zr))))); (exact fun _ _ => JF.nil))))
theorem Zo3 : DD w s₀ mg mb 103 1 Zid := by
 unfold DD; k_fill
 refine Dof (names := ["bounds"]) (g := Zic) ?_
 exact fun _ _ _ _ _ _ _ c _ _ => (ZD (ZM (Zau (nB c) (Zh (by refine cO ?_ ?_ ?_; (exact (JI.range (nB c) (Zh (Zau (nB c) (Zh vC Zr) ZaM) Zr))); (exact fun _ _ => (Zde (Zv (Zv vD vO) vO) jI Zcl)); (exact fun _ _ => JF.nil)) Zr) ZtA)))
theorem Zsp : DD w s₀ mg mb 88 5 ZeL := by
 unfold DD; k_fill
 refine Dof (names := ["bounds", "near", "mid"]) (g := ZkX) ?_
 exact fun _ _ _ _ _ _ _ c _ _ => (Zz (ZO sL vL) (Zz (Zby sL (JI.range (nB c) (Zh (Zau (nB c) (Zh vL Zr) ZaM) Zr)) (Zz (ZO sL (cF c Zp4 (Zh vL (Zh vL Zr)))) (ZD (Z7 (Zb7 (cF c Zo3 (Zh vL Zr))) (ZD (ZM jN)) Zab)))) (ZD (ZM vL))))
theorem Zuj : DD w s₀ mg mb 216 6 ZdP := by
 unfold DD; k_fill
 refine Dof (names := ["told", "bounds"]) (g := ZhG) ?_
 exact fun _ _ _ _ _ _ _ c _ _ => (Zz (Z7 (ZQ vL jN Zbo) (ZD (ZM jN)) Zab) (Zz (ZO sL (cF c Zsp (Zh (Zv vL jI) Zr))) (Zz (Z7 (ZQ vL jN Zbo) (ZD (ZM jN)) Zab) (ZD (ZM (J.tup (Zh vL (Zh (Zv vL jI) Zr))))))))
theorem Zos : DD w s₀ mg mb 209 7 ZeY := by
 unfold DD; k_fill
 refine Dof (names := ["told"]) (g := ZlE) ?_
 exact fun _ _ _ _ _ _ _ c _ _ => (ZD (ZM (cF c Zpi (Zh (cF c Zuj (Zh vL Zr)) Zr))))
theorem ZpE : DD w s₀ mg mb 159 1 ZiR := by
 unfold DD; k_fill
 refine Dof (names := ["one", "top"]) (g := ZiQ) ?_
 exact fun _ _ _ _ _ _ _ c _ _ => (Zz (Z7 (ZQ (Zv vL jI) jI ZaW) (ZD (ZM (ZfU (ZQ (Zv vL jI) vL ZlK) (Zv vL jI) jN))) Zab) (ZD (ZM (ZE vL (ZE (ZE vL (Zv vL jI) Zbd) (Zv vL jI) Zba) Zbd))))
theorem ZoP : DD w s₀ mg mb 254 2 Zh7 := by
 unfold DD; k_fill
 refine Dof (names := ["bound", "left"]) (g := Zh6) ?_
 exact fun _ _ _ _ _ _ _ c _ _ => (Zz (Z7 (ZQ vL jN Zce) (ZD (ZM (cF c ZpE (Zh vL (Zh vL Zr))))) Zab) (Zz (Z7 (ZQ (Zv vL jI) jI ZaW) (ZD (ZM (Zv vL jI))) Zab) (ZD (ZM jN))))
theorem Zmc : DD w s₀ mg mb 152 2 Zgq := by
 unfold DD; k_fill
 refine Dof (names := ["one", "k"]) (g := ZiN) ?_
 exact fun _ _ _ _ _ _ _ c _ _ => (ZD (ZM (cF c ZlI (Zh (ZE (Zv vL jI) (Zau (nB c) (Zh vL Zr) Zd7) ZaQ) (Zh (ZE (Zv vL jI) vL ZaQ) Zr)))))
theorem Zpj : DD w s₀ mg mb 247 3 ZiD := by
 unfold DD; k_fill
 refine Dof (names := ["row", "left", "rests", "new", "bound", "other", "low"]) (g := ZiC) ?_
 exact fun _ _ _ _ _ _ _ c _ _ => (Zz (ZO sL (J.list Zr)) (Zz (Zhe sL sL (JI2.zip (nB c) vL vL) (Zz (ZO sL (cF c ZoP (Zh vL (Zh (cF c ZjB (Zh vL (Zh (cF c Zmc (Zh vL (Zh (Zen jI Zd6) Zr))) Zr))) Zr)))) (Zz (Z7 (Za7 (ZaL (ZQ vL jN Zbo) (ZaL (ZQ vL jN Zce) ZbZ))) (ZD (ZM jN)) Zab) (ZD (Zd8 (J.append vL vL)))))) (ZD (ZM vL))))
theorem ZrB : DD w s₀ mg mb 240 4 Zkx := by
 unfold DD; k_fill
 refine Dof (names := ["told", "rests", "bounds"]) (g := Zkw) ?_
 exact fun _ _ _ _ _ _ _ c _ _ => (Zz (Z7 (ZQ vL jN Zbo) (ZD (ZM jN)) Zab) (Zz (ZO sC (cF c Zl8 (Zh (Zv vL jI) Zr))) (Zz (by refine sT sL ?_ ?_; (exact (JI2.zip (nB c) (Zv vL jI) vC)); (exact fun _ _ => (cF (Zbv c) Zpj (Zh vO (Zh vO (Zh vD Zr)))))) (Zz (Z7 (ZQ jN vL ZhN) (ZD (ZM jN)) Zab) (ZD (ZM (J.tup (Zh vL (Zh (Zv vL jI) Zr)))))))))
theorem Zn3 : DD w s₀ mg mb 202 8 Zhp := by
 unfold DD; k_fill
 refine Dof (names := ["told"]) (g := Zlm) ?_
 exact fun _ _ _ _ _ _ _ c _ _ => (ZD (ZM (cF c Zos (Zh (cF c ZrB (Zh (cF c Zos (Zh vL Zr)) Zr)) Zr))))
theorem ZmY : DD w s₀ mg mb 164 1 Zg2 := by
 unfold DD; k_fill
 refine Dof (names := ["i", "n"]) (g := ZkE) ?_
 exact fun _ _ _ _ _ _ _ c _ _ => (ZD (ZM (by refine cO ?_ ?_ ?_; (exact (JI.range (nB c) (Zh (ZE vL jI Zak) Zr))); (exact fun _ _ => (ZfU (Za7 (ZaL (ZQ vD jI Zed) (ZaL (ZQ vO vD ZaW) ZbZ))) jI jI)); (exact fun _ _ => JF.nil))))
theorem ZoQ : DD w s₀ mg mb 271 1 Zia := by
 unfold DD; k_fill
 refine Dof (names := ["one"]) (g := Zh9) ?_
 exact fun _ _ _ _ _ _ _ c _ _ => (ZD (ZM (Zde (Zau (nB c) (Zh (by refine cO ?_ ?_ ?_; (exact (JI.seq (Zhz vL jI))); (exact fun _ _ => vO); (exact fun _ _ => JF.one (ZQ vO jI Zbr))) Zr) Zq9) (J.list (Zh (Zen jI Zd6) (Zh jI Zr))) ZaW)))
theorem Zo4 : DD w s₀ mg mb 46 2 Zig := by
 unfold DD; k_fill
 refine Dof (names := ["one", "other"]) (g := Zif) ?_
 exact fun _ _ _ _ _ _ _ c _ _ => (ZD (ZM (J.tup (Zh (cF c Zfn (Zh (Zv vL jI) (Zh (Zv vL jI) Zr))) (Zh (cF c Zfn (Zh (Zv vL jI) (Zh (Zv vL jI) Zr))) Zr)))))
theorem ZjC : DD w s₀ mg mb 67 1 Zfg := by
 unfold DD; k_fill
 refine Dof (names := ["end", "k"]) (g := Zjn) ?_
 exact fun _ _ _ _ _ _ _ c _ _ => (Zz (Z7 (ZQ vL jN Zbo) (ZD (ZM jN)) Zab) (ZD (ZM (ZE vL vL ZaQ))))
theorem ZoR : DD w s₀ mg mb 60 2 Zh4 := by
 unfold DD; k_fill
 refine Dof (names := ["one", "k", "lo", "hi"]) (g := Zh3) ?_
 exact fun _ _ _ _ _ _ _ c _ _ => (Zz (Z7 (ZQ vL jI ZaW) (ZD (ZM (J.tup (Zh jI (Zh jI Zr))))) Zab) (Zz (ZO sL (cF c ZjC (Zh (Zv vL jI) (Zh vL Zr)))) (Zz (ZO sL (cF c ZjC (Zh (Zv vL jI) (Zh vL Zr)))) (Zz (Z7 (ZQ vL jI Zcl) (ZD (ZM (J.tup (Zh vL (Zh vL Zr))))) Zab) (ZD (ZM (J.tup (Zh vL (Zh vL Zr)))))))))
theorem Zpk : DD w s₀ mg mb 188 3 Zix := by
 unfold DD; k_fill
 refine Dof (names := ["one", "stretches", "whole", "k", "part"]) (g := Ziw) ?_
 exact fun _ _ _ _ _ _ _ c _ _ => (Zz (ZO sL (J.tup (Zh (Zv vL jI) (Zh (Zv vL jI) Zr)))) (Zz (Zhe sL sL (JI2.zip (nB c) (Zhz vL jI) vL) (ZD (ZO sL (cF c Zo4 (Zh vL (Zh (cF c ZoR (Zh vL (Zh vL Zr))) Zr)))))) (ZD (ZM vL))))
theorem Zo5 : DD w s₀ mg mb 259 2 Zio := by
 unfold DD; k_fill
 refine Dof (names := ["told", "bounds"]) (g := Zin) ?_
 exact fun _ _ _ _ _ _ _ c _ _ => (Zz (ZO sC (Zv vL jI)) (ZD (ZM (by refine cO ?_ ?_ ?_; (exact (JI.range (nB c) (Zh jI (Zh (Zau (nB c) (Zh vC Zr) ZaM) Zr)))); (exact fun _ _ => (J.tup (Zh (cF (Zbv c) ZjC (Zh (Zv (Zv vD jI) vO) (Zh (Zen jI Zd6) Zr))) (Zh (Zv (Zv vD vO) jI) Zr)))); (exact fun _ _ => JF.nil)))))
theorem ZqM : DD w s₀ mg mb 266 4 Zj9 := by
 unfold DD; k_fill
 refine Dof (names := ["told", "one"]) (g := Zj8) ?_
 exact fun _ _ _ _ _ _ _ c _ _ => (Zz (Z7 (Zb7 (cF c ZoQ (Zh vL Zr))) (ZD (ZM (cF c Zfn (Zh (Zv (Zv (Zv vL jI) (J.index vL jI jI)) (J.index vL (Zen jI Zd6) jI)) (Zh (Zv vL jI) Zr))))) Zab) (ZD (ZM (Zv (cF c Zpk (Zh vL (Zh (cF c Zo5 (Zh vL Zr)) Zr))) jI))))
theorem ZqN : DD w s₀ mg mb 169 1 Zkc := by
 unfold DD; k_fill
 refine Dof (names := ["one", "other"]) (g := Zkb) ?_
 exact fun _ _ _ _ _ _ _ c _ _ => (ZD (ZM (by refine cT ?_ ?_; (exact (JI2.zip (nB c) vL vL)); (exact fun _ _ => (ZE vO vO Zak)))))
theorem Zp5 : DD w s₀ mg mb 174 1 Zjv := by
 unfold DD; k_fill
 refine Dof (names := ["one", "k"]) (g := Zju) ?_
 exact fun _ _ _ _ _ _ _ c _ _ => (ZD (ZM (by refine cO ?_ ?_ ?_; (exact (JI.seq vL)); (exact fun _ _ => (ZE vO vD ZaQ)); (exact fun _ _ => JF.nil))))
theorem ZqO : DD w s₀ mg mb 181 2 Zkf := by
 unfold DD; k_fill
 refine Dof (names := ["one", "other"]) (g := Zke) ?_
 exact fun _ _ _ _ _ _ _ c _ _ => (ZD (ZM (cF c ZqN (Zh vL (Zh (cF c Zp5 (Zh vL (Zh (Zen jI Zd6) Zr))) Zr)))))
theorem ZpF : DD w s₀ mg mb 281 5 ZiY := by
 unfold DD; k_fill
 refine Dof (names := ["told", "one", "others"]) (g := ZiX) ?_
 exact fun _ _ _ _ _ _ _ c _ _ => (ZD (ZM (by refine cO ?_ ?_ ?_; (exact (JI.seq vL)); (exact fun _ _ => (cF (Zbv c) ZqM (Zh vD (Zh (cF (Zbv c) ZqO (Zh vD (Zh vO Zr))) Zr)))); (exact fun _ _ => JF.nil))))
theorem ZqP : DD w s₀ mg mb 195 3 Zj1 := by
 unfold DD; k_fill
 refine Dof (names := ["one", "rests", "whole", "k", "part"]) (g := Zj0) ?_
 exact fun _ _ _ _ _ _ _ c _ _ => (Zz (ZO sL (J.tup (Zh jI (Zh (Zv vL jI) Zr)))) (Zz (Zhe sL sL (JI2.zip (nB c) (Zhz vL jI) vL) (ZD (ZO sL (cF c ZjB (Zh vL (Zh (cF c Zmc (Zh vL (Zh vL Zr))) Zr)))))) (ZD (ZM vL))))
theorem Zsq : DD w s₀ mg mb 276 9 Zk0 := by
 unfold DD; k_fill
 refine Dof (names := ["told", "sums", "all_sums", "bounds", "rests"]) (g := ZkZ) ?_
 exact fun _ _ _ _ _ _ _ c _ _ => (Zz (Z7 (ZQ vC jN Zbo) (ZD (ZM jN)) Zab) (Zz (ZO sC (ZE (J.list (Zh (cF c ZmY (Zh jI (Zh (Zau (nB c) (Zh (Zv vC jI) Zr) ZaM) Zr))) Zr)) vL Zak)) (Zz (by refine sO sL ?_ ?_ ?_; (exact (JI.seq vC)); (exact fun _ _ => (cF (Zbv c) ZpF (Zh vD (Zh vO (Zh vD Zr))))); (exact fun _ _ => JF.nil)) (Zz (by refine sO sL ?_ ?_ ?_; (exact (JI.seq vL)); (exact fun _ _ => (cF (Zbv c) ZqP (Zh vO (Zh (Zv vD jI) Zr)))); (exact fun _ _ => JF.nil)) (ZD (ZM (cF c Zn3 (Zh (J.tup (Zh vL (Zh vL Zr))) Zr))))))))
theorem Zsr : DD w s₀ mg mb 288 10 Zk3 := by
 unfold DD; k_fill
 refine Dof (names := ["told", "row", "many", "sharpened", "nought"]) (g := Zk2) ?_
 exact fun _ _ _ _ _ _ _ c _ _ => (Zz (ZO sL (cF c Zn3 (Zh vL Zr))) (Zz (Z7 (ZQ vL jN Zbo) (ZD (ZM jN)) Zab) (Zz (ZO sL (cF c ZmY (Zh jI (Zh (Zau (nB c) (Zh (Zv vL jI) Zr) ZaM) Zr)))) (ZD (ZM (cF c Zsq (Zh vL (Zh (ZE vL (ZE (J.list (Zh vL Zr)) (ZE vL (Zau (nB c) (Zh vL Zr) ZaM) Zbd) ZaQ) Zak) Zr))))))))
theorem ZpG : DD w s₀ mg mb 459 1 ZiV := by
 unfold DD; k_fill
 refine Dof (names := ["_law_told_here"]) (g := Zgt) ?_
 exact fun _ _ _ _ _ _ _ c _ _ => (ZD (Z7 (ZQ vL jN Zce) (Zz (S1.put jI (Zv (Zv vL jI) jI) jI) (Zz (Zd8 (J.append (Zv vL jI) (J.list (Zh jI Zr)))) (ZD (Zd8 (J.append (Zv vL jI) (J.tup (Zh jI (Zh jI Zr)))))))) Zab))
theorem ZpH : DD w s₀ mg mb 352 3 ZiL := by
 unfold DD; k_fill
 refine Dof (names := ["_law_script", "_law_k", "_law_told_here", "_law_bounds", "_law_rests", "_law_i", "_law_j", "_law_way", "_law_t", "_law_one"]) (g := ZiK) ?_
 exact fun _ _ _ _ _ _ _ c _ _ => (Zz (by refine sO sL ?_ ?_ ?_; (exact (JI.seq (Zv vL jI))); (exact fun _ _ => (ZdL (nB (Zbv c)) (Zh vO Zr) ZdJ)); (exact fun _ _ => JF.nil)) (Zz (ZO sL (ZdL (nB c) (Zh (Zv vL jI) Zr) ZdJ)) (Zz (ZO sL (cF c law_pick_d (Zh vL (Zh vL (Zh (Zau (nB c) (Zh vL Zr) ZaM) Zr))))) (Zz (ZO sL (cF c law_pick_d (Zh vL (Zh (ZE vL jI Zak) (Zh (Zau (nB c) (Zh vL Zr) ZaM) Zr))))) (Zz (ZO sL (cF c law_pick_d (Zh vL (Zh (ZE vL jI Zak) (Zh jI Zr))))) (Zz (Z7 (Za7 (ZaL (ZQ vL jI Zcl) (ZaL (ZQ vL vL Zbr) (ZaL (ZQ (Zv (Zv vL vL) vL) jN Zbo) ZbZ)))) (ZD (S1.put (cF c Zfc (Zh vL (Zh (ZE vL jI Zak) Zr))) (Zv vL vL) vL)) (ZD (Z7 (Za7 (ZaL (ZQ vL jI Zcl) (ZaL (ZQ vL vL Zbr) ZbZ))) (ZD (S1.put (ZE (ZE (Zv (Zv vL vL) vL) jI Zbd) (cF c law_pick_d (Zh vL (Zh (ZE vL jI Zak) (Zh jI Zr)))) Zbd) (Zv vL vL) vL)) (ZD (Z7 (ZQ (Zau (nB c) (Zh vL Zr) ZaM) jI Zed) (Zz (ZO sL (cF c law_pick_d (Zh vL (Zh vL (Zh (Zau (nB c) (Zh vL Zr) ZaM) Zr))))) (Zz (ZO sL (Zv vL vL)) (ZD (S1.put (cF c Zez (Zh (ZE (Zv vL jI) (ZE jI (ZE vL jI Zba) Zak) ZaQ) (Zh (ZE (Zv vL jI) (cF c law_pick_d (Zh vL (Zh (ZE vL jI Zak) (Zh jI Zr)))) Zak) Zr))) vL vL)))) Zab))))) (ZD (ZM (J.tup (Zh vL (Zh vL Zr)))))))))))
theorem ZrC : DD w s₀ mg mb 425 3 ZkC := by
 unfold DD; k_fill
 refine Dof (names := ["_law_script", "_law_k", "_law_many", "_law_one", "_law_way", "_law_at", "_law_to", "_law_i"]) (g := ZkB) ?_
 exact fun _ _ _ _ _ _ _ c _ _ => (Zz (ZO sL (ZE (J.list (Zh (cF c Zfc (Zh vL (Zh vL Zr))) Zr)) (ZE (J.list (Zh jI Zr)) vL ZaQ) Zak)) (Zz (ZO sL (cF c law_pick_d (Zh vL (Zh vL (Zh jI Zr))))) (Zz (Z7 (Za7 (Zbn (ZQ vL jI ZaW) (Zbn (ZQ vL jI ZaW) ZcF))) (ZD (ZM vL)) Zab) (Zz (ZO sL (ZE jI (cF c law_pick_d (Zh vL (Zh (ZE vL jI Zak) (Zh vL Zr)))) Zak)) (Zz (Z7 (ZQ vL jI ZaW) (ZD (S1.put (ZE (cF c law_pick_d (Zh vL (Zh (ZE vL jI Zak) (Zh jI Zr)))) jI Zbd) vL vL)) Zab) (Zz (Z7 (Za7 (Zbn (ZQ vL jI ZaW) (Zbn (ZQ vL jI ZaW) ZcF))) (Zz (ZO sL (ZE jI (cF c law_pick_d (Zh vL (Zh (ZE vL jI Zak) (Zh vL Zr)))) Zak)) (Zz (S1.put jI vL vL) (ZD (S1.put (ZE (Zv vL vL) jI Zbd) vL vL)))) Zab) (Zz (Z7 (ZQ vL jI ZaW) (ZD (Zby sL (JI.range (nB c) (Zh vL Zr)) (ZD (S1.put (ZE (cF c law_pick_d (Zh vL (Zh (ZE (ZE vL jI Zak) vL Zak) (Zh jI Zr)))) jI Zbd) vL (ZE vL jI Zak))))) Zab) (Zz (Z7 (ZQ vL jI ZaW) (ZD (Zby sL (JI.range (nB c) (Zh vL Zr)) (ZD (S1.put (ZE (cF c law_pick_d (Zh vL (Zh (ZE (ZE vL jI Zak) vL Zak) (Zh jI Zr)))) jI Zbd) vL (ZE vL jI Zak))))) Zab) (ZD (ZM vL))))))))))
theorem ZjD : DD w s₀ mg mb 359 1 Zff := by
 unfold DD; k_fill
 refine Dof (names := ["_law_thing"]) (g := Zjk) ?_
 exact fun _ _ _ _ _ _ _ c _ _ => (ZD (ZM (ZlJ (Zd4 (nB c) (nB c) (.inl rfl) vL) (Zuk (Zd4 (nB c) (nB c) (.inr (.inl rfl)) vL)))))
theorem ZqQ : DD w s₀ mg mb 366 2 ZjY := by
 unfold DD; k_fill
 refine Dof (names := ["_law_thing", "_law_size", "_law_i", "_law_top"]) (g := ZjX) ?_
 exact fun _ _ _ _ _ _ _ c _ _ => (Zz (Z7 (Za7 (Zbn (ZcJ (Zb7 (Zd4 (nB c) (nB c) (.inr (.inr (.inl rfl))) vL))) (Zbn (ZQ (Zau (nB c) (Zh vL Zr) ZaM) vL Zbr) ZcF))) (ZD (ZM jB)) Zab) (Zz (Zby sL (JI.range (nB c) (Zh vL Zr)) (Zz (Z7 (Za7 (Zbn (ZcJ (Zb7 (Zd4 (nB c) (nB c) (.inr (.inr (.inl rfl))) (Zv vL vL)))) (Zbn (ZQ (Zau (nB c) (Zh (Zv vL vL) Zr) ZaM) vL Zbr) ZcF))) (ZD (ZM jB)) Zab) (Zz (Zby sL (JI.seq (Zv vL vL)) (ZD (Z7 (Za7 (ZaL (ZQ vL jN Zce) (ZaL (ZcJ (Zb7 (cF c ZjD (Zh vL Zr)))) ZbZ))) (ZD (ZM jB)) Zab))) (ZD (Z7 (ZQ (Zv (Zv vL vL) vL) jI Zbr) (ZD (ZM jB)) Zab))))) (ZD (ZM jB))))
theorem Zp6 : DD w s₀ mg mb 373 3 Zjs := by
 unfold DD; k_fill
 refine Dof (names := ["_law_thing", "_law_many", "_law_pair"]) (g := Zjr) ?_
 exact fun _ _ _ _ _ _ _ c _ _ => (Zz (Z7 (Za7 (Zbn (ZcJ (Zb7 (Zd4 (nB c) (nB c) (.inr (.inr (.inr rfl))) vL))) (Zbn (ZQ (Zau (nB c) (Zh vL Zr) ZaM) jI Zbr) (Zbn (ZcJ (Zb7 (cF c ZqQ (Zh (Zv vL jI) (Zh (ZE vL jI Zak) Zr))))) ZcF)))) (ZD (ZM jB)) Zab) (Zz (Z7 (Za7 (Zbn (ZcJ (Zb7 (Zd4 (nB c) (nB c) (.inr (.inr (.inl rfl))) (Zv vL jI)))) (Zbn (ZQ (Zau (nB c) (Zh (Zv vL jI) Zr) ZaM) vL Zbr) ZcF))) (ZD (ZM jB)) Zab) (Zz (Zby sL (JI.seq (Zv vL jI)) (Zz (Z7 (Za7 (Zbn (ZcJ (Zb7 (Zd4 (nB c) (nB c) (.inr (.inr (.inr rfl))) vL))) (Zbn (ZQ (Zau (nB c) (Zh vL Zr) ZaM) jI Zbr) ZcF))) (ZD (ZM jB)) Zab) (Zz (Z7 (Za7 (Zbn (ZcJ (Zb7 (cF c ZjD (Zh (Zv vL jI) Zr)))) (Zbn (ZcJ (Zb7 (cF c ZjD (Zh (Zv vL jI) Zr)))) ZcF))) (ZD (ZM jB)) Zab) (ZD (Z7 (Za7 (Zbn (ZQ (Zv vL jI) jI Zcl) (Zbn (Za7 (ZaL (ZQ (Zv vL jI) jI Zed) (ZaL (ZcJ (Zr2 jI (Zv vL jI) (Zv vL jI) ZlK Zcl)) ZbZ))) ZcF))) (ZD (ZM jB)) Zab))))) (ZD (ZM jB)))))
theorem ZqR : DD w s₀ mg mb 380 4 Zj4 := by
 unfold DD; k_fill
 refine Dof (names := ["_law_found", "_law_due"]) (g := Zj3) ?_
 exact fun _ _ _ _ _ _ _ c _ _ => (Zz (Z7 (ZQ vL jN Zbo) (ZD (ZM (Zde vL jN Zbo))) Zab) (ZD (ZM (ZlJ (cF c Zp6 (Zh vL (Zh (Zau (nB c) (Zh (Zv vL jI) Zr) ZaM) Zr))) (Zde vL vL ZaW)))))
theorem Zl1 : DD w s₀ mg mb 399 1 Zgc := by
 unfold DD; k_fill
 refine Dof (names := ["_law_bounds", "_law_size", "_law_found", "_law_reach", "_law_before", "_law_i", "_law_j", "_law_k", "_law_by"]) (g := ZhY) ?_
 exact fun _ _ _ _ _ _ _ c _ _ => (Zz (ZO sL (Zau (nB c) (Zh vL Zr) ZaM)) (Zz (by refine sO sL ?_ ?_ ?_; (exact (JI.seq vL)); (exact fun _ _ => (ZdL (nB (Zbv c)) (Zh vO Zr) ZdJ)); (exact fun _ _ => JF.nil)) (Zz (ZO sL jI) (Zz (Zfw 1000000 (ZQ vL vL Zcl) (Zz (by refine sO sL ?_ ?_ ?_; (exact (JI.seq vL)); (exact fun _ _ => (ZdL (nB (Zbv c)) (Zh vO Zr) ZdJ)); (exact fun _ _ => JF.nil)) (Zz (Zby sL (JI.range (nB c) (Zh vL Zr)) (ZD (Zby sL (JI.range (nB c) (Zh vL Zr)) (ZD (Zby sL (JI.range (nB c) (Zh vL Zr)) (ZD (Z7 (Za7 (ZaL (ZQ (Zv (Zv vL vL) vL) jN Zce) (ZaL (ZQ (Zv (Zv vL vL) vL) jN Zce) ZbZ))) (Zz (ZO sL (ZE (Zv (Zv vL vL) vL) (Zv (Zv vL vL) vL) Zak)) (ZD (Z7 (Za7 (Zbn (ZQ (Zv (Zv vL vL) vL) jN Zbo) (Zbn (ZQ vL (Zv (Zv vL vL) vL) Zcl) ZcF))) (ZD (S1.put vL (Zv vL vL) vL)) Zab))) Zab))))))) (ZD (ZO sL (ZE jI vL ZaQ)))))) (Zz (Zby sL (JI.range (nB c) (Zh vL Zr)) (ZD (Z7 (ZQ (Zv (Zv vL vL) vL) jI Zcl) (ZD (ZM jN)) Zab))) (ZD (ZM vL)))))))
theorem ZrD : DD w s₀ mg mb 394 2 Zkz := by
 unfold DD; k_fill
 refine Dof (names := ["_law_one", "_law_other", "_law_high", "_law_low", "_law_now", "_law_then", "_law_times", "_law_over", "_law_apart"]) (g := Zky) ?_
 exact fun _ _ _ _ _ _ _ c _ _ => (Zz (ZO sL (Zv vL jI)) (Zz (ZO sL (Zv vL jI)) (Zz (ZO sL jI) (Zz (ZO sL jI) (Zz (Zfw 1000000 (ZQ vL jI Zbr) (Zz (ZO sL (ZE vL vL Zds)) (Zz (ZO sL (ZE vL (ZE vL vL ZaQ) Zbd)) (Zz (ZO sL vL) (Zz (ZO sL vL) (Zz (ZO sL (ZE vL (ZE vL vL ZaQ) Zbd)) (Zz (ZO sL vL) (ZD (ZO sL vL))))))))) (Zz (ZO sL (ZE (Zv vL jI) (Zv vL jI) Zbd)) (Zz (Z7 (ZQ vL jI ZaW) (Zz (Z7 (ZQ vL jI Zbr) (ZD (ZM jN)) Zab) (ZD (ZM vL))) Zab) (Zz (Z7 (ZQ (ZE vL vL Zba) jI Zbr) (ZD (ZM jN)) Zab) (ZD (ZM (cF c Zez (Zh (ZE (ZE (Zv vL jI) vL Zds) (Zv vL jI) ZaQ) (Zh (ZE (Zv vL jI) (ZE (ZE (Zv vL jI) vL ZaQ) (ZE vL vL Zds) ZaQ) Zak) Zr)))))))))))))
theorem Zmd : DD w s₀ mg mb 406 3 Zgs := by
 unfold DD; k_fill
 refine Dof (names := ["_law_bounds", "_law_rests", "_law_full", "_law_new", "_law_i", "_law_j", "_law_gap"]) (g := ZiT) ?_
 exact fun _ _ _ _ _ _ _ c _ _ => (Zz (ZO sL (ZE (J.list (Zh (J.tup (Zh jI (Zh jI Zr))) Zr)) vL Zak)) (Zz (ZO sL (ZE (J.list (Zh (J.tup (Zh jI (Zh jI Zr))) Zr)) vL Zak)) (Zz (Zby sL (JI.range (nB c) (Zh jI (Zh (Zau (nB c) (Zh vL Zr) ZaM) Zr))) (ZD (Zby sL (JI.range (nB c) (Zh (Zau (nB c) (Zh vL Zr) ZaM) Zr)) (Zz (ZO sL (Zv (Zv vL vL) vL)) (ZD (Z7 (Za7 (ZaL (ZQ vL vL Zbr) (ZaL (ZQ vL jN Zce) (ZaL (ZQ (Zv (Zv vL vL) vL) (Zen vL Zd6) ZaW) (ZaL (ZQ (Zv vL vL) jN Zce) ZbZ))))) (ZD (S1.put (cF c ZrD (Zh (Zv vL vL) (Zh (cF c Zez (Zh (Zv (Zv vL vL) jI) (Zh (ZE (Zv (Zv vL vL) jI) vL Zak) Zr))) Zr))) vL vL)) Zab)))))) (Zz (Z7 (ZQ jN vL ZhN) (ZD (ZM jN)) Zab) (ZD (ZM (Zhz vL jI)))))))
theorem ZmZ : DD w s₀ mg mb 387 1 ZgX := by
 unfold DD; k_fill
 refine Dof (names := ["_law_one", "_law_other", "_law_over"]) (g := Zkp) ?_
 exact fun _ _ _ _ _ _ _ c _ _ => (Zz (ZO sL (Zau (nB c) (Zh vL Zr) Zd7)) (Zz (ZO sL (Zau (nB c) (Zh vL Zr) Zd7)) (Zz (Zfw 1000000 (ZQ vL jI Zbr) (Zz (ZO sL (ZE vL vL Zba)) (Zz (ZO sL vL) (ZD (ZO sL vL))))) (ZD (ZM vL)))))
theorem Zpl : DD w s₀ mg mb 411 2 ZiG := by
 unfold DD; k_fill
 refine Dof (names := ["_law_bounds", "_law_rests", "_law_full", "_law_new", "_law_i", "_law_j", "_law_m", "_law_r", "_law_top"]) (g := ZiF) ?_
 exact fun _ _ _ _ _ _ _ c _ _ => (Zz (ZO sL (ZE (J.list (Zh (J.tup (Zh jI (Zh jI Zr))) Zr)) vL Zak)) (Zz (by refine sO sL ?_ ?_ ?_; (exact (JI.seq vL)); (exact fun _ _ => (ZdL (nB (Zbv c)) (Zh vO Zr) ZdJ)); (exact fun _ _ => JF.nil)) (Zz (Zby sL (JI.range (nB c) (Zh (Zau (nB c) (Zh vL Zr) ZaM) Zr)) (ZD (Zby sL (JI.range (nB c) (Zh (Zau (nB c) (Zh vL Zr) ZaM) Zr)) (Zz (ZO sL (cF c ZmZ (Zh (Zv (Zv vL vL) jI) (Zh (Zv (Zv vL vL) jI) Zr)))) (Zz (ZO sL (ZE (Zv (Zv vL vL) jI) (Zv (Zv vL vL) jI) Zbd)) (Zz (ZO sL (Zv (Zv vL vL) vL)) (ZD (Z7 (Za7 (ZaL (ZQ vL vL Zbr) (ZaL (ZQ vL jI ZaW) ZbZ))) (Zz (Z7 (Za7 (ZaL (ZQ vL jN Zce) (ZaL (ZQ vL vL Zcl) ZbZ))) (ZD (ZM jN)) Zab) (ZD (S1.put vL (Zv vL vL) vL))) (ZD (Z7 (Za7 (ZaL (ZQ vL vL Zbr) (ZaL (ZQ vL jN Zce) ZbZ))) (ZD (S1.put (ZE vL (ZE (ZE vL vL Zbd) vL Zba) Zbd) (Zv vL vL) vL)) Zab)))))))))) (ZD (ZM vL)))))
theorem Zmq : DD w s₀ mg mb 418 4 ZgB := by
 unfold DD; k_fill
 refine Dof (names := ["_law_told_here", "_law_bounds", "_law_rests"]) (g := Zjq) ?_
 exact fun _ _ _ _ _ _ _ c _ _ => (Zz (Z7 (ZQ vL jN Zbo) (ZD (ZM jN)) Zab) (Zz (ZO sL (cF c Zl1 (Zh (Zv vL jI) Zr))) (Zz (Z7 (ZQ vL jN Zbo) (ZD (ZM jN)) Zab) (Zz (ZO sL (cF c Zmd (Zh vL (Zh (Zv vL jI) Zr)))) (Zz (Z7 (ZQ vL jN Zbo) (ZD (ZM jN)) Zab) (Zz (ZO sL (cF c Zpl (Zh vL (Zh vL Zr)))) (Zz (Z7 (ZQ vL jN Zbo) (ZD (ZM jN)) Zab) (Zz (ZO sL (cF c Zl1 (Zh vL Zr))) (Zz (Z7 (ZQ vL jN Zbo) (ZD (ZM jN)) Zab) (Zz (ZO sL (cF c Zmd (Zh vL (Zh vL Zr)))) (Zz (Z7 (ZQ vL jN Zbo) (ZD (ZM jN)) Zab) (ZD (ZM (J.tup (Zh vL (Zh vL Zr))))))))))))))))
theorem Zo6 : DD w s₀ mg mb 435 1 Zil := by
 unfold DD; k_fill
 refine Dof (names := ["_law_told_here", "_law_one", "_law_ups", "_law_downs", "_law_ends", "_law_total", "_law_i"]) (g := Zik) ?_
 exact fun _ _ _ _ _ _ _ c _ _ => (Zz (by refine sO sL ?_ ?_ ?_; (exact (JI.range (nB c) (Zh jI (Zh (Zau (nB c) (Zh vC Zr) ZaM) Zr)))); (exact fun _ _ => vO); (exact fun _ _ => JF.one (ZQ (Zv vD vO) jI Zed))) (Zz (by refine sO sL ?_ ?_ ?_; (exact (JI.range (nB c) (Zh jI (Zh (Zau (nB c) (Zh vC Zr) ZaM) Zr)))); (exact fun _ _ => vO); (exact fun _ _ => JF.one (ZQ (Zv vD vO) jI Zcl))) (Zz (Z7 (Za7 (ZaL (ZQ (Zau (nB c) (Zh vL Zr) ZaM) jI ZaW) (ZaL (ZQ (Zau (nB c) (Zh vL Zr) ZaM) jI ZaW) (ZaL (ZQ (Zv vC (Zv vL jI)) jI ZaW) (ZaL (ZQ (Zv vC (Zv vL jI)) (Zen jI Zd6) ZaW) ZbZ))))) (Zz (Z7 (ZQ (Zv (Zv (Zv vC jI) (Zv vL jI)) (Zv vL jI)) jN Zbo) (ZD (ZM jN)) Zab) (ZD (ZM (ZE (Zv (Zv (Zv vC jI) (Zv vL jI)) (Zv vL jI)) (Zv vC jI) Zak)))) Zab) (Zz (ZO sL (ZE (by refine cO ?_ ?_ ?_; (exact (JI.seq vL)); (exact fun _ _ => (Zv (Zv (Zv vD jI) vO) jI)); (exact fun _ _ => JF.nil)) (by refine cO ?_ ?_ ?_; (exact (JI.seq vL)); (exact fun _ _ => (Zv (Zv (Zv vD jI) jI) vO)); (exact fun _ _ => JF.nil)) Zak)) (Zz (Z7 (ZQ jN vL ZhN) (ZD (ZM jN)) Zab) (Zz (ZO sL (Zv vC jI)) (Zz (Zby sL (JI.seq vL) (ZD (ZO sL (ZE vL (ZE (Zv vC vL) (Zv (Zv (Zv vC jI) vL) jI) ZaQ) Zak)))) (Zz (Zby sL (JI.seq vL) (ZD (ZO sL (ZE vL (ZE (Zv vC vL) (Zv (Zv (Zv vC jI) jI) vL) ZaQ) Zbd)))) (ZD (ZM vL))))))))))
theorem Zo7 : DD w s₀ mg mb 442 2 Zir := by
 unfold DD; k_fill
 refine Dof (names := ["_law_one", "_law_rests", "_law_m", "_law_r", "_law_i"]) (g := Ziq) ?_
 exact fun _ _ _ _ _ _ _ c _ _ => (Zz (ZO sL jI) (Zz (ZO sL (Zv vL jI)) (Zz (Zby sL (JI.range (nB c) (Zh (Zau (nB c) (Zh vL Zr) ZaM) Zr)) (Zz (ZO sL (cF c ZmZ (Zh vL (Zh (ZE (Zv vL (ZE vL jI Zak)) (Zv (Zv vL vL) jI) ZaQ) Zr)))) (ZD (ZO sL (ZE vL (ZE (Zv vL (ZE vL jI Zak)) (Zv (Zv vL vL) jI) ZaQ) Zak))))) (ZD (ZM (cF c Zez (Zh vL (Zh vL Zr))))))))
theorem ZqS : DD w s₀ mg mb 430 1 Zki := by
 unfold DD; k_fill
 refine Dof (names := ["_law_one", "_law_other"]) (g := Zkh) ?_
 exact fun _ _ _ _ _ _ _ c _ _ => (ZD (ZM (by refine cO ?_ ?_ ?_; (exact (JI.range (nB c) (Zh (Zau (nB c) (Zh vC Zr) ZaM) Zr))); (exact fun _ _ => (ZE (Zv vD vO) (Zv vD vO) Zbd)); (exact fun _ _ => JF.nil))))
theorem ZpI : DD w s₀ mg mb 447 5 Zi1 := by
 unfold DD; k_fill
 refine Dof (names := ["_law_told_here", "_law_sums", "_law_full", "_law_bounds", "_law_one"]) (g := Zi0) ?_
 exact fun _ _ _ _ _ _ _ c _ _ => (Zz (Z7 (ZQ vC jN Zbo) (ZD (ZM jN)) Zab) (Zz (ZO sL (ZE (J.list (Zh (ZE (J.list (Zh jI Zr)) (ZE (Zau (nB c) (Zh (Zv vC jI) Zr) ZaM) jI Zak) ZaQ) Zr)) vL Zak)) (Zz (ZO sL (J.list Zr)) (Zz (Zby sC (JI.seq vL) (ZD (Zd8 (J.append vL (by refine cO ?_ ?_ ?_; (exact (JI.seq vL)); (exact fun _ _ => (cF (Zbv c) Zo6 (Zh vD (Zh (cF (Zbv c) ZqS (Zh vD (Zh vO Zr))) Zr)))); (exact fun _ _ => JF.nil)))))) (ZD (ZM (cF c Zmq (Zh (J.tup (Zh vL (Zh (by refine cO ?_ ?_ ?_; (exact (JI.seq vL)); (exact fun _ _ => (cF (Zbv c) Zo7 (Zh vO (Zh (Zv vD jI) Zr)))); (exact fun _ _ => JF.nil)) Zr))) Zr))))))))
theorem Zp7 : DD w s₀ mg mb 452 1 Zjy := by
 unfold DD; k_fill
 refine Dof (names := ["_law_one", "_law_boxes"]) (g := Zjx) ?_
 exact fun _ _ _ _ _ _ _ c _ _ => (ZD (ZM (ZE (Zv vC jI) (Zau (nB c) (Zh (by refine cO ?_ ?_ ?_; (exact (JI.range (nB c) (Zh (Zau (nB c) (Zh vC Zr) ZaM) Zr))); (exact fun _ _ => (ZE (Zv vD (ZE vO jI Zak)) (Zv vD vO) ZaQ)); (exact fun _ _ => JF.nil)) Zr) Ztt) Zak)))
theorem ZqT : DD w s₀ mg mb 347 1 Zj6 := by
 unfold DD; k_fill
 refine Dof (names := ["_law_told_here", "_law_boxes", "_law_full", "_law_i", "_law_j", "_law_t", "_law_apart"]) (g := Zj5) ?_
 exact fun _ _ _ _ _ _ _ c _ _ => (Zz (Z7 (ZQ vL jN Zbo) (ZD (ZM jB)) Zab) (Zz (ZO sL (ZE (J.list (Zh jI Zr)) vL Zak)) (Zz (Zby sL (JI.range (nB c) (Zh (Zau (nB c) (Zh vL Zr) ZaM) Zr)) (ZD (Zby sL (JI.range (nB c) (Zh (Zau (nB c) (Zh vL Zr) ZaM) Zr)) (ZD (Z7 (Za7 (ZaL (ZQ (Zv (Zv (Zv vL jI) vL) vL) jN Zce) (ZaL (ZQ (Zv vL vL) (ZE (Zv vL vL) (Zv (Zv (Zv vL jI) vL) vL) Zak) Zed) ZbZ))) (ZD (ZM jB)) Zab))))) (Zz (Zby sL (JI.range (nB c) (Zh (Zau (nB c) (Zh vL Zr) ZaM) Zr)) (Zz (ZO sL (ZE (Zv vL vL) (Zv (Zv (Zv vL jI) vL) jI) Zbd)) (Zz (Z7 (Za7 (ZaL (ZQ (Zv (Zv (Zv vL jI) vL) jI) jI ZaW) (ZaL (ZQ vL jI Zbr) ZbZ))) (ZD (ZM jB)) Zab) (ZD (Z7 (Za7 (ZaL (ZQ (Zv (Zv (Zv vL jI) vL) jI) jI Zed) (ZaL (ZQ (ZE vL (Zv (Zv (Zv vL jI) vL) jI) Zba) jI Zbr) ZbZ))) (ZD (ZM jB)) Zab))))) (ZD (ZM jB))))))
end
end L
end
section
set_option maxRecDepth 100000
set_option maxHeartbeats 8000000
set_option linter.all false
open PySem PySem.W PySem.Calls PyProof.Rows PM
open L
theorem PySem.Challenge.cw_seer_k51_arguments_holds : PySem.Challenge.rw_seer_k51_arguments.Holds :=
 head (by
  w_strict (k_go0; (rename Well _ _ _ _ => w9); (rename Frag.In _ _ => kx9); (rename Top _ _ _ _ _ _ => t9); (rename Fr _ _ _ _ => f9); (rename News _ _ _ _ => n9); (rename CellsAre _ _ _ => x9); (rename (PyData.layable0 _ = true) => hl9); (obtain ⟨H9, e9⟩ := L.ZpD (by omega) hl9); (refine' PM.Zsz (names := ["_law_script", "_law_many", "_law_boxes", "_law_told_here", "_law_way", "_law_row", "_law_size", "_law_kept", "_law_handed_here", "_law_found", "_law_blanks", "_law_some"]) (g := Zk4) (room := 10) ?hb ?h1 ?h2 ?h3 ?h4 kx9 t9 w9 ?len f9 n9 x9 e9 ?post); (case h1 => decide); (case h2 => decide); (case h3 => rfl); (case h4 => rfl); (case len => (rw [PM.Zbc]; omega)); (case hb => (intro dp un gd L a ccd outer h₀ hu clr hd1 hu1; exact (Zz (ZO sC (Zv (J.list (Zh jI (Zh jI (Zh jI (Zh jI (Zh jI (Zh jI (Zh jI (Zh jI (Zh jI Zr)))))))))) (cF clr law_pick_d (Zh vC (Zh jI (Zh jI Zr)))))) (Zz (ZO sC (by refine cO ?_ ?_ ?_; (exact (JI.range (nB clr) (Zh vC Zr))); (exact fun _ _ => (cF (Zbv clr) Zfc (Zh vD (Zh (ZE jI vO Zak) Zr)))); (exact fun _ _ => JF.nil))) (Zz (ZO sL (cF clr ZqJ (Zh vC (Zh jI (Zh vC Zr))))) (Zz (ZO sL (cF clr law_pick_d (Zh vC (Zh jI (Zh jI Zr))))) (Zz (Z7 (ZQ (ZE vL jI Zba) jI ZaW) (ZD (ZO sL (cF clr ZpH (Zh vC (Zh jI (Zh vL Zr)))))) Zab) (Zz (Z7 (ZQ (ZE vL jI Zba) jI ZaW) (ZD (ZO sL jN)) Zab) (Zz (by refine sO sL ?_ ?_ ?_; (exact (JI.range (nB clr) (Zh (Zv (J.list (Zh jI (Zh jI (Zh jI (Zh jI (Zh jI (Zh jI (Zh jI (Zh jI Zr))))))))) (cF clr law_pick_d (Zh vC (Zh jI (Zh jI Zr))))) Zr))); (exact fun _ _ => (cF (Zbv clr) ZrC (Zh vD (Zh (ZE jI (ZE jI vO ZaQ) Zak) (Zh vD Zr))))); (exact fun _ _ => JF.nil)) (Zz (ZO sL (Zau (nB clr) (Zh jI (Zh (ZE (Zau (nB clr) (Zh vL Zr) ZaM) (cF clr law_pick_d (Zh vC (Zh jI (Zh (ZE jI (Zau (nB clr) (Zh vL Zr) ZaM) Zbd) Zr)))) Zak) Zr)) Zst)) (Zz (ZO sL (cF clr ZqK (Zh vL Zr))) (Zz (by refine sO sL ?_ ?_ ?_; (exact (JI.seq vL)); (exact fun _ _ => (ZdL (nB (Zbv clr)) (Zh vO Zr) ZdJ)); (exact fun _ _ => JF.nil)) (Zz (ZO sL (cF clr Zsr (Zh vL (Zh vL (Zh vL Zr))))) (Zz (Z7 (Za7 (Zbn (ZQ vL vL Zbr) (Zbn (ZQ vL vL Zbr) ZcF))) (ZD (ZM jB)) Zab) (Zz (ZO sL (ZE (J.list (Zh (ZE (J.list (Zh jI Zr)) (ZE vC jI Zak) ZaQ) Zr)) (ZE vL (Zau (nB clr) (Zh vL Zr) ZaM) Zbd) ZaQ)) (Zz (Z7 (ZcJ (Zb7 (cF clr ZqR (Zh vL (Zh (cF clr ZpI (Zh (cF clr Zmq (Zh vL Zr)) (Zh (ZE vL vL Zak) Zr))) Zr))))) (ZD (ZM jB)) Zab) (Zz (ZO sL (ZE (by refine cO ?_ ?_ ?_; (exact (JI.seq vL)); (exact fun _ _ => (cF (Zbv clr) Zp7 (Zh vO (Zh vD Zr)))); (exact fun _ _ => JF.nil)) (ZE (J.list (Zh jI Zr)) (ZE vL (Zau (nB clr) (Zh vL Zr) ZaM) Zbd) ZaQ) Zak)) (Zz (Z7 (Za7 (ZaL (ZQ vL jN Zce) (ZaL (ZQ (ZE vL jI Zba) jI Zbr) (ZaL (ZcJ (Zb7 (cF clr ZqT (Zh vL (Zh vL Zr))))) ZbZ)))) (ZD (ZM jB)) Zab) (Zz (Zd8 (cF clr ZpG (Zh vL Zr))) (ZD (ZM (Zde vL vL ZaW)))))))))))))))))))))); (case post => (intro h' tk' m' F'; k_steps)))
  )
end
