import PyProof.Rows.All
import Wide.All
import OpenK.AllK
import Wide.FinOn
import PySem.Challenge.RW_seer_k42_recast_keeps_boxes
import PyProof.Rows.News
import PyProof.Rows.Nodes
import PyProof.Rows.Chain
import PyProof.Rows.TupSub
import PyProof.PureInt
import PyProof.Rules2
import PyProof.Rules3
import PyProof.Rows.Globals
import PyProof.Rows.RuleB_mod
import PyProof.Rows.RuleB_floordiv
import PyProof.Rows.RuleB_small
import PyProof.NoPylong
import PyProof.Rows.RuleB_pow
import PyProof.Rows.EqDataRows
import PyProof.Rows.StrTemp
import PyProof.Rows.TupAdd
import PyProof.Rows.ListMul
import PyProof.ListIndexNeg
import PyProof.SliceList
import PyProof.Methods
import PyProof.Rows.Tup
import PyProof.IsiPairs
import PyProof.IsiHeapPairs
import PyProof.IsiNone
import PyProof.Rows.RuleN_abs
import PyProof.Rows.SumAny
import PyProof.WalkInts
import PyProof.PvWalk
import PyProof.RulesRaise
import PyProof.Raises
import PyProof.Dict
import PyProof.Seq
import PyProof.Rows.ListAppend
import PyProof.ForAppend
import PyProof.ForAny
import PyProof.Walks
import PyProof.WalksT
import KE.KItem
import PyProof.WalksMore
import PyProof.RangeFor
import PyProof.Rows.Range3
import OpenK.KCell
import KE.KTree
import KE.RegLcTurns
import KE.KCompFold
import KE.KLcPair
import KE.LcTurns
import PyProof.CompUse
import PyProof.Rows.ZipGen
import OpenK.KLine
import KE.KState
import Wide.Well
import PyProof.ListCopy
import PyProof.Rows.TupleOfSeqD
import KE.LcSums
import KE.KCellOne
import PyProof.FitsBits
import KE.KEqDeep
import PyProof.Rows.TupMore
import PyProof.Rows.NestLooks
import PyProof.EnumMake
import PyProof.WalksEnum
import PyProof.Rows.SortWalk
import PyProof.DictStraight
import PyProof.EqAt
import PyProof.Rows.SeqMore2
import KE.KAnyBase
import PyProof.Rows.SeqSlice
abbrev Zz0 := @Option.bind_eq_some_iff
abbrev Zz1 := @Option.map_eq_some_iff
abbrev Zz2 := @List.mem_cons_of_mem
abbrev Zz3 := @List.mem_append_right
abbrev Zz4 := @List.mem_append_left
abbrev Zz5 := @List.mem_cons_self
abbrev Zz6 := @List.getElem?_eq_some_iff
set_option Elab.async false
set_option compiler.extract_closed false
section
set_option maxRecDepth 100000
set_option linter.all false
set_option autoImplicit false
/-! The plain machine: values as trees, lists as places; and how it stands for the model's heap. -/
namespace PM
open PySem PyProof.Rows
inductive V where
 | none
 | bool (b : Bool)
 | int (i : Int)
 | str (s : Str)
 | tup (vs : List V)
 | ref (a : Nat)
noncomputable abbrev Hp := List (List V)
noncomputable abbrev Lc := Nat → Option V
noncomputable def LEN : Nat := 100000
theorem Za2 : LEN = 100000 := rfl
theorem Zcx {n : Nat} (h : n ≤ LEN) : n ≤ sizeLine := by
 have : sizeLine = 2 ^ 24 := rfl
 rw [this]; rw [Za2] at h; omega
noncomputable abbrev ZdC (xs : List Value) (k : Nat) : Obj := { cls := .type "tuple", data := .seq xs.toArray k }
noncomputable abbrev Zbm (xs : List Value) (k : Nat) : Obj := { cls := .type "list", data := .seq xs.toArray k }
structure Wd where
 pi : List Addr
 tups : List (Addr × Obj)
 sc : Addr × Obj
structure Wd.Le (W W' : Wd) : Prop where
 pi : W.pi <+: W'.pi
 tups : ∀ q ∈ W.tups, q ∈ W'.tups
 sc : W'.sc = W.sc
theorem Wd.Le.refl (W : Wd) : W.Le W := ⟨List.prefix_refl _, fun _ h => h, rfl⟩
theorem Wd.Le.trans {W W' W'' : Wd} (a : W.Le W') (b : W'.Le W'') : W.Le W'' := ⟨a.pi.trans b.pi, fun q h => b.tups q (a.tups q h), b.sc.trans a.sc⟩
theorem Wd.Le.at {W W' : Wd} (h : W.Le W') {i : Nat} {a : Addr} (e : W.pi[i]? = some a) : W'.pi[i]? = some a := by
 obtain ⟨t, ht⟩ := h.pi
 have hi : i < W.pi.length := (Zz6.mp e).1
 rw [← ht, List.getElem?_append_left hi]
 exact e
mutual
inductive VR (W : Wd) : V → Value → Prop where
 | none : VR W .none .none
 | bool (b : Bool) : VR W (.bool b) (.bool b)
 | int (i : Int) (t : Tok) : VR W (.int i) (.int i t)
 | str (s : Str) (t : Tok) : VR W (.str s) (.str s t)
 | tup {vs : List V} {a : Addr} {xs : List Value} {k : Nat} : (a, ZdC xs k) ∈ W.tups → vs.length ≤ LEN → VRs W vs xs → VR W (.tup vs) (.ref a)
 | ref {i : Nat} {a : Addr} : W.pi[i]? = some a → VR W (.ref i) (.ref a)
inductive VRs (W : Wd) : List V → List Value → Prop where
 | nil : VRs W [] []
 | cons {v : V} {x : Value} {vs : List V} {xs : List Value} : VR W v x → VRs W vs xs → VRs W (v :: vs) (x :: xs)
end
mutual
theorem VR.mono {W W' : Wd} (h : W.Le W') {v : V} {x : Value} (r : VR W v x) : VR W' v x := by
 cases r with
 | none => exact .none
 | bool b => exact .bool b
 | int i t => exact .int i t
 | str s t => exact .str s t
 | tup hm hl hs => exact .tup (h.tups _ hm) hl (VRs.mono h hs)
 | ref e => exact .ref (h.at e)
theorem VRs.mono {W W' : Wd} (h : W.Le W') {vs : List V} {xs : List Value} (r : VRs W vs xs) : VRs W' vs xs := by
 cases r with
 | nil => exact .nil
 | cons a b => exact .cons (VR.mono h a) (VRs.mono h b)
end
theorem VRs.length {W : Wd} : ∀ {vs : List V} {xs : List Value}, VRs W vs xs → xs.length = vs.length
 | _, _, .nil => rfl
 | _, _, .cons _ r => by rw [List.length_cons, List.length_cons, r.length]
theorem VRs.at {W : Wd} : ∀ {vs : List V} {xs : List Value} {i : Nat} {v : V}, VRs W vs xs → vs[i]? = some v → ∃ x, xs[i]? = some x ∧ VR W v x
 | _, _, _, _, .nil, e => by simp at e
 | _, _, 0, _, .cons a _, e => by
  simp at e
  exact ⟨_, by simp, e ▸ a⟩
 | _, _, i + 1, _, .cons _ r, e => by
  simp at e
  obtain ⟨x, hx, hr⟩ := r.at e
  exact ⟨x, by simpa using hx, hr⟩
theorem VRs.append {W : Wd} : ∀ {vs us : List V} {xs ys : List Value}, VRs W vs xs → VRs W us ys → VRs W (vs ++ us) (xs ++ ys)
 | _, _, _, _, .nil, h => h
 | _, _, _, _, .cons a r, h => .cons a (r.append h)
theorem VRs.snoc {W : Wd} {vs : List V} {xs : List Value} {v : V} {x : Value} (h : VRs W vs xs) (r : VR W v x) : VRs W (vs ++ [v]) (xs ++ [x]) := h.append (.cons r .nil)
theorem VRs.set {W : Wd} : ∀ {vs : List V} {xs : List Value} {v : V} {x : Value} (i : Nat), VRs W vs xs → VR W v x → VRs W (vs.set i v) (xs.set i x)
 | _, _, _, _, _, .nil, _ => .nil
 | _, _, _, _, 0, .cons _ r, h => .cons h r
 | _, _, _, _, i + 1, .cons a r, h => .cons a (r.set i h)
theorem VRs.drop {W : Wd} : ∀ {vs : List V} {xs : List Value} (i : Nat), VRs W vs xs → VRs W (vs.drop i) (xs.drop i)
 | _, _, 0, h => h
 | _, _, _ + 1, .nil => .nil
 | _, _, i + 1, .cons _ r => r.drop i
structure HR (W : Wd) (H : Hp) (led : List (Addr × Obj)) : Prop where
 len : W.pi.length = H.length
 nd : W.pi.Nodup
 lists : ∀ (i : Nat) (vs : List V), H[i]? = some vs → vs.length ≤ LEN ∧ ∃ a xs k, W.pi[i]? = some a ∧ (a, Zbm xs k) ∈ led ∧ VRs W vs xs
 tups : ∀ q ∈ W.tups, q ∈ led
 kind : ∀ q ∈ W.tups, ∃ xs k, q.2 = ZdC xs k
theorem HR.mono {W : Wd} {H : Hp} {led led' : List (Addr × Obj)} (R : HR W H led) (h : ∀ q ∈ led, q ∈ led') : HR W H led' :=
 ⟨R.len, R.nd, fun i vs e => by
  obtain ⟨l, a, xs, k, h1, h2, h3⟩ := R.lists i vs e
  exact ⟨l, a, xs, k, h1, h _ h2, h3⟩, fun q hq => h q (R.tups q hq), R.kind⟩
structure Cx where
 A : Around
 env : Env
 h₀ : Heap
 L : Addr
 hh : A.handled = none
 hu : A.units + 200 < cLine
 Own : Wd → Lc → (Str → Option Value) → List (Addr × Obj) → Prop
 mono : ∀ {W W' : Wd} {ρ : Lc} {m : Str → Option Value} {c : List (Addr × Obj)}, W.Le W' → Own W ρ m c → Own W' ρ m c
structure Rep' (Γ : Cx) (W : Wd) (ρ : Lc) (H : Hp) (fr : List (Addr × Obj)) (h : Heap) (m : Str → Option Value) (cells led : List (Addr × Obj)) : Prop where
 F : Fr Γ.h₀ Γ.L h m
 N : News Γ.h₀ Γ.L h led
 R : HR W H (W.sc :: led)
 sc : Γ.h₀.get? W.sc.1 = some W.sc.2
 sc0 : W.pi[0]? = some W.sc.1
 frIn : ∀ q ∈ fr, q ∈ led
 frOff : ∀ q ∈ fr, q.1 ∉ W.pi
 clIn : ∀ q ∈ cells, q ∈ led
 clOff : ∀ q ∈ cells, q.1 ∉ W.pi
 apart : ∀ q ∈ cells, ∀ r ∈ fr, q.1 ≠ r.1
 frTup : ∀ q ∈ fr, ∀ t ∈ W.tups, q.1 ≠ t.1
 clTup : ∀ q ∈ cells, ∀ t ∈ W.tups, q.1 ≠ t.1
 own : Γ.Own W ρ m cells
noncomputable def Rep (Γ : Cx) (W : Wd) (ρ : Lc) (H : Hp) (fr : List (Addr × Obj)) (h : Heap) : Prop := ∃ m cells led, Rep' Γ W ρ H fr h m cells led
theorem Rep.grown {Γ : Cx} {W : Wd} {ρ : Lc} {H : Hp} {fr : List (Addr × Obj)} {h h' : Heap} (r : Rep Γ W ρ H fr h) (up : ∀ b o, h.get? b = some o → h'.get? b = some o) : Rep Γ W ρ H fr h' := by
 obtain ⟨m, c, led, r⟩ := r
 refine ⟨m, c, led, ⟨⟨?_, fun b o e => up b o (r.F.keep b o e), r.F.above⟩, fun q hq => ⟨up _ _ (r.N q hq).1, (r.N q hq).2⟩, r.R, r.sc, r.sc0, r.frIn, r.frOff, r.clIn, r.clOff, r.apart, r.frTup, r.clTup, r.own⟩⟩
 obtain ⟨o, es, ep, h1, h2⟩ := r.F.ns
 exact ⟨o, es, ep, up _ _ h1, h2⟩
theorem Rep.push {Γ : Cx} {W : Wd} {ρ : Lc} {H : Hp} {fr : List (Addr × Obj)} {h : Heap} (r : Rep Γ W ρ H fr h) (o : Obj) : Rep Γ W ρ H fr (h.push o) := r.grown fun _ _ e => Heap.get?_push_of_some _ e
theorem Zde {q s : Addr × Obj} {l l' : List (Addr × Obj)} (h : q ∈ s :: l) (m : q ∈ l → q ∈ l') : q ∈ s :: l' := by
 rcases List.mem_cons.mp h with e | h
 ·exact e ▸ List.mem_cons_self
 ·exact Zz2 _ (m h)
theorem Zea {q s : Addr × Obj} {l l' : List (Addr × Obj)} (h : q ∈ s :: l) (m : ∀ x ∈ l, x ∈ l') : q ∈ s :: l' := by
 rcases List.mem_cons.mp h with e | h
 ·exact e ▸ List.mem_cons_self
 ·exact Zz2 _ (m q h)
theorem Rep'.get {Γ : Cx} {W : Wd} {ρ : Lc} {H : Hp} {fr : List (Addr × Obj)} {h : Heap} {m : Str → Option Value} {c led : List (Addr × Obj)} (r : Rep' Γ W ρ H fr h m c led) {q : Addr × Obj} (hq : q ∈ W.sc :: led) : h.get? q.1 = some q.2 := by
 rcases List.mem_cons.mp hq with e | hq
 ·rw [e]
  exact r.F.keep _ _ r.sc
 ·exact (r.N q hq).1
theorem Rep'.off {Γ : Cx} {W : Wd} {ρ : Lc} {H : Hp} {fr : List (Addr × Obj)} {h : Heap} {m : Str → Option Value} {c led : List (Addr × Obj)} (r : Rep' Γ W ρ H fr h m c led) : ∀ q ∈ W.sc :: led, q.1 ≠ h.objs.size := fun q hq => Nat.ne_of_lt (Heap.lt_size (r.get hq))
theorem Rep'.same {Γ : Cx} {W : Wd} {ρ : Lc} {H : Hp} {fr : List (Addr × Obj)} {h h' : Heap} {m : Str → Option Value} {c led : List (Addr × Obj)} (r : Rep' Γ W ρ H fr h m c led) (F' : Fr Γ.h₀ Γ.L h' m) (N' : News Γ.h₀ Γ.L h' led) : Rep Γ W ρ H fr h' :=
 ⟨m, c, led, F', N', r.R, r.sc, r.sc0, r.frIn, r.frOff, r.clIn, r.clOff, r.apart, r.frTup, r.clTup, r.own⟩
theorem Rep'.piIn {Γ : Cx} {W : Wd} {ρ : Lc} {H : Hp} {fr : List (Addr × Obj)} {h : Heap} {m : Str → Option Value} {c led : List (Addr × Obj)} (r : Rep' Γ W ρ H fr h m c led) : ∀ a ∈ W.pi, ∃ o, (a, o) ∈ W.sc :: led := by
 intro a ha
 obtain ⟨i, hi, e⟩ := List.getElem_of_mem ha
 have hi' : i < H.length := r.R.len ▸ hi
 obtain ⟨_, b, xs, k, h1, h2, _⟩ := r.R.lists i H[i] (List.getElem?_eq_getElem hi')
 have : b = a := by rw [List.getElem?_eq_getElem hi, e] at h1; exact (Option.some.inj h1).symm
 exact ⟨_, this ▸ h2⟩
theorem Rep'.inLed {Γ : Cx} {W : Wd} {ρ : Lc} {H : Hp} {fr : List (Addr × Obj)} {h : Heap} {m : Str → Option Value} {c led : List (Addr × Obj)} (r : Rep' Γ W ρ H fr h m c led) {i : Nat} {a : Addr} {o : Obj} (hi : i ≠ 0) (ea : W.pi[i]? = some a) (hm : (a, o) ∈ W.sc :: led) : (a, o) ∈ led := by
 rcases List.mem_cons.mp hm with e | hm
 ·have e1 : a = W.sc.1 := congrArg (·.1) e
  have hl : i < W.pi.length := (Zz6.mp ea).1
  have : i = 0 := (List.getElem?_inj hl r.R.nd).mp (by rw [ea, r.sc0, e1])
  exact absurd this hi
 ·exact hm
theorem Rep'.notSc {Γ : Cx} {W : Wd} {ρ : Lc} {H : Hp} {fr : List (Addr × Obj)} {h : Heap} {m : Str → Option Value} {c led : List (Addr × Obj)} (r : Rep' Γ W ρ H fr h m c led) : ∀ q ∈ led, q.1 ≠ W.sc.1 := fun q hq e => by
 have := (r.N q hq).2.2
 rw [e, r.sc] at this
 cases this
theorem Rep'.newTup {Γ : Cx} {W : Wd} {ρ : Lc} {H : Hp} {fr : List (Addr × Obj)} {h h' : Heap} {m : Str → Option Value} {c led : List (Addr × Obj)} {vs : List V} {xs : List Value} {k : Nat} {n : Addr} (r : Rep' Γ W ρ H fr h m c led) (F' : Fr Γ.h₀ Γ.L h' m) (N' : News Γ.h₀ Γ.L h' ((n, ZdC xs k) :: led)) (hn : ∀ q ∈ W.sc :: led, q.1 ≠ n) (hv : VRs W vs xs) (hl : vs.length ≤ LEN) :
  ∃ W', W.Le W' ∧ Rep Γ W' ρ H fr h' ∧ VR W' (.tup vs) (.ref n) := by
 have le : W.Le ⟨W.pi, (n, ZdC xs k) :: W.tups, W.sc⟩ := ⟨List.prefix_refl _, fun q hq => List.mem_cons_of_mem _ hq, rfl⟩
 refine ⟨⟨W.pi, (n, ZdC xs k) :: W.tups, W.sc⟩, le, ⟨m, c, (n, ZdC xs k) :: led, ⟨F', N', ?_, r.sc, r.sc0, fun q hq => List.mem_cons_of_mem _ (r.frIn q hq), r.frOff, fun q hq => List.mem_cons_of_mem _ (r.clIn q hq), r.clOff, r.apart, fun q hq t ht => ?_, fun q hq t ht => ?_, Γ.mono le r.own⟩⟩, .tup Zz5 hl (hv.mono le)⟩
 ·refine ⟨r.R.len, r.R.nd, fun i us e => ?_, fun q hq => ?_, fun q hq => ?_⟩
  ·obtain ⟨l, a, ys, j, h1, h2, h3⟩ := r.R.lists i us e
   exact ⟨l, a, ys, j, h1, Zea h2 fun x hx => List.mem_cons_of_mem _ hx, h3.mono le⟩
  ·rcases List.mem_cons.mp hq with e | hq
   ·exact e ▸ List.mem_cons_of_mem _ Zz5
   ·exact Zea (r.R.tups q hq) fun x hx => List.mem_cons_of_mem _ hx
  ·rcases List.mem_cons.mp hq with e | hq
   ·exact ⟨xs, k, by rw [e]⟩
   ·exact r.R.kind q hq
 ·rcases List.mem_cons.mp ht with e | ht
  ·rw [e]
   exact hn q (Zz2 _ (r.frIn q hq))
  ·exact r.frTup q hq t ht
 ·rcases List.mem_cons.mp ht with e | ht
  ·rw [e]
   exact hn q (Zz2 _ (r.clIn q hq))
  ·exact r.clTup q hq t ht
theorem Rep.tuple {Γ : Cx} {W : Wd} {ρ : Lc} {H : Hp} {fr : List (Addr × Obj)} {h : Heap} {vs : List V} {xs : List Value} {k : Nat} (r : Rep Γ W ρ H fr h) (hv : VRs W vs xs) (hl : vs.length ≤ LEN) :
  ∃ W', W.Le W' ∧ Rep Γ W' ρ H fr (h.push (ZdC xs k)) ∧ VR W' (.tup vs) (.ref h.objs.size) := by
 obtain ⟨m, c, led, r⟩ := r
 exact r.newTup (r.F.push _) (News.push r.F r.N _) r.off hv hl
theorem Rep'.newList {Γ : Cx} {W : Wd} {ρ : Lc} {H : Hp} {fr : List (Addr × Obj)} {h h' : Heap} {m : Str → Option Value} {c led : List (Addr × Obj)} {vs : List V} {xs : List Value} {k : Nat} {n : Addr} (r : Rep' Γ W ρ H fr h m c led) (F' : Fr Γ.h₀ Γ.L h' m) (N' : News Γ.h₀ Γ.L h' ((n, Zbm xs k) :: led)) (hn : ∀ q ∈ W.sc :: led, q.1 ≠ n) (hv : VRs W vs xs) (hl : vs.length ≤ LEN) :
  ∃ W', W.Le W' ∧ Rep Γ W' ρ (H ++ [vs]) fr h' ∧ VR W' (.ref H.length) (.ref n) := by
 have le : W.Le ⟨W.pi ++ [n], W.tups, W.sc⟩ := ⟨List.prefix_append _ _, fun q hq => hq, rfl⟩
 have h0 : 0 < W.pi.length := (Zz6.mp r.sc0).1
 have at_n : (W.pi ++ [n])[H.length]? = some n := by rw [← r.R.len]; simp
 refine ⟨⟨W.pi ++ [n], W.tups, W.sc⟩, le, ⟨m, c, (n, Zbm xs k) :: led, ⟨F', N', ?_, r.sc, (List.getElem?_append_left h0).trans r.sc0, fun q hq => List.mem_cons_of_mem _ (r.frIn q hq), fun q hq => ?_, fun q hq => List.mem_cons_of_mem _ (r.clIn q hq), fun q hq => ?_, r.apart, r.frTup, r.clTup, Γ.mono le r.own⟩⟩, .ref at_n⟩
 ·refine ⟨by simp [r.R.len], ?_, fun i us e => ?_, fun q hq => Zea (r.R.tups q hq) fun x hx => List.mem_cons_of_mem _ hx, r.R.kind⟩
  ·show (W.pi ++ [n]).Nodup
   rw [List.nodup_append]
   refine ⟨r.R.nd, by simp, fun a ha b hb => ?_⟩
   rw [List.mem_singleton.mp hb]
   obtain ⟨o, ho⟩ := r.piIn a ha
   exact hn _ ho
  ·by_cases hi : i < H.length
   ·rw [List.getElem?_append_left hi] at e
    obtain ⟨l, a, ys, j, h1, h2, h3⟩ := r.R.lists i us e
    exact ⟨l, a, ys, j, le.at h1, Zea h2 fun x hx => List.mem_cons_of_mem _ hx, h3.mono le⟩
   ·have : i = H.length := by
     have := (Zz6.mp e).1
     simp at this
     omega
    subst this
    simp at e
    subst e
    exact ⟨hl, n, xs, k, at_n, List.mem_cons_of_mem _ Zz5, hv.mono le⟩
 ·intro hm
  rcases List.mem_append.mp hm with hm | hm
  ·exact r.frOff q hq hm
  ·exact hn q (Zz2 _ (r.frIn q hq)) (List.mem_singleton.mp hm)
 ·intro hm
  rcases List.mem_append.mp hm with hm | hm
  ·exact r.clOff q hq hm
  ·exact hn q (Zz2 _ (r.clIn q hq)) (List.mem_singleton.mp hm)
theorem Rep.list {Γ : Cx} {W : Wd} {ρ : Lc} {H : Hp} {fr : List (Addr × Obj)} {h : Heap} {vs : List V} {xs : List Value} {k : Nat} (r : Rep Γ W ρ H fr h) (hv : VRs W vs xs) (hl : vs.length ≤ LEN) :
  ∃ W', W.Le W' ∧ Rep Γ W' ρ (H ++ [vs]) fr (h.push (Zbm xs k)) ∧ VR W' (.ref H.length) (.ref h.objs.size) := by
 obtain ⟨m, c, led, r⟩ := r
 exact r.newList (r.F.push _) (News.push r.F r.N _) r.off hv hl
theorem Rep.at {Γ : Cx} {W : Wd} {ρ : Lc} {H : Hp} {fr : List (Addr × Obj)} {h : Heap} {i : Nat} {a : Addr} {vs : List V} (r : Rep Γ W ρ H fr h) (e : H[i]? = some vs) (ea : W.pi[i]? = some a) : vs.length ≤ LEN ∧ ∃ xs k, h.get? a = some (Zbm xs k) ∧ VRs W vs xs := by
 obtain ⟨m, c, led, r⟩ := r
 obtain ⟨l, b, xs, k, h1, h2, h3⟩ := r.R.lists i vs e
 rw [ea] at h1
 cases h1
 exact ⟨l, xs, k, r.get h2, h3⟩
theorem Rep.tupAt {Γ : Cx} {W : Wd} {ρ : Lc} {H : Hp} {fr : List (Addr × Obj)} {h : Heap} {q : Addr × Obj} (r : Rep Γ W ρ H fr h) (e : q ∈ W.tups) : h.get? q.1 = some q.2 := by
 obtain ⟨m, c, led, r⟩ := r
 exact r.get (r.R.tups _ e)
theorem Rep'.changed {Γ : Cx} {W : Wd} {ρ : Lc} {H : Hp} {fr : List (Addr × Obj)} {h h' : Heap} {m : Str → Option Value} {c led : List (Addr × Obj)} {i : Nat} {a : Addr} {vs us : List V} {ys : List Value} {k : Nat} (r : Rep' Γ W ρ H fr h m c led) (i0 : i ≠ 0) (e : H[i]? = some vs) (ea : W.pi[i]? = some a) (F' : Fr Γ.h₀ Γ.L h' m) (N' : News Γ.h₀ Γ.L h' ((a, Zbm ys k) :: led.filter (fun q => decide (q.1 ≠ a)))) (hv : VRs W us ys) (hl : us.length ≤ LEN) :
  Rep Γ W ρ (H.set i us) fr h' := by
 obtain ⟨_, b, xs, j, h1, h2, h3⟩ := r.R.lists i vs e
 rw [ea] at h1
 cases h1
 have h2 := r.inLed i0 ea h2
 have hN := r.N _ h2
 have hm : a ∈ W.pi := List.mem_of_getElem? ea
 have hi : i < H.length := (Zz6.mp e).1
 refine ⟨m, c, (a, Zbm ys k) :: led.filter (fun q => decide (q.1 ≠ a)), ⟨F', N', ?_, r.sc, r.sc0, fun q hq => ?_, r.frOff, fun q hq => ?_, r.clOff, r.apart, r.frTup, r.clTup, r.own⟩⟩
 ·refine ⟨by simp [r.R.len], r.R.nd, fun n ws en => ?_, fun q hq => ?_, r.R.kind⟩
  ·by_cases hn : n = i
   ·subst hn
    rw [List.getElem?_set_self hi] at en
    cases en
    exact ⟨hl, a, ys, k, ea, List.mem_cons_of_mem _ Zz5, hv⟩
   ·rw [List.getElem?_set_ne (Ne.symm hn)] at en
    obtain ⟨l, d, zs, j', g1, g2, g3⟩ := r.R.lists n ws en
    refine ⟨l, d, zs, j', g1, Zde g2 fun g2 => List.mem_cons_of_mem _ (List.mem_filter.mpr ⟨g2, ?_⟩), g3⟩
    have : d ≠ a := fun e => by
     subst e
     exact hn ((List.getElem?_inj (Zz6.mp g1).1 r.R.nd).mp (g1.trans ea.symm))
    simpa using this
  ·refine Zde (r.R.tups q hq) fun g2 => List.mem_cons_of_mem _ (List.mem_filter.mpr ⟨g2, ?_⟩)
   have : q.1 ≠ a := fun e => by
    obtain ⟨zs, j', hk⟩ := r.R.kind q hq
    have g := r.get (r.R.tups q hq)
    rw [e, hN.1, hk] at g
    have c := congrArg Obj.cls (Option.some.inj g)
    exact absurd c (by simp)
   simpa using this
 ·refine Zz2 _ (List.mem_filter.mpr ⟨r.frIn q hq, ?_⟩)
  have : q.1 ≠ a := fun e => r.frOff q hq (e ▸ hm)
  simpa using this
 ·refine Zz2 _ (List.mem_filter.mpr ⟨r.clIn q hq, ?_⟩)
  have : q.1 ≠ a := fun e => r.clOff q hq (e ▸ hm)
  simpa using this
theorem Rep.change {Γ : Cx} {W : Wd} {ρ : Lc} {H : Hp} {fr : List (Addr × Obj)} {h h' : Heap} {i : Nat} {a : Addr} {vs us : List V} {ys : List Value} {k : Nat} (r : Rep Γ W ρ H fr h) (i0 : i ≠ 0) (e : H[i]? = some vs) (ea : W.pi[i]? = some a) (sb : Heap.SameBut a h h') (ha : h'.get? a = some (Zbm ys k)) (hv : VRs W us ys) (hl : us.length ≤ LEN) :
  Rep Γ W ρ (H.set i us) fr h' := by
 obtain ⟨m, c, led, r⟩ := r
 obtain ⟨_, b, xs, j, h1, h2, h3⟩ := r.R.lists i vs e
 rw [ea] at h1
 cases h1
 have h2 := r.inLed i0 ea h2
 have hN := r.N _ h2
 have keep : ∀ q ∈ led, q.1 ≠ a → h'.get? q.1 = some q.2 := fun q hq hn => sb.extBut _ _ hn (r.N q hq).1
 refine r.changed (k := k) i0 e ea ⟨r.F.ns.sameBut sb (Ne.symm hN.2.1), fun b o eb => sb.extBut b o (fun q => ?_) (r.F.keep b o eb), r.F.above⟩ (fun q hq => ?_) hv hl
 ·subst q
  rw [hN.2.2] at eb
  cases eb
 ·rcases List.mem_cons.mp hq with e | hq
  ·subst e
   exact ⟨ha, hN.2⟩
  ·obtain ⟨h1, h2⟩ := List.mem_filter.mp hq
   exact ⟨keep q h1 (by simpa using h2), (r.N q h1).2⟩
theorem Rep.swap {Γ : Cx} {W : Wd} {ρ : Lc} {H : Hp} {fs fs' fr : List (Addr × Obj)} {h h' : Heap} (r : Rep Γ W ρ H (fs ++ fr) h) (ap : ∀ q ∈ fs, ∀ t ∈ fr, q.1 ≠ t.1) (keep : ∀ b o, b ∉ fs.map (·.1) → h.get? b = some o → h'.get? b = some o) (new : ∀ q ∈ fs', h'.get? q.1 = some q.2 ∧ q.1 ∈ fs.map (·.1)) : Rep Γ W ρ H (fs' ++ fr) h' := by
 obtain ⟨m, c, led, r⟩ := r
 have inF : ∀ q ∈ fs, q ∈ fs ++ fr := fun q hq => List.mem_append_left _ hq
 have nL : ∀ a ∈ fs.map (·.1), a ≠ Γ.L ∧ Γ.h₀.get? a = none := fun a ha => by
  obtain ⟨q, hq, e⟩ := List.mem_map.mp ha
  exact e ▸ (r.N q (r.frIn q (inF q hq))).2
 have kp : ∀ q ∈ led, q.1 ∉ fs.map (·.1) → h'.get? q.1 = some q.2 := fun q hq hn => keep _ _ hn (r.N q hq).1
 refine ⟨m, c, fs' ++ led.filter (fun q => decide (q.1 ∉ fs.map (·.1))), ⟨⟨?_, fun b o e => ?_, r.F.above⟩, fun q hq => ?_, ⟨r.R.len, r.R.nd, fun i vs e => ?_, fun q hq => ?_, r.R.kind⟩, r.sc, r.sc0, fun q hq => ?_, fun q hq => ?_, fun q hq => ?_, r.clOff, fun q hq t ht => ?_, fun q hq t ht => ?_, r.clTup, r.own⟩⟩
 ·obtain ⟨o, es, ep, h1, h2⟩ := r.F.ns
  exact ⟨o, es, ep, keep _ _ (fun q => (nL _ q).1 rfl) h1, h2⟩
 ·refine keep b o (fun q => ?_) (r.F.keep b o e)
  rw [(nL b q).2] at e
  cases e
 ·rcases List.mem_append.mp hq with hq | hq
  ·obtain ⟨h1, h2⟩ := new q hq
   exact ⟨h1, nL _ h2⟩
  ·obtain ⟨h1, h2⟩ := List.mem_filter.mp hq
   exact ⟨kp q h1 (by simpa using h2), (r.N q h1).2⟩
 ·obtain ⟨l, a, xs, k, h1, h2, h3⟩ := r.R.lists i vs e
  refine ⟨l, a, xs, k, h1, Zde h2 fun h2 => List.mem_append_right _ (List.mem_filter.mpr ⟨h2, ?_⟩), h3⟩
  have : a ∉ fs.map (·.1) := fun q => by
   obtain ⟨t, ht, e⟩ := List.mem_map.mp q
   exact r.frOff t (inF t ht) (e ▸ List.mem_of_getElem? h1)
  simpa using this
 ·refine Zde (r.R.tups q hq) fun h2 => List.mem_append_right _ (List.mem_filter.mpr ⟨h2, ?_⟩)
  have : q.1 ∉ fs.map (·.1) := fun z => by
   obtain ⟨t, ht, e⟩ := List.mem_map.mp z
   exact r.frTup t (inF t ht) q hq e
  simpa using this
 ·rcases List.mem_append.mp hq with hq | hq
  ·exact Zz4 _ hq
  ·refine Zz3 _ (List.mem_filter.mpr ⟨r.frIn q (Zz3 _ hq), ?_⟩)
   have : q.1 ∉ fs.map (·.1) := fun z => by
    obtain ⟨t, ht, e⟩ := List.mem_map.mp z
    exact ap t ht q hq e
   simpa using this
 ·rcases List.mem_append.mp hq with hq | hq
  ·obtain ⟨t, ht, e⟩ := List.mem_map.mp (new q hq).2
   exact e ▸ r.frOff t (inF t ht)
  ·exact r.frOff q (Zz3 _ hq)
 ·refine Zz3 _ (List.mem_filter.mpr ⟨r.clIn q hq, ?_⟩)
  have : q.1 ∉ fs.map (·.1) := fun z => by
   obtain ⟨t, ht, e⟩ := List.mem_map.mp z
   exact r.apart q hq t (inF t ht) e.symm
  simpa using this
 ·rcases List.mem_append.mp ht with ht | ht
  ·obtain ⟨u, hu, e⟩ := List.mem_map.mp (new t ht).2
   exact e ▸ r.apart q hq u (inF u hu)
  ·exact r.apart q hq t (Zz3 _ ht)
 ·rcases List.mem_append.mp hq with hq | hq
  ·obtain ⟨u, hu, e⟩ := List.mem_map.mp (new q hq).2
   exact e ▸ r.frTup u (inF u hu) t ht
  ·exact r.frTup q (Zz3 _ hq) t ht
theorem Rep.more {Γ : Cx} {W : Wd} {ρ : Lc} {H : Hp} {fs fr : List (Addr × Obj)} {h h' : Heap} (r : Rep Γ W ρ H fr h) (up : ∀ b o, h.get? b = some o → h'.get? b = some o) (new : ∀ q ∈ fs, h'.get? q.1 = some q.2 ∧ h.objs.size ≤ q.1) : Rep Γ W ρ H (fs ++ fr) h' ∧ ∀ q ∈ fs, ∀ t ∈ fr, q.1 ≠ t.1 := by
 have r' := r.grown up
 obtain ⟨m, c, led, r⟩ := r
 have lt : ∀ q ∈ W.sc :: led, q.1 < h.objs.size := fun q hq => Heap.lt_size (r.get hq)
 have ne : ∀ q ∈ fs, ∀ t ∈ W.sc :: led, q.1 ≠ t.1 := fun q hq t ht => Nat.ne_of_gt (Nat.lt_of_lt_of_le (lt t ht) (new q hq).2)
 refine ⟨⟨m, c, fs ++ led, ⟨⟨?_, fun b o e => up b o (r.F.keep b o e), r.F.above⟩, fun q hq => ?_, r.R.mono fun q hq => Zea hq fun x hx => List.mem_append_right _ hx, r.sc, r.sc0, fun q hq => ?_, fun q hq => ?_, fun q hq => List.mem_append_right _ (r.clIn q hq), r.clOff, fun q hq t ht => ?_, fun q hq t ht => ?_, r.clTup, r.own⟩⟩, fun q hq t ht => ne q hq t (Zz2 _ (r.frIn t ht))⟩
 ·obtain ⟨o, es, ep, h1, h2⟩ := r.F.ns
  exact ⟨o, es, ep, up _ _ h1, h2⟩
 ·rcases List.mem_append.mp hq with hq | hq
  ·obtain ⟨h1, h2⟩ := new q hq
   refine ⟨h1, fun e => ?_, ?_⟩
   ·exact absurd (e ▸ r.F.ns.lt) (Nat.not_lt.mpr h2)
   ·cases e : Γ.h₀.get? q.1 with
    | none => rfl
    | some o => exact absurd (Heap.lt_size (r.F.keep _ _ e)) (Nat.not_lt.mpr h2)
  ·exact ⟨up _ _ (r.N q hq).1, (r.N q hq).2⟩
 ·rcases List.mem_append.mp hq with hq | hq
  ·exact Zz4 _ hq
  ·exact Zz3 _ (r.frIn q hq)
 ·rcases List.mem_append.mp hq with hq | hq
  ·intro hm
   obtain ⟨o, ho⟩ := r.piIn _ hm
   exact ne q hq _ ho rfl
  ·exact r.frOff q hq
 ·rcases List.mem_append.mp ht with ht | ht
  ·exact (ne t ht q (Zz2 _ (r.clIn q hq))).symm
  ·exact r.apart q hq t ht
 ·rcases List.mem_append.mp hq with hq | hq
  ·exact ne q hq t (r.R.tups t ht)
  ·exact r.frTup q hq t ht
theorem Rep.less {Γ : Cx} {W : Wd} {ρ : Lc} {H : Hp} {fs fr : List (Addr × Obj)} {h : Heap} (r : Rep Γ W ρ H fs h) (sub : ∀ q ∈ fr, q ∈ fs) : Rep Γ W ρ H fr h := by
 obtain ⟨m, c, led, r⟩ := r
 exact ⟨m, c, led, ⟨r.F, r.N, r.R, r.sc, r.sc0, fun q hq => r.frIn q (sub q hq), fun q hq => r.frOff q (sub q hq), r.clIn, r.clOff, fun q hq t ht => r.apart q hq t (sub t ht), fun q hq => r.frTup q (sub q hq), r.clTup, r.own⟩⟩
theorem Rep.frAt {Γ : Cx} {W : Wd} {ρ : Lc} {H : Hp} {fr : List (Addr × Obj)} {h : Heap} {q : Addr × Obj} (r : Rep Γ W ρ H fr h) (hq : q ∈ fr) : h.get? q.1 = some q.2 := by
 obtain ⟨m, c, led, r⟩ := r
 exact (r.N q (r.frIn q hq)).1
end PM
end
section
set_option maxRecDepth 100000
set_option linter.all false
set_option autoImplicit false
namespace PM
open PySem PyProof.Rows PyProof
noncomputable abbrev Ex := Lc → Hp → Option (V × Hp)
noncomputable abbrev Exs := Lc → Hp → Option (List V × Hp)
noncomputable abbrev Ts := Lc → Hp → Option (Bool × Hp)
noncomputable abbrev Ze5 (Γ : Cx) (W : Wd) (ρ : Lc) (H : Hp) (fr : List (Addr × Obj)) (s : Shared) (Q : Value → Shared → Prop) (v : V) : Prop :=
 ∀ (W' : Wd) (h' : Heap) (tk' : Nat) (x : Value), W.Le W' → Rep Γ W' ρ H fr h' → VR W' v x → Q x { s with heap := h', toks := tk' }
noncomputable abbrev Zgv (Γ : Cx) (W : Wd) (ρ : Lc) (H : Hp) (fr : List (Addr × Obj)) (s : Shared) (Q : Bool → Shared → Prop) (b : Bool) : Prop :=
 ∀ (W' : Wd) (h' : Heap) (tk' : Nat), W.Le W' → Rep Γ W' ρ H fr h' → Q b { s with heap := h', toks := tk' }
section
variable (prog : Program) (w : World)
noncomputable def J (Γ : Cx) (e : Expr) (f : Ex) : Prop := ∀ (W : Wd) (ρ : Lc) (H : Hp) (fr : List (Addr × Obj)) (s : Shared) (Q E : Value → Shared → Prop) (v : V) (H' : Hp),
 Rep Γ W ρ H fr s.heap → f ρ H = some (v, H') → Ze5 Γ W ρ H' fr s Q v → wpAny (model prog w) Γ.A (eval e Γ.env) Q E s
noncomputable def Js (Γ : Cx) (es : List Expr) (f : Exs) : Prop := ∀ (pos : Pos) (W : Wd) (ρ : Lc) (H : Hp) (fr : List (Addr × Obj)) (s : Shared) (Q : List Value → Shared → Prop) (E : Value → Shared → Prop) (vs : List V) (H' : Hp),
 Rep Γ W ρ H fr s.heap → f ρ H = some (vs, H') → (∀ (W' : Wd) (h' : Heap) (tk' : Nat) (xs : List Value), W.Le W' → Rep Γ W' ρ H' fr h' → VRs W' vs xs → Q xs { s with heap := h', toks := tk' }) → wpAny (model prog w) Γ.A (spliced (backTo pos (starEach es Γ.env))) Q E s
noncomputable def JT (Γ : Cx) (e : Expr) (f : Ts) : Prop := ∀ (W : Wd) (ρ : Lc) (H : Hp) (fr : List (Addr × Obj)) (s : Shared) (Q : Bool → Shared → Prop) (E : Value → Shared → Prop) (b : Bool) (H' : Hp),
 Rep Γ W ρ H fr s.heap → f ρ H = some (b, H') → Zgv Γ W ρ H' fr s Q b → wpAny (model prog w) Γ.A (isTrue e Γ.env (eval e Γ.env)) Q E s
noncomputable def Op2 (m : Value → Value → Sem Value) (o : V → V → Hp → Option (V × Hp)) : Prop := ∀ (Γ : Cx) (W : Wd) (ρ : Lc) (H : Hp) (fr : List (Addr × Obj)) (s : Shared) (Q E : Value → Shared → Prop) (a b : V) (x y : Value) (v : V) (H' : Hp),
 Rep Γ W ρ H fr s.heap → VR W a x → VR W b y → o a b H = some (v, H') → Ze5 Γ W ρ H' fr s Q v → wpAny (model prog w) Γ.A (m x y) Q E s
noncomputable def Op1 (m : Value → Sem Value) (o : V → Hp → Option (V × Hp)) : Prop := ∀ (Γ : Cx) (W : Wd) (ρ : Lc) (H : Hp) (fr : List (Addr × Obj)) (s : Shared) (Q E : Value → Shared → Prop) (a : V) (x : Value) (v : V) (H' : Hp),
 Rep Γ W ρ H fr s.heap → VR W a x → o a H = some (v, H') → Ze5 Γ W ρ H' fr s Q v → wpAny (model prog w) Γ.A (m x) Q E s
noncomputable def OpT (m : Value → Sem Bool) (o : V → Hp → Option Bool) : Prop := ∀ (Γ : Cx) (W : Wd) (ρ : Lc) (H : Hp) (fr : List (Addr × Obj)) (s : Shared) (Q : Bool → Shared → Prop) (E : Value → Shared → Prop) (a : V) (x : Value) (b : Bool),
 Rep Γ W ρ H fr s.heap → VR W a x → o a H = some b → Zgv Γ W ρ H fr s Q b → wpAny (model prog w) Γ.A (m x) Q E s
end
noncomputable def Zl (k : Int) : Ex := fun _ H => some (.int k, H)
noncomputable def Z3 : Ex := fun _ H => some (.none, H)
noncomputable def ZaL (b : Bool) : Ex := fun _ H => some (.bool b, H)
noncomputable def Zb (i : Nat) : Ex := fun ρ H => (ρ i).map fun v => (v, H)
noncomputable def Ze (o : V → V → Hp → Option (V × Hp)) (f g : Ex) : Ex := fun ρ H => (f ρ H).bind fun p => (g ρ p.2).bind fun q => o p.1 q.1 q.2
noncomputable def eUn (o : V → Hp → Option (V × Hp)) (f : Ex) : Ex := fun ρ H => (f ρ H).bind fun p => o p.1 p.2
noncomputable def eIf (t : Ts) (f g : Ex) : Ex := fun ρ H => (t ρ H).bind fun p => if p.1 then f ρ p.2 else g ρ p.2
noncomputable def Zo : Exs := fun _ H => some ([], H)
noncomputable def Zg (f : Ex) (g : Exs) : Exs := fun ρ H => (f ρ H).bind fun p => (g ρ p.2).bind fun q => some (p.1 :: q.1, q.2)
noncomputable def ZaH (g : Exs) : Ex := fun ρ H => (g ρ H).bind fun p => if p.1.length ≤ LEN then some (.tup p.1, p.2) else none
noncomputable def Zbr (g : Exs) : Ex := fun ρ H => (g ρ H).bind fun p => if p.1.length ≤ LEN then some (.ref p.2.length, p.2 ++ [p.1]) else none
noncomputable def Zb8 : V → Hp → Option Bool
 | .bool b, _ => some b
 | .int i, _ => some (i != 0)
 | .none, _ => some false
 | _, _ => none
noncomputable def ZJ (f : Ex) : Ts := fun ρ H => (f ρ H).bind fun p => (Zb8 p.1 p.2).map fun b => (b, p.2)
noncomputable def Zbt (t : Ts) : Ts := fun ρ H => (t ρ H).map fun p => (!p.1, p.2)
noncomputable def Zaj : Ts := fun _ H => some (true, H)
noncomputable def ZbH : Ts := fun _ H => some (false, H)
noncomputable def Zbn (t u : Ts) : Ts := fun ρ H => (t ρ H).bind fun p => if p.1 then u ρ p.2 else some (false, p.2)
noncomputable def tOr (t u : Ts) : Ts := fun ρ H => (t ρ H).bind fun p => if p.1 then some (true, p.2) else u ρ p.2
noncomputable def ZgG (f : Ex) : Ex := fun ρ H => (f ρ H).bind fun p => (Zb8 p.1 p.2).map fun b => (.bool (!b), p.2)
noncomputable def ZcS (f g : Ex) : Ex := fun ρ H => (f ρ H).bind fun p => (Zb8 p.1 p.2).bind fun b => if b then g ρ p.2 else some p
noncomputable def eOr (f g : Ex) : Ex := fun ρ H => (f ρ H).bind fun p => (Zb8 p.1 p.2).bind fun b => if b then some p else g ρ p.2
section
variable {prog : Program} {w : World} {Γ : Cx}
theorem J.int (k : Int) (n : Nat) (pos : Pos) : J prog w Γ (.Constant (.int k) n pos) (Zl k) := fun W ρ H fr s Q E v H' r e post => by
 cases e
 exact wpAny_Constant_int (post W s.heap _ _ (.refl W) r (.int k _))
theorem J.none (n : Nat) (pos : Pos) : J prog w Γ (.Constant .none n pos) Z3 := fun W ρ H fr s Q E v H' r e post => by
 cases e
 exact wpAny_Constant_none (post W s.heap s.toks _ (.refl W) r .none)
theorem J.bool (b : Bool) (n : Nat) (pos : Pos) : J prog w Γ (.Constant (.bool b) n pos) (ZaL b) := fun W ρ H fr s Q E v H' r e post => by
 cases e
 exact wpAny_Constant_bool (post W s.heap s.toks _ (.refl W) r (.bool b))
theorem ZG {e1 e2 : Expr} {op : Operator} {pos : Pos} {f g : Ex} {o : V → V → Hp → Option (V × Hp)} (h1 : J prog w Γ e1 f) (h2 : J prog w Γ e2 g) (ho : Op2 prog w (binaryOp op) o) : J prog w Γ (.BinOp e1 op e2 pos) (Ze o f g) := by
 intro W ρ H fr s Q E v H' r hf post
 obtain ⟨p, e1, hf⟩ := Zz0.mp hf
 obtain ⟨q, e2, e3⟩ := Zz0.mp hf
 refine wpAny_BinOp (h1 W ρ H fr s _ E _ _ r e1 fun W1 k1 t1 x l1 r1 x1 => ?_)
 refine h2 W1 ρ _ fr _ _ E _ _ r1 e2 fun W2 k2 t2 y l2 r2 y2 => ?_
 exact ho Γ W2 ρ _ fr _ Q E _ _ x y v H' r2 (x1.mono l2) y2 e3 fun W3 k3 t3 z l3 r3 z3 => post W3 k3 t3 z ((l1.trans l2).trans l3) r3 z3
theorem ZbY {e1 e2 : Expr} {op : CmpOp} {pos : Pos} {f g : Ex} {o : V → V → Hp → Option (V × Hp)} (h1 : J prog w Γ e1 f) (h2 : J prog w Γ e2 g) (ho : Op2 prog w (compareOp op) o) (hm : behindInMarks op e2 = false := by with_unfolding_all rfl) : J prog w Γ (.Compare e1 [op] [e2] pos) (Ze o f g) := by
 intro W ρ H fr s Q E v H' r hf post
 obtain ⟨p, e1, hf⟩ := Zz0.mp hf
 obtain ⟨q, e2, e3⟩ := Zz0.mp hf
 refine wpAny_Compare1 (h1 W ρ H fr s _ E _ _ r e1 fun W1 k1 t1 x l1 r1 x1 => ?_) hm
 refine h2 W1 ρ _ fr _ _ E _ _ r1 e2 fun W2 k2 t2 y l2 r2 y2 => ?_
 exact ho Γ W2 ρ _ fr _ Q E _ _ x y v H' r2 (x1.mono l2) y2 e3 fun W3 k3 t3 z l3 r3 z3 => post W3 k3 t3 z ((l1.trans l2).trans l3) r3 z3
theorem Ze6 {e1 : Expr} {op : UnaryOp} {pos : Pos} {f : Ex} {o : V → Hp → Option (V × Hp)} (h1 : J prog w Γ e1 f) (ho : Op1 prog w (unaryOp op) o) : J prog w Γ (.UnaryOp op e1 pos) (eUn o f) := by
 intro W ρ H fr s Q E v H' r hf post
 obtain ⟨p, e1, hf⟩ := Zz0.mp hf
 refine wpAny_UnaryOp (h1 W ρ H fr s _ E _ _ r e1 fun W1 k1 t1 x l1 r1 x1 => ?_)
 exact ho Γ W1 ρ _ fr _ Q E _ x v H' r1 x1 hf fun W3 k3 t3 z l3 r3 z3 => post W3 k3 t3 z (l1.trans l3) r3 z3
theorem Zdw : OpT prog w truthy Zb8 := by
 intro Γ W ρ H fr s Q E a x b r hx ho post
 cases hx with
 | none => cases ho; exact truthy_none (post W s.heap s.toks (.refl W) r)
 | bool c => cases ho; exact fun _ _ _ => post W s.heap s.toks (.refl W) r
 | int i t => cases ho; exact P.truthy_int (post W s.heap s.toks (.refl W) r)
 | str _ _ => cases ho
 | tup _ _ _ => cases ho
 | ref _ => cases ho
theorem ZrZ {e1 : Expr} {pos : Pos} {f : Ex} (h1 : J prog w Γ e1 f) : J prog w Γ (.UnaryOp .Not e1 pos) (ZgG f) := by
 intro W ρ H fr s Q E v H' r hf post
 obtain ⟨p, e1, hf⟩ := Zz0.mp hf
 obtain ⟨b, e2, e3⟩ := Zz1.mp hf
 cases e3
 refine wpAny_UnaryOp (h1 W ρ H fr s _ E _ _ r e1 fun W1 k1 t1 x l1 r1 x1 => ?_)
 exact not_of (Zdw Γ W1 ρ _ fr _ _ E _ x b r1 x1 e2 fun W2 k2 t2 l2 r2 => post W2 k2 t2 _ (l1.trans l2) r2 (.bool _))
theorem ZeT {e1 e2 : Expr} {pos : Pos} {f g : Ex} (h1 : J prog w Γ e1 f) (h2 : J prog w Γ e2 g) : J prog w Γ (.BoolOp .And [e1, e2] pos) (ZcS f g) := by
 intro W ρ H fr s Q E v H' r hf post
 obtain ⟨p, e1, hf⟩ := Zz0.mp hf
 obtain ⟨b, e2, e3⟩ := Zz0.mp hf
 refine wpAny_And2 (h1 W ρ H fr s _ E _ _ r e1 fun W1 k1 t1 x l1 r1 x1 => ?_)
 refine Zdw Γ W1 ρ _ fr _ _ E _ x b r1 x1 e2 fun W2 k2 t2 l2 r2 => ?_
 cases b with
 | true => exact h2 W2 ρ _ fr _ Q E v H' r2 e3 fun W3 k3 t3 z l3 r3 z3 => post W3 k3 t3 z ((l1.trans l2).trans l3) r3 z3
 | false =>
  cases e3
  exact post W2 k2 t2 x (l1.trans l2) r2 (x1.mono l2)
theorem Zsp {e1 e2 : Expr} {pos : Pos} {f g : Ex} (h1 : J prog w Γ e1 f) (h2 : J prog w Γ e2 g) : J prog w Γ (.BoolOp .Or [e1, e2] pos) (eOr f g) := by
 intro W ρ H fr s Q E v H' r hf post
 obtain ⟨p, e1, hf⟩ := Zz0.mp hf
 obtain ⟨b, e2, e3⟩ := Zz0.mp hf
 refine wpAny_Or2 (h1 W ρ H fr s _ E _ _ r e1 fun W1 k1 t1 x l1 r1 x1 => ?_)
 refine Zdw Γ W1 ρ _ fr _ _ E _ x b r1 x1 e2 fun W2 k2 t2 l2 r2 => ?_
 cases b with
 | false => exact h2 W2 ρ _ fr _ Q E v H' r2 e3 fun W3 k3 t3 z l3 r3 z3 => post W3 k3 t3 z ((l1.trans l2).trans l3) r3 z3
 | true =>
  cases e3
  exact post W2 k2 t2 x (l1.trans l2) r2 (x1.mono l2)
theorem ZeU {t e1 e2 : Expr} {pos : Pos} {u : Ts} {f g : Ex} (ht : JT prog w Γ t u) (h1 : J prog w Γ e1 f) (h2 : J prog w Γ e2 g) : J prog w Γ (.IfExp t e1 e2 pos) (eIf u f g) := by
 intro W ρ H fr s Q E v H' r hf post
 obtain ⟨p, e1, hf⟩ := Zz0.mp hf
 refine wpAny_IfExp (ht W ρ H fr s _ E _ _ r e1 fun W1 k1 t1 l1 r1 => ?_)
 obtain ⟨b, H1⟩ := p
 cases b with
 | true => exact h1 W1 ρ _ fr _ Q E v H' r1 hf fun W3 k3 t3 z l3 r3 z3 => post W3 k3 t3 z (l1.trans l3) r3 z3
 | false => exact h2 W1 ρ _ fr _ Q E v H' r1 hf fun W3 k3 t3 z l3 r3 z3 => post W3 k3 t3 z (l1.trans l3) r3 z3
theorem Zq : Js prog w Γ [] Zo := fun pos W ρ H fr s Q E vs H' r hf post => by
 cases hf
 exact wpAny_items_nil (post W s.heap s.toks [] (.refl W) r .nil)
theorem Zj {e : Expr} {es : List Expr} {f : Ex} {g : Exs} (h1 : J prog w Γ e f) (h2 : Js prog w Γ es g) (he : starEach (e :: es) Γ.env = (false, eval e Γ.env) :: starEach es Γ.env := by rfl) : Js prog w Γ (e :: es) (Zg f g) := by
 intro pos W ρ H fr s Q E vs H' r hf post
 obtain ⟨p, e1, hf⟩ := Zz0.mp hf
 obtain ⟨q, e2, e3⟩ := Zz0.mp hf
 cases e3
 refine wpAny_items_cons (h1 W ρ H fr s _ E _ _ r e1 fun W1 k1 t1 x l1 r1 x1 => ?_) he
 exact h2 pos W1 ρ _ fr _ _ E _ _ r1 e2 fun W2 k2 t2 ys l2 r2 y2 => post W2 k2 t2 _ (l1.trans l2) r2 (.cons (x1.mono l2) y2)
theorem J.tup {es : List Expr} {k : Nat} {pos : Pos} {g : Exs} (h : Js prog w Γ es g) : J prog w Γ (.Tuple es k pos) (ZaH g) := by
 intro W ρ H fr s Q E v H' r hf post
 obtain ⟨p, e1, hf⟩ := Zz0.mp hf
 by_cases hl : p.1.length ≤ LEN
 ·rw [if_pos hl] at hf
  cases hf
  refine wpAny_Tuple (h pos W ρ H fr s _ E _ _ r e1 fun W1 k1 t1 xs l1 r1 x1 => ⟨Zcx (by rw [x1.length]; exact hl), ?_⟩)
  obtain ⟨W2, l2, r2, v2⟩ := r1.tuple (k := 0) x1 hl
  exact post W2 _ _ _ (l1.trans l2) r2 v2
 ·rw [if_neg hl] at hf
  cases hf
theorem J.list {es : List Expr} {pos : Pos} {g : Exs} (h : Js prog w Γ es g) : J prog w Γ (.List es pos) (Zbr g) := by
 intro W ρ H fr s Q E v H' r hf post
 obtain ⟨p, e1, hf⟩ := Zz0.mp hf
 by_cases hl : p.1.length ≤ LEN
 ·rw [if_pos hl] at hf
  cases hf
  refine wpAny_List (h pos W ρ H fr s _ E _ _ r e1 fun W1 k1 t1 xs l1 r1 x1 => ⟨Zcx (by rw [x1.length]; exact hl), ?_⟩)
  obtain ⟨W2, l2, r2, v2⟩ := r1.list (k := 0) x1 hl
  exact post W2 _ _ _ (l1.trans l2) r2 v2
 ·rw [if_neg hl] at hf
  cases hf
theorem ZbI {e : Expr} {pos : Pos} {t : Ts} (h : JT prog w Γ e t) : JT prog w Γ (.UnaryOp .Not e pos) (Zbt t) := by
 intro W ρ H fr s Q E b H' r hf post
 obtain ⟨p, e1, e2⟩ := Zz1.mp hf
 cases e2
 exact isTrue_not (h W ρ H fr s _ E _ _ r e1 post)
noncomputable def JA (prog : Program) (w : World) (Γ : Cx) (op : BoolOp) (es : List Expr) (f : Ts) : Prop := ∀ (W : Wd) (ρ : Lc) (H : Hp) (fr : List (Addr × Obj)) (s : Shared) (Q : Bool → Shared → Prop) (E : Value → Shared → Prop) (b : Bool) (H' : Hp),
 Rep Γ W ρ H fr s.heap → f ρ H = some (b, H') → Zgv Γ W ρ H' fr s Q b → wpAny (model prog w) Γ.A (allTrue op es Γ.env) Q E s
theorem ZcY : JA prog w Γ .And [] Zaj := fun W ρ H fr s Q E b H' r hf post => by
 cases hf
 exact wpAny_allTrue_And_nil (post W s.heap s.toks (.refl W) r)
theorem Zb6 : JA prog w Γ .Or [] ZbH := fun W ρ H fr s Q E b H' r hf post => by
 cases hf
 exact wpAny_allTrue_Or_nil (post W s.heap s.toks (.refl W) r)
theorem ZbG {e : Expr} {es : List Expr} {t u : Ts} (h1 : JT prog w Γ e t) (h2 : JA prog w Γ .And es u) : JA prog w Γ .And (e :: es) (Zbn t u) := by
 intro W ρ H fr s Q E b H' r hf post
 obtain ⟨p, e1, hf⟩ := Zz0.mp hf
 refine wpAny_allTrue_And_cons (h1 W ρ H fr s _ E _ _ r e1 fun W1 k1 t1 l1 r1 => ?_)
 obtain ⟨c, H1⟩ := p
 cases c with
 | true => exact h2 W1 ρ _ fr _ Q E b H' r1 hf fun W3 k3 t3 l3 r3 => post W3 k3 t3 (l1.trans l3) r3
 | false =>
  cases hf
  exact post W1 k1 t1 l1 r1
theorem ZaJ {e : Expr} {es : List Expr} {t u : Ts} (h1 : JT prog w Γ e t) (h2 : JA prog w Γ .Or es u) : JA prog w Γ .Or (e :: es) (tOr t u) := by
 intro W ρ H fr s Q E b H' r hf post
 obtain ⟨p, e1, hf⟩ := Zz0.mp hf
 refine wpAny_allTrue_Or_cons (h1 W ρ H fr s _ E _ _ r e1 fun W1 k1 t1 l1 r1 => ?_)
 obtain ⟨c, H1⟩ := p
 cases c with
 | false => exact h2 W1 ρ _ fr _ Q E b H' r1 hf fun W3 k3 t3 l3 r3 => post W3 k3 t3 (l1.trans l3) r3
 | true =>
  cases hf
  exact post W1 k1 t1 l1 r1
theorem Za7 {op : BoolOp} {es : List Expr} {pos : Pos} {t : Ts} (h : JA prog w Γ op es t) : JT prog w Γ (.BoolOp op es pos) t := fun W ρ H fr s Q E b H' r hf post => wpAny_isTrue_BoolOp (h W ρ H fr s Q E b H' r hf post)
theorem Zbk {e : Expr} {f : Ex} (h : J prog w Γ e f) (he : isTrue e Γ.env (eval e Γ.env) = (do let v ← eval e Γ.env; standAt e.pos; holding [v] (truthy v)) := by rfl) : JT prog w Γ e (ZJ f) := by
 intro W ρ H fr s Q E b H' r hf post
 obtain ⟨p, e1, hf⟩ := Zz0.mp hf
 obtain ⟨c, e2, e3⟩ := Zz1.mp hf
 cases e3
 refine isTrue_plain (h W ρ H fr s _ E _ _ r e1 fun W1 k1 t1 x l1 r1 x1 => ?_) he
 exact Zdw Γ W1 ρ _ fr _ _ E _ x b r1 x1 e2 fun W2 k2 t2 l2 r2 => post W2 k2 t2 (l1.trans l2) r2
theorem ZV {e1 e2 : Expr} {op : CmpOp} {pos : Pos} {f g : Ex} {o : V → V → Hp → Option (V × Hp)} (h1 : J prog w Γ e1 f) (h2 : J prog w Γ e2 g) (ho : Op2 prog w (compareOp op) o) (hm : behindInMarks op e2 = false := by with_unfolding_all rfl) : JT prog w Γ (.Compare e1 [op] [e2] pos) (ZJ (Ze o f g)) := by
 intro W ρ H fr s Q E b H' r hf post
 obtain ⟨pp, e0, hf0⟩ := Zz0.mp hf
 obtain ⟨c, e4, e5⟩ := Zz1.mp hf0
 cases e5
 obtain ⟨p, e1, hf⟩ := Zz0.mp e0
 obtain ⟨q, e2, e3⟩ := Zz0.mp hf
 refine wpAny_isTrue_Compare1 (h1 W ρ H fr s _ E _ _ r e1 fun W1 k1 t1 x l1 r1 x1 => ?_) hm
 refine h2 W1 ρ _ fr _ _ E _ _ r1 e2 fun W2 k2 t2 y l2 r2 y2 => ?_
 refine ho Γ W2 ρ _ fr _ _ E _ _ x y _ _ r2 (x1.mono l2) y2 e3 fun W3 k3 t3 z l3 r3 z3 => ?_
 exact Zdw Γ W3 ρ _ fr _ _ E _ z b r3 z3 e4 fun W4 k4 t4 l4 r4 => post W4 k4 t4 (((l1.trans l2).trans l3).trans l4) r4
end
end PM
end
section
set_option maxRecDepth 100000
set_option linter.all false
set_option autoImplicit false
namespace PM
open PySem PyProof.Rows PyProof
noncomputable def mulOk (a b : Int) : Bool := !(decide (Builtin.Int.intBits a > shortFactorBits) && decide (Builtin.Int.intBits b > shortFactorBits) && Builtin.Int.intTooBig (Builtin.Int.intBits a + Builtin.Int.intBits b))
theorem Zpt {a b : Int} (h : mulOk a b = true) : IntMulOk a b := by
 unfold mulOk at h
 unfold IntMulOk
 intro c
 rw [c] at h
 cases h
noncomputable def Zbu : V → V → Hp → Option (V × Hp)
 | .int a, .int b, H => some (.int (a - b), H)
 | _, _, _ => none
noncomputable def oDiv : V → V → Hp → Option (V × Hp)
 | .int a, .int b, H => if b ≠ 0 ∧ Builtin.divisionGoesByPylong a b = false then some (.int (a.fdiv b), H) else none
 | _, _, _ => none
noncomputable def oMod : V → V → Hp → Option (V × Hp)
 | .int a, .int b, H => if b ≠ 0 then some (.int (a.fmod b), H) else none
 | _, _, _ => none
noncomputable def oPow : V → V → Hp → Option (V × Hp)
 | .int a, .int b, H => if 0 ≤ b ∧ (Builtin.Int.intBits a : Int) * b ≤ 2 ^ 27 then some (.int (a ^ b.toNat), H) else none
 | _, _, _ => none
noncomputable def ZdD : V → Hp → Option (V × Hp)
 | .int a, H => some (.int (-a), H)
 | _, _ => none
noncomputable def ZgH (p : Int → Int → Bool) : V → V → Hp → Option (V × Hp)
 | .int a, .int b, H => some (.bool (p a b), H)
 | _, _, _ => none
noncomputable def oLt := ZgH fun a b => decide (a < b)
noncomputable def oLe := ZgH fun a b => decide (a ≤ b)
noncomputable def oGt := ZgH fun a b => decide (b < a)
section
variable {prog : Program} {w : World}
theorem ZbA : Op2 prog w (binaryOp .Sub) Zbu := by
 intro Γ W ρ H fr s Q E a b x y v H' r hx hy ho post
 cases hx <;> first | (cases ho; done) | skip
 cases hy <;> first | (cases ho; done) | skip
 cases ho
 exact PySem.P.sub_int (post W s.heap _ _ (.refl W) r (.int _ _))
theorem ZaW : Op2 prog w (binaryOp .Mod) oMod := by
 intro Γ W ρ H fr s Q E a b x y v H' r hx hy ho post
 cases hx <;> first | (cases ho; done) | skip
 cases hy <;> first | (cases ho; done) | skip
 rename_i i t j u
 simp only [oMod] at ho
 by_cases hb : j ≠ 0
 ·rw [if_pos hb] at ho
  cases ho
  exact mod_int' hb (post W s.heap _ _ (.refl W) r (.int _ _))
 ·rw [if_neg hb] at ho
  cases ho
theorem Zd4 : Op2 prog w (binaryOp .FloorDiv) oDiv := by
 intro Γ W ρ H fr s Q E a b x y v H' r hx hy ho post
 cases hx <;> first | (cases ho; done) | skip
 cases hy <;> first | (cases ho; done) | skip
 rename_i i t j u
 simp only [oDiv] at ho
 by_cases hb : j ≠ 0 ∧ Builtin.divisionGoesByPylong i j = false
 ·rw [if_pos hb] at ho
  cases ho
  exact floordiv_int hb.1 (post W s.heap _ _ (.refl W) r (.int _ _)) (.inl hb.2)
 ·rw [if_neg hb] at ho
  cases ho
theorem Zj0 : Op2 prog w (binaryOp .Pow) oPow := by
 intro Γ W ρ H fr s Q E a b x y v H' r hx hy ho post
 cases hx <;> first | (cases ho; done) | skip
 cases hy <;> first | (cases ho; done) | skip
 rename_i i t j u
 simp only [oPow] at ho
 by_cases hb : 0 ≤ j ∧ (Builtin.Int.intBits i : Int) * j ≤ 2 ^ 27
 ·rw [if_pos hb] at ho
  cases ho
  exact pow_int hb.1 hb.2 (post W s.heap _ _ (.refl W) r (.int _ _))
 ·rw [if_neg hb] at ho
  cases ho
theorem ZeK : Op1 prog w (unaryOp .USub) ZdD := by
 intro Γ W ρ H fr s Q E a x v H' r hx ho post
 cases hx <;> first | (cases ho; done) | skip
 cases ho
 exact PySem.P.neg_int (post W s.heap _ _ (.refl W) r (.int _ _))
theorem Zdb : Op2 prog w (compareOp .Lt) oLt := by
 intro Γ W ρ H fr s Q E a b x y v H' r hx hy ho post
 cases hx <;> first | (cases ho; done) | skip
 cases hy <;> first | (cases ho; done) | skip
 cases ho
 exact PySem.P.lt_int (post W s.heap s.toks _ (.refl W) r (.bool _))
theorem Zgw : Op2 prog w (compareOp .LtE) oLe := by
 intro Γ W ρ H fr s Q E a b x y v H' r hx hy ho post
 cases hx <;> first | (cases ho; done) | skip
 cases hy <;> first | (cases ho; done) | skip
 cases ho
 exact PySem.P.le_int (post W s.heap s.toks _ (.refl W) r (.bool _))
theorem ZeV : Op2 prog w (compareOp .Gt) oGt := by
 intro Γ W ρ H fr s Q E a b x y v H' r hx hy ho post
 cases hx <;> first | (cases ho; done) | skip
 cases hy <;> first | (cases ho; done) | skip
 cases ho
 exact PySem.P.gt_int (post W s.heap s.toks _ (.refl W) r (.bool _))
end
end PM
end
section
set_option maxRecDepth 100000
set_option linter.all false
set_option autoImplicit false
namespace PM
open PySem PyProof.Rows PyProof
noncomputable def Zed (f : V → Option PyData) : List V → Option (List PyData)
 | [] => some []
 | v :: vs => (f v).bind fun d => (Zed f vs).bind fun ds => some (d :: ds)
noncomputable def toD (H : Hp) : Nat → V → Option PyData
 | _, .none => some .none
 | _, .bool b => some (.bool b)
 | _, .int i => some (.int i)
 | _, .str x => some (.str x)
 | n + 1, .tup vs => (Zed (toD H n) vs).map .tuple
 | n + 1, .ref a => H[a]?.bind fun vs => (Zed (toD H n) vs).map .list
 | 0, .tup _ => none
 | 0, .ref _ => none
theorem Zim {W : Wd} {h : Heap} {f : V → Option PyData} (ih : ∀ v x d, VR W v x → f v = some d → ∃ as, Reads h x d as) : ∀ {vs : List V} {xs : List Value} {ds : List PyData}, VRs W vs xs → Zed f vs = some ds → ∃ as, ReadsAll h xs ds as
 | _, _, _, .nil, e => by
  cases e
  exact ⟨_, .nil⟩
 | _, _, _, .cons a r, e => by
  obtain ⟨d, e1, e⟩ := Zz0.mp e
  obtain ⟨ds, e2, e3⟩ := Zz0.mp e
  cases e3
  obtain ⟨as, h1⟩ := ih _ _ _ a e1
  obtain ⟨bs, h2⟩ := Zim ih r e2
  exact ⟨_, .cons h1 h2⟩
theorem ZdU {Γ : Cx} {W : Wd} {ρ : Lc} {H : Hp} {fr : List (Addr × Obj)} {h : Heap} (r : Rep Γ W ρ H fr h) : ∀ (n : Nat) (v : V) (x : Value) (d : PyData), VR W v x → toD H n v = some d → ∃ as, Reads h x d as := by
 intro n
 induction n with
 | zero =>
  intro v x d hv e
  cases hv with
  | none => cases e; exact ⟨_, .none⟩
  | bool b => cases e; exact ⟨_, .bool b⟩
  | int i t => cases e; exact ⟨_, .int i t⟩
  | str y t => cases e; exact ⟨_, .str y t⟩
  | tup _ _ _ => cases e
  | ref _ => cases e
 | succ n ih =>
  intro v x d hv e
  cases hv with
  | none => cases e; exact ⟨_, .none⟩
  | bool b => cases e; exact ⟨_, .bool b⟩
  | int i t => cases e; exact ⟨_, .int i t⟩
  | str y t => cases e; exact ⟨_, .str y t⟩
  | @tup vs a xs k hm hl hs =>
   obtain ⟨ds, e1, e2⟩ := Zz1.mp e
   subst e2
   obtain ⟨as, h1⟩ := Zim ih hs e1
   exact ⟨_, .tuple (r.tupAt hm) rfl rfl (by simpa using h1)⟩
  | @ref i a ea =>
   obtain ⟨vs, e0, e⟩ := Zz0.mp e
   obtain ⟨ds, e1, e2⟩ := Zz1.mp e
   subst e2
   obtain ⟨hl, xs, k, hg, hs⟩ := r.at e0 ea
   obtain ⟨as, h1⟩ := Zim ih hs e1
   exact ⟨_, .list hg rfl rfl (by simpa using h1)⟩
noncomputable def Zbo : Nat := 8
noncomputable def ZgI (a b : V) (H : Hp) : Option Bool := (toD H Zbo a).bind fun d => (toD H Zbo b).bind fun e => if SeqAt.shaped d = true ∧ SeqAt.shaped e = true then some (PyData.eqv d e) else none
noncomputable def oEq (a b : V) (H : Hp) : Option (V × Hp) := (ZgI a b H).map fun c => (.bool c, H)
noncomputable def oNe (a b : V) (H : Hp) : Option (V × Hp) := (ZgI a b H).map fun c => (.bool (!c), H)
noncomputable def oIs : V → V → Hp → Option (V × Hp)
 | .none, .none, H => some (.bool true, H)
 | .bool _, .none, H => some (.bool false, H)
 | .int _, .none, H => some (.bool false, H)
 | .str _, .none, H => some (.bool false, H)
 | .tup _, .none, H => some (.bool false, H)
 | .ref _, .none, H => some (.bool false, H)
 | _, _, _ => none
noncomputable def Zcz (a b : V) (H : Hp) : Option (V × Hp) := (oIs a b H).bind fun p => match p.1 with | .bool c => some (.bool (!c), p.2) | _ => none
section
variable {prog : Program} {w : World}
theorem Zaz : Op2 prog w (compareOp .Eq) oEq := by
 intro Γ W ρ H fr s Q E a b x y v H' r hx hy ho post
 obtain ⟨c, e1, e2⟩ := Zz1.mp ho
 cases e2
 obtain ⟨d, h1, e1⟩ := Zz0.mp e1
 obtain ⟨e, h2, e1⟩ := Zz0.mp e1
 by_cases hs : SeqAt.shaped d = true ∧ SeqAt.shaped e = true
 ·rw [if_pos hs] at e1
  cases e1
  obtain ⟨as, R1⟩ := ZdU r Zbo a x d hx h1
  obtain ⟨bs, R2⟩ := ZdU r Zbo b y e hy h2
  exact eq_dataH R1 R2 hs.1 hs.2 (by have := Γ.hu; omega) (post W s.heap s.toks _ (.refl W) r (.bool _))
 ·rw [if_neg hs] at e1
  cases e1
theorem ZbZ : Op2 prog w (compareOp .NotEq) oNe := by
 intro Γ W ρ H fr s Q E a b x y v H' r hx hy ho post
 obtain ⟨c, e1, e2⟩ := Zz1.mp ho
 cases e2
 obtain ⟨d, h1, e1⟩ := Zz0.mp e1
 obtain ⟨e, h2, e1⟩ := Zz0.mp e1
 by_cases hs : SeqAt.shaped d = true ∧ SeqAt.shaped e = true
 ·rw [if_pos hs] at e1
  cases e1
  obtain ⟨as, R1⟩ := ZdU r Zbo a x d hx h1
  obtain ⟨bs, R2⟩ := ZdU r Zbo b y e hy h2
  exact ne_dataH R1 R2 hs.1 hs.2 (by have := Γ.hu; omega) (post W s.heap s.toks _ (.refl W) r (.bool _))
 ·rw [if_neg hs] at e1
  cases e1
theorem ZbN : Op2 prog w (compareOp .Is) oIs := by
 intro Γ W ρ H fr s Q E a b x y v H' r hx hy ho post
 cases hy <;> first | (cases hx <;> cases ho; done) | skip
 refine PySem.is_none ?_
 cases hx <;> (cases ho; exact post W s.heap s.toks _ (.refl W) r (.bool _))
theorem ZcZ : Op2 prog w (compareOp .IsNot) Zcz := by
 intro Γ W ρ H fr s Q E a b x y v H' r hx hy ho post
 cases hy <;> first | (cases hx <;> cases ho; done) | skip
 refine PySem.isNot_none ?_
 cases hx <;> (cases ho; exact post W s.heap s.toks _ (.refl W) r (.bool _))
end
end PM
end
section
set_option maxRecDepth 100000
set_option linter.all false
set_option autoImplicit false
namespace PM
open PySem PyProof.Rows PyProof
noncomputable def Zr : V → V → Hp → Option (V × Hp)
 | .ref a, .int k, H => H[a]?.bind fun vs => (seqIndex? k vs.length).bind fun j => vs[j]?.map fun v => (v, H)
 | .tup vs, .int k, H => (seqIndex? k vs.length).bind fun j => vs[j]?.map fun v => (v, H)
 | _, _, _ => none
theorem ZkG {k : Int} {n j : Nat} (h : seqIndex? k n = some j) : j < n ∧ (k : Int) < n ∧ -(n : Int) ≤ k ∧ (0 ≤ k → k.toNat = j) ∧ (k < 0 → (k + n).toNat = j) := by
 unfold seqIndex? at h
 by_cases c : k < 0
 ·simp only [c, if_true] at h
  split at h
  ·rename_i d
   simp at d h
   omega
  ·cases h
 ·simp only [c, if_false] at h
  split at h
  ·rename_i d
   simp at d h
   omega
  ·cases h
section
variable {prog : Program} {w : World} {Γ : Cx}
theorem Zz {e1 e2 : Expr} {pos : Pos} {f g : Ex} (h1 : J prog w Γ e1 f) (h2 : J prog w Γ e2 g) (hs : ∀ a k u, subscripted e2 false (.ref a) (.int k u) = operate [.ref a, .int k u] (getItem (.ref a) (.int k u)) := by intros; with_unfolding_all rfl) : J prog w Γ (.Subscript e1 e2 pos) (Ze Zr f g) := by
 intro W ρ H fr s Q E v H' r hf post
 obtain ⟨p, e1, hf⟩ := Zz0.mp hf
 obtain ⟨q, e2, e3⟩ := Zz0.mp hf
 refine Subscript_ (h1 W ρ H fr s _ E _ _ r e1 fun W1 k1 t1 x l1 r1 x1 => ?_)
 refine h2 W1 ρ _ fr _ _ E _ _ r1 e2 fun W2 k2 t2 y l2 r2 y2 => ?_
 have x2 := x1.mono l2
 obtain ⟨v1, H1⟩ := p
 obtain ⟨v2, H2⟩ := q
 simp only at e3 r2 x2 y2
 cases y2 <;> first | (cases x2 <;> cases e3; done) | skip
 rename_i k u
 cases x2 <;> first | (cases e3; done) | skip
 ·rename_i vs a xs kk hm hl hv
  obtain ⟨j, hj, e4⟩ := Zz0.mp e3
  obtain ⟨z, hz, e5⟩ := Zz1.mp e4
  cases e5
  obtain ⟨z', hz', rz⟩ := hv.at hz
  have hx : xs.length = vs.length := hv.length
  have hb := ZkG hj
  rw [Za2] at hl
  have it : IsTup k2 a xs.toArray := ⟨_, r2.tupAt hm, rfl, kk, rfl⟩
  exact item_tupleT it (by omega) (by omega) (by rw [hx]; exact hj) hz' (post W2 k2 t2 z' (l1.trans l2) r2 rz) (hs _ _ _)
 ·rename_i i a ea
  obtain ⟨vs, hvs, e3⟩ := Zz0.mp e3
  obtain ⟨j, hj, e4⟩ := Zz0.mp e3
  obtain ⟨z, hz, e5⟩ := Zz1.mp e4
  cases e5
  obtain ⟨hl, xs, kk, hg, hv⟩ := r2.at hvs ea
  obtain ⟨z', hz', rz⟩ := hv.at hz
  have hx : xs.length = vs.length := hv.length
  have hb := ZkG hj
  rw [Za2] at hl
  have isl : k2.IsList a xs.toArray := ⟨_, hg, rfl, kk, rfl⟩
  refine tail_any (s := { s with heap := k2, toks := t2 }) isl.typeIs slot_list_getitem.lookup ?_ (hs _ _ _)
  by_cases hk : 0 ≤ k
  ·exact wpAny_getItem_list isl hk (by omega) (by rw [hb.2.2.2.1 hk]; simpa using hz') (post W2 k2 t2 z' (l1.trans l2) r2 rz)
  ·refine wpAny_getItem_list_neg isl (by omega) (by simp; omega) (by omega) ?_ (post W2 k2 t2 z' (l1.trans l2) r2 rz)
   have := hb.2.2.2.2 (by omega)
   rw [← hx] at this
   simpa [this] using hz'
end
noncomputable def Zcl {α : Type} (vs : List α) (lo hi : Option Int) : List α := (sliceRange (sliceBounds lo hi none vs.length).1 (sliceBounds lo hi none vs.length).2.1 (sliceBounds lo hi none vs.length).2.2).filterMap fun i => vs[i]?
theorem VRs.pick {W : Wd} {vs : List V} {xs : List Value} (h : VRs W vs xs) (l : List Nat) : VRs W (l.filterMap fun i => vs[i]?) (l.filterMap fun i => xs[i]?) := by
 induction l with
 | nil => exact .nil
 | cons i l ih =>
  simp only [List.filterMap_cons]
  have hl := h.length
  cases e : vs[i]? with
  | none =>
   have : xs[i]? = none := by rw [List.getElem?_eq_none_iff] at e ⊢; omega
   rw [this]
   exact ih
  | some v =>
   obtain ⟨x, hx, hr⟩ := h.at e
   rw [hx]
   exact .cons hr ih
theorem Zpu {α : Type} (vs : List α) (lo hi : Option Int) : (Zcl vs lo hi).length ≤ vs.length := by
 unfold Zcl
 refine Nat.le_trans (List.length_filterMap_le _ _) ?_
 refine sliceRange_length_le _ _ _ _ (fun _ => ?_) fun c => ?_
 ·unfold sliceBounds
  cases lo <;> cases hi <;> simp <;> omega
 ·exact absurd (by unfold sliceBounds; simp) c
theorem Zpv {α : Type} (vs : List α) (a : Nat) : ∀ m : Nat, a + m ≤ vs.length → ((List.range m).map fun k => a + k).filterMap (fun i => vs[i]?) = (vs.drop a).take m := by
 intro m
 induction m with
 | zero => intro _; simp
 | succ m ih =>
  intro h
  rw [List.range_succ, List.map_append, List.filterMap_append, ih (by omega), List.take_add_one]
  congr 1
  simp only [List.map_cons, List.map_nil, List.filterMap_cons, List.filterMap_nil, List.getElem?_drop]
  cases e : vs[a + m]? with
  | none => rw [List.getElem?_eq_none_iff] at e; omega
  | some v => rfl
theorem ZlT {α : Type} (vs : List α) (lo hi : Option Int) {a b : Nat} (ha : (sliceBounds lo hi none vs.length).1 = (a : Int)) (hb : (sliceBounds lo hi none vs.length).2.1 = (b : Int)) (h : b ≤ vs.length) : Zcl vs lo hi = (vs.drop a).take (b - a) := by
 have hc : (sliceBounds lo hi none vs.length).2.2 = 1 := by unfold sliceBounds; rfl
 unfold Zcl
 rw [ha, hb, hc]
 have e : sliceRange (a : Int) (b : Int) 1 = (List.range (b - a)).map fun k => a + k := by
  unfold sliceRange
  simp only [show (1 : Int) > 0 from by decide, if_true]
  by_cases c : (a : Int) < b
  ·rw [if_pos c]
   have : ((b : Int) - a + 1 - 1) / 1 = ((b - a : Nat) : Int) := by omega
   rw [this]
   simp only [Int.toNat_natCast]
   refine List.map_congr_left fun k _ => ?_
   omega
  ·rw [if_neg c]
   have : b - a = 0 := by omega
   rw [this]
   rfl
 rw [e]
 by_cases c : a ≤ b
 ·exact Zpv vs a (b - a) (by omega)
 ·have : b - a = 0 := by omega
  rw [this]
  simp
theorem ZoU {α : Type} (vs : List α) {k : Int} {a : Nat} (e : k = (a : Int)) : Zcl vs (some k) none = vs.drop a := by
 by_cases h : a ≤ vs.length
 ·rw [ZlT vs (some k) none (a := a) (b := vs.length) (by unfold sliceBounds; simp; omega) (by unfold sliceBounds; simp) (Nat.le_refl _)]
  rw [List.take_of_length_le (by simp)]
 ·rw [ZlT vs (some k) none (a := vs.length) (b := vs.length) (by unfold sliceBounds; simp; omega) (by unfold sliceBounds; simp) (Nat.le_refl _)]
  simp
  omega
noncomputable def ZeW : Option V → Option (Option Int)
 | none => some none
 | some (.int k) => some (some k)
 | _ => none
noncomputable abbrev Pt := Lc → Hp → Option (Option V × Hp)
noncomputable def ZeX : Pt := fun _ H => some (none, H)
noncomputable def Zkl (f : Ex) : Pt := fun ρ H => (f ρ H).map fun p => (some p.1, p.2)
noncomputable def Zj1 (f : Ex) (lo hi : Pt) : Ex := fun ρ H => (f ρ H).bind fun p => (lo ρ p.2).bind fun q => (hi ρ q.2).bind fun u => (ZeW q.1).bind fun a => (ZeW u.1).bind fun b => match p.1 with
 | .ref i => u.2[i]?.bind fun vs => some (.ref u.2.length, u.2 ++ [Zcl vs a b])
 | _ => none
inductive VP (W : Wd) : Option V → Value → Prop where
 | none : VP W none .none
 | some {v : V} {x : Value} : VR W v x → VP W (some v) x
theorem VP.mono {W W' : Wd} {v : Option V} {x : Value} (l : W.Le W') (h : VP W v x) : VP W' v x := by
 cases h with
 | none => exact .none
 | some h => exact .some (h.mono l)
theorem VP.part {W : Wd} {v : Option V} {x : Value} {k : Option Int} (h : VP W v x) (e : ZeW v = Option.some k) : IsPart x k := by
 cases h with
 | none => cases e; exact .none
 | some h => cases h <;> cases e; exact .int _ _
noncomputable def JP (prog : Program) (w : World) (Γ : Cx) (e : Option Expr) (f : Pt) : Prop := ∀ (W : Wd) (ρ : Lc) (H : Hp) (fr : List (Addr × Obj)) (s : Shared) (Q E : Value → Shared → Prop) (v : Option V) (H' : Hp),
 Rep Γ W ρ H fr s.heap → f ρ H = some (v, H') → (∀ (W' : Wd) (h' : Heap) (tk' : Nat) (x : Value), W.Le W' → Rep Γ W' ρ H' fr h' → VP W' v x → Q x { s with heap := h', toks := tk' }) → wpAny (model prog w) Γ.A (evalPart e Γ.env) Q E s
section
variable {prog : Program} {w : World} {Γ : Cx}
theorem JP.none : JP prog w Γ none ZeX := fun W ρ H fr s Q E v H' r hf post => by
 cases hf
 exact wpAny_evalPart_none (post W s.heap s.toks _ (.refl W) r .none)
theorem JP.some {e : Expr} {f : Ex} (h : J prog w Γ e f) : JP prog w Γ (some e) (Zkl f) := fun W ρ H fr s Q E v H' r hf post => by
 obtain ⟨p, e1, e2⟩ := Zz1.mp hf
 cases e2
 exact wpAny_evalPart_some (h W ρ H fr s _ E _ _ r e1 fun W1 k1 t1 x l1 r1 x1 => post W1 k1 t1 x l1 r1 (.some x1))
theorem Zp7 {e : Expr} {lo hi : Option Expr} {p pos : Pos} {f : Ex} {a b : Pt} (h : J prog w Γ e f) (hlo : JP prog w Γ lo a) (hhi : JP prog w Γ hi b) (ht : ∀ o r, letTemporaryGo e o r = pure () := by intro _ _; rfl) : J prog w Γ (.Subscript e (.Slice lo hi Option.none p) pos) (Zj1 f a b) := by
 intro W ρ H fr s Q E v H' r hf post
 obtain ⟨p, e1, hf⟩ := Zz0.mp hf
 obtain ⟨q, e2, hf⟩ := Zz0.mp hf
 obtain ⟨u, e3, hf⟩ := Zz0.mp hf
 obtain ⟨ka, e4, hf⟩ := Zz0.mp hf
 obtain ⟨kb, e5, hf⟩ := Zz0.mp hf
 refine wpAny_Subscript_list_slice (h W ρ H fr s _ E _ _ r e1 fun W1 k1 t1 x l1 r1 x1 => ?_) ht
 refine hlo W1 ρ _ fr _ _ E _ _ r1 e2 fun W2 k2 t2 y l2 r2 y2 => ?_
 refine hhi W2 ρ _ fr _ _ E _ _ r2 e3 fun W3 k3 t3 z l3 r3 z3 => ?_
 have x3 := x1.mono (l2.trans l3)
 obtain ⟨v1, H1⟩ := p
 simp only at hf x3
 cases x3 with
 | none => cases hf
 | bool _ => cases hf
 | int _ _ => cases hf
 | str _ _ => cases hf
 | tup _ _ _ => cases hf
 | @ref i a ea =>
  obtain ⟨vs, hvs, e6⟩ := Zz0.mp hf
  cases e6
  obtain ⟨hl, xs, kk, hg, hv⟩ := r3.at hvs ea
  have isl : k3.IsList a xs.toArray := ⟨_, hg, rfl, kk, rfl⟩
  refine ⟨a, xs.toArray, ka, kb, rfl, isl, Zcx (by simp [hv.length]; exact hl), (y2.mono l3).part e4, z3.part e5, ?_⟩
  have hp : VRs W3 (Zcl vs ka kb) (Zcl xs ka kb) := by
   unfold Zcl
   rw [hv.length]
   exact hv.pick _
  have hx : slicePick xs.toArray ka kb Option.none = (Zcl xs ka kb).toArray := by
   unfold slicePick Zcl
   simp
  obtain ⟨W4, l4, r4, v4⟩ := (r3.push { cls := .type "slice", data := .fields #[y, z, .none] }).list (k := 0) hp (Nat.le_trans (Zpu vs ka kb) hl)
  rw [hx]
  have := post W4 _ t3 _ (((l1.trans l2).trans l3).trans l4) r4 v4
  rw [Heap.size_push] at this
  exact this
end
end PM
end
section
set_option maxRecDepth 100000
set_option linter.all false
set_option autoImplicit false
namespace PM
open PySem PyProof.Rows PyProof
noncomputable def Nm (prog : Program) (w : World) (Γ : Cx) (x : Str) (v : Value) : Prop := ∀ (pos : Pos) (m : Str → Option Value) (s : Shared) (Q E : Value → Shared → Prop), Fr Γ.h₀ Γ.L s.heap m → Q v s → wpAny (model prog w) Γ.A (eval (.Name x pos) Γ.env) Q E s
theorem Nm.use {prog : Program} {w : World} {Γ : Cx} {x : Str} {y : Value} (h : Nm prog w Γ x y) {pos : Pos} {W : Wd} {ρ : Lc} {H : Hp} {fr : List (Addr × Obj)} {s : Shared} {Q E : Value → Shared → Prop} (r : Rep Γ W ρ H fr s.heap) (q : Q y s) : wpAny (model prog w) Γ.A (eval (.Name x pos) Γ.env) Q E s := by
 obtain ⟨m, c, led, r⟩ := r
 exact h pos m s Q E r.F q
noncomputable def OpN (prog : Program) (w : World) (m : List Value → Sem Value) (o : List V → Hp → Option (V × Hp)) : Prop := ∀ (Γ : Cx) (W : Wd) (ρ : Lc) (H : Hp) (fr : List (Addr × Obj)) (s : Shared) (Q E : Value → Shared → Prop) (as : List V) (xs : List Value) (v : V) (H' : Hp),
 Rep Γ W ρ H fr s.heap → VRs W as xs → o as H = some (v, H') → Ze5 Γ W ρ H' fr s Q v → wpAny (model prog w) Γ.A (m xs) Q E s
noncomputable def Zw (o : List V → Hp → Option (V × Hp)) (g : Exs) : Ex := fun ρ H => (g ρ H).bind fun p => o p.1 p.2
section
variable {prog : Program} {w : World} {Γ : Cx}
theorem ZaF {x : Str} {np pos : Pos} {id : String} {e : Expr} {es : List Expr} {g : Exs} {o : List V → Hp → Option (V × Hp)} (hn : Nm prog w Γ x (.builtin id)) (h : Js prog w Γ (e :: es) g) (ho : OpN prog w (fun xs => call (.builtin id) xs) o)
  (he : starEach (e :: es) Γ.env = (false, eval e Γ.env) :: starEach es Γ.env := by rfl) (hp : ∀ pos, (backTo pos (starEach es Γ.env)).any (·.1) = false := by intro _; rfl) : J prog w Γ (.Call (.Name x np) (e :: es) [] pos) (Zw o g) := by
 intro W ρ H fr s Q E v H' r hf post
 obtain ⟨p, e1, hf⟩ := Zz0.mp hf
 refine wpAny_Call_ofName (hn.use r ?_)
 refine callWith_builtin1 (h pos W ρ H fr s _ E _ _ r e1 fun W1 k1 t1 xs l1 r1 x1 => ?_) he (hp pos)
 exact ho Γ W1 ρ _ fr _ Q E _ xs v H' r1 x1 hf fun W2 k2 t2 y l2 r2 y2 => post W2 k2 t2 y (l1.trans l2) r2 y2
theorem ZjG {x : Str} {np pos : Pos} {T : String} {e : Expr} {es : List Expr} {g : Exs} {o : List V → Hp → Option (V × Hp)} (hn : Nm prog w Γ x (.type T)) (h : Js prog w Γ (e :: es) g) (ho : OpN prog w (fun xs => call (.type T) xs) o)
  (he : starEach (e :: es) Γ.env = (false, eval e Γ.env) :: starEach es Γ.env := by rfl) (hp : ∀ pos, (backTo pos (starEach es Γ.env)).any (·.1) = false := by intro _; rfl) : J prog w Γ (.Call (.Name x np) (e :: es) [] pos) (Zw o g) := by
 intro W ρ H fr s Q E v H' r hf post
 obtain ⟨p, e1, hf⟩ := Zz0.mp hf
 refine wpAny_Call_ofName (hn.use r ?_)
 refine PySem.Pv.callWith_type1 (h pos W ρ H fr s _ E _ _ r e1 fun W1 k1 t1 xs l1 r1 x1 => ?_) he (hp pos)
 exact ho Γ W1 ρ _ fr _ Q E _ xs v H' r1 x1 hf fun W2 k2 t2 y l2 r2 y2 => post W2 k2 t2 y (l1.trans l2) r2 y2
end
noncomputable def ZjH : V → String
 | .none => "NoneType"
 | .bool _ => "bool"
 | .int _ => "int"
 | .str _ => "str"
 | .tup _ => "tuple"
 | .ref _ => "list"
noncomputable def Zj2 (T : String) (v : V) : Bool := ZjH v == T || (T == "int" && ZjH v == "bool")
noncomputable def eIs (T : String) (f : Ex) : Ex := fun ρ H => (f ρ H).map fun p => (.bool (Zj2 T p.1), p.2)
section
variable {prog : Program} {w : World} {Γ : Cx}
theorem isinst {T : String} (hT : T = "int" ∨ T = "bool" ∨ T = "list" ∨ T = "tuple") {W : Wd} {ρ : Lc} {H : Hp} {fr : List (Addr × Obj)} {s : Shared} {Q E : Value → Shared → Prop} {a : V} {x : Value} (r : Rep Γ W ρ H fr s.heap) (hx : VR W a x) (hin : ∀ i, a = .ref i → i < H.length)
  (post : ∀ tk, Q (.bool (Zj2 T a)) { s with toks := tk }) : wpAny (model prog w) Γ.A (call (.builtin "isinstance") [x, .type T]) Q E s := by
 cases hx with
 | none =>
      rcases hT with e | e | e | e <;> subst e
      ·exact call_isinstance (isinstance_false_none (by decide +kernel) F.isi_meta_int (by rw [isSubtype_type]; kernel_rfl)) (post _)
      ·exact call_isinstance (isinstance_false_none (by decide +kernel) F.isi_meta_bool (by rw [isSubtype_type]; kernel_rfl)) (post _)
      ·exact call_isinstance (isinstance_false_none (by decide +kernel) F.isi_meta_list (by rw [isSubtype_type]; kernel_rfl)) (post _)
      ·exact call_isinstance (isinstance_false_none (by decide +kernel) F.isi_meta_tuple (by rw [isSubtype_type]; kernel_rfl)) (post _)
 | bool b =>
       rcases hT with e | e | e | e <;> subst e
       ·exact IsiPair.bool_int (post s.toks)
       ·exact IsiPair.bool_bool (post s.toks)
       ·exact IsiPair.bool_list (post _)
       ·exact IsiPair.bool_tuple (post _)
 | int i t =>
       rcases hT with e | e | e | e <;> subst e
       ·exact IsiPair.int_int (post s.toks)
       ·exact IsiPair.int_bool (post _)
       ·exact IsiPair.int_list (post _)
       ·exact IsiPair.int_tuple (post _)
 | str y t =>
       rcases hT with e | e | e | e <;> subst e
       ·exact IsiPair.str_int (post _)
       ·exact IsiPair.str_bool (post _)
       ·exact IsiPair.str_list (post _)
       ·exact IsiPair.str_tuple (post _)
 | tup hm hl hs =>
  have hg := r.tupAt hm
  rcases hT with e | e | e | e <;> subst e
  ·exact IsiPair.tuple_int hg rfl (post _)
  ·exact IsiPair.tuple_bool hg rfl (post _)
  ·exact IsiPair.tuple_list hg rfl (post _)
  ·exact IsiPair.tuple_tuple hg rfl (post s.toks)
 | @ref i a ea =>
  obtain ⟨hl, xs, k, hg, hv⟩ := r.at (List.getElem?_eq_getElem (hin i rfl)) ea
  rcases hT with e | e | e | e <;> subst e
  ·exact IsiPair.list_int hg rfl (post _)
  ·exact IsiPair.list_bool hg rfl (post _)
  ·exact IsiPair.list_list hg rfl (post s.toks)
  ·exact IsiPair.list_tuple hg rfl (post _)
end
theorem Rep.refIn {Γ : Cx} {W : Wd} {ρ : Lc} {H : Hp} {fr : List (Addr × Obj)} {h : Heap} {i : Nat} {x : Value} (r : Rep Γ W ρ H fr h) (hx : VR W (.ref i) x) : i < H.length := by
 obtain ⟨m, c, led, r⟩ := r
 cases hx with
 | ref e => rw [← r.R.len]; exact (Zz6.mp e).1
section
variable {prog : Program} {w : World} {Γ : Cx}
theorem Zdp {np tp pos : Pos} {x y : Str} {T : String} {e : Expr} {f : Ex} (hn : Nm prog w Γ x (.builtin "isinstance")) (hy : Nm prog w Γ y (.type T)) (hT : T = "int" ∨ T = "bool" ∨ T = "list" ∨ T = "tuple") (h : J prog w Γ e f)
  (he : starEach [e, .Name y tp] Γ.env = (false, eval e Γ.env) :: starEach [.Name y tp] Γ.env := by rfl) (hp : ∀ pos, (backTo pos (starEach [.Name y tp] Γ.env)).any (·.1) = false := by intro _; rfl) : J prog w Γ (.Call (.Name x np) [e, .Name y tp] [] pos) (eIs T f) := by
 intro W ρ H fr s Q E v H' r hf post
 obtain ⟨p, e1, e2⟩ := Zz1.mp hf
 cases e2
 refine wpAny_Call_ofName (hn.use r ?_)
 refine callWith_builtin1 (wpAny_items_cons (h W ρ H fr s _ E _ _ r e1 fun W1 k1 t1 z l1 r1 z1 => ?_) he) he (hp pos)
 refine wpAny_items_cons (hy.use (s := { s with heap := k1, toks := t1 }) r1 ?_)
 refine wpAny_items_nil ?_
 exact PM.isinst hT r1 z1 (fun i e => by rw [e] at z1; exact r1.refIn z1) fun tk => post W1 k1 tk _ l1 r1 (.bool _)
end
noncomputable def ZaN : List V → Hp → Option (V × Hp)
 | [.ref a], H => H[a]?.map fun vs => (.int vs.length, H)
 | [.tup vs], H => some (.int vs.length, H)
 | _, _ => none
noncomputable def Zdf : List V → Hp → Option (V × Hp)
 | [.int a], H => some (.int (if a < 0 then -a else a), H)
 | _, _ => none
noncomputable def ZcA : List V → Option (List Int)
 | [] => some []
 | .int k :: vs => (ZcA vs).map fun ks => k :: ks
 | _ :: _ => none
noncomputable def Ze7 : List V → Hp → Option (V × Hp)
 | [.ref a], H => H[a]?.bind fun vs => (ZcA vs).map fun ks => (.int ks.sum, H)
 | _, _ => none
theorem VRs.one {W : Wd} {v : V} {xs : List Value} (h : VRs W [v] xs) : ∃ x, xs = [x] ∧ VR W v x := by
 cases h with
 | cons a b => cases b; exact ⟨_, rfl, a⟩
theorem VRs.two {W : Wd} {v u : V} {xs : List Value} (h : VRs W [v, u] xs) : ∃ x y, xs = [x, y] ∧ VR W v x ∧ VR W u y := by
 cases h with
 | cons a b => obtain ⟨y, e, r⟩ := b.one; subst e; exact ⟨_, _, rfl, a, r⟩
theorem ZnD {W : Wd} : ∀ {vs : List V} {xs : List Value} {ks : List Int}, VRs W vs xs → ZcA vs = some ks → ∃ ts : Array (Int × Tok), xs.toArray = intItems ts ∧ preSum (numAt ts) ts.size = ks.sum := by
 have key : ∀ {vs : List V} {xs : List Value} {ks : List Int}, VRs W vs xs → ZcA vs = some ks → ∃ ts : List (Int × Tok), xs = ts.map (fun p => Value.int p.1 p.2) ∧ ts.map (·.1) = ks := by
  intro vs
  induction vs with
  | nil => intro xs ks h e; cases h; cases e; exact ⟨[], rfl, rfl⟩
  | cons v vs ih =>
   intro xs ks h e
   cases h with
   | cons a b =>
    cases v with
    | int i =>
     obtain ⟨js, e1, e2⟩ := Zz1.mp e
     subst e2
     cases a with
     | int _ t =>
      obtain ⟨ts, h1, h2⟩ := ih b e1
      exact ⟨(i, t) :: ts, by rw [h1]; rfl, by rw [List.map_cons, h2]⟩
    | none => cases e
    | bool _ => cases e
    | str _ => cases e
    | tup _ => cases e
    | ref _ => cases e
 intro vs xs ks h e
 obtain ⟨ts, h1, h2⟩ := key h e
 refine ⟨ts.toArray, by rw [h1]; simp [intItems], ?_⟩
 rw [preSum_eq, List.take_of_length_le (by simp), ← h2]
noncomputable def Zag : V → V → Hp → Option (V × Hp)
 | .int a, .int b, H => some (.int (a + b), H)
 | .ref a, .ref b, H => H[a]?.bind fun vs => H[b]?.bind fun us => if (vs ++ us).length ≤ LEN then some (.ref H.length, H ++ [vs ++ us]) else none
 | .tup vs, .tup us, H => if (vs ++ us).length ≤ LEN then some (.tup (vs ++ us), H) else none
 | _, _, _ => none
noncomputable def ZdE (vs : List V) : Nat → List V
 | 0 => []
 | n + 1 => ZdE vs n ++ vs
noncomputable def ZaR : V → V → Hp → Option (V × Hp)
 | .int a, .int b, H => if mulOk a b = true then some (.int (a * b), H) else none
 | .ref a, .int k, H => H[a]?.bind fun vs => if vs.length * k.toNat ≤ LEN ∧ -(2 ^ 63 : Int) ≤ k ∧ k < 2 ^ 63 then some (.ref H.length, H ++ [ZdE vs k.toNat]) else none
 | _, _, _ => none
section
variable {prog : Program} {w : World}
theorem Za9 : OpN prog w (fun xs => call (.builtin "len") xs) ZaN := by
 intro Γ W ρ H fr s Q E as xs v H' r hx ho post
 unfold ZaN at ho
 split at ho
 ·rename_i a
  obtain ⟨vs, e1, e2⟩ := Zz1.mp ho
  cases e2
  obtain ⟨x, ex, rx⟩ := hx.one
  subst ex
  cases rx with
  | ref ea =>
   obtain ⟨hl, ys, k, hg, hv⟩ := r.at e1 ea
   have isl : s.heap.IsList _ ys.toArray := ⟨_, hg, rfl, k, rfl⟩
   have e3 : (ys.toArray.size : Int) = vs.length := by simp [hv.length]
   rw [Za2] at hl
   refine Calls.call_len_list isl (by rw [e3]; omega) ?_
   rw [e3]
   exact post W s.heap _ _ (.refl W) r (.int _ _)
 ·rename_i vs
  cases ho
  obtain ⟨x, ex, rx⟩ := hx.one
  subst ex
  cases rx with
  | @tup _ a ys k hm hl hs =>
   have it : IsTup s.heap a ys.toArray := ⟨_, r.tupAt hm, rfl, k, rfl⟩
   have e3 : (ys.toArray.size : Int) = vs.length := by simp [hs.length]
   rw [Za2] at hl
   refine len_tuple it (by rw [e3]; omega) ?_
   rw [e3]
   exact post W s.heap _ _ (.refl W) r (.int _ _)
 ·cases ho
theorem ZeL : OpN prog w (fun xs => call (.builtin "abs") xs) Zdf := by
 intro Γ W ρ H fr s Q E as xs v H' r hx ho post
 unfold Zdf at ho
 split at ho
 ·cases ho
  obtain ⟨x, ex, rx⟩ := hx.one
  subst ex
  cases rx with
  | int i t => exact call_abs_int fun u tk => post W s.heap tk _ (.refl W) r (.int _ _)
 ·cases ho
theorem Zq5 : OpN prog w (fun xs => call (.builtin "sum") xs) Ze7 := by
 intro Γ W ρ H fr s Q E as xs v H' r hx ho post
 unfold Ze7 at ho
 split at ho
 ·obtain ⟨vs, e1, e2⟩ := Zz0.mp ho
  obtain ⟨ks, e3, e4⟩ := Zz1.mp e2
  cases e4
  obtain ⟨x, ex, rx⟩ := hx.one
  subst ex
  cases rx with
  | ref ea =>
   obtain ⟨hl, ys, k, hg, hv⟩ := r.at e1 ea
   obtain ⟨ts, h1, h2⟩ := ZnD hv e3
   have isl : s.heap.IsList _ (intItems ts) := ⟨_, hg, rfl, k, by rw [← h1]⟩
   refine sum_intListG Γ.hh isl fun h' tk t' up => ?_
   rw [h2]
   exact post W h' tk _ (.refl W) (r.grown up) (.int _ _)
 ·cases ho
theorem Zam : Op2 prog w (binaryOp .Add) Zag := by
 intro Γ W ρ H fr s Q E a b x y v H' r hx hy ho post
 unfold Zag at ho
 split at ho
 ·cases ho
  cases hx; cases hy
  exact PySem.P.add_int (post W s.heap _ _ (.refl W) r (.int _ _))
 ·obtain ⟨vs, e1, ho⟩ := Zz0.mp ho
  obtain ⟨us, e2, ho⟩ := Zz0.mp ho
  by_cases hl : (vs ++ us).length ≤ LEN
  ·rw [if_pos hl] at ho
   cases ho
   cases hx with
   | ref ea =>
   cases hy with
   | ref eb =>
   obtain ⟨l1, ys, k, hg, hv⟩ := r.at e1 ea
   obtain ⟨l2, zs, k2, hg2, hv2⟩ := r.at e2 eb
   obtain ⟨m, c, led, r'⟩ := r
   have i1 : s.heap.IsList _ ys.toArray := ⟨_, hg, rfl, k, rfl⟩
   have i2 : s.heap.IsList _ zs.toArray := ⟨_, hg2, rfl, k2, rfl⟩
   refine add_lists (hsz := Zcx (by rw [hv.length, hv2.length, ← List.length_append]; exact hl)) r'.F r'.N i1 i2 fun h' F' N' => ?_
   obtain ⟨W2, le2, r2, v2⟩ := r'.newList F' N' r'.off (hv.append hv2) hl
   exact post W2 h' s.toks _ le2 r2 v2
  ·rw [if_neg hl] at ho
   cases ho
 ·rename_i vs us
  by_cases hl : (vs ++ us).length ≤ LEN
  ·rw [if_pos hl] at ho
   cases ho
   cases hx with
   | @tup _ a ys k hm h1 hv =>
   cases hy with
   | @tup _ b zs k2 hm2 h2 hv2 =>
   have t1 : IsTup s.heap a ys.toArray := ⟨_, r.tupAt hm, rfl, k, rfl⟩
   have t2 : IsTup s.heap b zs.toArray := ⟨_, r.tupAt hm2, rfl, k2, rfl⟩
   have r0 := r
   obtain ⟨m, c, led, r'⟩ := r
   refine add_tuples (hsz := Zcx (by rw [hv.length, hv2.length, ← List.length_append]; exact hl)) r'.F r'.N t1 t2 (fun e => ?_) (fun _ e => ?_) fun _ _ h' F' N' => ?_
   ·have : vs = [] := List.length_eq_zero_iff.mp (by rw [← hv.length, e]; rfl)
    subst this
    exact post W s.heap s.toks _ (.refl W) r0 (.tup hm2 h2 hv2)
   ·have : us = [] := List.length_eq_zero_iff.mp (by rw [← hv2.length, e]; rfl)
    subst this
    rw [List.append_nil] at post
    exact post W s.heap s.toks _ (.refl W) r0 (.tup hm h1 hv)
   ·obtain ⟨W2, le2, r2, v2⟩ := r'.newTup F' N' r'.off (hv.append hv2) hl
    exact post W2 h' s.toks _ le2 r2 v2
  ·rw [if_neg hl] at ho
   cases ho
 ·cases ho
theorem Zln (vs : List V) : ∀ n, (ZdE vs n).length = vs.length * n
 | 0 => rfl
 | n + 1 => by rw [ZdE, List.length_append, Zln vs n, Nat.mul_succ]
theorem ZoV (xs : List Value) (n : Nat) : ∀ acc : Array Value, (List.foldl (fun x1 x2 => x1 ++ x2) acc (List.replicate n xs.toArray)) = acc ++ (List.replicate n xs).flatten.toArray := by
 induction n with
 | zero => intro acc; simp
 | succ n ih =>
  intro acc
  rw [List.replicate_succ, List.foldl_cons, ih, List.replicate_succ, List.flatten_cons]
  simp [Array.append_assoc]
theorem ZlU {W : Wd} {vs : List V} {xs : List Value} (h : VRs W vs xs) : ∀ n, VRs W (ZdE vs n) (List.replicate n xs).flatten
 | 0 => .nil
 | n + 1 => by
  rw [ZdE, List.replicate_succ', List.flatten_append]
  simp only [List.flatten_cons, List.flatten_nil, List.append_nil]
  exact (ZlU h n).append h
theorem Zba : Op2 prog w (binaryOp .Mult) ZaR := by
 intro Γ W ρ H fr s Q E a b x y v H' r hx hy ho post
 unfold ZaR at ho
 split at ho
 ·rename_i i j
  by_cases hm : mulOk i j = true
  ·rw [if_pos hm] at ho
   cases ho
   cases hx; cases hy
   exact PySem.P.mul_int (post W s.heap _ _ (.refl W) r (.int _ _)) (Zpt hm)
  ·rw [if_neg hm] at ho
   cases ho
 ·rename_i i k
  obtain ⟨vs, e1, ho⟩ := Zz0.mp ho
  by_cases hc : vs.length * k.toNat ≤ LEN ∧ -(2 ^ 63 : Int) ≤ k ∧ k < 2 ^ 63
  ·rw [if_pos hc] at ho
   cases ho
   cases hx with
   | ref ea =>
   cases hy with
   | int _ u =>
   obtain ⟨l1, ys, kk, hg, hv⟩ := r.at e1 ea
   obtain ⟨m, c, led, r'⟩ := r
   have hl := hc.1
   rw [Za2] at hl
   refine mul_list r'.F r'.N hg hc.2.1 hc.2.2 (by rw [List.size_toArray, hv.length]; omega) fun h' F' N' => ?_
   have e2 : (List.foldl (fun x1 x2 => x1 ++ x2) #[] (List.replicate (if ys.toArray.isEmpty = true then 0 else k.toNat) ys.toArray)) = (List.replicate k.toNat ys).flatten.toArray := by
    cases ys with
    | nil =>
     simp
    | cons y0 ys0 =>
     have : ((y0 :: ys0).toArray.isEmpty = true) = False := by simp
     simp only [this, if_false]
     rw [ZoV]
     simp
   rw [e2] at N'
   obtain ⟨W2, le2, r2, v2⟩ := r'.newList F' N' r'.off (ZlU hv k.toNat) (by rw [Zln]; exact hc.1)
   exact post W2 h' s.toks _ le2 r2 v2
  ·rw [if_neg hc] at ho
   cases ho
 ·cases ho
end
end PM
end
section
set_option maxRecDepth 100000
set_option linter.all false
set_option autoImplicit false
namespace PM
open PySem PyProof.Rows PyProof
noncomputable def upd (ρ : Lc) (i : Nat) (v : V) : Lc := fun j => if j = i then some v else ρ j
noncomputable abbrev Sm := Lc → Hp → Option (Option V × Lc × Hp)
noncomputable def ZW : Sm := fun ρ H => some (none, ρ, H)
noncomputable def Zt (a b : Sm) : Sm := fun ρ H => (a ρ H).bind fun p => match p.1 with
 | some _ => some p
 | none => b p.2.1 p.2.2
noncomputable def ZE (f : Ex) : Sm := fun ρ H => (f ρ H).map fun p => (some p.1, ρ, p.2)
noncomputable def ZN (i : Nat) (f : Ex) : Sm := fun ρ H => (f ρ H).map fun p => (none, upd ρ i p.1, p.2)
noncomputable def ZQ (t : Ts) (a b : Sm) : Sm := fun ρ H => (t ρ H).bind fun p => if p.1 then a ρ p.2 else b ρ p.2
noncomputable def ZdF (f : Ex) : Sm := fun ρ H => (f ρ H).map fun p => (none, ρ, p.2)
noncomputable def Zkq : V → V → V → Hp → Option Hp
 | .ref a, .int k, v, H => H[a]?.bind fun vs => if a ≠ 0 ∧ 0 ≤ k ∧ k < vs.length then some (H.set a (vs.set k.toNat v)) else none
 | _, _, _, _ => none
noncomputable def ZcE (f o i : Ex) : Sm := fun ρ H => (f ρ H).bind fun p => (o ρ p.2).bind fun q => (i ρ q.2).bind fun u => (Zkq q.1 u.1 p.1 u.2).map fun K => (none, ρ, K)
noncomputable def ZcO (t : Ts) (b : Sm) : Nat → Sm
 | 0 => fun _ _ => none
 | n + 1 => fun ρ H => (t ρ H).bind fun p => if p.1 then (b ρ p.2).bind fun q => (match q.1 with
   | some _ => some q
   | none => ZcO t b n q.2.1 q.2.2) else some (none, ρ, p.2)
noncomputable def PostS (Γ : Cx) (W : Wd) (fr : List (Addr × Obj)) (s : Shared) (Q : Flow → Shared → Prop) : Option V × Lc × Hp → Prop
 | (none, ρ', H') => ∀ (W' : Wd) (h' : Heap) (tk' : Nat), W.Le W' → Rep Γ W' ρ' H' fr h' → Q .next { s with heap := h', toks := tk' }
 | (some v, ρ', H') => ∀ (W' : Wd) (h' : Heap) (tk' : Nat) (x : Value), W.Le W' → Rep Γ W' ρ' H' fr h' → VR W' v x → Q (.ret x) { s with heap := h', toks := tk' }
theorem PostS.le {Γ : Cx} {W W' : Wd} {fr : List (Addr × Obj)} {s : Shared} {h : Heap} {tk : Nat} {Q : Flow → Shared → Prop} {r : Option V × Lc × Hp} (l : W.Le W') (p : PostS Γ W fr s Q r) : PostS Γ W' fr { s with heap := h, toks := tk } Q r := by
 obtain ⟨o, ρ', H'⟩ := r
 cases o with
 | none => exact fun W2 h2 t2 l2 r2 => p W2 h2 t2 (l.trans l2) r2
 | some v => exact fun W2 h2 t2 x l2 r2 x2 => p W2 h2 t2 x (l.trans l2) r2 x2
section
variable (prog : Program) (w : World)
noncomputable def S1 (Γ : Cx) (st : Stmt) (g : Sm) : Prop := ∀ (W : Wd) (ρ : Lc) (H : Hp) (fr : List (Addr × Obj)) (s : Shared) (Q : Flow → Shared → Prop) (E : Value → Shared → Prop) (r : Option V × Lc × Hp),
 Rep Γ W ρ H fr s.heap → g ρ H = some r → PostS Γ W fr s Q r → wpAny (model prog w) Γ.A (exec st Γ.env) Q E s
noncomputable def Ss (Γ : Cx) (ss : List Stmt) (g : Sm) : Prop := ∀ (W : Wd) (ρ : Lc) (H : Hp) (fr : List (Addr × Obj)) (s : Shared) (Q : Flow → Shared → Prop) (E : Value → Shared → Prop) (r : Option V × Lc × Hp),
 Rep Γ W ρ H fr s.heap → g ρ H = some r → PostS Γ W fr s Q r → wpAny (model prog w) Γ.A (execs ss Γ.env) Q E s
noncomputable def Sto (Γ : Cx) (x : Str) (i : Nat) : Prop := ∀ (W : Wd) (ρ : Lc) (H : Hp) (fr : List (Addr × Obj)) (s : Shared) (Q : Unit → Shared → Prop) (E : Value → Shared → Prop) (v : V) (y : Value),
 Rep Γ W ρ H fr s.heap → VR W v y → (∀ (h' : Heap) (tk' : Nat), Rep Γ W (upd ρ i v) H fr h' → Q () { s with heap := h', toks := tk' }) → wpAny (model prog w) Γ.A (storeName Γ.env x y) Q E s
noncomputable def Rd (Γ : Cx) (x : Str) (i : Nat) : Prop := ∀ (W : Wd) (ρ : Lc) (H : Hp) (fr : List (Addr × Obj)) (s : Shared) (Q E : Value → Shared → Prop) (v : V) (pos : Pos),
 Rep Γ W ρ H fr s.heap → ρ i = some v → (∀ y, VR W v y → Q y s) → wpAny (model prog w) Γ.A (eval (.Name x pos) Γ.env) Q E s
end
section
variable {prog : Program} {w : World} {Γ : Cx}
theorem Zgx {x : Str} {i : Nat} {pos : Pos} (h : Rd prog w Γ x i) : J prog w Γ (.Name x pos) (Zb i) := by
 intro W ρ H fr s Q E v H' r hf post
 obtain ⟨u, e1, e2⟩ := Zz1.mp hf
 cases e2
 exact h W ρ H fr s Q E v pos r e1 fun y hy => post W s.heap s.toks y (.refl W) r hy
theorem Z4 : Ss prog w Γ [] ZW := fun W ρ H fr s Q E r rp hf post => by
 cases hf
 exact wpAny_execs_nil (post W s.heap s.toks (.refl W) rp)
theorem ZB {st : Stmt} {ss : List Stmt} {a b : Sm} (h1 : S1 prog w Γ st a) (h2 : Ss prog w Γ ss b) : Ss prog w Γ (st :: ss) (Zt a b) := by
 intro W ρ H fr s Q E r rp hf post
 obtain ⟨p, e1, hf⟩ := Zz0.mp hf
 refine wpAny_execs_cons (h1 W ρ H fr s _ E p rp e1 ?_)
 obtain ⟨o, ρ1, H1⟩ := p
 cases o with
 | some v =>
  cases hf
  exact fun W1 k1 t1 x l1 r1 x1 => post W1 k1 t1 x l1 r1 x1
 | none => exact fun W1 k1 t1 l1 r1 => h2 W1 ρ1 H1 fr _ Q E r r1 hf (post.le l1)
theorem ZA {st : Stmt} {a : Sm} (h1 : S1 prog w Γ st a) : Ss prog w Γ [st] a := by
 intro W ρ H fr s Q E r rp hf post
 refine wpAny_execs_cons (h1 W ρ H fr s _ E r rp hf ?_)
 obtain ⟨o, ρ1, H1⟩ := r
 cases o with
 | some v => exact fun W1 k1 t1 x l1 r1 x1 => post W1 k1 t1 x l1 r1 x1
 | none => exact fun W1 k1 t1 l1 r1 => wpAny_execs_nil (post W1 k1 t1 l1 r1)
theorem ZH {e : Expr} {pos : Pos} {f : Ex} (h : J prog w Γ e f) : S1 prog w Γ (.Return (some e) pos) (ZE f) := by
 intro W ρ H fr s Q E r rp hf post
 obtain ⟨p, e1, e2⟩ := Zz1.mp hf
 cases e2
 exact wpAny_Return_some (h W ρ H fr s _ E _ _ rp e1 post)
theorem Z5 {t : Expr} {a b : List Stmt} {pos : Pos} {u : Ts} {f g : Sm} (ht : JT prog w Γ t u) (h1 : Ss prog w Γ a f) (h2 : Ss prog w Γ b g) : S1 prog w Γ (.If t a b pos) (ZQ u f g) := by
 intro W ρ H fr s Q E r rp hf post
 obtain ⟨p, e1, hf⟩ := Zz0.mp hf
 refine wpAny_If (ht W ρ H fr s _ E _ _ rp e1 fun W1 k1 t1 l1 r1 => ?_)
 obtain ⟨c, H1⟩ := p
 cases c with
 | true => exact h1 W1 ρ H1 fr _ Q E r r1 hf (post.le l1)
 | false => exact h2 W1 ρ H1 fr _ Q E r r1 hf (post.le l1)
theorem Zgk {e : Expr} {pos : Pos} {f : Ex} (h : J prog w Γ e f) (hi : interactive Γ.env = false := by rfl) (hs : swapsWith e none pos.line Γ.env = pure false := by rfl) : S1 prog w Γ (.Expr e pos) (ZdF f) := by
 intro W ρ H fr s Q E r rp hf post
 obtain ⟨p, e1, e2⟩ := Zz1.mp hf
 cases e2
 exact wpAny_Expr_any (h W ρ H fr s _ E _ _ rp e1 fun W1 k1 t1 x l1 r1 x1 => post W1 k1 t1 l1 r1) hi hs
theorem Z1 {x : Str} {i : Nat} {e : Expr} {pos' pos : Pos} {f : Ex} (hx : Sto prog w Γ x i) (h : J prog w Γ e f) (hs : swapsWith e (some (.Name x pos')) pos.line Γ.env = pure false := by rfl) : S1 prog w Γ (.Assign [.Name x pos'] e pos) (ZN i f) := by
 intro W ρ H fr s Q E r rp hf post
 obtain ⟨p, e1, e2⟩ := Zz1.mp hf
 cases e2
 refine wpAny_Assign_Name (h W ρ H fr s _ E _ _ rp e1 fun W1 k1 t1 y l1 r1 y1 => ?_) hs
 exact hx W1 ρ _ fr _ _ E _ y r1 y1 fun h' tk' r2 => post W1 h' tk' l1 r2
theorem Zlo {t : Expr} {a : List Stmt} {pos : Pos} {u : Ts} {f : Sm} (n : Nat) (ht : JT prog w Γ t u) (h1 : Ss prog w Γ a f) : S1 prog w Γ (.While t a [] pos) (ZcO u f n) := by
 intro W ρ H fr s Q E r rp hf post
 refine wpAny_While ?_
 refine codeAny_whileLoop (fun k s' => ∃ W' ρ' H' h' tk', s' = { s with heap := h', toks := tk' } ∧ W.Le W' ∧ Rep Γ W' ρ' H' fr h' ∧ ZcO u f k ρ' H' = some r) ?_ n ⟨W, ρ, H, s.heap, s.toks, rfl, .refl W, rp, hf⟩
 rintro k s' ⟨W1, ρ1, H1, k1, t1, rfl, l1, r1, e⟩
 cases k with
 | zero => cases e
 | succ k =>
  obtain ⟨p, e1, e⟩ := Zz0.mp e
  refine ht W1 ρ1 H1 fr _ _ _ _ _ r1 e1 fun W2 k2 t2 l2 r2 => ?_
  obtain ⟨c, H2⟩ := p
  cases c with
  | false =>
   cases e
   exact wpAny_execs_nil (post W2 k2 t2 (l1.trans l2) r2)
  | true =>
   obtain ⟨q, e2, e⟩ := Zz0.mp e
   refine h1 W2 ρ1 H2 fr _ _ _ q r2 e2 ?_
   obtain ⟨o, ρ3, H3⟩ := q
   cases o with
   | some v =>
    cases e
    exact fun W3 k3 t3 x l3 r3 x3 => post W3 k3 t3 x ((l1.trans l2).trans l3) r3 x3
   | none => exact fun W3 k3 t3 l3 r3 => ⟨k, Nat.lt_succ_self k, W3, ρ3, H3, k3, t3, rfl, (l1.trans l2).trans l3, r3, e⟩
end
noncomputable def ZeC : List V → Hp → Option (V × Hp)
 | [.ref a, v], H => H[a]?.bind fun vs => if a ≠ 0 ∧ vs.length < LEN then some (.none, H.set a (vs ++ [v])) else none
 | _, _ => none
section
variable {prog : Program} {w : World} {Γ : Cx}
theorem ZoW : OpN prog w (fun xs => call (.builtin "list.append") xs) ZeC := by
 intro Γ W ρ H fr s Q E as xs v H' r hx ho post
 unfold ZeC at ho
 split at ho
 ·obtain ⟨vs, e1, e2⟩ := Zz0.mp ho
  obtain ⟨x, y, ex, rx, ry⟩ := hx.two
  subst ex
  split at e2
  ·rename_i hl
   cases e2
   cases rx with
   | @ref _ a0 ea =>
    obtain ⟨_, ys, k, hg, hv⟩ := r.at e1 ea
    refine append_at (hsz := Zcx (by rw [List.size_toArray, hv.length]; omega)) hg fun h' sb hg' => ?_
    have hg2 : h'.get? a0 = some (Zbm (ys ++ [y]) (k + 1)) := by rw [hg']; simp
    exact post W h' s.toks _ (.refl W) (r.change hl.1 e1 ea sb hg2 (hv.snoc ry) (by simp; omega)) .none
  ·cases e2
 ·cases ho
end
end PM
end
section
set_option maxRecDepth 100000
set_option linter.all false
set_option autoImplicit false
namespace PM
open PySem PySem.W PyProof.Rows PyProof
theorem ZlV : ∀ {l : List Value} {k : Nat} {v : Value}, k < l.length → ki_setL l k v = some (l.set k v)
 | [], _, _, h => by simp at h
 | x :: r, 0, v, _ => by simp [ki_setL]
 | x :: r, k + 1, v, h => by
  have := ZlV (l := r) (k := k) (v := v) (by simpa using h)
  simp [ki_setL, this]
theorem ZoX {a k v : V} {H K : Hp} (h : Zkq a k v H = some K) : ∃ i j vs, a = .ref i ∧ k = .int j ∧ H[i]? = some vs ∧ (i ≠ 0 ∧ 0 ≤ j ∧ j < vs.length) ∧ K = H.set i (vs.set j.toNat v) := by
 cases a <;> first | (cases h; done) | skip
 cases k <;> first | (cases h; done) | skip
 obtain ⟨vs, e1, e2⟩ := Zz0.mp h
 split at e2
 ·rename_i c
  cases e2
  exact ⟨_, _, vs, rfl, rfl, e1, c, rfl⟩
 ·cases e2
theorem ZnE {a v x : V} {H K : Hp} (h : ZeC [a, v] H = some (x, K)) : ∃ i, a = .ref i := by
 cases a <;> first | (cases h; done) | skip
 exact ⟨_, rfl⟩
noncomputable def Zdr (o f : Ex) : Ex := fun ρ H => (o ρ H).bind fun p => (f ρ p.2).bind fun q => ZeC [p.1, q.1] q.2
section
variable {prog : Program} {w : World} {Γ : Cx}
theorem S1.put {o i value : Expr} {pos' pos : Pos} {f g k : Ex} (hf : J prog w Γ value f) (ho : J prog w Γ o g) (hi : J prog w Γ i k) (hs : swapsWith value (some (.Subscript o i pos')) pos.line Γ.env = pure false := by rfl) : S1 prog w Γ (.Assign [.Subscript o i pos'] value pos) (ZcE f g k) := by
 intro W ρ H fr s Q E r rp hx post
 obtain ⟨p, e1, hx⟩ := Zz0.mp hx
 obtain ⟨q, e2, hx⟩ := Zz0.mp hx
 obtain ⟨u, e3, hx⟩ := Zz0.mp hx
 obtain ⟨K, e4, e5⟩ := Zz1.mp hx
 cases e5
 refine wpAny_Assign_Subscript (hf W ρ H fr s _ E _ _ rp e1 fun W1 k1 t1 x l1 r1 x1 => ?_) hs
 refine ho W1 ρ _ fr _ _ E _ _ r1 e2 fun W2 k2 t2 y l2 r2 y2 => ?_
 refine hi W2 ρ _ fr _ _ E _ _ r2 e3 fun W3 k3 t3 z l3 r3 z3 => ?_
 have x3 := x1.mono (l2.trans l3)
 have y3 := y2.mono l3
 obtain ⟨b, kk, vs, eb, ek, hvs, hc, e6⟩ := ZoX e4
 subst e6
 rw [eb] at y3
 rw [ek] at z3
 cases y3 with
 | @ref _ a ea =>
 cases z3 with
 | int _ tz =>
 obtain ⟨hl, xs, n, hg, hv⟩ := r3.at hvs ea
 obtain ⟨m, c, led, r'⟩ := r3
 have hll := hl
 rw [Za2] at hll
 have hk : kk.toNat < xs.length := by rw [hv.length]; omega
 obtain ⟨_, a', xs', n', h1, h2, h3⟩ := r'.R.lists b vs hvs
 rw [ea] at h1
 cases h1
 have h2 := r'.inLed hc.1 ea h2
 have N2 : News Γ.h₀ Γ.L k3 ((a, Zbm xs n) :: led.filter (fun q => decide (q.1 ≠ a))) := by
  intro q hq
  rcases List.mem_cons.mp hq with e | hq
  ·subst e
   exact ⟨hg, (r'.N _ h2).2⟩
  ·exact r'.N q (List.mem_filter.mp hq).1
 refine ki_set (its := xs.toArray) (n := n) (q := xs.set kk.toNat x) r'.F N2 hc.2.1 (by omega) (by simpa using ZlV hk) (Upd.head fun q hq => by simpa using (List.mem_filter.mp hq).2) fun h' F' N' => ?_
 exact post W3 h' t3 ((l1.trans l2).trans l3) (r'.changed hc.1 hvs ea F' N' (hv.set _ x3) (by simpa using hl))
theorem J.append {o e : Expr} {apos pos : Pos} {f g : Ex} (ho : J prog w Γ o f) (he : J prog w Γ e g) (hbase : attributeBase o "append" Γ.env (eval o Γ.env) = eval o Γ.env := by rfl)
  (hfew : ((backTo pos (starEach [e] Γ.env)).all (fun x => !x.1) && (backToKw pos (keywordEach [] Γ.env)).all (fun x => x.1.isSome) && decide (([e] : List Expr).length + ([] : List Keyword).length + (if ([] : List Keyword).isEmpty then 0 else 1) < 30)) = true := by rfl)
  (hline : (apos.endLine == pos.line) = true := by rfl) (htrees : backTo pos (starEach [e] Γ.env) = [(false, eval e Γ.env)] := by rfl) : J prog w Γ (.Call (.Attribute o "append" apos) [e] [] pos) (Zdr f g) := by
 intro W ρ H fr s Q E v H' r hx post
 obtain ⟨p, e1, hx⟩ := Zz0.mp hx
 obtain ⟨q, e2, e3⟩ := Zz0.mp hx
 refine wpAny_Call_append hbase hfew hline htrees (ho W ρ H fr s _ E _ _ r e1 fun W1 k1 t1 x l1 r1 x1 => ?_)
 obtain ⟨v1, H1⟩ := p
 obtain ⟨b, hb⟩ := ZnE e3
 subst hb
 have hb := r1.refIn x1
 cases x1 with
 | @ref _ a ea =>
 obtain ⟨_, xs, n, hg, hv⟩ := r1.at (List.getElem?_eq_getElem hb) ea
 refine ⟨a, xs.toArray, rfl, ⟨_, n, hg, rfl, rfl, rfl⟩, ?_⟩
 refine he W1 ρ _ fr _ _ E _ _ r1 e2 fun W2 k2 t2 y l2 r2 y2 => ?_
 exact ZoW Γ W2 ρ _ fr _ Q E _ [.ref a, y] v H' r2 (.cons (.ref (l2.at ea)) (.cons y2 .nil)) e3 fun W3 k3 t3 z l3 r3 z3 => post W3 k3 t3 z ((l1.trans l2).trans l3) r3 z3
end
end PM
end
section
set_option maxRecDepth 100000
set_option linter.all false
set_option autoImplicit false
namespace PM
open PySem PySem.W PyProof.Rows PyProof
noncomputable abbrev Nx := Nat → Hp → Option (Option V)
noncomputable def Zr0 (Γ : Cx) (W : Wd) (ρ : Lc) (H : Hp) (fr : List (Addr × Obj)) (s : Shared) (It : Nat → List (Addr × Obj) → Prop) (i : Nat) (Q : Option Value → Shared → Prop) : Option V → Prop
 | none => ∀ (h' : Heap) (tk' : Nat), Rep Γ W ρ H fr h' → Q none { s with heap := h', toks := tk' }
 | some v => ∀ (fs' : List (Addr × Obj)) (h' : Heap) (tk' : Nat) (x : Value), It (i + 1) fs' → Rep Γ W ρ H (fs' ++ fr) h' → VR W v x → Q (some x) { s with heap := h', toks := tk' }
structure Itr (prog : Program) (w : World) (Γ : Cx) (W0 : Wd) (it : Value) (as : List Addr) (It : Nat → List (Addr × Obj) → Prop) (nx : Nx) : Prop where
 adr : ∀ i fs, It i fs → fs.map (·.1) = as
 next : ∀ (i : Nat) (W : Wd) (ρ : Lc) (H : Hp) (fr fs : List (Addr × Obj)) (s : Shared) (Q : Option Value → Shared → Prop) (E : Value → Shared → Prop) (o : Option V), W0.Le W → Rep Γ W ρ H (fs ++ fr) s.heap → (∀ a ∈ as, ∀ t ∈ fr, a ≠ t.1) → It i fs → nx i H = some o →
  Zr0 Γ W ρ H fr s It i Q o → wpAny (model prog w) Γ.A (pyNext it) Q E s
 self : ∀ (i : Nat) (W : Wd) (ρ : Lc) (H : Hp) (fr fs : List (Addr × Obj)) (s : Shared) (Q E : Value → Shared → Prop), W0.Le W → Rep Γ W ρ H (fs ++ fr) s.heap → It i fs → Q it s → wpAny (model prog w) Γ.A (pyIter it) Q E s
noncomputable abbrev Src := Lc → Hp → Option (Nx × Nat × Hp)
noncomputable def JI (prog : Program) (w : World) (Γ : Cx) (e : Expr) (g : Src) : Prop := ∀ (W : Wd) (ρ : Lc) (H : Hp) (fr : List (Addr × Obj)) (s : Shared) (Q E : Value → Shared → Prop) (nx : Nx) (n : Nat) (H' : Hp),
 Rep Γ W ρ H fr s.heap → g ρ H = some (nx, n, H') →
 (∀ (W' : Wd) (h' : Heap) (tk' : Nat) (it : Value) (as : List Addr) (It : Nat → List (Addr × Obj) → Prop) (fs : List (Addr × Obj)), W.Le W' → It 0 fs → Rep Γ W' ρ H' (fs ++ fr) h' → (∀ a ∈ as, ∀ t ∈ fr, a ≠ t.1) → Itr prog w Γ W' it as It nx → Q it { s with heap := h', toks := tk' }) →
 wpAny (model prog w) Γ.A (eval e Γ.env) (fun xv s₁ => wpAny (model prog w) Γ.A (pyIter xv) Q E s₁) E s
noncomputable def Zj3 (a : Nat) : Nx := fun i H => H[a]?.map fun vs => vs[i]?
noncomputable def Zmq (vs : List V) : Nx := fun i _ => some vs[i]?
noncomputable def ZdZ (a c : Int) (n : Nat) : Nx := fun i _ => some (if i < n then some (.int (a + i * c)) else none)
noncomputable def Zbe (f : Ex) : Src := fun ρ H => (f ρ H).bind fun p => match p.1 with
 | .ref a => p.2[a]?.map fun vs => (Zj3 a, vs.length + 1, p.2)
 | .tup vs => some (Zmq vs, vs.length + 1, p.2)
 | _ => none
noncomputable def rngN (a b c : Int) : Nat := (Builtin.Range.rangeSize a b c).toNat
noncomputable def ZbS (a b c : Int) (H : Hp) : Option (Nx × Nat × Hp) := if c ≠ 0 ∧ Builtin.Range.small a b c = true ∧ 0 ≤ Builtin.Range.rangeSize a b c ∧ rngN a b c ≤ LEN ∧ Builtin.divisionGoesByPylong (b - a) c = false then some (ZdZ a c (rngN a b c), rngN a b c + 1, H) else none
noncomputable def ZaK (g : Exs) : Src := fun ρ H => (g ρ H).bind fun p => match p.1 with
 | [.int b] => ZbS 0 b 1 p.2
 | [.int a, .int b] => ZbS a b 1 p.2
 | [.int a, .int b, .int c] => ZbS a b c p.2
 | _ => none
section
variable {prog : Program} {w : World} {Γ : Cx}
theorem Zj4 {W0 : Wd} {I : Addr} {nx : Nx} (P : Nat → Obj → Prop)
  (next : ∀ (i : Nat) (W : Wd) (ρ : Lc) (H : Hp) (fr : List (Addr × Obj)) (ob : Obj) (s : Shared) (Q : Option Value → Shared → Prop) (E : Value → Shared → Prop) (o : Option V), W0.Le W → Rep Γ W ρ H ((I, ob) :: fr) s.heap → P i ob → nx i H = some o →
   (match o with
    | none => ∀ (h' : Heap) (tk' : Nat), (∀ b o, b ≠ I → s.heap.get? b = some o → h'.get? b = some o) → Q none { s with heap := h', toks := tk' }
    | some v => ∀ (ob' : Obj) (h' : Heap) (tk' : Nat) (x : Value), P (i + 1) ob' → h'.get? I = some ob' → (∀ b o, b ≠ I → s.heap.get? b = some o → h'.get? b = some o) → VR W v x → Q (some x) { s with heap := h', toks := tk' }) → wpAny (model prog w) Γ.A (pyNext (.ref I)) Q E s)
  (self : ∀ (i : Nat) (W : Wd) (ρ : Lc) (H : Hp) (fr : List (Addr × Obj)) (ob : Obj) (s : Shared) (Q E : Value → Shared → Prop), W0.Le W → Rep Γ W ρ H ((I, ob) :: fr) s.heap → P i ob → Q (.ref I) s → wpAny (model prog w) Γ.A (pyIter (.ref I)) Q E s) :
  Itr prog w Γ W0 (.ref I) [I] (fun i fs => ∃ ob, fs = [(I, ob)] ∧ P i ob) nx := by
 refine ⟨?_, ?_, ?_⟩
 ·rintro i fs ⟨ob, e, _⟩
  rw [e]
  rfl
 ·rintro i W ρ H fr fs s Q E o le r ap ⟨ob, e, hp⟩ hn post
  subst e
  refine next i W ρ H fr ob s Q E o le r hp hn ?_
  have ap' : ∀ q ∈ [(I, ob)], ∀ t ∈ fr, q.1 ≠ t.1 := fun q hq t ht => by rw [List.mem_singleton.mp hq]; exact ap I Zz5 t ht
  cases o with
  | none =>
   intro h' tk' keep
   have := Rep.swap (fs := [(I, ob)]) (fs' := []) r ap' (fun b o hb e => keep b o (fun q => hb (by simp [q])) e) (fun q hq => nomatch hq)
   exact post h' tk' this
  | some v =>
   intro ob' h' tk' x hp' hg keep hx
   have := Rep.swap (fs := [(I, ob)]) (fs' := [(I, ob')]) r ap' (fun b o hb e => keep b o (fun q => hb (by simp [q])) e) (fun q hq => by rw [List.mem_singleton.mp hq]; exact ⟨hg, by simp⟩)
   exact post [(I, ob')] h' tk' x ⟨ob', rfl, hp'⟩ this hx
 ·rintro i W ρ H fr fs s Q E le r ⟨ob, e, hp⟩ q
  subst e
  exact self i W ρ H fr ob s Q E le r hp q
theorem JI.seq {e : Expr} {f : Ex} (h : J prog w Γ e f) : JI prog w Γ e (Zbe f) := by
 intro W ρ H fr s Q E nx n H' r hf post
 obtain ⟨p, e1, hf⟩ := Zz0.mp hf
 refine h W ρ H fr s _ E _ _ r e1 fun W1 k1 t1 x l1 r1 x1 => ?_
 obtain ⟨v, H1⟩ := p
 cases x1 with
 | none => cases hf
 | bool _ => cases hf
 | int _ _ => cases hf
 | str _ _ => cases hf
 | @tup vs a xs k hm hl hs =>
  cases hf
  have it : k1.IsTuple a xs.toArray := ⟨_, r1.tupAt hm, rfl, k, rfl⟩
  refine wpAny_pyIter_tuple it ?_
  obtain ⟨r2, ap⟩ := r1.more (fs := [(k1.objs.size, { cls := .type "tuple_iterator", data := .fields #[.ref a, .int 0 0] })]) (fun b o e => Heap.get?_push_of_some { cls := .type "tuple_iterator", data := .fields #[.ref a, .int 0 0] } e) (fun q hq => by rw [List.mem_singleton.mp hq]; exact ⟨Heap.get?_push_size _ rfl, Nat.le_refl _⟩)
  refine post W1 _ t1 _ [k1.objs.size] _ _ l1 ⟨_, rfl, ?_⟩ r2 (fun b hb t ht => by rw [List.mem_singleton.mp hb]; exact ap _ Zz5 t ht)
   (Zj4 (fun i ob => ob.cls = .type "tuple_iterator" ∧ ob.data = .fields #[.ref a, .int i 0]) ?_ ?_)
  ·intro i W ρ H fr ob s Q E o le r hp hn post
   have g1 : s.heap.IsTupleIter k1.objs.size a i := ⟨ob, r.frAt Zz5, hp.1, hp.2⟩
   have g2 : s.heap.IsTuple a xs.toArray := ⟨_, r.tupAt (le.tups _ hm), rfl, k, rfl⟩
   have ne : a ≠ k1.objs.size := Nat.ne_of_lt (Heap.lt_size (r1.tupAt hm))
   have Wk := Walks.tuple (prog := prog) (w := w) Γ.hh k1.objs.size a ne xs.toArray
   cases hn
   cases ev : vs[i]? with
   | none =>
    rw [ev] at post
    have hi : xs.toArray[i]? = none := by have := List.getElem?_eq_none_iff.mp ev; rw [← hs.length] at this; simpa using this
    exact wpAny_pyNext_tuple_end Γ.hh g1 g2 hi fun h' he' => post h' s.toks fun b o hb e => he' b o hb e
   | some v =>
    rw [ev] at post
    obtain ⟨y, hy, ry⟩ := hs.at ev
    refine wpAny_pyNext_tuple_item g1 g2 (x := y) (by simpa using hy) fun h' hit' hs' => ?_
    obtain ⟨ob', h1, h2, h3⟩ := hit'
    exact post ob' h' s.toks y ⟨h2, h3⟩ h1 (fun b o hb e => hs'.extBut b o hb e) (ry.mono le)
  ·intro i W ρ H fr ob s Q E le r hp q
   exact wpAny_pyIter_tupleiter (⟨ob, r.frAt Zz5, hp.1, hp.2⟩ : s.heap.IsTupleIter k1.objs.size a i) q
  ·exact ⟨rfl, rfl⟩
 | @ref i0 a ea =>
  obtain ⟨vs, e2, e3⟩ := Zz1.mp hf
  cases e3
  obtain ⟨hl, xs, k, hg, hv⟩ := r1.at e2 ea
  have isl : k1.IsList a xs.toArray := ⟨_, hg, rfl, k, rfl⟩
  refine wpAny_pyIter_list isl ?_
  obtain ⟨r2, ap⟩ := r1.more (fs := [(k1.objs.size, { cls := .type "list_iterator", data := .fields #[.ref a, .int 0 0] })]) (fun b o e => Heap.get?_push_of_some { cls := .type "list_iterator", data := .fields #[.ref a, .int 0 0] } e) (fun q hq => by rw [List.mem_singleton.mp hq]; exact ⟨Heap.get?_push_size _ rfl, Nat.le_refl _⟩)
  refine post W1 _ t1 _ [k1.objs.size] _ _ l1 ⟨_, rfl, ?_⟩ r2 (fun b hb t ht => by rw [List.mem_singleton.mp hb]; exact ap _ Zz5 t ht)
   (Zj4 (fun i ob => ob.cls = .type "list_iterator" ∧ ob.data = .fields #[.ref a, .int i 0]) ?_ ?_)
  ·intro i W ρ H fr ob s Q E o le r hp hn post
   obtain ⟨us, eu, e4⟩ := Zz1.mp hn
   subst e4
   obtain ⟨hl2, ys, k2, hg2, hv2⟩ := r.at eu (le.at ea)
   have g1 : s.heap.IsListIter k1.objs.size a i := ⟨ob, r.frAt Zz5, hp.1, hp.2⟩
   have g2 : s.heap.IsList a ys.toArray := ⟨_, hg2, rfl, k2, rfl⟩
   cases ev : us[i]? with
   | none =>
    rw [ev] at post
    have hi : ys.toArray[i]? = none := by have := List.getElem?_eq_none_iff.mp ev; rw [← hv2.length] at this; simpa using this
    exact wpAny_pyNext_list_end Γ.hh g1 g2 hi fun h' he' => post h' s.toks fun b o hb e => he' b o hb e
   | some v =>
    rw [ev] at post
    obtain ⟨y, hy, ry⟩ := hv2.at ev
    refine wpAny_pyNext_list_item g1 g2 (x := y) (by simpa using hy) fun h' hit' hs' => ?_
    obtain ⟨ob', h1, h2, h3⟩ := hit'
    exact post ob' h' s.toks y ⟨h2, h3⟩ h1 (fun b o hb e => hs'.extBut b o hb e) ry
  ·intro i W ρ H fr ob s Q E le r hp q
   exact wpAny_pyIter_listiter (⟨ob, r.frAt Zz5, hp.1, hp.2⟩ : s.heap.IsListIter k1.objs.size a i) q
  ·exact ⟨rfl, rfl⟩
theorem ZnF {a b c : Int} {H : Hp} {z : Nx × Nat × Hp} (h : ZbS a b c H = some z) : c ≠ 0 ∧ Builtin.divisionGoesByPylong (b - a) c = false := by
 unfold ZbS at h
 split at h
 ·rename_i hc
  exact ⟨hc.1, hc.2.2.2.2⟩
 ·cases h
theorem Zpw {W0 : Wd} {I : Addr} {a c : Int} {n : Nat} : Itr prog w Γ W0 (.ref I) [I] (fun i fs => ∃ ob, fs = [(I, ob)] ∧ (i ≤ n ∧ ob = { cls := .type "range_iterator", dict := none, data := .fields #[rawInt (a + (i : Nat) * c), rawInt ((n : Int) - (i : Nat)), rawInt c], slots := #[] })) (ZdZ a c n) := by
 have Wk := Walks.range (prog := prog) (w := w) Γ.hh I a c n
 refine Zj4 (fun i ob => i ≤ n ∧ ob = { cls := .type "range_iterator", dict := none, data := .fields #[rawInt (a + (i : Nat) * c), rawInt ((n : Int) - (i : Nat)), rawInt c], slots := #[] }) ?_ ?_
 ·intro i W ρ H fr ob s Q E o le r hp hn post
  have g : IsRangeIter s.heap I (a + (i : Nat) * c) ((n : Int) - (i : Nat)) c := (r.frAt Zz5).trans (congrArg some hp.2)
  cases hn
  by_cases hi : i < n
  ·rw [if_pos hi] at post
   refine Wk.item i s Q E hi g fun v h' tk hv st keep => ?_
   obtain ⟨t, e⟩ := hv
   subst e
   exact post _ h' tk _ ⟨hi, rfl⟩ st (fun b o hb e => keep b o (by simpa using hb) e) (.int _ _)
  ·rw [if_neg hi] at post
   have e : i = n := by have := hp.1; omega
   subst e
   exact Wk.done s Q E g fun h' tk keep => post h' tk fun b o hb e => keep b o (by simpa using hb) e
 ·intro i W ρ H fr ob s Q E le r hp q
  have g : IsRangeIter s.heap I (a + (i : Nat) * c) ((n : Int) - (i : Nat)) c := (r.frAt Zz5).trans (congrArg some hp.2)
  exact Wk.self i s Q E g q
theorem Zin {a b c : Int} {t u v : Tok} {W : Wd} {ρ : Lc} {H : Hp} {fr : List (Addr × Obj)} {s : Shared} {k : Heap} {tk : Nat} {Q E : Value → Shared → Prop} {nx : Nx} {n : Nat} {H' : Hp} (r : Rep Γ W ρ H fr k) (hm : ZbS a b c H = some (nx, n, H'))
  (post : ∀ (W' : Wd) (h' : Heap) (tk' : Nat) (it : Value) (as : List Addr) (It : Nat → List (Addr × Obj) → Prop) (fs : List (Addr × Obj)), W.Le W' → It 0 fs → Rep Γ W' ρ H' (fs ++ fr) h' → (∀ a ∈ as, ∀ t ∈ fr, a ≠ t.1) → Itr prog w Γ W' it as It nx → Q it { s with heap := h', toks := tk' }) :
  wpAny (model prog w) Γ.A (pyIter (.ref k.objs.size)) Q E { s with heap := k.push { cls := .type "range", data := .fields #[.int a t, .int b u, .int c v] }, toks := tk } := by
 unfold ZbS at hm
 split at hm
 ·rename_i hc
  cases hm
  have hr : IsRange (k.push { cls := .type "range", data := .fields #[.int a t, .int b u, .int c v] }) k.objs.size a b c t u v := IsRange.new ..
  refine wpAny_pyIter_range hr hc.2.1 ?_
  have rp := r.push { cls := .type "range", data := .fields #[.int a t, .int b u, .int c v] }
  have en : Builtin.Range.rangeSize a b c = ((rngN a b c : Nat) : Int) := (Int.toNat_of_nonneg hc.2.2.1).symm
  dsimp only
  generalize hk : k.push { cls := .type "range", data := .fields #[.int a t, .int b u, .int c v] } = k2 at rp ⊢
  obtain ⟨r2, ap⟩ := rp.more (fs := [(k2.objs.size, { cls := .type "range_iterator", data := .fields #[rawInt a, rawInt (Builtin.Range.rangeSize a b c), rawInt c] })]) (fun b' o e => Heap.get?_push_of_some { cls := .type "range_iterator", data := .fields #[rawInt a, rawInt (Builtin.Range.rangeSize a b c), rawInt c] } e) (fun q hq => by rw [List.mem_singleton.mp hq]; exact ⟨Heap.get?_push_size _ rfl, Nat.le_refl _⟩)
  refine post W _ tk _ [k2.objs.size] _ _ (.refl W) ⟨_, rfl, Nat.zero_le _, ?_⟩ r2 (fun b hb t ht => by rw [List.mem_singleton.mp hb]; exact ap _ Zz5 t ht) (Zpw (a := a) (c := c) (n := rngN a b c))
  rw [en]
  simp
 ·cases hm
theorem JI.range {x : Str} {np pos : Pos} {e : Expr} {es : List Expr} {g : Exs} (hn : Nm prog w Γ x (.type "range")) (h : Js prog w Γ (e :: es) g)
  (he : starEach (e :: es) Γ.env = (false, eval e Γ.env) :: starEach es Γ.env := by rfl) (hp : ∀ pos, (backTo pos (starEach es Γ.env)).any (·.1) = false := by intro _; rfl) : JI prog w Γ (.Call (.Name x np) (e :: es) [] pos) (ZaK g) := by
 intro W ρ H fr s Q E nx n H' r hf post
 obtain ⟨p, e1, hf⟩ := Zz0.mp hf
 refine wpAny_Call_ofName (hn.use r ?_)
 refine PySem.Pv.callWith_type1 (h pos W ρ H fr s _ E _ _ r e1 fun W1 k1 t1 xs l1 r1 x1 => ?_) he (hp pos)
 obtain ⟨vs, H1⟩ := p
 dsimp only at hf x1 r1
 have post1 := fun W' h' tk' it as It fs (l : W1.Le W') => post W' h' tk' it as It fs (l1.trans l)
 split at hf
 ·obtain ⟨y, ex, ry⟩ := x1.one
  subst ex
  cases ry
  exact call_range_1 (Zin r1 hf post1)
 ·obtain ⟨y, z, ex, ry, rz⟩ := x1.two
  subst ex
  cases ry
  cases rz
  exact call_range_2 (Zin r1 hf post1)
 ·cases x1 with
  | cons ry x1 =>
  obtain ⟨y, z, ex, rz, ru⟩ := x1.two
  subst ex
  cases ry
  cases rz
  cases ru
  have hc := ZnF hf
  exact call_range_3 hc.1 (Zin r1 hf post1) (.inl hc.2)
 ·cases hf
end
noncomputable def ZcB (nx : Nx) (put : V → Lc → Option Lc) (b : Sm) : Nat → Nat → Sm
 | 0, _ => fun _ _ => none
 | n + 1, i => fun ρ H => (nx i H).bind fun o => match o with
  | none => some (none, ρ, H)
  | some v => (put v ρ).bind fun ρ1 => (b ρ1 H).bind fun q => match q.1 with
   | some _ => some q
   | none => ZcB nx put b n (i + 1) q.2.1 q.2.2
noncomputable def ZaQ (g : Src) (put : V → Lc → Option Lc) (b : Sm) : Sm := fun ρ H => (g ρ H).bind fun z => ZcB z.1 put b z.2.1 0 ρ z.2.2
noncomputable def Zaf (i : Nat) : V → Lc → Option Lc := fun v ρ => some (upd ρ i v)
section
variable {prog : Program} {w : World} {Γ : Cx}
theorem ZbT {x : Str} {i : Nat} {px pos : Pos} {it : Expr} {body : List Stmt} {g : Src} {b : Sm} (hx : Sto prog w Γ x i) (hg : JI prog w Γ it g) (hb : Ss prog w Γ body b) (hs : ∀ x, foldedSetIterable it Γ.env x = pure x := by intro _; rfl) : S1 prog w Γ (.For (.Name x px) it body [] pos) (ZaQ g (Zaf i) b) := by
 intro W ρ H fr s Q E r rp hf post
 obtain ⟨z, e1, hf⟩ := Zz0.mp hf
 obtain ⟨nx, n, H0⟩ := z
 refine wpAny_For (hg W ρ H fr s _ E nx n H0 rp e1 fun W1 k1 t1 itv as It fs l1 i1 r1 ap I1 => ?_) hs
 refine codeAny_forLoop (fun k s' => ∃ W' ρ' H' h' tk' j fs', s' = { s with heap := h', toks := tk' } ∧ W1.Le W' ∧ It j fs' ∧ Rep Γ W' ρ' H' (fs' ++ fr) h' ∧ ZcB nx (Zaf i) b k j ρ' H' = some r) ?_ n ⟨W1, ρ, H0, k1, t1, 0, fs, rfl, .refl _, i1, r1, hf⟩
 rintro k s' ⟨W2, ρ2, H2, k2, t2, j, fs2, rfl, l2, i2, r2, e⟩
 cases k with
 | zero => cases e
 | succ k =>
  obtain ⟨o, e2, e⟩ := Zz0.mp e
  refine I1.next j W2 ρ2 H2 fr fs2 _ _ _ o l2 r2 ap i2 e2 ?_
  cases o with
  | none =>
   cases e
   intro h' tk' r3
   exact wpAny_execs_nil (post W2 h' tk' (l1.trans l2) r3)
  | some v =>
   intro fs3 k3 t3 y i3 r3 y3
   obtain ⟨ρ3, e3, e⟩ := Zz0.mp e
   cases e3
   obtain ⟨q, e4, e⟩ := Zz0.mp e
   refine wpAny_assign_Name (hx W2 ρ2 H2 (fs3 ++ fr) _ _ _ v y r3 y3 fun k4 t4 r4 => ?_)
   refine hb W2 _ H2 (fs3 ++ fr) _ _ _ q r4 e4 ?_
   obtain ⟨u, ρ5, H5⟩ := q
   cases u with
   | some u =>
    cases e
    exact fun W5 k5 t5 x5 l5 r5 v5 => post W5 k5 t5 x5 ((l1.trans l2).trans l5) (r5.less fun q hq => List.mem_append_right _ hq) v5
   | none => exact fun W5 k5 t5 l5 r5 => ⟨k, Nat.lt_succ_self k, W5, ρ5, H5, k5, t5, j + 1, fs3, rfl, l2.trans l5, i3, r5, e⟩
end
end PM
end
section
set_option maxRecDepth 100000
set_option linter.all false
set_option autoImplicit false
namespace PM
open PySem PySem.W PySem.Calls PyProof.Rows PyProof
structure OwnF (names : List Str) (cs : Scope) (cl : List (Str × Addr)) (W : Wd) (ρ : Lc) (m : Str → Option Value) (cells : List (Addr × Obj)) : Prop where
 loc : ∀ (i : Nat) (x : Str) (v : V), names[i]? = some x → cs.names.lookup x = some .local → ρ i = some v → ∃ y, m x = some y ∧ VR W v y
 cel : ∀ (i : Nat) (x : Str) (v : V), names[i]? = some x → cs.names.lookup x = some .cell → ρ i = some v → ∃ c o y, cl.lookup x = some c ∧ (c, o) ∈ cells ∧ o.data = .cell (some y) ∧ VR W v y
 all : ∀ (x : Str) (c : Addr), cl.lookup x = some c → ∃ o v₀, (c, o) ∈ cells ∧ o.data = .cell v₀
 one : ∀ (x y : Str) (c : Addr), cl.lookup x = some c → cl.lookup y = some c → x = y
theorem OwnF.mono {names : List Str} {cs : Scope} {cl : List (Str × Addr)} {W W' : Wd} {ρ : Lc} {m : Str → Option Value} {cells : List (Addr × Obj)} (l : W.Le W') (h : OwnF names cs cl W ρ m cells) : OwnF names cs cl W' ρ m cells :=
 ⟨fun i x v a b c => by
  obtain ⟨y, h1, h2⟩ := h.loc i x v a b c
  exact ⟨y, h1, h2.mono l⟩, fun i x v a b c => by
  obtain ⟨d, o, y, h1, h2, h3, h4⟩ := h.cel i x v a b c
  exact ⟨d, o, y, h1, h2, h3, h4.mono l⟩, h.all, h.one⟩
noncomputable def Zbf (dp un : Nat) (gd : Option (List Code)) (cn : Str) (cs : Scope) (L a : Addr) (ccd : Value) (cl : List (Str × Addr)) (outer : List Env) (h₀ : Heap) (hu : un + 200 < cLine) (names : List Str) : Cx where
 A := ktrTop dp un gd cn cs L a ccd cl outer
 env := envX cn cs L a ccd cl
 h₀ := h₀
 L := L
 hh := rfl
 hu := hu
 Own := OwnF names cs cl
 mono := OwnF.mono
section
variable {prog : Program} {w : World} {dp un : Nat} {gd : Option (List Code)} {cn : Str} {cs : Scope} {L a : Addr} {ccd : Value} {cl : List (Str × Addr)} {outer : List Env} {h₀ : Heap} {hu : un + 200 < cLine} {names : List Str}
theorem Zq6 {x : Str} {i : Nat} (hi : names[i]? = some x) (hx : cs.names.lookup x = some .local) (hk : cs.kind = .function) (hd : (x == ("__debug__" : Str)) = false) : Rd prog w (Zbf dp un gd cn cs L a ccd cl outer h₀ hu names) x i := by
 intro W ρ H fr s Q E v pos r e q
 obtain ⟨m, c, led, r⟩ := r
 obtain ⟨y, h1, h2⟩ := r.own.loc i x v hi hx e
 exact nameX_L r.F h1 (q y h2) hk hx hd
theorem Zq7 {x : Str} {i : Nat} (hi : names[i]? = some x) (hx : cs.names.lookup x = some .cell) (hk : cs.kind = .function) (hd : (x == ("__debug__" : Str)) = false) : Rd prog w (Zbf dp un gd cn cs L a ccd cl outer h₀ hu names) x i := by
 intro W ρ H fr s Q E v pos r e q
 obtain ⟨m, c, led, r⟩ := r
 obtain ⟨d, o, y, h1, h2, h3, h4⟩ := r.own.cel i x v hi hx e
 exact nameX_C r.N h1 (r.clIn _ h2) h3 (q y h4) hk hx hd
theorem Zp8 {x : Str} {i : Nat} (nd : names.Nodup) (hi : names[i]? = some x) (hx : cs.names.lookup x = some .local) (hk : cs.kind = .function) : Sto prog w (Zbf dp un gd cn cs L a ccd cl outer h₀ hu names) x i := by
 intro W ρ H fr s Q E v y r vy q
 obtain ⟨m, c, led, r⟩ := r
 have hi' : i < names.length := (Zz6.mp hi).1
 refine storeX_L r.F r.N (fun h' F' N' => q h' _ ⟨_, c, led, ⟨F', N', r.R, r.sc, r.sc0, r.frIn, r.frOff, r.clIn, r.clOff, r.apart, r.frTup, r.clTup, ⟨fun j z u hj hz hu => ?_, fun j z u hj hz hu => ?_, r.own.all, r.own.one⟩⟩⟩) hk hx
 ·by_cases e : j = i
  ·subst e
   rw [hi] at hj
   cases hj
   simp only [upd, if_true] at hu
   cases hu
   exact ⟨y, by simp, vy⟩
  ·have hzx : z ≠ x := fun e' => by
    subst e'
    exact e ((List.getElem?_inj (Zz6.mp hj).1 nd).mp (hj.trans hi.symm))
   simp only [upd, if_neg e] at hu
   obtain ⟨y', h1, h2⟩ := r.own.loc j z u hj hz hu
   exact ⟨y', by simp [hzx, h1], h2⟩
 ·by_cases e : j = i
  ·subst e
   rw [hi] at hj
   cases hj
   rw [hx] at hz
   cases hz
  ·simp only [upd, if_neg e] at hu
   exact r.own.cel j z u hj hz hu
theorem Zp9 {x : Str} {i : Nat} (nd : names.Nodup) (hi : names[i]? = some x) (hx : cs.names.lookup x = some .cell) (hk : cs.kind = .function) (hcl : (cl.lookup x).isSome = true) : Sto prog w (Zbf dp un gd cn cs L a ccd cl outer h₀ hu names) x i := by
 intro W ρ H fr s Q E v y r vy q
 obtain ⟨m, c, led, r⟩ := r
 obtain ⟨d, hd⟩ := Option.isSome_iff_exists.mp hcl
 obtain ⟨o, v₀, ho, hv₀⟩ := r.own.all x d hd
 have inl := r.clIn _ ho
 have N2 : News h₀ L s.heap ((d, o) :: led.filter (fun q => decide (q.1 ≠ d))) := by
  intro q hq
  rcases List.mem_cons.mp hq with e | hq
  ·subst e
   exact r.N _ inl
  ·exact r.N q (List.mem_filter.mp hq).1
 refine storeX_C r.F N2 hd (UpdF.head fun q hq => by simpa using (List.mem_filter.mp hq).2) hv₀ (fun h' o' F' N' ho' => ?_) hk hx
 have keep : ∀ q ∈ led, q.1 ≠ d → q ∈ (d, o') :: led.filter (fun q => decide (q.1 ≠ d)) := fun q hq hn => List.mem_cons_of_mem _ (List.mem_filter.mpr ⟨hq, by simpa using hn⟩)
 refine q h' s.toks ⟨m, (d, o') :: c.filter (fun q => decide (q.1 ≠ d)), _, ⟨F', N', ⟨r.R.len, r.R.nd, fun j vs e => ?_, fun q hq => Zde (r.R.tups q hq) fun z => keep q z (r.clTup _ ho q hq).symm, r.R.kind⟩, r.sc, r.sc0, fun q hq => keep q (r.frIn q hq) (r.apart _ ho q hq).symm, r.frOff, fun q hq => ?_, fun q hq => ?_, fun q hq t ht => ?_, r.frTup, fun q hq t ht => ?_, ⟨fun j z u hj hz hu => ?_, fun j z u hj hz hu => ?_, fun z e hz => ?_, r.own.one⟩⟩⟩
 ·obtain ⟨l, b, xs, k, h1, h2, h3⟩ := r.R.lists j vs e
  exact ⟨l, b, xs, k, h1, Zde h2 fun z => keep _ z fun e => r.clOff _ ho (e ▸ List.mem_of_getElem? h1), h3⟩
 ·rcases List.mem_cons.mp hq with e | hq
  ·exact e ▸ List.mem_cons_self
  ·obtain ⟨h1, h2⟩ := List.mem_filter.mp hq
   exact keep q (r.clIn q h1) (by simpa using h2)
 ·rcases List.mem_cons.mp hq with e | hq
  ·rw [e]
   exact (r.clOff _ ho : d ∉ W.pi)
  ·exact r.clOff q (List.mem_filter.mp hq).1
 ·rcases List.mem_cons.mp hq with e | hq
  ·rw [e]
   exact (r.apart _ ho t ht : d ≠ t.1)
  ·exact r.apart q (List.mem_filter.mp hq).1 t ht
 ·rcases List.mem_cons.mp hq with e | hq
  ·rw [e]
   exact (r.clTup _ ho t ht : d ≠ t.1)
  ·exact r.clTup q (List.mem_filter.mp hq).1 t ht
 ·by_cases e : j = i
  ·subst e
   rw [hi] at hj
   cases hj
   rw [hx] at hz
   cases hz
  ·simp only [upd, if_neg e] at hu
   exact r.own.loc j z u hj hz hu
 ·by_cases e : j = i
  ·subst e
   rw [hi] at hj
   cases hj
   simp only [upd, if_true] at hu
   cases hu
   exact ⟨d, o', y, hd, List.mem_cons_self, ho', vy⟩
  ·have hzx : z ≠ x := fun e' => by
    subst e'
    exact e ((List.getElem?_inj (Zz6.mp hj).1 nd).mp (hj.trans hi.symm))
   simp only [upd, if_neg e] at hu
   obtain ⟨b, ob, y', h1, h2, h3, h4⟩ := r.own.cel j z u hj hz hu
   have : b ≠ d := fun e' => by
    subst e'
    exact hzx (r.own.one z x b h1 hd)
   exact ⟨b, ob, y', h1, List.mem_cons_of_mem _ (List.mem_filter.mpr ⟨h2, by simpa using this⟩), h3, h4⟩
 ·by_cases e' : e = d
  ·subst e'
   exact ⟨o', _, List.mem_cons_self, ho'⟩
  ·obtain ⟨ob, v1, h1, h2⟩ := r.own.all z e hz
   exact ⟨ob, v1, List.mem_cons_of_mem _ (List.mem_filter.mpr ⟨h1, by simpa using e'⟩), h2⟩
end
end PM
end
section
set_option maxRecDepth 100000
set_option linter.all false
set_option autoImplicit false
namespace PM
open PySem PySem.W PySem.Calls PyProof.Rows PyProof PyProof.Rows.LCg
theorem Zey {Γ : Cx} {W : Wd} {ρ : Lc} {H : Hp} {fr : List (Addr × Obj)} {h : Heap} {D : Addr} {ys : List Value} {k : Nat} {vs : List V} (r : Rep Γ W ρ H ((D, Zbm ys k) :: fr) h) (ap : ∀ t ∈ fr, D ≠ t.1) (hv : VRs W vs ys) (hl : vs.length ≤ LEN) :
  ∃ W', W.Le W' ∧ Rep Γ W' ρ (H ++ [vs]) fr h ∧ VR W' (.ref H.length) (.ref D) := by
 obtain ⟨m, c, led, r⟩ := r
 have le : W.Le ⟨W.pi ++ [D], W.tups, W.sc⟩ := ⟨List.prefix_append _ _, fun q hq => hq, rfl⟩
 have h0 : 0 < W.pi.length := (Zz6.mp r.sc0).1
 have at_n : (W.pi ++ [D])[H.length]? = some D := by rw [← r.R.len]; simp
 have off := r.frOff _ Zz5
 refine ⟨⟨W.pi ++ [D], W.tups, W.sc⟩, le, ⟨m, c, led, ⟨r.F, r.N, ⟨by simp [r.R.len], ?_, fun i us e => ?_, r.R.tups, r.R.kind⟩, r.sc, (List.getElem?_append_left h0).trans r.sc0, fun q hq => r.frIn q (Zz2 _ hq), fun q hq => ?_, r.clIn, fun q hq => ?_, fun q hq t ht => r.apart q hq t (Zz2 _ ht), fun q hq => r.frTup q (Zz2 _ hq), r.clTup, Γ.mono le r.own⟩⟩, .ref at_n⟩
 ·show (W.pi ++ [D]).Nodup
  rw [List.nodup_append]
  refine ⟨r.R.nd, by simp, fun a ha b hb => ?_⟩
  rw [List.mem_singleton.mp hb]
  exact fun e => off (e ▸ ha)
 ·by_cases hi : i < H.length
  ·rw [List.getElem?_append_left hi] at e
   obtain ⟨l, a, zs, j, h1, h2, h3⟩ := r.R.lists i us e
   exact ⟨l, a, zs, j, le.at h1, h2, h3.mono le⟩
  ·have : i = H.length := by
    have := (Zz6.mp e).1
    simp at this
    omega
   subst this
   simp at e
   subst e
   exact ⟨hl, D, ys, k, at_n, List.mem_cons_of_mem _ (r.frIn _ Zz5), hv.mono le⟩
 ·intro hm
  rcases List.mem_append.mp hm with hm | hm
  ·exact r.frOff q (Zz2 _ hq) hm
  ·exact ap q hq (List.mem_singleton.mp hm).symm
 ·intro hm
  rcases List.mem_append.mp hm with hm | hm
  ·exact r.clOff q hq hm
  ·exact r.apart q hq _ Zz5 (List.mem_singleton.mp hm)
noncomputable def Zsq (Γ : Cx) (C : Addr) (ts : List (Str × Nat)) (ρ0 : Lc) (W : Wd) (ρ : Lc) (m : Str → Option Value) (cells : List (Addr × Obj)) : Prop :=
 ∃ oC m₂ cs, cells = (C, oC) :: cs ∧ (∀ q ∈ cs, q.1 ≠ C) ∧ NsObj oC m₂ ∧ (∀ p ∈ ts, ∃ v y, ρ p.2 = some v ∧ m₂ p.1 = some y ∧ VR W v y) ∧ (∀ j, (∀ p ∈ ts, p.2 ≠ j) → ρ j = ρ0 j) ∧ Γ.Own W ρ0 m cs
noncomputable def ZaS (Γ : Cx) (scope : Scope) (cl : List (Str × Addr)) (C : Addr) (ts : List (Str × Nat)) (ρ0 : Lc) : Cx where
 A := Γ.A
 env := compEnvC scope cl C Γ.env
 h₀ := Γ.h₀
 L := Γ.L
 hh := Γ.hh
 hu := Γ.hu
 Own := Zsq Γ C ts ρ0
 mono := fun l h => by
  obtain ⟨oC, m₂, cs, e, h0, h1, h2, h3, h4⟩ := h
  exact ⟨oC, m₂, cs, e, h0, h1, fun p hp => by
   obtain ⟨v, y, a, b, c⟩ := h2 p hp
   exact ⟨v, y, a, b, c.mono l⟩, h3, Γ.mono l h4⟩
section
variable {Γ : Cx} {scope : Scope} {cl : List (Str × Addr)} {C : Addr} {ts : List (Str × Nat)} {ρ0 : Lc} {W : Wd} {ρ : Lc} {H : Hp} {fr : List (Addr × Obj)} {h : Heap}
theorem ZlW {oC : Obj} {m₂ : Str → Option Value} (r : Rep Γ W ρ0 H ((C, oC) :: fr) h) (ap : ∀ t ∈ fr, C ≠ t.1) (hC : NsObj oC m₂) (ht : ∀ p ∈ ts, ∃ v y, ρ p.2 = some v ∧ m₂ p.1 = some y ∧ VR W v y) (hj : ∀ j, (∀ p ∈ ts, p.2 ≠ j) → ρ j = ρ0 j) : Rep (ZaS Γ scope cl C ts ρ0) W ρ H fr h := by
 obtain ⟨m, c, led, r⟩ := r
 refine ⟨m, (C, oC) :: c, led, ⟨r.F, r.N, r.R, r.sc, r.sc0, fun q hq => r.frIn q (Zz2 _ hq), fun q hq => r.frOff q (Zz2 _ hq), fun q hq => ?_, fun q hq => ?_, fun q hq t ht => ?_, fun q hq => r.frTup q (Zz2 _ hq), fun q hq t ht => ?_, ⟨oC, m₂, c, rfl, fun q hq => r.apart q hq _ Zz5, hC, ht, hj, r.own⟩⟩⟩
 ·rcases List.mem_cons.mp hq with e | hq
  ·exact e ▸ r.frIn _ Zz5
  ·exact r.clIn q hq
 ·rcases List.mem_cons.mp hq with e | hq
  ·exact e ▸ r.frOff _ Zz5
  ·exact r.clOff q hq
 ·rcases List.mem_cons.mp hq with e | hq
  ·exact e ▸ ap t ht
  ·exact r.apart q hq t (Zz2 _ ht)
 ·rcases List.mem_cons.mp hq with e | hq
  ·exact e ▸ r.frTup _ Zz5 t ht
  ·exact r.clTup q hq t ht
theorem Rep.fromC (r : Rep (ZaS Γ scope cl C ts ρ0) W ρ H fr h) : ∃ oC m₂, NsObj oC m₂ ∧ Rep Γ W ρ0 H ((C, oC) :: fr) h := by
 obtain ⟨m, c, led, r⟩ := r
 obtain ⟨oC, m₂, cs, e, h0, h1, h2, h3, h4⟩ := r.own
 subst e
 refine ⟨oC, m₂, h1, m, cs, led, ⟨r.F, r.N, r.R, r.sc, r.sc0, fun q hq => ?_, fun q hq => ?_, fun q hq => r.clIn q (Zz2 _ hq), fun q hq => r.clOff q (Zz2 _ hq), fun q hq t ht => ?_, fun q hq t ht => ?_, fun q hq => r.clTup q (Zz2 _ hq), h4⟩⟩
 ·rcases List.mem_cons.mp hq with e | hq
  ·exact e ▸ r.clIn _ Zz5
  ·exact r.frIn q hq
 ·rcases List.mem_cons.mp hq with e | hq
  ·exact e ▸ r.clOff _ Zz5
  ·exact r.frOff q hq
 ·rcases List.mem_cons.mp ht with e | ht
  ·rw [e]
   exact h0 q hq
  ·exact r.apart q (Zz2 _ hq) t ht
 ·rcases List.mem_cons.mp hq with e | hq
  ·exact e ▸ r.clTup _ Zz5 t ht
  ·exact r.frTup q hq t ht
end
noncomputable def JF (prog : Program) (w : World) (Γ : Cx) (ifs : List Expr) (f : Ts) : Prop := ∀ (W : Wd) (ρ : Lc) (H : Hp) (fr : List (Addr × Obj)) (s : Shared) (Q : Bool → Shared → Prop) (E : Value → Shared → Prop) (b : Bool) (H' : Hp),
 Rep Γ W ρ H fr s.heap → f ρ H = some (b, H') → Zgv Γ W ρ H' fr s Q b →
 wpAny (model prog w) Γ.A (forIn ifs true fun c r => if r = true then do let ok ← isTrue c Γ.env (eval c Γ.env); pure (ForInStep.yield ok) else pure (ForInStep.yield r)) Q E s
section
variable {prog : Program} {w : World} {Γ : Cx}
theorem JF.nil : JF prog w Γ [] Zaj := fun W ρ H fr s Q E b H' r hf post => by
 cases hf
 exact wpAny_pure (post W s.heap s.toks (.refl W) r)
theorem JF.one {e : Expr} {t : Ts} (h : JT prog w Γ e t) : JF prog w Γ [e] t := fun W ρ H fr s Q E b H' r hf post => by
 rw [List.forIn_cons]
 simp only [if_true, List.forIn_nil]
 refine wpAny_bind (wpAny_bind (h W ρ H fr s _ E b H' r hf fun W1 k1 t1 l1 r1 => wpAny_pure ?_))
 exact wpAny_pure (post W1 k1 t1 l1 r1)
end
end PM
end
section
set_option maxRecDepth 100000
set_option linter.all false
set_option autoImplicit false
namespace PM
open PySem PySem.W PySem.Calls PyProof.Rows PyProof PyProof.Rows.LCg
noncomputable def Zca (nx : Nx) (put : V → Lc → Option Lc) (c : Ts) (f : Ex) (ρ : Lc) : Nat → Nat → List V → Hp → Option (List V × Hp)
 | 0, _, _, _ => none
 | n + 1, i, acc, H => (nx i H).bind fun o => match o with
  | none => some (acc, H)
  | some v => (put v ρ).bind fun ρ1 => (c ρ1 H).bind fun b => if b.1 then (f ρ1 b.2).bind fun p => (if acc.length < LEN then Zca nx put c f ρ n (i + 1) (acc ++ [p.1]) p.2 else none) else Zca nx put c f ρ n (i + 1) acc b.2
noncomputable def Zao (g : Src) (put : V → Lc → Option Lc) (c : Ts) (f : Ex) : Ex := fun ρ H => (g ρ H).bind fun z => (Zca z.1 put c f ρ z.2.1 0 [] z.2.2).map fun q => (.ref q.2.length, q.2 ++ [q.1])
noncomputable def Ze8 (Γ : Cx) (W0 : Wd) (ρ : Lc) (fr : List (Addr × Obj)) (C D : Addr) (It : Nat → List (Addr × Obj) → Prop) (nx : Nx) (put : V → Lc → Option Lc) (c : Ts) (f : Ex) (q : List V × Hp) (s : Shared) (k : Nat) (s' : Shared) : Prop :=
 ∃ W' H' h' tk' j fs acc ys oC m₂, s' = { s with heap := h', toks := tk' } ∧ W0.Le W' ∧ It j fs ∧ NsObj oC m₂ ∧ VRs W' acc ys ∧ acc.length ≤ LEN ∧ Rep Γ W' ρ H' ((C, oC) :: (D, lst ys) :: (fs ++ fr)) h' ∧ Zca nx put c f ρ k j acc H' = some q
section
variable {prog : Program} {w : World} {Γ : Cx}
theorem Zk7 {scope : Scope} {cl : List (Str × Addr)} {elt : Expr} {ts : List (Str × Nat)} {W0 W : Wd} {ρ ρ1 : Lc} {H : Hp} {fr fs : List (Addr × Obj)} {C D : Addr} {It : Nat → List (Addr × Obj) → Prop} {nx : Nx} {put : V → Lc → Option Lc} {c : Ts} {f : Ex} {q : List V × Hp} {s : Shared} {h : Heap} {tk : Nat} {k j : Nat} {acc : List V} {ys : List Value} {E : Value → Shared → Prop}
  (hel : J prog w (ZaS Γ scope cl C ts ρ) elt f) (aD : ∀ t ∈ fs ++ fr, D ≠ t.1) (cd : C ≠ D) (l0 : W0.Le W) (hit : It (j + 1) fs) (hv : VRs W acc ys) (r : Rep (ZaS Γ scope cl C ts ρ) W ρ1 H ((D, lst ys) :: (fs ++ fr)) h)
  (e : ((f ρ1 H).bind fun p => (if acc.length < LEN then Zca nx put c f ρ k (j + 1) (acc ++ [p.1]) p.2 else none)) = some q) :
  wpAny (model prog w) Γ.A (eval elt (compEnvC scope cl C Γ.env)) (fun x s₄ => wpAny (model prog w) Γ.A (call (.builtin "list.append") [.ref D, x]) (fun _ s₅ => ∃ m, m < k + 1 ∧ Ze8 Γ W0 ρ fr C D It nx put c f q s m s₅) E s₄) E { s with heap := h, toks := tk } := by
 obtain ⟨p, e2, e⟩ := Zz0.mp e
 by_cases hlt : acc.length < LEN
 ·rw [if_pos hlt] at e
  refine hel W ρ1 H _ _ _ E _ _ r e2 fun W2 k2 t2 x l2 r2 x2 => ?_
  obtain ⟨oC', m₃, hC', r3⟩ := r2.fromC
  have hD : k2.get? D = some (lst ys) := r3.frAt (q := (D, lst ys)) (Zz2 _ Zz5)
  refine append_at (hsz := Zcx (by rw [List.size_toArray, hv.length]; omega)) hD fun h' sb hg => ?_
  have hg' : h'.get? D = some (lst (ys ++ [x])) := hg.trans (congrArg some (lst_snoc ys x))
  have r4 : Rep Γ W2 ρ p.2 ([(D, lst ys)] ++ ((C, oC') :: (fs ++ fr))) k2 := r3.less fun q hq => by
   rcases List.mem_append.mp hq with hq | hq
   ·rw [List.mem_singleton.mp hq]
    exact Zz2 _ Zz5
   ·rcases List.mem_cons.mp hq with e | hq
    ·exact e ▸ List.mem_cons_self
    ·exact Zz2 _ (Zz2 _ hq)
  have r5 : Rep Γ W2 ρ p.2 ([(D, lst (ys ++ [x]))] ++ ((C, oC') :: (fs ++ fr))) h' := by
   refine r4.swap (fun q hq t ht => ?_) (fun b o hb e => sb.extBut b o (fun z => hb (by simp [z])) e) fun q hq => ?_
   ·rw [List.mem_singleton.mp hq]
    rcases List.mem_cons.mp ht with e | ht
    ·rw [e]
     exact cd.symm
    ·exact aD t ht
   ·rw [List.mem_singleton.mp hq]
    exact ⟨hg', by simp⟩
  have r6 : Rep Γ W2 ρ p.2 ((C, oC') :: (D, lst (ys ++ [x])) :: (fs ++ fr)) h' := r5.less fun q hq => by
   rcases List.mem_cons.mp hq with e | hq
   ·exact e ▸ List.mem_append_right _ Zz5
   ·rcases List.mem_cons.mp hq with e | hq
    ·exact e ▸ List.mem_append_left _ Zz5
    ·exact Zz3 _ (Zz2 _ hq)
  exact ⟨k, Nat.lt_succ_self k, W2, p.2, h', t2, j + 1, fs, acc ++ [p.1], ys ++ [x], oC', m₃, rfl, l0.trans l2, hit, hC', (hv.mono l2).snoc x2, by simp; omega, r6, e⟩
 ·rw [if_neg hlt] at e
  cases e
theorem Zpx {scope : Scope} {cl : List (Str × Addr)} {elt : Expr} {ifs : List Expr} {ts : List (Str × Nat)} {W0 W : Wd} {ρ ρ1 : Lc} {H : Hp} {fr fs : List (Addr × Obj)} {C D : Addr} {It : Nat → List (Addr × Obj) → Prop} {nx : Nx} {put : V → Lc → Option Lc} {c : Ts} {f : Ex} {q : List V × Hp} {s s1 : Shared} {k j : Nat} {acc : List V} {ys : List Value} {oC : Obj} {m₂ : Str → Option Value} {E : Value → Shared → Prop}
  (hel : J prog w (ZaS Γ scope cl C ts ρ) elt f) (hif : JF prog w (ZaS Γ scope cl C ts ρ) ifs c) (hs : ∃ h tk, s1 = { s with heap := h, toks := tk })
  (aC : ∀ t ∈ (D, lst ys) :: (fs ++ fr), C ≠ t.1) (aD : ∀ t ∈ fs ++ fr, D ≠ t.1) (l0 : W0.Le W) (hit : It (j + 1) fs) (hC : NsObj oC m₂) (hv : VRs W acc ys) (hl : acc.length ≤ LEN) (r : Rep Γ W ρ H ((C, oC) :: (D, lst ys) :: (fs ++ fr)) s1.heap)
  (ht : ∀ p ∈ ts, ∃ v y, ρ1 p.2 = some v ∧ m₂ p.1 = some y ∧ VR W v y) (hj : ∀ i, (∀ p ∈ ts, p.2 ≠ i) → ρ1 i = ρ i)
  (e : ((c ρ1 H).bind fun b => if b.1 then (f ρ1 b.2).bind fun p => (if acc.length < LEN then Zca nx put c f ρ k (j + 1) (acc ++ [p.1]) p.2 else none) else Zca nx put c f ρ k (j + 1) acc b.2) = some q) :
  wpAny (model prog w) Γ.A (forIn ifs true fun c r => if r = true then do let ok ← isTrue c (compEnvC scope cl C Γ.env) (eval c (compEnvC scope cl C Γ.env)); pure (ForInStep.yield ok) else pure (ForInStep.yield r)) (fun ok s₃ =>
   if ok = true then wpAny (model prog w) Γ.A (eval elt (compEnvC scope cl C Γ.env)) (fun x s₄ => wpAny (model prog w) Γ.A (call (.builtin "list.append") [.ref D, x]) (fun _ s₅ => ∃ m, m < k + 1 ∧ Ze8 Γ W0 ρ fr C D It nx put c f q s m s₅) E s₄) E s₃
   else ∃ m, m < k + 1 ∧ Ze8 Γ W0 ρ fr C D It nx put c f q s m s₃) E s1 := by
 obtain ⟨h, tk, rfl⟩ := hs
 obtain ⟨b, e1, e⟩ := Zz0.mp e
 obtain ⟨b, H1⟩ := b
 have rc := ZlW (scope := scope) (cl := cl) r aC hC ht hj
 refine hif W ρ1 H _ _ _ E b H1 rc e1 fun W1 k1 t1 l1 r1 => ?_
 cases b with
 | false =>
  obtain ⟨oC', m₃, hC', r2⟩ := r1.fromC
  exact ⟨k, Nat.lt_succ_self k, W1, H1, k1, t1, j + 1, fs, acc, ys, oC', m₃, rfl, l0.trans l1, hit, hC', hv.mono l1, hl, r2, e⟩
 | true => exact Zk7 hel aD (aC (D, lst ys) Zz5) (l0.trans l1) hit (hv.mono l1) r1 e
theorem comp_core {elt iter : Expr} {x : Str} {px : Pos} {ifs : List Expr} {scope : Scope} {pos : Pos} {cl : List (Str × Addr)} {t : Nat} {g : Src} {c : Ts} {f : Ex} (hg : JI prog w Γ iter g) (hel : ∀ C ρ, J prog w (ZaS Γ scope cl C [(x, t)] ρ) elt f) (hif : ∀ C ρ, JF prog w (ZaS Γ scope cl C [(x, t)] ρ) ifs c)
  (hcell : ∀ y ∈ scope.names, y.2 ≠ .cell) (hkind : scope.kind = .function) (hx : scope.names.lookup x = some .local)
  {W : Wd} {ρ : Lc} {H : Hp} {fr : List (Addr × Obj)} {s : Shared} {E : Value → Shared → Prop} {q : List V × Hp} {RR : Value → Addr → Result → Shared → Prop} (r : Rep Γ W ρ H fr s.heap) (hf : ((g ρ H).bind fun z => Zca z.1 (Zaf t) c f ρ z.2.1 0 [] z.2.2) = some q)
  (hR : ∀ (W' : Wd) (h' : Heap) (tk' : Nat) (C D : Addr) (oC : Obj) (m₂ : Str → Option Value) (ys : List Value), W.Le W' → NsObj oC m₂ → VRs W' q.1 ys → q.1.length ≤ LEN → (∀ t ∈ fr, D ≠ t.1) → (∀ t ∈ fr, C ≠ t.1) → C ≠ D → Rep Γ W' ρ q.2 ((C, oC) :: (D, lst ys) :: fr) h' → RR (.ref D) C (.ok .next) { s with heap := h', toks := tk' }) :
  wpAny (model prog w) Γ.A (eval iter Γ.env) (fun xv s₁ => wpAny (model prog w) Γ.A (pyIter xv) (fun it s₂ => wpAny (model prog w) Γ.A (newList []) (fun acc s₃ => wpAny (model prog w) Γ.A (newFunctionEnv scope Γ.env.globals cl [] Γ.env.qual none .none (some Γ.env)) (fun cenv s₄ =>
   codeAny (model prog w) Γ.A (.compStart (.ListComp elt [⟨.Name x px, iter, ifs, 0⟩] scope pos) 0 it acc { cenv with scope := relabel scope Γ.env }) (RR acc cenv.locals) s₄) E s₃) E s₂) E s₁) E s := by
 obtain ⟨z, e1, e2⟩ := Zz0.mp hf
 obtain ⟨nx, n, H0⟩ := z
 refine hg W ρ H fr s _ E nx n H0 r e1 fun W1 k1 t1 itv as It fs l1 i1 r1 ap I1 => ?_
 refine wpAny_newObj_type (wpAny_newFunctionEnv hcell (fun y hy => by simp at hy) (fun h₂ hns hsb => ?_) hkind)
 dsimp only at hns hsb ⊢
 obtain ⟨rD, aD⟩ := r1.more (fs := [(k1.objs.size, lst [])]) (fun b o e => Heap.get?_push_of_some (lst []) e) (fun q hq => by rw [List.mem_singleton.mp hq]; exact ⟨Heap.get?_push_size _ rfl, Nat.le_refl _⟩)
 generalize eH : k1.push { cls := .type "list", dict := none, data := .seq ([] : List Value).toArray } = K at hns hsb ⊢
 have eK : k1.push (lst []) = K := eH
 rw [eK] at rD
 obtain ⟨oC, gC, nC⟩ := ns_obj hns
 have up : ∀ b o, K.get? b = some o → h₂.get? b = some o := fun b o e => hsb.extBut b o (Nat.ne_of_lt (Heap.lt_size e)) (Heap.get?_push_of_some _ e)
 obtain ⟨rC, aC⟩ := rD.more (fs := [(K.objs.size, oC)]) up (fun q hq => by rw [List.mem_singleton.mp hq]; exact ⟨gC, Nat.le_refl _⟩)
 have adr0 := I1.adr 0 fs i1
 have offs : ∀ b ∈ as, b ≠ k1.objs.size ∧ b ≠ K.objs.size := fun b hb => by
  rw [← adr0] at hb
  obtain ⟨q, hq, e⟩ := List.mem_map.mp hb
  exact ⟨e ▸ (aD _ Zz5 q (Zz4 _ hq)).symm, e ▸ (aC _ Zz5 q (Zz3 _ (Zz4 _ hq))).symm⟩
 have cd : K.objs.size ≠ k1.objs.size := aC _ Zz5 (k1.objs.size, lst []) (Zz4 _ Zz5)
 have cfr : ∀ t ∈ fr, K.objs.size ≠ t.1 := fun t ht => aC _ Zz5 t (Zz3 _ (Zz3 _ ht))
 have dfr : ∀ t ∈ fr, k1.objs.size ≠ t.1 := fun t ht => aD _ Zz5 t (Zz3 _ ht)
 generalize k1.objs.size = D at *
 generalize K.objs.size = C at *
 have loop : ∀ s₃ : Shared, s₃ = { s with heap := h₂, toks := t1 + ([] : List (Str × Value)).length } →
   codeAny (model prog w) Γ.A (.compLoop (.ListComp elt [⟨.Name x px, iter, ifs, 0⟩] scope pos) 0 itv (.ref D) (compEnvC scope cl C Γ.env)) (RR (.ref D) C) s₃ := by
  intro s₃ hs₃
  subst hs₃
  refine codeAny_compLoop_tests (Ze8 Γ W1 ρ fr C D It nx (Zaf t) c f q s) ?_ n ⟨W1, H0, h₂, _, 0, fs, [], [], oC, _, rfl, .refl _, i1, nC, .nil, Nat.zero_le _, rC, e2⟩
  rintro k s' ⟨W2, H2, k2, t2, j, fs2, acc, ys, oC2, m₂, rfl, l2, i2, hC2, hv2, hl2, r2, e⟩
  cases k with
  | zero => cases e
  | succ k =>
   obtain ⟨o, e4, e⟩ := Zz0.mp e
   have r2' : Rep Γ W2 ρ H2 (fs2 ++ ((C, oC2) :: (D, lst ys) :: fr)) k2 := r2.less fun q hq => by
    rcases List.mem_append.mp hq with hq | hq
    ·exact Zz2 _ (Zz2 _ (Zz4 _ hq))
    ·rcases List.mem_cons.mp hq with e | hq
     ·exact e ▸ List.mem_cons_self
     ·rcases List.mem_cons.mp hq with e | hq
      ·exact e ▸ List.mem_cons_of_mem _ Zz5
      ·exact Zz2 _ (Zz2 _ (Zz3 _ hq))
   have ap2 : ∀ b ∈ as, ∀ t ∈ (C, oC2) :: (D, lst ys) :: fr, b ≠ t.1 := fun b hb t ht => by
    rcases List.mem_cons.mp ht with e | ht
    ·rw [e]
     exact (offs b hb).2
    ·rcases List.mem_cons.mp ht with e | ht
     ·rw [e]
      exact (offs b hb).1
     ·exact ap b hb t ht
   refine I1.next j W2 ρ H2 _ fs2 _ _ _ o l2 r2' ap2 i2 e4 ?_
   cases o with
   | none =>
    cases e
    intro h' tk' r3
    exact hR W2 h' tk' C D oC2 m₂ ys (l1.trans l2) hC2 hv2 hl2 dfr cfr cd r3
   | some v =>
    intro fs3 k3 t3 y i3 r3 y3
    obtain ⟨ρ3, e5, e⟩ := Zz0.mp e
    cases e5
    have a3 : ∀ t ∈ fs3, t.1 ∈ as := fun t ht => by
     rw [← I1.adr _ _ i3]
     exact List.mem_map_of_mem ht
    have gC3 : k3.get? C = some oC2 := r3.frAt (q := (C, oC2)) (Zz3 _ Zz5)
    have nC3 : k3.Ns C m₂ := hC2.ns gC3
    refine wpAny_assign_Name (wpAny_storeName_local (lookup_relabel_local hx) nC3 (fun h4 hn4 sb4 => ?_) (by simp [compEnvC, relabel, hkind]))
    obtain ⟨oC4, gC4, nC4⟩ := ns_obj hn4
    have r3' : Rep Γ W2 ρ H2 ([(C, oC2)] ++ ((D, lst ys) :: (fs3 ++ fr))) k3 := r3.less fun q hq => by
     rcases List.mem_append.mp hq with hq | hq
     ·rw [List.mem_singleton.mp hq]
      exact Zz3 _ Zz5
     ·rcases List.mem_cons.mp hq with e | hq
      ·exact e ▸ List.mem_append_right _ (Zz2 _ Zz5)
      ·rcases List.mem_append.mp hq with hq | hq
       ·exact Zz4 _ hq
       ·exact Zz3 _ (Zz2 _ (Zz2 _ hq))
    have aC3 : ∀ t ∈ (D, lst ys) :: (fs3 ++ fr), C ≠ t.1 := fun t ht => by
     rcases List.mem_cons.mp ht with e | ht
     ·rw [e]
      exact cd
     ·rcases List.mem_append.mp ht with ht | ht
      ·exact (offs _ (a3 t ht)).2.symm
      ·exact cfr t ht
    have aD3 : ∀ t ∈ fs3 ++ fr, D ≠ t.1 := fun t ht => by
     rcases List.mem_append.mp ht with ht | ht
     ·exact (offs _ (a3 t ht)).1.symm
     ·exact dfr t ht
    have r4 : Rep Γ W2 ρ H2 ([(C, oC4)] ++ ((D, lst ys) :: (fs3 ++ fr))) h4 := by
     refine r3'.swap (fun q hq t ht => ?_) (fun b o hb e => sb4.extBut b o (fun z => hb (by simp [z, compEnvC])) e) fun q hq => ?_
     ·rw [List.mem_singleton.mp hq]
      exact aC3 t ht
     ·rw [List.mem_singleton.mp hq]
      exact ⟨gC4, by simp⟩
    refine Zpx (hel C ρ) (hif C ρ) ⟨h4, _, rfl⟩ aC3 aD3 l2 i3 nC4 hv2 hl2 r4 (fun p hp => ?_) (fun i hi => ?_) e
    ·rw [List.mem_singleton.mp hp]
     exact ⟨v, y, by simp [upd], by simp, y3⟩
    ·have : i ≠ t := fun e => hi (x, t) Zz5 e.symm
     simp [upd, this]
 refine codeAny_compStart_list (loop _ rfl) ?_
 exact I1.self 0 W1 ρ H0 (([(C, oC)] ++ [(D, lst [])]) ++ fr) fs _ _ _ (.refl _) (rC.less fun q hq => by
  rcases List.mem_append.mp hq with hq | hq
  ·exact Zz3 _ (Zz3 _ (Zz4 _ hq))
  ·rcases List.mem_append.mp hq with hq | hq
   ·rcases List.mem_append.mp hq with hq | hq
    ·exact Zz4 _ hq
    ·exact Zz3 _ (Zz4 _ hq)
   ·exact Zz3 _ (Zz3 _ (Zz3 _ hq))) i1 (loop _ rfl)
theorem Zlp {W : Wd} {ρ : Lc} {q : List V × Hp} {fr : List (Addr × Obj)} {C D : Addr} {oC : Obj} {ys : List Value} {h' h'' : Heap} (hv : VRs W q.1 ys) (hl : q.1.length ≤ LEN) (aD : ∀ t ∈ fr, D ≠ t.1) (aC : ∀ t ∈ fr, C ≠ t.1) (cd : C ≠ D) (r : Rep Γ W ρ q.2 ((C, oC) :: (D, lst ys) :: fr) h') (sb : Heap.SameBut C h' h'') :
  ∃ W', W.Le W' ∧ Rep Γ W' ρ (q.2 ++ [q.1]) fr h'' ∧ VR W' (.ref q.2.length) (.ref D) := by
 have r4 : Rep Γ W ρ q.2 ([] ++ ((D, lst ys) :: fr)) h'' := by
  refine Rep.swap (fs := [(C, oC)]) (fs' := []) r (fun q hq t ht => ?_) (fun b o hb e => sb.extBut b o (fun z => hb (by simp [z])) e) fun q hq => nomatch hq
  rw [List.mem_singleton.mp hq]
  rcases List.mem_cons.mp ht with e | ht
  ·rw [e]
   exact cd
  ·exact aC t ht
 exact Zey r4 aD hv hl
theorem Zq8 {elt iter : Expr} {x : Str} {px : Pos} {ifs : List Expr} {scope : Scope} {pos : Pos} {cl : List (Str × Addr)} {t : Nat} {g : Src} {c : Ts} {f : Ex} (hg : JI prog w Γ iter g) (hel : ∀ C ρ, J prog w (ZaS Γ scope cl C [(x, t)] ρ) elt f) (hif : ∀ C ρ, JF prog w (ZaS Γ scope cl C [(x, t)] ρ) ifs c)
  (hclos : closureFor scope Γ.env = pure cl) (hcell : ∀ y ∈ scope.names, y.2 ≠ .cell) (hkind : scope.kind = .function) (hnames : ∀ y ∈ scope.names, y.2 = .local → scope.names.lookup y.1 = some .local) (hx : scope.names.lookup x = some .local) (hs : ∀ x, foldedSetIterable iter Γ.env x = pure x := by intro _; rfl) :
  J prog w Γ (.ListComp elt [⟨.Name x px, iter, ifs, 0⟩] scope pos) (Zao g (Zaf t) c f) := by
 intro W ρ H fr s Q E v H' r hf post
 obtain ⟨z, e1, hf⟩ := Zz0.mp hf
 obtain ⟨q, e2, e3⟩ := Zz1.mp hf
 cases e3
 rw [eval_ListComp]
 refine wpAny_comprehension_free (use := Option.none) rfl hs hclos hkind hnames ?_
 refine comp_core (RR := fun acc C => compPost (model prog w) Γ.A E Option.none Q acc C) hg hel hif hcell hkind hx r (q := q) (by rw [e1]; exact e2) fun W2 h' tk' C D oC m₂ ys l2 hC hv hl aD aC cd r3 => ?_
 refine ⟨m₂, hC.ns (r3.frAt (q := (C, oC)) Zz5), fun h'' sb => ?_⟩
 obtain ⟨W5, l5, r5, v5⟩ := Zlp hv hl aD aC cd r3 sb
 exact post W5 h'' tk' _ (l2.trans l5) r5 v5
theorem Zom {elt iter : Expr} {x y : Str} {px py pos spos : Pos} {ifs : List Expr} {scope : Scope} {cl : List (Str × Addr)} {t i : Nat} {g : Src} {c : Ts} {f : Ex} (hy : Sto prog w Γ y i) (hg : JI prog w Γ iter g) (hel : ∀ C ρ, J prog w (ZaS Γ scope cl C [(x, t)] ρ) elt f) (hif : ∀ C ρ, JF prog w (ZaS Γ scope cl C [(x, t)] ρ) ifs c)
  (hsw : swapsWith (.ListComp elt [⟨.Name x px, iter, ifs, 0⟩] scope pos) (some (.Name y py)) spos.line Γ.env = pure true)
  (hclos : closureFor scope Γ.env = pure cl) (hcell : ∀ y ∈ scope.names, y.2 ≠ .cell) (hkind : scope.kind = .function) (hnames : ∀ y ∈ scope.names, y.2 = .local → scope.names.lookup y.1 = some .local) (hx : scope.names.lookup x = some .local) (hs : ∀ x, foldedSetIterable iter Γ.env x = pure x := by intro _; rfl) :
  S1 prog w Γ (.Assign [.Name y py] (.ListComp elt [⟨.Name x px, iter, ifs, 0⟩] scope pos) spos) (ZN i (Zao g (Zaf t) c f)) := by
 intro W ρ H fr s Q E r rp hf post
 obtain ⟨p, e0, e9⟩ := Zz1.mp hf
 cases e9
 obtain ⟨z, e1, hf⟩ := Zz0.mp e0
 obtain ⟨q, e2, e3⟩ := Zz1.mp hf
 cases e3
 rw [exec_Assign_Name_used _ _ _ _ hsw]
 refine wpAny_bind (wpAny_standAt (wpAny_bind ?_))
 show wpAny _ Γ.A (do let _ ← comprehension (.ListComp elt [⟨.Name x px, iter, ifs, 0⟩] scope pos) scope Γ.env _ (newList []) false (eval iter Γ.env) (some (assign (.Name y py) Γ.env))) _ _ s
 refine wpAny_bind (wpAny_mono (wpAny_comprehension_free (use := some (assign (.Name y py) Γ.env)) (Q := fun _ s' => Q .next s') rfl hs hclos hkind hnames ?_) (fun _ s' h' => wpAny_pure (wpAny_pure h')) fun _ _ e => e)
 refine comp_core (RR := fun acc C => compPost (model prog w) Γ.A E (some (assign (.Name y py) Γ.env)) (fun _ s' => Q .next s') acc C) hg hel hif hcell hkind hx rp (q := q) (by rw [e1]; exact e2) fun W2 h' tk' C D oC m₂ ys l2 hC hv hl aD aC cd r3 => ?_
 have r4 : Rep Γ W2 ρ q.2 ((D, lst ys) :: (C, oC) :: fr) h' := r3.less fun t ht => by
  rcases List.mem_cons.mp ht with e | ht
  ·exact e ▸ List.mem_cons_of_mem _ Zz5
  ·rcases List.mem_cons.mp ht with e | ht
   ·exact e ▸ List.mem_cons_self
   ·exact Zz2 _ (Zz2 _ ht)
 obtain ⟨W5, l5, r5, v5⟩ := Zey r4 (fun t ht => by
  rcases List.mem_cons.mp ht with e | ht
  ·rw [e]
   exact cd.symm
  ·exact aD t ht) hv hl
 refine wpAny_assign_Name (hy W5 ρ _ _ _ _ _ _ _ r5 v5 fun h6 t6 r6 => ?_)
 refine ⟨m₂, hC.ns (r6.frAt (q := (C, oC)) Zz5), fun h'' sb => ?_⟩
 have r7 : Rep Γ W5 (upd ρ i (.ref q.2.length)) (q.2 ++ [q.1]) ([] ++ fr) h'' :=
  Rep.swap (fs := [(C, oC)]) (fs' := []) r6 (fun q hq t ht => by rw [List.mem_singleton.mp hq]; exact aC t ht) (fun b o hb e => sb.extBut b o (fun z => hb (by simp [z])) e) fun q hq => nomatch hq
 exact post W5 h'' t6 (l2.trans l5) r7
end
end PM
end
section
set_option maxRecDepth 100000
set_option linter.all false
set_option autoImplicit false
namespace PM
open PySem PySem.W PySem.Calls PyProof.Rows PyProof PyProof.Rows.LCg PyProof.Rows.LCp
theorem Zkr (h : Heap) : ∀ as : List Addr, (∀ a ∈ as, ∃ o, h.get? a = some o) → ∃ fs : List (Addr × Obj), fs.map (·.1) = as ∧ ∀ q ∈ fs, h.get? q.1 = some q.2
 | [], _ => ⟨[], rfl, fun q hq => nomatch hq⟩
 | a :: as, d => by
  obtain ⟨o, ho⟩ := d a Zz5
  obtain ⟨fs, h1, h2⟩ := Zkr h as fun b hb => d b (Zz2 _ hb)
  refine ⟨(a, o) :: fs, by rw [List.map_cons, h1], fun q hq => ?_⟩
  rcases List.mem_cons.mp hq with e | hq
  ·rw [e]
   exact ho
  ·exact h2 q hq
structure Itr2 (prog : Program) (w : World) (Γ : Cx) (W0 : Wd) (it : Value) (as : List Addr) (It : Nat → List (Addr × Obj) → Prop) (nx : Nx) : Prop where
 adr : ∀ i fs, It i fs → fs.map (·.1) = as
 pair : ∀ i H v, nx i H = some (some v) → ∃ a b, v = .tup [a, b]
 item : ∀ (i : Nat) (W : Wd) (ρ : Lc) (H : Hp) (fr fs : List (Addr × Obj)) (s : Shared) (Q : Option Value → Shared → Prop) (E : Value → Shared → Prop) (a b : V), W0.Le W → Rep Γ W ρ H (fs ++ fr) s.heap → (∀ a ∈ as, ∀ t ∈ fr, a ≠ t.1) → It i fs → nx i H = some (some (.tup [a, b])) →
  (∀ (T : Addr) (h1 : Heap) (t1 : Nat) , (∀ (elts : List Expr) (k : Nat) (pos : Pos) (s1 : Shared) (Q1 : Unit → Shared → Prop) (E1 : Value → Shared → Prop), s1 = { s with heap := h1, toks := t1 } →
    (∀ (fs' : List (Addr × Obj)) (h' : Heap) (x y : Value), It (i + 1) fs' → Rep Γ W ρ H (fs' ++ fr) h' → IsTup h' T #[x, y] → VR W a x → VR W b y → Q1 () { s with heap := h', toks := t1 }) → wpAny (model prog w) Γ.A (letOwnedTupleGo (.Tuple elts k pos) it (.ref T)) Q1 E1 s1) → Q (some (.ref T)) { s with heap := h1, toks := t1 }) → wpAny (model prog w) Γ.A (pyNext it) Q E s
 done : ∀ (i : Nat) (W : Wd) (ρ : Lc) (H : Hp) (fr fs : List (Addr × Obj)) (s : Shared) (Q : Option Value → Shared → Prop) (E : Value → Shared → Prop), W0.Le W → Rep Γ W ρ H (fs ++ fr) s.heap → (∀ a ∈ as, ∀ t ∈ fr, a ≠ t.1) → It i fs → nx i H = some none →
  (∀ (h' : Heap) (tk' : Nat), Rep Γ W ρ H fr h' → Q none { s with heap := h', toks := tk' }) → wpAny (model prog w) Γ.A (pyNext it) Q E s
 self : ∀ (i : Nat) (W : Wd) (ρ : Lc) (H : Hp) (fr fs : List (Addr × Obj)) (s : Shared) (Q E : Value → Shared → Prop) (o : Option V), W0.Le W → Rep Γ W ρ H (fs ++ fr) s.heap → It i fs → nx i H = some o → Q it s → wpAny (model prog w) Γ.A (pyIter it) Q E s
noncomputable def JI2 (prog : Program) (w : World) (Γ : Cx) (e : Expr) (g : Src) : Prop := ∀ (W : Wd) (ρ : Lc) (H : Hp) (fr : List (Addr × Obj)) (s : Shared) (Q E : Value → Shared → Prop) (nx : Nx) (n : Nat) (H' : Hp),
 Rep Γ W ρ H fr s.heap → g ρ H = some (nx, n, H') →
 (∀ (W' : Wd) (h' : Heap) (tk' : Nat) (it : Value) (as : List Addr) (It : Nat → List (Addr × Obj) → Prop) (fs : List (Addr × Obj)), W.Le W' → It 0 fs → Rep Γ W' ρ H' (fs ++ fr) h' → (∀ a ∈ as, ∀ t ∈ fr, a ≠ t.1) → Itr2 prog w Γ W' it as It nx → (∃ o, nx 0 H' = some o) → Q it { s with heap := h', toks := tk' }) →
 wpAny (model prog w) Γ.A (eval e Γ.env) (fun xv s₁ => wpAny (model prog w) Γ.A (pyIter xv) Q E s₁) E s
noncomputable def ZeY (a b : Nat) : Nx := fun i H => H[a]?.bind fun vs => H[b]?.bind fun us => match vs[i]?, us[i]? with
 | some x, some y => some (some (.tup [x, y]))
 | _, _ => if i = min vs.length us.length then some none else none
noncomputable def ZcT (f g : Ex) : Src := fun ρ H => (f ρ H).bind fun p => (g ρ p.2).bind fun q => match p.1, q.1 with
 | .ref a, .ref b => q.2[a]?.bind fun vs => q.2[b]?.map fun us => (ZeY a b, min vs.length us.length + 1, q.2)
 | _, _ => none
noncomputable def ZbO (i j : Nat) : V → Lc → Option Lc
 | .tup [a, b], ρ => some (upd (upd ρ i a) j b)
 | _, _ => none
noncomputable def ZS (z TI TO i1 i2 l1 l2 : Addr) (i : Nat) (h : Heap) : Prop := IsZip h z TI TO .none ∧ PySem.IsPair h TI (.ref i1) (.ref i2) ∧ (∃ a b, PySem.IsPair h TO a b) ∧ h.IsListIter i1 l1 i ∧ h.IsListIter i2 l2 i
theorem ZS.at {z TI TO i1 i2 l1 l2 : Addr} {i : Nat} {h h' : Heap} (x : ZS z TI TO i1 i2 l1 l2 i h) (e : ∀ a ∈ [z, TI, TO, i1, i2], ∀ o, h.get? a = some o → h'.get? a = some o) : ZS z TI TO i1 i2 l1 l2 i h' := by
 obtain ⟨h1, h2, ⟨a, b, h3⟩, h4, h5⟩ := x
 exact ⟨e z (by simp) _ h1, e TI (by simp) _ h2, ⟨a, b, e TO (by simp) _ h3⟩, h4.at fun o x => e i1 (by simp) o x, h5.at fun o x => e i2 (by simp) o x⟩
theorem ZS.have {z TI TO i1 i2 l1 l2 : Addr} {i : Nat} {h : Heap} (x : ZS z TI TO i1 i2 l1 l2 i h) : ∀ a ∈ [z, TI, TO, i1, i2], ∃ o, h.get? a = some o := by
 obtain ⟨h1, h2, ⟨a, b, h3⟩, ⟨o4, h4, _⟩, ⟨o5, h5, _⟩⟩ := x
 intro c hc
 simp only [List.mem_cons, List.not_mem_nil, or_false] at hc
 rcases hc with e | e | e | e | e <;> subst e
 ·exact ⟨_, h1⟩
 ·exact ⟨_, h2⟩
 ·exact ⟨_, h3⟩
 ·exact ⟨_, h4⟩
 ·exact ⟨_, h5⟩
noncomputable def ZIt (z TI TO i1 i2 l1 l2 : Addr) (i : Nat) (fs : List (Addr × Obj)) : Prop := fs.map (·.1) = [z, TI, TO, i1, i2] ∧ ∀ h : Heap, (∀ q ∈ fs, h.get? q.1 = some q.2) → ZS z TI TO i1 i2 l1 l2 i h
theorem ZlX {z TI TO i1 i2 l1 l2 : Addr} {i : Nat} {h : Heap} (x : ZS z TI TO i1 i2 l1 l2 i h) : ∃ fs, ZIt z TI TO i1 i2 l1 l2 i fs ∧ ∀ q ∈ fs, h.get? q.1 = some q.2 := by
 obtain ⟨fs, h1, h2⟩ := Zkr h [z, TI, TO, i1, i2] x.have
 refine ⟨fs, ⟨h1, fun h' e => x.at fun a ha o ho => ?_⟩, h2⟩
 rw [← h1] at ha
 obtain ⟨q, hq, eq⟩ := List.mem_map.mp ha
 have := h2 q hq
 rw [eq, ho] at this
 cases this
 exact eq ▸ e q hq
section
variable {prog : Program} {w : World} {Γ : Cx}
theorem Zq9 {W0 : Wd} {z TI TO i1 i2 l1 l2 : Addr} {a b : Nat} (ea : W0.pi[a]? = some l1) (eb : W0.pi[b]? = some l2) (D : ZipApart z TI TO i1 i2 l1 l2) :
  Itr2 prog w Γ W0 (.ref z) [z, TI, TO, i1, i2] (ZIt z TI TO i1 i2 l1 l2) (ZeY a b) := by
 refine ⟨fun i fs h => h.1, ?_, ?_, ?_, ?_⟩
 ·intro i H v e
  obtain ⟨vs, e1, e⟩ := Zz0.mp e
  obtain ⟨us, e2, e⟩ := Zz0.mp e
  split at e
  ·cases e
   exact ⟨_, _, rfl⟩
  ·split at e <;> cases e
 ·intro i W ρ H fr fs s Q E va vb le r ap hit hn post
  obtain ⟨vs, e1, e⟩ := Zz0.mp hn
  obtain ⟨us, e2, e⟩ := Zz0.mp e
  have hvu : vs[i]? = some va ∧ us[i]? = some vb := by
   split at e
   ·rename_i x y h1 h2
    cases e
    exact ⟨h1, h2⟩
   ·split at e <;> cases e
  obtain ⟨_, xs, k1, g1, v1⟩ := r.at e1 (le.at ea)
  obtain ⟨_, ys, k2, g2, v2⟩ := r.at e2 (le.at eb)
  obtain ⟨x, hx, rx⟩ := v1.at hvu.1
  obtain ⟨y, hy, ry⟩ := v2.at hvu.2
  have st : ZS z TI TO i1 i2 l1 l2 i s.heap := hit.2 _ fun q hq => r.frAt (Zz4 _ hq)
  have Wk := WalksT.zip2 (prog := prog) (w := w) (A := Γ.A) Γ.hh z TI TO i1 i2 l1 l2 D xs.toArray ys.toArray
  have isl1 : s.heap.IsList l1 xs.toArray := ⟨_, g1, rfl, k1, rfl⟩
  have isl2 : s.heap.IsList l2 ys.toArray := ⟨_, g2, rfl, k2, rfl⟩
  have hi : i < min xs.toArray.size ys.toArray.size := by
   have h1 := (Zz6.mp hx).1
   have h2 := (Zz6.mp hy).1
   simp
   omega
  refine Wk.item i s Q E hi ⟨st.1, st.2.1, st.2.2.1, st.2.2.2.1, st.2.2.2.2, isl1, isl2⟩ fun T vals h1 t1 hp hT hTup hmid keep1 => post T h1 t1 ?_
  intro elts k pos s1 Q1 E1 es1 q1
  subst es1
  have hTw := Wk.apart i T _ hmid
  refine Wk.go elts k pos i T _ Q1 E1 hmid fun h2 st2 keep2 => ?_
  obtain ⟨x', y', hx', hy', ev⟩ := hp
  have ex : x' = x := by
   have : xs[i]? = some x' := by simpa using hx'
   rw [hx] at this
   exact (Option.some.inj this).symm
  have ey : y' = y := by
   have : ys[i]? = some y' := by simpa using hy'
   rw [hy] at this
   exact (Option.some.inj this).symm
  subst ex ey ev
  obtain ⟨fs', hit', at'⟩ := ZlX (h := h2) (⟨st2.1, st2.2.1, st2.2.2.1, st2.2.2.2.1, st2.2.2.2.2.1⟩ : ZS z TI TO i1 i2 l1 l2 (i + 1) h2)
  obtain ⟨oT, gT, cT, nT, dT⟩ := hTup
  refine q1 fs' h2 x' y' hit' ?_ ⟨oT, keep2 T oT hTw gT, cT, nT, dT⟩ rx ry
  refine r.swap (fs' := fs') (fun q hq t ht => ?_) (fun c o hc e => ?_) fun q hq => ⟨at' q hq, ?_⟩
  ·exact ap _ (hit.1 ▸ List.mem_map_of_mem hq) t ht
  ·rw [hit.1] at hc
   have hcw : c ∉ [z, TO, i1, i2] := fun h => hc (by simp at h ⊢; rcases h with h | h | h | h <;> simp [h])
   exact keep2 c o hcw (keep1 c o hcw e)
  ·rw [hit.1, ← hit'.1]
   exact List.mem_map_of_mem hq
 ·intro i W ρ H fr fs s Q E le r ap hit hn post
  obtain ⟨vs, e1, e⟩ := Zz0.mp hn
  obtain ⟨us, e2, e⟩ := Zz0.mp e
  obtain ⟨_, xs, k1, g1, v1⟩ := r.at e1 (le.at ea)
  obtain ⟨_, ys, k2, g2, v2⟩ := r.at e2 (le.at eb)
  have hi : i = min vs.length us.length := by
   split at e
   ·cases e
   ·split at e
    ·assumption
    ·cases e
  have st : ZS z TI TO i1 i2 l1 l2 i s.heap := hit.2 _ fun q hq => r.frAt (Zz4 _ hq)
  have Wk := WalksT.zip2 (prog := prog) (w := w) (A := Γ.A) Γ.hh z TI TO i1 i2 l1 l2 D xs.toArray ys.toArray
  have hm : min xs.toArray.size ys.toArray.size = i := by simp [v1.length, v2.length, hi]
  refine Wk.done s Q E (by rw [hm]; exact ⟨st.1, st.2.1, st.2.2.1, st.2.2.2.1, st.2.2.2.2, ⟨_, g1, rfl, k1, rfl⟩, ⟨_, g2, rfl, k2, rfl⟩⟩) fun h' tk keep => post h' tk ?_
  have := r.swap (fs' := []) (fun q hq t ht => ap _ (hit.1 ▸ List.mem_map_of_mem hq) t ht) (fun c o hc e => keep c o (fun h => hc (by rw [hit.1]; simp at h ⊢; rcases h with h | h | h | h <;> simp [h])) e) (fun q hq => nomatch hq)
  exact this
 ·intro i W ρ H fr fs s Q E o le r hit hn q
  obtain ⟨vs, e1, e⟩ := Zz0.mp hn
  obtain ⟨us, e2, e⟩ := Zz0.mp e
  obtain ⟨_, xs, k1, g1, v1⟩ := r.at e1 (le.at ea)
  obtain ⟨_, ys, k2, g2, v2⟩ := r.at e2 (le.at eb)
  have st : ZS z TI TO i1 i2 l1 l2 i s.heap := hit.2 _ fun q hq => r.frAt (Zz4 _ hq)
  have Wk := WalksT.zip2 (prog := prog) (w := w) (A := Γ.A) Γ.hh z TI TO i1 i2 l1 l2 D xs.toArray ys.toArray
  exact Wk.self i s Q E ⟨st.1, st.2.1, st.2.2.1, st.2.2.2.1, st.2.2.2.2, ⟨_, g1, rfl, k1, rfl⟩, ⟨_, g2, rfl, k2, rfl⟩⟩ q
theorem JI2.zip {x : Str} {np pos : Pos} {e1 e2 : Expr} {f g : Ex} (hn : Nm prog w Γ x (.type "zip")) (h1 : J prog w Γ e1 f) (h2 : J prog w Γ e2 g)
  (he : starEach [e1, e2] Γ.env = (false, eval e1 Γ.env) :: starEach [e2] Γ.env := by rfl) (he2 : starEach [e2] Γ.env = (false, eval e2 Γ.env) :: starEach [] Γ.env := by rfl) (hp : ∀ pos, (backTo pos (starEach [e2] Γ.env)).any (·.1) = false := by intro _; rfl) : JI2 prog w Γ (.Call (.Name x np) [e1, e2] [] pos) (ZcT f g) := by
 intro W ρ H fr s Q E nx n H' r hf post
 obtain ⟨p, a1, hf⟩ := Zz0.mp hf
 obtain ⟨q, a2, hf⟩ := Zz0.mp hf
 refine wpAny_Call_ofName (hn.use r ?_)
 refine PySem.Pv.callWith_type1 (wpAny_items_cons (h1 W ρ H fr s _ E _ _ r a1 fun W1 k1 t1 y1 l1 r1 v1 => ?_) he) he (hp pos)
 refine wpAny_items_cons (h2 W1 ρ _ fr _ _ E _ _ r1 a2 fun W2 k2 t2 y2 l2 r2 v2 => wpAny_items_nil ?_) he2
 have v1' := v1.mono l2
 obtain ⟨u1, H1⟩ := p
 obtain ⟨u2, H2⟩ := q
 simp only at hf v1' v2 r2
 cases u1 <;> first | (cases hf; done) | skip
 rename_i b1
 cases u2 <;> first | (cases hf; done) | skip
 rename_i b2
 obtain ⟨vs, c1, hf⟩ := Zz0.mp hf
 obtain ⟨us, c2, c3⟩ := Zz1.mp hf
 cases c3
 cases v1' with
 | @ref _ m1 ea =>
 cases v2 with
 | @ref _ m2 eb =>
 obtain ⟨_, xs, n1, g1, w1⟩ := r2.at c1 ea
 obtain ⟨_, ys, n2, g2, w2⟩ := r2.at c2 eb
 have isl1 : k2.IsList m1 xs.toArray := ⟨_, g1, rfl, n1, rfl⟩
 have isl2 : k2.IsList m2 ys.toArray := ⟨_, g2, rfl, n2, rfl⟩
 refine call_zip_2 (s := { s with heap := k2, toks := t2 }) isl1 isl2 fun h₁ hz hTI hTO hi1 hi2 hsz up => ?_
 have ap := zipApart_new (n := k2.objs.size) (Heap.lt_size g1) (Heap.lt_size g2)
 have Wk := WalksT.zip2 (prog := prog) (w := w) (A := Γ.A) Γ.hh _ _ _ _ _ m1 m2 ap xs.toArray ys.toArray
 have zs : ZS (k2.objs.size + 4) (k2.objs.size + 2) (k2.objs.size + 3) k2.objs.size (k2.objs.size + 1) m1 m2 0 h₁ := ⟨hz, hTI, ⟨_, _, hTO⟩, hi1, hi2⟩
 refine Wk.self 0 _ _ _ ⟨hz, hTI, ⟨_, _, hTO⟩, hi1, hi2, isl1.at fun o e => up _ o e, isl2.at fun o e => up _ o e⟩ ?_
 obtain ⟨fs, hit, at'⟩ := ZlX zs
 obtain ⟨r3, ap3⟩ := r2.more (fs := fs) (h' := h₁) (fun b o e => up b o e) (fun q hq => ⟨at' q hq, by
  have : q.1 ∈ fs.map (·.1) := List.mem_map_of_mem hq
  rw [hit.1] at this
  simp at this
  rcases this with e | e | e | e | e <;> rw [e] <;> omega⟩)
 refine post W2 h₁ t2 _ _ _ fs (l1.trans l2) hit r3 (fun b hb t ht => ?_) (Zq9 ea eb ap) ?_
 ·rw [← hit.1] at hb
  obtain ⟨q, hq, e⟩ := List.mem_map.mp hb
  exact e ▸ ap3 q hq t ht
 ·simp only [ZeY, c1, c2, Option.bind_some]
  split
  ·exact ⟨_, rfl⟩
  ·rename_i hno
   have : 0 = min vs.length us.length := by
    rcases Nat.eq_zero_or_pos vs.length with z | z
    ·rw [z]; simp
    ·rcases Nat.eq_zero_or_pos us.length with z' | z'
     ·rw [z']; simp
     ·exact (hno vs[0] us[0] (by simp [z]) (by simp [z'])).elim
   rw [if_pos this]
   exact ⟨_, rfl⟩
theorem Zqa {x1 x2 : Str} {i1 i2 kt : Nat} {p1 p2 tp : Pos} (h1 : Sto prog w Γ x1 i1) (h2 : Sto prog w Γ x2 i2) {W : Wd} {ρ : Lc} {H : Hp} {fr : List (Addr × Obj)} {s : Shared} {Q : Unit → Shared → Prop} {E : Value → Shared → Prop} {T : Addr} {y1 y2 : Value} {a b : V} (r : Rep Γ W ρ H fr s.heap) (ht : IsTup s.heap T #[y1, y2]) (v1 : VR W a y1) (v2 : VR W b y2)
  (post : ∀ (h' : Heap) (tk' : Nat), Rep Γ W (upd (upd ρ i1 a) i2 b) H fr h' → Q () { s with heap := h', toks := tk' }) : wpAny (model prog w) Γ.A (assign (.Tuple [.Name x1 p1, .Name x2 p2] kt tp) Γ.env (.ref T)) Q E s := by
 refine assign_Tuple_tuple Γ.hh ht rfl rfl fun g₄ he => ?_
 have r4 := r.grown (h' := g₄) fun b o e => he b o (Nat.ne_of_lt (Heap.lt_size e)) e
 refine assignInOrder_cons (wpAny_assign_Name (h1 W ρ H fr _ _ _ a y1 r4 v1 fun k5 t5 r5 => ?_))
 refine assignInOrder_cons (wpAny_assign_Name (h2 W _ H fr _ _ _ b y2 r5 v2 fun k6 t6 r6 => ?_))
 exact assignInOrder_nil (post k6 t6 r6)
theorem Zf7 {x1 x2 : Str} {i1 i2 kt : Nat} {p1 p2 tp pos : Pos} {it : Expr} {body : List Stmt} {g : Src} {b : Sm} (h1 : Sto prog w Γ x1 i1) (h2 : Sto prog w Γ x2 i2) (hg : JI2 prog w Γ it g) (hb : Ss prog w Γ body b) (hs : ∀ x, foldedSetIterable it Γ.env x = pure x := by intro _; rfl) :
  S1 prog w Γ (.For (.Tuple [.Name x1 p1, .Name x2 p2] kt tp) it body [] pos) (ZaQ g (ZbO i1 i2) b) := by
 intro W ρ H fr s Q E r rp hf post
 obtain ⟨z, e1, hf⟩ := Zz0.mp hf
 obtain ⟨nx, n, H0⟩ := z
 refine wpAny_For (hg W ρ H fr s _ E nx n H0 rp e1 fun W1 k1 t1 itv as It fs l1 j1 r1 ap I1 _ => ?_) hs
 refine codeAny_forLoop_any (fun k s' => ∃ W' ρ' H' h' tk' j fs', s' = { s with heap := h', toks := tk' } ∧ W1.Le W' ∧ It j fs' ∧ Rep Γ W' ρ' H' (fs' ++ fr) h' ∧ ZcB nx (ZbO i1 i2) b k j ρ' H' = some r) ?_ n ⟨W1, ρ, H0, k1, t1, 0, fs, rfl, .refl _, j1, r1, hf⟩
 rintro k s' ⟨W2, ρ2, H2, k2, t2, j, fs2, rfl, l2, j2, r2, e⟩
 cases k with
 | zero => cases e
 | succ k =>
  obtain ⟨o, e2, e⟩ := Zz0.mp e
  cases o with
  | none =>
   cases e
   exact I1.done j W2 ρ2 H2 fr fs2 _ _ _ l2 r2 ap j2 e2 fun h' tk' r3 => wpAny_execs_nil (post W2 h' tk' (l1.trans l2) r3)
  | some v =>
   obtain ⟨va, vb, ev⟩ := I1.pair j H2 v e2
   subst ev
   refine I1.item j W2 ρ2 H2 fr fs2 _ _ _ va vb l2 r2 ap j2 e2 fun T h3 t3 go => ?_
   obtain ⟨ρ3, e3, e⟩ := Zz0.mp e
   cases e3
   obtain ⟨q, e4, e⟩ := Zz0.mp e
   refine go _ _ _ _ _ _ rfl fun fs3 k3 y1 y2 j3 r3 ht w1 w2 => ?_
   refine Zqa h1 h2 (s := { s with heap := k3, toks := t3 }) r3 ht w1 w2 fun k4 t4 r4 => ?_
   refine hb W2 _ H2 (fs3 ++ fr) _ _ _ q r4 e4 ?_
   obtain ⟨u, ρ5, H5⟩ := q
   cases u with
   | some u =>
    cases e
    exact fun W5 k5 t5 x5 l5 r5 v5 => post W5 k5 t5 x5 ((l1.trans l2).trans l5) (r5.less fun q hq => List.mem_append_right _ hq) v5
   | none => exact fun W5 k5 t5 l5 r5 => ⟨k, Nat.lt_succ_self k, W5, ρ5, H5, k5, t5, j + 1, fs3, rfl, l2.trans l5, j3, r5, e⟩
theorem ZkS {elt iter : Expr} {x x₂ : Str} {px px₂ tp : Pos} {kt : Nat} {scope : Scope} {pos : Pos} {cl : List (Str × Addr)} {t t₂ : Nat} {g : Src} {f : Ex} (hg : JI2 prog w Γ iter g) (hel : ∀ C ρ, J prog w (ZaS Γ scope cl C [(x, t), (x₂, t₂)] ρ) elt f)
  (hcell : ∀ y ∈ scope.names, y.2 ≠ .cell) (hkind : scope.kind = .function) (hx : scope.names.lookup x = some .local) (hx₂ : scope.names.lookup x₂ = some .local) (hxx : x ≠ x₂) (htt : t ≠ t₂)
  {W : Wd} {ρ : Lc} {H : Hp} {fr : List (Addr × Obj)} {s : Shared} {E : Value → Shared → Prop} {q : List V × Hp} {RR : Value → Addr → Result → Shared → Prop} (r : Rep Γ W ρ H fr s.heap) (hf : ((g ρ H).bind fun z => Zca z.1 (ZbO t t₂) Zaj f ρ z.2.1 0 [] z.2.2) = some q)
  (hR : ∀ (W' : Wd) (h' : Heap) (tk' : Nat) (C D : Addr) (oC : Obj) (m₂ : Str → Option Value) (ys : List Value), W.Le W' → NsObj oC m₂ → VRs W' q.1 ys → q.1.length ≤ LEN → (∀ t ∈ fr, D ≠ t.1) → (∀ t ∈ fr, C ≠ t.1) → C ≠ D → Rep Γ W' ρ q.2 ((C, oC) :: (D, lst ys) :: fr) h' → RR (.ref D) C (.ok .next) { s with heap := h', toks := tk' }) :
  wpAny (model prog w) Γ.A (eval iter Γ.env) (fun xv s₁ => wpAny (model prog w) Γ.A (pyIter xv) (fun it s₂ => wpAny (model prog w) Γ.A (newList []) (fun acc s₃ => wpAny (model prog w) Γ.A (newFunctionEnv scope Γ.env.globals cl [] Γ.env.qual none .none (some Γ.env)) (fun cenv s₄ =>
   codeAny (model prog w) Γ.A (.compStart (.ListComp elt [⟨.Tuple [.Name x px, .Name x₂ px₂] kt tp, iter, [], 0⟩] scope pos) 0 it acc { cenv with scope := relabel scope Γ.env }) (RR acc cenv.locals) s₄) E s₃) E s₂) E s₁) E s := by
 obtain ⟨z, e1, e2⟩ := Zz0.mp hf
 obtain ⟨nx, n, H0⟩ := z
 refine hg W ρ H fr s _ E nx n H0 r e1 fun W1 k1 t1 itv as It fs l1 i1 r1 ap I1 hstart => ?_
 refine wpAny_newObj_type (wpAny_newFunctionEnv hcell (fun y hy => by simp at hy) (fun h₂ hns hsb => ?_) hkind)
 dsimp only at hns hsb ⊢
 obtain ⟨rD, aD⟩ := r1.more (fs := [(k1.objs.size, lst [])]) (fun b o e => Heap.get?_push_of_some (lst []) e) (fun q hq => by rw [List.mem_singleton.mp hq]; exact ⟨Heap.get?_push_size _ rfl, Nat.le_refl _⟩)
 generalize eH : k1.push { cls := .type "list", dict := none, data := .seq ([] : List Value).toArray } = K at hns hsb ⊢
 have eK : k1.push (lst []) = K := eH
 rw [eK] at rD
 obtain ⟨oC, gC, nC⟩ := ns_obj hns
 have up : ∀ b o, K.get? b = some o → h₂.get? b = some o := fun b o e => hsb.extBut b o (Nat.ne_of_lt (Heap.lt_size e)) (Heap.get?_push_of_some _ e)
 obtain ⟨rC, aC⟩ := rD.more (fs := [(K.objs.size, oC)]) up (fun q hq => by rw [List.mem_singleton.mp hq]; exact ⟨gC, Nat.le_refl _⟩)
 have adr0 := I1.adr 0 fs i1
 have offs : ∀ b ∈ as, b ≠ k1.objs.size ∧ b ≠ K.objs.size := fun b hb => by
  rw [← adr0] at hb
  obtain ⟨q, hq, e⟩ := List.mem_map.mp hb
  exact ⟨e ▸ (aD _ Zz5 q (Zz4 _ hq)).symm, e ▸ (aC _ Zz5 q (Zz3 _ (Zz4 _ hq))).symm⟩
 have cd : K.objs.size ≠ k1.objs.size := aC _ Zz5 (k1.objs.size, lst []) (Zz4 _ Zz5)
 have cfr : ∀ t ∈ fr, K.objs.size ≠ t.1 := fun t ht => aC _ Zz5 t (Zz3 _ (Zz3 _ ht))
 have dfr : ∀ t ∈ fr, k1.objs.size ≠ t.1 := fun t ht => aD _ Zz5 t (Zz3 _ ht)
 generalize k1.objs.size = D at *
 generalize K.objs.size = C at *
 have loop : ∀ s₃ : Shared, s₃ = { s with heap := h₂, toks := t1 + ([] : List (Str × Value)).length } →
   codeAny (model prog w) Γ.A (.compLoop (.ListComp elt [⟨.Tuple [.Name x px, .Name x₂ px₂] kt tp, iter, [], 0⟩] scope pos) 0 itv (.ref D) (compEnvC scope cl C Γ.env)) (RR (.ref D) C) s₃ := by
  intro s₃ hs₃
  subst hs₃
  refine codeAny_compLoop_pair (Ze8 Γ W1 ρ fr C D It nx (ZbO t t₂) Zaj f q s) ?_ n ⟨W1, H0, h₂, _, 0, fs, [], [], oC, _, rfl, .refl _, i1, nC, .nil, Nat.zero_le _, rC, e2⟩
  rintro k s' ⟨W2, H2, k2, t2, j, fs2, acc, ys, oC2, m₂, rfl, l2, i2, hC2, hv2, hl2, r2, e⟩
  cases k with
  | zero => cases e
  | succ k =>
   obtain ⟨o, e4, e⟩ := Zz0.mp e
   have r2' : Rep Γ W2 ρ H2 (fs2 ++ ((C, oC2) :: (D, lst ys) :: fr)) k2 := r2.less fun q hq => by
    rcases List.mem_append.mp hq with hq | hq
    ·exact Zz2 _ (Zz2 _ (Zz4 _ hq))
    ·rcases List.mem_cons.mp hq with e | hq
     ·exact e ▸ List.mem_cons_self
     ·rcases List.mem_cons.mp hq with e | hq
      ·exact e ▸ List.mem_cons_of_mem _ Zz5
      ·exact Zz2 _ (Zz2 _ (Zz3 _ hq))
   have ap2 : ∀ b ∈ as, ∀ t ∈ (C, oC2) :: (D, lst ys) :: fr, b ≠ t.1 := fun b hb t ht => by
    rcases List.mem_cons.mp ht with e | ht
    ·rw [e]
     exact (offs b hb).2
    ·rcases List.mem_cons.mp ht with e | ht
     ·rw [e]
      exact (offs b hb).1
     ·exact ap b hb t ht
   cases o with
   | none =>
    cases e
    exact I1.done j W2 ρ H2 _ fs2 _ _ _ l2 r2' ap2 i2 e4 fun h' tk' r3 => hR W2 h' tk' C D oC2 m₂ ys (l1.trans l2) hC2 hv2 hl2 dfr cfr cd r3
   | some v =>
    obtain ⟨va, vb, ev⟩ := I1.pair j H2 v e4
    subst ev
    refine I1.item j W2 ρ H2 _ fs2 _ _ _ va vb l2 r2' ap2 i2 e4 fun T h3 t3 go => ?_
    obtain ⟨ρ3, e5, e⟩ := Zz0.mp e
    cases e5
    refine go _ _ _ _ _ _ rfl fun fs3 k3 y1 y2 i3 r3 htup w1 w2 => ?_
    have a3 : ∀ t ∈ fs3, t.1 ∈ as := fun t ht => by
     rw [← I1.adr _ _ i3]
     exact List.mem_map_of_mem ht
    refine assign_Tuple_tuple (s := { s with heap := k3, toks := t3 }) Γ.hh htup rfl rfl fun g₄ he => ?_
    have r3g := r3.grown (h' := g₄) fun b o e => he b o (Nat.ne_of_lt (Heap.lt_size e)) e
    have gC3 : g₄.get? C = some oC2 := r3g.frAt (q := (C, oC2)) (Zz3 _ Zz5)
    have nC3 : g₄.Ns C m₂ := hC2.ns gC3
    refine assignInOrder_cons (wpAny_assign_Name (wpAny_storeName_local (lookup_relabel_local hx) nC3 (fun h5 hn5 sb5 => ?_) (by simp [compEnvC, relabel, hkind])))
    refine assignInOrder_cons (wpAny_assign_Name (wpAny_storeName_local (lookup_relabel_local hx₂) hn5 (fun h4 hn4 sb4 => ?_) (by simp [compEnvC, relabel, hkind])))
    refine assignInOrder_nil ?_
    obtain ⟨oC4, gC4, nC4⟩ := ns_obj hn4
    have r3' : Rep Γ W2 ρ H2 ([(C, oC2)] ++ ((D, lst ys) :: (fs3 ++ fr))) g₄ := r3g.less fun q hq => by
     rcases List.mem_append.mp hq with hq | hq
     ·rw [List.mem_singleton.mp hq]
      exact Zz3 _ Zz5
     ·rcases List.mem_cons.mp hq with e | hq
      ·exact e ▸ List.mem_append_right _ (Zz2 _ Zz5)
      ·rcases List.mem_append.mp hq with hq | hq
       ·exact Zz4 _ hq
       ·exact Zz3 _ (Zz2 _ (Zz2 _ hq))
    have aC3 : ∀ t ∈ (D, lst ys) :: (fs3 ++ fr), C ≠ t.1 := fun t ht => by
     rcases List.mem_cons.mp ht with e | ht
     ·rw [e]
      exact cd
     ·rcases List.mem_append.mp ht with ht | ht
      ·exact (offs _ (a3 t ht)).2.symm
      ·exact cfr t ht
    have aD3 : ∀ t ∈ fs3 ++ fr, D ≠ t.1 := fun t ht => by
     rcases List.mem_append.mp ht with ht | ht
     ·exact (offs _ (a3 t ht)).1.symm
     ·exact dfr t ht
    have r4 : Rep Γ W2 ρ H2 ([(C, oC4)] ++ ((D, lst ys) :: (fs3 ++ fr))) h4 := by
     refine r3'.swap (fun q hq t ht => ?_) (fun b o hb e => sb4.extBut b o (fun z => hb (by simp [z, compEnvC])) (sb5.extBut b o (fun z => hb (by simp [z, compEnvC])) e)) fun q hq => ?_
     ·rw [List.mem_singleton.mp hq]
      exact aC3 t ht
     ·rw [List.mem_singleton.mp hq]
      exact ⟨gC4, by simp⟩
    have rc := ZlW (scope := scope) (cl := cl) (ts := [(x, t), (x₂, t₂)]) (ρ := upd (upd ρ t va) t₂ vb) r4 aC3 nC4 (fun p hp => by
     rcases List.mem_cons.mp hp with e | hp
     ·rw [e]
      exact ⟨va, y1, by simp [upd, htt], by simp [hxx], w1⟩
     ·rw [List.mem_singleton.mp hp]
      exact ⟨vb, y2, by simp [upd], by simp, w2⟩) (fun i hi => by
     have h1 : i ≠ t := fun e => hi (x, t) Zz5 e.symm
     have h2 : i ≠ t₂ := fun e => hi (x₂, t₂) (Zz2 _ Zz5) e.symm
     simp [upd, h1, h2])
    exact Zk7 (hel C ρ) aD3 cd l2 i3 hv2 rc e
 refine codeAny_compStart_list (loop _ rfl) ?_
 obtain ⟨o0, ho0⟩ := hstart
 exact I1.self 0 W1 ρ H0 (([(C, oC)] ++ [(D, lst [])]) ++ fr) fs _ _ _ o0 (.refl _) (rC.less fun q hq => by
  rcases List.mem_append.mp hq with hq | hq
  ·exact Zz3 _ (Zz3 _ (Zz4 _ hq))
  ·rcases List.mem_append.mp hq with hq | hq
   ·rcases List.mem_append.mp hq with hq | hq
    ·exact Zz4 _ hq
    ·exact Zz3 _ (Zz4 _ hq)
   ·exact Zz3 _ (Zz3 _ (Zz3 _ hq))) i1 ho0 (loop _ rfl)
theorem Zqb {elt iter : Expr} {x x₂ : Str} {px px₂ tp : Pos} {kt : Nat} {scope : Scope} {pos : Pos} {cl : List (Str × Addr)} {t t₂ : Nat} {g : Src} {f : Ex} (hg : JI2 prog w Γ iter g) (hel : ∀ C ρ, J prog w (ZaS Γ scope cl C [(x, t), (x₂, t₂)] ρ) elt f)
  (hclos : closureFor scope Γ.env = pure cl) (hcell : ∀ y ∈ scope.names, y.2 ≠ .cell) (hkind : scope.kind = .function) (hnames : ∀ y ∈ scope.names, y.2 = .local → scope.names.lookup y.1 = some .local) (hx : scope.names.lookup x = some .local) (hx₂ : scope.names.lookup x₂ = some .local) (hxx : x ≠ x₂) (htt : t ≠ t₂) (hs : ∀ x, foldedSetIterable iter Γ.env x = pure x := by intro _; rfl) :
  J prog w Γ (.ListComp elt [⟨.Tuple [.Name x px, .Name x₂ px₂] kt tp, iter, [], 0⟩] scope pos) (Zao g (ZbO t t₂) Zaj f) := by
 intro W ρ H fr s Q E v H' r hf post
 obtain ⟨z, e1, hf⟩ := Zz0.mp hf
 obtain ⟨q, e2, e3⟩ := Zz1.mp hf
 cases e3
 rw [eval_ListComp]
 refine wpAny_comprehension_free (use := Option.none) rfl hs hclos hkind hnames ?_
 refine ZkS (RR := fun acc C => compPost (model prog w) Γ.A E Option.none Q acc C) hg hel hcell hkind hx hx₂ hxx htt r (q := q) (by rw [e1]; exact e2) fun W2 h' tk' C D oC m₂ ys l2 hC hv hl aD aC cd r3 => ?_
 refine ⟨m₂, hC.ns (r3.frAt (q := (C, oC)) Zz5), fun h'' sb => ?_⟩
 obtain ⟨W5, l5, r5, v5⟩ := Zlp hv hl aD aC cd r3 sb
 exact post W5 h'' tk' _ (l2.trans l5) r5 v5
end
end PM
end
section
set_option maxRecDepth 100000
set_option linter.all false
set_option autoImplicit false
namespace PM
open PySem PySem.W PySem.Calls PyProof.Rows PyProof PySem.Spec
theorem Zra {prog : Program} {w : World} {A A₀ : Around} {s : Shared} {base h₀ : Heap} {L : Addr} {m : Str → Option Value} {lent : List (Addr × Obj)} {K : Frag} {p : Program} {loose : List Str} {mean : ExcName → Option Value} {mg mb : Str → Option Value}
  {env : Env} {outer : List Env} {R : Result → Shared → Prop} {name qual : Str} {params : Arguments} {body : List Stmt} {scope : Scope} {dV kV doc pm cdv ct oc : Value} {an od : Option Addr} {osl : Array (Option Value)} {f : Addr} {args : Args} {binds : List (Str × Value)}
  (B : Below A₀ base outer h₀) (F : Fr h₀ L s.heap m) (X₀ : K.In h₀) (N : News h₀ L s.heap lent) (T : Top p loose mean mg mb h₀) (hA : A.frames = some (env :: outer)) (hf : env.frame = some L) (hke : env.scope.kind = .function)
  (ho : K.lookup f = some ⟨oc, od, .func (fnOf name qual params body scope dV kV doc pm an cdv ct), osl⟩) (hcd : codeIn K cdv qual = true) (hroom : A.depth < recursionLimit)
  (hbind : BindsTo s (fnOf name qual params body scope dV kV doc pm an cdv ct) args binds) (hall : (binds.all fun y => scope.names.lookup y.1 == some .local || scope.names.lookup y.1 == some .cell) = true) (hone : ((cellsFrom 0 scope.names []).map (·.1)).Nodup)
  (h : ∀ g L' h₁ tk cells, (∀ b o, s.heap.get? b = some o → b ∉ lent.map (·.1) → g.get? b = some o) → Fr g L' h₁ (bindL (envOfC qual scope L' f cdv).kindOf binds fun _ => none) → News g L' h₁ (cells ++ lent) → CellsAre (bindC (envOfC qual scope L' f cdv).kindOf binds fun _ => none) (cellsFrom (L' + 1) scope.names []) cells →
   (cellsFrom (L' + 1) scope.names []).Pairwise (fun x y => x.2 ≠ y.2) → (∀ n c, (n, c) ∈ cellsFrom (L' + 1) scope.names [] → L' < c) → Below A base (env :: outer) g → K.In g → Top p loose mean mg mb g → (∀ q ∈ lent, q.1 < L') → s.heap.objs.size ≤ L' →
   wpAny (model prog w) (A.deeper (envOfC qual scope L' f cdv)) (execs body (envOfC qual scope L' f cdv)) (fun fl s' => LeaveK h₀ L m g R (match fl with | .ret v => v | _ => .none) s')
    (fun e s' => wpAny (model prog w) (A.deeper (envOfC qual scope L' f cdv)) (leaving (envOfC qual scope L' f cdv) e) (fun _ s'' => R (.error e) s'') (fun e' s'' => R (.error e') s'') s') { s with heap := h₁, toks := tk })
  (hco : scope.isCoroutine = false) (hgen : scope.isGenerator = false) (hk : scope.kind = .function) : codeAny (model prog w) A (.call (.ref f) args) R s := by
 obtain ⟨FG, BG, st, lv⟩ := groundX (R := R) B F N hA hf hke
 have X := X₀.keeps F.keep
 refine codeAny_call_function (fd := fnOf name qual params body scope dV kV doc pm an cdv ct) hroom (X _ _ ho) rfl hco hgen rfl (codeRec_of X hcd) (hbind _ _ _ _ ?_)
 refine wpAny_newFunctionEnv_cells hk (kindsX hall _) fun fresh hfr s' inC => ?_
 subst hfr
 have up := inC.toInCall.keep
 refine ⟨(T.nolimit.keeps F.keep).keeps up, codeAny_func ?_⟩
 obtain ⟨h₁, tk, hs', _⟩ := inC.done
 subst hs'
 have nod := cellsFrom_names scope.names 0 (s.heap.objs.size + 1) [] [] rfl ▸ hone
 obtain ⟨cells, NC, Y⟩ := Cl.news (h₀ := s.heap) (L := s.heap.objs.size) (Nat.le_refl _) fun n c hm => ⟨inC.cell n c (lookup_of_mem_nodup nod hm), inC.above n c hm⟩
 have old : ∀ q ∈ lent, q.1 < s.heap.objs.size := fun q hq => Heap.lt_size (N q hq).1
 refine wpAny_mono (h _ s.heap.objs.size h₁ tk cells (fun b o e nb => hideAll_get _ e nb) ⟨inC.toInCall.ns, fun b o e => up b o (of_hideAll _ e), Nat.le_of_eq (hideAll_size _ _)⟩ (fun q hq => ?_) Y inC.apart inC.above BG (X₀.keeps st) (T.keeps st) old (Nat.le_refl _)) (fun fl s' hl => lv _ _ hl) fun _ _ y => y
 rcases List.mem_append.mp hq with hq | hq
 ·obtain ⟨c1, c2, c3⟩ := NC q hq
  refine ⟨c1, c2, ?_⟩
  cases e : (hideAll s.heap (lent.map (·.1))).get? q.1 with
  | none => rfl
  | some o =>
   have z := of_hideAll _ e
   rw [c3] at z
   cases z
 ·exact ⟨up _ _ (N q hq).1, Nat.ne_of_lt (old q hq), hideAll_none _ (List.mem_map_of_mem hq)⟩
section
variable (prog : Program) (w : World) (K : Frag) (p : Program) (loose : List Str) (mean : ExcName → Option Value) (mg mb : Str → Option Value)
noncomputable def Clr (Γ : Cx) (dp un : Nat) : Prop := ∃ (gd : Option (List Code)) (cn : Str) (cs : Scope) (a : Addr) (ccd : Value) (cl : List (Str × Addr)) (outer : List Env) (A₀ : Around) (base : Heap),
 Γ.A = ktrTop dp un gd cn cs Γ.L a ccd cl outer ∧ Below A₀ base outer Γ.h₀ ∧ K.In Γ.h₀ ∧ Top p loose mean mg mb Γ.h₀ ∧ cs.kind = .function
noncomputable def Def (f : Addr) (room : Nat) (F : List V → Hp → Option (V × Hp)) : Prop := ∀ (Γ : Cx) (dp un : Nat), Clr K p loose mean mg mb Γ dp un → dp + room < recursionLimit → un + 10 * room + 300 < cLine →
 ∀ (W : Wd) (ρ : Lc) (H : Hp) (fr : List (Addr × Obj)) (s : Shared) (Q E : Value → Shared → Prop) (as : List V) (xs : List Value) (v : V) (H' : Hp),
  Rep Γ W ρ H fr s.heap → VRs W as xs → F as H = some (v, H') → Ze5 Γ W ρ H' fr s Q v → wpAny (model prog w) Γ.A (call (.ref f) xs) Q E s
end
noncomputable def ZY (n : Nat) (g : Sm) : List V → Hp → Option (V × Hp) := fun as H => if as.length = n then (g (fun i => as[i]?) H).map fun r => ((r.1.getD .none), r.2.2) else none
theorem ZoY {kindOf : Str → Option NameKind} : ∀ {ps : List Str} {xs : List Value} {m : Str → Option Value} {x : Str} {i : Nat} {y : Value}, ps.Nodup → ps[i]? = some x → xs[i]? = some y → kindOf x = some .local → bindL kindOf (ps.zip xs) m x = some y := by
 have skip : ∀ {ps : List Str} {xs : List Value} {m : Str → Option Value} {x : Str}, x ∉ ps → bindL kindOf (ps.zip xs) m x = m x := by
  intro ps
  induction ps with
  | nil => intro xs m x _; rfl
  | cons p ps ih =>
   intro xs m x hx
   cases xs with
   | nil => rfl
   | cons z xs =>
    simp only [List.zip_cons_cons, bindL]
    rw [ih (fun h => hx (Zz2 _ h))]
    have : x ≠ p := fun e => hx (e ▸ List.mem_cons_self)
    split <;> simp [this]
 intro ps
 induction ps with
 | nil => intro xs m x i y _ h; simp at h
 | cons p ps ih =>
  intro xs m x i y nd hp hx hk
  cases xs with
  | nil => simp at hx
  | cons z xs =>
   obtain ⟨n1, n2⟩ := List.nodup_cons.mp nd
   cases i with
   | zero =>
    simp at hp hx
    subst hp hx
    simp only [List.zip_cons_cons, bindL]
    rw [skip n1, if_pos hk]
    simp
   | succ i =>
    simp at hp hx
    simp only [List.zip_cons_cons, bindL]
    exact ih n2 hp hx hk
theorem ZoZ {kindOf : Str → Option NameKind} : ∀ {ps : List Str} {xs : List Value} {m : Str → Option Value} {x : Str} {i : Nat} {y : Value}, ps.Nodup → ps[i]? = some x → xs[i]? = some y → kindOf x = some .cell → bindC kindOf (ps.zip xs) m x = some y := by
 have skip : ∀ {ps : List Str} {xs : List Value} {m : Str → Option Value} {x : Str}, x ∉ ps → bindC kindOf (ps.zip xs) m x = m x := by
  intro ps
  induction ps with
  | nil => intro xs m x _; rfl
  | cons p ps ih =>
   intro xs m x hx
   cases xs with
   | nil => rfl
   | cons z xs =>
    simp only [List.zip_cons_cons, bindC]
    rw [ih (fun h => hx (Zz2 _ h))]
    have : x ≠ p := fun e => hx (e ▸ List.mem_cons_self)
    split <;> simp [this]
 intro ps
 induction ps with
 | nil => intro xs m x i y _ h; simp at h
 | cons p ps ih =>
  intro xs m x i y nd hp hx hk
  cases xs with
  | nil => simp at hx
  | cons z xs =>
   obtain ⟨n1, n2⟩ := List.nodup_cons.mp nd
   cases i with
   | zero =>
    simp at hp hx
    subst hp hx
    simp only [List.zip_cons_cons, bindC]
    rw [skip n1, if_neg (by rw [hk]; simp)]
    simp
   | succ i =>
    simp at hp hx
    simp only [List.zip_cons_cons, bindC]
    exact ih n2 hp hx hk
theorem ZeD {cm : Str → Option Value} : ∀ {cs : List (Str × Addr)} {cells : List (Addr × Obj)} {x : Str} {c : Addr}, CellsAre cm cs cells → (x, c) ∈ cs → ∃ o, (c, o) ∈ cells ∧ o.data = .cell (cm x)
 | _, _, _, _, .nil, h => nomatch h
 | _, _, _, _, .cons hd r, h => by
  rcases List.mem_cons.mp h with e | h
  ·cases e
   exact ⟨_, List.mem_cons_self, hd⟩
  ·obtain ⟨o, h1, h2⟩ := ZeD r h
   exact ⟨o, List.mem_cons_of_mem _ h1, h2⟩
theorem ZlY {cm : Str → Option Value} : ∀ {cs : List (Str × Addr)} {cells : List (Addr × Obj)} {q : Addr × Obj}, CellsAre cm cs cells → q ∈ cells → ∃ x, (x, q.1) ∈ cs
 | _, _, _, .nil, h => nomatch h
 | _, _, _, .cons hd r, h => by
  rcases List.mem_cons.mp h with e | h
  ·cases e
   exact ⟨_, List.mem_cons_self⟩
  ·obtain ⟨x, h1⟩ := ZlY r h
   exact ⟨x, List.mem_cons_of_mem _ h1⟩
theorem ZcI {α β : Type} [BEq α] [LawfulBEq α] : ∀ {l : List (α × β)} {x : α} {y : β}, l.lookup x = some y → (x, y) ∈ l
 | [], _, _, h => by simp at h
 | (a, b) :: r, x, y, h => by
  rw [List.lookup_cons] at h
  split at h
  ·rename_i e
   cases h
   have := eq_of_beq e
   subst this
   exact Zz5
  ·exact Zz2 _ (ZcI h)
end PM
end
section
set_option maxRecDepth 100000
set_option linter.all false
set_option autoImplicit false
namespace PM
open PySem PySem.W PySem.Calls PyProof.Rows PyProof PySem.Spec
section
variable {prog : Program} {w : World} {K : Frag} {p : Program} {loose : List Str} {mean : ExcName → Option Value} {mg mb : Str → Option Value}
theorem Zrb {name qual : Str} {params : Arguments} {body : List Stmt} {scope : Scope} {dV kV doc pm cdv ct oc : Value} {an od : Option Addr} {osl : Array (Option Value)} {f : Addr} {names : List Str} {n room : Nat} {g : Sm}
  (ho : K.lookup f = some ⟨oc, od, .func (fnOf name qual params body scope dV kV doc pm an cdv ct), osl⟩) (hcd : codeIn K cdv qual = true) (nd : names.Nodup) (hn : n ≤ names.length)
  (hbind : ∀ s xs, xs.length = n → BindsTo s (fnOf name qual params body scope dV kV doc pm an cdv ct) ⟨xs, []⟩ ((names.take n).zip xs)) (hkinds : ∀ x ∈ names.take n, scope.names.lookup x = some .local ∨ scope.names.lookup x = some .cell) (hone : ((cellsFrom 0 scope.names []).map (·.1)).Nodup)
  (hco : scope.isCoroutine = false) (hgen : scope.isGenerator = false) (hk : scope.kind = .function)
  (hbody : ∀ (dp un : Nat) (gd : Option (List Code)) (L : Addr) (outer : List Env) (h₀ : Heap) (hu : un + 200 < cLine), Clr K p loose mean mg mb (Zbf dp un gd qual scope L f cdv (cellsFrom (L + 1) scope.names []) outer h₀ hu names) dp un → dp + room < recursionLimit → un + 10 * room + 300 < cLine →
   Ss prog w (Zbf dp un gd qual scope L f cdv (cellsFrom (L + 1) scope.names []) outer h₀ hu names) body g) :
  Def prog w K p loose mean mg mb f (room + 1) (ZY n g) := by
 intro Γ dp un clr hd hu W ρ H fr s Q E as xs v H' r hx hF post
 obtain ⟨gd, cn, cs, a, ccd, cl, outer, A₀, base, eA, B, X, T, hke⟩ := clr
 unfold ZY at hF
 split at hF
 ·rename_i hlen
  obtain ⟨res, e1, e2⟩ := Zz1.mp hF
  obtain ⟨o, ρ', K'⟩ := res
  cases e2
  obtain ⟨m, c, led, r⟩ := r
  have hxl : xs.length = n := by rw [hx.length, hlen]
  have inn : ∀ q ∈ led, (q.1 ∈ W.pi ∨ q.1 ∈ W.tups.map (·.1)) ↔ q ∈ led.filter (fun q => decide (q.1 ∈ W.pi ∨ q.1 ∈ W.tups.map (·.1))) := fun q hq => ⟨fun h => List.mem_filter.mpr ⟨hq, by simpa using h⟩, fun h => by simpa using (List.mem_filter.mp h).2⟩
  have isub : ∀ q ∈ led.filter (fun q => decide (q.1 ∈ W.pi ∨ q.1 ∈ W.tups.map (·.1))), q ∈ led := fun q hq => (List.mem_filter.mp hq).1
  generalize hlent : led.filter (fun q => decide (q.1 ∈ W.pi ∨ q.1 ∈ W.tups.map (·.1))) = lent at inn isub
  have notin : ∀ q ∈ led, q.1 ∉ W.pi → (∀ t ∈ W.tups, q.1 ≠ t.1) → q.1 ∉ lent.map (·.1) := fun q hq h1 h2 h3 => by
   obtain ⟨t, ht, e⟩ := List.mem_map.mp h3
   rcases (inn t (isub t ht)).mpr ht with z | z
   ·exact h1 (e ▸ z)
   ·obtain ⟨u, hu, e'⟩ := List.mem_map.mp z
    exact h2 u hu (e ▸ e'.symm)
  rw [eA]
  refine wpAny_call ?_
  refine Zra (env := envX cn cs Γ.L a ccd cl) (lent := lent) B r.F X (fun q hq => r.N q (isub q hq)) T rfl rfl hke ho hcd (by show dp < recursionLimit; omega) (hbind s xs hxl) ?_ hone ?_ hco hgen hk
  ·refine List.all_eq_true.mpr fun y hy => ?_
   rcases hkinds y.1 (List.of_mem_zip hy).1 with h | h <;> simp [h]
  intro g0 L' h₁ tk cells stay F' N' Y ap ab B' X' T' old szL
  have hu' : (un + 3) + 200 < cLine := by omega
  have clr' : Clr K p loose mean mg mb (Zbf (dp + 1) (un + 3) gd qual scope L' f cdv (cellsFrom (L' + 1) scope.names []) (envX cn cs Γ.L a ccd cl :: outer) g0 hu' names) (dp + 1) (un + 3) :=
   ⟨gd, qual, scope, f, cdv, cellsFrom (L' + 1) scope.names [], envX cn cs Γ.L a ccd cl :: outer, _, base, rfl, B', X', T', hk⟩
  have below : ∀ q ∈ cells, L' < q.1 := fun q hq => by
   obtain ⟨x, hx⟩ := ZlY Y hq
   exact ab x _ hx
  have piLt : ∀ b ∈ W.pi, b < L' := fun b hb => by
   obtain ⟨o, ho⟩ := r.piIn b hb
   exact Nat.lt_of_lt_of_le (Heap.lt_size (r.get ho)) szL
  have tuLt : ∀ t ∈ W.tups, t.1 < L' := fun t ht => Nat.lt_of_lt_of_le (Heap.lt_size (r.get (r.R.tups t ht))) szL
  have scN : W.sc.1 ∉ lent.map (·.1) := fun z => by
   obtain ⟨t, ht, e⟩ := List.mem_map.mp z
   exact r.notSc t (isub t ht) e
  have tkn : ∀ {i : Nat} {x : Str} {u : V}, names[i]? = some x → as[i]? = some u → (names.take n)[i]? = some x ∧ ∃ y, xs[i]? = some y ∧ VR W u y := fun {i x u} h1 h2 => by
   have hi : i < n := by rw [← hlen]; exact (Zz6.mp h2).1
   exact ⟨by rw [List.getElem?_take_of_lt hi]; exact h1, hx.at h2⟩
  have ndt : (names.take n).Nodup := nd.sublist (List.take_sublist _ _)
  have rep : Rep (Zbf (dp + 1) (un + 3) gd qual scope L' f cdv (cellsFrom (L' + 1) scope.names []) (envX cn cs Γ.L a ccd cl :: outer) g0 hu' names) W (fun i => as[i]?) H [] h₁ := by
   refine ⟨_, cells, cells ++ lent, ⟨F', N', ⟨r.R.len, r.R.nd, fun i vs e => ?_, fun q hq => ?_, r.R.kind⟩, stay _ _ (r.F.keep _ _ r.sc) scN, r.sc0, fun q hq => (nomatch hq), fun q hq => (nomatch hq), fun q hq => List.mem_append_left _ hq, fun q hq z => ?_, fun q _ t ht => (nomatch ht), fun q hq => (nomatch hq), fun q hq t ht => ?_, ⟨fun i x u hi hk1 hu1 => ?_, fun i x u hi hk1 hu1 => ?_, fun x c1 hc => ?_, fun x y c1 h1 h2 => ?_⟩⟩⟩
   ·obtain ⟨l, b, ys, k, h1, h2, h3⟩ := r.R.lists i vs e
    exact ⟨l, b, ys, k, h1, Zde h2 fun z => List.mem_append_right _ ((inn _ z).mp (.inl (List.mem_of_getElem? h1))), h3⟩
   ·exact Zde (r.R.tups q hq) fun z => List.mem_append_right _ ((inn _ z).mp (.inr (List.mem_map_of_mem hq)))
   ·exact absurd (Nat.lt_trans (piLt _ z) (below q hq)) (Nat.lt_irrefl _)
   ·exact Nat.ne_of_gt (Nat.lt_trans (tuLt t ht) (below q hq))
   ·obtain ⟨h1, y, h2, h3⟩ := tkn hi hu1
    exact ⟨y, ZoY ndt h1 h2 hk1, h3⟩
   ·obtain ⟨h1, y, h2, h3⟩ := tkn hi hu1
    have hs := cellsFrom_some scope.names (L' + 1) [] (.inl hk1)
    obtain ⟨c1, hc1⟩ := Option.isSome_iff_exists.mp hs
    obtain ⟨o1, ho1, hd1⟩ := ZeD Y (ZcI hc1)
    refine ⟨c1, o1, y, hc1, ho1, ?_, h3⟩
    rw [hd1, ZoZ ndt h1 h2 hk1]
   ·obtain ⟨o1, ho1, hd1⟩ := ZeD Y (ZcI hc)
    exact ⟨o1, _, ho1, hd1⟩
   ·exact name_of_addr ap (ZcI h1) (ZcI h2)
  have hb := hbody (dp + 1) (un + 3) gd L' (envX cn cs Γ.L a ccd cl :: outer) g0 hu' clr' (by omega) (by omega)
  have back : ∀ (W' : Wd) (h' : Heap) (tk' : Nat) (x : Value), W.Le W' → Rep (Zbf (dp + 1) (un + 3) gd qual scope L' f cdv (cellsFrom (L' + 1) scope.names []) (envX cn cs Γ.L a ccd cl :: outer) g0 hu' names) W' ρ' K' [] h' → VR W' (o.getD .none) x →
    LeaveK Γ.h₀ Γ.L m g0 (fun r s' => match r with | .ok (.ret v) => Q v s' | .ok _ => False | .error e => E e s') x { s with heap := h', toks := tk' } := by
   intro W' h' tk' x l' r' x'
   obtain ⟨m', c', led', r'⟩ := r'
   refine ⟨L', m', led', r'.F, r'.N, fun FG NG => post W' h' tk' x l' ?_ x'⟩
   have g0at : ∀ q ∈ led, q.1 ∉ lent.map (·.1) → g0.get? q.1 = some q.2 := fun q hq hn => stay _ _ (r.N q hq).1 hn
   have frN : ∀ q ∈ fr, q.1 ∉ lent.map (·.1) := fun q hq => notin q (r.frIn q hq) (r.frOff q hq) (r.frTup q hq)
   have clN : ∀ q ∈ c, q.1 ∉ lent.map (·.1) := fun q hq => notin q (r.clIn q hq) (r.clOff q hq) (r.clTup q hq)
   have newN : ∀ t ∈ led', g0.get? t.1 = none := fun t ht => (r'.N t ht).2.2
   have far : ∀ q ∈ led, q.1 ∉ lent.map (·.1) → ∀ t ∈ W'.sc :: led', q.1 ≠ t.1 := fun q hq hn t ht e => by
    rcases List.mem_cons.mp ht with e2 | ht
    ·rw [e2, l'.sc] at e
     exact r.notSc q hq e
    ·have := g0at q hq hn
     rw [e, newN t ht] at this
     cases this
   have farPi : ∀ q ∈ led, q.1 ∉ lent.map (·.1) → q.1 ∉ W'.pi := fun q hq hn z => by
    obtain ⟨o2, h2⟩ := r'.piIn _ z
    exact far q hq hn _ h2 rfl
   have keep : ∀ q ∈ led, q.1 ∉ lent.map (·.1) → q ∈ led' ++ led.filter (fun q => decide (q.1 ∉ lent.map (·.1))) := fun q hq hn => List.mem_append_right _ (List.mem_filter.mpr ⟨hq, by simpa using hn⟩)
   refine ⟨m, c, led' ++ led.filter (fun q => decide (q.1 ∉ lent.map (·.1))), ⟨FG, fun q hq => ?_, r'.R.mono fun q hq => Zea hq fun x hx => List.mem_append_left _ hx, l'.sc ▸ r.sc, r'.sc0, fun q hq => keep q (r.frIn q hq) (frN q hq), fun q hq => farPi q (r.frIn q hq) (frN q hq), fun q hq => keep q (r.clIn q hq) (clN q hq), fun q hq => farPi q (r.clIn q hq) (clN q hq), r.apart, fun q hq t ht => far q (r.frIn q hq) (frN q hq) t (r'.R.tups t ht), fun q hq t ht => far q (r.clIn q hq) (clN q hq) t (r'.R.tups t ht), Γ.mono l' r.own⟩⟩
   rcases List.mem_append.mp hq with hq | hq
   ·exact NG q hq
   ·obtain ⟨h1, h2⟩ := List.mem_filter.mp hq
    exact ⟨r'.F.keep _ _ (g0at q h1 (by simpa using h2)), (r.N q h1).2⟩
  refine hb W _ H [] _ _ _ (o, ρ', K') rep e1 ?_
  cases o with
  | none => exact fun W' h' tk' l' r' => back W' h' tk' .none l' r' .none
  | some v0 => exact fun W' h' tk' x l' r' x' => back W' h' tk' x l' r' x'
 ·cases hF
theorem Zqc {Γ : Cx} {dp un : Nat} {x : Str} {np pos : Pos} {f : Addr} {room : Nat} {e : Expr} {es : List Expr} {g : Exs} {o : List V → Hp → Option (V × Hp)} (clr : Clr K p loose mean mg mb Γ dp un) (hn : Nm prog w Γ x (.ref f)) (hkeep : keepIn K (.ref f) = true) (D : Def prog w K p loose mean mg mb f room o) (hd : dp + room < recursionLimit) (hu : un + 10 * room + 300 < cLine)
  (h : Js prog w Γ (e :: es) g) (he : starEach (e :: es) Γ.env = (false, eval e Γ.env) :: starEach es Γ.env := by rfl) (hp : ∀ pos, (backTo pos (starEach es Γ.env)).any (·.1) = false := by intro _; rfl) : J prog w Γ (.Call (.Name x np) (e :: es) [] pos) (Zw o g) := by
 intro W ρ H fr s Q E v H' r hf post
 obtain ⟨q, e1, hf⟩ := Zz0.mp hf
 have X : K.In Γ.h₀ := by
  obtain ⟨_, _, _, _, _, _, _, _, _, _, _, X, _⟩ := clr
  exact X
 refine wpAny_Call_ofName (hn.use r ?_)
 refine callWith_K (first := []) X hkeep (h pos W ρ H fr s _ E _ _ r e1 fun W1 k1 t1 xs l1 r1 x1 => ⟨?_, ?_⟩) he (hp pos)
 ·obtain ⟨m, c, led, r1⟩ := r1
  exact X.keeps r1.F.keep
 ·exact D Γ dp un clr hd hu W1 ρ _ fr _ Q E _ xs v H' r1 x1 hf fun W2 k2 t2 y l2 r2 y2 => post W2 k2 t2 y (l1.trans l2) r2 y2
theorem Zbz {Γ : Cx} {dp un : Nat} {scope : Scope} {cl : List (Str × Addr)} {C : Addr} {ts : List (Str × Nat)} {ρ0 : Lc} (h : Clr K p loose mean mg mb Γ dp un) : Clr K p loose mean mg mb (ZaS Γ scope cl C ts ρ0) dp un := h
end
end PM
end
section
set_option maxRecDepth 100000
set_option linter.all false
set_option autoImplicit false
namespace PM
open PySem PySem.W PySem.Calls PyProof.Rows PyProof PySem.Spec
theorem Zhb {lo : Nat} : ∀ (names : List (Str × NameKind)) (n : Nat) (acc : List (Str × Addr)), acc.Pairwise (fun x y => x.2 ≠ y.2) → (∀ q ∈ acc, lo < q.2 ∧ q.2 < n) → lo < n → (cellsFrom n names acc).Pairwise (fun x y => x.2 ≠ y.2) ∧ ∀ q ∈ cellsFrom n names acc, lo < q.2
 | [], n, acc, h1, h2, _ => ⟨h1, fun q hq => (h2 q hq).1⟩
 | (y, k) :: r, n, acc, h1, h2, h3 => by
  unfold cellsFrom
  by_cases hk : (k == .cell) = true
  ·rw [if_pos hk]
   refine Zhb r (n + 1) ((y, n) :: acc) (List.pairwise_cons.mpr ⟨fun q hq => Nat.ne_of_gt (h2 q hq).2, h1⟩) (fun q hq => ?_) (Nat.lt_succ_of_lt h3)
   rcases List.mem_cons.mp hq with e | hq
   ·rw [e]
    exact ⟨h3, Nat.lt_succ_self n⟩
   ·exact ⟨(h2 q hq).1, Nat.lt_succ_of_lt (h2 q hq).2⟩
  ·rw [if_neg hk]
   exact Zhb r n acc h1 h2 h3
theorem Zo0 {P : Params} {h : Heap} {a : Addr} {ns : List Int} (w1 : Well P h (.ref a) (ofPy (.list (ns.map PyData.int)))) (W : Wd) : ∃ vs, h.get? a = some (Zbm vs 0) ∧ VRs W (ns.map V.int) vs := by
 have key : ∀ {ns : List Int} {vs : List Value} {xs : List WData}, xs = (ns.map PyData.int).map ofPy → WellAll P h vs xs → VRs W (ns.map V.int) vs := by
  intro ns
  induction ns with
  | nil => intro vs xs e h; subst e; cases h; exact .nil
  | cons n ns ih =>
   intro vs xs e h
   subst e
   cases h with
   | cons h1 h2 =>
    cases h1 with
    | int i t => exact .cons (.int _ _) (ih rfl h2)
 have e : ofPy (.list (ns.map PyData.int)) = .list ((ns.map PyData.int).map ofPy) := by rw [ofPy, ofPys_eq]
 rw [e] at w1
 cases w1 with
 | list hg ha => exact ⟨_, hg, key rfl ha⟩
section
variable {prog : Program} {w : World} {K : Frag} {p : Program} {loose : List Str} {mean : ExcName → Option Value} {mg mb : Str → Option Value}
theorem Zqd {P : Params} {h₀ : Heap} {s : Shared} {sa fa : Addr} {cd : Value} {ns : List Int} {qual pname : Str} {scope : Scope} {body : List Stmt} {names : List Str} {g : Sm} {cells : List (Addr × Obj)} {Q : Flow → Shared → Prop} {E : Value → Shared → Prop} {room : Nat} {H' : Hp}
  (hbody : ∀ (dp un : Nat) (gd : Option (List Code)) (L a : Addr) (ccd : Value) (outer : List Env) (h₀ : Heap) (hu : un + 200 < cLine), Clr K p loose mean mg mb (Zbf dp un gd qual scope L a ccd (cellsFrom (L + 1) scope.names []) outer h₀ hu names) dp un → dp + room < recursionLimit → un + 10 * room + 300 < cLine →
   Ss prog w (Zbf dp un gd qual scope L a ccd (cellsFrom (L + 1) scope.names []) outer h₀ hu names) body g)
  (hd : callerA.depth + 1 + room < recursionLimit) (hun : callerA.units + 3 + 10 * room + 300 < cLine) (hk : scope.kind = .function) (h0 : names[0]? = some pname)
  (KX : K.In h₀) (T : Top p loose mean mg mb h₀) (w1 : Well P h₀ (.ref sa) (ofPy (.list (ns.map PyData.int)))) (hlen : ns.length ≤ LEN)
  (F : Fr h₀ h₀.objs.size s.heap (bindL (envOfC qual scope h₀.objs.size fa cd).kindOf [(pname, .ref sa)] fun _ => none)) (N : News h₀ h₀.objs.size s.heap cells) (X0 : CellsAre (bindC (envOfC qual scope h₀.objs.size fa cd).kindOf [(pname, .ref sa)] fun _ => none) (cellsFrom (h₀.objs.size + 1) scope.names []) cells)
  (hg : ZY 1 g [.ref 0] [ns.map V.int] = some (.bool true, H')) (post : ∀ h' tk' m', Fr h₀ h₀.objs.size h' m' → Q (.ret (.bool true)) { s with heap := h', toks := tk' }) :
  wpAny (model prog w) (callerA.deeper (envOfC qual scope h₀.objs.size fa cd)) (execs body (envOfC qual scope h₀.objs.size fa cd)) Q E s := by
 have hu' : (callerA.units + 3) + 200 < cLine := by omega
 have clr : Clr K p loose mean mg mb (Zbf (callerA.depth + 1) (callerA.units + 3) callerA.guards qual scope h₀.objs.size fa cd (cellsFrom (h₀.objs.size + 1) scope.names []) [] h₀ hu' names) (callerA.depth + 1) (callerA.units + 3) :=
  ⟨callerA.guards, qual, scope, fa, cd, cellsFrom (h₀.objs.size + 1) scope.names [], [], _, _, rfl, below_caller h₀, KX, T, hk⟩
 have hb := hbody (callerA.depth + 1) (callerA.units + 3) callerA.guards h₀.objs.size fa cd [] h₀ hu' clr hd hun
 obtain ⟨vs, hsc, hv⟩ := Zo0 w1 ⟨[sa], [], (sa, Zbm [] 0)⟩
 have hv' : VRs ⟨[sa], [], (sa, Zbm vs 0)⟩ (ns.map V.int) vs := by
  clear hg post w1 hlen hsc
  generalize ns.map V.int = us at hv
  have key : ∀ {us : List V} {xs : List Value}, VRs ⟨[sa], [], (sa, Zbm [] 0)⟩ us xs → VRs ⟨[sa], [], (sa, Zbm vs 0)⟩ us xs := by
   intro us
   induction us with
   | nil => intro xs h; cases h; exact .nil
   | cons u us ih =>
    intro xs h
    cases h with
    | cons a b =>
     refine .cons ?_ (ih b)
     cases a with
     | none => exact .none
     | bool b => exact .bool b
     | int i t => exact .int i t
     | str s t => exact .str s t
     | tup hm _ _ => exact nomatch hm
     | ref e => exact .ref e
  exact key hv
 have far := Zhb (lo := h₀.objs.size) scope.names (h₀.objs.size + 1) [] .nil (fun q hq => nomatch hq) (Nat.lt_succ_self _)
 unfold ZY at hg
 rw [if_pos (show ([V.ref 0] : List V).length = 1 from rfl)] at hg
 obtain ⟨res, e1, e2⟩ := Zz1.mp hg
 obtain ⟨o, ρ', K'⟩ := res
 have eo : o = some (.bool true) := by
  cases o with
  | none => simp at e2
  | some v => simp at e2; rw [e2.1]
 subst eo
 have pick : ∀ {i : Nat} {x : Str} {u : V}, names[i]? = some x → ([V.ref 0] : List V)[i]? = some u → x = pname ∧ u = .ref 0 := fun {i x u} h1 h2 => by
  have hi : i < 1 := (Zz6.mp h2).1
  have : i = 0 := by omega
  subst this
  rw [h0] at h1
  simp at h1 h2
  exact ⟨h1.symm, h2.symm⟩
 have rep : Rep (Zbf (callerA.depth + 1) (callerA.units + 3) callerA.guards qual scope h₀.objs.size fa cd (cellsFrom (h₀.objs.size + 1) scope.names []) [] h₀ hu' names) ⟨[sa], [], (sa, Zbm vs 0)⟩ (fun i => [V.ref 0][i]?) [ns.map V.int] [] s.heap := by
  refine ⟨_, cells, cells, ⟨F, N, ⟨rfl, by simp, fun i us e => ?_, fun q hq => (nomatch hq), fun q hq => (nomatch hq)⟩, hsc, rfl, fun q hq => (nomatch hq), fun q hq => (nomatch hq), fun q hq => hq, fun q hq z => ?_, fun q _ t ht => (nomatch ht), fun q hq => (nomatch hq), fun q hq t ht => (nomatch ht), ⟨fun i x u hi hk1 hu1 => ?_, fun i x u hi hk1 hu1 => ?_, fun x c1 hc => ?_, fun x y c1 h1 h2 => ?_⟩⟩⟩
  ·have hi : i < 1 := (Zz6.mp e).1
   have : i = 0 := by omega
   subst this
   simp at e
   subst e
   exact ⟨by simpa using hlen, sa, vs, 0, rfl, List.mem_cons_self, hv'⟩
  ·have := (N q hq).2.2
   rw [List.mem_singleton.mp z, hsc] at this
   cases this
  ·obtain ⟨e3, e4⟩ := pick hi hu1
   subst e3 e4
   refine ⟨.ref sa, ?_, .ref rfl⟩
   show bindL _ _ _ _ = _
   unfold bindL bindL
   rw [if_pos (show (envOfC qual scope h₀.objs.size fa cd).kindOf x = some .local from hk1)]
   simp
  ·obtain ⟨e3, e4⟩ := pick hi hu1
   subst e3 e4
   have hs := cellsFrom_some scope.names (h₀.objs.size + 1) [] (.inl hk1)
   obtain ⟨c1, hc1⟩ := Option.isSome_iff_exists.mp hs
   obtain ⟨o1, ho1, hd1⟩ := ZeD X0 (ZcI hc1)
   refine ⟨c1, o1, .ref sa, hc1, ho1, ?_, .ref rfl⟩
   rw [hd1]
   unfold bindC bindC
   rw [if_neg (show ¬ (envOfC qual scope h₀.objs.size fa cd).kindOf x = some .local by show ¬ scope.names.lookup x = some .local; rw [hk1]; simp)]
   simp
  ·obtain ⟨o1, ho1, hd1⟩ := ZeD X0 (ZcI hc)
   exact ⟨o1, _, ho1, hd1⟩
  ·exact name_of_addr far.1 (ZcI h1) (ZcI h2)
 refine hb _ _ _ [] s Q E _ rep e1 ?_
 intro W' h' tk' x l' r' x'
 cases x' with
 | bool _ =>
  obtain ⟨m', c', led', r'⟩ := r'
  exact post h' tk' m' r'.F
end
end PM
end
section
set_option maxRecDepth 100000
set_option linter.all false
set_option autoImplicit false
namespace PM
open PySem PySem.W PySem.Calls PyProof.Rows PyProof PyProof.Rows.LCg PyProof.Rows.LSm
theorem Rep.listAt {Γ : Cx} {W : Wd} {ρ : Lc} {H : Hp} {fr : List (Addr × Obj)} {h h' : Heap} {vs : List V} {xs : List Value} {k : Nat} (r : Rep Γ W ρ H fr h) (up : ∀ b o, h.get? b = some o → h'.get? b = some o) (hg : h'.get? h.objs.size = some (Zbm xs k)) (hv : VRs W vs xs) (hl : vs.length ≤ LEN) :
  ∃ W', W.Le W' ∧ Rep Γ W' ρ (H ++ [vs]) fr h' ∧ VR W' (.ref H.length) (.ref h.objs.size) := by
 obtain ⟨r2, ap⟩ := r.more (fs := [(h.objs.size, Zbm xs k)]) up (fun q hq => by rw [List.mem_singleton.mp hq]; exact ⟨hg, Nat.le_refl _⟩)
 exact Zey r2 (fun t ht => ap _ Zz5 t ht) hv hl
noncomputable def Zc5 : List V → Hp → Option (V × Hp)
 | [.ref a], H => H[a]?.map fun vs => (.ref H.length, H ++ [vs])
 | [.tup vs], H => some (.ref H.length, H ++ [vs])
 | _, _ => none
noncomputable def Zd0 : List V → Option (List Bool)
 | [] => some []
 | .bool b :: vs => (Zd0 vs).map fun bs => b :: bs
 | _ :: _ => none
noncomputable def Zsy : List V → Hp → Option (V × Hp)
 | [.ref a], H => H[a]?.bind fun vs => (Zd0 vs).map fun bs => (.bool (bs.all id), H)
 | _, _ => none
noncomputable def Ze9 : List V → Hp → Option (V × Hp)
 | [.ref a], H => H[a]?.bind fun vs => (Zd0 vs).map fun bs => (.bool (bs.any id), H)
 | _, _ => none
theorem ZnW {W : Wd} : ∀ {vs : List V} {xs : List Value} {bs : List Bool}, VRs W vs xs → Zd0 vs = some bs → BoolsAre xs bs := by
 intro vs
 induction vs with
 | nil => intro xs bs h e; cases h; cases e; exact .nil
 | cons v vs ih =>
  intro xs bs h e
  cases h with
  | cons a b =>
   cases v with
   | bool c =>
    obtain ⟨cs, e1, e2⟩ := Zz1.mp e
    subst e2
    cases a
    exact .cons _ (ih b e1)
   | none => cases e
   | int _ => cases e
   | str _ => cases e
   | tup _ => cases e
   | ref _ => cases e
section
variable {prog : Program} {w : World}
theorem Zjk : OpN prog w (fun xs => call (.type "list") xs) Zc5 := by
 intro Γ W ρ H fr s Q E as xs v H' r hx ho post
 unfold Zc5 at ho
 split at ho
 ·obtain ⟨vs, e1, e2⟩ := Zz1.mp ho
  cases e2
  obtain ⟨x, ex, rx⟩ := hx.one
  subst ex
  cases rx with
  | @ref _ a ea =>
   obtain ⟨hl, ys, k, hg, hv⟩ := r.at e1 ea
   refine call_list_seq (hsz := Zcx (by rw [List.size_toArray, hv.length]; exact hl)) a (.inl rfl) hg rfl rfl fun h' c' up hg' => ?_
   obtain ⟨W2, l2, r2, v2⟩ := r.listAt up hg' hv hl
   exact post W2 h' s.toks _ l2 r2 v2
 ·cases ho
  obtain ⟨x, ex, rx⟩ := hx.one
  subst ex
  cases rx with
  | @tup _ a ys k hm hl hv =>
   refine call_list_seq (hsz := Zcx (by rw [List.size_toArray, hv.length]; exact hl)) a (.inr rfl) (r.tupAt hm) rfl rfl fun h' c' up hg' => ?_
   obtain ⟨W2, l2, r2, v2⟩ := r.listAt up hg' hv hl
   exact post W2 h' s.toks _ l2 r2 v2
 ·cases ho
theorem Zrc : OpN prog w (fun xs => call (.builtin "any") xs) Ze9 := by
 intro Γ W ρ H fr s Q E as xs v H' r hx ho post
 unfold Ze9 at ho
 split at ho
 ·obtain ⟨vs, e1, e2⟩ := Zz0.mp ho
  obtain ⟨bs, e3, e4⟩ := Zz1.mp e2
  cases e4
  obtain ⟨x, ex, rx⟩ := hx.one
  subst ex
  cases rx with
  | @ref _ a ea =>
   obtain ⟨hl, ys, k, hg, hv⟩ := r.at e1 ea
   have isl : s.heap.IsList a ys.toArray := ⟨_, hg, rfl, k, rfl⟩
   obtain ⟨m, c, led, r'⟩ := r
   exact any_bools r'.F r'.N Γ.hh isl (ZnW hv e3) fun h' tk F' N' => post W h' tk _ (.refl W) (r'.same F' N') (.bool _)
 ·cases ho
end
section
variable {prog : Program} {w : World} {K : Frag} {p : Program} {loose : List Str} {mean : ExcName → Option Value} {mg mb : Str → Option Value} {Γ : Cx} {dp un : Nat}
theorem Zrd {x : Str} {v : Value} (clr : Clr K p loose mean mg mb Γ dp un) (e : nsIn K mainGlobals x = some (some v)) (hg : Γ.env.globals = mainGlobals) (hk : Γ.env.scope.kind = .function) (hx : Γ.env.kindOf x = some .globalImplicit) (hd : (x == ("__debug__" : Str)) = false) : Nm prog w Γ x v := by
 obtain ⟨_, _, _, _, _, _, _, _, _, _, _, X, T, _⟩ := clr
 intro pos m s Q E F q
 exact Name_function_global hk hx (loadGlobal_global (env := Γ.env) (by rw [hg]; exact T.g.keeps F.keep) (mg_of X T.g e) q) hd
theorem Zpy {x : Str} {v : Value} (clr : Clr K p loose mean mg mb Γ dp un) (e : nsIn K mainGlobals x = some none) (hv : bootBuiltins x = some v) (hn : x ≠ "__name__") (hg : Γ.env.globals = mainGlobals) (hb : Γ.env.builtins = builtinsNs) (hk : Γ.env.scope.kind = .function) (hx : Γ.env.kindOf x = some .globalImplicit) (hd : (x == ("__debug__" : Str)) = false) : Nm prog w Γ x v := by
 obtain ⟨_, _, _, _, _, _, _, _, _, _, _, X, T, _⟩ := clr
 intro pos m s Q E F q
 exact Name_function_global hk hx (loadGlobal_builtin (env := Γ.env) (by rw [hg]; exact T.g.keeps F.keep) (mg_none_of X T.g e) (by rw [hb]; exact T.b.keeps F.keep) ((T.builtins x hn).trans hv) q) hd
end
section
variable {prog : Program} {w : World} {Γ : Cx} {scope : Scope} {cl : List (Str × Addr)} {C : Addr} {ts : List (Str × Nat)} {ρ0 : Lc}
theorem Zqe {x : Str} {t : Nat} (hm : (x, t) ∈ ts) (hk : scope.kind = .function) (hl : (compEnvC scope cl C Γ.env).kindOf x = some .local) (hd : (x == ("__debug__" : Str)) = false) : Rd prog w (ZaS Γ scope cl C ts ρ0) x t := by
 intro W ρ H fr s Q E v pos r e q
 obtain ⟨m, c, led, r⟩ := r
 obtain ⟨oC, m₂, cs, ec, h0, h1, h2, h3, h4⟩ := r.own
 obtain ⟨v', y, e1, e2, e3⟩ := h2 _ hm
 rw [e] at e1
 cases e1
 exact LCgL.ld_own r.N (r.clIn _ (by rw [ec]; exact Zz5)) h1 e2 (q y e3) hk hl hd
end
section
variable {prog : Program} {w : World} {dp un : Nat} {gd : Option (List Code)} {cn : Str} {cs : Scope} {L a : Addr} {ccd : Value} {clf : List (Str × Addr)} {outer : List Env} {h₀ : Heap} {hu : un + 200 < cLine} {names : List Str} {scope : Scope} {cl : List (Str × Addr)} {C : Addr} {ts : List (Str × Nat)} {ρ0 : Lc}
theorem Zqf {x : Str} {i : Nat} (hi : names[i]? = some x) (hx : cs.names.lookup x = some .cell) (hne : ∀ p ∈ ts, p.2 ≠ i) (hcl : cl.lookup x = clf.lookup x) (hk : scope.kind = .function) (hl : (compEnvC scope cl C (envX cn cs L a ccd clf)).kindOf x = some .cell) (hd : (x == ("__debug__" : Str)) = false) :
  Rd prog w (ZaS (Zbf dp un gd cn cs L a ccd clf outer h₀ hu names) scope cl C ts ρ0) x i := by
 intro W ρ H fr s Q E v pos r e q
 obtain ⟨m, c, led, r⟩ := r
 obtain ⟨oC, m₂, cs', ec, h0, h1, h2, h3, h4⟩ := r.own
 rw [h3 i hne] at e
 obtain ⟨d, o, y, g1, g2, g3, g4⟩ := h4.cel i x v hi hx e
 exact kcf_cell r.N (hcl.trans g1) (r.clIn _ (by rw [ec]; exact Zz2 _ g2)) g3 (q y g4) hk hl hd
end
end PM
end
section
set_option maxRecDepth 100000
namespace My
open PySem PySem.W PySem.Calls PyProof.Rows PySem.Spec
structure Cell (v : Int) : Prop where
 bits : Builtin.Int.intBits v ≤ 2 ^ 20
theorem bits_zero : Builtin.Int.intBits 0 ≤ 2 ^ 20 := by unfold Builtin.Int.intBits; simp
theorem cell_at {ns : List Int} (h : PyData.layable0 (.list (ns.map .int)) = true) (i : Int) : Cell (cellAt ns i 0) := by
 refine ⟨?_⟩
 rw [cellAt_def, List.getD_eq_getElem?_getD]
 cases e : ns[i.toNat]? with
 | none => exact bits_zero
 | some v => exact PyData.bits_item_of_ints h (List.mem_of_getElem? e)
section
variable {prog : Program} {w : World} {A : Around} {E : Value → Shared → Prop} {s : Shared} {x y : Int} {t u : Tok} {Q : Value → Shared → Prop}
@[irreducible] noncomputable def T9 : Int := 10 ^ 9
theorem T9_eq : T9 = 1000000000 := by unfold T9; decide +kernel
end
end My
end
section
set_option maxRecDepth 100000
set_option linter.all false
set_option autoImplicit false
/-! Reckoning with the plain machine. -/
namespace PM
open PySem PySem.W PyProof.Rows
section
variable (ρ : Lc) (H : Hp)
@[simp] theorem Zpz : ZeX ρ H = some (none, H) := rfl
@[simp] theorem ZpA (f : Ex) : Zkl f ρ H = (f ρ H).map fun p => (some p.1, p.2) := rfl
end
section
variable (a b : Int) (H : Hp)
end
theorem ZmQ {b : Int} (hb : 0 ≤ b) : Builtin.Range.rangeSize 0 b 1 = b := by
 unfold Builtin.Range.rangeSize
 rw [if_pos (by decide)]
 by_cases h : (0 : Int) < b
 ·rw [if_pos h]
  omega
 ·rw [if_neg h]
  omega
theorem Zre {b : Int} {H : Hp} (hb : 0 ≤ b) (hb9 : b ≤ 1000) : ZbS 0 b 1 H = some (ZdZ 0 1 b.toNat, b.toNat + 1, H) := by
 unfold ZbS rngN
 rw [ZmQ hb, if_pos]
 refine ⟨by decide, ?_, hb, by rw [Za2]; omega, ?_⟩
 ·unfold Builtin.Range.small
  rw [ZmQ hb]
  simp only [Builtin.Range.rangeFitsLong, Bool.and_eq_true, Bool.or_eq_true, decide_eq_true_eq, beq_iff_eq]
  rw [if_pos (by decide)]
  simp only [Bool.and_eq_true, decide_eq_true_eq]
  by_cases h : (0 : Int) < b
  ·refine ⟨⟨⟨⟨?_, ?_⟩, ?_⟩, ?_⟩, Or.inr ?_⟩ <;> omega
  ·refine ⟨⟨⟨⟨?_, ?_⟩, ?_⟩, ?_⟩, ?_⟩ <;> first | omega | (left; omega)
 ·exact PyProof.noPylong_small (by omega)
end PM
end
section
set_option maxRecDepth 100000
set_option linter.all false
set_option autoImplicit false
namespace PM
open PySem PySem.W PyProof.Rows My
theorem Zlq {a b : Int} (h : IntMulOk a b) : mulOk a b = true := by
 unfold IntMulOk at h
 unfold mulOk
 cases e : (decide (Builtin.Int.intBits a > shortFactorBits) && decide (Builtin.Int.intBits b > shortFactorBits) && Builtin.Int.intTooBig (Builtin.Int.intBits a + Builtin.Int.intBits b)) with
 | true => exact absurd e h
 | false => rfl
theorem Zkm {a b : Int} {H : Hp} (h : 0 ≤ b ∧ (Builtin.Int.intBits a : Int) * b ≤ 2 ^ 27) : oPow (.int a) (.int b) H = some (.int (a ^ b.toNat), H) := by simp only [oPow]; rw [if_pos h]
theorem Zr1 (H : Hp) : oPow (.int 10) (.int 9) H = some (.int T9, H) := by rw [Zkm (by decide +kernel)]; unfold T9; rfl
end PM
end
section
set_option maxRecDepth 100000
set_option linter.all false
set_option autoImplicit false
namespace PM
open PySem PySem.W PyProof.Rows My
section
variable {ρ ρ1 ρ2 : Lc} {H H1 H2 H3 : Hp}
theorem Zrf {k : Int} : Zl k ρ H = some (.int k, H) := rfl
theorem Zqg {f g : Ex} {a : Nat} {k : Int} {n : Nat} {vs : List V} (h1 : f ρ H = some (.ref a, H1)) (h2 : g ρ H1 = some (.int k, H2)) (e : H2[a]? = some vs) (hk : k = (n : Int)) : Zj1 f (Zkl g) ZeX ρ H = some (.ref H2.length, H2 ++ [vs.drop n]) := by
 simp only [Zj1, h1, Option.bind_some, ZpA, h2, Option.map_some, Zpz, ZeW, e]
 rw [ZoU vs hk]
end
end PM
end
section
set_option maxRecDepth 100000
set_option linter.all false
set_option autoImplicit false
namespace PM
open PySem PySem.W PyProof.Rows PyProof
noncomputable def Zdc (f : Ex) (k : Nat) : Ex := fun ρ H => (f ρ H).bind fun p => match p.1 with
 | .ref i => p.2[i]?.bind fun vs => some (.ref p.2.length, p.2 ++ [vs.drop k])
 | .tup vs => if 1 ≤ k ∧ k ≤ vs.length then some (.tup (vs.drop k), p.2) else none
 | _ => none
section
variable {prog : Program} {w : World} {Γ : Cx}
theorem Zj5 {e lo : Expr} {p pos : Pos} {f : Ex} {k : Nat} (h : J prog w Γ e f) (hlo : J prog w Γ lo (Zl k)) (ht : ∀ o r, letTemporaryGo e o r = pure () := by intro _ _; rfl) : J prog w Γ (.Subscript e (.Slice (Option.some lo) Option.none Option.none p) pos) (Zdc f k) := by
 intro W ρ H fr s Q E v H' r hf post
 obtain ⟨⟨v1, H1⟩, e1, hf⟩ := Zz0.mp hf
 cases v1 with
 | none => cases hf
 | bool _ => cases hf
 | int _ => cases hf
 | str _ => cases hf
 | ref i =>
  obtain ⟨vs, e2, e3⟩ := Zz0.mp hf
  refine Zp7 h (JP.some hlo) JP.none ht W ρ H fr s Q E v H' r ?_ post
  rw [Zqg (n := k) e1 Zrf e2 rfl]
  exact e3
 | tup vs =>
  simp only at hf
  by_cases c : 1 ≤ k ∧ k ≤ vs.length
  ·rw [if_pos c] at hf
   cases hf
   refine wpAny_Subscript_Slice (T := "tuple") slot_tuple_getitem.lookup (h W ρ H fr s _ E _ _ r e1 fun W1 k1 t1 x l1 r1 x1 => ?_) ht
   refine wpAny_Slice ?_
   refine wpAny_evalPart_some (hlo W1 ρ _ fr _ _ E _ _ r1 rfl fun W2 k2 t2 y l2 r2 y2 => ?_)
   refine wpAny_evalPart_none ?_
   refine wpAny_evalPart_none ?_
   cases y2 with
   | int _ u =>
    have x2 := x1.mono l2
    cases x2 with
    | @tup _ a ys kk hm hl hs =>
     have it : IsTup k2 a ys.toArray := ⟨_, r2.tupAt hm, rfl, kk, rfl⟩
     have it' : IsTup (k2.push { cls := .type "slice", data := .fields #[.int k u, .none, .none] }) a ys.toArray := it.keeps fun _ _ e => Heap.get?_push_of_some _ e
     have hlen := hs.length
     rw [Za2] at hl
     refine ⟨it'.typeIs, getItem_tuple_from it' (Heap.IsSliceOf.new ..) c.1 (by simp [hlen]; exact c.2) ?_ (Zcx (by simp [hlen]; rw [Za2]; exact hl))⟩
     obtain ⟨W4, l4, r4, v4⟩ := (r2.push { cls := .type "slice", data := .fields #[.int k u, .none, .none] }).tuple (k := 0) (hs.drop k) (by rw [Za2]; simp; omega)
     have := post W4 _ t2 _ ((l1.trans l2).trans l4) r4 v4
     simpa using this
  ·rw [if_neg c] at hf
   cases hf
end
section
variable {ρ : Lc} {H : Hp} {Q : V → Hp → Prop}
theorem ZmR {a b c : Int} (hc : 0 < c) (hb : a < b) : Builtin.Range.rangeSize a b c = (b - a - 1) / c + 1 := by
 unfold Builtin.Range.rangeSize
 rw [if_pos hc, if_pos hb]
theorem Zrg {a b c : Int} {H : Hp} (ha : 0 ≤ a) (hb : a < b) (hb9 : b ≤ 1000) (hc : 0 < c) (hc9 : c ≤ 1000) : ZbS a b c H = some (ZdZ a c (rngN a b c), rngN a b c + 1, H) := by
 have e := ZmR hc hb
 have h0 : 0 ≤ (b - a - 1) / c := Int.ediv_nonneg (by omega) (by omega)
 have h2 : (b - a - 1) / c ≤ b - a - 1 := Int.ediv_le_self _ (by omega)
 unfold ZbS
 rw [if_pos]
 refine ⟨by omega, ?_, by omega, by unfold rngN; rw [Za2]; omega, PyProof.noPylong_small (by omega)⟩
 unfold Builtin.Range.small
 rw [e]
 simp only [Builtin.Range.rangeFitsLong, Bool.and_eq_true, Bool.or_eq_true, decide_eq_true_eq, beq_iff_eq]
 rw [if_pos hc]
 simp only [Bool.and_eq_true, decide_eq_true_eq]
 refine ⟨⟨⟨⟨?_, ?_⟩, ?_⟩, ?_⟩, ?_⟩ <;> first | omega | (left; omega) | (right; omega)
end
end PM
end
section
set_option maxRecDepth 100000
set_option linter.all false
set_option autoImplicit false
namespace PM
open PySem PySem.W PyProof.Rows PyProof My
section
variable {ρ : Lc} {H : Hp} {Q : V → Hp → Prop} {L : List V → Hp → Prop}
end
noncomputable def od : Option Int → PyData
 | none => .none
 | some k => .int k
theorem ZkH {a : Int} {k : Nat} (h : Builtin.Int.intBits a ≤ k) : a.natAbs < 2 ^ k := by
 unfold Builtin.Int.intBits at h
 by_cases z : a = 0
 ·subst z
  exact Nat.two_pow_pos k
 ·rw [if_neg (by simpa using z)] at h
  exact Nat.lt_of_lt_of_le Nat.lt_log2_self (Nat.pow_le_pow_right (by decide) h)
theorem ZpB {a b : Int} {k : Nat} (ha : Builtin.Int.intBits a ≤ k) (hb : Builtin.Int.intBits b ≤ k) : Builtin.Int.intBits (a + b) ≤ k + 1 := by
 refine PyProof.Rows.intBits_le ?_
 have h1 := ZkH ha
 have h2 := ZkH hb
 rw [Nat.pow_succ]
 omega
theorem Zlr {a b : Int} (ha : Builtin.Int.intBits a ≤ 2 ^ 21) (hb : Builtin.Int.intBits b ≤ 2 ^ 21) : mulOk a b = true := by
 have e : (2 : Nat) ^ 21 = 2097152 := by decide
 have h : Builtin.Int.intTooBig (Builtin.Int.intBits a + Builtin.Int.intBits b) = false := by
  unfold Builtin.Int.intTooBig bitsLine
  exact decide_eq_false (by omega)
 unfold mulOk
 rw [h]
 simp
theorem Zo1 {a b : Int} (h1 : -(2 ^ 64) < b) (h2 : b < 2 ^ 64) : mulOk a b = true := Zlq (IntMulOk.of_right (intBits_le_64 h1 h2))
theorem Zon {a b : Int} (h1 : -(2 ^ 64) < a) (h2 : a < 2 ^ 64) : mulOk a b = true := Zlq (IntMulOk.of_left (intBits_le_64 h1 h2))
@[irreducible] noncomputable def M9 : Int := 48271 ^ Int.toNat 9
@[irreducible] noncomputable def T40 : Int := 10 ^ Int.toNat 40
theorem Zrh (H : Hp) : oPow (.int 48271) (.int 9) H = some (.int M9, H) := by rw [Zkm (by decide +kernel)]; unfold M9; rfl
theorem Zri (H : Hp) : oPow (.int 10) (.int 40) H = some (.int T40, H) := by rw [Zkm (by decide +kernel)]; unfold T40; rfl
theorem Zgl : T40 = 10000000000000000000000000000000000000000 := by unfold T40; decide +kernel
theorem Zqh : Builtin.Int.intBits M9 ≤ 2 ^ 21 := by
 unfold M9
 exact Nat.le_trans (PyProof.Rows.intBits_le (k := 256) (by decide +kernel)) (by decide)
section
variable {H : Hp} {Q : V → Hp → Prop} {a b : Int}
end
end PM
end
section
set_option maxRecDepth 100000
set_option linter.all false
set_option autoImplicit false
/-! The tree machine: values without places; lists that nobody else holds may be changed. -/
namespace TM
open PySem PM
inductive T where
 | none
 | bool (b : Bool)
 | int (i : Int)
 | str (s : Str)
 | tup (ts : List T)
 | lst (ts : List T)
mutual
inductive RF (H : Hp) : V → T → List Nat → Prop where
 | none : RF H .none .none []
 | bool (b : Bool) : RF H (.bool b) (.bool b) []
 | int (i : Int) : RF H (.int i) (.int i) []
 | str (s : Str) : RF H (.str s) (.str s) []
 | tup {vs : List V} {ts : List T} {F : List Nat} : RFs H vs ts F → RF H (.tup vs) (.tup ts) F
 | ref {a : Nat} {vs : List V} {ts : List T} {F : List Nat} : H[a]? = some vs → RFs H vs ts F → RF H (.ref a) (.lst ts) (a :: F)
inductive RFs (H : Hp) : List V → List T → List Nat → Prop where
 | nil : RFs H [] [] []
 | cons {v : V} {t : T} {F : List Nat} {vs : List V} {ts : List T} {G : List Nat} : RF H v t F → RFs H vs ts G → RFs H (v :: vs) (t :: ts) (F ++ G)
end
mutual
theorem RF.frame {H H' : Hp} {v : V} {t : T} {F : List Nat} (r : RF H v t F) (h : ∀ a ∈ F, H'[a]? = H[a]?) : RF H' v t F := by
 cases r with
 | none => exact .none
 | bool b => exact .bool b
 | int i => exact .int i
 | str s => exact .str s
 | tup hs => exact .tup (RFs.frame hs h)
 | ref e hs => exact .ref ((h _ Zz5).trans e) (RFs.frame hs fun a m => h a (Zz2 _ m))
theorem RFs.frame {H H' : Hp} {vs : List V} {ts : List T} {F : List Nat} (r : RFs H vs ts F) (h : ∀ a ∈ F, H'[a]? = H[a]?) : RFs H' vs ts F := by
 cases r with
 | nil => exact .nil
 | cons a b => exact .cons (RF.frame a fun x m => h x (Zz4 _ m)) (RFs.frame b fun x m => h x (Zz3 _ m))
end
mutual
theorem RF.lt {H : Hp} {v : V} {t : T} {F : List Nat} (r : RF H v t F) : ∀ a ∈ F, a < H.length := by
 cases r with
 | none => intro a m; cases m
 | bool b => intro a m; cases m
 | int i => intro a m; cases m
 | str s => intro a m; cases m
 | tup hs => exact RFs.lt hs
 | ref e hs =>
  intro x m
  rcases List.mem_cons.mp m with rfl | m
  ·exact (Zz6.mp e).1
  ·exact RFs.lt hs x m
theorem RFs.lt {H : Hp} {vs : List V} {ts : List T} {F : List Nat} (r : RFs H vs ts F) : ∀ a ∈ F, a < H.length := by
 cases r with
 | nil => intro a m; cases m
 | cons a b =>
  intro x m
  rcases List.mem_append.mp m with m | m
  ·exact RF.lt a x m
  ·exact RFs.lt b x m
end
theorem RF.ext {H : Hp} {v : V} {t : T} {F : List Nat} (r : RF H v t F) (X : Hp) : RF (H ++ X) v t F := r.frame fun a m => List.getElem?_append_left (r.lt a m)
theorem RFs.ext {H : Hp} {vs : List V} {ts : List T} {F : List Nat} (r : RFs H vs ts F) (X : Hp) : RFs (H ++ X) vs ts F := r.frame fun a m => List.getElem?_append_left (r.lt a m)
theorem RFs.length {H : Hp} : ∀ {vs : List V} {ts : List T} {F : List Nat}, RFs H vs ts F → vs.length = ts.length
 | _, _, _, .nil => rfl
 | _, _, _, .cons _ r => by rw [List.length_cons, List.length_cons, r.length]
theorem RFs.append {H : Hp} : ∀ {vs us : List V} {ts ss : List T} {F G : List Nat}, RFs H vs ts F → RFs H us ss G → RFs H (vs ++ us) (ts ++ ss) (F ++ G)
 | _, _, _, _, _, _, .nil, h => h
 | _, _, _, _, _, _, .cons a r, h => by rw [List.append_assoc]; exact .cons a (r.append h)
theorem RFs.one {H : Hp} {v : V} {t : T} {F : List Nat} (r : RF H v t F) : RFs H [v] [t] F := by
 have := RFs.cons r RFs.nil
 rwa [List.append_nil] at this
theorem RFs.snoc {H : Hp} {vs : List V} {ts : List T} {F G : List Nat} {v : V} {t : T} (r : RFs H vs ts F) (x : RF H v t G) : RFs H (vs ++ [v]) (ts ++ [t]) (F ++ G) := r.append (.one x)
theorem RFs.at {H : Hp} : ∀ {vs : List V} {ts : List T} {F : List Nat} {i : Nat} {t : T}, RFs H vs ts F → ts[i]? = some t → ∃ v G, vs[i]? = some v ∧ RF H v t G ∧ G.Sublist F
 | _, _, _, _, _, .nil, e => by simp at e
 | _, _, _, 0, _, .cons a _, e => by
  simp at e
  exact ⟨_, _, by simp, e ▸ a, List.sublist_append_left _ _⟩
 | _, _, _, i + 1, _, .cons _ r, e => by
  simp at e
  obtain ⟨x, G, hx, hr, hs⟩ := r.at e
  exact ⟨x, G, by simpa using hx, hr, hs.trans (List.sublist_append_right _ _)⟩
theorem RFs.drop {H : Hp} : ∀ {vs : List V} {ts : List T} {F : List Nat} (i : Nat), RFs H vs ts F → ∃ G, RFs H (vs.drop i) (ts.drop i) G ∧ G.Sublist F
 | _, _, _, 0, h => ⟨_, h, List.Sublist.refl _⟩
 | _, _, _, _ + 1, .nil => ⟨_, .nil, List.Sublist.refl _⟩
 | _, _, _, i + 1, .cons _ r => by
  obtain ⟨G, h1, h2⟩ := r.drop i
  exact ⟨G, h1, h2.trans (List.sublist_append_right _ _)⟩
theorem RFs.split {H : Hp} : ∀ {vs : List V} {ts : List T} {F : List Nat} {i : Nat} {t : T}, RFs H vs ts F → ts[i]? = some t →
  ∃ v G F1 F2, vs[i]? = some v ∧ RF H v t G ∧ F = F1 ++ (G ++ F2) ∧ ∀ (H' : Hp) (w : V) (t' : T) (G' : List Nat), RF H' w t' G' → (∀ a ∈ F1, H'[a]? = H[a]?) → (∀ a ∈ F2, H'[a]? = H[a]?) → RFs H' (vs.set i w) (ts.set i t') (F1 ++ (G' ++ F2))
 | _, _, _, _, _, .nil, e => by simp at e
 | _, _, _, 0, _, .cons (G := G1) a r, e => by
  simp at e
  subst e
  exact ⟨_, _, [], G1, by simp, a, by simp, fun H' w t' G' x _ h2 => by simpa using RFs.cons x (r.frame h2)⟩
 | _, _, _, i + 1, _, .cons (F := F0) a r, e => by
  simp at e
  obtain ⟨v, G, F1, F2, h1, h2, h3, h4⟩ := r.split e
  refine ⟨v, G, F0 ++ F1, F2, by simpa using h1, h2, by rw [h3]; simp, fun H' w t' G' x k1 k2 => ?_⟩
  have := RFs.cons (a.frame fun b m => k1 b (Zz4 _ m)) (h4 H' w t' G' x (fun b m => k1 b (Zz3 _ m)) k2)
  simpa using this
theorem Zls {α : Type} {xs : List α} {i : Nat} {x : α} (h : xs[i]? = some x) : xs.set i x = xs := by
 obtain ⟨hi, e⟩ := Zz6.mp h
 rw [← e]
 exact List.set_getElem_self hi
theorem nd3 {F1 G F2 G' Gn : List Nat} (nd : (F1 ++ (G ++ F2)).Nodup) (n' : G'.Nodup) (sub : ∀ a ∈ G', a ∈ G ∨ a ∈ Gn) (ds : ∀ a ∈ Gn, a ∉ F1 ++ (G ++ F2)) : (F1 ++ (G' ++ F2)).Nodup := by
 rw [List.nodup_append, List.nodup_append] at nd ⊢
 obtain ⟨a1, ⟨a2, a3, a4⟩, a5⟩ := nd
 refine ⟨a1, ⟨n', a3, fun x hx y hy e => ?_⟩, fun x hx y hy e => ?_⟩
 ·rcases sub x hx with m | m
  ·exact a4 x m y hy e
  ·exact ds x m (Zz3 _ (Zz3 _ (e ▸ hy)))
 ·rcases List.mem_append.mp hy with m | m
  ·rcases sub y m with q | q
   ·exact a5 x hx y (Zz4 _ q) e
   ·exact ds y q (Zz4 _ (e ▸ hx))
  ·exact a5 x hx y (Zz3 _ m) e
theorem in3 {F1 G F2 G' Gn : List Nat} (sub : ∀ a ∈ G', a ∈ G ∨ a ∈ Gn) : ∀ a ∈ F1 ++ (G' ++ F2), a ∈ F1 ++ (G ++ F2) ∨ a ∈ Gn := by
 intro a m
 rcases List.mem_append.mp m with m | m
 ·exact .inl (Zz4 _ m)
 ·rcases List.mem_append.mp m with m | m
  ·exact (sub a m).imp (fun q => List.mem_append_right _ (Zz4 _ q)) id
  ·exact .inl (Zz3 _ (Zz3 _ m))
mutual
noncomputable def T.flat : T → Bool
 | .lst _ => false
 | .tup ts => T.flats ts
 | .none => true
 | .bool _ => true
 | .int _ => true
 | .str _ => true
noncomputable def T.flats : List T → Bool
 | [] => true
 | t :: ts => t.flat && T.flats ts
end
mutual
theorem RF.flat {H : Hp} {v : V} {t : T} {F : List Nat} (r : RF H v t F) (h : t.flat = true) : F = [] := by
 cases r with
 | none => rfl
 | bool b => rfl
 | int i => rfl
 | str s => rfl
 | tup hs => exact RFs.flats hs (by simpa [T.flat] using h)
 | ref e hs => simp [T.flat] at h
theorem RFs.flats {H : Hp} {vs : List V} {ts : List T} {F : List Nat} (r : RFs H vs ts F) (h : T.flats ts = true) : F = [] := by
 cases r with
 | nil => rfl
 | cons a b =>
  simp only [T.flats, Bool.and_eq_true] at h
  rw [RF.flat a h.1, RFs.flats b h.2]
  rfl
end
noncomputable def T.flatIn : T → Bool
 | .lst ts => T.flats ts
 | t => t.flat
noncomputable def Zdg (f : List T → Option (List T)) : List Int → T → Option T
 | [], .lst ts => (f ts).map .lst
 | k :: ks, .lst ts => (seqIndex? k ts.length).bind fun j => ts[j]?.bind fun t => (Zdg f ks t).map fun u => .lst (ts.set j u)
 | k :: ks, .tup ts => (seqIndex? k ts.length).bind fun j => ts[j]?.bind fun t => (Zdg f ks t).map fun u => .tup (ts.set j u)
 | _, _ => none
inductive Lead (H : Hp) : List Int → V → Nat → Prop where
 | nil {a : Nat} : Lead H [] (.ref a) a
 | ref {k : Int} {ks : List Int} {b : Nat} {vs : List V} {j : Nat} {v : V} {a : Nat} : H[b]? = some vs → seqIndex? k vs.length = some j → vs[j]? = some v → Lead H ks v a → Lead H (k :: ks) (.ref b) a
 | tup {k : Int} {ks : List Int} {vs : List V} {j : Nat} {v : V} {a : Nat} : seqIndex? k vs.length = some j → vs[j]? = some v → Lead H ks v a → Lead H (k :: ks) (.tup vs) a
theorem Zd5 {H : Hp} {Gn : List Nat} {f : List T → Option (List T)} : ∀ (ks : List Int) {v : V} {t t' : T} {F : List Nat}, RF H v t F → F.Nodup → (∀ a ∈ Gn, a ∉ F) → Zdg f ks t = some t' →
  ∃ a vs ts ts' G, Lead H ks v a ∧ a ∈ F ∧ H[a]? = some vs ∧ RFs H vs ts G ∧ f ts = some ts' ∧ G.Nodup ∧ a ∉ G ∧ (∀ x ∈ G, x ∈ F) ∧
   ∀ vs' G', RFs H vs' ts' G' → G'.Nodup → a ∉ G' → (∀ x ∈ G', x ∈ G ∨ x ∈ Gn) → ∃ F', RF (H.set a vs') v t' F' ∧ F'.Nodup ∧ ∀ x ∈ F', x ∈ F ∨ x ∈ Gn
 | [], v, t, t', F, r, nd, ds, e => by
  cases r with
  | @ref a vs ts G e1 hs =>
   obtain ⟨ts', h1, h2⟩ := Zz1.mp e
   subst h2
   rw [List.nodup_cons] at nd
   refine ⟨a, vs, ts, ts', G, .nil, List.mem_cons_self, e1, hs, h1, nd.2, nd.1, fun x m => List.mem_cons_of_mem _ m, fun vs' G' r' n' na sub => ⟨a :: G', ?_, ?_, ?_⟩⟩
   ·have ha := (Zz6.mp e1).1
    refine .ref (List.getElem?_set_self ha) (r'.frame fun b m => List.getElem?_set_ne ?_)
    intro q
    subst q
    exact na m
   ·exact List.nodup_cons.mpr ⟨na, n'⟩
   ·intro x m
    rcases List.mem_cons.mp m with rfl | m
    ·exact .inl Zz5
    ·exact (sub x m).imp (Zz2 _) id
  | none => cases e
  | bool _ => cases e
  | int _ => cases e
  | str _ => cases e
  | tup _ => cases e
 | k :: ks, v, t, t', F, r, nd, ds, e => by
  cases r with
  | none => cases e
  | bool _ => cases e
  | int _ => cases e
  | str _ => cases e
  | @tup vs ts _ hs =>
   obtain ⟨j, e1, e⟩ := Zz0.mp e
   obtain ⟨u, e2, e⟩ := Zz0.mp e
   obtain ⟨u', e3, e⟩ := Zz1.mp e
   subst e
   obtain ⟨w, G1, F1, F2, e4, g1, eF, rb⟩ := hs.split e2
   subst eF
   have nd1 : G1.Nodup := (List.nodup_append.mp (List.nodup_append.mp nd).2.1).1
   have hin : ∀ x ∈ G1, x ∈ F1 ++ (G1 ++ F2) := fun x m => List.mem_append_right _ (Zz4 _ m)
   obtain ⟨a, us, qs, qs', G, l, am, ea, hq, hf, gn, na, gs, go⟩ := Zd5 ks g1 nd1 (fun b m q => ds b m (hin b q)) e3
   refine ⟨a, us, qs, qs', G, .tup (by rw [hs.length]; exact e1) e4 l, hin a am, ea, hq, hf, gn, na, fun x m => hin x (gs x m), fun vs' G' r' n' na' sub => ?_⟩
   obtain ⟨G2, f1, f2, f3⟩ := go vs' G' r' n' na' sub
   obtain ⟨a1, a2, a5⟩ := List.nodup_append.mp nd
   obtain ⟨_, a3, a4⟩ := List.nodup_append.mp a2
   have := rb (H.set a vs') w u' G2 f1 (fun b m => List.getElem?_set_ne fun q => a5 b m a (Zz4 _ am) q.symm) (fun b m => List.getElem?_set_ne fun q => a4 a am b m q)
   rw [Zls e4] at this
   exact ⟨_, .tup this, nd3 nd f2 f3 ds, in3 f3⟩
  | @ref b vs ts F' e0 hs =>
   obtain ⟨j, e1, e⟩ := Zz0.mp e
   obtain ⟨u, e2, e⟩ := Zz0.mp e
   obtain ⟨u', e3, e⟩ := Zz1.mp e
   subst e
   obtain ⟨w, G1, F1, F2, e4, g1, eF, rb⟩ := hs.split e2
   subst eF
   rw [List.nodup_cons] at nd
   obtain ⟨nb, nd⟩ := nd
   have nd1 : G1.Nodup := (List.nodup_append.mp (List.nodup_append.mp nd).2.1).1
   have hin : ∀ x ∈ G1, x ∈ F1 ++ (G1 ++ F2) := fun x m => List.mem_append_right _ (Zz4 _ m)
   have ds' : ∀ a ∈ Gn, a ∉ F1 ++ (G1 ++ F2) := fun a m q => ds a m (Zz2 _ q)
   obtain ⟨a, us, qs, qs', G, l, am, ea, hq, hf, gn, na, gs, go⟩ := Zd5 ks g1 nd1 (fun b m q => ds' b m (hin b q)) e3
   refine ⟨a, us, qs, qs', G, .ref e0 (by rw [hs.length]; exact e1) e4 l, List.mem_cons_of_mem _ (hin a am), ea, hq, hf, gn, na, fun x m => List.mem_cons_of_mem _ (hin x (gs x m)), fun vs' G' r' n' na' sub => ?_⟩
   obtain ⟨G2, f1, f2, f3⟩ := go vs' G' r' n' na' sub
   obtain ⟨a1, a2, a5⟩ := List.nodup_append.mp nd
   obtain ⟨_, a3, a4⟩ := List.nodup_append.mp a2
   have := rb (H.set a vs') w u' G2 f1 (fun b m => List.getElem?_set_ne fun q => a5 b m a (Zz4 _ am) q.symm) (fun b m => List.getElem?_set_ne fun q => a4 a am b m q)
   rw [Zls e4] at this
   have hab : a ≠ b := fun q => nb (hin b (q ▸ am))
   refine ⟨_, .ref ((List.getElem?_set_ne hab).trans e0) this, List.nodup_cons.mpr ⟨fun q => ?_, nd3 nd f2 f3 ds'⟩, fun x m => ?_⟩
   ·rcases in3 f3 b q with m | m
    ·exact nb m
    ·exact ds b m Zz5
   ·rcases List.mem_cons.mp m with rfl | m
    ·exact .inl Zz5
    ·exact (in3 f3 x m).imp (Zz2 _) id
end TM
end
section
set_option maxRecDepth 100000
set_option linter.all false
set_option autoImplicit false
namespace TM
open PySem PM
noncomputable abbrev TL := Nat → Option T
noncomputable abbrev PE := TL → Option T
noncomputable abbrev PEs := TL → Option (List T)
noncomputable abbrev PB := TL → Option Bool
noncomputable abbrev PG := TL → Option (List T)
noncomputable def ZR (σ : TL) (i : Nat) (t : T) : TL := fun j => if j = i then some t else σ j
structure Ctx where
 H0 : Hp
 F0 : List Nat
 P : Nat → Prop
structure St (c : Ctx) (O : List Nat) (ρ : Lc) (σ : TL) (H : Hp) (Φ : Nat → List Nat) : Prop where
 slot : ∀ i t, σ i = some t → ∃ v, ρ i = some v ∧ RF H v t (Φ i)
 src : ∀ i t, σ i = some t → ∀ a ∈ Φ i, c.H0.length ≤ a ∨ c.P a
 own : ∀ i ∈ O, ∀ t, σ i = some t → (Φ i).Nodup ∧ (∀ a ∈ Φ i, c.H0.length ≤ a ∨ a ∈ c.F0) ∧ ∀ j u, j ≠ i → σ j = some u → ∀ a ∈ Φ i, a ∉ Φ j
 len : c.H0.length ≤ H.length
 keep : ∀ a, a < c.H0.length → a ∉ c.F0 → H[a]? = c.H0[a]?
 pos : 0 < c.H0.length
 f0 : 0 ∉ c.F0
theorem St.ext {c : Ctx} {O : List Nat} {ρ : Lc} {σ : TL} {H : Hp} {Φ : Nat → List Nat} (s : St c O ρ σ H Φ) (X : Hp) : St c O ρ σ (H ++ X) Φ :=
 ⟨fun i t e => by obtain ⟨v, h1, h2⟩ := s.slot i t e; exact ⟨v, h1, h2.ext X⟩, s.src, s.own, by have := s.len; rw [List.length_append]; omega, fun a ha hn => by
  rw [List.getElem?_append_left (Nat.lt_of_lt_of_le ha s.len)]; exact s.keep a ha hn, s.pos, s.f0⟩
theorem St.less {c : Ctx} {O O' : List Nat} {ρ : Lc} {σ : TL} {H : Hp} {Φ : Nat → List Nat} (s : St c O ρ σ H Φ) (h : ∀ i ∈ O', i ∈ O) : St c O' ρ σ H Φ := ⟨s.slot, s.src, fun i hi => s.own i (h i hi), s.len, s.keep, s.pos, s.f0⟩
noncomputable def From (H : Hp) (N : List Nat) (σ : TL) (Φ : Nat → List Nat) (a : Nat) : Prop := H.length ≤ a ∨ ∃ i ∈ N, (∃ t, σ i = some t) ∧ a ∈ Φ i
theorem From.mono {H : Hp} {N N' : List Nat} {σ : TL} {Φ : Nat → List Nat} {a : Nat} (f : From H N σ Φ a) (h : ∀ i ∈ N, i ∈ N') : From H N' σ Φ a := f.imp id fun ⟨i, hi, q⟩ => ⟨i, h i hi, q⟩
theorem From.back {H X : Hp} {N : List Nat} {σ : TL} {Φ : Nat → List Nat} {a : Nat} (f : From (H ++ X) N σ Φ a) : From H N σ Φ a := f.imp (fun h => by rw [List.length_append] at h; omega) id
theorem From.nil {H : Hp} {σ : TL} {Φ : Nat → List Nat} {a : Nat} (f : From H [] σ Φ a) : H.length ≤ a := f.elim id fun ⟨_, hi, _⟩ => by cases hi
noncomputable def E (O N : List Nat) (u : Bool) (e : Ex) (p : PE) : Prop := ∀ (c : Ctx) (ρ : Lc) (σ : TL) (H : Hp) (Φ : Nat → List Nat) (t : T), St c O ρ σ H Φ → p σ = some t →
 ∃ v X F, e ρ H = some (v, H ++ X) ∧ RF (H ++ X) v t F ∧ (∀ a ∈ F, From H N σ Φ a) ∧ (u = true → F.Nodup)
noncomputable def Es (O N : List Nat) (u : Bool) (n : Nat) (e : Exs) (p : PEs) : Prop := ∀ (c : Ctx) (ρ : Lc) (σ : TL) (H : Hp) (Φ : Nat → List Nat) (ts : List T), St c O ρ σ H Φ → p σ = some ts →
 ts.length = n ∧ ∃ vs X F, e ρ H = some (vs, H ++ X) ∧ RFs (H ++ X) vs ts F ∧ (∀ a ∈ F, From H N σ Φ a) ∧ (u = true → F.Nodup)
noncomputable def Bt (O : List Nat) (e : Ts) (p : PB) : Prop := ∀ (c : Ctx) (ρ : Lc) (σ : TL) (H : Hp) (Φ : Nat → List Nat) (b : Bool), St c O ρ σ H Φ → p σ = some b → ∃ X, e ρ H = some (b, H ++ X)
section
variable {O N : List Nat} {u : Bool}
theorem Zb0 {O' : List Nat} {e : Ex} {p : PE} (x : E O' N u e p) (h : ∀ i ∈ O', i ∈ O) : E O N u e p := fun c ρ σ H Φ t s => x c ρ σ H Φ t (s.less h)
theorem E.sh {e : Ex} {p : PE} (x : E O N u e p) : E O N false e p := fun c ρ σ H Φ t s q => by
 obtain ⟨v, X, F, a1, a2, a3, a4⟩ := x c ρ σ H Φ t s q
 exact ⟨v, X, F, a1, a2, a3, by simp⟩
noncomputable def Zk (k : Int) : PE := fun _ => some (.int k)
noncomputable def Zaa : PE := fun _ => some .none
noncomputable def ZaO (b : Bool) : PE := fun _ => some (.bool b)
noncomputable def Za (i : Nat) : PE := fun σ => σ i
theorem Zm (k : Int) : E O [] true (Zl k) (Zk k) := fun c ρ σ H Φ t s q => by
 cases q; exact ⟨_, [], [], by simp [Zl], .int k, by simp, by simp⟩
theorem Zak : E O [] true Z3 Zaa := fun c ρ σ H Φ t s q => by
 cases q; exact ⟨_, [], [], by simp [Z3], .none, by simp, by simp⟩
theorem E.bool (k : Bool) : E O [] true (ZaL k) (ZaO k) := fun c ρ σ H Φ t s q => by
 cases q; exact ⟨_, [], [], by simp [ZaL], .bool k, by simp, by simp⟩
theorem Zc (i : Nat) : E O [i] false (Zb i) (Za i) := fun c ρ σ H Φ t s q => by
 obtain ⟨v, h1, h2⟩ := s.slot i t q
 exact ⟨v, [], Φ i, by simp [Zb, h1], by simpa using h2, fun a m => .inr ⟨i, List.mem_cons_self, ⟨t, q⟩, m⟩, by simp⟩
theorem E.own {i : Nat} (hi : i ∈ O) : E O [i] true (Zb i) (Za i) := fun c ρ σ H Φ t s q => by
 obtain ⟨v, h1, h2⟩ := s.slot i t q
 exact ⟨v, [], Φ i, by simp [Zb, h1], by simpa using h2, fun a m => .inr ⟨i, List.mem_cons_self, ⟨t, q⟩, m⟩, fun _ => (s.own i hi t q).1⟩
noncomputable def Zcm (p : PE) : PE := fun σ => (p σ).bind fun t => if t.flat then some t else none
theorem E.flat {e : Ex} {p : PE} (x : E O N u e p) : E O [] true e (Zcm p) := fun c ρ σ H Φ t s q => by
 obtain ⟨t', e1, e2⟩ := Zz0.mp q
 by_cases h : t'.flat = true
 ·rw [if_pos h] at e2
  cases e2
  obtain ⟨v, X, F, a1, a2, a3, a4⟩ := x c ρ σ H Φ t s e1
  have := a2.flat h
  subst this
  exact ⟨v, X, [], a1, a2, by simp, by simp⟩
 ·rw [if_neg h] at e2; cases e2
noncomputable def Zn : PEs := fun _ => some []
noncomputable def Zf (p : PE) (q : PEs) : PEs := fun σ => (p σ).bind fun t => (q σ).bind fun ts => some (t :: ts)
theorem Zp : Es O [] true 0 Zo Zn := fun c ρ σ H Φ ts s q => by
 cases q; exact ⟨rfl, [], [], [], by simp [Zo], .nil, by simp, by simp⟩
theorem Zh {M : List Nat} {u' : Bool} {n : Nat} {e : Ex} {p : PE} {es : Exs} {ps : PEs} (x : E O N u e p) (y : Es O M u' n es ps) : Es O (N ++ M) false (n + 1) (Zg e es) (Zf p ps) := fun c ρ σ H Φ ts s q => by
 obtain ⟨t, e1, q⟩ := Zz0.mp q
 obtain ⟨rs, e2, q⟩ := Zz0.mp q
 cases q
 obtain ⟨v, X, F, a1, a2, a3, a4⟩ := x c ρ σ H Φ t s e1
 obtain ⟨hl, vs, Y, G, b1, b2, b3, b4⟩ := y c ρ σ (H ++ X) Φ rs (s.ext X) e2
 refine ⟨by simp [hl], v :: vs, X ++ Y, F ++ G, by simp [Zg, a1, b1], ?_, fun a m => ?_, by simp⟩
 ·rw [← List.append_assoc]; exact .cons (a2.ext Y) b2
 ·rcases List.mem_append.mp m with m | m
  ·exact (a3 a m).mono fun i hi => List.mem_append_left _ hi
  ·exact (b3 a m).back.mono fun i hi => List.mem_append_right _ hi
theorem Zlt {M : List Nat} {n : Nat} {e : Ex} {p : PE} {es : Exs} {ps : PEs} (x : E O N true e p) (y : Es O M true n es ps) (hN : ∀ i ∈ N, i ∈ O) (hM : ∀ i ∈ N, i ∉ M) : Es O (N ++ M) true (n + 1) (Zg e es) (Zf p ps) := fun c ρ σ H Φ ts s q => by
 obtain ⟨t, e1, q⟩ := Zz0.mp q
 obtain ⟨rs, e2, q⟩ := Zz0.mp q
 cases q
 obtain ⟨v, X, F, a1, a2, a3, a4⟩ := x c ρ σ H Φ t s e1
 obtain ⟨hl, vs, Y, G, b1, b2, b3, b4⟩ := y c ρ σ (H ++ X) Φ rs (s.ext X) e2
 refine ⟨by simp [hl], v :: vs, X ++ Y, F ++ G, by simp [Zg, a1, b1], ?_, fun a m => ?_, fun _ => ?_⟩
 ·rw [← List.append_assoc]; exact .cons (a2.ext Y) b2
 ·rcases List.mem_append.mp m with m | m
  ·exact (a3 a m).mono fun i hi => List.mem_append_left _ hi
  ·exact (b3 a m).back.mono fun i hi => List.mem_append_right _ hi
 ·rw [List.nodup_append]
  refine ⟨a4 rfl, b4 rfl, fun a ha b hb e => ?_⟩
  subst e
  have hlt := a2.lt a ha
  rcases b3 a hb with h | ⟨j, hj, ⟨tj, ej⟩, mj⟩
  ·omega
  ·obtain ⟨vj, _, rj⟩ := s.slot j tj ej
   have := rj.lt a mj
   rcases a3 a ha with h | ⟨i, hi, ⟨ti, ei⟩, mi⟩
   ·omega
   ·exact (s.own i (hN i hi) ti ei).2.2 j tj (fun q => hM i hi (q ▸ hj)) ej a mi mj
noncomputable def ZaU (p : PEs) : PE := fun σ => (p σ).map .tup
noncomputable def Zbs (p : PEs) : PE := fun σ => (p σ).map .lst
theorem E.tup {n : Nat} {e : Exs} {p : PEs} (x : Es O N u n e p) (hn : n ≤ LEN) : E O N u (ZaH e) (ZaU p) := fun c ρ σ H Φ t s q => by
 obtain ⟨ts, e1, e2⟩ := Zz1.mp q
 subst e2
 obtain ⟨hl, vs, Y, G, b1, b2, b3, b4⟩ := x c ρ σ H Φ ts s e1
 have := b2.length
 refine ⟨.tup vs, Y, G, ?_, .tup b2, b3, b4⟩
 simp only [ZaH, b1, Option.bind_some]
 rw [if_pos (by omega)]
theorem E.list {n : Nat} {e : Exs} {p : PEs} (x : Es O N u n e p) (hn : n ≤ LEN) : E O N u (Zbr e) (Zbs p) := fun c ρ σ H Φ t s q => by
 obtain ⟨ts, e1, e2⟩ := Zz1.mp q
 subst e2
 obtain ⟨hl, vs, Y, G, b1, b2, b3, b4⟩ := x c ρ σ H Φ ts s e1
 have := b2.length
 refine ⟨.ref (H ++ Y).length, Y ++ [vs], (H ++ Y).length :: G, ?_, ?_, fun a m => ?_, fun hu => ?_⟩
 ·simp only [Zbr, b1, Option.bind_some]
  rw [if_pos (by omega), List.append_assoc]
 ·rw [← List.append_assoc]; exact .ref (by simp) (b2.ext _)
 ·rcases List.mem_cons.mp m with rfl | m
  ·exact .inl (by simp)
  ·exact b3 a m
 ·rw [List.nodup_cons]
  exact ⟨fun m => Nat.lt_irrefl _ (b2.lt _ m), b4 hu⟩
noncomputable def OA2 (o : V → V → Hp → Option (V × Hp)) (q : T → T → Option T) : Prop := ∀ (H : Hp) (v1 v2 : V) (t1 t2 t : T) (F1 F2 : List Nat), RF H v1 t1 F1 → RF H v2 t2 F2 → q t1 t2 = some t → ∃ v, o v1 v2 H = some (v, H) ∧ RF H v t []
noncomputable def OI2 (o : V → V → Hp → Option (V × Hp)) (q : T → T → Option T) : Prop := ∀ (H : Hp) (v1 v2 : V) (t1 t2 t : T) (F1 F2 : List Nat), RF H v1 t1 F1 → RF H v2 t2 F2 → q t1 t2 = some t → ∃ v F, o v1 v2 H = some (v, H) ∧ RF H v t F ∧ F.Sublist F1
noncomputable def OC2 (o : V → V → Hp → Option (V × Hp)) (q : T → T → Option T) : Prop := ∀ (H : Hp) (v1 v2 : V) (t1 t2 t : T) (F1 F2 : List Nat), RF H v1 t1 F1 → RF H v2 t2 F2 → q t1 t2 = some t → ∃ v X F, o v1 v2 H = some (v, H ++ X) ∧ RF (H ++ X) v t F ∧ (∀ a ∈ F, H.length ≤ a ∨ a ∈ F1 ∨ a ∈ F2) ∧ (t.flatIn = true → F.Nodup ∧ ∀ a ∈ F, H.length ≤ a)
noncomputable def OA1 (o : V → Hp → Option (V × Hp)) (q : T → Option T) : Prop := ∀ (H : Hp) (v1 : V) (t1 t : T) (F1 : List Nat), RF H v1 t1 F1 → q t1 = some t → ∃ v, o v1 H = some (v, H) ∧ RF H v t []
noncomputable def OAn (o : List V → Hp → Option (V × Hp)) (q : List T → Option T) : Prop := ∀ (H : Hp) (vs : List V) (ts : List T) (t : T) (F : List Nat), RFs H vs ts F → q ts = some t → ∃ v, o vs H = some (v, H) ∧ RF H v t []
noncomputable def OCn (o : List V → Hp → Option (V × Hp)) (q : List T → Option T) : Prop := ∀ (H : Hp) (vs : List V) (ts : List T) (t : T) (F1 : List Nat), 0 < H.length → RFs H vs ts F1 → q ts = some t → ∃ v X F, o vs H = some (v, H ++ X) ∧ RF (H ++ X) v t F ∧ (∀ a ∈ F, H.length ≤ a ∨ a ∈ F1) ∧ (t.flatIn = true → F.Nodup ∧ ∀ a ∈ F, H.length ≤ a)
noncomputable def Zd (q : T → T → Option T) (p1 p2 : PE) : PE := fun σ => (p1 σ).bind fun x => (p2 σ).bind fun y => q x y
noncomputable def pUn (q : T → Option T) (p1 : PE) : PE := fun σ => (p1 σ).bind fun x => q x
noncomputable def Zv (q : List T → Option T) (ps : PEs) : PE := fun σ => (ps σ).bind fun xs => q xs
noncomputable def pFl (p : PE) : PE := fun σ => (p σ).bind fun t => if t.flatIn then some t else none
theorem ZfQ {M : List Nat} {u' : Bool} {e1 e2 : Ex} {p1 p2 : PE} {q : T → T → Option T} {o : V → V → Hp → Option (V × Hp)} {c : Ctx} {ρ : Lc} {σ : TL} {H : Hp} {Φ : Nat → List Nat} {t : T} (x : E O N u e1 p1) (y : E O M u' e2 p2) (s : St c O ρ σ H Φ) (h : Zd q p1 p2 σ = some t) :
  ∃ t1 t2 v1 v2 X F1 F2, q t1 t2 = some t ∧ RF (H ++ X) v1 t1 F1 ∧ RF (H ++ X) v2 t2 F2 ∧ (∀ a ∈ F1, From H N σ Φ a) ∧ (∀ a ∈ F2, From H M σ Φ a) ∧ (u = true → F1.Nodup) ∧ Ze o e1 e2 ρ H = o v1 v2 (H ++ X) := by
 obtain ⟨t1, h1, h⟩ := Zz0.mp h
 obtain ⟨t2, h2, h⟩ := Zz0.mp h
 obtain ⟨v, X, F, a1, a2, a3, a4⟩ := x c ρ σ H Φ t1 s h1
 obtain ⟨w, Y, G, b1, b2, b3, b4⟩ := y c ρ σ (H ++ X) Φ t2 (s.ext X) h2
 rw [List.append_assoc] at b1 b2
 refine ⟨t1, t2, v, w, X ++ Y, F, G, h, ?_, b2, a3, fun a m => (b3 a m).back, a4, by simp only [Ze, a1, b1, Option.bind_some]⟩
 rw [← List.append_assoc]; exact a2.ext Y
theorem ZD {M : List Nat} {u' : Bool} {e1 e2 : Ex} {p1 p2 : PE} {q : T → T → Option T} {o : V → V → Hp → Option (V × Hp)} (k : OA2 o q) (x : E O N u e1 p1) (y : E O M u' e2 p2) : E O [] true (Ze o e1 e2) (Zd q p1 p2) := fun c ρ σ H Φ t s h => by
 obtain ⟨t1, t2, v1, v2, X, F1, F2, hq, r1, r2, _, _, _, e⟩ := ZfQ (o := o) x y s h
 obtain ⟨v, h1, h2⟩ := k _ v1 v2 t1 t2 t F1 F2 r1 r2 hq
 exact ⟨v, X, [], e.trans h1, h2, by simp, by simp⟩
theorem Zy {M : List Nat} {u' : Bool} {e1 e2 : Ex} {p1 p2 : PE} {q : T → T → Option T} {o : V → V → Hp → Option (V × Hp)} (k : OI2 o q) (x : E O N u e1 p1) (y : E O M u' e2 p2) : E O N u (Ze o e1 e2) (Zd q p1 p2) := fun c ρ σ H Φ t s h => by
 obtain ⟨t1, t2, v1, v2, X, F1, F2, hq, r1, r2, h1, _, hu, e⟩ := ZfQ (o := o) x y s h
 obtain ⟨v, F, k1, k2, k3⟩ := k _ v1 v2 t1 t2 t F1 F2 r1 r2 hq
 exact ⟨v, X, F, e.trans k1, k2, fun a m => h1 a (k3.subset m), fun h => (hu h).sublist k3⟩
theorem Z8 {M : List Nat} {u' : Bool} {e1 e2 : Ex} {p1 p2 : PE} {q : T → T → Option T} {o : V → V → Hp → Option (V × Hp)} (k : OC2 o q) (x : E O N u e1 p1) (y : E O M u' e2 p2) : E O (N ++ M) false (Ze o e1 e2) (Zd q p1 p2) := fun c ρ σ H Φ t s h => by
 obtain ⟨t1, t2, v1, v2, X, F1, F2, hq, r1, r2, h1, h2, hu, e⟩ := ZfQ (o := o) x y s h
 obtain ⟨v, Y, F, k1, k2, k3, k4⟩ := k _ v1 v2 t1 t2 t F1 F2 r1 r2 hq
 rw [List.append_assoc] at k1 k2
 refine ⟨v, X ++ Y, F, e.trans k1, k2, fun a m => ?_, by simp⟩
 rcases k3 a m with h | h | h
 ·exact .inl (by rw [List.length_append] at h; omega)
 ·exact (h1 a h).mono fun i hi => List.mem_append_left _ hi
 ·exact (h2 a h).mono fun i hi => List.mem_append_right _ hi
theorem Zmr {M : List Nat} {u' : Bool} {e1 e2 : Ex} {p1 p2 : PE} {q : T → T → Option T} {o : V → V → Hp → Option (V × Hp)} (k : OC2 o q) (x : E O N u e1 p1) (y : E O M u' e2 p2) : E O [] true (Ze o e1 e2) (pFl (Zd q p1 p2)) := fun c ρ σ H Φ t s h => by
 obtain ⟨t', h, hf⟩ := Zz0.mp h
 by_cases fl : t'.flatIn = true
 ·rw [if_pos fl] at hf
  cases hf
  obtain ⟨t1, t2, v1, v2, X, F1, F2, hq, r1, r2, h1, h2, hu, e⟩ := ZfQ (o := o) x y s h
  obtain ⟨v, Y, F, k1, k2, k3, k4⟩ := k _ v1 v2 t1 t2 t F1 F2 r1 r2 hq
  rw [List.append_assoc] at k1 k2
  exact ⟨v, X ++ Y, F, e.trans k1, k2, fun a m => .inl (by have := (k4 fl).2 a m; rw [List.length_append] at this; omega), fun _ => (k4 fl).1⟩
 ·rw [if_neg fl] at hf; cases hf
theorem ZeZ {e1 : Ex} {p1 : PE} {q : T → Option T} {o : V → Hp → Option (V × Hp)} (k : OA1 o q) (x : E O N u e1 p1) : E O [] true (eUn o e1) (pUn q p1) := fun c ρ σ H Φ t s h => by
 obtain ⟨t1, h1, h⟩ := Zz0.mp h
 obtain ⟨v, X, F, a1, a2, a3, a4⟩ := x c ρ σ H Φ t1 s h1
 obtain ⟨w, b1, b2⟩ := k _ v t1 t F a2 h
 exact ⟨w, X, [], by simp only [eUn, a1, Option.bind_some, b1], b2, by simp, by simp⟩
theorem ZaG {n : Nat} {es : Exs} {ps : PEs} {q : List T → Option T} {o : List V → Hp → Option (V × Hp)} (k : OAn o q) (x : Es O N u n es ps) : E O [] true (Zw o es) (Zv q ps) := fun c ρ σ H Φ t s h => by
 obtain ⟨ts, h1, h⟩ := Zz0.mp h
 obtain ⟨_, vs, X, F, a1, a2, a3, a4⟩ := x c ρ σ H Φ ts s h1
 obtain ⟨w, b1, b2⟩ := k _ vs ts t F a2 h
 exact ⟨w, X, [], by simp only [Zw, a1, Option.bind_some, b1], b2, by simp, by simp⟩
theorem Zf8 {n : Nat} {es : Exs} {ps : PEs} {q : List T → Option T} {o : List V → Hp → Option (V × Hp)} (k : OCn o q) (x : Es O N u n es ps) : E O N false (Zw o es) (Zv q ps) := fun c ρ σ H Φ t s h => by
 obtain ⟨ts, h1, h⟩ := Zz0.mp h
 obtain ⟨_, vs, X, F, a1, a2, a3, a4⟩ := x c ρ σ H Φ ts s h1
 have hp : 0 < (H ++ X).length := by have := s.pos; have := s.len; rw [List.length_append]; omega
 obtain ⟨w, Y, G, b1, b2, b3, b4⟩ := k _ vs ts t F hp a2 h
 rw [List.append_assoc] at b1 b2
 refine ⟨w, X ++ Y, G, by simp only [Zw, a1, Option.bind_some, b1], b2, fun a m => ?_, by simp⟩
 rcases b3 a m with h | h
 ·exact .inl (by rw [List.length_append] at h; omega)
 ·exact a3 a h
noncomputable def SimF (fr : Bool) (f : List V → Hp → Option (V × Hp)) (p : List T → Option T) : Prop := ∀ (H : Hp) (vs : List V) (ts : List T) (t : T) (F1 : List Nat), 0 < H.length → RFs H vs ts F1 → p ts = some t → ∃ v X F, f vs H = some (v, H ++ X) ∧ RF (H ++ X) v t F ∧ (∀ a ∈ F, H.length ≤ a ∨ a ∈ F1) ∧ (fr = true → F.Nodup ∧ ∀ a ∈ F, H.length ≤ a)
theorem ZM {fr : Bool} {n : Nat} {es : Exs} {ps : PEs} {q : List T → Option T} {o : List V → Hp → Option (V × Hp)} (k : SimF fr o q) (x : Es O N u n es ps) : E O N false (Zw o es) (Zv q ps) := fun c ρ σ H Φ t s h => by
 obtain ⟨ts, h1, h⟩ := Zz0.mp h
 obtain ⟨_, vs, X, F, a1, a2, a3, a4⟩ := x c ρ σ H Φ ts s h1
 have hp : 0 < (H ++ X).length := by have := s.pos; have := s.len; rw [List.length_append]; omega
 obtain ⟨w, Y, G, b1, b2, b3, b4⟩ := k _ vs ts t F hp a2 h
 rw [List.append_assoc] at b1 b2
 refine ⟨w, X ++ Y, G, by simp only [Zw, a1, Option.bind_some, b1], b2, fun a m => ?_, by simp⟩
 rcases b3 a m with h | h
 ·exact .inl (by rw [List.length_append] at h; omega)
 ·exact a3 a h
theorem Zeb {n : Nat} {es : Exs} {ps : PEs} {q : List T → Option T} {o : List V → Hp → Option (V × Hp)} (k : SimF true o q) (x : Es O N u n es ps) : E O [] true (Zw o es) (Zv q ps) := fun c ρ σ H Φ t s h => by
 obtain ⟨ts, h1, h⟩ := Zz0.mp h
 obtain ⟨_, vs, X, F, a1, a2, a3, a4⟩ := x c ρ σ H Φ ts s h1
 have hp : 0 < (H ++ X).length := by have := s.pos; have := s.len; rw [List.length_append]; omega
 obtain ⟨w, Y, G, b1, b2, b3, b4⟩ := k _ vs ts t F hp a2 h
 rw [List.append_assoc] at b1 b2
 exact ⟨w, X ++ Y, G, by simp only [Zw, a1, Option.bind_some, b1], b2, fun a m => .inl (by have := (b4 rfl).2 a m; rw [List.length_append] at this; omega), fun _ => (b4 rfl).1⟩
noncomputable def Zbl : T → Option Bool
 | .bool b => some b
 | .none => some false
 | .int i => some (i != 0)
 | _ => none
theorem Zc0 {H : Hp} {v : V} {t : T} {F : List Nat} {b : Bool} (r : RF H v t F) (h : Zbl t = some b) : Zb8 v H = some b := by
 cases r <;> first | (cases h; rfl) | cases h
noncomputable def ZI (p : PE) : PB := fun σ => (p σ).bind Zbl
noncomputable def Zbg (p : PB) : PB := fun σ => (p σ).map fun b => !b
noncomputable def Zae : PB := fun _ => some true
noncomputable def ZbJ : PB := fun _ => some false
noncomputable def Zbp (p q : PB) : PB := fun σ => (p σ).bind fun b => if b then q σ else some false
noncomputable def bOr (p q : PB) : PB := fun σ => (p σ).bind fun b => if b then some true else q σ
theorem ZL {e : Ex} {p : PE} (x : E O N u e p) : Bt O (ZJ e) (ZI p) := fun c ρ σ H Φ b s h => by
 obtain ⟨t, h1, h⟩ := Zz0.mp h
 obtain ⟨v, X, F, a1, a2, a3, a4⟩ := x c ρ σ H Φ t s h1
 exact ⟨X, by simp only [ZJ, a1, Option.bind_some, Zc0 a2 h, Option.map_some]⟩
theorem ZbK {e : Ts} {p : PB} (x : Bt O e p) : Bt O (Zbt e) (Zbg p) := fun c ρ σ H Φ b s h => by
 obtain ⟨t, h1, h⟩ := Zz1.mp h
 subst h
 obtain ⟨X, a1⟩ := x c ρ σ H Φ t s h1
 exact ⟨X, by simp only [Zbt, a1, Option.map_some]⟩
theorem Zau : Bt O Zaj Zae := fun c ρ σ H Φ b s h => by
 cases h; exact ⟨[], by simp [Zaj]⟩
theorem Zb7 : Bt O ZbH ZbJ := fun c ρ σ H Φ b s h => by
 cases h; exact ⟨[], by simp [ZbH]⟩
theorem ZbL {e f : Ts} {p q : PB} (x : Bt O e p) (y : Bt O f q) : Bt O (Zbn e f) (Zbp p q) := fun c ρ σ H Φ b s h => by
 obtain ⟨t, h1, h⟩ := Zz0.mp h
 obtain ⟨X, a1⟩ := x c ρ σ H Φ t s h1
 cases t with
 | true =>
  obtain ⟨Y, b1⟩ := y c ρ σ (H ++ X) Φ b (s.ext X) (by simpa using h)
  exact ⟨X ++ Y, by simp [Zbn, a1, b1]⟩
 | false => cases h; exact ⟨X, by simp [Zbn, a1]⟩
theorem ZaM {e f : Ts} {p q : PB} (x : Bt O e p) (y : Bt O f q) : Bt O (tOr e f) (bOr p q) := fun c ρ σ H Φ b s h => by
 obtain ⟨t, h1, h⟩ := Zz0.mp h
 obtain ⟨X, a1⟩ := x c ρ σ H Φ t s h1
 cases t with
 | false =>
  obtain ⟨Y, b1⟩ := y c ρ σ (H ++ X) Φ b (s.ext X) (by simpa using h)
  exact ⟨X ++ Y, by simp [tOr, a1, b1]⟩
 | true => cases h; exact ⟨X, by simp [tOr, a1]⟩
noncomputable def pIf (b : PB) (p q : PE) : PE := fun σ => (b σ).bind fun x => if x then p σ else q σ
noncomputable def ZgJ (p : PE) : PE := fun σ => (p σ).bind fun t => (Zbl t).map fun b => .bool !b
noncomputable def ZcF (p q : PE) : PE := fun σ => (p σ).bind fun t => (Zbl t).bind fun b => if b then q σ else some t
noncomputable def pOr (p q : PE) : PE := fun σ => (p σ).bind fun t => (Zbl t).bind fun b => if b then some t else q σ
theorem Ze0 {M : List Nat} {b : Ts} {pb : PB} {e f : Ex} {p q : PE} (z : Bt O b pb) (x : E O N u e p) (y : E O M u f q) : E O (N ++ M) u (eIf b e f) (pIf pb p q) := fun c ρ σ H Φ t s h => by
 obtain ⟨b', h1, h⟩ := Zz0.mp h
 obtain ⟨X, a1⟩ := z c ρ σ H Φ b' s h1
 cases b' with
 | true =>
  obtain ⟨v, Y, F, b1, b2, b3, b4⟩ := x c ρ σ (H ++ X) Φ t (s.ext X) (by simpa using h)
  exact ⟨v, X ++ Y, F, by simp [eIf, a1, b1], by rw [← List.append_assoc]; exact b2, fun a m => (b3 a m).back.mono fun i hi => List.mem_append_left _ hi, b4⟩
 | false =>
  obtain ⟨v, Y, F, b1, b2, b3, b4⟩ := y c ρ σ (H ++ X) Φ t (s.ext X) (by simpa using h)
  exact ⟨v, X ++ Y, F, by simp [eIf, a1, b1], by rw [← List.append_assoc]; exact b2, fun a m => (b3 a m).back.mono fun i hi => List.mem_append_right _ hi, b4⟩
theorem Zr2 {e : Ex} {p : PE} (x : E O N u e p) : E O [] true (ZgG e) (ZgJ p) := fun c ρ σ H Φ t s h => by
 obtain ⟨t1, h1, h⟩ := Zz0.mp h
 obtain ⟨b, h2, h⟩ := Zz1.mp h
 subst h
 obtain ⟨v, X, F, a1, a2, a3, a4⟩ := x c ρ σ H Φ t1 s h1
 exact ⟨.bool !b, X, [], by simp only [ZgG, a1, Option.bind_some, Zc0 a2 h2, Option.map_some], .bool _, by simp, by simp⟩
theorem Ze1 {M : List Nat} {e f : Ex} {p q : PE} (x : E O N u e p) (y : E O M u f q) : E O (N ++ M) u (ZcS e f) (ZcF p q) := fun c ρ σ H Φ t s h => by
 obtain ⟨t1, h1, h⟩ := Zz0.mp h
 obtain ⟨b, h2, h⟩ := Zz0.mp h
 obtain ⟨v, X, F, a1, a2, a3, a4⟩ := x c ρ σ H Φ t1 s h1
 cases b with
 | true =>
  obtain ⟨w, Y, F', b1, b2, b3, b4⟩ := y c ρ σ (H ++ X) Φ t (s.ext X) (by simpa using h)
  exact ⟨w, X ++ Y, F', by simp [ZcS, a1, Zc0 a2 h2, b1], by rw [← List.append_assoc]; exact b2, fun a m => (b3 a m).back.mono fun i hi => List.mem_append_right _ hi, b4⟩
 | false =>
  cases h
  exact ⟨v, X, F, by simp [ZcS, a1, Zc0 a2 h2], a2, fun a m => (a3 a m).mono fun i hi => List.mem_append_left _ hi, a4⟩
theorem Zsr {M : List Nat} {e f : Ex} {p q : PE} (x : E O N u e p) (y : E O M u f q) : E O (N ++ M) u (eOr e f) (pOr p q) := fun c ρ σ H Φ t s h => by
 obtain ⟨t1, h1, h⟩ := Zz0.mp h
 obtain ⟨b, h2, h⟩ := Zz0.mp h
 obtain ⟨v, X, F, a1, a2, a3, a4⟩ := x c ρ σ H Φ t1 s h1
 cases b with
 | false =>
  obtain ⟨w, Y, F', b1, b2, b3, b4⟩ := y c ρ σ (H ++ X) Φ t (s.ext X) (by simpa using h)
  exact ⟨w, X ++ Y, F', by simp [eOr, a1, Zc0 a2 h2, b1], by rw [← List.append_assoc]; exact b2, fun a m => (b3 a m).back.mono fun i hi => List.mem_append_right _ hi, b4⟩
 | true =>
  cases h
  exact ⟨v, X, F, by simp [eOr, a1, Zc0 a2 h2], a2, fun a m => (a3 a m).mono fun i hi => List.mem_append_left _ hi, a4⟩
noncomputable def ZjI : T → String
 | .none => "NoneType"
 | .bool _ => "bool"
 | .int _ => "int"
 | .str _ => "str"
 | .tup _ => "tuple"
 | .lst _ => "list"
end
end TM
end
section
set_option maxRecDepth 100000
set_option linter.all false
set_option autoImplicit false
namespace TM
open PySem PM
section
variable {O N : List Nat} {u : Bool}
noncomputable def Zf9 (K : String) (t : T) : Bool := ZjI t == K || (K == "int" && ZjI t == "bool")
noncomputable def pIs (K : String) (p : PE) : PE := fun σ => (p σ).map fun t => .bool (Zf9 K t)
theorem Zqi {H : Hp} {v : V} {t : T} {F : List Nat} (r : RF H v t F) : ZjH v = ZjI t := by cases r <;> rfl
theorem ZdG {K : String} {e : Ex} {p : PE} (x : E O N u e p) : E O [] true (eIs K e) (pIs K p) := fun c ρ σ H Φ t s h => by
 obtain ⟨t1, h1, h⟩ := Zz1.mp h
 subst h
 obtain ⟨v, X, F, a1, a2, a3, a4⟩ := x c ρ σ H Φ t1 s h1
 exact ⟨.bool (Zf9 K t1), X, [], by simp only [eIs, a1, Option.map_some, Zj2, Zf9, Zqi a2], .bool _, by simp, by simp⟩
noncomputable def Za3 : T → T → Option T
 | .int a, .int b => some (.int (a - b))
 | _, _ => none
noncomputable def ZcG : T → T → Option T
 | .int a, .int b => if b ≠ 0 ∧ Builtin.divisionGoesByPylong a b = false then some (.int (a.fdiv b)) else none
 | _, _ => none
noncomputable def ZaI : T → T → Option T
 | .int a, .int b => if b ≠ 0 then some (.int (a.fmod b)) else none
 | _, _ => none
noncomputable def Zcu : T → T → Option T
 | .int a, .int b => if 0 ≤ b ∧ (Builtin.Int.intBits a : Int) * b ≤ 2 ^ 27 then some (.int (a ^ b.toNat)) else none
 | _, _ => none
noncomputable def ZdH : T → Option T
 | .int a => some (.int (-a))
 | _ => none
noncomputable def ZgK (p : Int → Int → Bool) : T → T → Option T
 | .int a, .int b => some (.bool (p a b))
 | _, _ => none
noncomputable def qLt := ZgK fun a b => decide (a < b)
noncomputable def qLe := ZgK fun a b => decide (a ≤ b)
noncomputable def qGt := ZgK fun a b => decide (b < a)
theorem ZbC : OA2 Zbu Za3 := fun H v1 v2 t1 t2 t F1 F2 r1 r2 h => by
 cases r1 <;> first | (cases h; done) | (cases r2 <;> first | (cases h; done) | (cases h; exact ⟨_, rfl, .int _⟩))
theorem Zec : OA2 oDiv ZcG := fun H v1 v2 t1 t2 t F1 F2 r1 r2 h => by
 cases r1 <;> first | (cases h; done) | skip
 cases r2 <;> first | (cases h; done) | skip
 simp only [ZcG] at h
 split at h
 ·rename_i hc; cases h; exact ⟨_, by simp only [oDiv]; rw [if_pos hc], .int _⟩
 ·cases h
theorem ZaX : OA2 oMod ZaI := fun H v1 v2 t1 t2 t F1 F2 r1 r2 h => by
 cases r1 <;> first | (cases h; done) | skip
 cases r2 <;> first | (cases h; done) | skip
 simp only [ZaI] at h
 split at h
 ·rename_i hc; cases h; exact ⟨_, by simp only [oMod]; rw [if_pos hc], .int _⟩
 ·cases h
theorem Zkn : OA2 oPow Zcu := fun H v1 v2 t1 t2 t F1 F2 r1 r2 h => by
 cases r1 <;> first | (cases h; done) | skip
 cases r2 <;> first | (cases h; done) | skip
 simp only [Zcu] at h
 split at h
 ·rename_i hc; cases h; exact ⟨_, by simp only [oPow]; rw [if_pos hc], .int _⟩
 ·cases h
theorem Ze2 : OA1 ZdD ZdH := fun H v1 t1 t F1 r1 h => by
 cases r1 <;> first | (cases h; done) | (cases h; exact ⟨_, rfl, .int _⟩)
theorem Zko (p : Int → Int → Bool) : OA2 (ZgH p) (ZgK p) := fun H v1 v2 t1 t2 t F1 F2 r1 r2 h => by
 cases r1 <;> first | (cases h; done) | (cases r2 <;> first | (cases h; done) | (cases h; exact ⟨_, rfl, .bool _⟩))
theorem Zdh : OA2 oLt qLt := Zko _
theorem ZgL : OA2 oLe qLe := Zko _
theorem Zfa : OA2 oGt qGt := Zko _
noncomputable def Zdx (f : T → Option PyData) : List T → Option (List PyData)
 | [] => some []
 | v :: vs => (f v).bind fun d => (Zdx f vs).bind fun ds => some (d :: ds)
noncomputable def Zcc : Nat → T → Option PyData
 | _, .none => some .none
 | _, .bool b => some (.bool b)
 | _, .int i => some (.int i)
 | _, .str x => some (.str x)
 | n + 1, .tup vs => (Zdx (Zcc n) vs).map .tuple
 | n + 1, .lst vs => (Zdx (Zcc n) vs).map .list
 | 0, .tup _ => none
 | 0, .lst _ => none
theorem ZjJ {H : Hp} {f : V → Option PyData} {g : T → Option PyData} (h : ∀ v t F, RF H v t F → f v = g t) : ∀ {vs : List V} {ts : List T} {F : List Nat}, RFs H vs ts F → Zed f vs = Zdx g ts
 | _, _, _, .nil => rfl
 | _, _, _, .cons a b => by simp only [Zed, Zdx, h _ _ _ a, ZjJ h b]
theorem Zgm {H : Hp} : ∀ (n : Nat) (v : V) (t : T) (F : List Nat), RF H v t F → toD H n v = Zcc n t := by
 intro n
 induction n with
 | zero => intro v t F r; cases r <;> rfl
 | succ n ih =>
  intro v t F r
  cases r with
  | none => rfl
  | bool => rfl
  | int => rfl
  | str => rfl
  | tup hs => simp only [toD, Zcc, ZjJ ih hs]
  | ref e hs => simp only [toD, Zcc, e, Option.bind_some, ZjJ ih hs]
noncomputable def Zdi (a b : T) : Option Bool := (Zcc Zbo a).bind fun d => (Zcc Zbo b).bind fun e => if SeqAt.shaped d = true ∧ SeqAt.shaped e = true then some (PyData.eqv d e) else none
noncomputable def qEq (a b : T) : Option T := (Zdi a b).map .bool
noncomputable def qNe (a b : T) : Option T := (Zdi a b).map fun c => .bool !c
theorem Zms {H : Hp} {v1 v2 : V} {t1 t2 : T} {F1 F2 : List Nat} (r1 : RF H v1 t1 F1) (r2 : RF H v2 t2 F2) : ZgI v1 v2 H = Zdi t1 t2 := by
 simp only [ZgI, Zdi, Zgm Zbo _ _ _ r1, Zgm Zbo _ _ _ r2]
theorem ZaA : OA2 oEq qEq := fun H v1 v2 t1 t2 t F1 F2 r1 r2 h => by
 obtain ⟨c, h1, h⟩ := Zz1.mp h
 subst h
 exact ⟨_, by simp only [oEq, Zms r1 r2, h1, Option.map_some], .bool _⟩
theorem Zb2 : OA2 oNe qNe := fun H v1 v2 t1 t2 t F1 F2 r1 r2 h => by
 obtain ⟨c, h1, h⟩ := Zz1.mp h
 subst h
 exact ⟨_, by simp only [oNe, Zms r1 r2, h1, Option.map_some], .bool _⟩
noncomputable def qIs : T → T → Option T
 | .none, .none => some (.bool true)
 | _, .none => some (.bool false)
 | _, _ => none
noncomputable def Zcj : T → T → Option T
 | .none, .none => some (.bool false)
 | _, .none => some (.bool true)
 | _, _ => none
theorem Zb3 : OA2 oIs qIs := fun H v1 v2 t1 t2 t F1 F2 r1 r2 h => by
 cases r1 <;> cases r2 <;> first | (cases h; done) | (cases h; exact ⟨_, rfl, .bool _⟩)
theorem Zc3 : OA2 Zcz Zcj := fun H v1 v2 t1 t2 t F1 F2 r1 r2 h => by
 cases r1 <;> cases r2 <;> first | (cases h; done) | (cases h; exact ⟨_, rfl, .bool _⟩)
noncomputable def Zs : T → T → Option T
 | .lst ts, .int k => (seqIndex? k ts.length).bind fun j => ts[j]?
 | .tup ts, .int k => (seqIndex? k ts.length).bind fun j => ts[j]?
 | _, _ => none
theorem Zx : OI2 Zr Zs := fun H v1 v2 t1 t2 t F1 F2 r1 r2 h => by
 cases r1 with
 | none => cases h
 | bool => cases h
 | int => cases h
 | str => cases h
 | tup hs =>
  cases r2 <;> first | (cases h; done) | skip
  obtain ⟨j, h1, h2⟩ := Zz0.mp h
  obtain ⟨v, G, e1, e2, e3⟩ := hs.at h2
  exact ⟨v, G, by simp only [Zr, hs.length, h1, Option.bind_some, e1, Option.map_some], e2, e3⟩
 | ref e hs =>
  cases r2 <;> first | (cases h; done) | skip
  obtain ⟨j, h1, h2⟩ := Zz0.mp h
  obtain ⟨v, G, e1, e2, e3⟩ := hs.at h2
  exact ⟨v, G, by simp only [Zr, e, Option.bind_some, hs.length, h1, e1, Option.map_some], e2, e3.trans (List.sublist_cons_self _ _)⟩
noncomputable def ZaB : List T → Option T
 | [.lst ts] => some (.int ts.length)
 | [.tup ts] => some (.int ts.length)
 | _ => none
theorem RFs.one_inv {H : Hp} {vs : List V} {t : T} {F : List Nat} (r : RFs H vs [t] F) : ∃ v, vs = [v] ∧ RF H v t F := by
 cases r with
 | cons a b => cases b; rw [List.append_nil]; exact ⟨_, rfl, a⟩
theorem RFs.two_inv {H : Hp} {vs : List V} {t t' : T} {F : List Nat} (r : RFs H vs [t, t'] F) : ∃ v v' F1 F2, vs = [v, v'] ∧ RF H v t F1 ∧ RF H v' t' F2 ∧ F = F1 ++ F2 := by
 cases r with
 | cons a b => obtain ⟨v', h1, h2⟩ := b.one_inv; subst h1; exact ⟨_, _, _, _, rfl, a, h2, rfl⟩
theorem Za6 : OAn ZaN ZaB := fun H vs ts t F r h => by
 unfold ZaB at h
 split at h
 ·obtain ⟨v, rfl, r'⟩ := r.one_inv
  cases r' with
  | ref e hs => cases h; exact ⟨_, by simp only [ZaN, e, Option.map_some, hs.length], .int _⟩
 ·obtain ⟨v, rfl, r'⟩ := r.one_inv
  cases r' with
  | tup hs => cases h; exact ⟨_, by simp only [ZaN, hs.length], .int _⟩
 ·cases h
noncomputable def Zdj : List T → Option T
 | [.int a] => some (.int (if a < 0 then -a else a))
 | _ => none
theorem Ze3 : OAn Zdf Zdj := fun H vs ts t F r h => by
 unfold Zdj at h
 split at h
 ·obtain ⟨v, rfl, r'⟩ := r.one_inv
  cases r'; cases h; exact ⟨_, rfl, .int _⟩
 ·cases h
noncomputable def Zcq : List T → Option (List Int)
 | [] => some []
 | .int k :: vs => (Zcq vs).map fun ks => k :: ks
 | _ :: _ => none
noncomputable def Zd6 : List T → Option (List Bool)
 | [] => some []
 | .bool k :: vs => (Zd6 vs).map fun ks => k :: ks
 | _ :: _ => none
theorem Zga {H : Hp} : ∀ {vs : List V} {ts : List T} {F : List Nat} {ks : List Int}, RFs H vs ts F → Zcq ts = some ks → ZcA vs = some ks
 | _, _, _, _, .nil, h => h
 | _, _, _, _, .cons a b, h => by
  cases a <;> first | (cases h; done) | skip
  obtain ⟨js, h1, h2⟩ := Zz1.mp h
  subst h2
  simp only [ZcA, Zga b h1, Option.map_some]
theorem Zlu {H : Hp} : ∀ {vs : List V} {ts : List T} {F : List Nat} {ks : List Bool}, RFs H vs ts F → Zd6 ts = some ks → Zd0 vs = some ks
 | _, _, _, _, .nil, h => h
 | _, _, _, _, .cons a b, h => by
  cases a <;> first | (cases h; done) | skip
  obtain ⟨js, h1, h2⟩ := Zz1.mp h
  subst h2
  simp only [Zd0, Zlu b h1, Option.map_some]
noncomputable def ZgM : List T → Option T
 | [.lst ts] => (Zcq ts).map fun ks => .int ks.sum
 | _ => none
noncomputable def Zfb : List T → Option T
 | [.lst ts] => (Zd6 ts).map fun bs => .bool (bs.any id)
 | _ => none
theorem Zr3 : OAn Ze7 ZgM := fun H vs ts t F r h => by
 unfold ZgM at h
 split at h
 ·obtain ⟨v, rfl, r'⟩ := r.one_inv
  cases r' with
  | ref e hs =>
   obtain ⟨ks, h1, h2⟩ := Zz1.mp h
   subst h2
   exact ⟨_, by simp only [Ze7, e, Option.bind_some, Zga hs h1, Option.map_some], .int _⟩
 ·cases h
theorem Zr4 : OAn Ze9 Zfb := fun H vs ts t F r h => by
 unfold Zfb at h
 split at h
 ·obtain ⟨v, rfl, r'⟩ := r.one_inv
  cases r' with
  | ref e hs =>
   obtain ⟨ks, h1, h2⟩ := Zz1.mp h
   subst h2
   exact ⟨_, by simp only [Ze9, e, Option.bind_some, Zlu hs h1, Option.map_some], .bool _⟩
 ·cases h
theorem ZdI {H : Hp} {vs : List V} {ts : List T} {F : List Nat} (r : RFs H vs ts F) : RF (H ++ [vs]) (.ref H.length) (.lst ts) (H.length :: F) := .ref (by simp) (r.ext _)
theorem Zez {H : Hp} {vs : List V} {ts : List T} {F : List Nat} (r : RFs H vs ts F) (h : T.flatIn (.lst ts) = true) : (H.length :: F).Nodup ∧ ∀ a ∈ H.length :: F, H.length ≤ a := by
 rw [r.flats (by simpa [T.flatIn] using h)]
 simp
theorem ZpC {H : Hp} {v : V} {t : T} {F : List Nat} (r : RF H v t F) (h : F = []) : F.Nodup ∧ ∀ a ∈ F, H.length ≤ a := by subst h; simp
noncomputable def Zfc (ts : List T) : Nat → List T
 | 0 => []
 | n + 1 => Zfc ts n ++ ts
noncomputable def Zad : T → T → Option T
 | .int a, .int b => some (.int (a + b))
 | .lst a, .lst b => if (a ++ b).length ≤ LEN then some (.lst (a ++ b)) else none
 | .tup a, .tup b => if (a ++ b).length ≤ LEN then some (.tup (a ++ b)) else none
 | _, _ => none
noncomputable def ZaE : T → T → Option T
 | .int a, .int b => if mulOk a b = true then some (.int (a * b)) else none
 | .lst a, .int k => if a.length * k.toNat ≤ LEN ∧ -(2 ^ 63 : Int) ≤ k ∧ k < 2 ^ 63 then some (.lst (Zfc a k.toNat)) else none
 | _, _ => none
theorem Zmt {H : Hp} {vs : List V} {ts : List T} {F : List Nat} (r : RFs H vs ts F) : ∀ n, ∃ G, RFs H (ZdE vs n) (Zfc ts n) G ∧ ∀ a ∈ G, a ∈ F
 | 0 => ⟨_, .nil, by simp⟩
 | n + 1 => by
  obtain ⟨G, h1, h2⟩ := Zmt r n
  exact ⟨_, h1.append r, fun a m => (List.mem_append.mp m).elim (h2 a) id⟩
theorem Zan : OC2 Zag Zad := fun H v1 v2 t1 t2 t F1 F2 r1 r2 h => by
 cases r1 with
 | none => cases h
 | bool => cases h
 | str => cases h
 | int a =>
  cases r2 <;> first | (cases h; done) | skip
  cases h; exact ⟨_, [], [], by simp [Zag], .int _, by simp, by simp⟩
 | tup hs1 =>
  cases r2 with
  | none => cases h
  | bool => cases h
  | str => cases h
  | int => cases h
  | ref => cases h
  | tup hs2 =>
   simp only [Zad] at h
   split at h
   ·rename_i hl
    cases h
    refine ⟨_, [], _, ?_, .tup (by simpa using hs1.append hs2), fun a m => .inr (List.mem_append.mp m), fun hf => ZpC (H := H) (.tup (hs1.append hs2)) ((RF.tup (hs1.append hs2)).flat (by simpa [T.flatIn] using hf))⟩
    simp only [Zag, List.append_nil]
    rw [if_pos (by rw [List.length_append] at hl ⊢; rw [hs1.length, hs2.length]; exact hl)]
   ·cases h
 | ref e1 hs1 =>
  cases r2 with
  | none => cases h
  | bool => cases h
  | str => cases h
  | int => cases h
  | tup => cases h
  | ref e2 hs2 =>
   simp only [Zad] at h
   split at h
   ·rename_i hl
    cases h
    refine ⟨_, _, _, ?_, ZdI (hs1.append hs2), fun a m => ?_, Zez (hs1.append hs2)⟩
    ·simp only [Zag, e1, e2, Option.bind_some]
     rw [if_pos (by rw [List.length_append] at hl ⊢; rw [hs1.length, hs2.length]; exact hl)]
    ·rcases List.mem_cons.mp m with rfl | m
     ·exact .inl (Nat.le_refl _)
     ·rcases List.mem_append.mp m with m | m
      ·exact .inr (.inl (Zz2 _ m))
      ·exact .inr (.inr (Zz2 _ m))
   ·cases h
theorem Zbb : OC2 ZaR ZaE := fun H v1 v2 t1 t2 t F1 F2 r1 r2 h => by
 cases r1 with
 | none => cases h
 | bool => cases h
 | str => cases h
 | tup => cases h
 | int a =>
  cases r2 <;> first | (cases h; done) | skip
  simp only [ZaE] at h
  split at h
  ·rename_i hm
   cases h; exact ⟨_, [], [], by simp only [ZaR]; rw [if_pos hm]; simp, .int _, by simp, by simp⟩
  ·cases h
 | ref e1 hs1 =>
  cases r2 with
  | none => cases h
  | bool => cases h
  | str => cases h
  | tup => cases h
  | ref => cases h
  | int k =>
   simp only [ZaE] at h
   split at h
   ·rename_i hl
    cases h
    obtain ⟨G, h1, h2⟩ := Zmt hs1 k.toNat
    refine ⟨_, _, _, ?_, ZdI h1, fun a m => ?_, Zez h1⟩
    ·simp only [ZaR, e1, Option.bind_some]
     rw [if_pos (by rw [hs1.length]; exact hl)]
    ·rcases List.mem_cons.mp m with rfl | m
     ·exact .inl (Nat.le_refl _)
     ·exact .inr (.inl (Zz2 _ (h2 a m)))
   ·cases h
noncomputable def Zdt : List T → Option T
 | [.lst ts] => some (.lst ts)
 | [.tup ts] => some (.lst ts)
 | _ => none
theorem ZjK : OCn Zc5 Zdt := fun H vs ts t F hp r h => by
 unfold Zdt at h
 split at h
 ·obtain ⟨v, rfl, r'⟩ := r.one_inv
  cases r' with
  | ref e hs => cases h; exact ⟨_, _, _, by simp only [Zc5, e, Option.map_some], ZdI hs, fun a m => (List.mem_cons.mp m).imp (fun q => Nat.le_of_eq q.symm) (Zz2 _), Zez hs⟩
 ·obtain ⟨v, rfl, r'⟩ := r.one_inv
  cases r' with
  | tup hs => cases h; exact ⟨_, _, _, by simp only [Zc5], ZdI hs, fun a m => (List.mem_cons.mp m).imp (fun q => Nat.le_of_eq q.symm) id, Zez hs⟩
 ·cases h
end
end TM
end
section
set_option maxRecDepth 100000
set_option linter.all false
set_option autoImplicit false
namespace TM
open PySem PM
theorem St.from_src {c : Ctx} {O N : List Nat} {ρ : Lc} {σ : TL} {H : Hp} {Φ : Nat → List Nat} (s : St c O ρ σ H Φ) {a : Nat} (f : From H N σ Φ a) : c.H0.length ≤ a ∨ c.P a := by
 rcases f with h | ⟨i, hi, ⟨t, e⟩, m⟩
 ·exact .inl (Nat.le_trans s.len h)
 ·exact s.src i t e a m
theorem St.from_off {c : Ctx} {O N : List Nat} {ρ : Lc} {σ : TL} {H : Hp} {Φ : Nat → List Nat} (s : St c O ρ σ H Φ) (hN : ∀ i ∈ N, i ∉ O) {a : Nat} (f : From H N σ Φ a) {i : Nat} (hi : i ∈ O) {t : T} (e : σ i = some t) : a ∉ Φ i := by
 intro m
 obtain ⟨v, _, r⟩ := s.slot i t e
 have hl := r.lt a m
 rcases f with h | ⟨j, hj, ⟨t', e'⟩, m'⟩
 ·omega
 ·exact (s.own i hi t e).2.2 j t' (fun q => hN j hj (q ▸ hi)) e' a m m'
noncomputable abbrev PPt := TL → Option (Option Int)
noncomputable def Zrj : PPt := fun _ => some none
noncomputable def Zsv (p : PE) : PPt := fun σ => (p σ).bind fun t => match t with
 | .int k => some (some k)
 | _ => none
noncomputable def Pe (O : List Nat) (f : Pt) (p : PPt) : Prop := ∀ (c : Ctx) (ρ : Lc) (σ : TL) (H : Hp) (Φ : Nat → List Nat) (k : Option Int), St c O ρ σ H Φ → p σ = some k → ∃ o X, f ρ H = some (o, H ++ X) ∧ ZeW o = some k
section
variable {O N : List Nat} {u : Bool}
theorem Pe.none : Pe O PM.ZeX Zrj := fun c ρ σ H Φ k s h => by
 cases h; exact ⟨Option.none, [], by simp [PM.ZeX], rfl⟩
noncomputable def Zsw (p : PE) (lo hi : PPt) : PE := fun σ => (p σ).bind fun t => (lo σ).bind fun a => (hi σ).bind fun b => match t with
 | .lst ts => Option.some (.lst (Zcl ts a b))
 | _ => Option.none
noncomputable def Zdy (p : PE) (k : Nat) : PE := fun σ => (p σ).bind fun t => match t with
 | .lst ts => Option.some (.lst (ts.drop k))
 | .tup ts => if 1 ≤ k ∧ k ≤ ts.length then Option.some (.tup (ts.drop k)) else Option.none
 | _ => Option.none
theorem Zo2 {c : Ctx} {ρ : Lc} {σ : TL} {H : Hp} {Φ : Nat → List Nat} {t : T} {e : Ex} {p : PE} {k : Nat} (x : E O N u e p) (s : St c O ρ σ H Φ) (h : Zdy p k σ = Option.some t) :
  ∃ v X F, Zdc e k ρ H = Option.some (v, H ++ X) ∧ RF (H ++ X) v t F ∧ (∀ a ∈ F, From H N σ Φ a) ∧ (t.flatIn = true → F.Nodup ∧ ∀ a ∈ F, H.length ≤ a) := by
 obtain ⟨t1, h1, h⟩ := Zz0.mp h
 obtain ⟨v, X, F, a1, a2, a3, a4⟩ := x c ρ σ H Φ t1 s h1
 cases a2 with
 | none => cases h
 | bool => cases h
 | int => cases h
 | str => cases h
 | tup hs =>
  simp only at h
  split at h
  ·rename_i hc
   cases h
   obtain ⟨G, g1, g2⟩ := hs.drop k
   refine ⟨_, X, G, ?_, .tup g1, fun a m => a3 a (g2.subset m), fun hf => ?_⟩
   ·simp only [Zdc, a1, Option.bind_some]
    rw [if_pos (by rw [hs.length]; exact hc)]
   ·rw [g1.flats (by simpa [T.flatIn, T.flat] using hf)]
    simp
  ·cases h
 | @ref b vs1 ts1 F1 e1 hs =>
  cases h
  obtain ⟨G, g1, g2⟩ := hs.drop k
  refine ⟨.ref (H ++ X).length, X ++ [vs1.drop k], (H ++ X).length :: G, ?_, ?_, fun a m => ?_, fun hf => ?_⟩
  ·simp only [Zdc, a1, Option.bind_some, e1, List.append_assoc]
  ·rw [← List.append_assoc]; exact ZdI g1
  ·rcases List.mem_cons.mp m with rfl | m
   ·exact .inl (by simp)
   ·exact a3 a (Zz2 _ (g2.subset m))
  ·have := Zez g1 hf
   exact ⟨this.1, fun q m => by have := this.2 q m; simp at this; omega⟩
theorem Zj6 {e : Ex} {p : PE} {k : Nat} (x : E O N u e p) : E O N false (Zdc e k) (Zdy p k) := fun c ρ σ H Φ t s h => by
 obtain ⟨v, X, F, a1, a2, a3, a4⟩ := Zo2 x s h
 exact ⟨v, X, F, a1, a2, a3, by simp⟩
end
noncomputable def Gs (O N : List Nat) (g : Src) (q : PG) : Prop := ∀ (c : Ctx) (ρ : Lc) (σ : TL) (H : Hp) (Φ : Nat → List Nat) (ts : List T), St c O ρ σ H Φ → q σ = some ts →
 ∃ (nx : Nx) (X : Hp) (vs : List V) (F G : List Nat), g ρ H = some (nx, ts.length + 1, H ++ X) ∧ RFs (H ++ X) vs ts F ∧ (∀ a ∈ F, a ∈ G) ∧ (∀ a ∈ G, a < (H ++ X).length ∧ From H N σ Φ a) ∧ ∀ K : Hp, (∀ a ∈ G, K[a]? = (H ++ X)[a]?) → ∀ i, i ≤ vs.length → nx i K = some vs[i]?
section
variable {O N M : List Nat} {u u' : Bool}
noncomputable def ZaY (p : PE) : PG := fun σ => (p σ).bind fun t => match t with
 | .lst ts => some ts
 | .tup ts => some ts
 | _ => none
theorem Gs.seq {e : Ex} {p : PE} (x : E O N u e p) : Gs O N (Zbe e) (ZaY p) := fun c ρ σ H Φ ts s h => by
 obtain ⟨t1, h1, h⟩ := Zz0.mp h
 obtain ⟨v, X, F, a1, a2, a3, a4⟩ := x c ρ σ H Φ t1 s h1
 have hlt := a2.lt
 cases a2 with
 | none => cases h
 | bool => cases h
 | int => cases h
 | str => cases h
 | @tup vs _ _ hs =>
  cases h
  exact ⟨Zmq vs, X, vs, F, F, by simp only [Zbe, a1, Option.bind_some, hs.length], hs, fun _ m => m, fun a m => ⟨hlt a m, a3 a m⟩, fun K _ i hi => rfl⟩
 | @ref b vs _ F' e1 hs =>
  cases h
  refine ⟨Zj3 b, X, vs, F', b :: F', by simp only [Zbe, a1, Option.bind_some, e1, Option.map_some, hs.length], hs, fun _ m => List.mem_cons_of_mem _ m, fun a m => ⟨hlt a m, a3 a m⟩, fun K hK i hi => ?_⟩
  simp only [Zj3, hK b Zz5, e1, Option.map_some]
noncomputable def ZbP (a b c : Int) : Option (List T) := if c ≠ 0 ∧ Builtin.Range.small a b c = true ∧ 0 ≤ Builtin.Range.rangeSize a b c ∧ rngN a b c ≤ LEN ∧ Builtin.divisionGoesByPylong (b - a) c = false then some ((List.range (rngN a b c)).map fun (i : Nat) => .int (a + (i : Int) * c)) else none
noncomputable def Zax (p : PEs) : PG := fun σ => (p σ).bind fun ts => match ts with
 | [.int b] => ZbP 0 b 1
 | [.int a, .int b] => ZbP a b 1
 | [.int a, .int b, .int c] => ZbP a b c
 | _ => none
theorem Zlv (H : Hp) (a c : Int) : ∀ (l : List Nat), RFs H (l.map fun (i : Nat) => .int (a + (i : Int) * c)) (l.map fun (i : Nat) => .int (a + (i : Int) * c)) []
 | [] => .nil
 | i :: l => by have := RFs.cons (RF.int (H := H) (a + i * c)) (Zlv H a c l); exact this
theorem Zjl {a b c : Int} {H : Hp} {ts : List T} (h : ZbP a b c = some ts) : ∃ (nx : Nx) (vs : List V), ZbS a b c H = some (nx, ts.length + 1, H) ∧ RFs H vs ts [] ∧ ∀ K : Hp, ∀ i, i ≤ vs.length → nx i K = some vs[i]? := by
 unfold ZbP at h
 split at h
 ·rename_i hc
  cases h
  refine ⟨ZdZ a c (rngN a b c), (List.range (rngN a b c)).map fun (i : Nat) => .int (a + (i : Int) * c), ?_, Zlv H a c _, fun K i hi => ?_⟩
  ·unfold ZbS
   rw [if_pos hc]
   simp
  ·simp only [ZdZ, List.getElem?_map]
   by_cases q : i < rngN a b c
   ·rw [if_pos q, List.getElem?_range q]; rfl
   ·rw [if_neg q, List.getElem?_eq_none (by simpa using Nat.le_of_not_lt q)]; rfl
 ·cases h
theorem RFs.three_inv {H : Hp} {vs : List V} {t t' t'' : T} {F : List Nat} (r : RFs H vs [t, t', t''] F) : ∃ v v' v'' F1 F2 F3, vs = [v, v', v''] ∧ RF H v t F1 ∧ RF H v' t' F2 ∧ RF H v'' t'' F3 := by
 cases r with
 | cons a b => obtain ⟨v', v'', F2, F3, h1, h2, h3, _⟩ := b.two_inv; subst h1; exact ⟨_, _, _, _, _, _, rfl, a, h2, h3⟩
theorem Gs.range {n : Nat} {e : Exs} {p : PEs} (x : Es O N u n e p) : Gs O [] (ZaK e) (Zax p) := fun c ρ σ H Φ ts s h => by
 obtain ⟨t1, h1, h⟩ := Zz0.mp h
 obtain ⟨_, vs, X, F, a1, a2, a3, a4⟩ := x c ρ σ H Φ t1 s h1
 split at h
 ·obtain ⟨v, rfl, r⟩ := a2.one_inv
  cases r
  obtain ⟨nx, us, q1, q2, q3⟩ := Zjl (H := H ++ X) h
  exact ⟨nx, X, us, [], [], by simp only [ZaK, a1, Option.bind_some, q1], q2, by simp, by simp, fun K _ => q3 K⟩
 ·obtain ⟨v, v', F1, F2, rfl, r, r', _⟩ := a2.two_inv
  cases r; cases r'
  obtain ⟨nx, us, q1, q2, q3⟩ := Zjl (H := H ++ X) h
  exact ⟨nx, X, us, [], [], by simp only [ZaK, a1, Option.bind_some, q1], q2, by simp, by simp, fun K _ => q3 K⟩
 ·obtain ⟨v, v', v'', F1, F2, F3, rfl, r, r', r''⟩ := a2.three_inv
  cases r; cases r'; cases r''
  obtain ⟨nx, us, q1, q2, q3⟩ := Zjl (H := H ++ X) h
  exact ⟨nx, X, us, [], [], by simp only [ZaK, a1, Option.bind_some, q1], q2, by simp, by simp, fun K _ => q3 K⟩
 ·cases h
noncomputable def ZcU (p q : PE) : PG := fun σ => (p σ).bind fun t => (q σ).bind fun s => match t, s with
 | .lst ts, .lst ss => some (List.zipWith (fun x y => .tup [x, y]) ts ss)
 | _, _ => none
theorem RFs.zip {H : Hp} : ∀ {vs us : List V} {ts ss : List T} {F G : List Nat}, RFs H vs ts F → RFs H us ss G → ∃ D, RFs H (List.zipWith (fun x y => .tup [x, y]) vs us) (List.zipWith (fun x y => .tup [x, y]) ts ss) D ∧ ∀ a ∈ D, a ∈ F ∨ a ∈ G
 | _, _, _, _, _, _, .nil, _ => ⟨_, .nil, by simp⟩
 | _, _, _, _, _, _, .cons _ _, .nil => ⟨_, .nil, by simp⟩
 | _, _, _, _, _, _, .cons a b, .cons a' b' => by
  obtain ⟨D, h1, h2⟩ := b.zip b'
  refine ⟨_, .cons (.tup (.cons a (.one a'))) h1, fun x m => ?_⟩
  rcases List.mem_append.mp m with m | m
  ·rcases List.mem_append.mp m with m | m
   ·exact .inl (Zz4 _ m)
   ·exact .inr (Zz4 _ m)
  ·exact (h2 x m).imp (Zz3 _) (Zz3 _)
theorem Gs.zip {e1 e2 : Ex} {p1 p2 : PE} (x : E O N u e1 p1) (y : E O M u' e2 p2) : Gs O (N ++ M) (ZcT e1 e2) (ZcU p1 p2) := fun c ρ σ H Φ ts s h => by
 obtain ⟨t1, h1, h⟩ := Zz0.mp h
 obtain ⟨t2, h2, h⟩ := Zz0.mp h
 obtain ⟨v, X, F, a1, a2, a3, a4⟩ := x c ρ σ H Φ t1 s h1
 obtain ⟨w, Y, G, b1, b2, b3, b4⟩ := y c ρ σ (H ++ X) Φ t2 (s.ext X) h2
 have a2 := a2.ext Y
 have l1 := a2.lt
 have l2 := b2.lt
 rw [List.append_assoc] at a2 b2 l1 l2 b1
 cases a2 with
 | none => cases h
 | bool => cases h
 | int => cases h
 | str => cases h
 | tup => cases b2 <;> cases h
 | @ref a vs _ F' e1 hs =>
  cases b2 with
  | none => cases h
  | bool => cases h
  | int => cases h
  | str => cases h
  | tup => cases h
  | @ref b us _ G' e2 hs2 =>
   cases h
   obtain ⟨D, d1, d2⟩ := hs.zip hs2
   refine ⟨ZeY a b, X ++ Y, _, D, a :: b :: D, ?_, d1, fun q m => List.mem_cons_of_mem _ (Zz2 _ m), fun q m => ?_, fun K hK i hi => ?_⟩
   ·simp only [ZcT, a1, Option.bind_some, b1, e1, e2, Option.map_some, List.length_zipWith, hs.length, hs2.length]
   ·rcases List.mem_cons.mp m with rfl | m
    ·exact ⟨l1 _ Zz5, (a3 _ Zz5).mono fun i hi => List.mem_append_left _ hi⟩
    ·rcases List.mem_cons.mp m with rfl | m
     ·exact ⟨l2 _ Zz5, (b3 _ Zz5).back.mono fun i hi => List.mem_append_right _ hi⟩
     ·rcases d2 q m with m | m
      ·exact ⟨l1 _ (Zz2 _ m), (a3 _ (Zz2 _ m)).mono fun i hi => List.mem_append_left _ hi⟩
      ·exact ⟨l2 _ (Zz2 _ m), (b3 _ (Zz2 _ m)).back.mono fun i hi => List.mem_append_right _ hi⟩
   ·simp only [ZeY, hK a Zz5, hK b (Zz2 _ Zz5), e1, e2, Option.bind_some, List.getElem?_zipWith]
    rw [List.length_zipWith] at hi
    by_cases q : i < min vs.length us.length
    ·rw [List.getElem?_eq_getElem (show i < vs.length by omega), List.getElem?_eq_getElem (show i < us.length by omega)]
    ·have q' : i = min vs.length us.length := by omega
     by_cases q2 : i < vs.length
     ·rw [List.getElem?_eq_getElem q2, List.getElem?_eq_none (show us.length ≤ i by omega)]
      simp [q']
     ·rw [List.getElem?_eq_none (show vs.length ≤ i by omega)]
      simp [q']
end
noncomputable def PutOk (O J : List Nat) (put : V → Lc → Option Lc) (q : T → TL → Option TL) : Prop := ∀ (c : Ctx) (ρ : Lc) (σ : TL) (H : Hp) (Φ : Nat → List Nat) (v : V) (t : T) (F : List Nat) (σ1 : TL), St c O ρ σ H Φ → RF H v t F → (∀ a ∈ F, c.H0.length ≤ a ∨ c.P a) → (∀ i ∈ O, ∀ t', σ i = some t' → ∀ a ∈ Φ i, a ∉ F) → q t σ = some σ1 →
 ∃ ρ1 Φ1, put v ρ = some ρ1 ∧ St c O ρ1 σ1 H Φ1 ∧ (∀ i, i ∉ J → σ1 i = σ i ∧ Φ1 i = Φ i) ∧ ∀ i ∈ J, ∀ a ∈ Φ1 i, a ∈ F
noncomputable def Zal (Φ : Nat → List Nat) (j : Nat) (F : List Nat) : Nat → List Nat := fun i => if i = j then F else Φ i
theorem St.put {c : Ctx} {O : List Nat} {ρ : Lc} {σ : TL} {H : Hp} {Φ : Nat → List Nat} {v : V} {t : T} {F : List Nat} {j : Nat} (s : St c O ρ σ H Φ) (hj : j ∉ O) (r : RF H v t F) (hs : ∀ a ∈ F, c.H0.length ≤ a ∨ c.P a) (ho : ∀ i ∈ O, ∀ t', σ i = some t' → ∀ a ∈ Φ i, a ∉ F) : St c O (upd ρ j v) (ZR σ j t) H (Zal Φ j F) := by
 refine ⟨fun i u e => ?_, fun i u e => ?_, fun i hi u e => ?_, s.len, s.keep, s.pos, s.f0⟩
 ·by_cases q : i = j
  ·subst q
   simp [ZR] at e
   subst e
   exact ⟨v, by simp [upd], by simpa [Zal] using r⟩
  ·simp [ZR, q] at e
   simpa [upd, Zal, q] using s.slot i u e
 ·by_cases q : i = j
  ·subst q; simpa [Zal] using hs
  ·simp [ZR, q] at e
   simpa [Zal, q] using s.src i u e
 ·have q : i ≠ j := fun q => hj (q ▸ hi)
  simp [ZR, q] at e
  obtain ⟨h1, h2, h3⟩ := s.own i hi u e
  refine ⟨by simpa [Zal, q] using h1, by simpa [Zal, q] using h2, fun k w hk ek => ?_⟩
  by_cases q2 : k = j
  ·subst q2
   simpa [Zal, q] using ho i hi u e
  ·simp [ZR, q2] at ek
   simpa [Zal, q, q2] using h3 k w hk ek
noncomputable def Zac (j : Nat) : T → TL → Option TL := fun t σ => some (ZR σ j t)
noncomputable def Zcb (i j : Nat) : T → TL → Option TL
 | .tup [a, b], σ => some (ZR (ZR σ i a) j b)
 | _, _ => none
theorem PutOk.one {O : List Nat} {j : Nat} (hj : j ∉ O) : PutOk O [j] (Zaf j) (Zac j) := fun c ρ σ H Φ v t F σ1 s r hs ho h => by
 cases h
 refine ⟨_, _, rfl, s.put hj r hs ho, fun i hi => ?_, fun i hi a m => ?_⟩
 ·have : i ≠ j := fun q => hi (by simp [q])
  simp [ZR, Zal, this]
 ·simp at hi; subst hi; simpa [Zal] using m
theorem PutOk.two {O : List Nat} {i j : Nat} (hi : i ∉ O) (hj : j ∉ O) (hij : i ≠ j) : PutOk O [i, j] (ZbO i j) (Zcb i j) := fun c ρ σ H Φ v t F σ1 s r hs ho h => by
 unfold Zcb at h
 split at h
 ·cases h
  cases r with
  | tup hh =>
   obtain ⟨v1, v2, F1, F2, rfl, r1, r2, rfl⟩ := hh.two_inv
   have s1 := s.put hi r1 (fun a m => hs a (Zz4 _ m)) (fun k hk t' e a m q => ho k hk t' e a m (Zz4 _ q))
   have s2 := s1.put hj r2 (fun a m => hs a (Zz3 _ m)) (fun k hk t' e a m q => by
    have : k ≠ i := fun q => hi (q ▸ hk)
    simp [ZR, Zal, this] at e m
    exact ho k hk t' e a m (Zz3 _ q))
   refine ⟨_, _, rfl, s2, fun k hk => ?_, fun k hk a m => ?_⟩
   ·simp at hk
    simp [ZR, Zal, hk.1, hk.2]
   ·simp at hk
    rcases hk with rfl | rfl
    ·simp [Zal, hij] at m
     exact Zz4 _ m
    ·simp [Zal] at m
     exact Zz3 _ m
 ·cases h
noncomputable def Zcr (put : T → TL → Option TL) (c : PB) (f : PE) (σ : TL) : List T → Option (List T)
 | [] => some []
 | t :: ts => (put t σ).bind fun σ1 => (c σ1).bind fun b => if b then (f σ1).bind fun x => (Zcr put c f σ ts).map fun xs => x :: xs else Zcr put c f σ ts
noncomputable def Zah (g : PG) (put : T → TL → Option TL) (c : PB) (f : PE) : PE := fun σ => (g σ).bind fun ts => if ts.length ≤ LEN then (Zcr put c f σ ts).map .lst else none
section
variable {O Ns Ne J : List Nat} {u : Bool}
theorem comp_core {put : V → Lc → Option Lc} {pput : T → TL → Option TL} {tc : Ts} {pc : PB} {f : Ex} {pf : PE} (hj : PutOk O J put pput) (hN : ∀ i ∈ Ns, i ∉ O) (hc : Bt O tc pc) (hf : E O Ne u f pf) (hu : u = true → Ne = [])
  {c : Ctx} {ρ : Lc} {σ : TL} {Φ : Nat → List Nat} {H0 H1 : Hp} {nx : Nx} {vs : List V} {G : List Nat} (h0 : H0.length ≤ H1.length)
  (hG : ∀ a ∈ G, a < H1.length ∧ From H0 Ns σ Φ a) (hoff : ∀ a ∈ G, ∀ i ∈ O, ∀ t, σ i = some t → a ∉ Φ i) (hsrc : ∀ a ∈ G, c.H0.length ≤ a ∨ c.P a) (hnx : ∀ K : Hp, (∀ a ∈ G, K[a]? = H1[a]?) → ∀ i, i ≤ vs.length → nx i K = some vs[i]?) :
  ∀ (rs : List T) (ws : List V) (i : Nat) (acc : List V) (K : Hp) (Fr : List Nat) (out : List T), (∀ j, vs[i + j]? = ws[j]?) → i + ws.length = vs.length → St c O ρ σ K Φ → H1.length ≤ K.length → (∀ a ∈ G, K[a]? = H1[a]?) → RFs K ws rs Fr → (∀ a ∈ Fr, a ∈ G) → acc.length + rs.length ≤ LEN → Zcr pput pc pf σ rs = some out →
   ∃ xs X F, Zca nx put tc f ρ (rs.length + 1) i acc K = some (acc ++ xs, K ++ X) ∧ RFs (K ++ X) xs out F ∧ (∀ a ∈ F, (u = true → K.length ≤ a) ∧ From H0 (Ns ++ Ne) σ Φ a) ∧ (u = true → F.Nodup)
 | [], ws, i, acc, K, Fr, out, hat, hlen, s, hl, hk, r, hfr, hacc, h => by
  cases r
  cases h
  have e := hnx K hk i (by simp at hlen; omega)
  have e2 : vs[i]? = none := by have := hat 0; simpa using this
  refine ⟨[], [], [], ?_, .nil, by simp, by simp⟩
  simp [Zca, e, e2]
 | t :: rs, ws0, i, acc, K, Fr0, out, hat, hlen, s, hl, hk, r, hfr, hacc, h => by
  cases r with
  | @cons v _ F1 ws _ F2 a b =>
  simp only [List.length_cons] at hlen hacc
  obtain ⟨σ1, h1, h⟩ := Zz0.mp h
  obtain ⟨bb, h2, h⟩ := Zz0.mp h
  have e := hnx K hk i (by omega)
  have e2 : vs[i]? = some v := by have := hat 0; simpa using this
  have hat' : ∀ j, vs[i + 1 + j]? = ws[j]? := fun j => by have := hat (j + 1); rw [show i + 1 + j = i + (j + 1) by omega, this]; simp
  obtain ⟨ρ1, Φ1, p1, s1, p3, p4⟩ := hj c ρ σ K Φ v t F1 σ1 s a (fun x m => hsrc x (hfr x (Zz4 _ m))) (fun k hk t' e x m q => hoff x (hfr x (Zz4 _ q)) k hk t' e m) h1
  obtain ⟨X1, c1⟩ := hc c ρ1 σ1 K Φ1 bb s1 h2
  cases bb with
  | true =>
   obtain ⟨y, h3, h⟩ := Zz0.mp h
   obtain ⟨ys, h4, h⟩ := Zz1.mp h
   subst h
   obtain ⟨w, X2, Fw, d1, d2, d3, d4⟩ := hf c ρ1 σ1 (K ++ X1) Φ1 y (s1.ext X1) h3
   have hext : ∀ a ∈ G, (K ++ X1 ++ X2)[a]? = H1[a]? := fun a m => by
    have := (hG a m).1
    rw [List.append_assoc, List.getElem?_append_left (by omega)]; exact hk a m
   obtain ⟨xs, X3, F3, f1, f2, f3, f4⟩ := comp_core hj hN hc hf hu h0 hG hoff hsrc hnx rs ws (i + 1) (acc ++ [w]) (K ++ X1 ++ X2) F2 ys hat' (by omega) ((s.ext X1).ext X2) (by simp; omega) hext (by rw [List.append_assoc]; exact b.ext _) (fun x m => hfr x (Zz3 _ m)) (by simp; omega) h4
   refine ⟨w :: xs, X1 ++ X2 ++ X3, Fw ++ F3, ?_, ?_, fun x m => ?_, fun hu' => ?_⟩
   ·rw [List.length_cons, Zca, e, e2]
    simp only [Option.bind_some, p1, c1, d1, if_true]
    rw [if_pos (by omega)]
    simpa using f1
   ·have := RFs.cons (d2.ext X3) f2
    simpa using this
   ·rcases List.mem_append.mp m with m | m
    ·refine ⟨fun hu' => ?_, ?_⟩
     ·have hne := hu hu'
      subst hne
      have := (d3 x m).nil
      simp at this; omega
     ·rcases d3 x m with q | ⟨k, hk1, ⟨tk, ek⟩, mk⟩
      ·exact .inl (by simp at q; omega)
      ·by_cases hkJ : k ∈ J
       ·exact (hG x (hfr x (Zz4 _ (p4 k hkJ x mk)))).2.mono fun i hi => List.mem_append_left _ hi
       ·obtain ⟨q1, q2⟩ := p3 k hkJ
        exact .inr ⟨k, List.mem_append_right _ hk1, ⟨tk, q1 ▸ ek⟩, q2 ▸ mk⟩
    ·obtain ⟨g1, g2⟩ := f3 x m
     exact ⟨fun hu' => by have := g1 hu'; simp at this; omega, g2⟩
   ·rw [List.nodup_append]
    refine ⟨d4 hu', f4 hu', fun x hx y hy e => ?_⟩
    have l1 := d2.lt x hx
    have l2 := (f3 y hy).1 hu'
    omega
  | false =>
   have hext : ∀ a ∈ G, (K ++ X1)[a]? = H1[a]? := fun a m => by
    have := (hG a m).1
    rw [List.getElem?_append_left (by omega)]; exact hk a m
   obtain ⟨xs, X3, F3, f1, f2, f3, f4⟩ := comp_core hj hN hc hf hu h0 hG hoff hsrc hnx rs ws (i + 1) acc (K ++ X1) F2 out hat' (by omega) (s.ext X1) (by simp; omega) hext (b.ext _) (fun x m => hfr x (Zz3 _ m)) (by omega) (by simpa using h)
   refine ⟨xs, X1 ++ X3, F3, ?_, by simpa using f2, fun x m => ?_, f4⟩
   ·rw [List.length_cons, Zca, e, e2]
    simp only [Option.bind_some, p1, c1]
    simpa using f1
   ·obtain ⟨g1, g2⟩ := f3 x m
    exact ⟨fun hu' => by have := g1 hu'; simp at this; omega, g2⟩
theorem Zmu {g : Src} {q : PG} {put : V → Lc → Option Lc} {pput : T → TL → Option TL} {tc : Ts} {pc : PB} {f : Ex} {pf : PE} (hg : Gs O Ns g q) (hj : PutOk O J put pput) (hN : ∀ i ∈ Ns, i ∉ O) (hc : Bt O tc pc) (hf : E O Ne u f pf) (hu : u = true → Ne = []) : E O (if u then [] else Ns ++ Ne) u (Zao g put tc f) (Zah q pput pc pf) := fun c ρ σ H Φ t s h => by
 obtain ⟨ts, h1, h⟩ := Zz0.mp h
 split at h
 ·rename_i hl
  obtain ⟨out, h2, h⟩ := Zz1.mp h
  subst h
  obtain ⟨nx, X, vs, F, G, g1, g2, g3, g4, g5⟩ := hg c ρ σ H Φ ts s h1
  obtain ⟨xs, Y, F', d1, d2, d3, d4⟩ := comp_core hj hN hc hf hu (H0 := H) (H1 := H ++ X) (by simp) g4 (fun a m i hi t e => s.from_off hN (g4 a m).2 hi e) (fun a m => s.from_src (g4 a m).2) g5 ts vs 0 [] (H ++ X) F out (by simp) (by simp) (s.ext X) (Nat.le_refl _) (fun _ _ => rfl) g2 g3 (by simpa using hl) h2
  refine ⟨.ref (H ++ X ++ Y).length, X ++ Y ++ [xs], (H ++ X ++ Y).length :: F', ?_, ?_, fun a m => ?_, fun hu' => ?_⟩
  ·simp only [Zao, g1, Option.bind_some, d1, Option.map_some, List.nil_append, List.append_assoc]
  ·have := ZdI d2
   simpa using this
  ·rcases List.mem_cons.mp m with rfl | m
   ·exact .inl (by simp)
   ·obtain ⟨q1, q2⟩ := d3 a m
    cases u with
    | true => exact .inl (by have := q1 rfl; simp at this; omega)
    | false => exact q2
  ·rw [List.nodup_cons]
   exact ⟨fun m => Nat.lt_irrefl _ (d2.lt _ m), d4 hu'⟩
 ·cases h
end
end TM
end
section
set_option maxRecDepth 100000
set_option linter.all false
set_option autoImplicit false
namespace TM
open PySem PM
noncomputable abbrev PS := TL → Option (Option T × TL)
noncomputable def Zb1 (σ : TL) (N : List Nat) : TL := fun j => if j ∈ N then none else σ j
noncomputable def Zcd (O : List Nat) (σ : TL) (Φ : Nat → List Nat) (a : Nat) : Prop := ∃ j ∈ O, (∃ t, σ j = some t) ∧ a ∈ Φ j
noncomputable def Aft (c : Ctx) (O O' R : List Nat) (fr : Bool) (σ : TL) (H : Hp) (Φ : Nat → List Nat) (g : Option (Option V × Lc × Hp)) (r : Option T × TL) : Prop :=
 ∃ ρ' H' Φ', H.length ≤ H'.length ∧ (∀ a, a < H.length → ¬ Zcd O σ Φ a → H'[a]? = H[a]?) ∧
  ((r.1 = none ∧ g = some (none, ρ', H') ∧ St c O' ρ' r.2 H' Φ' ∧ ∀ a, Zcd O' r.2 Φ' a → H.length ≤ a ∨ Zcd O σ Φ a) ∨
  ∃ t v F, r.1 = some t ∧ g = some (some v, ρ', H') ∧ RF H' v t F ∧ St c R ρ' r.2 H' Φ' ∧ (∀ a ∈ F, c.H0.length ≤ a ∨ c.P a) ∧ (fr = true → F.Nodup ∧ ∀ a ∈ F, c.H0.length ≤ a ∨ a ∈ c.F0))
noncomputable def S (O O' R : List Nat) (fr : Bool) (g : Sm) (q : PS) : Prop := ∀ (c : Ctx) (ρ : Lc) (σ : TL) (H : Hp) (Φ : Nat → List Nat) (r : Option T × TL), St c O ρ σ H Φ → q σ = some r → Aft c O O' R fr σ H Φ (g ρ H) r
section
variable {O O' R : List Nat} {fr : Bool}
noncomputable def ZX : PS := fun σ => some (none, σ)
theorem Z6 : S O O R fr ZW ZX := fun c ρ σ H Φ r s e => by
 cases e
 exact ⟨ρ, H, Φ, Nat.le_refl _, fun _ _ _ => rfl, .inl ⟨rfl, rfl, s, fun a m => .inr m⟩⟩
noncomputable def Zu (a b : PS) : PS := fun σ => (a σ).bind fun r => match r.1 with
 | some _ => some r
 | none => b r.2
theorem ZC {O1 : List Nat} {a b : Sm} {p q : PS} (x : S O O1 R fr a p) (y : S O1 O' R fr b q) : S O O' R fr (Zt a b) (Zu p q) := fun c ρ σ H Φ r s e => by
 obtain ⟨r1, e1, e⟩ := Zz0.mp e
 obtain ⟨ρ1, H1, Φ1, h1, h2, h3⟩ := x c ρ σ H Φ r1 s e1
 rcases h3 with ⟨k1, k2, k3, k4⟩ | ⟨t, v, F, k1, k2, k3⟩
 ·rw [k1] at e
  obtain ⟨ρ2, H2, Φ2, g1, g2, g3⟩ := y c ρ1 r1.2 H1 Φ1 r k3 e
  refine ⟨ρ2, H2, Φ2, Nat.le_trans h1 g1, fun a ha hn => ?_, ?_⟩
  ·rw [g2 a (by omega) fun q => (k4 a q).elim (fun q => by omega) hn, h2 a ha hn]
  ·have eg : Zt a b ρ H = b ρ1 H1 := by simp only [Zt, k2, Option.bind_some]
   rw [eg]
   rcases g3 with ⟨l1, l2, l3, l4⟩ | l
   ·refine .inl ⟨l1, l2, l3, fun a m => ?_⟩
    rcases l4 a m with q | q
    ·exact .inl (by omega)
    ·exact k4 a q
   ·exact .inr l
 ·rw [k1] at e
  cases e
  exact ⟨ρ1, H1, Φ1, h1, h2, .inr ⟨t, v, F, k1, by simp only [Zt, k2, Option.bind_some], k3⟩⟩
noncomputable def ZF (p : PE) : PS := fun σ => (p σ).map fun t => (some t, σ)
theorem ZK {N : List Nat} {u : Bool} {e : Ex} {p : PE} (x : E O N u e p) (hR : ∀ i ∈ R, i ∈ O) : S O O' R false (ZE e) (ZF p) := fun c ρ σ H Φ r s q => by
 obtain ⟨t, h1, h⟩ := Zz1.mp q
 subst h
 obtain ⟨v, X, F, a1, a2, a3, a4⟩ := x c ρ σ H Φ t s h1
 refine ⟨ρ, H ++ X, Φ, by simp, fun a ha _ => List.getElem?_append_left ha, .inr ⟨t, v, F, rfl, by simp only [ZE, a1, Option.map_some], a2, (s.ext X).less hR, fun a m => s.from_src (a3 a m), by simp⟩⟩
theorem ZcP {N : List Nat} {e : Ex} {p : PE} (x : E O N true e p) (hN : ∀ i ∈ N, i ∈ O) (hR : ∀ i ∈ R, i ∈ O) : S O O' R fr (ZE e) (ZF p) := fun c ρ σ H Φ r s q => by
 obtain ⟨t, h1, h⟩ := Zz1.mp q
 subst h
 obtain ⟨v, X, F, a1, a2, a3, a4⟩ := x c ρ σ H Φ t s h1
 refine ⟨ρ, H ++ X, Φ, by simp, fun a ha _ => List.getElem?_append_left ha, .inr ⟨t, v, F, rfl, by simp only [ZE, a1, Option.map_some], a2, (s.ext X).less hR, fun a m => s.from_src (a3 a m), fun _ => ⟨a4 rfl, fun a m => ?_⟩⟩⟩
 rcases a3 a m with q | ⟨i, hi, ⟨t', e'⟩, m'⟩
 ·exact .inl (Nat.le_trans s.len q)
 ·exact (s.own i (hN i hi) t' e').2.1 a m'
noncomputable def ZP (i : Nat) (p : PE) : PS := fun σ => (p σ).map fun t => (none, ZR σ i t)
theorem Z2 {N : List Nat} {u : Bool} {i : Nat} {e : Ex} {p : PE} (x : E O N u e p) (hi : i ∉ O') (hN : ∀ j ∈ N, j ∉ O') (hO : ∀ j ∈ O', j ∈ O) : S O O' R fr (ZN i e) (ZP i p) := fun c ρ σ H Φ r s q => by
 obtain ⟨t, h1, h⟩ := Zz1.mp q
 subst h
 obtain ⟨v, X, F, a1, a2, a3, a4⟩ := x c ρ σ H Φ t s h1
 have s' := s.less hO
 refine ⟨upd ρ i v, H ++ X, Zal Φ i F, by simp, fun a ha _ => List.getElem?_append_left ha, .inl ⟨rfl, by simp only [ZN, a1, Option.map_some], (s'.ext X).put hi a2 (fun a m => s.from_src (a3 a m)) (fun k hk t' e' a m q => ?_), fun a m => ?_⟩⟩
 ·exact s'.from_off hN (a3 a q) hk e' m
 ·obtain ⟨k, hk, ⟨t', e'⟩, m⟩ := m
  have : k ≠ i := fun q => hi (q ▸ hk)
  simp [ZR, this] at e'
  simp [Zal, this] at m
  exact .inr ⟨k, hO k hk, ⟨t', e'⟩, m⟩
theorem Zc6 {i : Nat} {e : Ex} {p : PE} (x : E O [] true e p) (hO : ∀ j ∈ O', j ∈ O ∨ j = i) : S O O' R fr (ZN i e) (ZP i p) := fun c ρ σ H Φ r s q => by
 obtain ⟨t, h1, h⟩ := Zz1.mp q
 subst h
 obtain ⟨v, X, F, a1, a2, a3, a4⟩ := x c ρ σ H Φ t s h1
 have hnew : ∀ a ∈ F, H.length ≤ a := fun a m => (a3 a m).nil
 have hold : ∀ k t', σ k = some t' → ∀ a ∈ Φ k, a < H.length := fun k t' e a m => by
  obtain ⟨_, _, r⟩ := s.slot k t' e
  exact r.lt a m
 refine ⟨upd ρ i v, H ++ X, Zal Φ i F, by simp, fun a ha _ => List.getElem?_append_left ha, .inl ⟨rfl, by simp only [ZN, a1, Option.map_some], ⟨fun k t' e' => ?_, fun k t' e' => ?_, fun k hk t' e' => ?_, (s.ext X).len, (s.ext X).keep, s.pos, s.f0⟩, fun a m => ?_⟩⟩
 ·by_cases q : k = i
  ·subst q
   simp [ZR] at e'
   subst e'
   exact ⟨v, by simp [upd], by simpa [Zal] using a2⟩
  ·simp [ZR, q] at e'
   simpa [upd, Zal, q] using (s.ext X).slot k t' e'
 ·by_cases q : k = i
  ·subst q; simpa [Zal] using fun a m => s.from_src (a3 a m)
  ·simp [ZR, q] at e'
   simpa [Zal, q] using s.src k t' e'
 ·by_cases q : k = i
  ·subst q
   simp only [Zal, if_true]
   refine ⟨a4 rfl, fun a m => .inl (Nat.le_trans s.len (hnew a m)), fun j w hj ej a m q => ?_⟩
   simp [ZR, hj] at ej
   rw [if_neg hj] at q
   have := hold j w ej a q
   have := hnew a m
   omega
  ·have hk' := (hO k hk).resolve_right q
   simp [ZR, q] at e'
   obtain ⟨o1, o2, o3⟩ := s.own k hk' t' e'
   refine ⟨by simpa [Zal, q] using o1, by simpa [Zal, q] using o2, fun j w hj ej a m => ?_⟩
   simp [Zal, q] at m
   by_cases q2 : j = i
   ·subst q2
    simp only [Zal, if_true]
    intro m2
    have := hold k t' e' a m
    have := hnew a m2
    omega
   ·simp [ZR, q2] at ej
    simpa [Zal, q2] using o3 j w hj ej a m
 ·obtain ⟨k, hk, ⟨t', e'⟩, m⟩ := m
  by_cases q : k = i
  ·subst q
   simp [Zal] at m
   exact .inl (hnew a m)
  ·simp [ZR, q] at e'
   simp [Zal, q] at m
   exact .inr ⟨k, (hO k hk).resolve_right q, ⟨t', e'⟩, m⟩
noncomputable def ZT (b : PB) (p q : PS) : PS := fun σ => (b σ).bind fun x => if x then p σ else q σ
theorem Aft.grow {c : Ctx} {σ : TL} {H X : Hp} {Φ : Nat → List Nat} {g : Option (Option V × Lc × Hp)} {r : Option T × TL} (h : Aft c O O' R fr σ (H ++ X) Φ g r) : Aft c O O' R fr σ H Φ g r := by
 obtain ⟨ρ', H', Φ', h1, h2, h3⟩ := h
 rw [List.length_append] at h1
 refine ⟨ρ', H', Φ', by omega, fun a ha hn => ?_, ?_⟩
 ·rw [h2 a (by rw [List.length_append]; omega) hn, List.getElem?_append_left ha]
 ·rcases h3 with ⟨k1, k2, k3, k4⟩ | k
  ·exact .inl ⟨k1, k2, k3, fun a m => (k4 a m).imp (fun q => by rw [List.length_append] at q; omega) id⟩
  ·exact .inr k
theorem Z7 {t : Ts} {pb : PB} {a b : Sm} {p q : PS} (z : Bt O t pb) (x : S O O' R fr a p) (y : S O O' R fr b q) : S O O' R fr (ZQ t a b) (ZT pb p q) := fun c ρ σ H Φ r s e => by
 obtain ⟨bb, e1, e⟩ := Zz0.mp e
 obtain ⟨X, h1⟩ := z c ρ σ H Φ bb s e1
 cases bb with
 | true =>
  have := x c ρ σ (H ++ X) Φ r (s.ext X) (by simpa using e)
  have eg : ZQ t a b ρ H = a ρ (H ++ X) := by simp [ZQ, h1]
  rw [eg]
  exact this.grow
 | false =>
  have := y c ρ σ (H ++ X) Φ r (s.ext X) (by simpa using e)
  have eg : ZQ t a b ρ H = b ρ (H ++ X) := by simp [ZQ, h1]
  rw [eg]
  exact this.grow
noncomputable def qNo : PS := fun _ => none
noncomputable def sNo : Sm := fun _ _ => none
theorem Zss {g : Sm} : S O O' R fr g qNo := fun c ρ σ H Φ r s q => by cases q
noncomputable def follow (H : Hp) : List Int → V → Option V
 | [], v => some v
 | k :: ks, v => (Zr v (.int k) H).bind fun q => follow H ks q.1
theorem Lead.follow {H : Hp} {ks : List Int} {v : V} {a : Nat} (l : Lead H ks v a) : follow H ks v = some (.ref a) := by
 induction l with
 | nil => rfl
 | ref h1 h2 h3 _ ih => simp only [TM.follow, Zr, h1, Option.bind_some, h2, h3, Option.map_some, ih]
 | tup h2 h3 _ ih => simp only [TM.follow, Zr, Option.bind_some, h2, h3, Option.map_some, ih]
theorem Zk8 {H : Hp} {v w z : V} {K : Hp} (h : Zr v z H = some (w, K)) (X : Hp) : K = H ∧ Zr v z (H ++ X) = some (w, H ++ X) := by
 unfold Zr at h
 split at h
 ·obtain ⟨vs, e1, h⟩ := Zz0.mp h
  obtain ⟨j, e2, h⟩ := Zz0.mp h
  obtain ⟨x, e3, h⟩ := Zz1.mp h
  cases h
  exact ⟨rfl, by simp only [Zr, List.getElem?_append_left (Zz6.mp e1).1, e1, Option.bind_some, e2, e3, Option.map_some]⟩
 ·obtain ⟨j, e2, h⟩ := Zz0.mp h
  obtain ⟨x, e3, h⟩ := Zz1.mp h
  cases h
  exact ⟨rfl, by simp only [Zr, Option.bind_some, e2, e3, Option.map_some]⟩
 ·cases h
noncomputable abbrev PPa := TL → Option (List Int)
noncomputable def Zbc : PPa := fun _ => some []
noncomputable def Zsx (p : PPa) (i : PE) : PPa := fun σ => (p σ).bind fun ks => (i σ).bind fun t => match t with
 | .int k => some (ks ++ [k])
 | _ => none
noncomputable def Pa (O : List Nat) (x : Nat) (e : Ex) (p : PPa) : Prop := ∀ (c : Ctx) (ρ : Lc) (σ : TL) (H : Hp) (Φ : Nat → List Nat) (ks : List Int) (v w : V), St c O ρ σ H Φ → p σ = some ks → ρ x = some v → follow H ks v = some w → ∃ X, e ρ H = some (w, H ++ X)
theorem Zco {x : Nat} : Pa O x (Zb x) Zbc := fun c ρ σ H Φ ks v w s h e f => by
 cases h; cases f
 exact ⟨[], by simp [Zb, e]⟩
theorem Zmv {c : Ctx} {ρ : Lc} {σ : TL} {H : Hp} {Φ : Nat → List Nat} {N : List Nat} {x a b : Nat} {t t' : T} {v : V} {Fw F' : List Nat} {vs' : List V} (s : St c O ρ σ H Φ) (hx : x ∈ O) (ex : σ x = some t) (ev : ρ x = some v) (hb : c.H0.length ≤ b) (hlow : ∀ k t, σ k = some t → ∀ a ∈ Φ k, a < b)
  (hFw : ∀ a ∈ Fw, b ≤ a ∨ ∃ j ∈ N, (∃ t, σ j = some t) ∧ a ∈ Φ j) (hN : ∀ j ∈ N, j ∈ O ∧ j ≠ x) (ha : a ∈ Φ x) (r : RF (H.set a vs') v t' F') (nd : F'.Nodup) (sub : ∀ y ∈ F', y ∈ Φ x ∨ y ∈ Fw) (hO : ∀ j ∈ O', j ∈ O ∧ j ∉ N) :
  St c O' ρ (Zb1 (ZR σ x t') N) (H.set a vs') (Zal Φ x F') ∧ (∀ y, Zcd O' (Zb1 (ZR σ x t') N) (Zal Φ x F') y → b ≤ y ∨ Zcd O σ Φ y) := by
 obtain ⟨o1, o2, o3⟩ := s.own x hx t ex
 have old : ∀ k u, k ≠ x → Zb1 (ZR σ x t') N k = some u → σ k = some u ∧ k ∉ N := fun k u hk e => by
  unfold Zb1 at e
  split at e
  ·cases e
  ·rename_i hn
   simp [ZR, hk] at e
   exact ⟨e, hn⟩
 have self : ∀ u, Zb1 (ZR σ x t') N x = some u → u = t' := fun u e => by
  unfold Zb1 at e
  split at e
  ·cases e
  ·simp [ZR] at e; exact e.symm
 have foff : ∀ y ∈ F', ∀ k u, k ≠ x → σ k = some u → k ∉ N → y ∉ Φ k := fun y hy k u hk e hkn m => by
  rcases sub y hy with q | q
  ·exact o3 k u hk e y q m
  ·rcases hFw y q with q | ⟨j, hj, ⟨tj, ej⟩, mj⟩
   ·have := hlow k u e y m; omega
   ·exact (s.own j (hN j hj).1 tj ej).2.2 k u (fun q => hkn (q ▸ hj)) e y mj m
 refine ⟨⟨fun k u e => ?_, fun k u e => ?_, fun k hk u e => ?_, by simpa using s.len, fun y hy hn => ?_, s.pos, s.f0⟩, fun y hy => ?_⟩
 ·by_cases q : k = x
  ·subst q
   have := self u e
   subst this
   exact ⟨v, ev, by simpa [Zal] using r⟩
  ·obtain ⟨e1, e2⟩ := old k u q e
   obtain ⟨w, h1, h2⟩ := s.slot k u e1
   refine ⟨w, h1, ?_⟩
   simp only [Zal, q, if_false]
   refine h2.frame fun y hy => List.getElem?_set_ne fun q' => ?_
   exact o3 k u q e1 a ha (q' ▸ hy)
 ·by_cases q : k = x
  ·subst q
   simp only [Zal, if_true]
   intro y hy
   rcases sub y hy with q | q
   ·exact s.src k t ex y q
   ·rcases hFw y q with q | ⟨j, hj, ⟨tj, ej⟩, mj⟩
    ·exact .inl (by omega)
    ·exact s.src j tj ej y mj
  ·obtain ⟨e1, e2⟩ := old k u q e
   simpa [Zal, q] using s.src k u e1
 ·by_cases q : k = x
  ·subst q
   simp only [Zal, if_true]
   refine ⟨nd, fun y hy => ?_, fun j w hj ej y hy => ?_⟩
   ·rcases sub y hy with q | q
    ·exact o2 y q
    ·rcases hFw y q with q | ⟨j, hj, ⟨tj, ej⟩, mj⟩
     ·exact .inl (by omega)
     ·exact (s.own j (hN j hj).1 tj ej).2.1 y mj
   ·obtain ⟨e1, e2⟩ := old j w hj ej
    simpa [hj] using foff y hy j w hj e1 e2
  ·obtain ⟨e1, e2⟩ := old k u q e
   obtain ⟨p1, p2, p3⟩ := s.own k (hO k hk).1 u e1
   simp only [Zal, q, if_false]
   refine ⟨p1, p2, fun j w hj ej y hy => ?_⟩
   by_cases q2 : j = x
   ·subst q2
    simp only [if_true]
    exact fun m => foff y m k u q e1 e2 hy
   ·obtain ⟨f1, f2⟩ := old j w q2 ej
    simpa [q2] using p3 j w hj f1 y hy
 ·have : a ≠ y := fun q => by
   subst q
   rcases o2 a ha with q | q
   ·omega
   ·exact hn q
  rw [List.getElem?_set_ne this]
  exact s.keep y hy hn
 ·obtain ⟨k, hk, ⟨u, e⟩, m⟩ := hy
  by_cases q : k = x
  ·subst q
   simp only [Zal, if_true] at m
   rcases sub y m with q | q
   ·exact .inr ⟨k, hx, ⟨t, ex⟩, q⟩
   ·rcases hFw y q with q | ⟨j, hj, q⟩
    ·exact .inl q
    ·exact .inr ⟨j, (hN j hj).1, q⟩
  ·obtain ⟨e1, e2⟩ := old k u q e
   simp only [Zal, q, if_false] at m
   exact .inr ⟨k, (hO k hk).1, ⟨u, e1⟩, m⟩
theorem ZlZ {c : Ctx} {ρ : Lc} {σ : TL} {H : Hp} {Φ : Nat → List Nat} {x a : Nat} {t : T} (s : St c O ρ σ H Φ) (hx : x ∈ O) (ex : σ x = some t) (ha : a ∈ Φ x) : a ≠ 0 := by
 have := s.pos
 rcases (s.own x hx t ex).2.1 a ha with q | q
 ·omega
 ·exact fun e => s.f0 (e ▸ q)
noncomputable def ZgN (w : T) (ts : List T) : Option (List T) := if ts.length < LEN then some (ts ++ [w]) else none
noncomputable def Zks (k : Int) (w : T) (ts : List T) : Option (List T) := if 0 ≤ k ∧ k < ts.length then some (ts.set k.toNat w) else none
noncomputable def ZcV (x : Nat) (N : List Nat) (po : PPa) (p : PE) : PS := fun σ => (po σ).bind fun ks => (p σ).bind fun w => (σ x).bind fun t => (Zdg (ZgN w) ks t).map fun t' => (none, Zb1 (ZR σ x t') N)
noncomputable def Zce (x : Nat) (N : List Nat) (p : PE) (po : PPa) (pi : PE) : PS := fun σ => (p σ).bind fun w => (po σ).bind fun ks => (pi σ).bind fun k => match k with
 | .int k => (σ x).bind fun t => (Zdg (Zks k w) ks t).map fun t' => (none, Zb1 (ZR σ x t') N)
 | _ => none
theorem Zet {H : Hp} (X : Hp) : ∀ {ks : List Int} {v w : V}, follow H ks v = some w → follow (H ++ X) ks v = some w
 | [], _, _, h => h
 | k :: ks, v, w, h => by
  obtain ⟨⟨w1, K⟩, h1, h2⟩ := Zz0.mp h
  simp only [follow, (Zk8 h1 X).2, Option.bind_some]
  exact Zet X h2
theorem Zgy {x : Nat} {N : List Nat} {o e : Ex} {po : PPa} {p : PE} (hx : x ∈ O) (y : Pa O x o po) (z : E O N true e p) (hN : ∀ j ∈ N, j ∈ O ∧ j ≠ x) (hO : ∀ j ∈ O', j ∈ O ∧ j ∉ N) : S O O' R fr (ZdF (Zdr o e)) (ZcV x N po p) := fun c ρ σ H Φ r s q => by
 obtain ⟨ks, h1, q⟩ := Zz0.mp q
 obtain ⟨w, h2, q⟩ := Zz0.mp q
 obtain ⟨t, h3, q⟩ := Zz0.mp q
 obtain ⟨t', h4, q⟩ := Zz1.mp q
 subst q
 obtain ⟨v, ev, rv⟩ := s.slot x t h3
 have hlow : ∀ k t, σ k = some t → ∀ a ∈ Φ k, a < H.length := fun k t e a m => by
  obtain ⟨_, _, r⟩ := s.slot k t e
  exact r.lt a m
 obtain ⟨o1, o2, o3⟩ := s.own x hx t h3
 obtain ⟨a, vs0, ts0, ts0', G0, l0, _⟩ := Zd5 (Gn := []) ks rv o1 (by simp) h4
 obtain ⟨X, a1⟩ := y c ρ σ H Φ ks v (.ref a) s h1 ev l0.follow
 obtain ⟨vw, Y, Fw, b1, b2, b3, b4⟩ := z c ρ σ (H ++ X) Φ w (s.ext X) h2
 have s2 := (s.ext X).ext Y
 have rv2 : RF (H ++ X ++ Y) v t (Φ x) := (rv.ext X).ext Y
 have hFw : ∀ a ∈ Fw, H.length ≤ a ∨ ∃ j ∈ N, (∃ t, σ j = some t) ∧ a ∈ Φ j := fun a m => (b3 a m).back
 have dsj : ∀ a ∈ Fw, a ∉ Φ x := fun a m q => by
  rcases hFw a m with h | ⟨j, hj, ⟨tj, ej⟩, mj⟩
  ·have := hlow x t h3 a q; omega
  ·exact o3 j tj (hN j hj).2 ej a q mj
 obtain ⟨a', vs, ts, ts', G, l, am, ea, hs, hf, gn, na, gs, go⟩ := Zd5 (Gn := Fw) ks rv2 o1 dsj h4
 have haa : a' = a := by
  have f2 := Zet Y (Zet X l0.follow)
  rw [l.follow] at f2
  cases f2
  rfl
 subst haa
 unfold ZgN at hf
 split at hf
 ·rename_i hl
  cases hf
  obtain ⟨F', r', n', sub'⟩ := go (vs ++ [vw]) (G ++ Fw) (hs.snoc b2) (by
   rw [List.nodup_append]
   exact ⟨gn, b4 rfl, fun y hy z hz e => dsj z hz (e ▸ gs y hy)⟩) (fun m => (List.mem_append.mp m).elim na fun m => dsj _ m am) (fun y m => List.mem_append.mp m)
  obtain ⟨st, com⟩ := Zmv (O' := O') (b := H.length) s2 hx h3 ev s.len hlow hFw hN am r' n' sub' hO
  refine ⟨ρ, (H ++ X ++ Y).set a' (vs ++ [vw]), Zal Φ x F', by simp, fun y hy hn => ?_, .inl ⟨rfl, ?_, st, com⟩⟩
  ·have : a' ≠ y := fun q => hn ⟨x, hx, ⟨t, h3⟩, q ▸ am⟩
   rw [List.getElem?_set_ne this, List.append_assoc, List.getElem?_append_left hy]
  ·simp only [ZdF, Zdr, a1, Option.bind_some, b1, ZeC, ea]
   rw [if_pos ⟨ZlZ s hx h3 am, by rw [hs.length]; exact hl⟩]
   rfl
 ·cases hf
theorem S.put {x : Nat} {N M : List Nat} {u : Bool} {o e i : Ex} {po : PPa} {p pi : PE} (hx : x ∈ O) (z : E O N true e p) (y : Pa O x o po) (zi : E O M u i pi) (hN : ∀ j ∈ N, j ∈ O ∧ j ≠ x) (hO : ∀ j ∈ O', j ∈ O ∧ j ∉ N) : S O O' R fr (ZcE e o i) (Zce x N p po pi) := fun c ρ σ H Φ r s q => by
 obtain ⟨w, h2, q⟩ := Zz0.mp q
 obtain ⟨ks, h1, q⟩ := Zz0.mp q
 obtain ⟨tk, h5, q⟩ := Zz0.mp q
 cases tk <;> first | (cases q; done) | skip
 rename_i k
 obtain ⟨t, h3, q⟩ := Zz0.mp q
 obtain ⟨t', h4, q⟩ := Zz1.mp q
 subst q
 obtain ⟨v, ev, rv⟩ := s.slot x t h3
 have hlow : ∀ k t, σ k = some t → ∀ a ∈ Φ k, a < H.length := fun k t e a m => by
  obtain ⟨_, _, r⟩ := s.slot k t e
  exact r.lt a m
 obtain ⟨o1, o2, o3⟩ := s.own x hx t h3
 obtain ⟨vw, X, Fw, b1, b2, b3, b4⟩ := z c ρ σ H Φ w s h2
 obtain ⟨a, vs0, ts0, ts0', G0, l0, _⟩ := Zd5 (Gn := []) ks (rv.ext X) o1 (by simp) h4
 obtain ⟨Y, a1⟩ := y c ρ σ (H ++ X) Φ ks v (.ref a) (s.ext X) h1 ev l0.follow
 obtain ⟨vk, Z, Fk, d1, d2, d3, d4⟩ := zi c ρ σ (H ++ X ++ Y) Φ _ ((s.ext X).ext Y) h5
 cases d2
 have s2 := ((s.ext X).ext Y).ext Z
 have rv2 : RF (H ++ X ++ Y ++ Z) v t (Φ x) := ((rv.ext X).ext Y).ext Z
 have hFw : ∀ a ∈ Fw, H.length ≤ a ∨ ∃ j ∈ N, (∃ t, σ j = some t) ∧ a ∈ Φ j := b3
 have dsj : ∀ a ∈ Fw, a ∉ Φ x := fun a m q => by
  rcases hFw a m with h | ⟨j, hj, ⟨tj, ej⟩, mj⟩
  ·have := hlow x t h3 a q; omega
  ·exact o3 j tj (hN j hj).2 ej a q mj
 obtain ⟨a', vs, ts, ts', G, l, am, ea, hs, hf, gn, na, gs, go⟩ := Zd5 (Gn := Fw) ks rv2 o1 dsj h4
 have haa : a' = a := by
  have f2 := Zet Z (Zet Y l0.follow)
  rw [l.follow] at f2
  cases f2
  rfl
 subst haa
 unfold Zks at hf
 split at hf
 ·rename_i hl
  cases hf
  have hk : k.toNat < ts.length := by omega
  obtain ⟨v0, Gk, F1, F2, e0, r0, eG, rb⟩ := hs.split (List.getElem?_eq_getElem hk)
  have b2' : RF (H ++ X ++ Y ++ Z) vw w Fw := (b2.ext Y).ext Z
  have rs := rb (H ++ X ++ Y ++ Z) vw w Fw b2' (fun _ _ => rfl) (fun _ _ => rfl)
  have sub0 : ∀ a ∈ Fw, a ∈ Gk ∨ a ∈ Fw := fun a m => .inr m
  subst eG
  obtain ⟨F', r', n', sub'⟩ := go _ _ rs (nd3 gn (b4 rfl) sub0 fun a m q => dsj a m (gs a q)) (fun m => by
   rcases in3 (G := Gk) sub0 _ m with m | m
   ·exact na m
   ·exact dsj _ m am) (in3 sub0)
  obtain ⟨st, com⟩ := Zmv (O' := O') (b := H.length) s2 hx h3 ev s.len hlow hFw hN am r' n' sub' hO
  refine ⟨ρ, (H ++ X ++ Y ++ Z).set a' (vs.set k.toNat vw), Zal Φ x F', by simp, fun y hy hn => ?_, .inl ⟨rfl, ?_, st, com⟩⟩
  ·have : a' ≠ y := fun q => hn ⟨x, hx, ⟨t, h3⟩, q ▸ am⟩
   rw [List.getElem?_set_ne this, List.append_assoc, List.append_assoc, List.getElem?_append_left hy]
  ·simp only [ZcE, b1, Option.bind_some, a1, d1, Zkq, ea]
   rw [if_pos ⟨ZlZ s hx h3 am, by rw [hs.length]; exact hl⟩]
   rfl
 ·cases hf
noncomputable def ZdJ (put : T → TL → Option TL) (b : PS) : TL → List T → Option (Option T × TL)
 | σ, [] => some (none, σ)
 | σ, t :: ts => (put t σ).bind fun σ1 => (b σ1).bind fun r => match r.1 with
  | some _ => some r
  | none => ZdJ put b r.2 ts
noncomputable def ZaV (g : PG) (put : T → TL → Option TL) (b : PS) : PS := fun σ => (g σ).bind fun ts => ZdJ put b σ ts
theorem Zjm {J : List Nat} {put : V → Lc → Option Lc} {pput : T → TL → Option TL} {b : Sm} {qb : PS} (hj : PutOk O J put pput) (hJ : ∀ i ∈ J, i ∉ O) (hb : S O O R fr b qb) {c : Ctx} {nx : Nx} {vs : List V} {G : List Nat} {H1 : Hp} (hG : ∀ a ∈ G, a < H1.length) (hsrc : ∀ a ∈ G, c.H0.length ≤ a ∨ c.P a) (hnx : ∀ K : Hp, (∀ a ∈ G, K[a]? = H1[a]?) → ∀ i, i ≤ vs.length → nx i K = some vs[i]?) :
  ∀ (rs : List T) (ws : List V) (i : Nat) (ρ : Lc) (σ : TL) (K : Hp) (Φ : Nat → List Nat) (Fr : List Nat) (r : Option T × TL), (∀ j, vs[i + j]? = ws[j]?) → i + ws.length = vs.length → St c O ρ σ K Φ → H1.length ≤ K.length → (∀ a ∈ G, K[a]? = H1[a]?) → (∀ a ∈ G, ¬ Zcd O σ Φ a) → RFs K ws rs Fr → (∀ a ∈ Fr, a ∈ G) → ZdJ pput qb σ rs = some r →
   Aft c O O R fr σ K Φ (ZcB nx put b (rs.length + 1) i ρ K) r
 | [], ws, i, ρ, σ, K, Φ, Fr, r, hat, hlen, s, hl, hk, hoff, rr, hfr, h => by
  cases rr
  cases h
  have e := hnx K hk i (by simp at hlen; omega)
  have e2 : vs[i]? = none := by have := hat 0; simpa using this
  exact ⟨ρ, K, Φ, Nat.le_refl _, fun _ _ _ => rfl, .inl ⟨rfl, by simp [ZcB, e, e2], s, fun a m => .inr m⟩⟩
 | t :: rs, ws0, i, ρ, σ, K, Φ, Fr0, r, hat, hlen, s, hl, hk, hoff, rr, hfr, h => by
  cases rr with
  | @cons v _ F1 ws _ F2 a b' =>
  simp only [List.length_cons] at hlen
  obtain ⟨σ1, h1, h⟩ := Zz0.mp h
  obtain ⟨r1, h2, h⟩ := Zz0.mp h
  have e := hnx K hk i (by omega)
  have e2 : vs[i]? = some v := by have := hat 0; simpa using this
  have hat' : ∀ j, vs[i + 1 + j]? = ws[j]? := fun j => by have := hat (j + 1); rw [show i + 1 + j = i + (j + 1) by omega, this]; simp
  obtain ⟨ρ1, Φ1, p1, s1, p3, p4⟩ := hj c ρ σ K Φ v t F1 σ1 s a (fun x m => hsrc x (hfr x (Zz4 _ m))) (fun k hk t' e x m q => hoff x (hfr x (Zz4 _ q)) ⟨k, hk, ⟨t', e⟩, m⟩) h1
  have hh : ∀ x, Zcd O σ1 Φ1 x → Zcd O σ Φ x := fun x ⟨k, hk, ⟨t', e⟩, m⟩ => by
   obtain ⟨q1, q2⟩ := p3 k fun q => hJ k q hk
   exact ⟨k, hk, ⟨t', q1 ▸ e⟩, q2 ▸ m⟩
  obtain ⟨ρ2, K2, Φ2, g1, g2, g3⟩ := hb c ρ1 σ1 K Φ1 r1 s1 h2
  have estep : ZcB nx put b ((t :: rs).length + 1) i ρ K = (b ρ1 K).bind fun q => match q.1 with
    | some _ => some q
    | none => ZcB nx put b (rs.length + 1) (i + 1) q.2.1 q.2.2 := by
   rw [List.length_cons]
   show (nx i K).bind _ = _
   rw [e, e2]
   first | (simp only [Option.bind_some, p1]; done) | (simp only [Option.bind_some, p1]; rfl)
  rcases g3 with ⟨k1, k2, k3, k4⟩ | ⟨t', v', F', k1, k2, k3⟩
  ·rw [k1] at h
   have hG2 : ∀ a ∈ G, K2[a]? = K[a]? := fun x m => g2 x (by have := hG x m; omega) fun q => hoff x m (hh x q)
   have hoff2 : ∀ a ∈ G, ¬ Zcd O r1.2 Φ2 a := fun x m q => by
    rcases k4 x q with q | q
    ·have := hG x m; omega
    ·exact hoff x m (hh x q)
   have ih := Zjm hj hJ hb hG hsrc hnx rs ws (i + 1) ρ2 r1.2 K2 Φ2 F2 r hat' (by omega) k3 (by omega) (fun x m => (hG2 x m).trans (hk x m)) hoff2 (b'.frame fun x m => hG2 x (hfr x (Zz3 _ m))) (fun x m => hfr x (Zz3 _ m)) h
   rw [estep, k2]
   simp only [Option.bind_some]
   obtain ⟨ρ3, K3, Φ3, l1, l2, l3⟩ := ih
   refine ⟨ρ3, K3, Φ3, by omega, fun x hx hn => ?_, ?_⟩
   ·rw [l2 x (by omega) fun q => (k4 x q).elim (fun q => by omega) fun q => hn (hh x q), g2 x hx fun q => hn (hh x q)]
   ·rcases l3 with ⟨m1, m2, m3, m4⟩ | l
    ·refine .inl ⟨m1, m2, m3, fun x q => ?_⟩
     rcases m4 x q with q | q
     ·exact .inl (by omega)
     ·exact (k4 x q).imp id (hh x)
    ·exact .inr l
  ·rw [k1] at h
   cases h
   refine ⟨ρ2, K2, Φ2, g1, fun x hx hn => g2 x hx fun q => hn (hh x q), .inr ⟨t', v', F', k1, ?_, k3⟩⟩
   rw [estep, k2]
   rfl
theorem Zbv {J Ns : List Nat} {g : Src} {q : PG} {put : V → Lc → Option Lc} {pput : T → TL → Option TL} {b : Sm} {qb : PS} (hg : Gs O Ns g q) (hj : PutOk O J put pput) (hJ : ∀ i ∈ J, i ∉ O) (hN : ∀ i ∈ Ns, i ∉ O) (hb : S O O R fr b qb) : S O O R fr (ZaQ g put b) (ZaV q pput qb) := fun c ρ σ H Φ r s h => by
 obtain ⟨ts, h1, h⟩ := Zz0.mp h
 obtain ⟨nx, X, vs, F, G, g1, g2, g3, g4, g5⟩ := hg c ρ σ H Φ ts s h1
 have := Zjm hj hJ hb (H1 := H ++ X) (fun a m => (g4 a m).1) (fun a m => s.from_src (g4 a m).2) g5 ts vs 0 ρ σ (H ++ X) Φ F r (by simp) (by simp) (s.ext X) (Nat.le_refl _) (fun _ _ => rfl) (fun a m ⟨k, hk, ⟨t, e⟩, q⟩ => s.from_off hN (g4 a m).2 hk e q) g2 g3 h
 have eg : ZaQ g put b ρ H = ZcB nx put b (ts.length + 1) 0 ρ (H ++ X) := by simp only [ZaQ, g1, Option.bind_some]
 rw [eg]
 exact this.grow
noncomputable def Zc7 (t : PB) (b : PS) : Nat → PS
 | 0 => fun _ => none
 | n + 1 => fun σ => (t σ).bind fun p => if p then (b σ).bind fun q => (match q.1 with
   | some _ => some q
   | none => Zc7 t b n q.2) else some (none, σ)
theorem ZjL {t : Ts} {pt : PB} {b : Sm} {qb : PS} (z : Bt O t pt) (y : S O O R fr b qb) : ∀ n, S O O R fr (ZcO t b n) (Zc7 pt qb n)
 | 0 => fun c ρ σ H Φ r s h => by cases h
 | n + 1 => fun c ρ σ H Φ r s h => by
  obtain ⟨p, h1, h⟩ := Zz0.mp h
  obtain ⟨X, a1⟩ := z c ρ σ H Φ p s h1
  cases p with
  | false =>
   cases h
   exact ⟨ρ, H ++ X, Φ, by simp, fun a ha _ => List.getElem?_append_left ha, .inl ⟨rfl, by simp [ZcO, a1], s.ext X, fun a m => .inr m⟩⟩
  | true =>
   simp only [if_true] at h
   obtain ⟨r1, h2, h⟩ := Zz0.mp h
   have b1 := (y c ρ σ (H ++ X) Φ r1 (s.ext X) h2).grow
   have eg : ZcO t b (n + 1) ρ H = (b ρ (H ++ X)).bind fun q => (match q.1 with
    | some _ => some q
    | none => ZcO t b n q.2.1 q.2.2) := by
    show (t ρ H).bind _ = _
    rw [a1]
    rfl
   rw [eg]
   obtain ⟨ρ1, H1, Φ1, g1, g2, g3⟩ := b1
   rcases g3 with ⟨k1, k2, k3, k4⟩ | ⟨t', v', F', k1, k2, k3⟩
   ·rw [k1] at h
    obtain ⟨ρ3, K3, Φ3, l1, l2, l3⟩ := ZjL z y n c ρ1 r1.2 H1 Φ1 r k3 h
    rw [k2]
    simp only [Option.bind_some]
    refine ⟨ρ3, K3, Φ3, by omega, fun x hx hn => ?_, ?_⟩
    ·rw [l2 x (by omega) fun q => (k4 x q).elim (fun q => by omega) hn, g2 x hx hn]
    ·rcases l3 with ⟨m1, m2, m3, m4⟩ | l
     ·refine .inl ⟨m1, m2, m3, fun x q => ?_⟩
      rcases m4 x q with q | q
      ·exact .inl (by omega)
      ·exact k4 x q
     ·exact .inr l
   ·rw [k1] at h
    cases h
    exact ⟨ρ1, H1, Φ1, g1, g2, .inr ⟨t', v', F', k1, by rw [k2]; rfl, k3⟩⟩
end
noncomputable def Z0 (n : Nat) (q : PS) : List T → Option T := fun ts => if ts.length = n then (q fun i => ts[i]?).map fun r => r.1.getD .none else none
theorem RFs.slots {H : Hp} : ∀ {vs : List V} {ts : List T} {F : List Nat}, RFs H vs ts F → ∃ Φ : Nat → List Nat, ∀ i t, ts[i]? = some t → ∃ v, vs[i]? = some v ∧ RF H v t (Φ i) ∧ ∀ a ∈ Φ i, a ∈ F
 | _, _, _, .nil => ⟨fun _ => [], fun i t e => by simp at e⟩
 | _, _, _, .cons (F := F1) a b => by
  obtain ⟨Φ, h⟩ := b.slots
  refine ⟨fun i => match i with | 0 => F1 | i + 1 => Φ i, fun i t e => ?_⟩
  cases i with
  | zero => simp at e; subst e; exact ⟨_, by simp, a, fun x m => List.mem_append_left _ m⟩
  | succ i =>
   simp at e
   obtain ⟨v, h1, h2, h3⟩ := h i t e
   exact ⟨v, by simpa using h1, h2, fun x m => List.mem_append_right _ (h3 x m)⟩
theorem ZkT {H H' : Hp} (hl : H.length ≤ H'.length) (h : ∀ a, a < H.length → H'[a]? = H[a]?) : H' = H ++ H'.drop H.length := by
 conv => lhs; rw [← List.take_append_drop H.length H']
 congr 1
 refine List.ext_getElem? fun i => ?_
 by_cases q : i < H.length
 ·rw [List.getElem?_take_of_lt q, h i q]
 ·rw [List.getElem?_eq_none (by simp; omega), List.getElem?_eq_none (by omega)]
theorem Zab {O' : List Nat} {fr : Bool} {n : Nat} {g : Sm} {q : PS} (h : S [] O' [] fr g q) : SimF fr (ZY n g) (Z0 n q) := fun H vs ts t F1 hp r e => by
 unfold Z0 at e
 split at e
 ·rename_i hl
  obtain ⟨r1, e1, e2⟩ := Zz1.mp e
  obtain ⟨Φ, hΦ⟩ := r.slots
  have st : St ⟨H, [], fun a => a ∈ F1⟩ [] (fun i => vs[i]?) (fun i => ts[i]?) H Φ :=
   ⟨(fun i t e => by obtain ⟨v, h1, h2, _⟩ := hΦ i t e; exact ⟨v, h1, h2⟩), fun i t e a m => (by obtain ⟨v, h1, h2, h3⟩ := hΦ i t e; exact .inr (h3 a m)), (fun i hi => nomatch hi), Nat.le_refl _, fun a _ _ => rfl, hp, by simp⟩
  obtain ⟨ρ', H', Φ', h1, h2, h3⟩ := h _ _ _ _ _ _ st e1
  rcases h3 with ⟨k1, k2, k3, k4⟩ | ⟨t', v', F', k1, k2, k3, k4, k5, k6⟩
  ·have eh := ZkT k3.len fun a ha => k3.keep a ha (by simp)
   refine ⟨.none, H'.drop H.length, [], ?_, ?_, by simp, by simp⟩
   ·have hv : vs.length = n := r.length.trans hl
    simp only [ZY, hv, if_true, k2, Option.map_some, Option.getD_none]
    rw [← eh]
   ·rw [k1] at e2
    subst e2
    exact .none
  ·have eh := ZkT k4.len fun a ha => k4.keep a ha (by simp)
   refine ⟨v', H'.drop H.length, F', ?_, ?_, k5, fun hf => ⟨(k6 hf).1, fun a m => ((k6 hf).2 a m).elim id fun q => by cases q⟩⟩
   ·have hv : vs.length = n := r.length.trans hl
    simp only [ZY, hv, if_true, k2, Option.map_some, Option.getD_some]
    rw [← eh]
   ·rw [k1] at e2
    subst e2
    rw [← eh]
    exact k3
 ·cases e
theorem Zo3 {f : List V → Hp → Option (V × Hp)} {p : List T → Option T} {fr : Bool} (h : SimF fr f p) (ns : List Int) (e : p [.lst (ns.map T.int)] = some (.bool true)) : ∃ H', f [.ref 0] [ns.map V.int] = some (.bool true, H') := by
 have intsAre : ∀ l : List Int, RFs [ns.map V.int] (l.map V.int) (l.map T.int) [] := fun l => by
  induction l with
  | nil => exact .nil
  | cons a l ih => exact .cons (.int a) ih
 obtain ⟨v, X, F, h1, h2, _⟩ := h [ns.map V.int] [.ref 0] [.lst (ns.map T.int)] _ _ (by simp) (.one (.ref rfl (intsAre ns))) e
 cases h2
 exact ⟨_, h1⟩
end TM
end
section
set_option maxRecDepth 100000
set_option linter.all false
set_option autoImplicit false
namespace TM
open PySem PM
section
variable {O Ns Ne J : List Nat}
theorem Za5 {u : Bool} {g : Src} {q : PG} {put : V → Lc → Option Lc} {pput : T → TL → Option TL} {tc : Ts} {pc : PB} {f : Ex} {pf : PE} (hg : Gs O Ns g q) (hj : PutOk O J put pput) (hN : ∀ i ∈ Ns, i ∉ O) (hc : Bt O tc pc) (hf : E O Ne u f pf) : E O (Ns ++ Ne) false (Zao g put tc f) (Zah q pput pc pf) :=
 Zmu hg hj hN hc hf.sh (by simp)
theorem ZeE {g : Src} {q : PG} {put : V → Lc → Option Lc} {pput : T → TL → Option TL} {tc : Ts} {pc : PB} {f : Ex} {pf : PE} (hg : Gs O Ns g q) (hj : PutOk O J put pput) (hN : ∀ i ∈ Ns, i ∉ O) (hc : Bt O tc pc) (hf : E O [] true f pf) : E O [] true (Zao g put tc f) (Zah q pput pc pf) :=
 Zmu hg hj hN hc hf (by simp)
end
end TM
end
section
set_option maxRecDepth 100000
set_option linter.all false
set_option autoImplicit false
/-! Forward reckoning over trees. -/
namespace TM
open PySem PM
noncomputable def dec (P : Prop) : Bool := @decide P (Classical.propDecidable P)
theorem dec_iff {P : Prop} : dec P = true ↔ P := by unfold dec; exact @decide_eq_true_iff P (Classical.propDecidable P)
theorem ZaP {P : Prop} (h : P) : dec P = true := dec_iff.mpr h
theorem Zbw {P : Prop} (h : ¬ P) : dec P = false := by
 cases e : dec P with
 | true => exact absurd (dec_iff.mp e) h
 | false => rfl
theorem ZdV {P Q : Prop} (h : P ↔ Q) : dec P = dec Q := by
 by_cases p : P
 ·rw [ZaP p, ZaP (h.mp p)]
 ·rw [Zbw p, Zbw fun q => p (h.mpr q)]
theorem Zj7 {P : Prop} {b : Bool} (h : b = true ↔ P) : dec P = b := by
 cases b with
 | true => exact ZaP (h.mp rfl)
 | false => exact Zbw fun p => by simpa using h.mpr p
theorem ZdS {P : Prop} [i : Decidable P] : decide P = dec P := by
 unfold dec; congr
noncomputable def tab {α : Type} (n : Nat) (f : Nat → α) : List α := (List.range n).map f
theorem Zav {α : Type} {n : Nat} {f : Nat → α} : (tab n f).length = n := by simp [tab]
theorem ZbB {α : Type} {n : Nat} {f : Nat → α} {i : Nat} (h : i < n) : (tab n f)[i]? = some (f i) := by simp [tab, h]
theorem Zrk {α : Type} {n : Nat} {f : Nat → α} {i : Nat} (h : n ≤ i) : (tab n f)[i]? = none := by simp [tab, h]
theorem Zc1 {α : Type} {n : Nat} {f : Nat → α} : tab n f ++ [f n] = tab (n + 1) f := by simp [tab, List.range_succ]
theorem Zgb {α : Type} {n : Nat} {xs : List α} {f : Nat → α} (hl : xs.length = n) (h : ∀ i, i < n → xs[i]? = some (f i)) : xs = tab n f := by
 refine List.ext_getElem? fun i => ?_
 by_cases q : i < n
 ·rw [h i q, ZbB q]
 ·rw [List.getElem?_eq_none (by omega), Zrk (by omega)]
theorem ZdW {α : Type} {n : Nat} {f g : Nat → α} (h : ∀ i, i < n → f i = g i) : tab n f = tab n g := by
 refine Zgb Zav fun i hi => ?_
 rw [ZbB hi, h i hi]
theorem Zl0 {α : Type} {n k : Nat} {f : Nat → α} {v : α} : (tab n f).set k v = tab n fun i => if i = k then v else f i := by
 refine Zgb (by rw [List.length_set, Zav]) fun i hi => ?_
 by_cases q : i = k
 ·subst q
  rw [List.getElem?_set_self (by rw [Zav]; exact hi), if_pos rfl]
 ·rw [List.getElem?_set_ne (Ne.symm q), ZbB hi, if_neg q]
theorem tab_map {α β : Type} {n : Nat} {f : Nat → α} {g : α → β} : (tab n f).map g = tab n fun i => g (f i) := by simp [tab]
noncomputable def cn {α : Type} (a : α) (f : Nat → α) : Nat → α
 | 0 => a
 | i + 1 => f i
theorem ZpD {α : Type} {n : Nat} {a : α} {f : Nat → α} : a :: tab n f = tab (n + 1) (cn a f) := by
 refine Zgb (by rw [List.length_cons, Zav]) fun i hi => ?_
 cases i with
 | zero => rfl
 | succ i => rw [List.getElem?_cons_succ, ZbB (by omega)]; rfl
theorem Zl1 {α β γ : Type} {n m : Nat} {f : Nat → α} {g : Nat → β} {h : α → β → γ} : List.zipWith h (tab n f) (tab m g) = tab (min n m) fun i => h (f i) (g i) := by
 refine Zgb (by rw [List.length_zipWith, Zav, Zav]) fun i hi => ?_
 rw [List.getElem?_zipWith, ZbB (show i < n by omega), ZbB (show i < m by omega)]
noncomputable def Pk (c : Option T) (Q : T → Prop) : Prop := ∃ t, c = some t ∧ Q t
noncomputable def Pl (c : Option (List T)) (Q : List T → Prop) : Prop := ∃ t, c = some t ∧ Q t
noncomputable def Pb (c : Option Bool) (Q : Bool → Prop) : Prop := ∃ t, c = some t ∧ Q t
noncomputable def Psk (c : Option (Option T × TL)) (R : T → Prop) (N : TL → Prop) : Prop := ∃ o σ, c = some (o, σ) ∧ (∀ t, o = some t → R t) ∧ (o = none → N σ)
theorem ZO {c : Option T} {Q : T → Prop} {t : T} (h : c = some t) (k : Q t) : Pk c Q := ⟨t, h, k⟩
theorem Pk.eq {c : Option T} {t : T} (h : Pk c fun v => v = t) : c = some t := by obtain ⟨v, e, rfl⟩ := h; exact e
theorem Pk.mono {c : Option T} {Q Q' : T → Prop} (h : Pk c Q) (k : ∀ t, Q t → Q' t) : Pk c Q' := by obtain ⟨v, e, q⟩ := h; exact ⟨v, e, k v q⟩
section
variable {σ : TL} {Q : T → Prop} {L : List T → Prop} {B : Bool → Prop} {R : T → Prop} {N : TL → Prop}
theorem Zrl {k : Int} (h : Q (.int k)) : Pk (Zk k σ) Q := ⟨_, rfl, h⟩
theorem Zrm (h : Q .none) : Pk (Zaa σ) Q := ⟨_, rfl, h⟩
theorem Zqj {k : Bool} (h : Q (.bool k)) : Pk (ZaO k σ) Q := ⟨_, rfl, h⟩
theorem Zrn {i : Nat} {t : T} (e : σ i = some t) (h : Q t) : Pk (Za i σ) Q := ⟨_, e, h⟩
theorem Zro {q : T → T → Option T} {f g : PE} (h : Pk (f σ) fun x => Pk (g σ) fun y => Pk (q x y) Q) : Pk (Zd q f g σ) Q := by
 obtain ⟨x, a, y, b, z, c, k⟩ := h
 exact ⟨z, by simp only [Zd, a, b, Option.bind_some, c], k⟩
theorem Zr5 {q : T → Option T} {f : PE} (h : Pk (f σ) fun x => Pk (q x) Q) : Pk (pUn q f σ) Q := by
 obtain ⟨x, a, z, c, k⟩ := h
 exact ⟨z, by simp only [pUn, a, Option.bind_some, c], k⟩
theorem Zqk {q : List T → Option T} {f : PEs} (h : Pl (f σ) fun x => Pk (q x) Q) : Pk (Zv q f σ) Q := by
 obtain ⟨x, a, z, c, k⟩ := h
 exact ⟨z, by simp only [Zv, a, Option.bind_some, c], k⟩
theorem Zrp (h : L []) : Pl (Zn σ) L := ⟨_, rfl, h⟩
theorem Zql {f : PE} {g : PEs} (h : Pk (f σ) fun x => Pl (g σ) fun xs => L (x :: xs)) : Pl (Zf f g σ) L := by
 obtain ⟨x, a, y, b, k⟩ := h
 exact ⟨_, by simp only [Zf, a, b, Option.bind_some], k⟩
theorem Zrq {g : PEs} (h : Pl (g σ) fun xs => Q (.tup xs)) : Pk (ZaU g σ) Q := by
 obtain ⟨x, a, k⟩ := h; exact ⟨_, by simp only [ZaU, a, Option.map_some], k⟩
theorem Zqm {g : PEs} (h : Pl (g σ) fun xs => Q (.lst xs)) : Pk (Zbs g σ) Q := by
 obtain ⟨x, a, k⟩ := h; exact ⟨_, by simp only [Zbs, a, Option.map_some], k⟩
theorem Zqn {f : PE} (h : Pk (f σ) fun t => t.flat = true ∧ Q t) : Pk (Zcm f σ) Q := by
 obtain ⟨x, a, b, k⟩ := h; exact ⟨_, by simp only [Zcm, a, Option.bind_some, b, if_true], k⟩
theorem Zr6 {f : PE} (h : Pk (f σ) fun t => t.flatIn = true ∧ Q t) : Pk (pFl f σ) Q := by
 obtain ⟨x, a, b, k⟩ := h; exact ⟨_, by simp only [pFl, a, Option.bind_some, b, if_true], k⟩
theorem Zr7 {b : PB} {f g : PE} (h : Pb (b σ) fun x => (x = true → Pk (f σ) Q) ∧ (x = false → Pk (g σ) Q)) : Pk (pIf b f g σ) Q := by
 obtain ⟨x, a, h1, h2⟩ := h
 cases x with
 | true => obtain ⟨t, c, q⟩ := h1 rfl; exact ⟨t, by simp [pIf, a, c], q⟩
 | false => obtain ⟨t, c, q⟩ := h2 rfl; exact ⟨t, by simp [pIf, a, c], q⟩
theorem Zrr {f : PE} (h : Pk (f σ) fun x => Pb (Zbl x) fun b => Q (.bool (!b))) : Pk (ZgJ f σ) Q := by
 obtain ⟨x, a, b, e, q⟩ := h; exact ⟨_, by simp only [ZgJ, a, Option.bind_some, e, Option.map_some], q⟩
theorem Zrs {f g : PE} (h : Pk (f σ) fun x => Pb (Zbl x) fun b => (b = true → Pk (g σ) Q) ∧ (b = false → Q x)) : Pk (ZcF f g σ) Q := by
 obtain ⟨x, a, b, e, h1, h2⟩ := h
 cases b with
 | true => obtain ⟨t, c, q⟩ := h1 rfl; exact ⟨t, by simp [ZcF, a, e, c], q⟩
 | false => exact ⟨x, by simp [ZcF, a, e], h2 rfl⟩
theorem Zr8 {f g : PE} (h : Pk (f σ) fun x => Pb (Zbl x) fun b => (b = true → Q x) ∧ (b = false → Pk (g σ) Q)) : Pk (pOr f g σ) Q := by
 obtain ⟨x, a, b, e, h1, h2⟩ := h
 cases b with
 | false => obtain ⟨t, c, q⟩ := h2 rfl; exact ⟨t, by simp [pOr, a, e, c], q⟩
 | true => exact ⟨x, by simp [pOr, a, e], h1 rfl⟩
theorem Zr9 {K : String} {f : PE} (h : Pk (f σ) fun x => Q (.bool (Zf9 K x))) : Pk (pIs K f σ) Q := by
 obtain ⟨x, a, q⟩ := h; exact ⟨_, by simp only [pIs, a, Option.map_some], q⟩
theorem Zrt {f : PE} (h : Pk (f σ) fun x => Pb (Zbl x) B) : Pb (ZI f σ) B := by
 obtain ⟨x, a, b, e, q⟩ := h; exact ⟨_, by simp only [ZI, a, Option.bind_some, e], q⟩
theorem Zqo {f : PB} (h : Pb (f σ) fun b => B (!b)) : Pb (Zbg f σ) B := by
 obtain ⟨x, a, q⟩ := h; exact ⟨_, by simp only [Zbg, a, Option.map_some], q⟩
theorem Zqp (h : B true) : Pb (Zae σ) B := ⟨_, rfl, h⟩
theorem ZpE (h : B false) : Pb (ZbJ σ) B := ⟨_, rfl, h⟩
theorem Zqq {f g : PB} (h : Pb (f σ) fun b => (b = true → Pb (g σ) B) ∧ (b = false → B false)) : Pb (Zbp f g σ) B := by
 obtain ⟨x, a, h1, h2⟩ := h
 cases x with
 | true => obtain ⟨t, c, q⟩ := h1 rfl; exact ⟨t, by simp [Zbp, a, c], q⟩
 | false => exact ⟨_, by simp [Zbp, a], h2 rfl⟩
theorem Zru {f g : PB} (h : Pb (f σ) fun b => (b = true → B true) ∧ (b = false → Pb (g σ) B)) : Pb (bOr f g σ) B := by
 obtain ⟨x, a, h1, h2⟩ := h
 cases x with
 | false => obtain ⟨t, c, q⟩ := h2 rfl; exact ⟨t, by simp [bOr, a, c], q⟩
 | true => exact ⟨_, by simp [bOr, a], h1 rfl⟩
theorem Zoo {b : Bool} (h : B b) : Pb (Zbl (.bool b)) B := ⟨_, rfl, h⟩
theorem Zqr (h : N σ) : Psk (ZX σ) R N := ⟨_, _, rfl, by simp, fun _ => h⟩
theorem Zrv {f : PE} (h : Pk (f σ) R) : Psk (ZF f σ) R N := by
 obtain ⟨x, a, q⟩ := h; exact ⟨some x, σ, by simp only [ZF, a, Option.map_some], fun t e => by cases e; exact q, by simp⟩
theorem Zrw {i : Nat} {f : PE} (h : Pk (f σ) fun t => N (ZR σ i t)) : Psk (ZP i f σ) R N := by
 obtain ⟨x, a, q⟩ := h; exact ⟨none, ZR σ i x, by simp only [ZP, a, Option.map_some], by simp, fun _ => q⟩
theorem Zj8 {a b : PS} (h : Psk (a σ) R fun σ1 => Psk (b σ1) R N) : Psk (Zu a b σ) R N := by
 obtain ⟨o, σ1, e, h1, h2⟩ := h
 cases o with
 | some t => exact ⟨some t, σ1, by simp only [Zu, e, Option.bind_some], h1, by simp⟩
 | none =>
  obtain ⟨o2, σ2, e2, k1, k2⟩ := h2 rfl
  exact ⟨o2, σ2, by simp only [Zu, e, Option.bind_some, e2], k1, k2⟩
theorem Zj9 {b : PB} {f g : PS} (h : Pb (b σ) fun x => (x = true → Psk (f σ) R N) ∧ (x = false → Psk (g σ) R N)) : Psk (ZT b f g σ) R N := by
 obtain ⟨x, a, h1, h2⟩ := h
 cases x with
 | true => obtain ⟨o, s, c, q⟩ := h1 rfl; exact ⟨o, s, by simp [ZT, a, c], q⟩
 | false => obtain ⟨o, s, c, q⟩ := h2 rfl; exact ⟨o, s, by simp [ZT, a, c], q⟩
theorem Zmw {n : Nat} {q : PS} {ts : List T} (hn : ts.length = n) (h : Psk (q fun i => ts[i]?) Q fun _ => Q .none) : Pk (Z0 n q ts) Q := by
 obtain ⟨o, s, e, h1, h2⟩ := h
 cases o with
 | some t => exact ⟨t, by simp only [Z0, hn, if_true, e, Option.map_some, Option.getD_some], h1 t rfl⟩
 | none => exact ⟨.none, by simp only [Z0, hn, if_true, e, Option.map_some, Option.getD_none], h2 rfl⟩
theorem Zrx {b : Bool} {A C : Prop} (h : b = true) (k : A) : (b = true → A) ∧ (b = false → C) := ⟨fun _ => k, fun e => (by rw [h] at e; cases e)⟩
theorem Zry {b : Bool} {A C : Prop} (h : b = false) (k : C) : (b = true → A) ∧ (b = false → C) := ⟨fun e => (by rw [h] at e; cases e), fun _ => k⟩
theorem Zmx {a b : Int} (h : Q (.int (a + b))) : Pk (Zad (.int a) (.int b)) Q := ⟨_, rfl, h⟩
theorem Zrz {a b : Int} (h : Q (.int (a - b))) : Pk (Za3 (.int a) (.int b)) Q := ⟨_, rfl, h⟩
theorem ZrA {a : Int} (h : Q (.int (-a))) : Pk (ZdH (.int a)) Q := ⟨_, rfl, h⟩
theorem Zsa {a b : Int} (h : Q (.bool (decide (a < b)))) : Pk (qLt (.int a) (.int b)) Q := ⟨_, rfl, h⟩
theorem Zsb {a b : Int} (h : Q (.bool (decide (a ≤ b)))) : Pk (qLe (.int a) (.int b)) Q := ⟨_, rfl, h⟩
theorem Zsc {a b : Int} (h : Q (.bool (decide (b < a)))) : Pk (qGt (.int a) (.int b)) Q := ⟨_, rfl, h⟩
theorem ZrB {a b : Int} (hb : b ≠ 0) (h : Q (.int (a.fmod b))) : Pk (ZaI (.int a) (.int b)) Q := ⟨_, by simp only [ZaI]; rw [if_pos hb], h⟩
theorem Zd7 {a b : Int} (hb : b ≠ 0) (hd : Builtin.divisionGoesByPylong a b = false) (h : Q (.int (a.fdiv b))) : Pk (ZcG (.int a) (.int b)) Q := ⟨_, by simp only [ZcG]; rw [if_pos ⟨hb, hd⟩], h⟩
theorem Zb9 {a b : Int} (hm : mulOk a b = true) (h : Q (.int (a * b))) : Pk (ZaE (.int a) (.int b)) Q := ⟨_, by simp only [ZaE]; rw [if_pos hm], h⟩
theorem ZrC {a : Int} (h : Q (.int (if a < 0 then -a else a))) : Pk (Zdj [.int a]) Q := ⟨_, rfl, h⟩
theorem Zgc (a b : Int) : Zdi (.int a) (.int b) = some (decide (a = b)) := by
 simp [Zdi, Zcc, SeqAt.shaped, PyData.canLay0, PyData.depth, PyData.eqv]
 by_cases h : a = b <;> simp [h]
theorem Zsd {a b : Int} (h : Q (.bool (decide (a = b)))) : Pk (qEq (.int a) (.int b)) Q := ⟨_, by simp only [qEq, Zgc, Option.map_some], h⟩
theorem Zse {a b : Int} (h : Q (.bool (decide (a ≠ b)))) : Pk (qNe (.int a) (.int b)) Q := ⟨.bool (decide (a ≠ b)), by simp only [qNe, Zgc, Option.map_some]; simp, h⟩
theorem ZrD (h : Q (.bool true)) : Pk (qIs .none .none) Q := ⟨_, rfl, h⟩
theorem ZrE {a : Int} (h : Q (.bool false)) : Pk (qIs (.int a) .none) Q := ⟨_, rfl, h⟩
theorem ZrF {a : List T} (h : Q (.bool false)) : Pk (qIs (.lst a) .none) Q := ⟨_, rfl, h⟩
theorem ZrG {a : List T} (h : Q (.bool false)) : Pk (qIs (.tup a) .none) Q := ⟨_, rfl, h⟩
theorem Zqs (h : Q (.bool false)) : Pk (Zcj .none .none) Q := ⟨_, rfl, h⟩
theorem Zqt {a : Int} (h : Q (.bool true)) : Pk (Zcj (.int a) .none) Q := ⟨_, rfl, h⟩
theorem Zqu {a : List T} (h : Q (.bool true)) : Pk (Zcj (.tup a) .none) Q := ⟨_, rfl, h⟩
theorem Zqv {n : Nat} {f : Nat → T} (h : Q (.int n)) : Pk (ZaB [.lst (tab n f)]) Q := ⟨_, by simp only [ZaB, Zav], h⟩
theorem ZrH {ts : List T} (h : Q (.int ts.length)) : Pk (ZaB [.lst ts]) Q := ⟨_, rfl, h⟩
theorem Zqw {ts : List T} (h : Q (.int ts.length)) : Pk (ZaB [.tup ts]) Q := ⟨_, rfl, h⟩
theorem Zgz {k : Int} {n : Nat} (h0 : 0 ≤ k) (h1 : k < n) : seqIndex? k n = some k.toNat := by
 unfold seqIndex?
 have : ¬ k < 0 := by omega
 simp [this]
 omega
theorem Zqx {n i : Nat} {f : Nat → T} (hi : i < n) (h : Q (f i)) : Pk (Zs (.lst (tab n f)) (.int (i : Nat))) Q := ⟨_, by
 simp only [Zs, Zav, Zgz (show (0 : Int) ≤ (i : Int) by omega) (show (i : Int) < (n : Int) by omega), Option.bind_some, Int.toNat_natCast]
 exact ZbB hi, h⟩
theorem Zqy {n : Nat} {k : Int} {f : Nat → T} (h0 : 0 ≤ k) (h1 : k < n) (h : Q (f k.toNat)) : Pk (Zs (.lst (tab n f)) (.int k)) Q := ⟨_, by
 simp only [Zs, Zav, Zgz h0 h1, Option.bind_some]
 exact ZbB (by omega), h⟩
theorem ZeF {ts : List T} {k : Int} {t : T} (h0 : 0 ≤ k) (e : ts[k.toNat]? = some t) (h : Q t) : Pk (Zs (.lst ts) (.int k)) Q := ⟨_, by
 simp only [Zs]
 rw [Zgz h0 (by have := (Zz6.mp e).1; omega)]
 exact e, h⟩
theorem Zqz {ts : List T} {k : Int} {t : T} (h0 : 0 ≤ k) (e : ts[k.toNat]? = some t) (h : Q t) : Pk (Zs (.tup ts) (.int k)) Q := ⟨_, by
 simp only [Zs]
 rw [Zgz h0 (by have := (Zz6.mp e).1; omega)]
 exact e, h⟩
theorem Zl2 {n : Nat} {a : T} {f : Nat → T} (hn : n < 10000) (h : Q (.lst (tab (n + 1) (cn a f)))) : Pk (Zad (.lst [a]) (.lst (tab n f))) Q := ⟨_, by
 simp only [Zad]
 rw [if_pos (by rw [Za2, List.length_append, Zav]; simp; omega), List.singleton_append, ZpD], h⟩
theorem ZpF {ts : List T} (h : Q (.lst ts)) : Pk (Zdt [.lst ts]) Q := ⟨_, rfl, h⟩
theorem Zo4 {n : Nat} {f : Nat → Bool} : Zd6 (tab n fun i => .bool (f i)) = some (tab n f) := by
 have : ∀ l : List Bool, Zd6 (l.map T.bool) = some l := fun l => by
  induction l with
  | nil => rfl
  | cons a l ih => simp only [List.map_cons, Zd6, ih, Option.map_some]
 rw [show (tab n fun i => T.bool (f i)) = (tab n f).map T.bool from tab_map.symm]
 exact this _
theorem ZpG {n : Nat} {f : Nat → Int} : Zcq (tab n fun i => .int (f i)) = some (tab n f) := by
 have : ∀ l : List Int, Zcq (l.map T.int) = some l := fun l => by
  induction l with
  | nil => rfl
  | cons a l ih => simp only [List.map_cons, Zcq, ih, Option.map_some]
 rw [show (tab n fun i => T.int (f i)) = (tab n f).map T.int from tab_map.symm]
 exact this _
theorem ZrI {n : Nat} {P : Nat → Prop} (h : Q (.bool (dec (∃ i, i < n ∧ P i)))) : Pk (Zfb [.lst (tab n fun i => .bool (dec (P i)))]) Q := ⟨_, by
 simp only [Zfb, Zo4, Option.map_some]
 congr 2
 symm
 apply Zj7
 rw [List.any_eq_true]
 constructor
 ·rintro ⟨x, hx, h⟩
  obtain ⟨i, hi, e⟩ := List.getElem_of_mem hx
  rw [Zav] at hi
  have := ZbB (f := fun i => dec (P i)) hi
  rw [List.getElem?_eq_getElem (by rw [Zav]; exact hi)] at this
  rw [← e, Option.some.inj this] at h
  exact ⟨i, hi, dec_iff.mp h⟩
 ·rintro ⟨i, hi, h⟩
  exact ⟨_, List.mem_of_getElem? (ZbB hi), ZaP h⟩, h⟩
noncomputable def SqP (x : T) (L : List T → Prop) : Prop := ∃ ts, (x = .lst ts ∨ x = .tup ts) ∧ L ts
theorem ZjM {f : PE} (h : Pk (f σ) fun t => SqP t L) : Pl (ZaY f σ) L := by
 obtain ⟨t, a, ts, rfl | rfl, q⟩ := h <;> exact ⟨_, by simp only [ZaY, a, Option.bind_some], q⟩
theorem Sq.lst {ts : List T} (h : L ts) : SqP (.lst ts) L := ⟨ts, .inl rfl, h⟩
theorem Zmy {a b c : Int} {H : Hp} {z : Nx × Nat × Hp} (h : ZbS a b c H = some z) : ZbP a b c = some ((List.range (rngN a b c)).map fun (i : Nat) => .int (a + (i : Int) * c)) := by
 unfold ZbS at h
 split at h
 ·rename_i hc
  unfold ZbP
  rw [if_pos hc]
 ·cases h
theorem ZpH {n : Nat} (hn : n ≤ 1000) : ZbP 0 n 1 = some (tab n fun i => .int i) := by
 rw [Zmy (Zre (H := []) (b := n) (by omega) (by omega))]
 have e : rngN 0 n 1 = n := by
  unfold rngN Builtin.Range.rangeSize
  by_cases q : (0 : Int) < n
  ·rw [if_pos (by decide), if_pos (by omega)]; omega
  ·rw [if_pos (by decide), if_neg (by omega)]; omega
 rw [e]
 simp [tab]
theorem Zl3 {a n : Nat} (ha : 0 < n) (hn : a + n ≤ 1000) : ZbP a (a + n) 1 = some (tab n fun i => .int (a + i)) := by
 rw [Zmy (Zrg (H := []) (a := a) (b := a + n) (c := 1) (by omega) (by omega) (by omega) (by omega) (by omega))]
 have e : rngN a (a + n) 1 = n := by
  unfold rngN
  rw [ZmR (by omega) (by omega)]
  omega
 rw [e]
 simp [tab]
theorem ZqA {g : PEs} {b : Int} {o : Option (List T)} (e : g σ = some [.int b]) (h : ZbP 0 b 1 = o) : Zax g σ = o := by
 subst h; unfold Zax; rw [e]; rfl
theorem Zgd {g : PEs} {a b : Int} {o : Option (List T)} (e : g σ = some [.int a, .int b]) (h : ZbP a b 1 = o) : Zax g σ = o := by
 subst h; unfold Zax; rw [e]; rfl
noncomputable def RnP (xs : List T) (L : List T → Prop) : Prop := (∃ n : Nat, xs = [.int n] ∧ n ≤ 1000 ∧ L (tab n fun i => .int i)) ∨ ∃ (a : Nat) (n : Nat), xs = [.int a, .int (a + n)] ∧ 0 < n ∧ a + n ≤ 1000 ∧ L (tab n fun i => .int (a + i))
theorem ZpI {g : PEs} (h : Pl (g σ) fun xs => RnP xs L) : Pl (Zax g σ) L := by
 obtain ⟨xs, e, h⟩ := h
 rcases h with ⟨n, h0, h1, q⟩ | ⟨a, n, h0, h1, h2, q⟩
 ·subst h0; exact ⟨_, ZqA e (ZpH h1), q⟩
 ·subst h0; exact ⟨_, Zgd e (Zl3 h1 h2), q⟩
theorem Rn.one {n : Nat} (hn : n ≤ 1000) (h : L (tab n fun i => .int i)) : RnP [.int n] L := .inl ⟨n, rfl, hn, h⟩
theorem ZmS {k : Int} (n : Nat) (e : k = n) (hn : n ≤ 1000) (h : L (tab n fun i => .int i)) : RnP [.int k] L := .inl ⟨n, by rw [e], hn, h⟩
theorem Rn.two {k l : Int} (a n : Nat) (e0 : l = a) (e : k = a + n) (ha : 0 < n) (hn : a + n ≤ 1000) (h : L (tab n fun i => .int (a + i))) : RnP [.int l, .int k] L := .inr ⟨a, n, by rw [e, e0], ha, hn, h⟩
noncomputable def ZiP (x y : T) (L : List T → Prop) : Prop := ∃ xs ys, x = .lst xs ∧ y = .lst ys ∧ L (List.zipWith (fun a b => .tup [a, b]) xs ys)
theorem Zka {f g : PE} (h : Pk (f σ) fun x => Pk (g σ) fun y => ZiP x y L) : Pl (ZcU f g σ) L := by
 obtain ⟨x, a, y, b, xs, ys, rfl, rfl, q⟩ := h; exact ⟨_, by simp only [ZcU, a, b, Option.bind_some], q⟩
theorem Zi.eq {n : Nat} {f g : Nat → T} (h : L (tab n fun i => .tup [f i, g i])) : ZiP (.lst (tab n f)) (.lst (tab n g)) L := ⟨_, _, rfl, rfl, by rw [Zl1, Nat.min_self]; exact h⟩
theorem ZjN {put : T → TL → Option TL} {f : PE} : ∀ {ts us : List T}, us.length = ts.length → (∀ (i : Nat) t u, ts[i]? = some t → us[i]? = some u → ∃ σ1, put t σ = some σ1 ∧ f σ1 = some u) → Zcr put Zae f σ ts = some us
 | [], us, hl, _ => by cases us with
  | nil => rfl
  | cons _ _ => simp at hl
 | t :: ts, us, hl, k => by
  cases us with
  | nil => simp at hl
  | cons u us =>
   obtain ⟨σ1, h1, h2⟩ := k 0 t u (by simp) (by simp)
   have := ZjN (ts := ts) (us := us) (f := f) (put := put) (by simpa using hl) fun i t' u' h3 h4 => k (i + 1) t' u' (by simpa using h3) (by simpa using h4)
   simp only [Zcr, h1, Zae, Option.bind_some, if_true, h2, this, Option.map_some]
theorem Za8 {g : PG} {j n : Nat} {a b : Nat → T} {f : PE} (hn : n < 10000) (hg : Pl (g σ) fun ts => ts = tab n a) (hf : ∀ i, i < n → Pk (f (ZR σ j (a i))) fun t => t = b i) (h : Q (.lst (tab n b))) : Pk (Zah g (Zac j) Zae f σ) Q := by
 obtain ⟨ts, e, rfl⟩ := hg
 refine ⟨_, ?_, h⟩
 simp only [Zah, e, Option.bind_some, Zav]
 rw [if_pos (by rw [Za2]; omega), ZjN (us := tab n b) (by rw [Zav, Zav]) fun i t u h1 h2 => ?_]
 ·rfl
 ·have hi : i < n := by have := (Zz6.mp h1).1; rwa [Zav] at this
  rw [ZbB hi] at h1 h2
  cases h1; cases h2
  exact ⟨_, rfl, (hf i hi).eq⟩
theorem Zjn {g : PG} {j k n : Nat} {a b c : Nat → T} {f : PE} (hn : n < 10000) (hg : Pl (g σ) fun ts => ts = tab n fun i => .tup [a i, b i]) (hf : ∀ i, i < n → Pk (f (ZR (ZR σ j (a i)) k (b i))) fun t => t = c i) (h : Q (.lst (tab n c))) : Pk (Zah g (Zcb j k) Zae f σ) Q := by
 obtain ⟨ts, e, rfl⟩ := hg
 refine ⟨_, ?_, h⟩
 simp only [Zah, e, Option.bind_some, Zav]
 rw [if_pos (by rw [Za2]; omega), ZjN (us := tab n c) (by rw [Zav, Zav]) fun i t u h1 h2 => ?_]
 ·rfl
 ·have hi : i < n := by have := (Zz6.mp h1).1; rwa [Zav] at this
  rw [ZbB hi] at h1 h2
  cases h1; cases h2
  exact ⟨_, rfl, (hf i hi).eq⟩
theorem Zkb {put : T → TL → Option TL} {b : PS} : ∀ {ts : List T} (P : Nat → TL → Prop) {σ : TL}, P 0 σ → (∀ (i : Nat) t σ, ts[i]? = some t → P i σ → ∃ σ1, put t σ = some σ1 ∧ Psk (b σ1) R (P (i + 1))) → (∀ σ, P ts.length σ → N σ) → Psk (ZdJ put b σ ts) R N
 | [], P, σ, h0, _, h2 => ⟨_, _, rfl, by simp, fun _ => h2 _ h0⟩
 | t :: ts, P, σ, h0, h1, h2 => by
  obtain ⟨σ1, e1, o, σ2, e2, k1, k2⟩ := h1 0 t σ (by simp) h0
  cases o with
  | some v => exact ⟨some v, σ2, by simp only [ZdJ, e1, Option.bind_some, e2], k1, by simp⟩
  | none =>
   obtain ⟨o3, σ3, e3, l1, l2⟩ := Zkb (ts := ts) (fun i => P (i + 1)) (k2 rfl) (fun i t' σ' h3 h4 => h1 (i + 1) t' σ' (by simpa using h3) h4) (fun σ' h => h2 σ' (by simpa using h))
   exact ⟨o3, σ3, by simp only [ZdJ, e1, Option.bind_some, e2, e3], l1, l2⟩
theorem ZbX {g : PG} {j n : Nat} {a : Nat → T} {b : PS} (hg : Pl (g σ) fun ts => ts = tab n a) (P : Nat → TL → Prop) (h0 : P 0 σ) (h1 : ∀ i σ, i < n → P i σ → Psk (b (ZR σ j (a i))) R (P (i + 1))) (h2 : ∀ σ, P n σ → N σ) : Psk (ZaV g (Zac j) b σ) R N := by
 obtain ⟨ts, e, rfl⟩ := hg
 have := Zkb (R := R) (N := N) (put := Zac j) (b := b) (ts := tab n a) P h0 (fun i t σ' h3 h4 => by
  have hi : i < n := by have := (Zz6.mp h3).1; rwa [Zav] at this
  rw [ZbB hi] at h3
  cases h3
  exact ⟨_, rfl, h1 i σ' hi h4⟩) (by rw [Zav]; exact h2)
 obtain ⟨o, s, e2, q⟩ := this
 exact ⟨o, s, by simp only [ZaV, e, Option.bind_some, e2], q⟩
theorem Zge {g : PG} {j k n : Nat} {a c : Nat → T} {b : PS} (hg : Pl (g σ) fun ts => ts = tab n fun i => .tup [a i, c i]) (P : Nat → TL → Prop) (h0 : P 0 σ) (h1 : ∀ i σ, i < n → P i σ → Psk (b (ZR (ZR σ j (a i)) k (c i))) R (P (i + 1))) (h2 : ∀ σ, P n σ → N σ) : Psk (ZaV g (Zcb j k) b σ) R N := by
 obtain ⟨ts, e, rfl⟩ := hg
 have := Zkb (R := R) (N := N) (put := Zcb j k) (b := b) (ts := tab n fun i => .tup [a i, c i]) P h0 (fun i t σ' h3 h4 => by
  have hi : i < n := by have := (Zz6.mp h3).1; rwa [Zav] at this
  rw [ZbB hi] at h3
  cases h3
  exact ⟨_, rfl, h1 i σ' hi h4⟩) (by rw [Zav]; exact h2)
 obtain ⟨o, s, e2, q⟩ := this
 exact ⟨o, s, by simp only [ZaV, e, Option.bind_some, e2], q⟩
theorem Zjo {t : PB} {b : PS} (P : Nat → TL → Prop) (R : T → Prop) (N : TL → Prop) (h : ∀ m σ, P m σ → Pb (t σ) fun x => (x = true → Psk (b σ) R fun σ1 => ∃ m', m' < m ∧ P m' σ1) ∧ (x = false → N σ)) : ∀ (n : Nat) {m : Nat} {σ : TL}, P m σ → m < n → Psk (Zc7 t b n σ) R N
 | 0, _, _, _, hm => by omega
 | n + 1, m, σ, hp, hm => by
  obtain ⟨x, e, h1, h2⟩ := h m σ hp
  cases x with
  | false => exact ⟨none, σ, by simp [Zc7, e], by simp, fun _ => h2 rfl⟩
  | true =>
   obtain ⟨o, σ1, e1, k1, k2⟩ := h1 rfl
   cases o with
   | some v => exact ⟨some v, σ1, by simp [Zc7, e, e1], k1, by simp⟩
   | none =>
    obtain ⟨m', hm', hp'⟩ := k2 rfl
    obtain ⟨o2, σ2, e2, l1, l2⟩ := Zjo P R N h n hp' (by omega)
    exact ⟨o2, σ2, by simp [Zc7, e, e1, e2], l1, l2⟩
theorem Zk9 : Zb1 σ [] = σ := by funext i; simp [Zb1]
noncomputable def AppP (σ : TL) (x : Nat) (w : T) (N : TL → Prop) : Prop := ∃ ts, σ x = some (.lst ts) ∧ ts.length < 10000 ∧ N (ZR σ x (.lst (ts ++ [w])))
theorem ZqB {x : Nat} {w : T} {ts : List T} (e : σ x = some (.lst ts)) (hl : ts.length < 10000) (h : N (ZR σ x (.lst (ts ++ [w])))) : AppP σ x w N := ⟨ts, e, hl, h⟩
theorem ZrJ {x : Nat} {f : PE} (h : Pk (f σ) fun w => AppP σ x w N) : Psk (ZcV x [] Zbc f σ) R N := by
 obtain ⟨w, e, ts, h1, h2, q⟩ := h
 refine ⟨none, _, ?_, by simp, fun _ => q⟩
 simp only [ZcV, Zbc, Option.bind_some, e, h1, Zdg, ZgN]
 rw [if_pos (by rw [Za2]; omega)]
 simp only [Option.map_some, Zk9]
noncomputable def AppQ (σ : TL) (x y : Nat) (w : T) (N : TL → Prop) : Prop := ∃ ts, σ x = some (.lst ts) ∧ ts.length < 10000 ∧ N (Zb1 (ZR σ x (.lst (ts ++ [w]))) [y])
theorem ZqC {x y : Nat} {w : T} {ts : List T} (e : σ x = some (.lst ts)) (hl : ts.length < 10000) (h : N (Zb1 (ZR σ x (.lst (ts ++ [w]))) [y])) : AppQ σ x y w N := ⟨ts, e, hl, h⟩
theorem ZqD {x y : Nat} {f : PE} (h : Pk (f σ) fun w => AppQ σ x y w N) : Psk (ZcV x [y] Zbc f σ) R N := by
 obtain ⟨w, e, ts, h1, h2, q⟩ := h
 refine ⟨none, _, ?_, by simp, fun _ => q⟩
 simp only [ZcV, Zbc, Option.bind_some, e, h1, Zdg, ZgN]
 rw [if_pos (by rw [Za2]; omega)]
 simp only [Option.map_some]
noncomputable def PutP (σ : TL) (x : Nat) (w k : T) (N : TL → Prop) : Prop := ∃ ts m, k = .int m ∧ σ x = some (.lst ts) ∧ 0 ≤ m ∧ m < ts.length ∧ N (ZR σ x (.lst (ts.set m.toNat w)))
theorem PutP.tab {x n i : Nat} {w : T} {f : Nat → T} (e : σ x = some (.lst (TM.tab n f))) (hi : i < n) (h : N (ZR σ x (.lst (TM.tab n fun k => if k = i then w else f k)))) : PutP σ x w (.int i) N := ⟨_, _, rfl, e, by omega, by rw [Zav]; omega, by rw [Int.toNat_natCast, Zl0]; exact h⟩
theorem Zo5 {x n : Nat} {k : Int} {w : T} {f : Nat → T} (e : σ x = some (.lst (TM.tab n f))) (h0 : 0 ≤ k) (hi : k < n) (h : N (ZR σ x (.lst (TM.tab n fun i => if i = k.toNat then w else f i)))) : PutP σ x w (.int k) N := ⟨_, _, rfl, e, h0, by rw [Zav]; omega, by rw [Zl0]; exact h⟩
theorem ZrK {x : Nat} {f i : PE} (h : Pk (f σ) fun w => Pk (i σ) fun k => PutP σ x w k N) : Psk (Zce x [] f Zbc i σ) R N := by
 obtain ⟨w, e, k, e2, ts, m, rfl, h1, h2, h3, q⟩ := h
 refine ⟨none, _, ?_, by simp, fun _ => q⟩
 simp only [Zce, Zbc, Option.bind_some, e, e2, h1, Zdg, Zks]
 rw [if_pos ⟨h2, h3⟩]
 simp only [Option.map_some, Zk9]
theorem ZqE {i j : Nat} {t : T} {o : Option T} (h : j ≠ i) (e : σ j = o) : ZR σ i t j = o := by simp [ZR, h, e]
theorem ZpJ {j : Nat} {J : List Nat} {o : Option T} (h : j ∉ J) (e : σ j = o) : Zb1 σ J j = o := by simp [Zb1, h, e]
end
end TM
end
section
set_option maxRecDepth 100000
set_option linter.all false
set_option autoImplicit false
namespace TM
open PySem PM
inductive Pln : Nat → T → Prop where
 | none {n : Nat} : Pln n .none
 | int {n : Nat} {i : Int} : Pln n (.int i)
 | str {n : Nat} {x : Str} : PyData.strOk x = true → Pln n (.str x)
 | tup {n : Nat} {ts : List T} : (∀ t ∈ ts, Pln n t) → Pln (n + 1) (.tup ts)
 | lst {n : Nat} {ts : List T} : (∀ t ∈ ts, Pln n t) → Pln (n + 1) (.lst ts)
mutual
noncomputable def dd : T → PyData
 | .none => .none
 | .bool b => .bool b
 | .int i => .int i
 | .str x => .str x
 | .tup ts => .tuple (dds ts)
 | .lst ts => .list (dds ts)
noncomputable def dds : List T → List PyData
 | [] => []
 | t :: ts => dd t :: dds ts
end
theorem Zjp {f : T → Option PyData} : ∀ {ts : List T}, (∀ t ∈ ts, f t = some (dd t)) → Zdx f ts = some (dds ts)
 | [], _ => rfl
 | t :: ts, h => by simp only [Zdx, h t Zz5, Zjp fun t m => h t (Zz2 _ m), Option.bind_some, dds]
theorem ZjO : ∀ {ts : List T}, (∀ t ∈ ts, PyData.canLay0 (dd t) = true) → PyData.canLayAll0 (dds ts) = true
 | [], _ => rfl
 | t :: ts, h => by simp only [dds, PyData.canLayAll0, h t Zz5, ZjO fun t m => h t (Zz2 _ m), Bool.and_self]
theorem ZjP {n : Nat} : ∀ {ts : List T}, (∀ t ∈ ts, PyData.depth (dd t) ≤ n) → PyData.depthAll (dds ts) ≤ n
 | [], _ => by simp [dds, PyData.depthAll]
 | t :: ts, h => by
  have h1 := h t Zz5
  have h2 := ZjP fun t m => h t (Zz2 _ m)
  simp only [dds, PyData.depthAll]
  omega
theorem Pln.dat {n : Nat} {t : T} (h : Pln n t) : Zcc n t = some (dd t) ∧ PyData.canLay0 (dd t) = true ∧ PyData.depth (dd t) ≤ n := by
 induction h with
 | @none n => cases n <;> exact ⟨rfl, rfl, by simp [dd, PyData.depth]⟩
 | @int n i => cases n <;> exact ⟨rfl, rfl, by simp [dd, PyData.depth]⟩
 | @str n x h => cases n <;> exact ⟨rfl, by simpa [dd, PyData.canLay0] using h, by simp [dd, PyData.depth]⟩
 | @tup n ts _ ih =>
  refine ⟨?_, ?_, ?_⟩
  ·simp only [Zcc, Zjp fun t m => (ih t m).1, Option.map_some, dd]
  ·simp only [dd, PyData.canLay0]; exact ZjO fun t m => (ih t m).2.1
  ·simp only [dd, PyData.depth]
   have := ZjP fun t m => (ih t m).2.2
   omega
 | @lst n ts _ ih =>
  refine ⟨?_, ?_, ?_⟩
  ·simp only [Zcc, Zjp fun t m => (ih t m).1, Option.map_some, dd]
  ·simp only [dd, PyData.canLay0]; exact ZjO fun t m => (ih t m).2.1
  ·simp only [dd, PyData.depth]
   have := ZjP fun t m => (ih t m).2.2
   omega
theorem ZjQ : ∀ {ts us : List T}, (∀ t ∈ ts, ∀ u ∈ us, (PyData.eqv (dd t) (dd u) = true ↔ t = u)) → (PyData.eqvAll (dds ts) (dds us) = true ↔ ts = us)
 | [], [], _ => by simp [dds, PyData.eqvAll]
 | [], _ :: _, _ => by simp [dds, PyData.eqvAll]
 | _ :: _, [], _ => by simp [dds, PyData.eqvAll]
 | t :: ts, u :: us, h => by
  simp only [dds, PyData.eqvAll, Bool.and_eq_true, h t Zz5 u Zz5, ZjQ fun t m u n => h t (Zz2 _ m) u (Zz2 _ n), List.cons.injEq]
theorem Pln.eqv {n : Nat} {t : T} (h : Pln n t) : ∀ {m : Nat} {u : T}, Pln m u → (PyData.eqv (dd t) (dd u) = true ↔ t = u) := by
 induction h with
 | none => intro m u h; cases h <;> simp [dd, PyData.eqv]
 | int => intro m u h; cases h <;> simp [dd, PyData.eqv]
 | str _ => intro m u h; cases h <;> simp [dd, PyData.eqv]
 | tup hs ih =>
  intro m u h
  cases h with
  | tup hu => simp only [dd, PyData.eqv, T.tup.injEq]; exact ZjQ fun t a u b => ih t a (hu u b)
  | none => simp [dd, PyData.eqv]
  | int => simp [dd, PyData.eqv]
  | str => simp [dd, PyData.eqv]
  | lst => simp [dd, PyData.eqv]
 | lst hs ih =>
  intro m u h
  cases h with
  | lst hu => simp only [dd, PyData.eqv, T.lst.injEq]; exact ZjQ fun t a u b => ih t a (hu u b)
  | none => simp [dd, PyData.eqv]
  | int => simp [dd, PyData.eqv]
  | str => simp [dd, PyData.eqv]
  | tup => simp [dd, PyData.eqv]
theorem Pln.mono {n : Nat} {t : T} (h : Pln n t) : ∀ {m : Nat}, n ≤ m → Pln m t := by
 induction h with
 | none => intro m _; exact .none
 | int => intro m _; exact .int
 | str h => intro m _; exact .str h
 | tup hs ih =>
  intro m hm
  cases m with
  | zero => omega
  | succ m => exact .tup fun t a => ih t a (by omega)
 | lst hs ih =>
  intro m hm
  cases m with
  | zero => omega
  | succ m => exact .lst fun t a => ih t a (by omega)
theorem Zl4 {n m : Nat} {a b : T} (ha : Pln n a) (hb : Pln m b) (hn : n ≤ 8 := by decide) (hm : m ≤ 8 := by decide) : Zdi a b = some (dec (a = b)) := by
 have ha := ha.mono hn
 have hb := hb.mono hm
 obtain ⟨a1, a2, a3⟩ := ha.dat
 obtain ⟨b1, b2, b3⟩ := hb.dat
 unfold Zdi Zbo
 rw [a1, b1]
 simp only [Option.bind_some]
 rw [if_pos ⟨by simp only [SeqAt.shaped, a2, Bool.true_and, decide_eq_true_eq]; omega, by simp only [SeqAt.shaped, b2, Bool.true_and, decide_eq_true_eq]; omega⟩, Zj7 (ha.eqv hb)]
section
variable {Q : T → Prop}
theorem Zgn {n m : Nat} {a b : T} (ha : Pln n a) (hb : Pln m b) (h : Q (.bool (dec (a = b)))) (hn : n ≤ 8 := by decide) (hm : m ≤ 8 := by decide) : Pk (qEq a b) Q := ⟨_, by simp only [qEq, Zl4 ha hb hn hm, Option.map_some], h⟩
theorem Zmz {n m : Nat} {a b : T} (ha : Pln n a) (hb : Pln m b) (h : Q (.bool (!dec (a = b)))) (hn : n ≤ 8 := by decide) (hm : m ≤ 8 := by decide) : Pk (qNe a b) Q := ⟨_, by simp only [qNe, Zl4 ha hb hn hm, Option.map_some], h⟩
end
theorem ZeG {α : Type} {n : Nat} {f : Nat → α} {x : α} (h : x ∈ tab n f) : ∃ i, i < n ∧ x = f i := by
 obtain ⟨i, hi, e⟩ := List.mem_map.mp h
 exact ⟨i, List.mem_range.mp hi, e.symm⟩
theorem Zla {n : Nat} {f : Nat → T} (h : ∀ i, i < n → (f i).flat = true) : T.flats (tab n f) = true := by
 have key : ∀ l : List T, (∀ t ∈ l, t.flat = true) → T.flats l = true := fun l => by
  induction l with
  | nil => intro _; rfl
  | cons t l ih => intro h; simp only [T.flats, h t Zz5, ih fun t m => h t (Zz2 _ m), Bool.and_self]
 exact key _ fun t m => by obtain ⟨i, hi, rfl⟩ := ZeG m; exact h i hi
theorem Zio {n : Nat} {f : Nat → T} (h : ∀ i, i < n → (f i).flat = true) : T.flatIn (.lst (tab n f)) = true := Zla h
noncomputable def oT : Option Int → T
 | none => .none
 | some x => .int x
noncomputable def Z9 (q : Int × Int) : T := .tup [.int q.1, .int q.2]
noncomputable def Zee (n : Nat) (x : Nat → Int) : T := .lst (tab n fun i => .int (x i))
noncomputable def Zai (n : Nat) (b : Nat → Option Int) : T := .lst (tab n fun j => oT (b j))
noncomputable def Zaw (n : Nat) (G : Nat → Nat → Option Int) : T := .lst (tab n fun i => Zai n (G i))
noncomputable def ZaT (n : Nat) (R : Nat → Int × Int) : T := .lst (tab n fun i => Z9 (R i))
noncomputable def ZZ (n : Nat) (G : Nat → Nat → Option Int) (R : Nat → Int × Int) : T := .tup [Zaw (n + 1) G, ZaT n R]
theorem ZbW : oT none = .none := rfl
theorem Zbi {c : Int} : oT (some c) = .int c := rfl
theorem ZjR {b : Option Int} : (oT b).flat = true := by cases b <;> rfl
theorem ZfZ {q : Int × Int} : (Z9 q).flat = true := rfl
theorem ZrL {a b : Option Int} : oT a = oT b ↔ a = b := by cases a <;> cases b <;> simp [oT]
theorem ZqF {a b : Int × Int} : Z9 a = Z9 b ↔ a = b := by cases a; cases b; simp [Z9]
theorem ZeM {n k : Nat} {f : Nat → T} (h : ∀ i, i < k → Pln n (f i)) : Pln (n + 1) (.lst (tab k f)) := .lst fun t m => by obtain ⟨i, hi, rfl⟩ := ZeG m; exact h i hi
theorem ZmT {n : Nat} {b : Option Int} : Pln n (oT b) := by cases b; exact .none; exact .int
theorem Zgo {n : Nat} {q : Int × Int} : Pln (n + 1) (Z9 q) := .tup fun t m => by
 simp at m; rcases m with rfl | rfl <;> exact .int
theorem Zl5 {n : Nat} {b : Nat → Option Int} : Pln 1 (Zai n b) := ZeM fun _ _ => ZmT
theorem ZpK {n : Nat} {G : Nat → Nat → Option Int} : Pln 2 (Zaw n G) := ZeM fun _ _ => Zl5
theorem ZpL {n : Nat} {R : Nat → Int × Int} : Pln 2 (ZaT n R) := ZeM fun _ _ => Zgo
theorem Zf0 {n : Nat} {G : Nat → Nat → Option Int} {R : Nat → Int × Int} : Pln 3 (ZZ n G R) := .tup fun t m => by
 simp at m; rcases m with rfl | rfl
 ·exact ZpK
 ·exact ZpL
theorem Zch {σ : TL} {i : Nat} {t : T} : ZR σ i t i = some t := by simp [ZR]
end TM
end
section
set_option maxRecDepth 100000
set_option linter.all false
set_option autoImplicit false
namespace PM
open PySem PySem.W PySem.Calls PyProof.Rows PyProof PyProof.Rows.LCg PyProof.Rows.LCp
noncomputable def sNo : Sm := fun _ _ => none
noncomputable def inD (d : PyData) : PyData → Option Bool
 | .list xs => if PyData.canLayAll0 xs = true ∧ d.canLay0 = true ∧ d.depth ≤ 64 then some (xs.any fun y => PyData.eqv y d) else none
 | .tuple xs => if PyData.canLayAll0 xs = true ∧ d.canLay0 = true ∧ d.depth ≤ 64 then some (xs.any fun y => PyData.eqv y d) else none
 | _ => none
noncomputable def Zkt (a b : V) (H : Hp) : Option Bool := (toD H Zbo a).bind fun d => (toD H Zbo b).bind fun e => inD d e
noncomputable def oIn (a b : V) (H : Hp) : Option (V × Hp) := (Zkt a b H).map fun c => (.bool c, H)
noncomputable def ZeN (a : Nat) : Nx := fun i H => H[a]?.bind fun vs => match vs[i]? with
 | some x => some (some (.tup [.int i, x]))
 | none => if i = vs.length then some none else none
noncomputable def ZgA (f : Ex) : Src := fun ρ H => (f ρ H).bind fun p => match p.1 with
 | .ref a => p.2[a]?.map fun vs => (ZeN a, vs.length + 1, p.2)
 | _ => none
section
variable {prog : Program} {w : World} {Γ : Cx}
theorem Zsf {st : Stmt} : S1 prog w Γ st sNo := fun W ρ H fr s Q E r rp hf post => by cases hf
theorem ZmU : Op2 prog w (compareOp .In) oIn := by
 intro Γ W ρ H fr s Q E a b x y v H' r hx hy ho post
 obtain ⟨c, e1, e2⟩ := Zz1.mp ho
 cases e2
 obtain ⟨d, h1, e1⟩ := Zz0.mp e1
 obtain ⟨e, h2, e1⟩ := Zz0.mp e1
 obtain ⟨as, R1⟩ := ZdU r Zbo a x d hx h1
 obtain ⟨bs, R2⟩ := ZdU r Zbo b y e hy h2
 have hu := Γ.hu
 unfold inD at e1
 split at e1
 ·split at e1
  ·rename_i hs
   cases e1
   exact SeqAt.in_list_reads R2 R1 hs.1 hs.2.1 (by omega) (post W s.heap s.toks _ (.refl W) r (.bool _))
  ·cases e1
 ·split at e1
  ·rename_i hs
   cases e1
   exact SeqAt.in_tuple_reads R2 R1 hs.1 hs.2.1 (by omega) (post W s.heap s.toks _ (.refl W) r (.bool _))
  ·cases e1
 ·cases e1
noncomputable def ES (e it l : Addr) (i : Nat) (h : Heap) : Prop := (∃ old, IsEnum h e it i old) ∧ h.IsListIter it l i
theorem ES.at {e it l : Addr} {i : Nat} {h h' : Heap} (x : ES e it l i h) (k : ∀ a ∈ [e, it], ∀ o, h.get? a = some o → h'.get? a = some o) : ES e it l i h' := by
 obtain ⟨⟨old, h1⟩, h2⟩ := x
 exact ⟨⟨old, k e (by simp) _ h1⟩, h2.at fun o x => k it (by simp) o x⟩
theorem ES.have {e it l : Addr} {i : Nat} {h : Heap} (x : ES e it l i h) : ∀ a ∈ [e, it], ∃ o, h.get? a = some o := by
 obtain ⟨⟨old, h1⟩, o, h2, _⟩ := x
 intro a ha
 simp at ha
 rcases ha with rfl | rfl
 ·exact ⟨_, h1⟩
 ·exact ⟨_, h2⟩
noncomputable def EIt (e it l : Addr) (i : Nat) (fs : List (Addr × Obj)) : Prop := fs.map (·.1) = [e, it] ∧ ∀ h : Heap, (∀ q ∈ fs, h.get? q.1 = some q.2) → ES e it l i h
theorem Zl6 {e it l : Addr} {i : Nat} {h : Heap} (x : ES e it l i h) : ∃ fs, EIt e it l i fs ∧ ∀ q ∈ fs, h.get? q.1 = some q.2 := by
 obtain ⟨fs, h1, h2⟩ := Zkr h [e, it] x.have
 refine ⟨fs, ⟨h1, fun h' k => x.at fun a ha o ho => ?_⟩, h2⟩
 rw [← h1] at ha
 obtain ⟨q, hq, eq⟩ := List.mem_map.mp ha
 have := h2 q hq
 rw [eq, ho] at this
 cases this
 exact eq ▸ k q hq
theorem ZqG {W0 : Wd} {e it l : Addr} {a : Nat} (ea : W0.pi[a]? = some l) (hei : e ≠ it) (hle : l ≠ e) (hli : l ≠ it) :
  Itr2 prog w Γ W0 (.ref e) [e, it] (EIt e it l) (ZeN a) := by
 refine ⟨fun i fs h => h.1, ?_, ?_, ?_, ?_⟩
 ·intro i H v hh
  obtain ⟨vs, e1, hh⟩ := Zz0.mp hh
  split at hh
  ·cases hh
   exact ⟨_, _, rfl⟩
  ·split at hh <;> cases hh
 ·intro i W ρ H fr fs s Q E va vb le r ap hit hn post
  obtain ⟨vs, e1, hh⟩ := Zz0.mp hn
  have hv : va = .int i ∧ vs[i]? = some vb := by
   split at hh
   ·rename_i x h1
    cases hh
    exact ⟨rfl, h1⟩
   ·split at hh <;> cases hh
  obtain ⟨_, xs, k1, g1, v1⟩ := r.at e1 (le.at ea)
  obtain ⟨x, hx, rx⟩ := v1.at hv.2
  have st : ES e it l i s.heap := hit.2 _ fun q hq => r.frAt (Zz4 _ hq)
  have Wk := WalksT.enumerate (prog := prog) (w := w) (A := Γ.A) Γ.hh e it l hei hle hli xs.toArray
  have isl1 : s.heap.IsList l xs.toArray := ⟨_, g1, rfl, k1, rfl⟩
  have hi : i < xs.toArray.size := by
   have h1 := (Zz6.mp hx).1
   simpa using h1
  refine Wk.item i s Q E hi ⟨st.1, st.2, isl1⟩ fun T vals h1 t1 hp hT hTup hmid keep1 => post T h1 t1 ?_
  intro elts k pos s1 Q1 E1 es1 q1
  subst es1
  have hTw := Wk.apart i T _ hmid
  refine Wk.go elts k pos i T _ Q1 E1 hmid fun h2 st2 keep2 => ?_
  obtain ⟨tk, x', hx', ev⟩ := hp
  have ex : x' = x := by
   have : xs[i]? = some x' := by simpa using hx'
   rw [hx] at this
   exact (Option.some.inj this).symm
  subst ex ev
  obtain ⟨fs', hit', at'⟩ := Zl6 (h := h2) (⟨st2.1, st2.2.1⟩ : ES e it l (i + 1) h2)
  obtain ⟨oT, gT, cT, nT, dT⟩ := hTup
  refine q1 fs' h2 (.int i tk) x' hit' ?_ ⟨oT, keep2 T oT hTw gT, cT, nT, dT⟩ (by rw [hv.1]; exact .int _ _) rx
  refine r.swap (fs' := fs') (fun q hq t ht => ?_) (fun c o hc e => ?_) fun q hq => ⟨at' q hq, ?_⟩
  ·exact ap _ (hit.1 ▸ List.mem_map_of_mem hq) t ht
  ·rw [hit.1] at hc
   exact keep2 c o hc (keep1 c o hc e)
  ·rw [hit.1, ← hit'.1]
   exact List.mem_map_of_mem hq
 ·intro i W ρ H fr fs s Q E le r ap hit hn post
  obtain ⟨vs, e1, hh⟩ := Zz0.mp hn
  obtain ⟨_, xs, k1, g1, v1⟩ := r.at e1 (le.at ea)
  have hi : i = vs.length := by
   split at hh
   ·cases hh
   ·split at hh
    ·assumption
    ·cases hh
  have st : ES e it l i s.heap := hit.2 _ fun q hq => r.frAt (Zz4 _ hq)
  have Wk := WalksT.enumerate (prog := prog) (w := w) (A := Γ.A) Γ.hh e it l hei hle hli xs.toArray
  have hm : xs.toArray.size = i := by simp [v1.length, hi]
  refine Wk.done s Q E (by rw [hm]; exact ⟨st.1, st.2, ⟨_, g1, rfl, k1, rfl⟩⟩) fun h' tk keep => post h' tk ?_
  have := r.swap (fs' := []) (fun q hq t ht => ap _ (hit.1 ▸ List.mem_map_of_mem hq) t ht) (fun c o hc e => keep c o (by rw [hit.1] at hc; exact hc) e) (fun q hq => nomatch hq)
  exact this
 ·intro i W ρ H fr fs s Q E o le r hit hn q
  obtain ⟨vs, e1, hh⟩ := Zz0.mp hn
  obtain ⟨_, xs, k1, g1, v1⟩ := r.at e1 (le.at ea)
  have st : ES e it l i s.heap := hit.2 _ fun q hq => r.frAt (Zz4 _ hq)
  have Wk := WalksT.enumerate (prog := prog) (w := w) (A := Γ.A) Γ.hh e it l hei hle hli xs.toArray
  exact Wk.self i s Q E ⟨st.1, st.2, ⟨_, g1, rfl, k1, rfl⟩⟩ q
theorem ZpM {x : Str} {np pos : Pos} {e1 : Expr} {f : Ex} (hn : Nm prog w Γ x (.type "enumerate")) (h1 : J prog w Γ e1 f)
  (he : starEach [e1] Γ.env = (false, eval e1 Γ.env) :: starEach [] Γ.env := by rfl) (hp : ∀ pos, (backTo pos (starEach [] Γ.env)).any (·.1) = false := by intro _; rfl) : JI2 prog w Γ (.Call (.Name x np) [e1] [] pos) (ZgA f) := by
 intro W ρ H fr s Q E nx n H' r hf post
 obtain ⟨p, a1, hf⟩ := Zz0.mp hf
 refine wpAny_Call_ofName (hn.use r ?_)
 refine PySem.Pv.callWith_type1 (wpAny_items_cons (h1 W ρ H fr s _ E _ _ r a1 fun W1 k1 t1 y1 l1 r1 v1 => wpAny_items_nil ?_) he) he (hp pos)
 obtain ⟨u1, H1⟩ := p
 simp only at hf v1 r1
 cases u1 <;> first | (cases hf; done) | skip
 rename_i b1
 obtain ⟨vs, c1, c3⟩ := Zz1.mp hf
 cases c3
 cases v1 with
 | @ref _ m1 ea =>
 obtain ⟨_, xs, n1, g1, w1⟩ := r1.at c1 ea
 have isl1 : k1.IsList m1 xs.toArray := ⟨_, g1, rfl, n1, rfl⟩
 refine call_enumerate_list (s := { s with heap := k1, toks := t1 }) isl1 fun h₁ hE hI hsz up => ?_
 have hlt : m1 < k1.objs.size := Heap.lt_size g1
 have Wk := WalksT.enumerate (prog := prog) (w := w) (A := Γ.A) Γ.hh (k1.objs.size + 1) k1.objs.size m1 (Nat.succ_ne_self _) (Nat.ne_of_lt (Nat.lt_succ_of_lt hlt)) (Nat.ne_of_lt hlt) xs.toArray
 have zs : ES (k1.objs.size + 1) k1.objs.size m1 0 h₁ := ⟨⟨_, hE⟩, hI⟩
 refine Wk.self 0 _ _ _ ⟨⟨_, hE⟩, hI, isl1.at fun o e => up _ o e⟩ ?_
 obtain ⟨fs, hit, at'⟩ := Zl6 zs
 obtain ⟨r3, ap3⟩ := r1.more (fs := fs) (h' := h₁) (fun b o e => up b o e) (fun q hq => ⟨at' q hq, by
  have : q.1 ∈ fs.map (·.1) := List.mem_map_of_mem hq
  rw [hit.1] at this
  simp at this
  rcases this with e | e <;> rw [e] <;> omega⟩)
 refine post W1 h₁ t1 _ _ _ fs l1 hit r3 (fun b hb t ht => ?_) (ZqG ea (Nat.succ_ne_self _) (Nat.ne_of_lt (Nat.lt_succ_of_lt hlt)) (Nat.ne_of_lt hlt)) ?_
 ·rw [← hit.1] at hb
  obtain ⟨q, hq, e⟩ := List.mem_map.mp hb
  exact e ▸ ap3 q hq t ht
 ·simp only [ZeN, c1, Option.bind_some]
  cases q : vs[0]? with
  | some x => exact ⟨_, rfl⟩
  | none =>
   have : vs.length = 0 := by simpa using q
   simp [this]
end
end PM
end
section
set_option maxRecDepth 100000
set_option linter.all false
set_option autoImplicit false
namespace TM
open PySem PM
noncomputable def Zfd (a b : T) : Option Bool := (Zcc Zbo a).bind fun d => (Zcc Zbo b).bind fun e => inD d e
noncomputable def qIn (a b : T) : Option T := (Zfd a b).map .bool
theorem ZrM {H : Hp} {v1 v2 : V} {t1 t2 : T} {F1 F2 : List Nat} (r1 : RF H v1 t1 F1) (r2 : RF H v2 t2 F2) : Zkt v1 v2 H = Zfd t1 t2 := by
 simp only [Zkt, Zfd, Zgm Zbo _ _ _ r1, Zgm Zbo _ _ _ r2]
theorem Zku : OA2 oIn qIn := fun H v1 v2 t1 t2 t F1 F2 r1 r2 h => by
 obtain ⟨c, h1, h⟩ := Zz1.mp h
 subst h
 exact ⟨_, by simp only [oIn, ZrM r1 r2, h1, Option.map_some], .bool _⟩
theorem ZmA {d : T} : ∀ {ts : List T}, (∀ t ∈ ts, (PyData.eqv (dd t) (dd d) = true ↔ t = d)) → ((dds ts).any fun y => PyData.eqv y (dd d)) = dec (d ∈ ts)
 | [], _ => by simp [dds, Zbw]
 | t :: ts, h => by
  have ih := ZmA (d := d) (ts := ts) fun t m => h t (Zz2 _ m)
  simp only [dds, List.any_cons, ih]
  symm
  apply Zj7
  rw [Bool.or_eq_true, h t Zz5, dec_iff]
  simp [eq_comm]
theorem ZrN {n m : Nat} {a : T} {ts : List T} (ha : Pln n a) (hb : Pln m (.lst ts)) (hn : n ≤ 8 := by decide) (hm : m ≤ 8 := by decide) : Zfd a (.lst ts) = some (dec (a ∈ ts)) := by
 have ha := ha.mono hn
 have hb := hb.mono hm
 obtain ⟨a1, a2, a3⟩ := ha.dat
 obtain ⟨b1, b2, b3⟩ := hb.dat
 unfold Zfd Zbo
 rw [a1, b1]
 simp only [Option.bind_some, dd, inD]
 simp only [dd, PyData.canLay0] at b2
 rw [if_pos ⟨b2, a2, by omega⟩, ZmA]
 intro t m
 cases hb with
 | lst hs => exact (hs t m).eqv ha
section
variable {Q : T → Prop}
theorem ZmV {n m : Nat} {a : T} {ts : List T} (ha : Pln n a) (hb : Pln m (.lst ts)) (h : Q (.bool (dec (a ∈ ts)))) (hn : n ≤ 8 := by decide) (hm : m ≤ 8 := by decide) : Pk (qIn a (.lst ts)) Q := ⟨_, by simp only [qIn, ZrN ha hb hn hm, Option.map_some], h⟩
end
noncomputable def Zdz (ts : List T) : List T := List.zipWith (fun i t => .tup [.int (i : Nat), t]) (List.range ts.length) ts
noncomputable def ZgB (p : PE) : PG := fun σ => (p σ).bind fun t => match t with
 | .lst ts => some (Zdz ts)
 | _ => none
theorem ZpN {ts : List T} : (Zdz ts).length = ts.length := by simp [Zdz]
theorem Zlw {H : Hp} : ∀ {vs : List V} {ts : List T} {F : List Nat} (k : Nat), RFs H vs ts F → RFs H (List.zipWith (fun i v => V.tup [.int (i : Nat), v]) (List.range' k ts.length) vs) (List.zipWith (fun i t => T.tup [.int (i : Nat), t]) (List.range' k ts.length) ts) F
 | _, _, _, _, .nil => .nil
 | _, _, _, k, .cons a b => by
  rw [List.length_cons, List.range'_succ]
  have h1 : RF H (V.tup [.int (k : Nat), _]) (T.tup [.int (k : Nat), _]) _ := .tup (.cons (.int _) (.one a))
  simpa using RFs.cons h1 (Zlw (k + 1) b)
theorem ZqH {O N : List Nat} {u : Bool} {e : Ex} {p : PE} (x : E O N u e p) : Gs O N (ZgA e) (ZgB p) := fun c ρ σ H Φ ts s h => by
 obtain ⟨t1, h1, h⟩ := Zz0.mp h
 obtain ⟨v, X, F, a1, a2, a3, a4⟩ := x c ρ σ H Φ t1 s h1
 have hlt := a2.lt
 cases a2 with
 | none => cases h
 | bool => cases h
 | int => cases h
 | str => cases h
 | tup => cases h
 | @ref b vs us F' e1 hs =>
  cases h
  have hl := hs.length
  refine ⟨ZeN b, X, List.zipWith (fun i v => V.tup [.int (i : Nat), v]) (List.range us.length) vs, F', b :: F', by simp only [ZgA, a1, Option.bind_some, e1, Option.map_some, ZpN, hl], ?_, fun _ m => List.mem_cons_of_mem _ m, fun a m => ⟨hlt a m, a3 a m⟩, fun K hK i hi => ?_⟩
  ·have := Zlw 0 hs
   unfold Zdz
   rw [List.range_eq_range']
   exact this
  ·simp only [ZeN, hK b Zz5, e1, Option.bind_some, List.getElem?_zipWith]
   simp only [List.length_zipWith, List.length_range] at hi
   by_cases q : i < vs.length
   ·rw [List.getElem?_eq_getElem q, List.getElem?_range (by omega)]
   ·rw [List.getElem?_eq_none (by omega), List.getElem?_eq_none (by simp; omega)]
    simp
    omega
theorem ZpO {n : Nat} {f : Nat → T} : Zdz (tab n f) = tab n fun i => .tup [.int (i : Nat), f i] := by
 unfold Zdz
 rw [Zav]
 have : List.range n = tab n fun i => i := by simp [tab]
 rw [this, Zl1, Nat.min_self]
section
variable {σ : TL} {L : List T → Prop}
noncomputable def EnP (x : T) (L : List T → Prop) : Prop := ∃ ts, x = .lst ts ∧ L (Zdz ts)
theorem ZqI {f : PE} (h : Pk (f σ) fun t => EnP t L) : Pl (ZgB f σ) L := by
 obtain ⟨t, a, ts, rfl, q⟩ := h; exact ⟨_, by simp only [ZgB, a, Option.bind_some], q⟩
theorem EnP.tab {n : Nat} {f : Nat → T} (h : L (TM.tab n fun i => .tup [.int (i : Nat), f i])) : EnP (.lst (TM.tab n f)) L := ⟨_, rfl, by rw [ZpO]; exact h⟩
end
noncomputable def ZgC (g : PG) (put : T → TL → Option TL) (b : PS) : PS := fun σ => (g σ).bind fun ts => if ts = [] then none else ZdJ put b σ ts
end TM
end
section
set_option maxRecDepth 100000
set_option linter.all false
set_option autoImplicit false
namespace PM
open PySem PySem.W PySem.Calls PyProof.Rows PyProof
noncomputable def ZeO (o1 o2 : V → V → Hp → Option (V × Hp)) (f g h : Ex) : Ts := fun ρ H => (f ρ H).bind fun p => (g ρ p.2).bind fun q => (o1 p.1 q.1 q.2).bind fun u => (Zb8 u.1 u.2).bind fun b => if b then (h ρ u.2).bind fun x => (o2 q.1 x.1 x.2).bind fun y => (Zb8 y.1 y.2).map fun c => (c, y.2) else some (false, u.2)
section
variable {prog : Program} {w : World} {Γ : Cx}
theorem ZpP {e1 e2 e3 : Expr} {op1 op2 : CmpOp} {pos : Pos} {f g h : Ex} {o1 o2 : V → V → Hp → Option (V × Hp)} (h1 : J prog w Γ e1 f) (h2 : J prog w Γ e2 g) (h3 : J prog w Γ e3 h) (k1 : Op2 prog w (compareOp op1) o1) (k2 : Op2 prog w (compareOp op2) o2) (hm : lastMarks [op1, op2] [e2, e3] = false := by with_unfolding_all rfl) : JT prog w Γ (.Compare e1 [op1, op2] [e2, e3] pos) (ZeO o1 o2 f g h) := by
 intro W ρ H fr s Q E b H' r hf post
 obtain ⟨p, a1, hf⟩ := Zz0.mp hf
 obtain ⟨q, a2, hf⟩ := Zz0.mp hf
 obtain ⟨u, a3, hf⟩ := Zz0.mp hf
 obtain ⟨c, a4, hf⟩ := Zz0.mp hf
 refine isTrue_chain (h1 W ρ H fr s _ E _ _ r a1 fun W1 n1 t1 x l1 r1 x1 => ?_) hm
 refine test_link (h2 W1 ρ _ fr _ _ E _ _ r1 a2 fun W2 n2 t2 y l2 r2 y2 => ?_)
 refine k1 Γ W2 ρ _ fr _ _ E _ _ x y _ _ r2 (x1.mono l2) y2 a3 fun W3 n3 t3 z l3 r3 z3 => ?_
 refine Zdw Γ W3 ρ _ fr _ _ E _ z c r3 z3 a4 fun W4 n4 t4 l4 r4 => ?_
 cases c with
 | false =>
  cases hf
  exact post W4 n4 t4 (((l1.trans l2).trans l3).trans l4) r4
 | true =>
  simp only [if_true] at hf
  obtain ⟨v, a5, hf⟩ := Zz0.mp hf
  obtain ⟨v2, a6, hf⟩ := Zz0.mp hf
  obtain ⟨d, a7, a8⟩ := Zz1.mp hf
  cases a8
  refine test_last (h3 W4 ρ _ fr _ _ E _ _ r4 a5 fun W5 n5 t5 y5 l5 r5 x5 => ?_)
  refine k2 Γ W5 ρ _ fr _ _ E _ _ y y5 _ _ r5 (((y2.mono l3).mono l4).mono l5) x5 a6 fun W6 n6 t6 z6 l6 r6 x6 => ?_
  exact Zdw Γ W6 ρ _ fr _ _ E _ z6 b r6 x6 a7 fun W7 n7 t7 l7 r7 => post W7 n7 t7 ((((((l1.trans l2).trans l3).trans l4).trans l5).trans l6).trans l7) r7
end
end PM
end
section
set_option maxRecDepth 100000
set_option linter.all false
set_option autoImplicit false
namespace TM
open PySem PM
section
variable {O N M K : List Nat} {u u' u'' : Bool}
noncomputable def ZeP (q1 q2 : T → T → Option T) (p1 p2 p3 : PE) : PB := fun σ => (p1 σ).bind fun x => (p2 σ).bind fun y => (q1 x y).bind fun z => (Zbl z).bind fun b => if b then (p3 σ).bind fun v => (q2 y v).bind Zbl else some false
theorem ZpQ {e1 e2 e3 : Ex} {p1 p2 p3 : PE} {q1 q2 : T → T → Option T} {o1 o2 : V → V → Hp → Option (V × Hp)} (k1 : OA2 o1 q1) (k2 : OA2 o2 q2) (x : E O N u e1 p1) (y : E O M u' e2 p2) (z : E O K u'' e3 p3) : Bt O (ZeO o1 o2 e1 e2 e3) (ZeP q1 q2 p1 p2 p3) := fun c ρ σ H Φ b s h => by
 obtain ⟨t1, h1, h⟩ := Zz0.mp h
 obtain ⟨t2, h2, h⟩ := Zz0.mp h
 obtain ⟨t3, h3, h⟩ := Zz0.mp h
 obtain ⟨b0, h4, h⟩ := Zz0.mp h
 obtain ⟨v1, X, F, a1, a2, _, _⟩ := x c ρ σ H Φ t1 s h1
 obtain ⟨v2, Y, G, b1, b2, _, _⟩ := y c ρ σ (H ++ X) Φ t2 (s.ext X) h2
 obtain ⟨v3, c1, c2⟩ := k1 _ v1 v2 t1 t2 t3 F G (a2.ext Y) b2 h3
 have d1 := Zc0 c2 h4
 cases b0 with
 | false =>
  cases h
  exact ⟨X ++ Y, by simp only [ZeO, a1, b1, Option.bind_some, c1, d1]; simp⟩
 | true =>
  simp only [if_true] at h
  obtain ⟨t5, h5, h⟩ := Zz0.mp h
  obtain ⟨t6, h6, h⟩ := Zz0.mp h
  obtain ⟨v5, Z, F5, e1, e2, _, _⟩ := z c ρ σ (H ++ X ++ Y) Φ t5 ((s.ext X).ext Y) h5
  obtain ⟨v6, f1, f2⟩ := k2 _ v2 v5 t2 t5 t6 G F5 (b2.ext Z) e2 h6
  have g1 := Zc0 f2 h
  exact ⟨X ++ Y ++ Z, by simp only [ZeO, a1, b1, Option.bind_some, c1, d1, if_true, e1, f1, g1, Option.map_some]; simp⟩
end
theorem ZrO {O O1 R J Ns : List Nat} {fr : Bool} {g : Src} {q : PG} {put : V → Lc → Option Lc} {pput : T → TL → Option TL} {b : Sm} {qb : PS} (hg : Gs O Ns g q) (hj : PutOk O J put pput) (hj1 : PutOk O1 J put pput) (hJ : ∀ i ∈ J, i ∉ O) (hJ1 : ∀ i ∈ J, i ∉ O1) (hN : ∀ i ∈ Ns, i ∉ O) (hb : S O O1 R fr b qb) (hb1 : S O1 O1 R fr b qb) : S O O1 R fr (ZaQ g put b) (ZgC q pput qb) := fun c ρ σ H Φ r s h => by
 obtain ⟨ts, h1, h⟩ := Zz0.mp h
 obtain ⟨nx, X, vs, F, G, g1, g2, g3, g4, g5⟩ := hg c ρ σ H Φ ts s h1
 split at h
 ·cases h
 ·rename_i hne
  cases ts with
  | nil => exact absurd rfl hne
  | cons t rs =>
   cases g2 with
   | @cons v _ F1 ws _ F2 a b' =>
   have sx := s.ext X
   have hsrc : ∀ a ∈ G, c.H0.length ≤ a ∨ c.P a := fun a m => s.from_src (g4 a m).2
   have hoff : ∀ a ∈ G, ¬ Zcd O σ Φ a := fun a m ⟨k, hk, ⟨t, e⟩, q⟩ => s.from_off hN (g4 a m).2 hk e q
   obtain ⟨σ1, p0, h⟩ := Zz0.mp h
   obtain ⟨r1, h2, h⟩ := Zz0.mp h
   obtain ⟨ρ1, Φ1, p1, s1, p3, p4⟩ := hj c ρ σ (H ++ X) Φ v t F1 σ1 sx a (fun x m => hsrc x (g3 x (Zz4 _ m))) (fun k hk t' e x m q => hoff x (g3 x (Zz4 _ q)) ⟨k, hk, ⟨t', e⟩, m⟩) p0
   have hh : ∀ x, Zcd O σ1 Φ1 x → Zcd O σ Φ x := fun x ⟨k, hk, ⟨t', e⟩, m⟩ => by
    obtain ⟨q1, q2⟩ := p3 k fun q => hJ k q hk
    exact ⟨k, hk, ⟨t', q1 ▸ e⟩, q2 ▸ m⟩
   obtain ⟨ρ2, K2, Φ2, w1, w2, w3⟩ := hb c ρ1 σ1 (H ++ X) Φ1 r1 s1 h2
   have e0 : nx 0 (H ++ X) = some (some v) := by have := g5 (H ++ X) (fun _ _ => rfl) 0 (Nat.zero_le _); simpa using this
   have estep : ZaQ g put b ρ H = (b ρ1 (H ++ X)).bind fun q => match q.1 with
     | some _ => some q
     | none => ZcB nx put b (rs.length + 1) 1 q.2.1 q.2.2 := by
    simp only [ZaQ, g1, Option.bind_some, List.length_cons]
    show (nx 0 (H ++ X)).bind _ = _
    rw [e0]
    first | (simp only [Option.bind_some, p1]; done) | (simp only [Option.bind_some, p1]; rfl)
   rw [estep]
   refine Aft.grow (X := X) ?_
   rcases w3 with ⟨k1, k2, k3, k4⟩ | ⟨t', v', F', k1, k2, k3⟩
   ·rw [k1] at h
    have hG2 : ∀ a ∈ G, K2[a]? = (H ++ X)[a]? := fun x m => w2 x (g4 x m).1 fun q => hoff x m (hh x q)
    have hoff2 : ∀ a ∈ G, ¬ Zcd O1 r1.2 Φ2 a := fun x m q => by
     rcases k4 x q with q | q
     ·have := (g4 x m).1; omega
     ·exact hoff x m (hh x q)
    have ih := Zjm hj1 hJ1 hb1 (H1 := H ++ X) (fun a m => (g4 a m).1) hsrc g5 rs ws 1 ρ2 r1.2 K2 Φ2 F2 r (fun j => by rw [Nat.add_comm]; simp) (by simp; omega) k3 w1 hG2 hoff2 (b'.frame fun x m => hG2 x (g3 x (Zz3 _ m))) (fun x m => g3 x (Zz3 _ m)) h
    rw [k2]
    simp only [Option.bind_some]
    obtain ⟨ρ3, K3, Φ3, l1, l2, l3⟩ := ih
    refine ⟨ρ3, K3, Φ3, by omega, fun x hx hn => ?_, ?_⟩
    ·rw [l2 x (by omega) fun q => (k4 x q).elim (fun q => by omega) fun q => hn (hh x q), w2 x hx fun q => hn (hh x q)]
    ·rcases l3 with ⟨m1, m2, m3, m4⟩ | l
     ·refine .inl ⟨m1, m2, m3, fun x q => ?_⟩
      rcases m4 x q with q | q
      ·exact .inl (by omega)
      ·exact (k4 x q).imp id (hh x)
     ·exact .inr l
   ·rw [k1] at h
    cases h
    refine ⟨ρ2, K2, Φ2, w1, fun x hx hn => w2 x hx fun q => hn (hh x q), .inr ⟨t', v', F', k1, ?_, k3⟩⟩
    rw [k2]
    rfl
section
variable {σ : TL} {Q : T → Prop} {B : Bool → Prop} {R : T → Prop} {N : TL → Prop}
theorem ZpR {q1 q2 : T → T → Option T} {f g h : PE} (k : Pk (f σ) fun x => Pk (g σ) fun y => Pk (q1 x y) fun z => Pb (Zbl z) fun b => (b = true → Pk (h σ) fun v => Pk (q2 y v) fun w => Pb (Zbl w) B) ∧ (b = false → B false)) : Pb (ZeP q1 q2 f g h σ) B := by
 obtain ⟨x, a1, y, a2, z, a3, b, a4, k1, k2⟩ := k
 cases b with
 | false => exact ⟨false, by simp [ZeP, a1, a2, a3, a4], k2 rfl⟩
 | true =>
  obtain ⟨v, b1, w, b2, c, b3, q⟩ := k1 rfl
  exact ⟨c, by simp [ZeP, a1, a2, a3, a4, b1, b2, b3], q⟩
theorem ZqJ {g : PG} {j n : Nat} {a : Nat → T} {b : PS} (hn : 0 < n) (hg : Pl (g σ) fun ts => ts = tab n a) (P : Nat → TL → Prop) (h0 : P 0 σ) (h1 : ∀ i σ, i < n → P i σ → Psk (b (ZR σ j (a i))) R (P (i + 1))) (h2 : ∀ σ, P n σ → N σ) : Psk (ZgC g (Zac j) b σ) R N := by
 obtain ⟨o, s, e, q⟩ := ZbX (R := R) (N := N) (b := b) (j := j) hg P h0 h1 h2
 obtain ⟨ts, e1, rfl⟩ := hg
 refine ⟨o, s, ?_, q⟩
 have hne : tab n a ≠ [] := fun h => by have := congrArg List.length h; rw [Zav] at this; simp at this; omega
 simp only [ZgC, e1, Option.bind_some, hne, if_false]
 simpa only [ZaV, e1, Option.bind_some] using e
end
end TM
end
section
set_option maxRecDepth 100000
set_option linter.all false
set_option autoImplicit false
namespace PM
open PySem PySem.W PySem.Calls PyProof.Rows PyProof PyProof.Rows.LCg PyProof.Rows.LCp
section
variable {prog : Program} {w : World} {Γ : Cx}
theorem ZnX {elt iter : Expr} {x x₂ y : Str} {px px₂ tp py pos spos : Pos} {kt : Nat} {scope : Scope} {cl : List (Str × Addr)} {t t₂ i : Nat} {g : Src} {f : Ex} (hy : Sto prog w Γ y i) (hg : JI2 prog w Γ iter g) (hel : ∀ C ρ, J prog w (ZaS Γ scope cl C [(x, t), (x₂, t₂)] ρ) elt f)
  (hsw : swapsWith (.ListComp elt [⟨.Tuple [.Name x px, .Name x₂ px₂] kt tp, iter, [], 0⟩] scope pos) (some (.Name y py)) spos.line Γ.env = pure true)
  (hclos : closureFor scope Γ.env = pure cl) (hcell : ∀ y ∈ scope.names, y.2 ≠ .cell) (hkind : scope.kind = .function) (hnames : ∀ y ∈ scope.names, y.2 = .local → scope.names.lookup y.1 = some .local) (hx : scope.names.lookup x = some .local) (hx₂ : scope.names.lookup x₂ = some .local) (hxx : x ≠ x₂) (htt : t ≠ t₂) (hs : ∀ x, foldedSetIterable iter Γ.env x = pure x := by intro _; rfl) :
  S1 prog w Γ (.Assign [.Name y py] (.ListComp elt [⟨.Tuple [.Name x px, .Name x₂ px₂] kt tp, iter, [], 0⟩] scope pos) spos) (ZN i (Zao g (ZbO t t₂) Zaj f)) := by
 intro W ρ H fr s Q E r rp hf post
 obtain ⟨p, e0, e9⟩ := Zz1.mp hf
 cases e9
 obtain ⟨z, e1, hf⟩ := Zz0.mp e0
 obtain ⟨q, e2, e3⟩ := Zz1.mp hf
 cases e3
 rw [exec_Assign_Name_used _ _ _ _ hsw]
 refine wpAny_bind (wpAny_standAt (wpAny_bind ?_))
 show wpAny _ Γ.A (do let _ ← comprehension (.ListComp elt [⟨.Tuple [.Name x px, .Name x₂ px₂] kt tp, iter, [], 0⟩] scope pos) scope Γ.env _ (newList []) false (eval iter Γ.env) (some (assign (.Name y py) Γ.env))) _ _ s
 refine wpAny_bind (wpAny_mono (wpAny_comprehension_free (use := some (assign (.Name y py) Γ.env)) (Q := fun _ s' => Q .next s') rfl hs hclos hkind hnames ?_) (fun _ s' h' => wpAny_pure (wpAny_pure h')) fun _ _ e => e)
 refine ZkS (RR := fun acc C => compPost (model prog w) Γ.A E (some (assign (.Name y py) Γ.env)) (fun _ s' => Q .next s') acc C) hg hel hcell hkind hx hx₂ hxx htt rp (q := q) (by rw [e1]; exact e2) fun W2 h' tk' C D oC m₂ ys l2 hC hv hl aD aC cd r3 => ?_
 have r4 : Rep Γ W2 ρ q.2 ((D, lst ys) :: (C, oC) :: fr) h' := r3.less fun t ht => by
  rcases List.mem_cons.mp ht with e | ht
  ·exact e ▸ List.mem_cons_of_mem _ Zz5
  ·rcases List.mem_cons.mp ht with e | ht
   ·exact e ▸ List.mem_cons_self
   ·exact Zz2 _ (Zz2 _ ht)
 obtain ⟨W5, l5, r5, v5⟩ := Zey r4 (fun t ht => by
  rcases List.mem_cons.mp ht with e | ht
  ·rw [e]
   exact cd.symm
  ·exact aD t ht) hv hl
 refine wpAny_assign_Name (hy W5 ρ _ _ _ _ _ _ _ r5 v5 fun h6 t6 r6 => ?_)
 refine ⟨m₂, hC.ns (r6.frAt (q := (C, oC)) Zz5), fun h'' sb => ?_⟩
 have r7 : Rep Γ W5 (upd ρ i (.ref q.2.length)) (q.2 ++ [q.1]) ([] ++ fr) h'' :=
  Rep.swap (fs := [(C, oC)]) (fs' := []) r6 (fun q hq t ht => by rw [List.mem_singleton.mp hq]; exact aC t ht) (fun b o hb e => sb.extBut b o (fun z => hb (by simp [z])) e) fun q hq => nomatch hq
 exact post W5 h'' t6 (l2.trans l5) r7
end
end PM
end
section
set_option maxRecDepth 100000
set_option linter.all false
set_option autoImplicit false
namespace PM
open PySem PySem.W PySem.Calls PyProof.Rows PyProof
noncomputable def Zcs (ns : List Int) : List Int := ns.mergeSort fun a b => decide (a ≤ b)
theorem Zlx {ns ms : List Int} (h1 : ms.Perm ns) (h2 : ms.Pairwise (· ≤ ·)) : ms = Zcs ns := by
 refine List.Perm.eq_of_pairwise (le := fun a b : Int => a ≤ b) (fun a b _ _ h h' => Int.le_antisymm h h') h2 ?_ (h1.trans (List.mergeSort_perm ns _).symm)
 have := List.pairwise_mergeSort (le := fun a b : Int => decide (a ≤ b)) (fun a b c h h' => by simp at *; omega) (fun a b => by simp; omega) ns
 unfold Zcs
 simpa using this
theorem Zo6 {ns : List Int} : (Zcs ns).length = ns.length := (List.mergeSort_perm ns _).length_eq
theorem ZjS {W : Wd} : ∀ {vs : List V} {xs : List Value} {ks : List Int}, VRs W vs xs → ZcA vs = some ks → IntsAre xs ks := by
 intro vs
 induction vs with
 | nil => intro xs ks h e; cases h; cases e; exact .nil
 | cons v vs ih =>
  intro xs ks h e
  cases h with
  | cons a b =>
   cases v with
   | int i =>
    obtain ⟨js, e1, e2⟩ := Zz1.mp e
    subst e2
    cases a with
    | int _ t => exact .cons i t (ih b e1)
   | none => cases e
   | bool => cases e
   | str => cases e
   | tup => cases e
   | ref => cases e
theorem Zl7 {W : Wd} : ∀ {xs : List Value} {ks : List Int}, IntsAre xs ks → VRs W (ks.map V.int) xs
 | _, _, .nil => .nil
 | _, _, .cons n t r => .cons (.int n t) (Zl7 r)
noncomputable def ZeH : List V → Hp → Option (V × Hp)
 | [.ref a], H => H[a]?.bind fun vs => (ZcA vs).bind fun ns => if vs.length < 64 then some (.ref H.length, H ++ [(Zcs ns).map V.int]) else none
 | _, _ => none
section
variable {prog : Program} {w : World}
theorem Zo7 : OpN prog w (fun xs => call (.builtin "sorted") xs) ZeH := by
 intro Γ W ρ H fr s Q E as xs v H' r hx ho post
 unfold ZeH at ho
 split at ho
 ·obtain ⟨vs, e1, ho⟩ := Zz0.mp ho
  obtain ⟨ks, e3, ho⟩ := Zz0.mp ho
  split at ho
  ·rename_i h64
   cases ho
   obtain ⟨x, ex, rx⟩ := hx.one
   subst ex
   cases rx with
   | @ref _ a ea =>
    obtain ⟨hl, ys, k, hg, hv⟩ := r.at e1 ea
    have isl : s.heap.IsList a ys.toArray := ⟨_, hg, rfl, k, rfl⟩
    refine sorted_ints isl (ZjS hv e3) (by rw [hv.length]; exact h64) fun out ms a1 a2 a3 => ?_
    have em := Zlx a2 a3
    subst em
    obtain ⟨q, hq⟩ := sortedAll_at s.heap ys out
    have hlen : ks.length = vs.length := by rw [← hv.length]; exact (ZjS hv e3).length.symm
    obtain ⟨r2, ap⟩ := r.more (h' := sortedAll s.heap ys out) (fs := [(s.heap.objs.size + 1, Zbm out.toList q)]) (fun b o hb => sortedAll_old hb) (fun u hu => by
     rw [List.mem_singleton.mp hu]
     refine ⟨?_, Nat.le_succ _⟩
     rw [hq])
    obtain ⟨W2, l2, r3, v3⟩ := Zey r2 (fun t ht => ap _ Zz5 t ht) (Zl7 a1) (by rw [List.length_map, Zo6, hlen]; exact hl)
    exact post W2 _ s.toks _ l2 r3 v3
  ·cases ho
 ·cases ho
end
end PM
namespace PM
open PySem PySem.W PySem.Calls PyProof.Rows PyProof PySem.SeqAt
open SeqRoads2 MeetsSeq3 MeetsSeq2 MeetsSeq AutoSeq1
theorem Zop (l : Addr) (its : Array Value) (n : Nat) (dd : Option Addr) (sl : Array (Option Value)) (x : Value) (tk : Tok) (e : Value → Bool) (j : Nat) (hj : j < its.size) (h1 : 1 ≤ j) (small : (j : Int) < 2 ^ 63 - 1)
  (hit : e its[j] = true) (no : ∀ m (hm : m < its.size), 1 ≤ m → m < j → e its[m] = false) :
  Meets (Builtin.«list.index» ⟨[.ref l, x, .int 1 tk], []⟩) fun A R s => s.heap.get? l = some { cls := .type "list", dict := dd, data := .seq its n, slots := sl } ∧ (∀ y, y ∈ its → EqAt A.in1 s y x (e y)) ∧ R (.ok (.ret (.int j s.toks))) { s with toks := s.toks + 1 } := by
 intro prog w A R s h
 obtain ⟨hp, g, d, tk', os⟩ := s
 obtain ⟨hq0, he, h⟩ := h
 wp_walk using wpAny_loadPart' hq0
 have b1 : ((fun i : Int => if i < 0 then max 0 (i + (its.size : Int)) else i) ((some (1 : Int)).getD 0)) = ((1 : Nat) : Int) := by simp
 have b2 : ((fun i : Int => if i < 0 then max 0 (i + (its.size : Int)) else i) ((Option.none : Option Int).getD (2 ^ 63 - 1))) = 2 ^ 63 - 1 := by simp
 rw [b1, b2]
 refine ⟨plainId_quiet plain_index_loop _, codeAny_builtin entry_index_loop ?_⟩
 rw [Around.under_plainId plain_index_loop _]; exact index_loopAt l its n dd sl x e (2 ^ 63 - 1) j hj small hit _ 1 rfl h1 no prog w A R _ ⟨hq0, he, h⟩
section
variable {prog : Program} {w : World} {A : Around} {E : Value → Shared → Prop} {s : Shared}
theorem ZnY {l : Addr} {vs : List Value} {ns : List Int} {k : Int} {t t' : Tok} {Q : Value → Shared → Prop} (hl : s.heap.IsList l vs.toArray) (hi : IntsAre vs ns) (hn : ns.length ≤ 100000) (hk : k ∈ ns.drop 1)
  (h : Q (.int ((1 + (ns.drop 1).idxOf k : Nat)) s.toks) { s with toks := s.toks + 1 }) : wpAny (model prog w) A (call (.builtin "list.index") [.ref l, .int k t, .int 1 t']) Q E s := by
 obtain ⟨⟨c0, dd, da, sl⟩, ho, ec, n, ed⟩ := id hl
 simp only at ec ed
 subst ec ed
 have hlen := hi.length
 have hj : (ns.drop 1).idxOf k < (ns.drop 1).length := List.idxOf_lt_length_iff.mpr hk
 have hj' : 1 + (ns.drop 1).idxOf k < ns.length := by rw [List.length_drop] at hj; omega
 refine call_meets PySem.F.slot_list_index ⟨_, ho, rfl⟩ PySem.F.entry_list_index (PySem.F.args_list_index_3 _ _ _) (Zop l vs.toArray n dd sl (.int k t) t' (isInt k) (1 + (ns.drop 1).idxOf k) (by simpa [hlen] using hj') (by omega) (by omega) ?_ ?_) ⟨ho, fun y hy => (eq_isInt k t hi y (by simpa using hy)).at _ _, h⟩
 ·show isInt k vs[1 + (ns.drop 1).idxOf k] = true
  rw [isInt_at k hi _ (by omega) hj']
  have := List.getElem_idxOf hj
  rw [List.getElem_drop] at this
  simpa using this
 ·intro m hm h1 h2
  show isInt k vs[m] = false
  rw [isInt_at k hi m (by simpa using hm) (by have := hm; simp [hlen] at this; omega)]
  have hm' : m - 1 < (ns.drop 1).length := by rw [List.length_drop]; omega
  have := ne_of_lt_idxOf (k := k) (ns := ns.drop 1) (j := m - 1) (by omega) hm'
  rw [List.getElem_drop] at this
  simpa [show 1 + (m - 1) = m by omega] using this
end
noncomputable def Zgp : V → V → V → Hp → Option (V × Hp)
 | .ref a, .int k, .int b, H => H[a]?.bind fun vs => (ZcA vs).bind fun ns => if b = 1 ∧ k ∈ ns.drop 1 then some (.int ((1 + (ns.drop 1).idxOf k : Nat) : Int), H) else none
 | _, _, _, _ => none
noncomputable def ZeQ (f g h : Ex) : Ex := fun ρ H => (f ρ H).bind fun p => (g ρ p.2).bind fun q => (h ρ q.2).bind fun u => Zgp p.1 q.1 u.1 u.2
section
variable {prog : Program} {w : World} {Γ : Cx}
theorem ZnZ {a b c : V} {H : Hp} {r : V × Hp} (h : Zgp a b c H = some r) : ∃ i k vs ns, a = .ref i ∧ b = .int k ∧ c = .int 1 ∧ H[i]? = some vs ∧ ZcA vs = some ns ∧ k ∈ ns.drop 1 ∧ r = (.int ((1 + (ns.drop 1).idxOf k : Nat) : Int), H) := by
 unfold Zgp at h
 split at h
 ·obtain ⟨vs, e1, h⟩ := Zz0.mp h
  obtain ⟨ns, e2, h⟩ := Zz0.mp h
  split at h
  ·rename_i q
   cases h
   obtain ⟨rfl, q⟩ := q
   exact ⟨_, _, vs, ns, rfl, rfl, rfl, e1, e2, q, rfl⟩
  ·cases h
 ·cases h
theorem J.index {o e1 e2 : Expr} {apos pos : Pos} {f g k : Ex} (ho : J prog w Γ o f) (h1 : J prog w Γ e1 g) (h2 : J prog w Γ e2 k) (hbase : attributeBase o "index" Γ.env (eval o Γ.env) = eval o Γ.env := by rfl)
  (hline : (apos.endLine == pos.line) = true := by rfl) (htrees : backTo pos (starEach [e1, e2] Γ.env) = [(false, eval e1 Γ.env), (false, eval e2 Γ.env)] := by rfl) (hstay : ∀ ρ H p, f ρ H = some p → ∀ q, g ρ p.2 = some q → p.2 = q.2 := by intro _ _ _ _ _ h; cases h; rfl) (hstay2 : ∀ ρ H p, g ρ H = some p → ∀ q, k ρ p.2 = some q → p.2 = q.2 := by intro _ _ _ _ _ h; cases h; rfl) : J prog w Γ (.Call (.Attribute o "index" apos) [e1, e2] [] pos) (ZeQ f g k) := by
 intro W ρ H fr s Q E v H' r hx post
 obtain ⟨p, x1, hx⟩ := Zz0.mp hx
 obtain ⟨q, x2, hx⟩ := Zz0.mp hx
 obtain ⟨u, x3, x4⟩ := Zz0.mp hx
 obtain ⟨i, kk, vs, ns, ea, eb, ec, hvs, hns, hmem, er⟩ := ZnZ x4
 refine wpAny_Call_method2_late hbase hline htrees (ho W ρ H fr s _ E _ _ r x1 fun W1 k1 t1 x l1 r1 y1 => ?_)
 rw [ea] at y1
 have s1 := hstay ρ H p x1 q x2
 have s2 := hstay2 ρ p.2 q x2 u x3
 cases y1 with
 | @ref _ a aa =>
 obtain ⟨hl, xs, n, hg, hv⟩ := r1.at (by rw [s1, s2]; exact hvs) aa
 refine ⟨"list", "list.index", PySem.F.plainAttrs_list, PySem.F.slot_list_index, PySem.F.type_list_index, (show k1.IsList a xs.toArray from ⟨_, hg, rfl, n, rfl⟩).typeIs, fun b eb => by cases eb; exact ⟨_, hg, rfl⟩, ?_⟩
 refine Calls.callWith_builtin rfl (Calls.evalArgs_plain (Calls.spliced_cons ?_))
 refine h1 W1 ρ _ fr _ _ E _ _ r1 x2 fun W2 k2 t2 y l2 r2 y2 => Calls.spliced_cons ?_
 refine h2 W2 ρ _ fr _ _ E _ _ r2 x3 fun W3 k3 t3 z l3 r3 z3 => Calls.spliced_nil ?_
 rw [eb] at y2
 rw [ec] at z3
 cases y2 with
 | int _ ty =>
 cases z3 with
 | int _ tz =>
 obtain ⟨hl3, xs3, n3, hg3, hv3⟩ := r3.at hvs (l3.at (l2.at aa))
 rw [Za2] at hl3
 have hI := ZjS hv3 hns
 refine ZnY ⟨_, hg3, rfl, n3, rfl⟩ hI (by rw [← hI.length, hv3.length]; omega) hmem ?_
 have := post W3 k3 (t3 + 1) (.int ((1 + (ns.drop 1).idxOf kk : Nat) : Int) t3) ((l1.trans l2).trans l3)
 cases er
 exact this r3 (.int _ _)
end
end PM
end
section
set_option maxRecDepth 100000
set_option linter.all false
set_option autoImplicit false
namespace TM
open PySem PM
theorem Zly {H : Hp} : ∀ ks : List Int, RFs H (ks.map V.int) (ks.map T.int) []
 | [] => .nil
 | k :: ks => .cons (.int k) (Zly ks)
noncomputable def Zgf : List T → Option T
 | [.lst ts] => (Zcq ts).bind fun ns => if ts.length < 64 then some (.lst ((Zcs ns).map T.int)) else none
 | _ => none
theorem ZpS : OCn ZeH Zgf := fun H vs ts t F hp r h => by
 unfold Zgf at h
 split at h
 ·obtain ⟨v, rfl, r'⟩ := r.one_inv
  cases r' with
  | ref e hs =>
   obtain ⟨ks, h1, h⟩ := Zz0.mp h
   split at h
   ·rename_i h64
    cases h
    refine ⟨_, [(Zcs ks).map V.int], _, ?_, ZdI (Zly (Zcs ks)), fun a m => ?_, fun _ => ?_⟩
    ·simp only [ZeH, e, Option.bind_some, Zga hs h1]
     rw [if_pos (by rw [hs.length]; exact h64)]
    ·rcases List.mem_cons.mp m with rfl | m
     ·exact .inl (Nat.le_refl _)
     ·cases m
    ·simp
   ·cases h
 ·cases h
noncomputable def ZeR (p q r : PE) : PE := fun σ => (p σ).bind fun t => (q σ).bind fun k => (r σ).bind fun b => match t, k, b with
 | .lst ts, .int k, .int b => (Zcq ts).bind fun ns => if b = 1 ∧ k ∈ ns.drop 1 then some (.int ((1 + (ns.drop 1).idxOf k : Nat) : Int)) else none
 | _, _, _ => none
section
variable {O N M K : List Nat} {u u' u'' : Bool}
theorem E.index {e1 e2 e3 : Ex} {p1 p2 p3 : PE} (x : E O N u e1 p1) (y : E O M u' e2 p2) (z : E O K u'' e3 p3) : E O [] true (ZeQ e1 e2 e3) (ZeR p1 p2 p3) := fun c ρ σ H Φ t s h => by
 obtain ⟨t1, h1, h⟩ := Zz0.mp h
 obtain ⟨t2, h2, h⟩ := Zz0.mp h
 obtain ⟨t3, h3, h⟩ := Zz0.mp h
 obtain ⟨v1, X, F1, a1, a2, _, _⟩ := x c ρ σ H Φ t1 s h1
 obtain ⟨v2, Y, F2, b1, b2, _, _⟩ := y c ρ σ (H ++ X) Φ t2 (s.ext X) h2
 obtain ⟨v3, Z, F3, c1, c2, _, _⟩ := z c ρ σ (H ++ X ++ Y) Φ t3 ((s.ext X).ext Y) h3
 have a3 := (a2.ext Y).ext Z
 split at h
 ·obtain ⟨ns, e1, h⟩ := Zz0.mp h
  split at h
  ·rename_i hc
   cases h
   cases b2
   cases c2
   cases a3 with
   | ref e hs =>
    refine ⟨_, X ++ Y ++ Z, [], ?_, .int _, by simp, by simp⟩
    have e' := e
    simp only [ZeQ, a1, b1, c1, Option.bind_some, Zgp, e', Zga hs e1]
    rw [if_pos hc]
    simp
  ·cases h
 ·cases h
end
section
variable {σ : TL} {Q : T → Prop}
end
end TM
end
section
set_option maxRecDepth 100000
set_option linter.all false
set_option autoImplicit false
namespace PM
open PySem PySem.W PySem.Calls PyProof.Rows PyProof PySem.Spec
section
variable {prog : Program} {w : World} {Γ : Cx}
theorem ln1 {α : Type _} : ∀ {xs : List α}, xs.length = 1 → ∃ x0, xs = [x0]
 | [x0], _ => ⟨x0, rfl⟩
theorem ln2 {α : Type _} : ∀ {xs : List α}, xs.length = 2 → ∃ x0 x1, xs = [x0, x1]
 | [x0, x1], _ => ⟨x0, x1, rfl⟩
theorem ln3 {α : Type _} : ∀ {xs : List α}, xs.length = 3 → ∃ x0 x1 x2, xs = [x0, x1, x2]
 | [x0, x1, x2], _ => ⟨x0, x1, x2, rfl⟩
theorem ln4 {α : Type _} : ∀ {xs : List α}, xs.length = 4 → ∃ x0 x1 x2 x3, xs = [x0, x1, x2, x3]
 | [x0, x1, x2, x3], _ => ⟨x0, x1, x2, x3, rfl⟩
theorem ln5 {α : Type _} : ∀ {xs : List α}, xs.length = 5 → ∃ x0 x1 x2 x3 x4, xs = [x0, x1, x2, x3, x4]
 | [x0, x1, x2, x3, x4], _ => ⟨x0, x1, x2, x3, x4, rfl⟩
theorem ln6 {α : Type _} : ∀ {xs : List α}, xs.length = 6 → ∃ x0 x1 x2 x3 x4 x5, xs = [x0, x1, x2, x3, x4, x5]
 | [x0, x1, x2, x3, x4, x5], _ => ⟨x0, x1, x2, x3, x4, x5, rfl⟩
theorem ln7 {α : Type _} : ∀ {xs : List α}, xs.length = 7 → ∃ x0 x1 x2 x3 x4 x5 x6, xs = [x0, x1, x2, x3, x4, x5, x6]
 | [x0, x1, x2, x3, x4, x5, x6], _ => ⟨x0, x1, x2, x3, x4, x5, x6, rfl⟩
theorem jI {k : Int} {n : Nat} {pos : Pos} : J prog w Γ (.Constant (.int k) n pos) (Zl k) := J.int _ _ _
theorem jN {n : Nat} {pos : Pos} : J prog w Γ (.Constant .none n pos) Z3 := J.none _ _
theorem jB {b : Bool} {n : Nat} {pos : Pos} : J prog w Γ (.Constant (.bool b) n pos) (ZaL b) := J.bool _ _ _
theorem cO {elt iter : Expr} {x : Str} {px : Pos} {ifs : List Expr} {scope : Scope} {pos : Pos} {cl : List (Str × Addr)} {t : Nat} {g : Src} {c : Ts} {f : Ex} (hg : JI prog w Γ iter g) (hel : ∀ C ρ, J prog w (ZaS Γ scope cl C [(x, t)] ρ) elt f) (hif : ∀ C ρ, JF prog w (ZaS Γ scope cl C [(x, t)] ρ) ifs c)
  (hclos : closureFor scope Γ.env = pure cl := by with_unfolding_all rfl) (hcell : ∀ y ∈ scope.names, y.2 ≠ .cell := by decide) (hkind : scope.kind = .function := by exact rfl) (hnames : ∀ y ∈ scope.names, y.2 = .local → scope.names.lookup y.1 = some .local := by decide) (hx : scope.names.lookup x = some .local := by exact rfl) (hs : ∀ x, foldedSetIterable iter Γ.env x = pure x := by intro _; rfl) :
  J prog w Γ (.ListComp elt [⟨.Name x px, iter, ifs, 0⟩] scope pos) (Zao g (Zaf t) c f) := Zq8 hg hel hif hclos hcell hkind hnames hx hs
theorem cT {elt iter : Expr} {x x₂ : Str} {px px₂ tp : Pos} {kt : Nat} {scope : Scope} {pos : Pos} {cl : List (Str × Addr)} {t t₂ : Nat} {g : Src} {f : Ex} (hg : JI2 prog w Γ iter g) (hel : ∀ C ρ, J prog w (ZaS Γ scope cl C [(x, t), (x₂, t₂)] ρ) elt f)
  (hclos : closureFor scope Γ.env = pure cl := by with_unfolding_all rfl) (hcell : ∀ y ∈ scope.names, y.2 ≠ .cell := by decide) (hkind : scope.kind = .function := by exact rfl) (hnames : ∀ y ∈ scope.names, y.2 = .local → scope.names.lookup y.1 = some .local := by decide) (hx : scope.names.lookup x = some .local := by exact rfl) (hx₂ : scope.names.lookup x₂ = some .local := by exact rfl) (hxx : x ≠ x₂ := by decide) (htt : t ≠ t₂ := by decide) (hs : ∀ x, foldedSetIterable iter Γ.env x = pure x := by intro _; rfl) :
  J prog w Γ (.ListComp elt [⟨.Tuple [.Name x px, .Name x₂ px₂] kt tp, iter, [], 0⟩] scope pos) (Zao g (ZbO t t₂) Zaj f) := Zqb hg hel hclos hcell hkind hnames hx hx₂ hxx htt hs
theorem sO {elt iter : Expr} {x y : Str} {px py pos spos : Pos} {ifs : List Expr} {scope : Scope} {cl : List (Str × Addr)} {t i : Nat} {g : Src} {c : Ts} {f : Ex} (hy : Sto prog w Γ y i) (hg : JI prog w Γ iter g) (hel : ∀ C ρ, J prog w (ZaS Γ scope cl C [(x, t)] ρ) elt f) (hif : ∀ C ρ, JF prog w (ZaS Γ scope cl C [(x, t)] ρ) ifs c)
  (hsw : swapsWith (.ListComp elt [⟨.Name x px, iter, ifs, 0⟩] scope pos) (some (.Name y py)) spos.line Γ.env = pure true := by rfl)
  (hclos : closureFor scope Γ.env = pure cl := by with_unfolding_all rfl) (hcell : ∀ y ∈ scope.names, y.2 ≠ .cell := by decide) (hkind : scope.kind = .function := by exact rfl) (hnames : ∀ y ∈ scope.names, y.2 = .local → scope.names.lookup y.1 = some .local := by decide) (hx : scope.names.lookup x = some .local := by exact rfl) (hs : ∀ x, foldedSetIterable iter Γ.env x = pure x := by intro _; rfl) :
  S1 prog w Γ (.Assign [.Name y py] (.ListComp elt [⟨.Name x px, iter, ifs, 0⟩] scope pos) spos) (ZN i (Zao g (Zaf t) c f)) := Zom hy hg hel hif hsw hclos hcell hkind hnames hx hs
theorem sT {elt iter : Expr} {x x₂ y : Str} {px px₂ tp py pos spos : Pos} {kt : Nat} {scope : Scope} {cl : List (Str × Addr)} {t t₂ i : Nat} {g : Src} {f : Ex} (hy : Sto prog w Γ y i) (hg : JI2 prog w Γ iter g) (hel : ∀ C ρ, J prog w (ZaS Γ scope cl C [(x, t), (x₂, t₂)] ρ) elt f)
  (hsw : swapsWith (.ListComp elt [⟨.Tuple [.Name x px, .Name x₂ px₂] kt tp, iter, [], 0⟩] scope pos) (some (.Name y py)) spos.line Γ.env = pure true := by rfl)
  (hclos : closureFor scope Γ.env = pure cl := by with_unfolding_all rfl) (hcell : ∀ y ∈ scope.names, y.2 ≠ .cell := by decide) (hkind : scope.kind = .function := by exact rfl) (hnames : ∀ y ∈ scope.names, y.2 = .local → scope.names.lookup y.1 = some .local := by decide) (hx : scope.names.lookup x = some .local := by exact rfl) (hx₂ : scope.names.lookup x₂ = some .local := by exact rfl) (hxx : x ≠ x₂ := by decide) (htt : t ≠ t₂ := by decide) (hs : ∀ x, foldedSetIterable iter Γ.env x = pure x := by intro _; rfl) :
  S1 prog w Γ (.Assign [.Name y py] (.ListComp elt [⟨.Tuple [.Name x px, .Name x₂ px₂] kt tp, iter, [], 0⟩] scope pos) spos) (ZN i (Zao g (ZbO t t₂) Zaj f)) := ZnX hy hg hel hsw hclos hcell hkind hnames hx hx₂ hxx htt hs
end
section
variable {prog : Program} {w : World} {dp un : Nat} {gd : Option (List Code)} {cn : Str} {cs : Scope} {L a : Addr} {ccd : Value} {cl : List (Str × Addr)} {outer : List Env} {h₀ : Heap} {hu : un + 200 < cLine} {names : List Str}
theorem vL {x : Str} {i : Nat} {pos : Pos} (hi : names[i]? = some x := by rfl) (hx : cs.names.lookup x = some .local := by exact rfl) (hk : cs.kind = .function := by exact rfl) (hd : (x == ("__debug__" : Str)) = false := by exact rfl) : J prog w (Zbf dp un gd cn cs L a ccd cl outer h₀ hu names) (.Name x pos) (Zb i) := Zgx (Zq6 hi hx hk hd)
theorem vC {x : Str} {i : Nat} {pos : Pos} (hi : names[i]? = some x := by rfl) (hx : cs.names.lookup x = some .cell := by exact rfl) (hk : cs.kind = .function := by exact rfl) (hd : (x == ("__debug__" : Str)) = false := by exact rfl) : J prog w (Zbf dp un gd cn cs L a ccd cl outer h₀ hu names) (.Name x pos) (Zb i) := Zgx (Zq7 hi hx hk hd)
theorem sL {x : Str} {i : Nat} (nd : names.Nodup := by decide) (hi : names[i]? = some x := by rfl) (hx : cs.names.lookup x = some .local := by exact rfl) (hk : cs.kind = .function := by exact rfl) : Sto prog w (Zbf dp un gd cn cs L a ccd cl outer h₀ hu names) x i := Zp8 nd hi hx hk
theorem sC {x : Str} {i : Nat} (nd : names.Nodup := by decide) (hi : names[i]? = some x := by rfl) (hx : cs.names.lookup x = some .cell := by exact rfl) (hk : cs.kind = .function := by exact rfl) (hcl : (cl.lookup x).isSome = true := by exact rfl) : Sto prog w (Zbf dp un gd cn cs L a ccd cl outer h₀ hu names) x i := Zp9 nd hi hx hk hcl
end
section
variable {prog : Program} {w : World} {K : Frag} {p : Program} {loose : List Str} {mean : ExcName → Option Value} {mg mb : Str → Option Value} {Γ : Cx} {dp un : Nat}
theorem nB {x : Str} {v : Value} (clr : Clr K p loose mean mg mb Γ dp un) (e : nsIn K mainGlobals x = some Option.none := by k_is) (hv : bootBuiltins x = some v := by boot_by_name) (hn : x ≠ "__name__" := by decide) (hg : Γ.env.globals = mainGlobals := by exact rfl) (hb : Γ.env.builtins = builtinsNs := by exact rfl) (hk : Γ.env.scope.kind = .function := by exact rfl) (hx : Γ.env.kindOf x = some .globalImplicit := by exact rfl) (hd : (x == ("__debug__" : Str)) = false := by exact rfl) : Nm prog w Γ x v := Zpy clr e hv hn hg hb hk hx hd
theorem cF {x : Str} {np pos : Pos} {f : Addr} {room : Nat} {e : Expr} {es : List Expr} {g : Exs} {o : List V → Hp → Option (V × Hp)} (clr : Clr K p loose mean mg mb Γ dp un) (D : Def prog w K p loose mean mg mb f room o) (h : Js prog w Γ (e :: es) g)
  (en : nsIn K mainGlobals x = some (some (.ref f)) := by k_is) (hg : Γ.env.globals = mainGlobals := by exact rfl) (hk : Γ.env.scope.kind = .function := by exact rfl) (hx : Γ.env.kindOf x = some .globalImplicit := by exact rfl) (hd0 : (x == ("__debug__" : Str)) = false := by exact rfl)
  (hkeep : keepIn K (.ref f) = true := by k_is) (hd : dp + room < recursionLimit := by omega) (hu : un + 10 * room + 300 < cLine := by omega)
  (he : starEach (e :: es) Γ.env = (false, eval e Γ.env) :: starEach es Γ.env := by rfl) (hp : ∀ pos, (backTo pos (starEach es Γ.env)).any (·.1) = false := by intro _; rfl) : J prog w Γ (.Call (.Name x np) (e :: es) [] pos) (Zw o g) := Zqc clr (Zrd clr en hg hk hx hd0) hkeep D hd hu h he hp
theorem Dof {name qual : Str} {params : Arguments} {body : List Stmt} {scope : Scope} {dV kV doc pm cdv ct oc : Value} {an od : Option Addr} {osl : Array (Option Value)} {f : Addr} {names : List Str} {n room : Nat} {g : Sm}
  (hbody : ∀ (dp un : Nat) (gd : Option (List Code)) (L : Addr) (outer : List Env) (h₀ : Heap) (hu : un + 200 < cLine), Clr K p loose mean mg mb (Zbf dp un gd qual scope L f cdv (cellsFrom (L + 1) scope.names []) outer h₀ hu names) dp un → dp + room < recursionLimit → un + 10 * room + 300 < cLine →
   Ss prog w (Zbf dp un gd qual scope L f cdv (cellsFrom (L + 1) scope.names []) outer h₀ hu names) body g)
  (ho : K.lookup f = some ⟨oc, od, .func (fnOf name qual params body scope dV kV doc pm an cdv ct), osl⟩ := by k_is) (hcd : codeIn K cdv qual = true := by k_is) (nd : names.Nodup := by decide) (hn : n ≤ names.length := by decide)
  (hbind : ∀ s xs, xs.length = n → BindsTo s (fnOf name qual params body scope dV kV doc pm an cdv ct) ⟨xs, []⟩ ((names.take n).zip xs) := by
   intro s xs hx
   first
   | (obtain ⟨x0, rfl⟩ := ln1 hx; exact BindsTo.of_eq rfl)
   | (obtain ⟨x0, x1, rfl⟩ := ln2 hx; exact BindsTo.of_eq rfl)
   | (obtain ⟨x0, x1, x2, rfl⟩ := ln3 hx; exact BindsTo.of_eq rfl)
   | (obtain ⟨x0, x1, x2, x3, rfl⟩ := ln4 hx; exact BindsTo.of_eq rfl)
   | (obtain ⟨x0, x1, x2, x3, x4, rfl⟩ := ln5 hx; exact BindsTo.of_eq rfl)
   | (obtain ⟨x0, x1, x2, x3, x4, x5, rfl⟩ := ln6 hx; exact BindsTo.of_eq rfl)
   | (obtain ⟨x0, x1, x2, x3, x4, x5, x6, rfl⟩ := ln7 hx; exact BindsTo.of_eq rfl)) (hkinds : ∀ x ∈ names.take n, scope.names.lookup x = some .local ∨ scope.names.lookup x = some .cell := by decide) (hone : ((cellsFrom 0 scope.names []).map (·.1)).Nodup := by decide +kernel)
  (hco : scope.isCoroutine = false := by exact rfl) (hgen : scope.isGenerator = false := by exact rfl) (hk : scope.kind = .function := by exact rfl) :
  Def prog w K p loose mean mg mb f (room + 1) (ZY n g) := Zrb ho hcd nd hn hbind hkinds hone hco hgen hk hbody
end
section
variable {prog : Program} {w : World} {Γ : Cx} {scope : Scope} {cl : List (Str × Addr)} {C : Addr} {ts : List (Str × Nat)} {ρ0 : Lc}
theorem vO {x : Str} {t : Nat} {pos : Pos} (hm : (x, t) ∈ ts := by first | exact Zz5 | exact Zz2 _ Zz5) (hk : scope.kind = .function := by exact rfl) (hl : (compEnvC scope cl C Γ.env).kindOf x = some .local := by exact rfl) (hd : (x == ("__debug__" : Str)) = false := by exact rfl) : J prog w (ZaS Γ scope cl C ts ρ0) (.Name x pos) (Zb t) := Zgx (Zqe hm hk hl hd)
end
section
variable {prog : Program} {w : World} {dp un : Nat} {gd : Option (List Code)} {cn : Str} {cs : Scope} {L a : Addr} {ccd : Value} {clf : List (Str × Addr)} {outer : List Env} {h₀ : Heap} {hu : un + 200 < cLine} {names : List Str} {scope : Scope} {cl : List (Str × Addr)} {C : Addr} {ts : List (Str × Nat)} {ρ0 : Lc}
theorem vD {x : Str} {i : Nat} {pos : Pos} (hi : names[i]? = some x := by rfl) (hx : cs.names.lookup x = some .cell := by exact rfl) (hne : ∀ p ∈ ts, p.2 ≠ i := by decide) (hcl : cl.lookup x = clf.lookup x := by exact rfl) (hk : scope.kind = .function := by exact rfl) (hl : (compEnvC scope cl C (envX cn cs L a ccd clf)).kindOf x = some .cell := by exact rfl) (hd : (x == ("__debug__" : Str)) = false := by exact rfl) :
  J prog w (ZaS (Zbf dp un gd cn cs L a ccd clf outer h₀ hu names) scope cl C ts ρ0) (.Name x pos) (Zb i) := Zgx (Zqf hi hx hne hcl hk hl hd)
end
end PM
end
section
set_option linter.all false
set_option maxRecDepth 100000
set_option maxHeartbeats 2000000
open PySem PM TM
namespace L
noncomputable def ZhN : Sm := Zt (ZN 2 (Ze Zag (Ze ZaR (Ze ZaR (Zb 1) (Zb 1)) (Zl 7919)) (Zl 11))) (Zt (ZQ (ZJ (Ze oGt (Zw ZaN (Zg (Zb 0) Zo)) (Zl 0))) (ZN 2 (Ze Zag (Zb 2) (Ze Zr (Zb 0) (Ze oMod (Zb 1) (Zw ZaN (Zg (Zb 0) Zo)))))) ZW) (ZE (Zb 2)))
noncomputable def Zfv : List V → Hp → Option (V × Hp) := ZY 2 ZhN
noncomputable def ZhO : PS := (Zu (ZP 2 (Zd Zad (Zd ZaE (Zd ZaE (Za 1) (Za 1)) (Zk 7919)) (Zk 11))) (Zu (ZT (ZI (Zd qGt (Zv ZaB (Zf (Za 0) Zn)) (Zk 0))) (ZP 2 (Zd Zad (Za 2) (Zd Zs (Za 0) (Zd ZaI (Za 1) (Zv ZaB (Zf (Za 0) Zn)))))) ZX) (ZF (Za 2))))
noncomputable def Zeo : List T → Option T := Z0 2 ZhO
theorem ZkI : SimF false Zfv Zeo := Zab (show S [] [] [] false ZhN ZhO from (ZC (Z2 (O' := []) (Z8 Zan (Z8 Zbb (Z8 Zbb (Zc 1) (Zc 1)) (Zm _)) (Zm _)) (by decide) (by decide) (by decide)) (ZC (Z7 (ZL (ZD Zfa (ZaG Za6 (Zh (Zc 0) Zp)) (Zm _))) (Z2 (O' := []) (Z8 Zan (Zc 2) (Zy Zx (Zc 0) (ZD ZaX (Zc 1) (ZaG Za6 (Zh (Zc 0) Zp))))) (by decide) (by decide) (by decide)) Z6) (ZK (O' := []) (Zc 2) (by decide)))))
noncomputable def Zip : Sm := ZE (Ze oMod (Ze oMod (Ze ZaR (Zw Zfv (Zg (Zb 0) (Zg (Zb 1) Zo))) (Zl 48271)) (Zl 2147483647)) (Zb 2))
noncomputable def ZbV : List V → Hp → Option (V × Hp) := ZY 3 Zip
noncomputable def Ziq : PS := (ZF (Zd ZaI (Zd ZaI (Zd ZaE (Zv Zeo (Zf (Za 0) (Zf (Za 1) Zn))) (Zk 48271)) (Zk 2147483647)) (Za 2)))
noncomputable def Zbq : List T → Option T := Z0 3 Ziq
theorem Zcg : SimF false ZbV Zbq := Zab (show S [] [] [] false Zip Ziq from (ZK (O' := []) (ZD ZaX (ZD ZaX (Z8 Zbb (ZM ZkI (Zh (Zc 0) (Zh (Zc 1) Zp))) (Zm _)) (Zm _)) (Zc 2)) (by decide)))
noncomputable def Zht : Sm := Zt (ZN 2 (Zw Zfv (Zg (Zb 0) (Zg (Zb 1) Zo)))) (Zt (ZN 3 (Ze Zr (Zbr (Zg (Zl 3) (Zg (Zl 9) (Zg (Ze oPow (Zl 10) (Zl 9)) (Zg (Ze oPow (Zl 10) (Zl 40)) Zo))))) (Ze oMod (Ze oMod (Ze ZaR (Zb 2) (Zl 69621)) (Zl 2147483629)) (Zl 4)))) (ZE (Ze Zbu (Ze oMod (Ze ZaR (Zb 2) (Ze oPow (Zl 48271) (Zl 9))) (Ze Zag (Ze ZaR (Zl 2) (Zb 3)) (Zl 1))) (Zb 3))))
noncomputable def ZdN : List V → Hp → Option (V × Hp) := ZY 2 Zht
noncomputable def Zhu : PS := (Zu (ZP 2 (Zv Zeo (Zf (Za 0) (Zf (Za 1) Zn)))) (Zu (ZP 3 (Zd Zs (Zbs (Zf (Zk 3) (Zf (Zk 9) (Zf (Zd Zcu (Zk 10) (Zk 9)) (Zf (Zd Zcu (Zk 10) (Zk 40)) Zn))))) (Zd ZaI (Zd ZaI (Zd ZaE (Za 2) (Zk 69621)) (Zk 2147483629)) (Zk 4)))) (ZF (Zd Za3 (Zd ZaI (Zd ZaE (Za 2) (Zd Zcu (Zk 48271) (Zk 9))) (Zd Zad (Zd ZaE (Zk 2) (Za 3)) (Zk 1))) (Za 3)))))
noncomputable def Zdm : List T → Option T := Z0 2 Zhu
theorem Zfq : SimF false ZdN Zdm := Zab (show S [] [] [] false Zht Zhu from (ZC (Z2 (O' := []) (ZM ZkI (Zh (Zc 0) (Zh (Zc 1) Zp))) (by decide) (by decide) (by decide)) (ZC (Z2 (O' := []) (Zy Zx (E.list (Zh (Zm _) (Zh (Zm _) (Zh (ZD Zkn (Zm _) (Zm _)) (Zh (ZD Zkn (Zm _) (Zm _)) Zp)))) (by decide)) (ZD ZaX (ZD ZaX (Z8 Zbb (Zc 2) (Zm _)) (Zm _)) (Zm _))) (by decide) (by decide) (by decide)) (ZK (O' := []) (ZD ZbC (ZD ZaX (Z8 Zbb (Zc 2) (ZD Zkn (Zm _) (Zm _))) (Z8 Zan (Z8 Zbb (Zm _) (Zc 3)) (Zm _))) (Zc 3)) (by decide)))))
noncomputable def ZhP : Sm := Zt (ZN 2 (Zw ZbV (Zg (Zb 0) (Zg (Zb 1) (Zg (Zl 42) Zo))))) (Zt (ZQ (ZJ (Ze oLt (Ze oMod (Zb 2) (Zl 6)) (Zl 2))) (ZE (Z3)) ZW) (Zt (ZQ (ZJ (Ze oLt (Ze oMod (Zb 2) (Zl 6)) (Zl 4))) (ZE (Zl 0)) ZW) (Zt (ZQ (ZJ (Ze oEq (Ze oMod (Zb 2) (Zl 6)) (Zl 4))) (ZE (Ze oDiv (Zb 2) (Zl 6))) ZW) (ZE (Zw Zdf (Zg (Zw ZdN (Zg (Zb 0) (Zg (Zb 1) Zo))) Zo))))))
noncomputable def ZhQ : List V → Hp → Option (V × Hp) := ZY 2 ZhP
noncomputable def ZhR : PS := (Zu (ZP 2 (Zv Zbq (Zf (Za 0) (Zf (Za 1) (Zf (Zk 42) Zn))))) (Zu (ZT (ZI (Zd qLt (Zd ZaI (Za 2) (Zk 6)) (Zk 2))) (ZF (Zaa)) ZX) (Zu (ZT (ZI (Zd qLt (Zd ZaI (Za 2) (Zk 6)) (Zk 4))) (ZF (Zk 0)) ZX) (Zu (ZT (ZI (Zd qEq (Zd ZaI (Za 2) (Zk 6)) (Zk 4))) (ZF (Zd ZcG (Za 2) (Zk 6))) ZX) (ZF (Zv Zdj (Zf (Zv Zdm (Zf (Za 0) (Zf (Za 1) Zn))) Zn)))))))
noncomputable def Zfw : List T → Option T := Z0 2 ZhR
theorem Zn0 : SimF false ZhQ Zfw := Zab (show S [] [] [] false ZhP ZhR from (ZC (Z2 (O' := []) (ZM Zcg (Zh (Zc 0) (Zh (Zc 1) (Zh (Zm _) Zp)))) (by decide) (by decide) (by decide)) (ZC (Z7 (ZL (ZD Zdh (ZD ZaX (Zc 2) (Zm _)) (Zm _))) (ZK (O' := []) (Zak) (by decide)) Z6) (ZC (Z7 (ZL (ZD Zdh (ZD ZaX (Zc 2) (Zm _)) (Zm _))) (ZK (O' := []) (Zm _) (by decide)) Z6) (ZC (Z7 (ZL (ZD ZaA (ZD ZaX (Zc 2) (Zm _)) (Zm _))) (ZK (O' := []) (ZD Zec (Zc 2) (Zm _)) (by decide)) Z6) (ZK (O' := []) (ZaG Ze3 (Zh (ZM Zfq (Zh (Zc 0) (Zh (Zc 1) Zp))) Zp)) (by decide)))))))
noncomputable def Zhc : Sm := Zt (ZQ (ZJ (Ze oEq (Zb 0) (Zl 0))) (ZE (ZaH (Zg (Zl 0) (Zg (Zb 1) Zo)))) ZW) (ZE (ZaH (Zg (Zb 0) (Zg (Ze oMod (Zb 1) (Zb 0)) Zo))))
noncomputable def Zfm : List V → Hp → Option (V × Hp) := ZY 2 Zhc
noncomputable def Zhd : PS := (Zu (ZT (ZI (Zd qEq (Za 0) (Zk 0))) (ZF (ZaU (Zf (Zk 0) (Zf (Za 1) Zn)))) ZX) (ZF (ZaU (Zf (Za 0) (Zf (Zd ZaI (Za 1) (Za 0)) Zn)))))
noncomputable def Zeh : List T → Option T := Z0 2 Zhd
theorem ZkA : SimF false Zfm Zeh := Zab (show S [] [] [] false Zhc Zhd from (ZC (Z7 (ZL (ZD ZaA (Zc 0) (Zm _))) (ZK (O' := []) (E.tup (Zh (Zm _) (Zh (Zc 1) Zp)) (by decide)) (by decide)) Z6) (ZK (O' := []) (E.tup (Zh (Zc 0) (Zh (ZD ZaX (Zc 1) (Zc 0)) Zp)) (by decide)) (by decide))))
noncomputable def Zir : Sm := Zt (ZN 3 (Zw ZbV (Zg (Zb 0) (Zg (Zb 1) (Zg (Zl 60) Zo))))) (Zt (ZQ (ZJ (Ze oLt (Ze oMod (Zb 3) (Zl 5)) (Zl 2))) (ZE (ZaH (Zg (Zl 1) (Zg (Zl 0) Zo)))) ZW) (Zt (ZQ (ZJ (Ze oEq (Ze oMod (Zb 3) (Zl 5)) (Zl 2))) (ZE (ZaH (Zg (Zl 0) (Zg (Zb 2) Zo)))) ZW) (Zt (ZQ (ZJ (Ze oEq (Ze oMod (Zb 3) (Zl 5)) (Zl 3))) (ZE (Zw Zfm (Zg (Ze Zag (Ze oDiv (Zb 3) (Zl 5)) (Zl 1)) (Zg (Zb 2) Zo)))) ZW) (ZE (Zw Zfm (Zg (Zw Zdf (Zg (Zw ZdN (Zg (Zb 0) (Zg (Zb 1) Zo))) Zo)) (Zg (Zb 2) Zo)))))))
noncomputable def Zis : List V → Hp → Option (V × Hp) := ZY 3 Zir
noncomputable def Zit : PS := (Zu (ZP 3 (Zv Zbq (Zf (Za 0) (Zf (Za 1) (Zf (Zk 60) Zn))))) (Zu (ZT (ZI (Zd qLt (Zd ZaI (Za 3) (Zk 5)) (Zk 2))) (ZF (ZaU (Zf (Zk 1) (Zf (Zk 0) Zn)))) ZX) (Zu (ZT (ZI (Zd qEq (Zd ZaI (Za 3) (Zk 5)) (Zk 2))) (ZF (ZaU (Zf (Zk 0) (Zf (Za 2) Zn)))) ZX) (Zu (ZT (ZI (Zd qEq (Zd ZaI (Za 3) (Zk 5)) (Zk 3))) (ZF (Zv Zeh (Zf (Zd Zad (Zd ZcG (Za 3) (Zk 5)) (Zk 1)) (Zf (Za 2) Zn)))) ZX) (ZF (Zv Zeh (Zf (Zv Zdj (Zf (Zv Zdm (Zf (Za 0) (Zf (Za 1) Zn))) Zn)) (Zf (Za 2) Zn))))))))
noncomputable def ZfD : List T → Option T := Z0 3 Zit
theorem Zoq : SimF false Zis ZfD := Zab (show S [] [] [] false Zir Zit from (ZC (Z2 (O' := []) (ZM Zcg (Zh (Zc 0) (Zh (Zc 1) (Zh (Zm _) Zp)))) (by decide) (by decide) (by decide)) (ZC (Z7 (ZL (ZD Zdh (ZD ZaX (Zc 3) (Zm _)) (Zm _))) (ZK (O' := []) (E.tup (Zh (Zm _) (Zh (Zm _) Zp)) (by decide)) (by decide)) Z6) (ZC (Z7 (ZL (ZD ZaA (ZD ZaX (Zc 3) (Zm _)) (Zm _))) (ZK (O' := []) (E.tup (Zh (Zm _) (Zh (Zc 2) Zp)) (by decide)) (by decide)) Z6) (ZC (Z7 (ZL (ZD ZaA (ZD ZaX (Zc 3) (Zm _)) (Zm _))) (ZK (O' := []) (ZM ZkA (Zh (Z8 Zan (ZD Zec (Zc 3) (Zm _)) (Zm _)) (Zh (Zc 2) Zp))) (by decide)) Z6) (ZK (O' := []) (ZM ZkA (Zh (ZaG Ze3 (Zh (ZM Zfq (Zh (Zc 0) (Zh (Zc 1) Zp))) Zp)) (Zh (Zc 2) Zp))) (by decide)))))))
noncomputable def Ziu : Sm := Zt (ZN 3 (Ze Zag (Zbr (Zg (Zl 0) Zo)) (Zb 2))) (Zt (ZN 4 (Zw ZaN (Zg (Zb 3) Zo))) (Zt (ZN 5 (Zbr Zo)) (Zt (ZaQ (ZaK (Zg (Zb 4) Zo)) (Zaf 6) (Zt (ZN 7 (Zbr Zo)) (Zt (ZaQ (ZaK (Zg (Zb 4) Zo)) (Zaf 8) (Zt (ZN 9 (Zw ZhQ (Zg (Zb 0) (Zg (Ze Zag (Ze Zag (Zb 1) (Ze ZaR (Zb 6) (Zb 4))) (Zb 8)) Zo)))) (Zt (ZQ (ZJ (Ze Zcz (Zb 9) (Z3))) (ZN 9 (Ze Zag (Ze Zbu (Ze Zr (Zb 3) (Zb 6)) (Ze Zr (Zb 3) (Zb 8))) (Zb 9))) ZW) (ZdF (Zdr (Zb 7) (Zb 9)))))) (Zt (ZcE (Zl 0) (Zb 7) (Zb 6)) (ZdF (Zdr (Zb 5) (Zb 7))))))) (ZE (ZaH (Zg (Zb 5) (Zg (Zao (ZaK (Zg (Ze Zbu (Zb 4) (Zl 1)) Zo)) (Zaf 100) Zaj (Zw Zis (Zg (Zb 0) (Zg (Ze Zag (Ze Zag (Zb 1) (Ze ZaR (Zb 4) (Zb 4))) (Zb 100)) (Zg (Ze Zr (Zb 2) (Zb 100)) Zo))))) Zo)))))))
noncomputable def Ziv : List V → Hp → Option (V × Hp) := ZY 3 Ziu
noncomputable def Ziw : PS := (Zu (ZP 3 (Zd Zad (Zbs (Zf (Zk 0) Zn)) (Za 2))) (Zu (ZP 4 (Zv ZaB (Zf (Za 3) Zn))) (Zu (ZP 5 (Zbs Zn)) (Zu (ZaV (Zax (Zf (Za 4) Zn)) (Zac 6) (Zu (ZP 7 (Zbs Zn)) (Zu (ZaV (Zax (Zf (Za 4) Zn)) (Zac 8) (Zu (ZP 9 (Zv Zfw (Zf (Za 0) (Zf (Zd Zad (Zd Zad (Za 1) (Zd ZaE (Za 6) (Za 4))) (Za 8)) Zn)))) (Zu (ZT (ZI (Zd Zcj (Za 9) (Zaa))) (ZP 9 (Zd Zad (Zd Za3 (Zd Zs (Za 3) (Za 6)) (Zd Zs (Za 3) (Za 8))) (Za 9))) ZX) (ZcV 7 [] Zbc (Zcm (Za 9)))))) (Zu (Zce 7 [] (Zk 0) Zbc (Za 6)) (ZcV 5 [7] Zbc (Za 7)))))) (ZF (ZaU (Zf (Za 5) (Zf (Zah (Zax (Zf (Zd Za3 (Za 4) (Zk 1)) Zn)) (Zac 100) Zae (Zcm (Zv ZfD (Zf (Za 0) (Zf (Zd Zad (Zd Zad (Za 1) (Zd ZaE (Za 4) (Za 4))) (Za 100)) (Zf (Zd Zs (Za 2) (Za 100)) Zn)))))) Zn))))))))
noncomputable def ZfE : List T → Option T := Z0 3 Ziw
theorem Zor : SimF true Ziv ZfE := Zab (show S [] [5] [] true Ziu Ziw from (ZC (Z2 (O' := []) (Z8 Zan (E.list (Zh (Zm _) Zp) (by decide)) (Zc 2)) (by decide) (by decide) (by decide)) (ZC (Z2 (O' := []) (ZaG Za6 (Zh (Zc 3) Zp)) (by decide) (by decide) (by decide)) (ZC (Zc6 (O' := [5]) (E.list Zp (by decide)) (by decide)) (ZC (Zbv (Gs.range (Zh (Zc 4) Zp)) (PutOk.one (by decide)) (by decide) (by decide) (ZC (Zc6 (O' := [5, 7]) (Zb0 (O' := []) (E.list Zp (by decide)) (by decide)) (by decide)) (ZC (Zbv (Gs.range (Zh (Zc 4) Zp)) (PutOk.one (by decide)) (by decide) (by decide) (ZC (Z2 (O' := [5, 7]) (ZM Zn0 (Zh (Zc 0) (Zh (Z8 Zan (Z8 Zan (Zc 1) (Z8 Zbb (Zc 6) (Zc 4))) (Zc 8)) Zp))) (by decide) (by decide) (by decide)) (ZC (Z7 (ZL (ZD Zc3 (Zc 9) (Zak))) (Z2 (O' := [5, 7]) (Z8 Zan (ZD ZbC (Zy Zx (Zc 3) (Zc 6)) (Zy Zx (Zc 3) (Zc 8))) (Zc 9)) (by decide) (by decide) (by decide)) Z6) (Zgy (O' := [5, 7]) (by decide) Zco (Zb0 (O' := [5]) (E.flat (Zc 9)) (by decide)) (by decide) (by decide))))) (ZC (S.put (O' := [5, 7]) (by decide) (Zb0 (O' := [5]) (Zm _) (by decide)) Zco (Zc 6) (by decide) (by decide)) (Zgy (O' := [5]) (by decide) Zco (Zb0 (O' := [7]) (E.own (by decide)) (by decide)) (by decide) (by decide)))))) (ZcP (O' := [5]) (E.tup (Zlt (E.own (by decide)) (Zlt (ZeE (Gs.range (Zh (ZD ZbC (Zc 4) (Zm _)) Zp)) (PutOk.one (by decide)) (by decide) Zau (Zb0 (O' := []) (E.flat (ZM Zoq (Zh (Zc 0) (Zh (Z8 Zan (Z8 Zan (Zc 1) (Z8 Zbb (Zc 4) (Zc 4))) (Zc 100)) (Zh (Zy Zx (Zc 2) (Zc 100)) Zp))))) (by decide))) Zp (by decide) (by decide)) (by decide) (by decide)) (by decide)) (by decide) (by decide)))))))
noncomputable def Zix : Sm := Zt (ZQ (ZJ (Ze oIs (Zb 0) (Z3))) (ZE (Z3)) ZW) (ZE (ZaH (Zg (Zao (Zbe (Ze Zr (Zb 0) (Zl 0))) (Zaf 100) Zaj (Zw Zc5 (Zg (Zb 100) Zo))) (Zg (Zw Zc5 (Zg (Ze Zr (Zb 0) (Zl 1)) Zo)) Zo))))
noncomputable def Ziy : List V → Hp → Option (V × Hp) := ZY 1 Zix
noncomputable def Ziz : PS := (Zu (ZT (ZI (Zd qIs (Za 0) (Zaa))) (ZF (Zaa)) ZX) (ZF (ZaU (Zf (Zah (ZaY (Zd Zs (Za 0) (Zk 0))) (Zac 100) Zae (Zv Zdt (Zf (Za 100) Zn))) (Zf (Zv Zdt (Zf (Zd Zs (Za 0) (Zk 1)) Zn)) Zn)))))
noncomputable def ZfF : List T → Option T := Z0 1 Ziz
theorem Zos : SimF false Ziy ZfF := Zab (show S [] [] [] false Zix Ziz from (ZC (Z7 (ZL (ZD Zb3 (Zc 0) (Zak))) (ZK (O' := []) (Zak) (by decide)) Z6) (ZK (O' := []) (E.tup (Zh (Za5 (Gs.seq (Zy Zx (Zc 0) (Zm _))) (PutOk.one (by decide)) (by decide) Zau (Zf8 ZjK (Zh (Zc 100) Zp))) (Zh (Zf8 ZjK (Zh (Zy Zx (Zc 0) (Zm _)) Zp)) Zp)) (by decide)) (by decide))))
noncomputable def ZhS : Sm := ZE (eOr (Ze oIs (Zb 1) (Z3)) (ZcS (Ze Zcz (Zb 0) (Z3)) (Ze oLe (Zb 0) (Zb 1))))
noncomputable def ZhT : List V → Hp → Option (V × Hp) := ZY 2 ZhS
noncomputable def ZhU : PS := (ZF ((pOr (Zd qIs (Za 1) (Zaa)) ((ZcF (Zd Zcj (Za 0) (Zaa)) (Zd qLe (Za 0) (Za 1)))))))
noncomputable def Zfx : List T → Option T := Z0 2 ZhU
theorem Zn1 : SimF false ZhT Zfx := Zab (show S [] [] [] false ZhS ZhU from (ZK (O' := []) ((Zsr (E.sh (ZD Zb3 (Zc 1) (Zak))) (E.sh ((Ze1 (E.sh (ZD Zc3 (Zc 0) (Zak))) (E.sh (ZD ZgL (Zc 0) (Zc 1)))))))) (by decide)))
noncomputable def ZiA : Sm := Zt (ZQ (ZJ (Ze oEq (Ze Zr (Zb 0) (Zl 0)) (Zl 0))) (ZE (Ze oEq (Zb 1) (Ze Zr (Zb 0) (Zl 1)))) ZW) (ZE (Ze oEq (Ze oMod (Zb 1) (Ze Zr (Zb 0) (Zl 0))) (Ze Zr (Zb 0) (Zl 1))))
noncomputable def ZfG : List V → Hp → Option (V × Hp) := ZY 2 ZiA
noncomputable def ZiB : PS := (Zu (ZT (ZI (Zd qEq (Zd Zs (Za 0) (Zk 0)) (Zk 0))) (ZF (Zd qEq (Za 1) (Zd Zs (Za 0) (Zk 1)))) ZX) (ZF (Zd qEq (Zd ZaI (Za 1) (Zd Zs (Za 0) (Zk 0))) (Zd Zs (Za 0) (Zk 1)))))
noncomputable def Zeu : List T → Option T := Z0 2 ZiB
theorem ZkU : SimF false ZfG Zeu := Zab (show S [] [] [] false ZiA ZiB from (ZC (Z7 (ZL (ZD ZaA (Zy Zx (Zc 0) (Zm _)) (Zm _))) (ZK (O' := []) (ZD ZaA (Zc 1) (Zy Zx (Zc 0) (Zm _))) (by decide)) Z6) (ZK (O' := []) (ZD ZaA (ZD ZaX (Zc 1) (Zy Zx (Zc 0) (Zm _))) (Zy Zx (Zc 0) (Zm _))) (by decide))))
noncomputable def Zhe : Sm := Zt (ZQ (ZJ (Ze oEq (Ze Zr (Zb 1) (Zl 0)) (Zl 0))) (ZE (Ze oEq (Zb 0) (Zb 1))) ZW) (ZE (ZcS (Ze oEq (Ze oMod (Ze Zr (Zb 0) (Zl 0)) (Ze Zr (Zb 1) (Zl 0))) (Zl 0)) (Ze oEq (Ze oMod (Ze Zbu (Ze Zr (Zb 0) (Zl 1)) (Ze Zr (Zb 1) (Zl 1))) (Ze Zr (Zb 1) (Zl 0))) (Zl 0))))
noncomputable def Zhf : List V → Hp → Option (V × Hp) := ZY 2 Zhe
noncomputable def Zhg : PS := (Zu (ZT (ZI (Zd qEq (Zd Zs (Za 1) (Zk 0)) (Zk 0))) (ZF (Zd qEq (Za 0) (Za 1))) ZX) (ZF ((ZcF (Zd qEq (Zd ZaI (Zd Zs (Za 0) (Zk 0)) (Zd Zs (Za 1) (Zk 0))) (Zk 0)) (Zd qEq (Zd ZaI (Zd Za3 (Zd Zs (Za 0) (Zk 1)) (Zd Zs (Za 1) (Zk 1))) (Zd Zs (Za 1) (Zk 0))) (Zk 0))))))
noncomputable def Zfn : List T → Option T := Z0 2 Zhg
theorem Znq : SimF false Zhf Zfn := Zab (show S [] [] [] false Zhe Zhg from (ZC (Z7 (ZL (ZD ZaA (Zy Zx (Zc 1) (Zm _)) (Zm _))) (ZK (O' := []) (ZD ZaA (Zc 0) (Zc 1)) (by decide)) Z6) (ZK (O' := []) ((Ze1 (E.sh (ZD ZaA (ZD ZaX (Zy Zx (Zc 0) (Zm _)) (Zy Zx (Zc 1) (Zm _))) (Zm _))) (E.sh (ZD ZaA (ZD ZaX (ZD ZbC (Zy Zx (Zc 0) (Zm _)) (Zy Zx (Zc 1) (Zm _))) (Zy Zx (Zc 1) (Zm _))) (Zm _))))) (by decide))))
noncomputable def ZhV : Sm := Zt (ZQ (ZJ (Ze oIs (Zb 1) (Z3))) (ZE (ZaL true)) ZW) (ZE (ZcS (Ze Zcz (Zb 0) (Z3)) (Ze oLe (Zb 0) (Zb 1))))
noncomputable def ZhW : List V → Hp → Option (V × Hp) := ZY 2 ZhV
noncomputable def ZhX : PS := (Zu (ZT (ZI (Zd qIs (Za 1) (Zaa))) (ZF (ZaO true)) ZX) (ZF ((ZcF (Zd Zcj (Za 0) (Zaa)) (Zd qLe (Za 0) (Za 1))))))
noncomputable def Zfy : List T → Option T := Z0 2 ZhX
theorem Zn2 : SimF false ZhW Zfy := Zab (show S [] [] [] false ZhV ZhX from (ZC (Z7 (ZL (ZD Zb3 (Zc 1) (Zak))) (ZK (O' := []) (E.bool _) (by decide)) Z6) (ZK (O' := []) ((Ze1 (E.sh (ZD Zc3 (Zc 0) (Zak))) (E.sh (ZD ZgL (Zc 0) (Zc 1))))) (by decide))))
noncomputable def Zhv : Sm := Zt (ZQ (tOr (ZJ (Ze oIs (Zb 0) (Z3))) (tOr (ZJ (Ze oIs (Zb 1) (Z3))) ZbH)) (ZE (Ze oIs (Zb 0) (Z3))) ZW) (Zt (ZaQ (ZaK (Zg (Zw ZaN (Zg (Ze Zr (Zb 0) (Zl 0)) Zo)) Zo)) (Zaf 2) (ZaQ (ZaK (Zg (Zw ZaN (Zg (Ze Zr (Zb 0) (Zl 0)) Zo)) Zo)) (Zaf 3) (ZQ (Zbt (ZJ (Zw ZhW (Zg (Ze Zr (Ze Zr (Ze Zr (Zb 0) (Zl 0)) (Zb 2)) (Zb 3)) (Zg (Ze Zr (Ze Zr (Ze Zr (Zb 1) (Zl 0)) (Zb 2)) (Zb 3)) Zo))))) (ZE (ZaL false)) ZW))) (Zt (ZaQ (ZaK (Zg (Zw ZaN (Zg (Ze Zr (Zb 0) (Zl 1)) Zo)) Zo)) (Zaf 4) (ZQ (Zbt (ZJ (Zw Zhf (Zg (Ze Zr (Ze Zr (Zb 0) (Zl 1)) (Zb 4)) (Zg (Ze Zr (Ze Zr (Zb 1) (Zl 1)) (Zb 4)) Zo))))) (ZE (ZaL false)) ZW)) (ZE (ZaL true))))
noncomputable def Zhw : List V → Hp → Option (V × Hp) := ZY 2 Zhv
noncomputable def Zhx : PS := (Zu (ZT (bOr (ZI (Zd qIs (Za 0) (Zaa))) (bOr (ZI (Zd qIs (Za 1) (Zaa))) ZbJ)) (ZF (Zd qIs (Za 0) (Zaa))) ZX) (Zu (ZaV (Zax (Zf (Zv ZaB (Zf (Zd Zs (Za 0) (Zk 0)) Zn)) Zn)) (Zac 2) (ZaV (Zax (Zf (Zv ZaB (Zf (Zd Zs (Za 0) (Zk 0)) Zn)) Zn)) (Zac 3) (ZT (Zbg (ZI (Zv Zfy (Zf (Zd Zs (Zd Zs (Zd Zs (Za 0) (Zk 0)) (Za 2)) (Za 3)) (Zf (Zd Zs (Zd Zs (Zd Zs (Za 1) (Zk 0)) (Za 2)) (Za 3)) Zn))))) (ZF (ZaO false)) ZX))) (Zu (ZaV (Zax (Zf (Zv ZaB (Zf (Zd Zs (Za 0) (Zk 1)) Zn)) Zn)) (Zac 4) (ZT (Zbg (ZI (Zv Zfn (Zf (Zd Zs (Zd Zs (Za 0) (Zk 1)) (Za 4)) (Zf (Zd Zs (Zd Zs (Za 1) (Zk 1)) (Za 4)) Zn))))) (ZF (ZaO false)) ZX)) (ZF (ZaO true)))))
noncomputable def Zel : List T → Option T := Z0 2 Zhx
theorem ZnG : SimF false Zhw Zel := Zab (show S [] [] [] false Zhv Zhx from (ZC (Z7 (ZaM (ZL (ZD Zb3 (Zc 0) (Zak))) (ZaM (ZL (ZD Zb3 (Zc 1) (Zak))) Zb7)) (ZK (O' := []) (ZD Zb3 (Zc 0) (Zak)) (by decide)) Z6) (ZC (Zbv (Gs.range (Zh (ZaG Za6 (Zh (Zy Zx (Zc 0) (Zm _)) Zp)) Zp)) (PutOk.one (by decide)) (by decide) (by decide) (Zbv (Gs.range (Zh (ZaG Za6 (Zh (Zy Zx (Zc 0) (Zm _)) Zp)) Zp)) (PutOk.one (by decide)) (by decide) (by decide) (Z7 (ZbK (ZL (ZM Zn2 (Zh (Zy Zx (Zy Zx (Zy Zx (Zc 0) (Zm _)) (Zc 2)) (Zc 3)) (Zh (Zy Zx (Zy Zx (Zy Zx (Zc 1) (Zm _)) (Zc 2)) (Zc 3)) Zp))))) (ZK (O' := []) (E.bool _) (by decide)) Z6))) (ZC (Zbv (Gs.range (Zh (ZaG Za6 (Zh (Zy Zx (Zc 0) (Zm _)) Zp)) Zp)) (PutOk.one (by decide)) (by decide) (by decide) (Z7 (ZbK (ZL (ZM Znq (Zh (Zy Zx (Zy Zx (Zc 0) (Zm _)) (Zc 4)) (Zh (Zy Zx (Zy Zx (Zc 1) (Zm _)) (Zc 4)) Zp))))) (ZK (O' := []) (E.bool _) (by decide)) Z6)) (ZK (O' := []) (E.bool _) (by decide))))))
noncomputable def Zi1 : Sm := Zt (ZN 2 (Zw Zdf (Zg (Zb 0) Zo))) (Zt (ZN 3 (Zw Zdf (Zg (Zb 1) Zo))) (Zt (ZcO (ZJ (Ze oNe (Zb 3) (Zl 0))) (Zt (ZN 4 (Ze oMod (Zb 2) (Zb 3))) (Zt (ZN 2 (Zb 3)) (ZN 3 (Zb 4)))) 1000000) (ZE (Zb 2))))
noncomputable def ZfR : List V → Hp → Option (V × Hp) := ZY 2 Zi1
noncomputable def Zi2 : PS := (Zu (ZP 2 (Zv Zdj (Zf (Za 0) Zn))) (Zu (ZP 3 (Zv Zdj (Zf (Za 1) Zn))) (Zu (Zc7 (ZI (Zd qNe (Za 3) (Zk 0))) (Zu (ZP 4 (Zd ZaI (Za 2) (Za 3))) (Zu (ZP 2 (Za 3)) (ZP 3 (Za 4)))) 1000000) (ZF (Za 2)))))
noncomputable def ZeA : List T → Option T := Z0 2 Zi2
theorem Zlb : SimF false ZfR ZeA := Zab (show S [] [] [] false Zi1 Zi2 from (ZC (Z2 (O' := []) (ZaG Ze3 (Zh (Zc 0) Zp)) (by decide) (by decide) (by decide)) (ZC (Z2 (O' := []) (ZaG Ze3 (Zh (Zc 1) Zp)) (by decide) (by decide) (by decide)) (ZC (ZjL (ZL (ZD Zb2 (Zc 3) (Zm _))) (ZC (Z2 (O' := []) (ZD ZaX (Zc 2) (Zc 3)) (by decide) (by decide) (by decide)) (ZC (Z2 (O' := []) (Zc 3) (by decide) (by decide) (by decide)) (Z2 (O' := []) (Zc 4) (by decide) (by decide) (by decide)))) 1000000) (ZK (O' := []) (Zc 2) (by decide))))))
noncomputable def Zkc : Sm := Zt (ZQ (ZJ (Ze oLt (Zb 0) (Zl 0))) (PM.sNo) ZW) (Zt (ZQ (ZJ (Ze oEq (Zb 0) (Zl 0))) (ZE (ZaH (Zg (Zl 0) (Zg (Zb 1) Zo)))) ZW) (ZE (ZaH (Zg (Zb 0) (Zg (Ze oMod (Zb 1) (Zb 0)) Zo)))))
noncomputable def ZeS : List V → Hp → Option (V × Hp) := ZY 2 Zkc
noncomputable def Zkd : PS := (Zu (ZT (ZI (Zd qLt (Za 0) (Zk 0))) (qNo) ZX) (Zu (ZT (ZI (Zd qEq (Za 0) (Zk 0))) (ZF (ZaU (Zf (Zk 0) (Zf (Za 1) Zn)))) ZX) (ZF (ZaU (Zf (Za 0) (Zf (Zd ZaI (Za 1) (Za 0)) Zn))))))
noncomputable def Zd8 : List T → Option T := Z0 2 Zkd
theorem Zke : SimF false ZeS Zd8 := Zab (show S [] [] [] false Zkc Zkd from (ZC (Z7 (ZL (ZD Zdh (Zc 0) (Zm _))) (Zss (O' := [])) Z6) (ZC (Z7 (ZL (ZD ZaA (Zc 0) (Zm _))) (ZK (O' := []) (E.tup (Zh (Zm _) (Zh (Zc 1) Zp)) (by decide)) (by decide)) Z6) (ZK (O' := []) (E.tup (Zh (Zc 0) (Zh (ZD ZaX (Zc 1) (Zc 0)) Zp)) (by decide)) (by decide)))))
noncomputable def Zi3 : Sm := Zt (ZN 2 (Ze oMod (Zb 0) (Zb 1))) (Zt (ZN 3 (Zb 1)) (Zt (ZN 4 (Zl 1)) (Zt (ZN 5 (Zl 0)) (Zt (ZcO (ZJ (Ze oNe (Zb 3) (Zl 0))) (Zt (ZN 6 (Ze oDiv (Zb 2) (Zb 3))) (Zt (ZN 7 (Ze Zbu (Zb 2) (Ze ZaR (Zb 6) (Zb 3)))) (Zt (ZN 8 (Ze Zbu (Zb 4) (Ze ZaR (Zb 6) (Zb 5)))) (Zt (ZN 2 (Zb 3)) (Zt (ZN 4 (Zb 5)) (Zt (ZN 3 (Zb 7)) (ZN 5 (Zb 8)))))))) 1000000) (ZE (Ze oMod (Zb 4) (Zb 1)))))))
noncomputable def Zi4 : List V → Hp → Option (V × Hp) := ZY 2 Zi3
noncomputable def Zi5 : PS := (Zu (ZP 2 (Zd ZaI (Za 0) (Za 1))) (Zu (ZP 3 (Za 1)) (Zu (ZP 4 (Zk 1)) (Zu (ZP 5 (Zk 0)) (Zu (Zc7 (ZI (Zd qNe (Za 3) (Zk 0))) (Zu (ZP 6 (Zd ZcG (Za 2) (Za 3))) (Zu (ZP 7 (Zd Za3 (Za 2) (Zd ZaE (Za 6) (Za 3)))) (Zu (ZP 8 (Zd Za3 (Za 4) (Zd ZaE (Za 6) (Za 5)))) (Zu (ZP 2 (Za 3)) (Zu (ZP 4 (Za 5)) (Zu (ZP 3 (Za 7)) (ZP 5 (Za 8)))))))) 1000000) (ZF (Zd ZaI (Za 4) (Za 1))))))))
noncomputable def ZfS : List T → Option T := Z0 2 Zi5
theorem Zo8 : SimF false Zi4 ZfS := Zab (show S [] [] [] false Zi3 Zi5 from (ZC (Z2 (O' := []) (ZD ZaX (Zc 0) (Zc 1)) (by decide) (by decide) (by decide)) (ZC (Z2 (O' := []) (Zc 1) (by decide) (by decide) (by decide)) (ZC (Z2 (O' := []) (Zm _) (by decide) (by decide) (by decide)) (ZC (Z2 (O' := []) (Zm _) (by decide) (by decide) (by decide)) (ZC (ZjL (ZL (ZD Zb2 (Zc 3) (Zm _))) (ZC (Z2 (O' := []) (ZD Zec (Zc 2) (Zc 3)) (by decide) (by decide) (by decide)) (ZC (Z2 (O' := []) (ZD ZbC (Zc 2) (Z8 Zbb (Zc 6) (Zc 3))) (by decide) (by decide) (by decide)) (ZC (Z2 (O' := []) (ZD ZbC (Zc 4) (Z8 Zbb (Zc 6) (Zc 5))) (by decide) (by decide) (by decide)) (ZC (Z2 (O' := []) (Zc 3) (by decide) (by decide) (by decide)) (ZC (Z2 (O' := []) (Zc 5) (by decide) (by decide) (by decide)) (ZC (Z2 (O' := []) (Zc 7) (by decide) (by decide) (by decide)) (Z2 (O' := []) (Zc 8) (by decide) (by decide) (by decide)))))))) 1000000) (ZK (O' := []) (ZD ZaX (Zc 4) (Zc 1)) (by decide))))))))
noncomputable def ZiC : Sm := Zt (ZQ (ZJ (Ze oEq (Ze Zr (Zb 0) (Zl 0)) (Zl 0))) (ZE (eIf (ZJ (Zw ZfG (Zg (Zb 1) (Zg (Ze Zr (Zb 0) (Zl 1)) Zo)))) (Zb 0) (Z3))) ZW) (Zt (ZQ (ZJ (Ze oEq (Ze Zr (Zb 1) (Zl 0)) (Zl 0))) (ZE (eIf (ZJ (Zw ZfG (Zg (Zb 0) (Zg (Ze Zr (Zb 1) (Zl 1)) Zo)))) (Zb 1) (Z3))) ZW) (Zt (ZN 2 (Zw ZfR (Zg (Ze Zr (Zb 0) (Zl 0)) (Zg (Ze Zr (Zb 1) (Zl 0)) Zo)))) (Zt (ZN 3 (Ze Zbu (Ze Zr (Zb 1) (Zl 1)) (Ze Zr (Zb 0) (Zl 1)))) (Zt (ZQ (ZJ (Ze oNe (Ze oMod (Zb 3) (Zb 2)) (Zl 0))) (ZE (Z3)) ZW) (Zt (ZN 4 (Ze oDiv (Ze Zr (Zb 1) (Zl 0)) (Zb 2))) (Zt (ZN 5 (Ze ZaR (Ze oDiv (Zb 3) (Zb 2)) (Zw Zi4 (Zg (Ze oDiv (Ze Zr (Zb 0) (Zl 0)) (Zb 2)) (Zg (Zb 4) Zo))))) (ZE (Zw ZeS (Zg (Ze ZaR (Ze Zr (Zb 0) (Zl 0)) (Zb 4)) (Zg (Ze Zag (Ze Zr (Zb 0) (Zl 1)) (Ze ZaR (Ze Zr (Zb 0) (Zl 0)) (Zb 5))) Zo))))))))))
noncomputable def ZiD : List V → Hp → Option (V × Hp) := ZY 2 ZiC
noncomputable def ZiE : PS := (Zu (ZT (ZI (Zd qEq (Zd Zs (Za 0) (Zk 0)) (Zk 0))) (ZF (pIf (ZI (Zv Zeu (Zf (Za 1) (Zf (Zd Zs (Za 0) (Zk 1)) Zn)))) (Za 0) (Zaa))) ZX) (Zu (ZT (ZI (Zd qEq (Zd Zs (Za 1) (Zk 0)) (Zk 0))) (ZF (pIf (ZI (Zv Zeu (Zf (Za 0) (Zf (Zd Zs (Za 1) (Zk 1)) Zn)))) (Za 1) (Zaa))) ZX) (Zu (ZP 2 (Zv ZeA (Zf (Zd Zs (Za 0) (Zk 0)) (Zf (Zd Zs (Za 1) (Zk 0)) Zn)))) (Zu (ZP 3 (Zd Za3 (Zd Zs (Za 1) (Zk 1)) (Zd Zs (Za 0) (Zk 1)))) (Zu (ZT (ZI (Zd qNe (Zd ZaI (Za 3) (Za 2)) (Zk 0))) (ZF (Zaa)) ZX) (Zu (ZP 4 (Zd ZcG (Zd Zs (Za 1) (Zk 0)) (Za 2))) (Zu (ZP 5 (Zd ZaE (Zd ZcG (Za 3) (Za 2)) (Zv ZfS (Zf (Zd ZcG (Zd Zs (Za 0) (Zk 0)) (Za 2)) (Zf (Za 4) Zn))))) (ZF (Zv Zd8 (Zf (Zd ZaE (Zd Zs (Za 0) (Zk 0)) (Za 4)) (Zf (Zd Zad (Zd Zs (Za 0) (Zk 1)) (Zd ZaE (Zd Zs (Za 0) (Zk 0)) (Za 5))) Zn)))))))))))
noncomputable def ZfH : List T → Option T := Z0 2 ZiE
theorem Zot : SimF false ZiD ZfH := Zab (show S [] [] [] false ZiC ZiE from (ZC (Z7 (ZL (ZD ZaA (Zy Zx (Zc 0) (Zm _)) (Zm _))) (ZK (O' := []) (Ze0 (ZL (ZM ZkU (Zh (Zc 1) (Zh (Zy Zx (Zc 0) (Zm _)) Zp)))) (E.sh (Zc 0)) (E.sh (Zak))) (by decide)) Z6) (ZC (Z7 (ZL (ZD ZaA (Zy Zx (Zc 1) (Zm _)) (Zm _))) (ZK (O' := []) (Ze0 (ZL (ZM ZkU (Zh (Zc 0) (Zh (Zy Zx (Zc 1) (Zm _)) Zp)))) (E.sh (Zc 1)) (E.sh (Zak))) (by decide)) Z6) (ZC (Z2 (O' := []) (ZM Zlb (Zh (Zy Zx (Zc 0) (Zm _)) (Zh (Zy Zx (Zc 1) (Zm _)) Zp))) (by decide) (by decide) (by decide)) (ZC (Z2 (O' := []) (ZD ZbC (Zy Zx (Zc 1) (Zm _)) (Zy Zx (Zc 0) (Zm _))) (by decide) (by decide) (by decide)) (ZC (Z7 (ZL (ZD Zb2 (ZD ZaX (Zc 3) (Zc 2)) (Zm _))) (ZK (O' := []) (Zak) (by decide)) Z6) (ZC (Z2 (O' := []) (ZD Zec (Zy Zx (Zc 1) (Zm _)) (Zc 2)) (by decide) (by decide) (by decide)) (ZC (Z2 (O' := []) (Z8 Zbb (ZD Zec (Zc 3) (Zc 2)) (ZM Zo8 (Zh (ZD Zec (Zy Zx (Zc 0) (Zm _)) (Zc 2)) (Zh (Zc 4) Zp)))) (by decide) (by decide) (by decide)) (ZK (O' := []) (ZM Zke (Zh (Z8 Zbb (Zy Zx (Zc 0) (Zm _)) (Zc 4)) (Zh (Z8 Zan (Zy Zx (Zc 0) (Zm _)) (Z8 Zbb (Zy Zx (Zc 0) (Zm _)) (Zc 5))) Zp))) (by decide))))))))))
noncomputable def ZhY : Sm := ZE (Zw ZeS (Zg (Zw ZfR (Zg (Ze Zr (Zb 0) (Zl 0)) (Zg (Ze Zr (Zb 1) (Zl 0)) Zo))) (Zg (Ze Zag (Ze Zr (Zb 0) (Zl 1)) (Ze Zr (Zb 1) (Zl 1))) Zo)))
noncomputable def Zep : List V → Hp → Option (V × Hp) := ZY 2 ZhY
noncomputable def ZhZ : PS := (ZF (Zv Zd8 (Zf (Zv ZeA (Zf (Zd Zs (Za 0) (Zk 0)) (Zf (Zd Zs (Za 1) (Zk 0)) Zn))) (Zf (Zd Zad (Zd Zs (Za 0) (Zk 1)) (Zd Zs (Za 1) (Zk 1))) Zn))))
noncomputable def ZdO : List T → Option T := Z0 2 ZhZ
theorem Zh0 : SimF false Zep ZdO := Zab (show S [] [] [] false ZhY ZhZ from (ZK (O' := []) (ZM Zke (Zh (ZM Zlb (Zh (Zy Zx (Zc 0) (Zm _)) (Zh (Zy Zx (Zc 1) (Zm _)) Zp))) (Zh (Z8 Zan (Zy Zx (Zc 0) (Zm _)) (Zy Zx (Zc 1) (Zm _))) Zp))) (by decide)))
noncomputable def Zhy : Sm := ZE (Zw ZeS (Zg (Ze ZaR (Ze Zr (Zb 0) (Zl 0)) (Zw Zdf (Zg (Zb 1) Zo))) (Zg (Ze ZaR (Ze Zr (Zb 0) (Zl 1)) (Zb 1)) Zo)))
noncomputable def Zfr : List V → Hp → Option (V × Hp) := ZY 2 Zhy
noncomputable def Zhz : PS := (ZF (Zv Zd8 (Zf (Zd ZaE (Zd Zs (Za 0) (Zk 0)) (Zv Zdj (Zf (Za 1) Zn))) (Zf (Zd ZaE (Zd Zs (Za 0) (Zk 1)) (Za 1)) Zn))))
noncomputable def Zem : List T → Option T := Z0 2 Zhz
theorem ZkE : SimF false Zfr Zem := Zab (show S [] [] [] false Zhy Zhz from (ZK (O' := []) (ZM Zke (Zh (Z8 Zbb (Zy Zx (Zc 0) (Zm _)) (ZaG Ze3 (Zh (Zc 1) Zp))) (Zh (Z8 Zbb (Zy Zx (Zc 0) (Zm _)) (Zc 1)) Zp))) (by decide)))
noncomputable def ZhA : Sm := Zt (ZQ (ZJ (Ze oEq (Ze Zr (Zb 0) (Zl 0)) (Zl 0))) (ZE (eIf (ZJ (Ze oLe (Ze Zr (Zb 0) (Zl 1)) (Zb 1))) (Ze Zr (Zb 0) (Zl 1)) (Z3))) ZW) (ZE (Ze Zbu (Zb 1) (Ze oMod (Ze Zbu (Zb 1) (Ze Zr (Zb 0) (Zl 1))) (Ze Zr (Zb 0) (Zl 0)))))
noncomputable def ZhB : List V → Hp → Option (V × Hp) := ZY 2 ZhA
noncomputable def ZhC : PS := (Zu (ZT (ZI (Zd qEq (Zd Zs (Za 0) (Zk 0)) (Zk 0))) (ZF (pIf (ZI (Zd qLe (Zd Zs (Za 0) (Zk 1)) (Za 1))) (Zd Zs (Za 0) (Zk 1)) (Zaa))) ZX) (ZF (Zd Za3 (Za 1) (Zd ZaI (Zd Za3 (Za 1) (Zd Zs (Za 0) (Zk 1))) (Zd Zs (Za 0) (Zk 0))))))
noncomputable def Zfs : List T → Option T := Z0 2 ZhC
theorem ZnH : SimF false ZhB Zfs := Zab (show S [] [] [] false ZhA ZhC from (ZC (Z7 (ZL (ZD ZaA (Zy Zx (Zc 0) (Zm _)) (Zm _))) (ZK (O' := []) (Ze0 (ZL (ZD ZgL (Zy Zx (Zc 0) (Zm _)) (Zc 1))) (E.sh (Zy Zx (Zc 0) (Zm _))) (E.sh (Zak))) (by decide)) Z6) (ZK (O' := []) (ZD ZbC (Zc 1) (ZD ZaX (ZD ZbC (Zc 1) (Zy Zx (Zc 0) (Zm _))) (Zy Zx (Zc 0) (Zm _)))) (by decide))))
noncomputable def Zjq : Sm := ZE (eIf (ZJ (Zw ZhT (Zg (Zb 0) (Zg (Zb 1) Zo)))) (Zb 0) (Zb 1))
noncomputable def Zjr : List V → Hp → Option (V × Hp) := ZY 2 Zjq
noncomputable def Zjs : PS := (ZF (pIf (ZI (Zv Zfx (Zf (Za 0) (Zf (Za 1) Zn)))) (Za 0) (Za 1)))
noncomputable def Zf1 : List T → Option T := Z0 2 Zjs
theorem ZpT : SimF false Zjr Zf1 := Zab (show S [] [] [] false Zjq Zjs from (ZK (O' := []) (Ze0 (ZL (ZM Zn1 (Zh (Zc 0) (Zh (Zc 1) Zp)))) (E.sh (Zc 0)) (E.sh (Zc 1))) (by decide)))
noncomputable def ZiF : Sm := Zt (ZQ (tOr (ZJ (Ze oIs (Zb 0) (Z3))) (tOr (ZJ (Ze oIs (Zb 1) (Z3))) ZbH)) (ZE (Z3)) ZW) (ZE (Ze Zag (Zb 0) (Zb 1)))
noncomputable def Zdn : List V → Hp → Option (V × Hp) := ZY 2 ZiF
noncomputable def ZiG : PS := (Zu (ZT (bOr (ZI (Zd qIs (Za 0) (Zaa))) (bOr (ZI (Zd qIs (Za 1) (Zaa))) ZbJ)) (ZF (Zaa)) ZX) (ZF (Zd Zad (Za 0) (Za 1))))
noncomputable def ZcX : List T → Option T := Z0 2 ZiG
theorem Zev : SimF false Zdn ZcX := Zab (show S [] [] [] false ZiF ZiG from (ZC (Z7 (ZaM (ZL (ZD Zb3 (Zc 0) (Zak))) (ZaM (ZL (ZD Zb3 (Zc 1) (Zak))) Zb7)) (ZK (O' := []) (Zak) (by decide)) Z6) (ZK (O' := []) (Z8 Zan (Zc 0) (Zc 1)) (by decide))))
noncomputable def ZgO : Sm := ZE (Zao (ZcT (Zb 0) (Zb 2)) (ZbO 100 101) Zaj (Zw Zjr (Zg (Zb 100) (Zg (Zw Zdn (Zg (Zb 1) (Zg (Zb 101) Zo))) Zo))))
noncomputable def ZgP : List V → Hp → Option (V × Hp) := ZY 3 ZgO
noncomputable def ZgQ : PS := (ZF (Zah (ZcU (Za 0) (Za 2)) (Zcb 100 101) Zae (Zcm (Zv Zf1 (Zf (Za 100) (Zf (Zv ZcX (Zf (Za 1) (Zf (Za 101) Zn))) Zn))))))
noncomputable def Zff : List T → Option T := Z0 3 ZgQ
theorem Zm5 : SimF true ZgP Zff := Zab (show S [] [] [] true ZgO ZgQ from (ZcP (O' := []) (ZeE (Gs.zip (Zc 0) (Zc 2)) (PutOk.two (by decide) (by decide) (by decide)) (by decide) Zau (E.flat (ZM ZpT (Zh (Zc 100) (Zh (ZM Zev (Zh (Zc 1) (Zh (Zc 101) Zp))) Zp))))) (by decide) (by decide)))
noncomputable def Zh1 : Sm := ZE (Zao (Zbe (Zb 0)) (Zaf 100) Zaj (Zw ZgP (Zg (Zb 100) (Zg (Ze Zr (Zb 100) (Zb 1)) (Zg (Ze Zr (Zb 0) (Zb 1)) Zo)))))
noncomputable def Zh2 : List V → Hp → Option (V × Hp) := ZY 2 Zh1
noncomputable def Zh3 : PS := (ZF (Zah (ZaY (Za 0)) (Zac 100) Zae (Zv Zff (Zf (Za 100) (Zf (Zd Zs (Za 100) (Za 1)) (Zf (Zd Zs (Za 0) (Za 1)) Zn))))))
noncomputable def Zfz : List T → Option T := Z0 2 Zh3
theorem ZkJ : SimF true Zh2 Zfz := Zab (show S [] [] [] true Zh1 Zh3 from (ZcP (O' := []) (ZeE (Gs.seq (Zc 0)) (PutOk.one (by decide)) (by decide) Zau (Zeb Zm5 (Zh (Zc 100) (Zh (Zy Zx (Zc 100) (Zc 1)) (Zh (Zy Zx (Zc 0) (Zc 1)) Zp))))) (by decide) (by decide)))
noncomputable def Zg0 : Sm := ZE (Zw Ze9 (Zg (Zao (ZaK (Zg (Zw ZaN (Zg (Zb 0) Zo)) Zo)) (Zaf 100) Zaj (Ze oLt (Ze Zr (Ze Zr (Zb 0) (Zb 100)) (Zb 100)) (Zl 0))) Zo))
noncomputable def Zg1 : List V → Hp → Option (V × Hp) := ZY 1 Zg0
noncomputable def Zg2 : PS := (ZF (Zv Zfb (Zf (Zah (Zax (Zf (Zv ZaB (Zf (Za 0) Zn)) Zn)) (Zac 100) Zae (Zd qLt (Zd Zs (Zd Zs (Za 0) (Za 100)) (Za 100)) (Zk 0))) Zn)))
noncomputable def Zfj : List T → Option T := Z0 1 Zg2
theorem Zkx : SimF false Zg1 Zfj := Zab (show S [] [] [] false Zg0 Zg2 from (ZK (O' := []) (ZaG Zr4 (Zh (Za5 (Gs.range (Zh (ZaG Za6 (Zh (Zc 0) Zp)) Zp)) (PutOk.one (by decide)) (by decide) Zau (ZD Zdh (Zy Zx (Zy Zx (Zc 0) (Zc 100)) (Zc 100)) (Zm _))) Zp)) (by decide)))
noncomputable def Zjt : Sm := Zt (ZN 1 (Zb 0)) (Zt (ZaQ (ZaK (Zg (Zw ZaN (Zg (Zb 0) Zo)) Zo)) (Zaf 2) (Zt (ZN 1 (Zw Zh2 (Zg (Zb 1) (Zg (Zb 2) Zo)))) (ZQ (ZJ (Zw Zg1 (Zg (Zb 1) Zo))) (ZE (Z3)) ZW))) (ZE (Zb 1)))
noncomputable def ZdY : List V → Hp → Option (V × Hp) := ZY 1 Zjt
noncomputable def Zju : PS := (Zu (ZP 1 (Za 0)) (Zu (ZgC (Zax (Zf (Zv ZaB (Zf (Za 0) Zn)) Zn)) (Zac 2) (Zu (ZP 1 (Zv Zfz (Zf (Za 1) (Zf (Za 2) Zn)))) (ZT (ZI (Zv Zfj (Zf (Za 1) Zn))) (ZF (Zaa)) ZX))) (ZF (Za 1))))
noncomputable def ZeB : List T → Option T := Z0 1 Zju
theorem ZpU : SimF true ZdY ZeB := Zab (show S [] [1] [] true Zjt Zju from (ZC (Z2 (O' := []) (Zc 0) (by decide) (by decide) (by decide)) (ZC (ZrO (Gs.range (Zh (ZaG Za6 (Zh (Zc 0) Zp)) Zp)) (PutOk.one (by decide)) (PutOk.one (by decide)) (by decide) (by decide) (by decide) (ZC (Zc6 (O' := [1]) (Zeb ZkJ (Zh (Zc 1) (Zh (Zc 2) Zp))) (by decide)) (Z7 (ZL (ZM Zkx (Zh (Zc 1) Zp))) (ZcP (O' := [1]) (Zak) (by decide) (by decide)) Z6)) (ZC (Zc6 (O' := [1]) (Zb0 (O' := []) (Zeb ZkJ (Zh (Zc 1) (Zh (Zc 2) Zp))) (by decide)) (by decide)) (Z7 (ZL (ZM Zkx (Zh (Zc 1) Zp))) (ZcP (O' := [1]) (Zak) (by decide) (by decide)) Z6))) (ZcP (O' := [1]) (E.own (by decide)) (by decide) (by decide)))))
noncomputable def Zh4 : Sm := ZE (ZcS (eIs "int" (Zb 0)) (ZgG (eIs "bool" (Zb 0))))
noncomputable def Zeq : List V → Hp → Option (V × Hp) := ZY 1 Zh4
noncomputable def Zh5 : PS := (ZF ((ZcF (pIs "int" (Za 0)) (ZgJ (pIs "bool" (Za 0))))))
noncomputable def ZdP : List T → Option T := Z0 1 Zh5
theorem Zh6 : SimF false Zeq ZdP := Zab (show S [] [] [] false Zh4 Zh5 from (ZK (O' := []) ((Ze1 (E.sh (ZdG (Zc 0))) (E.sh (Zr2 (ZdG (Zc 0)))))) (by decide)))
noncomputable def ZiH : Sm := Zt (ZQ (tOr (Zbt (ZJ (eIs "list" (Zb 0)))) (tOr (ZJ (Ze oNe (Zw ZaN (Zg (Zb 0) Zo)) (Zb 1))) ZbH)) (ZE (ZaL false)) ZW) (Zt (ZaQ (ZaK (Zg (Zb 1) Zo)) (Zaf 2) (Zt (ZQ (tOr (Zbt (ZJ (eIs "list" (Ze Zr (Zb 0) (Zb 2))))) (tOr (ZJ (Ze oNe (Zw ZaN (Zg (Ze Zr (Zb 0) (Zb 2)) Zo)) (Zb 1))) ZbH)) (ZE (ZaL false)) ZW) (Zt (ZaQ (Zbe (Ze Zr (Zb 0) (Zb 2))) (Zaf 3) (ZQ (Zbn (ZJ (Ze Zcz (Zb 3) (Z3))) (Zbn (Zbt (ZJ (Zw Zeq (Zg (Zb 3) Zo)))) Zaj)) (ZE (ZaL false)) ZW)) (ZQ (ZJ (Ze oNe (Ze Zr (Ze Zr (Zb 0) (Zb 2)) (Zb 2)) (Zl 0))) (ZE (ZaL false)) ZW)))) (ZE (ZaL true)))
noncomputable def ZiI : List V → Hp → Option (V × Hp) := ZY 2 ZiH
noncomputable def ZiJ : PS := (Zu (ZT (bOr (Zbg (ZI (pIs "list" (Za 0)))) (bOr (ZI (Zd qNe (Zv ZaB (Zf (Za 0) Zn)) (Za 1))) ZbJ)) (ZF (ZaO false)) ZX) (Zu (ZaV (Zax (Zf (Za 1) Zn)) (Zac 2) (Zu (ZT (bOr (Zbg (ZI (pIs "list" (Zd Zs (Za 0) (Za 2))))) (bOr (ZI (Zd qNe (Zv ZaB (Zf (Zd Zs (Za 0) (Za 2)) Zn)) (Za 1))) ZbJ)) (ZF (ZaO false)) ZX) (Zu (ZaV (ZaY (Zd Zs (Za 0) (Za 2))) (Zac 3) (ZT (Zbp (ZI (Zd Zcj (Za 3) (Zaa))) (Zbp (Zbg (ZI (Zv ZdP (Zf (Za 3) Zn)))) Zae)) (ZF (ZaO false)) ZX)) (ZT (ZI (Zd qNe (Zd Zs (Zd Zs (Za 0) (Za 2)) (Za 2)) (Zk 0))) (ZF (ZaO false)) ZX)))) (ZF (ZaO true))))
noncomputable def ZfI : List T → Option T := Z0 2 ZiJ
theorem Zou : SimF false ZiI ZfI := Zab (show S [] [] [] false ZiH ZiJ from (ZC (Z7 (ZaM (ZbK (ZL (ZdG (Zc 0)))) (ZaM (ZL (ZD Zb2 (ZaG Za6 (Zh (Zc 0) Zp)) (Zc 1))) Zb7)) (ZK (O' := []) (E.bool _) (by decide)) Z6) (ZC (Zbv (Gs.range (Zh (Zc 1) Zp)) (PutOk.one (by decide)) (by decide) (by decide) (ZC (Z7 (ZaM (ZbK (ZL (ZdG (Zy Zx (Zc 0) (Zc 2))))) (ZaM (ZL (ZD Zb2 (ZaG Za6 (Zh (Zy Zx (Zc 0) (Zc 2)) Zp)) (Zc 1))) Zb7)) (ZK (O' := []) (E.bool _) (by decide)) Z6) (ZC (Zbv (Gs.seq (Zy Zx (Zc 0) (Zc 2))) (PutOk.one (by decide)) (by decide) (by decide) (Z7 (ZbL (ZL (ZD Zc3 (Zc 3) (Zak))) (ZbL (ZbK (ZL (ZM Zh6 (Zh (Zc 3) Zp)))) Zau)) (ZK (O' := []) (E.bool _) (by decide)) Z6)) (Z7 (ZL (ZD Zb2 (Zy Zx (Zy Zx (Zc 0) (Zc 2)) (Zc 2)) (Zm _))) (ZK (O' := []) (E.bool _) (by decide)) Z6)))) (ZK (O' := []) (E.bool _) (by decide)))))
noncomputable def Zg3 : Sm := ZE (ZaH (Zg (Zw Zdn (Zg (Ze Zr (Zb 0) (Zl 0)) (Zg (Ze Zr (Zb 1) (Zl 0)) Zo))) (Zg (Zw Zdn (Zg (Ze Zr (Zb 0) (Zl 1)) (Zg (Ze Zr (Zb 1) (Zl 1)) Zo))) Zo)))
noncomputable def Zg4 : List V → Hp → Option (V × Hp) := ZY 2 Zg3
noncomputable def Zg5 : PS := (ZF (ZaU (Zf (Zv ZcX (Zf (Zd Zs (Za 0) (Zk 0)) (Zf (Zd Zs (Za 1) (Zk 0)) Zn))) (Zf (Zv ZcX (Zf (Zd Zs (Za 0) (Zk 1)) (Zf (Zd Zs (Za 1) (Zk 1)) Zn))) Zn))))
noncomputable def Zfk : List T → Option T := Z0 2 Zg5
theorem Zng : SimF false Zg4 Zfk := Zab (show S [] [] [] false Zg3 Zg5 from (ZK (O' := []) (E.tup (Zh (ZM Zev (Zh (Zy Zx (Zc 0) (Zm _)) (Zh (Zy Zx (Zc 1) (Zm _)) Zp))) (Zh (ZM Zev (Zh (Zy Zx (Zc 0) (Zm _)) (Zh (Zy Zx (Zc 1) (Zm _)) Zp))) Zp)) (by decide)) (by decide)))
noncomputable def Zh7 : Sm := Zt (ZQ (ZJ (Ze oIs (Zb 0) (Z3))) (ZE (Z3)) ZW) (ZE (Ze ZaR (Zb 0) (Zb 1)))
noncomputable def Zer : List V → Hp → Option (V × Hp) := ZY 2 Zh7
noncomputable def Zh8 : PS := (Zu (ZT (ZI (Zd qIs (Za 0) (Zaa))) (ZF (Zaa)) ZX) (ZF (Zd ZaE (Za 0) (Za 1))))
noncomputable def ZdQ : List T → Option T := Z0 2 Zh8
theorem Zh9 : SimF false Zer ZdQ := Zab (show S [] [] [] false Zh7 Zh8 from (ZC (Z7 (ZL (ZD Zb3 (Zc 0) (Zak))) (ZK (O' := []) (Zak) (by decide)) Z6) (ZK (O' := []) (Z8 Zbb (Zc 0) (Zc 1)) (by decide))))
noncomputable def ZgR : Sm := Zt (ZQ (ZJ (Ze oEq (Zb 1) (Zl 0))) (ZE (ZaH (Zg (Zl 0) (Zg (Zl 0) Zo)))) ZW) (Zt (ZN 2 (Zw Zer (Zg (Ze Zr (Zb 0) (Zl 0)) (Zg (Zb 1) Zo)))) (Zt (ZN 3 (Zw Zer (Zg (Ze Zr (Zb 0) (Zl 1)) (Zg (Zb 1) Zo)))) (Zt (ZQ (ZJ (Ze oLt (Zb 1) (Zl 0))) (ZE (ZaH (Zg (Zb 3) (Zg (Zb 2) Zo)))) ZW) (ZE (ZaH (Zg (Zb 2) (Zg (Zb 3) Zo)))))))
noncomputable def ZgS : List V → Hp → Option (V × Hp) := ZY 2 ZgR
noncomputable def ZgT : PS := (Zu (ZT (ZI (Zd qEq (Za 1) (Zk 0))) (ZF (ZaU (Zf (Zk 0) (Zf (Zk 0) Zn)))) ZX) (Zu (ZP 2 (Zv ZdQ (Zf (Zd Zs (Za 0) (Zk 0)) (Zf (Za 1) Zn)))) (Zu (ZP 3 (Zv ZdQ (Zf (Zd Zs (Za 0) (Zk 1)) (Zf (Za 1) Zn)))) (Zu (ZT (ZI (Zd qLt (Za 1) (Zk 0))) (ZF (ZaU (Zf (Za 3) (Zf (Za 2) Zn)))) ZX) (ZF (ZaU (Zf (Za 2) (Zf (Za 3) Zn))))))))
noncomputable def Zfg : List T → Option T := Z0 2 ZgT
theorem Zm6 : SimF false ZgS Zfg := Zab (show S [] [] [] false ZgR ZgT from (ZC (Z7 (ZL (ZD ZaA (Zc 1) (Zm _))) (ZK (O' := []) (E.tup (Zh (Zm _) (Zh (Zm _) Zp)) (by decide)) (by decide)) Z6) (ZC (Z2 (O' := []) (ZM Zh9 (Zh (Zy Zx (Zc 0) (Zm _)) (Zh (Zc 1) Zp))) (by decide) (by decide) (by decide)) (ZC (Z2 (O' := []) (ZM Zh9 (Zh (Zy Zx (Zc 0) (Zm _)) (Zh (Zc 1) Zp))) (by decide) (by decide) (by decide)) (ZC (Z7 (ZL (ZD Zdh (Zc 1) (Zm _))) (ZK (O' := []) (E.tup (Zh (Zc 3) (Zh (Zc 2) Zp)) (by decide)) (by decide)) Z6) (ZK (O' := []) (E.tup (Zh (Zc 2) (Zh (Zc 3) Zp)) (by decide)) (by decide)))))))
noncomputable def Zhh : Sm := Zt (ZN 2 (ZaH (Zg (Ze Zr (Zb 0) (Zl 0)) (Zg (Ze Zr (Zb 0) (Zl 0)) Zo)))) (Zt (ZaQ (ZcT (Zdc (Zb 0) 1) (Zb 1)) (ZbO 3 4) (ZN 2 (Zw Zg4 (Zg (Zb 2) (Zg (Zw ZgS (Zg (Zb 4) (Zg (Zb 3) Zo))) Zo))))) (ZE (Zb 2)))
noncomputable def Zhi : List V → Hp → Option (V × Hp) := ZY 2 Zhh
noncomputable def Zhj : PS := (Zu (ZP 2 (ZaU (Zf (Zd Zs (Za 0) (Zk 0)) (Zf (Zd Zs (Za 0) (Zk 0)) Zn)))) (Zu (ZaV (ZcU (Zdy (Za 0) 1) (Za 1)) (Zcb 3 4) (ZP 2 (Zv Zfk (Zf (Za 2) (Zf (Zv Zfg (Zf (Za 4) (Zf (Za 3) Zn))) Zn))))) (ZF (Za 2))))
noncomputable def Zfo : List T → Option T := Z0 2 Zhj
theorem Znr : SimF false Zhi Zfo := Zab (show S [] [] [] false Zhh Zhj from (ZC (Z2 (O' := []) (E.tup (Zh (Zy Zx (Zc 0) (Zm _)) (Zh (Zy Zx (Zc 0) (Zm _)) Zp)) (by decide)) (by decide) (by decide) (by decide)) (ZC (Zbv (Gs.zip (Zj6 (Zc 0)) (Zc 1)) (PutOk.two (by decide) (by decide) (by decide)) (by decide) (by decide) (Z2 (O' := []) (ZM Zng (Zh (Zc 2) (Zh (ZM Zm6 (Zh (Zc 4) (Zh (Zc 3) Zp))) Zp))) (by decide) (by decide) (by decide))) (ZK (O' := []) (Zc 2) (by decide)))))
noncomputable def ZiK : Sm := Zt (ZN 2 (ZaH (Zg (Zl 0) (Zg (Ze Zr (Zb 0) (Zl 0)) Zo)))) (Zt (ZaQ (ZcT (Zdc (Zb 0) 1) (Zb 1)) (ZbO 3 4) (ZN 2 (Zw Zep (Zg (Zb 2) (Zg (Zw Zfr (Zg (Zb 4) (Zg (Zb 3) Zo))) Zo))))) (ZE (Zb 2)))
noncomputable def ZiL : List V → Hp → Option (V × Hp) := ZY 2 ZiK
noncomputable def ZiM : PS := (Zu (ZP 2 (ZaU (Zf (Zk 0) (Zf (Zd Zs (Za 0) (Zk 0)) Zn)))) (Zu (ZaV (ZcU (Zdy (Za 0) 1) (Za 1)) (Zcb 3 4) (ZP 2 (Zv ZdO (Zf (Za 2) (Zf (Zv Zem (Zf (Za 4) (Zf (Za 3) Zn))) Zn))))) (ZF (Za 2))))
noncomputable def ZfJ : List T → Option T := Z0 2 ZiM
theorem Zov : SimF false ZiL ZfJ := Zab (show S [] [] [] false ZiK ZiM from (ZC (Z2 (O' := []) (E.tup (Zh (Zm _) (Zh (Zy Zx (Zc 0) (Zm _)) Zp)) (by decide)) (by decide) (by decide) (by decide)) (ZC (Zbv (Gs.zip (Zj6 (Zc 0)) (Zc 1)) (PutOk.two (by decide) (by decide) (by decide)) (by decide) (by decide) (Z2 (O' := []) (ZM Zh0 (Zh (Zc 2) (Zh (ZM ZkE (Zh (Zc 4) (Zh (Zc 3) Zp))) Zp))) (by decide) (by decide) (by decide))) (ZK (O' := []) (Zc 2) (by decide)))))
noncomputable def Zhk : Sm := ZE (Ze Zag (Zbr (Zg (ZaH (Zg (Zl 0) (Zg (Zl 0) Zo))) Zo)) (Zb 0))
noncomputable def ZdL : List V → Hp → Option (V × Hp) := ZY 1 Zhk
noncomputable def Zhl : PS := (ZF (Zd Zad (Zbs (Zf (ZaU (Zf (Zk 0) (Zf (Zk 0) Zn))) Zn)) (Za 0)))
noncomputable def ZdM : List T → Option T := Z0 1 Zhl
theorem Zhm : SimF false ZdL ZdM := Zab (show S [] [] [] false Zhk Zhl from (ZK (O' := []) (Z8 Zan (E.list (Zh (E.tup (Zh (Zm _) (Zh (Zm _) Zp)) (by decide)) Zp) (by decide)) (Zc 0)) (by decide)))
noncomputable def Zg6 : Sm := Zt (ZN 3 (Ze Zr (Zb 1) (Zb 2))) (Zt (ZaQ (ZgA (Zb 1)) (ZbO 4 5) (ZQ (Zbn (ZJ (Ze Zcz (Zb 3) (Z3))) (Zbn (ZJ (Ze oEq (Zw Zdn (Zg (Ze Zr (Ze Zr (Zb 0) (Zb 2)) (Zb 4)) (Zg (Ze Zr (Ze Zr (Zb 0) (Zb 4)) (Zb 2)) Zo))) (Zl 0))) Zaj)) (ZN 3 (Zw ZiD (Zg (Zb 3) (Zg (Zw Zep (Zg (Zb 5) (Zg (ZaH (Zg (Zl 0) (Zg (Ze Zr (Ze Zr (Zb 0) (Zb 2)) (Zb 4)) Zo))) Zo))) Zo)))) ZW)) (ZE (Zb 3)))
noncomputable def Zeg : List V → Hp → Option (V × Hp) := ZY 3 Zg6
noncomputable def Zg7 : PS := (Zu (ZP 3 (Zd Zs (Za 1) (Za 2))) (Zu (ZaV (ZgB (Za 1)) (Zcb 4 5) (ZT (Zbp (ZI (Zd Zcj (Za 3) (Zaa))) (Zbp (ZI (Zd qEq (Zv ZcX (Zf (Zd Zs (Zd Zs (Za 0) (Za 2)) (Za 4)) (Zf (Zd Zs (Zd Zs (Za 0) (Za 4)) (Za 2)) Zn))) (Zk 0))) Zae)) (ZP 3 (Zv ZfH (Zf (Za 3) (Zf (Zv ZdO (Zf (Za 5) (Zf (ZaU (Zf (Zk 0) (Zf (Zd Zs (Zd Zs (Za 0) (Za 2)) (Za 4)) Zn))) Zn))) Zn)))) ZX)) (ZF (Za 3))))
noncomputable def Zdl : List T → Option T := Z0 3 Zg7
theorem Zky : SimF false Zeg Zdl := Zab (show S [] [] [] false Zg6 Zg7 from (ZC (Z2 (O' := []) (Zy Zx (Zc 1) (Zc 2)) (by decide) (by decide) (by decide)) (ZC (Zbv (ZqH (Zc 1)) (PutOk.two (by decide) (by decide) (by decide)) (by decide) (by decide) (Z7 (ZbL (ZL (ZD Zc3 (Zc 3) (Zak))) (ZbL (ZL (ZD ZaA (ZM Zev (Zh (Zy Zx (Zy Zx (Zc 0) (Zc 2)) (Zc 4)) (Zh (Zy Zx (Zy Zx (Zc 0) (Zc 4)) (Zc 2)) Zp))) (Zm _))) Zau)) (Z2 (O' := []) (ZM Zot (Zh (Zc 3) (Zh (ZM Zh0 (Zh (Zc 5) (Zh (E.tup (Zh (Zm _) (Zh (Zy Zx (Zy Zx (Zc 0) (Zc 2)) (Zc 4)) Zp)) (by decide)) Zp))) Zp))) (by decide) (by decide) (by decide)) Z6)) (ZK (O' := []) (Zc 3) (by decide)))))
noncomputable def Zei : Sm := Zt (ZQ (ZJ (Ze oIs (Zb 0) (Z3))) (ZE (Z3)) ZW) (Zt (ZN 1 (Zw ZdL (Zg (Ze Zr (Zb 0) (Zl 1)) Zo))) (Zt (ZN 2 (Zao (ZaK (Zg (Zl 1) (Zg (Zw ZaN (Zg (Zb 1) Zo)) Zo))) (Zaf 100) Zaj (Zw Zeg (Zg (Ze Zr (Zb 0) (Zl 0)) (Zg (Zb 1) (Zg (Zb 100) Zo)))))) (Zt (ZQ (ZJ (Ze oIn (Z3) (Zb 2))) (ZE (Z3)) ZW) (ZE (ZaH (Zg (Ze Zr (Zb 0) (Zl 0)) (Zg (Zb 2) Zo)))))))
noncomputable def ZcW : List V → Hp → Option (V × Hp) := ZY 1 Zei
noncomputable def Zej : PS := (Zu (ZT (ZI (Zd qIs (Za 0) (Zaa))) (ZF (Zaa)) ZX) (Zu (ZP 1 (Zv ZdM (Zf (Zd Zs (Za 0) (Zk 1)) Zn))) (Zu (ZP 2 (Zah (Zax (Zf (Zk 1) (Zf (Zv ZaB (Zf (Za 1) Zn)) Zn))) (Zac 100) Zae (Zv Zdl (Zf (Zd Zs (Za 0) (Zk 0)) (Zf (Za 1) (Zf (Za 100) Zn)))))) (Zu (ZT (ZI (Zd qIn (Zaa) (Za 2))) (ZF (Zaa)) ZX) (ZF (ZaU (Zf (Zd Zs (Za 0) (Zk 0)) (Zf (Za 2) Zn))))))))
noncomputable def ZcH : List T → Option T := Z0 1 Zej
theorem Zns : SimF false ZcW ZcH := Zab (show S [] [] [] false Zei Zej from (ZC (Z7 (ZL (ZD Zb3 (Zc 0) (Zak))) (ZK (O' := []) (Zak) (by decide)) Z6) (ZC (Z2 (O' := []) (ZM Zhm (Zh (Zy Zx (Zc 0) (Zm _)) Zp)) (by decide) (by decide) (by decide)) (ZC (Z2 (O' := []) (Za5 (Gs.range (Zh (Zm _) (Zh (ZaG Za6 (Zh (Zc 1) Zp)) Zp))) (PutOk.one (by decide)) (by decide) Zau (ZM Zky (Zh (Zy Zx (Zc 0) (Zm _)) (Zh (Zc 1) (Zh (Zc 100) Zp))))) (by decide) (by decide) (by decide)) (ZC (Z7 (ZL (ZD Zku (Zak) (Zc 2))) (ZK (O' := []) (Zak) (by decide)) Z6) (ZK (O' := []) (E.tup (Zh (Zy Zx (Zc 0) (Zm _)) (Zh (Zc 2) Zp)) (by decide)) (by decide)))))))
noncomputable def Zgq : Sm := Zt (ZQ (ZJ (Ze oIs (Zb 0) (Z3))) (ZE (Z3)) ZW) (Zt (ZN 1 (Zw ZdY (Zg (Ze Zr (Zb 0) (Zl 0)) Zo))) (Zt (ZQ (ZJ (Ze oIs (Zb 1) (Z3))) (ZE (Z3)) ZW) (ZE (ZaH (Zg (Zb 1) (Zg (Ze Zr (Zb 0) (Zl 1)) Zo))))))
noncomputable def Zc8 : List V → Hp → Option (V × Hp) := ZY 1 Zgq
noncomputable def Zgr : PS := (Zu (ZT (ZI (Zd qIs (Za 0) (Zaa))) (ZF (Zaa)) ZX) (Zu (ZP 1 (Zv ZeB (Zf (Zd Zs (Za 0) (Zk 0)) Zn))) (Zu (ZT (ZI (Zd qIs (Za 1) (Zaa))) (ZF (Zaa)) ZX) (ZF (ZaU (Zf (Za 1) (Zf (Zd Zs (Za 0) (Zk 1)) Zn)))))))
noncomputable def Zc9 : List T → Option T := Z0 1 Zgr
noncomputable def Zkf : Sm := ZE (Zw ZcW (Zg (Zw Zc8 (Zg (Zb 0) Zo)) Zo))
noncomputable def Zd9 : List V → Hp → Option (V × Hp) := ZY 1 Zkf
noncomputable def Zgs : PS := (ZF (Zv ZcH (Zf (Zv Zc9 (Zf (Za 0) Zn)) Zn)))
noncomputable def ZeI : T → Bool
 | .none => true
 | .tup [_, .lst ts] => T.flats ts
 | _ => false
noncomputable def Zdu : List T → Option T := fun ts => (Z0 1 Zgs ts).bind fun t => if ZeI t then some t else none
theorem ZmB {H : Hp} {a : V} {t : T} {F : List Nat} (hp : 0 < H.length) (r : RF H a t F) : St ⟨H, [], fun x => x ∈ F⟩ [] (fun i => [a][i]?) (fun i => [t][i]?) H (fun _ => F) := by
 refine ⟨fun i u e => ?_, fun i u e x m => .inr m, fun i hi => (nomatch hi), Nat.le_refl _, fun x _ _ => rfl, hp, by simp⟩
 cases i with
 | zero => cases e; exact ⟨a, rfl, r⟩
 | succ i => simp at e
theorem Zl8 {ρ : Lc} {H : Hp} {a : V} {t : T} {F : List Nat} (e : ρ 0 = some a) (r : RF H a t F) (ht : t ≠ .none) : ZQ (ZJ (Ze oIs (Zb 0) (Z3))) (ZE (Z3)) ZW ρ H = some (none, ρ, H) := by
 cases r <;> first | exact absurd rfl ht | simp [ZQ, ZJ, Ze, Zb, e, Z3, oIs, Zb8, ZW]
theorem Zl9 {σ : TL} {t : T} (e : σ 0 = some t) (ht : t ≠ .none) : ZT (ZI (Zd qIs (Za 0) (Zaa))) (ZF (Zaa)) ZX σ = some (none, σ) := by
 cases t <;> first | exact absurd rfl ht | simp [ZT, ZI, Zd, Za, e, Zaa, qIs, Zbl, ZX]
theorem Zma {σ : TL} (e : σ 0 = some .none) : ZT (ZI (Zd qIs (Za 0) (Zaa))) (ZF (Zaa)) ZX σ = some (some .none, σ) := by
 simp [ZT, ZI, Zd, Za, e, Zaa, qIs, Zbl, ZF]
theorem Zkv {a b : PS} {σ σ1 : TL} (h : a σ = some (none, σ1)) : Zu a b σ = b σ1 := by simp only [Zu, h, Option.bind_some]
theorem ZmZ {a b : PS} {σ σ1 : TL} {t : T} (h : a σ = some (some t, σ1)) : Zu a b σ = some (some t, σ1) := by simp only [Zu, h, Option.bind_some]
theorem ZdA {a b : Sm} {ρ ρ1 : Lc} {H H1 : Hp} (h : a ρ H = some (none, ρ1, H1)) : Zt a b ρ H = b ρ1 H1 := by simp only [Zt, h, Option.bind_some]
theorem Zsg {a b : Sm} {ρ ρ1 : Lc} {H H1 : Hp} {v : V} (h : a ρ H = some (some v, ρ1, H1)) : Zt a b ρ H = some (some v, ρ1, H1) := by simp only [Zt, h, Option.bind_some]
theorem Zow {H : Hp} {a : V} {t u : T} {F : List Nat} (hp : 0 < H.length) (r : RF H a t F) (h : Zc9 [t] = some u) :
  (u = .none ∧ ∃ X, Zc8 [a] H = some (.none, H ++ X)) ∨ ∃ w0 v1 u0 u1 X F0 F1, u = .tup [u0, u1] ∧ Zc8 [a] H = some (.tup [w0, v1], H ++ X) ∧ RF (H ++ X) w0 u0 F0 ∧ F0.Nodup ∧ (∀ x ∈ F0, H.length ≤ x) ∧ RF (H ++ X) v1 u1 F1 := by
 have st := ZmB hp r
 unfold Zc9 Z0 at h
 simp only [List.length_cons, List.length_nil, Nat.zero_add, if_true] at h
 obtain ⟨r1, h, h0⟩ := Zz1.mp h
 unfold Zgr at h
 by_cases hn : t = .none
 ·subst hn
  rw [ZmZ (Zma rfl)] at h
  cases h
  cases h0
  cases r
  exact .inl ⟨rfl, [], by simp [Zc8, ZY, Zgq, Zt, ZQ, ZJ, Ze, Zb, Z3, oIs, Zb8, ZE]⟩
 ·rw [Zkv (Zl9 (σ := fun i => [t][i]?) rfl hn)] at h
  have ev : ∀ b : Sm, Zt (ZQ (ZJ (Ze oIs (Zb 0) (Z3))) (ZE (Z3)) ZW) b (fun i => [a][i]?) H = b (fun i => [a][i]?) H := fun b => ZdA (Zl8 rfl r hn)
  obtain ⟨r2, h1', h⟩ := Zz0.mp h
  obtain ⟨u0, h1, e1⟩ := Zz1.mp h1'
  subst e1
  have x1 : E [] [] true (Zw ZdY (Zg (Ze Zr (Zb 0) (Zl 0)) Zo)) (Zv ZeB (Zf (Zd Zs (Za 0) (Zk 0)) Zn)) := Zeb ZpU (Zh (Zy Zx (Zc 0) (Zm _)) Zp)
  obtain ⟨w0, X, F0, a1, a2, a3, a4⟩ := x1 _ _ _ _ _ _ st h1
  have new : ∀ x ∈ F0, H.length ≤ x := fun x m => (a3 x m).nil
  have e2 : ZN 1 (Zw ZdY (Zg (Ze Zr (Zb 0) (Zl 0)) Zo)) (fun i => [a][i]?) H = some (none, upd (fun i => [a][i]?) 1 w0, H ++ X) := by simp only [ZN, a1, Option.map_some]
  simp only at h
  have ev2 : ∀ b : Sm, Zt (ZN 1 (Zw ZdY (Zg (Ze Zr (Zb 0) (Zl 0)) Zo))) b (fun i => [a][i]?) H = b (upd (fun i => [a][i]?) 1 w0) (H ++ X) := fun b => ZdA e2
  have fin : ∀ o, Zt (ZQ (ZJ (Ze oIs (Zb 1) (Z3))) (ZE (Z3)) ZW) (ZE (ZaH (Zg (Zb 1) (Zg (Ze Zr (Zb 0) (Zl 1)) Zo)))) (upd (fun i => [a][i]?) 1 w0) (H ++ X) = some o → Zc8 [a] H = some (o.1.getD .none, o.2.2) := fun o ho => by
   unfold Zc8 ZY Zgq
   simp only [List.length_cons, List.length_nil, Nat.zero_add, if_true]
   rw [ev, ev2, ho]
   rfl
  by_cases hu : u0 = .none
  ·subst hu
   cases a2
   obtain ⟨r3, h2, h⟩ := Zz0.mp h
   have : r3 = (some .none, ZR (fun i => [t][i]?) 1 .none) := by
    have := h2
    simp [ZT, ZI, Zd, Za, ZR, Zaa, qIs, Zbl, ZF] at this
    exact this.symm
   subst this
   cases h
   cases h0
   refine .inl ⟨rfl, X, fin (some .none, upd (fun i => [a][i]?) 1 .none, H ++ X) ?_⟩
   exact Zsg (by simp [ZQ, ZJ, Ze, Zb, upd, Z3, oIs, Zb8, ZE])
  ·have e3 : ZQ (ZJ (Ze oIs (Zb 1) (Z3))) (ZE (Z3)) ZW (upd (fun i => [a][i]?) 1 w0) (H ++ X) = some (none, upd (fun i => [a][i]?) 1 w0, H ++ X) := by
    cases a2 <;> first | exact (hu rfl).elim | simp [ZQ, ZJ, Ze, Zb, upd, Z3, oIs, Zb8, ZW]
   have e4 : ZT (ZI (Zd qIs (Za 1) (Zaa))) (ZF (Zaa)) ZX (ZR (fun i => [t][i]?) 1 u0) = some (none, ZR (fun i => [t][i]?) 1 u0) := by
    cases u0 <;> first | exact (hu rfl).elim | simp [ZT, ZI, Zd, Za, ZR, Zaa, qIs, Zbl, ZX]
   rw [Zkv e4] at h
   obtain ⟨u', h5, h6⟩ := Zz1.mp h
   subst h6
   obtain ⟨us, h7, h8⟩ := Zz1.mp h5
   subst h8
   obtain ⟨q0, g1, h9⟩ := Zz0.mp h7
   obtain ⟨qs, g2, h10⟩ := Zz0.mp h9
   cases h10
   obtain ⟨q1, g3, g6⟩ := Zz0.mp g2
   obtain ⟨qs', g4, g7⟩ := Zz0.mp g6
   cases g7
   cases g4
   have eq0 : q0 = u0 := by
    have : ZR (fun i => [t][i]?) 1 u0 1 = some q0 := g1
    simp [ZR] at this
    exact this.symm
   subst eq0
   have g5 : Zs t (.int 1) = some q1 := by
    have := g3
    simpa [Zd, Za, ZR, Zk] using this
   obtain ⟨v1, F1, b1, b2, b3⟩ := Zx _ _ _ _ _ _ _ _ (r.ext X) (RF.int (H := H ++ X) 1) g5
   cases h0
   refine .inr ⟨w0, v1, q0, q1, X, F0, F1, rfl, fin (some (.tup [w0, v1]), upd (fun i => [a][i]?) 1 w0, H ++ X) ?_, a2, a4 rfl, new, b2⟩
   rw [ZdA e3]
   simp [ZE, ZaH, Zg, Zb, upd, Ze, Zl, b1, Zo, Za2]
theorem Zlc {put : T → TL → Option TL} {f : PE} {σ : TL} : ∀ {ts us : List T}, Zcr put Zae f σ ts = some us → T.flats us = true → Zcr put Zae (Zcm f) σ ts = some us
 | [], _, h, _ => h
 | t :: ts, us, h, hf => by
  obtain ⟨σ1, h1, h⟩ := Zz0.mp h
  simp only [Zae, Option.bind_some, if_true] at h
  obtain ⟨x, h2, h⟩ := Zz0.mp h
  obtain ⟨xs, h3, h⟩ := Zz1.mp h
  subst h
  simp only [T.flats, Bool.and_eq_true] at hf
  simp only [Zcr, h1, Option.bind_some, Zae, if_true, Zcm, h2, hf.1, Zlc h3 hf.2, Option.map_some]
theorem ZkV {H : Hp} {a : V} {t u : T} {F : List Nat} (hp : 0 < H.length) (r : RF H a t F) (h : ZcH [t] = some u) (ok : ZeI u = true) :
  (u = .none ∧ ∃ X, ZcW [a] H = some (.none, H ++ X)) ∨ ∃ w0 w1 u0 u1 X F1, u = .tup [u0, u1] ∧ Zr a (.int 0) H = some (w0, H) ∧ Zs t (.int 0) = some u0 ∧ ZcW [a] H = some (.tup [w0, w1], H ++ X) ∧ RF (H ++ X) w1 u1 F1 ∧ F1.Nodup ∧ (∀ x ∈ F1, H.length ≤ x) := by
 have st := ZmB hp r
 have hfull := h
 unfold ZcH Z0 at h
 simp only [List.length_cons, List.length_nil, Nat.zero_add, if_true] at h
 obtain ⟨r1, h, h0⟩ := Zz1.mp h
 unfold Zej at h
 by_cases hn : t = .none
 ·subst hn
  rw [ZmZ (Zma rfl)] at h
  cases h
  cases h0
  cases r
  exact .inl ⟨rfl, [], by simp [ZcW, ZY, Zei, Zt, ZQ, ZJ, Ze, Zb, Z3, oIs, Zb8, ZE]⟩
 ·rw [Zkv (Zl9 (σ := fun i => [t][i]?) rfl hn)] at h
  have ev : ∀ b : Sm, Zt (ZQ (ZJ (Ze oIs (Zb 0) (Z3))) (ZE (Z3)) ZW) b (fun i => [a][i]?) H = b (fun i => [a][i]?) H := fun b => ZdA (Zl8 rfl r hn)
  obtain ⟨r2, h1', h⟩ := Zz0.mp h
  obtain ⟨t1, h1, e1⟩ := Zz1.mp h1'
  subst e1
  have x1 : E [] ([0] ++ []) false (Zw ZdL (Zg (Ze Zr (Zb 0) (Zl 1)) Zo)) (Zv ZdM (Zf (Zd Zs (Za 0) (Zk 1)) Zn)) := ZM Zhm (Zh (Zy Zx (Zc 0) (Zm _)) Zp)
  obtain ⟨v1, X1, Fr, a1, a2, a3, _⟩ := x1 _ _ _ _ _ _ st h1
  have st1 := (st.ext X1).put (j := 1) (by simp) a2 (fun x m => st.from_src (a3 x m)) (fun i hi => (nomatch hi))
  have ev1 : ∀ b : Sm, Zt (ZN 1 (Zw ZdL (Zg (Ze Zr (Zb 0) (Zl 1)) Zo))) b (fun i => [a][i]?) H = b (upd (fun i => [a][i]?) 1 v1) (H ++ X1) := fun b => ZdA (by simp only [ZN, a1, Option.map_some])
  simp only at h
  obtain ⟨r3, h2', h⟩ := Zz0.mp h
  obtain ⟨t2, h2, e2⟩ := Zz1.mp h2'
  subst e2
  simp only at h
  generalize hσ : ZR (fun i => [t][i]?) 1 t1 = σ1 at *
  generalize hρ : upd (fun i => [a][i]?) 1 v1 = ρ1 at *
  have hρ0 : ρ1 0 = some a := by rw [← hρ]; simp [upd]
  have hσ0 : σ1 0 = some t := by rw [← hσ]; simp [ZR]
  have x2 : ∀ ts, T.flats ts = true → Zah (Zax (Zf (Zk 1) (Zf (Zv ZaB (Zf (Za 1) Zn)) Zn))) (Zac 100) Zae (Zv Zdl (Zf (Zd Zs (Za 0) (Zk 0)) (Zf (Za 1) (Zf (Za 100) Zn)))) σ1 = some (.lst ts) → ∃ w X G, Zao (ZaK (Zg (Zl 1) (Zg (Zw ZaN (Zg (Zb 1) Zo)) Zo))) (Zaf 100) Zaj (Zw Zeg (Zg (Ze Zr (Zb 0) (Zl 0)) (Zg (Zb 1) (Zg (Zb 100) Zo)))) ρ1 (H ++ X1) = some (w, H ++ X1 ++ X) ∧ RF (H ++ X1 ++ X) w (.lst ts) G ∧ G.Nodup ∧ ∀ x ∈ G, (H ++ X1).length ≤ x := fun ts hf he => by
   have y : E [] [] true (Zao (ZaK (Zg (Zl 1) (Zg (Zw ZaN (Zg (Zb 1) Zo)) Zo))) (Zaf 100) Zaj (Zw Zeg (Zg (Ze Zr (Zb 0) (Zl 0)) (Zg (Zb 1) (Zg (Zb 100) Zo))))) (Zah (Zax (Zf (Zk 1) (Zf (Zv ZaB (Zf (Za 1) Zn)) Zn))) (Zac 100) Zae (Zcm (Zv Zdl (Zf (Zd Zs (Za 0) (Zk 0)) (Zf (Za 1) (Zf (Za 100) Zn)))))) := ZeE (Gs.range (Zh (Zm _) (Zh (ZaG Za6 (Zh (Zc 1) Zp)) Zp))) (PutOk.one (by decide)) (by decide) Zau (E.flat (ZM Zky (Zh (Zy Zx (Zc 0) (Zm _)) (Zh (Zc 1) (Zh (Zc 100) Zp)))))
   have he2 : Zah (Zax (Zf (Zk 1) (Zf (Zv ZaB (Zf (Za 1) Zn)) Zn))) (Zac 100) Zae (Zcm (Zv Zdl (Zf (Zd Zs (Za 0) (Zk 0)) (Zf (Za 1) (Zf (Za 100) Zn))))) σ1 = some (.lst ts) := by
    obtain ⟨zs, g1, g2⟩ := Zz0.mp he
    split at g2
    ·rename_i hl
     obtain ⟨us, g3, g4⟩ := Zz1.mp g2
     cases g4
     simp only [Zah, g1, Option.bind_some]
     rw [if_pos hl, Zlc g3 hf]
     rfl
    ·cases g2
   obtain ⟨w, X, G, b1, b2, b3, b4⟩ := y _ _ _ _ _ _ st1 he2
   exact ⟨w, X, G, b1, b2, b4 rfl, fun x m => (b3 x m).nil⟩
  obtain ⟨ts, rfl⟩ : ∃ ts, t2 = .lst ts := by
   obtain ⟨zs, g1, g2⟩ := Zz0.mp h2
   split at g2
   ·obtain ⟨us, g3, g4⟩ := Zz1.mp g2
    exact ⟨us, g4.symm⟩
   ·cases g2
  by_cases hu : u = .none
  ·subst hu
   obtain ⟨v, X, G, c1, c2, _⟩ := Zns H [a] [t] .none F hp (RFs.one r) hfull
   cases c2
   exact .inl ⟨rfl, X, c1⟩
  ·obtain ⟨r4, h3, h⟩ := Zz0.mp h
   obtain ⟨b, h4, h5⟩ := Zz0.mp h3
   cases b with
   | true =>
    simp only [if_true] at h5
    cases h5
    cases h
    cases h0
    exact absurd rfl hu
   | false =>
    cases h5
    simp only at h
    obtain ⟨u', h6, h7⟩ := Zz1.mp h
    subst h7
    obtain ⟨us, h8, h9⟩ := Zz1.mp h6
    subst h9
    obtain ⟨q0, g1, h10⟩ := Zz0.mp h8
    obtain ⟨qs, g2, h11⟩ := Zz0.mp h10
    cases h11
    obtain ⟨q1, g3, g6⟩ := Zz0.mp g2
    obtain ⟨qs', g4, g7⟩ := Zz0.mp g6
    cases g7
    cases g4
    have eq1 : q1 = .lst ts := by
     have : ZR σ1 2 (.lst ts) 2 = some q1 := g3
     simp [ZR] at this
     exact this.symm
    subst eq1
    have g5 : Zs t (.int 0) = some q0 := by
     have := g1
     simpa [Zd, Za, ZR, Zk, hσ0] using this
    cases h0
    obtain ⟨w, X, G, b1, b2, b3, b4⟩ := x2 ts ok h2
    obtain ⟨w0, F0, i1, i2, i3⟩ := Zx _ _ _ _ _ _ _ _ r (RF.int (H := H) 0) g5
    have st2 := (st1.ext X).put (j := 2) (by simp) b2 (fun x m => .inl (by have := b4 x m; simp at this; show H.length ≤ x; omega)) (fun i hi => (nomatch hi))
    have bt : Bt [] (ZJ (Ze oIn (Z3) (Zb 2))) (ZI (Zd qIn (Zaa) (Za 2))) := ZL (ZD Zku Zak (Zc 2))
    obtain ⟨Y, k1⟩ := bt _ _ _ _ _ _ st2 h4
    refine .inr ⟨w0, w, q0, .lst ts, X1 ++ X ++ Y, G, rfl, i1, g5, ?_, by rw [← List.append_assoc, ← List.append_assoc]; exact b2.ext Y, b3, fun x m => by have := b4 x m; simp at this; omega⟩
    unfold ZcW ZY Zei
    simp only [List.length_cons, List.length_nil, Nat.zero_add, if_true]
    rw [ev, ev1, ZdA (ρ1 := upd ρ1 2 w) (H1 := H ++ X1 ++ X) (by simp only [ZN, b1, Option.map_some]), ZdA (ρ1 := upd ρ1 2 w) (H1 := H ++ X1 ++ X ++ Y) (by simp only [ZQ, k1, Option.bind_some]; rfl)]
    have hidx := (Zk8 i1 (X1 ++ X ++ Y)).2
    have hr : (upd ρ1 2 w) 0 = some a := by simp [upd, hρ0]
    have h2w : (upd ρ1 2 w) 2 = some w := by simp [upd]
    simp only [← List.append_assoc] at hidx ⊢
    generalize H ++ X1 ++ X ++ Y = K at *
    have e5 : ZaH (Zg (Ze Zr (Zb 0) (Zl 0)) (Zg (Zb 2) Zo)) (upd ρ1 2 w) K = some (.tup [w0, w], K) := by
     simp only [ZaH, Zg, Ze, Zb, hr, h2w, Zl, Zo, Option.map_some, Option.bind_some, hidx]
     rw [if_pos (by rw [Za2]; simp)]
    simp only [ZE, e5, Option.map_some]
    rfl
theorem ZmC : SimF true Zd9 Zdu := fun H vs ts t F1 hp r h => by
 obtain ⟨t', h1, h2⟩ := Zz0.mp h
 by_cases ok : ZeI t' = true
 ·rw [if_pos ok] at h2
  cases h2
  unfold Z0 at h1
  split at h1
  ·rename_i hl
   obtain ⟨t0, rfl⟩ : ∃ t0, ts = [t0] := List.length_eq_one_iff.mp hl
   obtain ⟨a, rfl, r0⟩ := r.one_inv
   obtain ⟨r1, h3, h4⟩ := Zz1.mp h1
   obtain ⟨u, h5, h6⟩ := Zz1.mp h3
   subst h6
   cases h4
   obtain ⟨us, h7, h8⟩ := Zz0.mp h5
   obtain ⟨q0, g1, h9⟩ := Zz0.mp h7
   obtain ⟨qs, g2, h10⟩ := Zz0.mp h9
   cases h10
   cases g2
   have g3 : Zc9 [t0] = some q0 := by
    have := g1
    simpa [Zv, Zf, Za, Zn] using this
   have g4 : ZcH [q0] = some u := h8
   have run : ∀ v1 X1 v2 X2, Zc8 [a] H = some (v1, H ++ X1) → ZcW [v1] (H ++ X1) = some (v2, H ++ X1 ++ X2) → Zd9 [a] H = some (v2, H ++ (X1 ++ X2)) := fun v1 X1 v2 X2 e1 e2 => by
    simp [Zd9, ZY, Zkf, ZE, Zw, Zg, Zb, Zo, e1, e2]
   rcases Zow hp r0 g3 with ⟨rfl, X, e1⟩ | ⟨w0, v1, u0, u1, X, F0, F2, rfl, e1, a1, a2, a3, a4⟩
   ·have hp2 : 0 < (H ++ X).length := by rw [List.length_append]; omega
    rcases ZkV hp2 (.none (H := H ++ X)) g4 ok with ⟨rfl, Y, e2⟩ | ⟨_, _, _, _, _, _, _, e2, _⟩
    ·exact ⟨.none, X ++ Y, [], run _ _ _ _ e1 e2, .none, by simp, by simp⟩
    ·cases e2
   ·have hp2 : 0 < (H ++ X).length := by rw [List.length_append]; omega
    rcases ZkV hp2 (.tup (.cons a1 (.one a4))) g4 ok with ⟨rfl, Y, e2⟩ | ⟨x0, w1, y0, y1, Y, F1', rfl, e3, e4, e2, b1, b2, b3⟩
    ·exact ⟨.none, X ++ Y, [], run _ _ _ _ e1 e2, .none, by simp, by simp⟩
    ·have ex : x0 = w0 := by
      have : Zr (.tup [w0, v1]) (.int 0) (H ++ X) = some (w0, H ++ X) := by simp [Zr, seqIndex?]
      rw [this] at e3
      cases e3
      rfl
     have ey : y0 = u0 := by
      have : Zs (.tup [u0, u1]) (.int 0) = some u0 := by simp [Zs, seqIndex?]
      rw [this] at e4
      cases e4
      rfl
     subst ex ey
     have nd : (F0 ++ F1').Nodup := by
      rw [List.nodup_append]
      refine ⟨a2, b2, fun x hx y hy e => ?_⟩
      have := a1.lt x hx
      have := b3 y hy
      omega
     have nw : ∀ x ∈ F0 ++ F1', H.length ≤ x := fun x m => by
      rcases List.mem_append.mp m with m | m
      ·exact a3 x m
      ·have := b3 x m; rw [List.length_append] at this; omega
     exact ⟨.tup [x0, w1], X ++ Y, F0 ++ F1', run _ _ _ _ e1 e2, by rw [← List.append_assoc]; exact .tup (.cons (a1.ext Y) (.one b1)), fun x m => .inl (nw x m), fun _ => ⟨nd, nw⟩⟩
  ·cases h1
 ·rw [if_neg ok] at h2
  cases h2
noncomputable def ZgU : Sm := Zt (ZQ (ZJ (Ze Zcz (Zb 0) (Z3))) (ZE (Zw ZhB (Zg (Zb 1) (Zg (Zb 0) Zo)))) ZW) (Zt (ZQ (ZJ (Ze oEq (Ze Zr (Zb 1) (Zl 0)) (Zl 0))) (ZE (Ze Zr (Zb 1) (Zl 1))) ZW) (ZE (Z3)))
noncomputable def ZgV : List V → Hp → Option (V × Hp) := ZY 2 ZgU
noncomputable def ZgW : PS := (Zu (ZT (ZI (Zd Zcj (Za 0) (Zaa))) (ZF (Zv Zfs (Zf (Za 1) (Zf (Za 0) Zn)))) ZX) (Zu (ZT (ZI (Zd qEq (Zd Zs (Za 1) (Zk 0)) (Zk 0))) (ZF (Zd Zs (Za 1) (Zk 1))) ZX) (ZF (Zaa))))
noncomputable def Zfh : List T → Option T := Z0 2 ZgW
theorem Zm7 : SimF false ZgV Zfh := Zab (show S [] [] [] false ZgU ZgW from (ZC (Z7 (ZL (ZD Zc3 (Zc 0) (Zak))) (ZK (O' := []) (ZM ZnH (Zh (Zc 1) (Zh (Zc 0) Zp))) (by decide)) Z6) (ZC (Z7 (ZL (ZD ZaA (Zy Zx (Zc 1) (Zm _)) (Zm _))) (ZK (O' := []) (Zy Zx (Zc 1) (Zm _)) (by decide)) Z6) (ZK (O' := []) (Zak) (by decide)))))
noncomputable def Zhn : Sm := Zt (ZN 3 (Zbr Zo)) (Zt (ZaQ (ZcT (Zb 0) (Zb 2)) (ZbO 4 5) (Zt (ZN 6 (Zw ZgV (Zg (Zb 4) (Zg (Zw Zep (Zg (Zb 1) (Zg (Zw Zfr (Zg (Zb 5) (Zg (eUn ZdD (Zl 1)) Zo))) Zo))) Zo)))) (Zt (ZQ (Zbn (ZJ (Ze oIs (Zb 6) (Z3))) (Zbn (ZJ (Ze Zcz (Zb 4) (Z3))) Zaj)) (ZE (Z3)) ZW) (ZdF (Zdr (Zb 3) (Zb 6)))))) (ZE (Zb 3)))
noncomputable def Zho : List V → Hp → Option (V × Hp) := ZY 3 Zhn
noncomputable def Zhp : PS := (Zu (ZP 3 (Zbs Zn)) (Zu (ZaV (ZcU (Za 0) (Za 2)) (Zcb 4 5) (Zu (ZP 6 (Zv Zfh (Zf (Za 4) (Zf (Zv ZdO (Zf (Za 1) (Zf (Zv Zem (Zf (Za 5) (Zf (pUn ZdH (Zk 1)) Zn))) Zn))) Zn)))) (Zu (ZT (Zbp (ZI (Zd qIs (Za 6) (Zaa))) (Zbp (ZI (Zd Zcj (Za 4) (Zaa))) Zae)) (ZF (Zaa)) ZX) (ZcV 3 [] Zbc (Zcm (Za 6)))))) (ZF (Za 3))))
noncomputable def Zfp : List T → Option T := Z0 3 Zhp
theorem Znt : SimF false Zho Zfp := Zab (show S [] [3] [] false Zhn Zhp from (ZC (Zc6 (O' := [3]) (E.list Zp (by decide)) (by decide)) (ZC (Zbv (Gs.zip (Zc 0) (Zc 2)) (PutOk.two (by decide) (by decide) (by decide)) (by decide) (by decide) (ZC (Z2 (O' := [3]) (ZM Zm7 (Zh (Zc 4) (Zh (ZM Zh0 (Zh (Zc 1) (Zh (ZM ZkE (Zh (Zc 5) (Zh (ZeZ Ze2 (Zm _)) Zp))) Zp))) Zp))) (by decide) (by decide) (by decide)) (ZC (Z7 (ZbL (ZL (ZD Zb3 (Zc 6) (Zak))) (ZbL (ZL (ZD Zc3 (Zc 4) (Zak))) Zau)) (ZK (O' := [3]) (Zak) (by decide)) Z6) (Zgy (O' := [3]) (by decide) Zco (Zb0 (O' := []) (E.flat (Zc 6)) (by decide)) (by decide) (by decide))))) (ZK (O' := [3]) (Zc 3) (by decide)))))
noncomputable def Zi6 : Sm := Zt (ZQ (ZJ (Ze oIs (Zb 0) (Z3))) (ZE (Z3)) ZW) (Zt (ZN 1 (Zw ZdL (Zg (Ze Zr (Zb 0) (Zl 1)) Zo))) (Zt (ZN 2 (Zao (ZcT (Ze Zr (Zb 0) (Zl 0)) (Zb 1)) (ZbO 100 101) Zaj (Zw Zho (Zg (Zb 100) (Zg (Zb 101) (Zg (Zb 1) Zo)))))) (Zt (ZQ (ZJ (Ze oIn (Z3) (Zb 2))) (ZE (Z3)) ZW) (ZE (ZaH (Zg (Zb 2) (Zg (Ze Zr (Zb 0) (Zl 1)) Zo)))))))
noncomputable def Zi7 : List V → Hp → Option (V × Hp) := ZY 1 Zi6
noncomputable def ZfT : PS := (Zu (ZT (ZI (Zd qIs (Za 0) (Zaa))) (ZF (Zaa)) ZX) (Zu (ZP 1 (Zv ZdM (Zf (Zd Zs (Za 0) (Zk 1)) Zn))) (Zu (ZP 2 (Zah (ZcU (Zd Zs (Za 0) (Zk 0)) (Za 1)) (Zcb 100 101) Zae (Zv Zfp (Zf (Za 100) (Zf (Za 101) (Zf (Za 1) Zn)))))) (Zu (ZT (ZI (Zd qIn (Zaa) (Za 2))) (ZF (Zaa)) ZX) (ZF (ZaU (Zf (Za 2) (Zf (Zd Zs (Za 0) (Zk 1)) Zn))))))))
noncomputable def ZdX : List T → Option T := Z0 1 ZfT
theorem Zo9 : SimF false Zi7 ZdX := Zab (show S [] [] [] false Zi6 ZfT from (ZC (Z7 (ZL (ZD Zb3 (Zc 0) (Zak))) (ZK (O' := []) (Zak) (by decide)) Z6) (ZC (Z2 (O' := []) (ZM Zhm (Zh (Zy Zx (Zc 0) (Zm _)) Zp)) (by decide) (by decide) (by decide)) (ZC (Z2 (O' := []) (Za5 (Gs.zip (Zy Zx (Zc 0) (Zm _)) (Zc 1)) (PutOk.two (by decide) (by decide) (by decide)) (by decide) Zau (ZM Znt (Zh (Zc 100) (Zh (Zc 101) (Zh (Zc 1) Zp))))) (by decide) (by decide) (by decide)) (ZC (Z7 (ZL (ZD Zku (Zak) (Zc 2))) (ZK (O' := []) (Zak) (by decide)) Z6) (ZK (O' := []) (E.tup (Zh (Zc 2) (Zh (Zy Zx (Zc 0) (Zm _)) Zp)) (by decide)) (by decide)))))))
noncomputable def ZjT : Sm := ZE (Zw Zd9 (Zg (Zw Zi7 (Zg (Zw Zd9 (Zg (Zb 0) Zo)) Zo)) Zo))
noncomputable def ZjU : List V → Hp → Option (V × Hp) := ZY 1 ZjT
noncomputable def ZjV : PS := (ZF (Zv Zdu (Zf (Zv ZdX (Zf (Zv Zdu (Zf (Za 0) Zn)) Zn)) Zn)))
noncomputable def Zd1 : List T → Option T := Z0 1 ZjV
theorem ZqK : SimF true ZjU Zd1 := Zab (show S [] [] [] true ZjT ZjV from (ZcP (O' := []) (Zeb ZmC (Zh (ZM Zo9 (Zh (ZM ZmC (Zh (Zc 0) Zp)) Zp)) Zp)) (by decide) (by decide)))
noncomputable def Zia : Sm := Zt (ZQ (tOr (Zbt (ZJ (eIs "tuple" (Zb 0)))) (tOr (ZJ (Ze oNe (Zw ZaN (Zg (Zb 0) Zo)) (Zl 2))) (tOr (Zbt (ZJ (Zw ZiI (Zg (Ze Zr (Zb 0) (Zl 0)) (Zg (Ze Zag (Zb 1) (Zl 1)) Zo))))) ZbH))) (ZE (ZaL false)) ZW) (Zt (ZQ (tOr (Zbt (ZJ (eIs "list" (Ze Zr (Zb 0) (Zl 1))))) (tOr (ZJ (Ze oNe (Zw ZaN (Zg (Ze Zr (Zb 0) (Zl 1)) Zo)) (Zb 1))) ZbH)) (ZE (ZaL false)) ZW) (Zt (ZaQ (Zbe (Ze Zr (Zb 0) (Zl 1))) (Zaf 2) (Zt (ZQ (tOr (Zbt (ZJ (eIs "tuple" (Zb 2)))) (tOr (ZJ (Ze oNe (Zw ZaN (Zg (Zb 2) Zo)) (Zl 2))) ZbH)) (ZE (ZaL false)) ZW) (Zt (ZQ (tOr (Zbt (ZJ (Zw Zeq (Zg (Ze Zr (Zb 2) (Zl 0)) Zo)))) (tOr (Zbt (ZJ (Zw Zeq (Zg (Ze Zr (Zb 2) (Zl 1)) Zo)))) ZbH)) (ZE (ZaL false)) ZW) (ZQ (tOr (ZJ (Ze oLt (Ze Zr (Zb 2) (Zl 0)) (Zl 0))) (tOr (Zbn (ZJ (Ze oGt (Ze Zr (Zb 2) (Zl 0)) (Zl 0))) (Zbn (Zbt (ZeO oLe oLt (Zl 0) (Ze Zr (Zb 2) (Zl 1)) (Ze Zr (Zb 2) (Zl 0)))) Zaj)) ZbH)) (ZE (ZaL false)) ZW)))) (ZE (ZaL true))))
noncomputable def ZfA : List V → Hp → Option (V × Hp) := ZY 2 Zia
noncomputable def Zib : PS := (Zu (ZT (bOr (Zbg (ZI (pIs "tuple" (Za 0)))) (bOr (ZI (Zd qNe (Zv ZaB (Zf (Za 0) Zn)) (Zk 2))) (bOr (Zbg (ZI (Zv ZfI (Zf (Zd Zs (Za 0) (Zk 0)) (Zf (Zd Zad (Za 1) (Zk 1)) Zn))))) ZbJ))) (ZF (ZaO false)) ZX) (Zu (ZT (bOr (Zbg (ZI (pIs "list" (Zd Zs (Za 0) (Zk 1))))) (bOr (ZI (Zd qNe (Zv ZaB (Zf (Zd Zs (Za 0) (Zk 1)) Zn)) (Za 1))) ZbJ)) (ZF (ZaO false)) ZX) (Zu (ZaV (ZaY (Zd Zs (Za 0) (Zk 1))) (Zac 2) (Zu (ZT (bOr (Zbg (ZI (pIs "tuple" (Za 2)))) (bOr (ZI (Zd qNe (Zv ZaB (Zf (Za 2) Zn)) (Zk 2))) ZbJ)) (ZF (ZaO false)) ZX) (Zu (ZT (bOr (Zbg (ZI (Zv ZdP (Zf (Zd Zs (Za 2) (Zk 0)) Zn)))) (bOr (Zbg (ZI (Zv ZdP (Zf (Zd Zs (Za 2) (Zk 1)) Zn)))) ZbJ)) (ZF (ZaO false)) ZX) (ZT (bOr (ZI (Zd qLt (Zd Zs (Za 2) (Zk 0)) (Zk 0))) (bOr (Zbp (ZI (Zd qGt (Zd Zs (Za 2) (Zk 0)) (Zk 0))) (Zbp (Zbg (ZeP qLe qLt (Zk 0) (Zd Zs (Za 2) (Zk 1)) (Zd Zs (Za 2) (Zk 0)))) Zae)) ZbJ)) (ZF (ZaO false)) ZX)))) (ZF (ZaO true)))))
noncomputable def ZdR : List T → Option T := Z0 2 Zib
theorem ZkK : SimF false ZfA ZdR := Zab (show S [] [] [] false Zia Zib from (ZC (Z7 (ZaM (ZbK (ZL (ZdG (Zc 0)))) (ZaM (ZL (ZD Zb2 (ZaG Za6 (Zh (Zc 0) Zp)) (Zm _))) (ZaM (ZbK (ZL (ZM Zou (Zh (Zy Zx (Zc 0) (Zm _)) (Zh (Z8 Zan (Zc 1) (Zm _)) Zp))))) Zb7))) (ZK (O' := []) (E.bool _) (by decide)) Z6) (ZC (Z7 (ZaM (ZbK (ZL (ZdG (Zy Zx (Zc 0) (Zm _))))) (ZaM (ZL (ZD Zb2 (ZaG Za6 (Zh (Zy Zx (Zc 0) (Zm _)) Zp)) (Zc 1))) Zb7)) (ZK (O' := []) (E.bool _) (by decide)) Z6) (ZC (Zbv (Gs.seq (Zy Zx (Zc 0) (Zm _))) (PutOk.one (by decide)) (by decide) (by decide) (ZC (Z7 (ZaM (ZbK (ZL (ZdG (Zc 2)))) (ZaM (ZL (ZD Zb2 (ZaG Za6 (Zh (Zc 2) Zp)) (Zm _))) Zb7)) (ZK (O' := []) (E.bool _) (by decide)) Z6) (ZC (Z7 (ZaM (ZbK (ZL (ZM Zh6 (Zh (Zy Zx (Zc 2) (Zm _)) Zp)))) (ZaM (ZbK (ZL (ZM Zh6 (Zh (Zy Zx (Zc 2) (Zm _)) Zp)))) Zb7)) (ZK (O' := []) (E.bool _) (by decide)) Z6) (Z7 (ZaM (ZL (ZD Zdh (Zy Zx (Zc 2) (Zm _)) (Zm _))) (ZaM (ZbL (ZL (ZD Zfa (Zy Zx (Zc 2) (Zm _)) (Zm _))) (ZbL (ZbK (ZpQ ZgL Zdh (Zm _) (Zy Zx (Zc 2) (Zm _)) (Zy Zx (Zc 2) (Zm _)))) Zau)) Zb7)) (ZK (O' := []) (E.bool _) (by decide)) Z6)))) (ZK (O' := []) (E.bool _) (by decide))))))
noncomputable def ZiN : Sm := Zt (ZQ (ZJ (Ze oIs (Zb 0) (Z3))) (ZE (ZaL false)) ZW) (Zt (ZN 2 (Ze Zag (Zbr (Zg (Zl 0) Zo)) (Zb 1))) (Zt (ZaQ (ZaK (Zg (Zw ZaN (Zg (Zb 2) Zo)) Zo)) (Zaf 3) (ZaQ (ZaK (Zg (Zw ZaN (Zg (Zb 2) Zo)) Zo)) (Zaf 4) (ZQ (Zbn (ZJ (Ze Zcz (Ze Zr (Ze Zr (Ze Zr (Zb 0) (Zl 0)) (Zb 3)) (Zb 4)) (Z3))) (Zbn (ZJ (Ze oGt (Ze Zr (Zb 2) (Zb 3)) (Ze Zag (Ze Zr (Zb 2) (Zb 4)) (Ze Zr (Ze Zr (Ze Zr (Zb 0) (Zl 0)) (Zb 3)) (Zb 4))))) Zaj)) (ZE (ZaL false)) ZW))) (Zt (ZaQ (ZaK (Zg (Zw ZaN (Zg (Zb 1) Zo)) Zo)) (Zaf 5) (Zt (ZN 6 (Ze Zbu (Ze Zr (Zb 1) (Zb 5)) (Ze Zr (Ze Zr (Ze Zr (Zb 0) (Zl 1)) (Zb 5)) (Zl 1)))) (Zt (ZQ (Zbn (ZJ (Ze oEq (Ze Zr (Ze Zr (Ze Zr (Zb 0) (Zl 1)) (Zb 5)) (Zl 0)) (Zl 0))) (Zbn (ZJ (Ze oNe (Zb 6) (Zl 0))) Zaj)) (ZE (ZaL false)) ZW) (ZQ (Zbn (ZJ (Ze oGt (Ze Zr (Ze Zr (Ze Zr (Zb 0) (Zl 1)) (Zb 5)) (Zl 0)) (Zl 0))) (Zbn (ZJ (Ze oNe (Ze oMod (Zb 6) (Ze Zr (Ze Zr (Ze Zr (Zb 0) (Zl 1)) (Zb 5)) (Zl 0))) (Zl 0))) Zaj)) (ZE (ZaL false)) ZW)))) (ZE (ZaL true)))))
noncomputable def ZfK : List V → Hp → Option (V × Hp) := ZY 2 ZiN
noncomputable def ZiO : PS := (Zu (ZT (ZI (Zd qIs (Za 0) (Zaa))) (ZF (ZaO false)) ZX) (Zu (ZP 2 (Zd Zad (Zbs (Zf (Zk 0) Zn)) (Za 1))) (Zu (ZaV (Zax (Zf (Zv ZaB (Zf (Za 2) Zn)) Zn)) (Zac 3) (ZaV (Zax (Zf (Zv ZaB (Zf (Za 2) Zn)) Zn)) (Zac 4) (ZT (Zbp (ZI (Zd Zcj (Zd Zs (Zd Zs (Zd Zs (Za 0) (Zk 0)) (Za 3)) (Za 4)) (Zaa))) (Zbp (ZI (Zd qGt (Zd Zs (Za 2) (Za 3)) (Zd Zad (Zd Zs (Za 2) (Za 4)) (Zd Zs (Zd Zs (Zd Zs (Za 0) (Zk 0)) (Za 3)) (Za 4))))) Zae)) (ZF (ZaO false)) ZX))) (Zu (ZaV (Zax (Zf (Zv ZaB (Zf (Za 1) Zn)) Zn)) (Zac 5) (Zu (ZP 6 (Zd Za3 (Zd Zs (Za 1) (Za 5)) (Zd Zs (Zd Zs (Zd Zs (Za 0) (Zk 1)) (Za 5)) (Zk 1)))) (Zu (ZT (Zbp (ZI (Zd qEq (Zd Zs (Zd Zs (Zd Zs (Za 0) (Zk 1)) (Za 5)) (Zk 0)) (Zk 0))) (Zbp (ZI (Zd qNe (Za 6) (Zk 0))) Zae)) (ZF (ZaO false)) ZX) (ZT (Zbp (ZI (Zd qGt (Zd Zs (Zd Zs (Zd Zs (Za 0) (Zk 1)) (Za 5)) (Zk 0)) (Zk 0))) (Zbp (ZI (Zd qNe (Zd ZaI (Za 6) (Zd Zs (Zd Zs (Zd Zs (Za 0) (Zk 1)) (Za 5)) (Zk 0))) (Zk 0))) Zae)) (ZF (ZaO false)) ZX)))) (ZF (ZaO true))))))
noncomputable def ZdT : List T → Option T := Z0 2 ZiO
theorem ZkW : SimF false ZfK ZdT := Zab (show S [] [] [] false ZiN ZiO from (ZC (Z7 (ZL (ZD Zb3 (Zc 0) (Zak))) (ZK (O' := []) (E.bool _) (by decide)) Z6) (ZC (Z2 (O' := []) (Z8 Zan (E.list (Zh (Zm _) Zp) (by decide)) (Zc 1)) (by decide) (by decide) (by decide)) (ZC (Zbv (Gs.range (Zh (ZaG Za6 (Zh (Zc 2) Zp)) Zp)) (PutOk.one (by decide)) (by decide) (by decide) (Zbv (Gs.range (Zh (ZaG Za6 (Zh (Zc 2) Zp)) Zp)) (PutOk.one (by decide)) (by decide) (by decide) (Z7 (ZbL (ZL (ZD Zc3 (Zy Zx (Zy Zx (Zy Zx (Zc 0) (Zm _)) (Zc 3)) (Zc 4)) (Zak))) (ZbL (ZL (ZD Zfa (Zy Zx (Zc 2) (Zc 3)) (Z8 Zan (Zy Zx (Zc 2) (Zc 4)) (Zy Zx (Zy Zx (Zy Zx (Zc 0) (Zm _)) (Zc 3)) (Zc 4))))) Zau)) (ZK (O' := []) (E.bool _) (by decide)) Z6))) (ZC (Zbv (Gs.range (Zh (ZaG Za6 (Zh (Zc 1) Zp)) Zp)) (PutOk.one (by decide)) (by decide) (by decide) (ZC (Z2 (O' := []) (ZD ZbC (Zy Zx (Zc 1) (Zc 5)) (Zy Zx (Zy Zx (Zy Zx (Zc 0) (Zm _)) (Zc 5)) (Zm _))) (by decide) (by decide) (by decide)) (ZC (Z7 (ZbL (ZL (ZD ZaA (Zy Zx (Zy Zx (Zy Zx (Zc 0) (Zm _)) (Zc 5)) (Zm _)) (Zm _))) (ZbL (ZL (ZD Zb2 (Zc 6) (Zm _))) Zau)) (ZK (O' := []) (E.bool _) (by decide)) Z6) (Z7 (ZbL (ZL (ZD Zfa (Zy Zx (Zy Zx (Zy Zx (Zc 0) (Zm _)) (Zc 5)) (Zm _)) (Zm _))) (ZbL (ZL (ZD Zb2 (ZD ZaX (Zc 6) (Zy Zx (Zy Zx (Zy Zx (Zc 0) (Zm _)) (Zc 5)) (Zm _))) (Zm _))) Zau)) (ZK (O' := []) (E.bool _) (by decide)) Z6)))) (ZK (O' := []) (E.bool _) (by decide)))))))
noncomputable def Zi8 : Sm := Zt (ZN 3 (Ze Zag (Zbr (Zg (Zw ZdN (Zg (Zb 0) (Zg (Zb 1) Zo))) Zo)) (Ze ZaR (Zbr (Zg (Zl 0) Zo)) (Zb 2)))) (Zt (ZN 4 (Zw ZbV (Zg (Zb 0) (Zg (Zb 1) (Zg (Zl 6) Zo))))) (Zt (ZQ (tOr (ZJ (Ze oEq (Zb 4) (Zl 0))) (tOr (ZJ (Ze oEq (Zb 2) (Zl 0))) ZbH)) (ZE (Zb 3)) ZW) (Zt (ZN 5 (Ze Zag (Zl 1) (Zw ZbV (Zg (Zb 0) (Zg (Ze Zag (Zb 1) (Zl 1)) (Zg (Zb 2) Zo)))))) (Zt (ZQ (ZJ (Ze oEq (Zb 4) (Zl 1))) (ZcE (Ze Zbu (Zw ZbV (Zg (Zb 0) (Zg (Ze Zag (Zb 1) (Zl 2)) (Zg (Zl 13) Zo)))) (Zl 6)) (Zb 3) (Zb 5)) ZW) (Zt (ZQ (tOr (ZJ (Ze oEq (Zb 4) (Zl 2))) (tOr (ZJ (Ze oEq (Zb 4) (Zl 3))) ZbH)) (Zt (ZN 6 (Ze Zag (Zl 1) (Zw ZbV (Zg (Zb 0) (Zg (Ze Zag (Zb 1) (Zl 2)) (Zg (Zb 2) Zo)))))) (Zt (ZcE (Zl 1) (Zb 3) (Zb 5)) (ZcE (Ze Zbu (Ze Zr (Zb 3) (Zb 6)) (Zl 1)) (Zb 3) (Zb 6)))) ZW) (Zt (ZQ (ZJ (Ze oEq (Zb 4) (Zl 4))) (ZaQ (ZaK (Zg (Zb 2) Zo)) (Zaf 7) (ZcE (Ze Zbu (Zw ZbV (Zg (Zb 0) (Zg (Ze Zag (Ze Zag (Zb 1) (Zl 1)) (Zb 7)) (Zg (Zl 7) Zo)))) (Zl 3)) (Zb 3) (Ze Zag (Zb 7) (Zl 1)))) ZW) (Zt (ZQ (ZJ (Ze oEq (Zb 4) (Zl 5))) (ZaQ (ZaK (Zg (Zb 2) Zo)) (Zaf 7) (ZcE (Ze Zbu (Zw ZbV (Zg (Zb 0) (Zg (Ze Zag (Ze Zag (Zb 1) (Zl 1)) (Zb 7)) (Zg (Zl 2000000001) Zo)))) (Zl 1000000000)) (Zb 3) (Ze Zag (Zb 7) (Zl 1)))) ZW) (ZE (Zb 3)))))))))
noncomputable def Zi9 : List V → Hp → Option (V × Hp) := ZY 3 Zi8
noncomputable def Zja : PS := (Zu (ZP 3 (pFl (Zd Zad (Zbs (Zf (Zv Zdm (Zf (Za 0) (Zf (Za 1) Zn))) Zn)) (Zd ZaE (Zbs (Zf (Zk 0) Zn)) (Za 2))))) (Zu (ZP 4 (Zv Zbq (Zf (Za 0) (Zf (Za 1) (Zf (Zk 6) Zn))))) (Zu (ZT (bOr (ZI (Zd qEq (Za 4) (Zk 0))) (bOr (ZI (Zd qEq (Za 2) (Zk 0))) ZbJ)) (ZF (Za 3)) ZX) (Zu (ZP 5 (Zd Zad (Zk 1) (Zv Zbq (Zf (Za 0) (Zf (Zd Zad (Za 1) (Zk 1)) (Zf (Za 2) Zn)))))) (Zu (ZT (ZI (Zd qEq (Za 4) (Zk 1))) (Zce 3 [] (Zd Za3 (Zv Zbq (Zf (Za 0) (Zf (Zd Zad (Za 1) (Zk 2)) (Zf (Zk 13) Zn)))) (Zk 6)) Zbc (Za 5)) ZX) (Zu (ZT (bOr (ZI (Zd qEq (Za 4) (Zk 2))) (bOr (ZI (Zd qEq (Za 4) (Zk 3))) ZbJ)) (Zu (ZP 6 (Zd Zad (Zk 1) (Zv Zbq (Zf (Za 0) (Zf (Zd Zad (Za 1) (Zk 2)) (Zf (Za 2) Zn)))))) (Zu (Zce 3 [] (Zk 1) Zbc (Za 5)) (Zce 3 [] (Zd Za3 (Zd Zs (Za 3) (Za 6)) (Zk 1)) Zbc (Za 6)))) ZX) (Zu (ZT (ZI (Zd qEq (Za 4) (Zk 4))) (ZaV (Zax (Zf (Za 2) Zn)) (Zac 7) (Zce 3 [] (Zd Za3 (Zv Zbq (Zf (Za 0) (Zf (Zd Zad (Zd Zad (Za 1) (Zk 1)) (Za 7)) (Zf (Zk 7) Zn)))) (Zk 3)) Zbc (Zd Zad (Za 7) (Zk 1)))) ZX) (Zu (ZT (ZI (Zd qEq (Za 4) (Zk 5))) (ZaV (Zax (Zf (Za 2) Zn)) (Zac 7) (Zce 3 [] (Zd Za3 (Zv Zbq (Zf (Za 0) (Zf (Zd Zad (Zd Zad (Za 1) (Zk 1)) (Za 7)) (Zf (Zk 2000000001) Zn)))) (Zk 1000000000)) Zbc (Zd Zad (Za 7) (Zk 1)))) ZX) (ZF (Za 3))))))))))
noncomputable def ZfU : List T → Option T := Z0 3 Zja
theorem Zpa : SimF false Zi9 ZfU := Zab (show S [] [3] [] false Zi8 Zja from (ZC (Zc6 (O' := [3]) (Zmr Zan (E.list (Zh (ZM Zfq (Zh (Zc 0) (Zh (Zc 1) Zp))) Zp) (by decide)) (Z8 Zbb (E.list (Zh (Zm _) Zp) (by decide)) (Zc 2))) (by decide)) (ZC (Z2 (O' := [3]) (ZM Zcg (Zh (Zc 0) (Zh (Zc 1) (Zh (Zm _) Zp)))) (by decide) (by decide) (by decide)) (ZC (Z7 (ZaM (ZL (ZD ZaA (Zc 4) (Zm _))) (ZaM (ZL (ZD ZaA (Zc 2) (Zm _))) Zb7)) (ZK (O' := [3]) (Zc 3) (by decide)) Z6) (ZC (Z2 (O' := [3]) (Z8 Zan (Zm _) (ZM Zcg (Zh (Zc 0) (Zh (Z8 Zan (Zc 1) (Zm _)) (Zh (Zc 2) Zp))))) (by decide) (by decide) (by decide)) (ZC (Z7 (ZL (ZD ZaA (Zc 4) (Zm _))) (S.put (O' := [3]) (by decide) (Zb0 (O' := []) (ZD ZbC (ZM Zcg (Zh (Zc 0) (Zh (Z8 Zan (Zc 1) (Zm _)) (Zh (Zm _) Zp)))) (Zm _)) (by decide)) Zco (Zc 5) (by decide) (by decide)) Z6) (ZC (Z7 (ZaM (ZL (ZD ZaA (Zc 4) (Zm _))) (ZaM (ZL (ZD ZaA (Zc 4) (Zm _))) Zb7)) (ZC (Z2 (O' := [3]) (Z8 Zan (Zm _) (ZM Zcg (Zh (Zc 0) (Zh (Z8 Zan (Zc 1) (Zm _)) (Zh (Zc 2) Zp))))) (by decide) (by decide) (by decide)) (ZC (S.put (O' := [3]) (by decide) (Zb0 (O' := []) (Zm _) (by decide)) Zco (Zc 5) (by decide) (by decide)) (S.put (O' := [3]) (by decide) (Zb0 (O' := []) (ZD ZbC (Zy Zx (Zc 3) (Zc 6)) (Zm _)) (by decide)) Zco (Zc 6) (by decide) (by decide)))) Z6) (ZC (Z7 (ZL (ZD ZaA (Zc 4) (Zm _))) (Zbv (Gs.range (Zh (Zc 2) Zp)) (PutOk.one (by decide)) (by decide) (by decide) (S.put (O' := [3]) (by decide) (Zb0 (O' := []) (ZD ZbC (ZM Zcg (Zh (Zc 0) (Zh (Z8 Zan (Z8 Zan (Zc 1) (Zm _)) (Zc 7)) (Zh (Zm _) Zp)))) (Zm _)) (by decide)) Zco (Z8 Zan (Zc 7) (Zm _)) (by decide) (by decide))) Z6) (ZC (Z7 (ZL (ZD ZaA (Zc 4) (Zm _))) (Zbv (Gs.range (Zh (Zc 2) Zp)) (PutOk.one (by decide)) (by decide) (by decide) (S.put (O' := [3]) (by decide) (Zb0 (O' := []) (ZD ZbC (ZM Zcg (Zh (Zc 0) (Zh (Z8 Zan (Z8 Zan (Zc 1) (Zm _)) (Zc 7)) (Zh (Zm _) Zp)))) (Zm _)) (by decide)) Zco (Z8 Zan (Zc 7) (Zm _)) (by decide) (by decide))) Z6) (ZK (O' := [3]) (Zc 3) (by decide)))))))))))
noncomputable def ZgX : Sm := ZE (Ze oEq (Zw ZeH (Zg (Zao (Zbe (Zdc (Zb 0) 1)) (Zaf 100) (ZJ (Ze oNe (Zb 100) (Zl 0))) (Zb 100)) Zo)) (Zbr (Zg (eUn ZdD (Zl 1)) (Zg (Zl 1) Zo))))
noncomputable def ZgY : List V → Hp → Option (V × Hp) := ZY 1 ZgX
noncomputable def ZgZ : PS := (ZF (Zd qEq (Zv Zgf (Zf (Zah (ZaY (Zdy (Za 0) 1)) (Zac 100) (ZI (Zd qNe (Za 100) (Zk 0))) (Za 100)) Zn)) (Zbs (Zf (pUn ZdH (Zk 1)) (Zf (Zk 1) Zn)))))
noncomputable def Zfi : List T → Option T := Z0 1 ZgZ
theorem Zm8 : SimF false ZgY Zfi := Zab (show S [] [] [] false ZgX ZgZ from (ZK (O' := []) (ZD ZaA (Zf8 ZpS (Zh (Za5 (Gs.seq (Zj6 (Zc 0))) (PutOk.one (by decide)) (by decide) (ZL (ZD Zb2 (Zc 100) (Zm _))) (Zc 100)) Zp)) (E.list (Zh (ZeZ Ze2 (Zm _)) (Zh (Zm _) Zp)) (by decide))) (by decide)))
noncomputable def Zg8 : Sm := Zt (ZN 1 (Ze Zr (Zb 0) (Zl 0))) (ZE (Zao (ZaK (Zg (Zl 1) (Zg (Zw ZaN (Zg (Zb 1) Zo)) Zo))) (Zaf 100) Zaj (ZaH (Zg (Zw Zer (Zg (Ze Zr (Ze Zr (Zb 1) (Zl 0)) (Zb 100)) (Zg (eUn ZdD (Zl 1)) Zo))) (Zg (Ze Zr (Ze Zr (Zb 1) (Zb 100)) (Zl 0)) Zo)))))
noncomputable def Zg9 : List V → Hp → Option (V × Hp) := ZY 1 Zg8
noncomputable def Zha : PS := (Zu (ZP 1 (Zd Zs (Za 0) (Zk 0))) (ZF (Zah (Zax (Zf (Zk 1) (Zf (Zv ZaB (Zf (Za 1) Zn)) Zn))) (Zac 100) Zae (ZaU (Zf (Zv ZdQ (Zf (Zd Zs (Zd Zs (Za 1) (Zk 0)) (Za 100)) (Zf (pUn ZdH (Zk 1)) Zn))) (Zf (Zd Zs (Zd Zs (Za 1) (Za 100)) (Zk 0)) Zn))))))
noncomputable def Zfl : List T → Option T := Z0 1 Zha
theorem Znh : SimF false Zg9 Zfl := Zab (show S [] [] [] false Zg8 Zha from (ZC (Z2 (O' := []) (Zy Zx (Zc 0) (Zm _)) (by decide) (by decide) (by decide)) (ZK (O' := []) (Za5 (Gs.range (Zh (Zm _) (Zh (ZaG Za6 (Zh (Zc 1) Zp)) Zp))) (PutOk.one (by decide)) (by decide) Zau (E.tup (Zh (ZM Zh9 (Zh (Zy Zx (Zy Zx (Zc 1) (Zm _)) (Zc 100)) (Zh (ZeZ Ze2 (Zm _)) Zp))) (Zh (Zy Zx (Zy Zx (Zc 1) (Zc 100)) (Zm _)) Zp)) (by decide))) (by decide))))
noncomputable def ZiQ : Sm := Zt (ZQ (ZJ (Zw ZgY (Zg (Zb 1) Zo))) (ZE (Zw Zdn (Zg (Ze Zr (Ze Zr (Ze Zr (Zb 0) (Zl 0)) (ZeQ (Zb 1) (Zl 1) (Zl 1))) (ZeQ (Zb 1) (eUn ZdD (Zl 1)) (Zl 1))) (Zg (Ze Zr (Zb 1) (Zl 0)) Zo)))) ZW) (ZE (Ze Zr (Zw Zhi (Zg (Zb 1) (Zg (Zw Zg9 (Zg (Zb 0) Zo)) Zo))) (Zl 1)))
noncomputable def ZiR : List V → Hp → Option (V × Hp) := ZY 2 ZiQ
noncomputable def ZiS : PS := (Zu (ZT (ZI (Zv Zfi (Zf (Za 1) Zn))) (ZF (Zv ZcX (Zf (Zd Zs (Zd Zs (Zd Zs (Za 0) (Zk 0)) (ZeR (Za 1) (Zk 1) (Zk 1))) (ZeR (Za 1) (pUn ZdH (Zk 1)) (Zk 1))) (Zf (Zd Zs (Za 1) (Zk 0)) Zn)))) ZX) (ZF (Zd Zs (Zv Zfo (Zf (Za 1) (Zf (Zv Zfl (Zf (Za 0) Zn)) Zn))) (Zk 1))))
noncomputable def ZfL : List T → Option T := Z0 2 ZiS
theorem Zox : SimF false ZiR ZfL := Zab (show S [] [] [] false ZiQ ZiS from (ZC (Z7 (ZL (ZM Zm8 (Zh (Zc 1) Zp))) (ZK (O' := []) (ZM Zev (Zh (Zy Zx (Zy Zx (Zy Zx (Zc 0) (Zm _)) (E.index (Zc 1) (Zm _) (Zm _))) (E.index (Zc 1) (ZeZ Ze2 (Zm _)) (Zm _))) (Zh (Zy Zx (Zc 1) (Zm _)) Zp))) (by decide)) Z6) (ZK (O' := []) (Zy Zx (ZM Znr (Zh (Zc 1) (Zh (ZM Znh (Zh (Zc 0) Zp)) Zp))) (Zm _)) (by decide))))
noncomputable def Zic : Sm := ZE (Zao (Zbe (Zb 0)) (Zaf 100) Zaj (Ze ZaR (Zb 100) (Zb 1)))
noncomputable def Zid : List V → Hp → Option (V × Hp) := ZY 2 Zic
noncomputable def Zie : PS := (ZF (Zah (ZaY (Za 0)) (Zac 100) Zae (Zd ZaE (Za 100) (Za 1))))
noncomputable def ZfB : List T → Option T := Z0 2 Zie
theorem Zn3 : SimF false Zid ZfB := Zab (show S [] [] [] false Zic Zie from (ZK (O' := []) (Za5 (Gs.seq (Zc 0)) (PutOk.one (by decide)) (by decide) Zau (Z8 Zbb (Zc 100) (Zc 1))) (by decide)))
noncomputable def Zif : Sm := ZE (Ze Zag (Ze Zr (Zb 0) (Zl 0)) (Zw Ze7 (Zg (Zao (ZaK (Zg (Zw ZaN (Zg (Zb 1) Zo)) Zo)) (Zaf 100) Zaj (Ze ZaR (Ze Zr (Zb 0) (Ze Zag (Zb 100) (Zl 1))) (Ze Zr (Zb 1) (Zb 100)))) Zo)))
noncomputable def Zig : List V → Hp → Option (V × Hp) := ZY 2 Zif
noncomputable def Zih : PS := (ZF (Zd Zad (Zd Zs (Za 0) (Zk 0)) (Zv ZgM (Zf (Zah (Zax (Zf (Zv ZaB (Zf (Za 1) Zn)) Zn)) (Zac 100) Zae (Zd ZaE (Zd Zs (Za 0) (Zd Zad (Za 100) (Zk 1))) (Zd Zs (Za 1) (Za 100)))) Zn))))
noncomputable def ZfC : List T → Option T := Z0 2 Zih
theorem Zn4 : SimF false Zig ZfC := Zab (show S [] [] [] false Zif Zih from (ZK (O' := []) (Z8 Zan (Zy Zx (Zc 0) (Zm _)) (ZaG Zr3 (Zh (Za5 (Gs.range (Zh (ZaG Za6 (Zh (Zc 1) Zp)) Zp)) (PutOk.one (by decide)) (by decide) Zau (Z8 Zbb (Zy Zx (Zc 0) (Z8 Zan (Zc 100) (Zm _))) (Zy Zx (Zc 1) (Zc 100)))) Zp))) (by decide)))
noncomputable def ZiT : Sm := ZE (Zao (ZcT (Zb 0) (Zb 1)) (ZbO 100 101) Zaj (Ze Zag (Zb 100) (Zb 101)))
noncomputable def ZiU : List V → Hp → Option (V × Hp) := ZY 2 ZiT
noncomputable def ZiV : PS := (ZF (Zah (ZcU (Za 0) (Za 1)) (Zcb 100 101) Zae (Zd Zad (Za 100) (Za 101))))
noncomputable def ZfM : List T → Option T := Z0 2 ZiV
theorem Zoy : SimF false ZiU ZfM := Zab (show S [] [] [] false ZiT ZiV from (ZK (O' := []) (Za5 (Gs.zip (Zc 0) (Zc 1)) (PutOk.two (by decide) (by decide) (by decide)) (by decide) Zau (Z8 Zan (Zc 100) (Zc 101))) (by decide)))
noncomputable def ZiW : Sm := ZE (Zw ZiU (Zg (Zb 0) (Zg (Zw Zid (Zg (Zb 1) (Zg (eUn ZdD (Zl 1)) Zo))) Zo)))
noncomputable def ZiX : List V → Hp → Option (V × Hp) := ZY 2 ZiW
noncomputable def ZiY : PS := (ZF (Zv ZfM (Zf (Za 0) (Zf (Zv ZfB (Zf (Za 1) (Zf (pUn ZdH (Zk 1)) Zn))) Zn))))
noncomputable def ZfN : List T → Option T := Z0 2 ZiY
theorem Zoz : SimF false ZiX ZfN := Zab (show S [] [] [] false ZiW ZiY from (ZK (O' := []) (ZM Zoy (Zh (Zc 0) (Zh (ZM Zn3 (Zh (Zc 1) (Zh (ZeZ Ze2 (Zm _)) Zp))) Zp))) (by decide)))
noncomputable def ZhD : Sm := ZE (Zao (Zbe (Zb 2)) (Zaf 100) Zaj (Zw ZiR (Zg (Zb 0) (Zg (Zw ZiX (Zg (Zb 1) (Zg (Zb 100) Zo))) Zo))))
noncomputable def ZhE : List V → Hp → Option (V × Hp) := ZY 3 ZhD
noncomputable def ZhF : PS := (ZF (Zah (ZaY (Za 2)) (Zac 100) Zae (Zv ZfL (Zf (Za 0) (Zf (Zv ZfN (Zf (Za 1) (Zf (Za 100) Zn))) Zn)))))
noncomputable def Zft : List T → Option T := Z0 3 ZhF
theorem ZnI : SimF false ZhE Zft := Zab (show S [] [] [] false ZhD ZhF from (ZK (O' := []) (Za5 (Gs.seq (Zc 2)) (PutOk.one (by decide)) (by decide) Zau (ZM Zox (Zh (Zc 0) (Zh (ZM Zoz (Zh (Zc 1) (Zh (Zc 100) Zp))) Zp)))) (by decide)))
noncomputable def Zjb : Sm := ZE (Zao (ZaK (Zg (Ze Zag (Zb 1) (Zl 1)) Zo)) (Zaf 100) Zaj (eIf (Zbn (ZJ (Ze oGt (Zb 0) (Zl 0))) (Zbn (ZJ (Ze oEq (Zb 100) (Zb 0))) Zaj)) (Zl 1) (Zl 0)))
noncomputable def Zjc : List V → Hp → Option (V × Hp) := ZY 2 Zjb
noncomputable def Zjd : PS := (ZF (Zah (Zax (Zf (Zd Zad (Za 1) (Zk 1)) Zn)) (Zac 100) Zae (pIf (Zbp (ZI (Zd qGt (Za 0) (Zk 0))) (Zbp (ZI (Zd qEq (Za 100) (Za 0))) Zae)) (Zk 1) (Zk 0))))
noncomputable def ZfV : List T → Option T := Z0 2 Zjd
theorem Zpb : SimF false Zjc ZfV := Zab (show S [] [] [] false Zjb Zjd from (ZK (O' := []) (Za5 (Gs.range (Zh (Z8 Zan (Zc 1) (Zm _)) Zp)) (PutOk.one (by decide)) (by decide) Zau (Ze0 (ZbL (ZL (ZD Zfa (Zc 0) (Zm _))) (ZbL (ZL (ZD ZaA (Zc 100) (Zc 0))) Zau)) (E.sh (Zm _)) (E.sh (Zm _)))) (by decide)))
noncomputable def Zjv : Sm := Zt (ZQ (ZJ (Ze oIs (Zb 0) (Z3))) (ZE (Z3)) ZW) (Zt (ZN 2 (Ze Zag (Zbr (Zg (Zw Zjc (Zg (Zl 0) (Zg (Zw ZaN (Zg (Ze Zr (Zb 0) (Zl 1)) Zo)) Zo))) Zo)) (Zb 1))) (Zt (ZN 3 (Zao (Zbe (Zb 2)) (Zaf 100) Zaj (Zw ZhE (Zg (Zb 0) (Zg (Zb 100) (Zg (Zb 2) Zo)))))) (Zt (ZN 4 (Zao (Zbe (Zb 1)) (Zaf 102) Zaj (Zw ZiL (Zg (Zb 102) (Zg (Ze Zr (Zb 0) (Zl 1)) Zo))))) (ZE (Zw ZjU (Zg (ZaH (Zg (Zb 3) (Zg (Zb 4) Zo))) Zo))))))
noncomputable def Zf2 : List V → Hp → Option (V × Hp) := ZY 2 Zjv
noncomputable def Zjw : PS := (Zu (ZT (ZI (Zd qIs (Za 0) (Zaa))) (ZF (Zaa)) ZX) (Zu (ZP 2 (Zd Zad (Zbs (Zf (Zv ZfV (Zf (Zk 0) (Zf (Zv ZaB (Zf (Zd Zs (Za 0) (Zk 1)) Zn)) Zn))) Zn)) (Za 1))) (Zu (ZP 3 (Zah (ZaY (Za 2)) (Zac 100) Zae (Zv Zft (Zf (Za 0) (Zf (Za 100) (Zf (Za 2) Zn)))))) (Zu (ZP 4 (Zah (ZaY (Za 1)) (Zac 102) Zae (Zv ZfJ (Zf (Za 102) (Zf (Zd Zs (Za 0) (Zk 1)) Zn))))) (ZF (Zv Zd1 (Zf (ZaU (Zf (Za 3) (Zf (Za 4) Zn))) Zn)))))))
noncomputable def Zdq : List T → Option T := Z0 2 Zjw
theorem Zlz : SimF true Zf2 Zdq := Zab (show S [] [] [] true Zjv Zjw from (ZC (Z7 (ZL (ZD Zb3 (Zc 0) (Zak))) (ZcP (O' := []) (Zak) (by decide) (by decide)) Z6) (ZC (Z2 (O' := []) (Z8 Zan (E.list (Zh (ZM Zpb (Zh (Zm _) (Zh (ZaG Za6 (Zh (Zy Zx (Zc 0) (Zm _)) Zp)) Zp))) Zp) (by decide)) (Zc 1)) (by decide) (by decide) (by decide)) (ZC (Z2 (O' := []) (Za5 (Gs.seq (Zc 2)) (PutOk.one (by decide)) (by decide) Zau (ZM ZnI (Zh (Zc 0) (Zh (Zc 100) (Zh (Zc 2) Zp))))) (by decide) (by decide) (by decide)) (ZC (Z2 (O' := []) (Za5 (Gs.seq (Zc 1)) (PutOk.one (by decide)) (by decide) Zau (ZM Zov (Zh (Zc 102) (Zh (Zy Zx (Zc 0) (Zm _)) Zp)))) (by decide) (by decide) (by decide)) (ZcP (O' := []) (Zeb ZqK (Zh (E.tup (Zh (Zc 3) (Zh (Zc 4) Zp)) (by decide)) Zp)) (by decide) (by decide)))))))
noncomputable def Zhq : Sm := Zt (ZN 2 (Ze ZaR (Zbr (Zg (Zl 0) Zo)) (Ze Zag (Zb 1) (Zl 1)))) (Zt (ZcE (Zl 1) (Zb 2) (Zb 0)) (ZE (Zb 2)))
noncomputable def Zhr : List V → Hp → Option (V × Hp) := ZY 2 Zhq
noncomputable def Zhs : PS := (Zu (ZP 2 (pFl (Zd ZaE (Zbs (Zf (Zk 0) Zn)) (Zd Zad (Za 1) (Zk 1))))) (Zu (Zce 2 [] (Zk 1) Zbc (Za 0)) (ZF (Za 2))))
noncomputable def Zek : List T → Option T := Z0 2 Zhs
theorem Znu : SimF false Zhr Zek := Zab (show S [] [2] [] false Zhq Zhs from (ZC (Zc6 (O' := [2]) (Zmr Zbb (E.list (Zh (Zm _) Zp) (by decide)) (Z8 Zan (Zc 1) (Zm _))) (by decide)) (ZC (S.put (O' := [2]) (by decide) (Zb0 (O' := []) (Zm _) (by decide)) Zco (Zc 0) (by decide) (by decide)) (ZK (O' := [2]) (Zc 2) (by decide)))))
noncomputable def ZhG : Sm := Zt (ZN 2 (Ze Zag (Zbr (Zg (Zl 0) Zo)) (Zb 1))) (Zt (ZN 3 (Zbr Zo)) (Zt (ZaQ (Zbe (Zb 2)) (Zaf 4) (ZdF (Zdr (Zb 3) (Zao (Zbe (Zb 2)) (Zaf 102) Zaj (Ze Zr (Ze Zr (Ze Zr (Zb 0) (Zl 0)) (Zb 4)) (Zb 102)))))) (ZE (ZaH (Zg (Zb 3) (Zg (Zao (Zbe (Zb 1)) (Zaf 100) Zaj (Ze Zr (Ze Zr (Zb 0) (Zl 1)) (Ze Zbu (Zb 100) (Zl 1)))) Zo))))))
noncomputable def ZhH : List V → Hp → Option (V × Hp) := ZY 2 ZhG
noncomputable def ZhI : PS := (Zu (ZP 2 (Zd Zad (Zbs (Zf (Zk 0) Zn)) (Za 1))) (Zu (ZP 3 (Zbs Zn)) (Zu (ZaV (ZaY (Za 2)) (Zac 4) (ZcV 3 [] Zbc (Zah (ZaY (Za 2)) (Zac 102) Zae (Zcm (Zd Zs (Zd Zs (Zd Zs (Za 0) (Zk 0)) (Za 4)) (Za 102)))))) (ZF (ZaU (Zf (Za 3) (Zf (Zah (ZaY (Za 1)) (Zac 100) Zae (Zd Zs (Zd Zs (Za 0) (Zk 1)) (Zd Za3 (Za 100) (Zk 1)))) Zn)))))))
noncomputable def Zen : List T → Option T := Z0 2 ZhI
theorem ZnJ : SimF false ZhH Zen := Zab (show S [] [3] [] false ZhG ZhI from (ZC (Z2 (O' := []) (Z8 Zan (E.list (Zh (Zm _) Zp) (by decide)) (Zc 1)) (by decide) (by decide) (by decide)) (ZC (Zc6 (O' := [3]) (E.list Zp (by decide)) (by decide)) (ZC (Zbv (Gs.seq (Zc 2)) (PutOk.one (by decide)) (by decide) (by decide) (Zgy (O' := [3]) (by decide) Zco (Zb0 (O' := []) (ZeE (Gs.seq (Zc 2)) (PutOk.one (by decide)) (by decide) Zau (E.flat (Zy Zx (Zy Zx (Zy Zx (Zc 0) (Zm _)) (Zc 4)) (Zc 102)))) (by decide)) (by decide) (by decide))) (ZK (O' := [3]) (E.tup (Zh (Zc 3) (Zh (Za5 (Gs.seq (Zc 1)) (PutOk.one (by decide)) (by decide) Zau (Zy Zx (Zy Zx (Zc 0) (Zm _)) (ZD ZbC (Zc 100) (Zm _)))) Zp)) (by decide)) (by decide))))))
noncomputable def Zjx : Sm := Zt (ZN 1 (Ze Zr (Zbr (Zg (Zl 0) (Zg (Zl 1) (Zg (Zl 2) (Zg (Zl 1) (Zg (Zl 2) (Zg (Zl 3) (Zg (Zl 2) (Zg (Zl 1) (Zg (Zl 4) Zo)))))))))) (Zw ZbV (Zg (Zb 0) (Zg (Zl 0) (Zg (Zl 9) Zo)))))) (Zt (ZN 2 (Zao (ZaK (Zg (Zb 1) Zo)) (Zaf 100) Zaj (Zw ZdN (Zg (Zb 0) (Zg (Ze Zag (Zl 2) (Zb 100)) Zo))))) (Zt (ZN 3 (Zw Ziv (Zg (Zb 0) (Zg (Zl 33) (Zg (Zb 2) Zo))))) (Zt (ZN 4 (Zao (ZaK (Zg (Ze Zr (Zbr (Zg (Zl 0) (Zg (Zl 1) (Zg (Zl 2) (Zg (Zl 3) (Zg (Zl 2) (Zg (Zl 5) Zo))))))) (Zw ZbV (Zg (Zb 0) (Zg (Zl 1) (Zg (Zl 6) Zo))))) Zo)) (Zaf 102) Zaj (Zw Zi9 (Zg (Zb 0) (Zg (Ze Zag (Zl 7) (Ze ZaR (Zl 5) (Zb 102))) (Zg (Zb 1) Zo)))))) (Zt (ZN 5 (Zw Ziy (Zg (Zb 3) Zo))) (Zt (ZN 6 (Zao (Zbe (Zb 4)) (Zaf 104) Zaj (Zw Zc5 (Zg (Zb 104) Zo)))) (Zt (ZN 7 (Zw Zf2 (Zg (Zb 3) (Zg (Zb 6) Zo)))) (Zt (ZQ (tOr (ZJ (Ze oNe (Zb 3) (Zb 5))) (tOr (ZJ (Ze oNe (Zb 6) (Zb 4))) (tOr (Zbt (ZJ (Zw ZfA (Zg (Zb 7) (Zg (Zw ZaN (Zg (Zb 4) Zo)) Zo))))) ZbH))) (ZE (ZaL false)) ZW) (Zt (ZQ (Zbt (ZJ (Zw ZfK (Zg (Zb 7) (Zg (Zao (Zbe (Zb 4)) (Zaf 112) Zaj (Zw Zig (Zg (Zb 112) (Zg (Zb 2) Zo)))) Zo))))) (ZE (ZaL false)) ZW) (Zt (ZQ (ZJ (Ze oEq (Zb 1) (Zl 0))) (ZE (ZaL true)) ZW) (Zt (ZN 8 (Zw ZbV (Zg (Zb 0) (Zg (Zl 6) (Zg (Zb 1) Zo))))) (Zt (ZN 9 (Zao (ZaK (Zg (Zb 1) Zo)) (Zaf 106) Zaj (Ze Zag (Zl 1) (Ze oMod (Ze Zag (Zb 8) (Zb 106)) (Zb 1))))) (Zt (ZQ (ZJ (Ze oEq (Zw ZbV (Zg (Zb 0) (Zg (Zl 0) (Zg (Zl 2) Zo)))) (Zl 1))) (ZN 9 (Zao (Zbe (Zb 9)) (Zaf 108) Zaj (Ze Zbu (Ze Zag (Zb 1) (Zl 1)) (Zb 108)))) ZW) (Zt (ZN 7 (Zw Zf2 (Zg (Zb 3) (Zg (Zao (Zbe (Zb 9)) (Zaf 110) Zaj (Zw Zhr (Zg (Zb 110) (Zg (Zb 1) Zo)))) Zo)))) (Zt (ZQ (tOr (Zbt (ZJ (Zw ZfA (Zg (Zb 7) (Zg (Zb 1) Zo))))) (tOr (Zbt (ZJ (Zw ZfK (Zg (Zb 7) (Zg (Zao (Zbe (Zb 9)) (Zaf 114) Zaj (Ze Zr (Zb 2) (Ze Zbu (Zb 114) (Zl 1)))) Zo))))) ZbH)) (ZE (ZaL false)) ZW) (ZE (ZcS (Zw Zhw (Zg (Zb 7) (Zg (Zw ZhH (Zg (Zb 3) (Zg (Zb 9) Zo))) Zo))) (Ze oEq (Zb 3) (Zb 5))))))))))))))))))
noncomputable def ZlA : List V → Hp → Option (V × Hp) := ZY 1 Zjx
noncomputable def Zjy : PS := (Zu (ZP 1 (Zd Zs (Zbs (Zf (Zk 0) (Zf (Zk 1) (Zf (Zk 2) (Zf (Zk 1) (Zf (Zk 2) (Zf (Zk 3) (Zf (Zk 2) (Zf (Zk 1) (Zf (Zk 4) Zn)))))))))) (Zv Zbq (Zf (Za 0) (Zf (Zk 0) (Zf (Zk 9) Zn)))))) (Zu (ZP 2 (Zah (Zax (Zf (Za 1) Zn)) (Zac 100) Zae (Zv Zdm (Zf (Za 0) (Zf (Zd Zad (Zk 2) (Za 100)) Zn))))) (Zu (ZP 3 (Zv ZfE (Zf (Za 0) (Zf (Zk 33) (Zf (Za 2) Zn))))) (Zu (ZP 4 (Zah (Zax (Zf (Zd Zs (Zbs (Zf (Zk 0) (Zf (Zk 1) (Zf (Zk 2) (Zf (Zk 3) (Zf (Zk 2) (Zf (Zk 5) Zn))))))) (Zv Zbq (Zf (Za 0) (Zf (Zk 1) (Zf (Zk 6) Zn))))) Zn)) (Zac 102) Zae (Zv ZfU (Zf (Za 0) (Zf (Zd Zad (Zk 7) (Zd ZaE (Zk 5) (Za 102))) (Zf (Za 1) Zn)))))) (Zu (ZP 5 (Zv ZfF (Zf (Za 3) Zn))) (Zu (ZP 6 (Zah (ZaY (Za 4)) (Zac 104) Zae (Zv Zdt (Zf (Za 104) Zn)))) (Zu (ZP 7 (Zv Zdq (Zf (Za 3) (Zf (Za 6) Zn)))) (Zu (ZT (bOr (ZI (Zd qNe (Za 3) (Za 5))) (bOr (ZI (Zd qNe (Za 6) (Za 4))) (bOr (Zbg (ZI (Zv ZdR (Zf (Za 7) (Zf (Zv ZaB (Zf (Za 4) Zn)) Zn))))) ZbJ))) (ZF (ZaO false)) ZX) (Zu (ZT (Zbg (ZI (Zv ZdT (Zf (Za 7) (Zf (Zah (ZaY (Za 4)) (Zac 112) Zae (Zv ZfC (Zf (Za 112) (Zf (Za 2) Zn)))) Zn))))) (ZF (ZaO false)) ZX) (Zu (ZT (ZI (Zd qEq (Za 1) (Zk 0))) (ZF (ZaO true)) ZX) (Zu (ZP 8 (Zv Zbq (Zf (Za 0) (Zf (Zk 6) (Zf (Za 1) Zn))))) (Zu (ZP 9 (Zah (Zax (Zf (Za 1) Zn)) (Zac 106) Zae (Zd Zad (Zk 1) (Zd ZaI (Zd Zad (Za 8) (Za 106)) (Za 1))))) (Zu (ZT (ZI (Zd qEq (Zv Zbq (Zf (Za 0) (Zf (Zk 0) (Zf (Zk 2) Zn)))) (Zk 1))) (ZP 9 (Zah (ZaY (Za 9)) (Zac 108) Zae (Zd Za3 (Zd Zad (Za 1) (Zk 1)) (Za 108)))) ZX) (Zu (ZP 7 (Zv Zdq (Zf (Za 3) (Zf (Zah (ZaY (Za 9)) (Zac 110) Zae (Zv Zek (Zf (Za 110) (Zf (Za 1) Zn)))) Zn)))) (Zu (ZT (bOr (Zbg (ZI (Zv ZdR (Zf (Za 7) (Zf (Za 1) Zn))))) (bOr (Zbg (ZI (Zv ZdT (Zf (Za 7) (Zf (Zah (ZaY (Za 9)) (Zac 114) Zae (Zd Zs (Za 2) (Zd Za3 (Za 114) (Zk 1)))) Zn))))) ZbJ)) (ZF (ZaO false)) ZX) (ZF ((ZcF (Zv Zel (Zf (Za 7) (Zf (Zv Zen (Zf (Za 3) (Zf (Za 9) Zn))) Zn))) (Zd qEq (Za 3) (Za 5))))))))))))))))))))
noncomputable def Zjz : List T → Option T := Z0 1 Zjy
theorem ZpV : SimF false ZlA Zjz := Zab (show S [] [] [] false Zjx Zjy from (ZC (Z2 (O' := []) (Zy Zx (E.list (Zh (Zm _) (Zh (Zm _) (Zh (Zm _) (Zh (Zm _) (Zh (Zm _) (Zh (Zm _) (Zh (Zm _) (Zh (Zm _) (Zh (Zm _) Zp))))))))) (by decide)) (ZM Zcg (Zh (Zc 0) (Zh (Zm _) (Zh (Zm _) Zp))))) (by decide) (by decide) (by decide)) (ZC (Z2 (O' := []) (Za5 (Gs.range (Zh (Zc 1) Zp)) (PutOk.one (by decide)) (by decide) Zau (ZM Zfq (Zh (Zc 0) (Zh (Z8 Zan (Zm _) (Zc 100)) Zp)))) (by decide) (by decide) (by decide)) (ZC (Z2 (O' := []) (ZM Zor (Zh (Zc 0) (Zh (Zm _) (Zh (Zc 2) Zp)))) (by decide) (by decide) (by decide)) (ZC (Z2 (O' := []) (Za5 (Gs.range (Zh (Zy Zx (E.list (Zh (Zm _) (Zh (Zm _) (Zh (Zm _) (Zh (Zm _) (Zh (Zm _) (Zh (Zm _) Zp)))))) (by decide)) (ZM Zcg (Zh (Zc 0) (Zh (Zm _) (Zh (Zm _) Zp))))) Zp)) (PutOk.one (by decide)) (by decide) Zau (ZM Zpa (Zh (Zc 0) (Zh (Z8 Zan (Zm _) (Z8 Zbb (Zm _) (Zc 102))) (Zh (Zc 1) Zp))))) (by decide) (by decide) (by decide)) (ZC (Z2 (O' := []) (ZM Zos (Zh (Zc 3) Zp)) (by decide) (by decide) (by decide)) (ZC (Z2 (O' := []) (Za5 (Gs.seq (Zc 4)) (PutOk.one (by decide)) (by decide) Zau (Zf8 ZjK (Zh (Zc 104) Zp))) (by decide) (by decide) (by decide)) (ZC (Z2 (O' := []) (ZM Zlz (Zh (Zc 3) (Zh (Zc 6) Zp))) (by decide) (by decide) (by decide)) (ZC (Z7 (ZaM (ZL (ZD Zb2 (Zc 3) (Zc 5))) (ZaM (ZL (ZD Zb2 (Zc 6) (Zc 4))) (ZaM (ZbK (ZL (ZM ZkK (Zh (Zc 7) (Zh (ZaG Za6 (Zh (Zc 4) Zp)) Zp))))) Zb7))) (ZK (O' := []) (E.bool _) (by decide)) Z6) (ZC (Z7 (ZbK (ZL (ZM ZkW (Zh (Zc 7) (Zh (Za5 (Gs.seq (Zc 4)) (PutOk.one (by decide)) (by decide) Zau (ZM Zn4 (Zh (Zc 112) (Zh (Zc 2) Zp)))) Zp))))) (ZK (O' := []) (E.bool _) (by decide)) Z6) (ZC (Z7 (ZL (ZD ZaA (Zc 1) (Zm _))) (ZK (O' := []) (E.bool _) (by decide)) Z6) (ZC (Z2 (O' := []) (ZM Zcg (Zh (Zc 0) (Zh (Zm _) (Zh (Zc 1) Zp)))) (by decide) (by decide) (by decide)) (ZC (Z2 (O' := []) (Za5 (Gs.range (Zh (Zc 1) Zp)) (PutOk.one (by decide)) (by decide) Zau (Z8 Zan (Zm _) (ZD ZaX (Z8 Zan (Zc 8) (Zc 106)) (Zc 1)))) (by decide) (by decide) (by decide)) (ZC (Z7 (ZL (ZD ZaA (ZM Zcg (Zh (Zc 0) (Zh (Zm _) (Zh (Zm _) Zp)))) (Zm _))) (Z2 (O' := []) (Za5 (Gs.seq (Zc 9)) (PutOk.one (by decide)) (by decide) Zau (ZD ZbC (Z8 Zan (Zc 1) (Zm _)) (Zc 108))) (by decide) (by decide) (by decide)) Z6) (ZC (Z2 (O' := []) (ZM Zlz (Zh (Zc 3) (Zh (Za5 (Gs.seq (Zc 9)) (PutOk.one (by decide)) (by decide) Zau (ZM Znu (Zh (Zc 110) (Zh (Zc 1) Zp)))) Zp))) (by decide) (by decide) (by decide)) (ZC (Z7 (ZaM (ZbK (ZL (ZM ZkK (Zh (Zc 7) (Zh (Zc 1) Zp))))) (ZaM (ZbK (ZL (ZM ZkW (Zh (Zc 7) (Zh (Za5 (Gs.seq (Zc 9)) (PutOk.one (by decide)) (by decide) Zau (Zy Zx (Zc 2) (ZD ZbC (Zc 114) (Zm _)))) Zp))))) Zb7)) (ZK (O' := []) (E.bool _) (by decide)) Z6) (ZK (O' := []) ((Ze1 (E.sh (ZM ZnG (Zh (Zc 7) (Zh (ZM ZnJ (Zh (Zc 3) (Zh (Zc 9) Zp))) Zp)))) (E.sh (ZD ZaA (Zc 3) (Zc 5))))) (by decide))))))))))))))))))
end L
end
section
set_option maxRecDepth 100000
set_option maxHeartbeats 4000000
set_option linter.all false
set_option autoImplicit false
open PySem PySem.W PyProof.Rows PM TM My
local macro_rules | `(tactic| walk_at "tkrd") => `(tactic| first | with_reducible assumption | with_reducible exact Zch | ((with_reducible apply ZqE); decide; walk_at "tkrd") | ((with_reducible apply ZpJ); decide; walk_at "tkrd") | exact rfl | assumption)
local macro_rules | `(tactic| walk_at "tkyes") => `(tactic| first | rfl | (with_reducible assumption) | (simp only [Bool.not_eq_true', Bool.not_eq_false', decide_eq_true_eq, decide_eq_false_iff_not, beq_iff_eq, beq_eq_false_iff_ne, ne_eq, Bool.not_true, Bool.not_false, not_false_eq_true, not_true_eq_false, bne_iff_ne, Decidable.not_not, List.length_map] <;> first | done | omega | assumption))
local macro_rules | `(tactic| walk_at "tkflat") => `(tactic| first | rfl | exact ZjR | exact ZfZ | exact Zio fun i hi => by first | rfl | exact ZjR | exact ZfZ)
local macro_rules | `(tactic| walk_at "tkop") => `(tactic| first | with_reducible refine Zmx ?_ | with_reducible refine Zrz ?_ | with_reducible refine ZrA ?_ | with_reducible refine Zsa ?_ | with_reducible refine Zsb ?_ | with_reducible refine Zsc ?_ | with_reducible refine tk_ge ?_ | with_reducible refine ZrC ?_ | with_reducible refine tk_max ?_ | with_reducible refine tk_min ?_ | with_reducible refine Zsd ?_ | with_reducible refine Zse ?_ | with_reducible refine tk_eqb ?_ | with_reducible refine tk_neb ?_ | with_reducible refine ZrD ?_ | with_reducible refine ZrE ?_ | with_reducible refine ZrF ?_ | with_reducible refine ZrG ?_ | with_reducible refine Zqs ?_ | with_reducible refine Zqt ?_ | with_reducible refine tk_notl ?_ | with_reducible refine Zqu ?_ | with_reducible refine Zqv ?_ | with_reducible refine ZrH ?_ | with_reducible refine Zqw ?_ | ((with_reducible apply Zqx); (first | assumption | omega)) | ((with_reducible apply Zqy); (first | decide | omega); (first | decide | omega)) | ((with_reducible apply Zqz); (first | decide | omega); rfl) | ((with_reducible apply ZeF); (first | decide | omega); rfl) | ((with_reducible apply Zl2); omega) | with_reducible refine ZpF ?_ | with_reducible refine tk_list1t ?_ | with_reducible refine tk_tup1 ?_ | with_reducible refine tk_all ?_ | with_reducible refine ZrI ?_ | ((with_reducible apply ZrB); (first | decide | omega)))
local macro_rules | `(tactic| walk_at "tk1") => `(tactic| first | with_reducible refine Zro ?_ | with_reducible refine Zr5 ?_ | with_reducible refine Zql ?_ | with_reducible refine Zrp ?_ | with_reducible refine Zrq ?_ | with_reducible refine Zqm ?_ | with_reducible refine Zqk ?_ | with_reducible refine Zqn ?_ | with_reducible refine Zr6 ?_ | with_reducible refine Zr7 ?_ | with_reducible refine Zrr ?_ | with_reducible refine Zrs ?_ | with_reducible refine Zr8 ?_ | with_reducible refine Zr9 ?_ | with_reducible refine Zrt ?_ | with_reducible refine Zqo ?_ | with_reducible refine Zqp ?_ | with_reducible refine ZpE ?_ | with_reducible refine Zqq ?_ | with_reducible refine Zru ?_ | with_reducible refine Zoo ?_ | with_reducible refine tk_truth_n ?_ | with_reducible refine Zqr ?_ | with_reducible refine Zrv ?_ | with_reducible refine Zrw ?_ | with_reducible refine tk_exp ?_ | with_reducible refine Zj8 ?_ | with_reducible refine Zj9 ?_ | with_reducible refine Zrl ?_ | with_reducible refine Zrm ?_ | with_reducible refine Zqj ?_ | with_reducible refine tk_str ?_ | ((with_reducible apply Zrn); walk_at "tkrd") | ((with_reducible apply Zrx); walk_at "tkyes") | ((with_reducible apply Zry); walk_at "tkyes") | ((with_reducible apply Zmw); rfl) | (refine And.intro (show T.flat _ = true by walk_at "tkflat") ?_) | (refine And.intro (show T.flatIn _ = true by walk_at "tkflat") ?_) | with_reducible refine ZjM ?_ | with_reducible refine Sq.lst ?_ | with_reducible refine Sq.tup ?_ | with_reducible refine ZpI ?_ | ((with_reducible apply Rn.one); omega) | with_reducible refine Zka ?_ | with_reducible refine ZqI ?_ | with_reducible refine EnP.tab ?_ | with_reducible refine ZpR ?_ | with_reducible refine Zi.eq ?_ | with_reducible refine Zi.mn ?_ | with_reducible refine ZrJ ?_ | with_reducible refine ZqD ?_ | with_reducible refine ZrK ?_ | with_reducible refine tk_put2 ?_ | ((with_reducible apply ZqB); walk_at "tkrd"; (first | (rw [Zav]; omega) | (simp; done))) | ((with_reducible apply ZqC); walk_at "tkrd"; (first | (rw [Zav]; omega) | (simp; done))) | ((with_reducible apply PutP.tab); walk_at "tkrd"; (first | assumption | omega)) | ((with_reducible apply Put2.tab); walk_at "tkrd"; (first | assumption | omega); (first | assumption | omega)) | walk_at "tkop")
local macro_rules | `(tactic| walk_at "zz") => `(tactic| repeat' walk_at "tk1")
local macro_rules | `(tactic| walk_at "zr") => `(tactic| walk_at "tkrd")
namespace L
open PySem PySem.W PyProof.Rows PM TM My
section
variable {Q : T → Prop}
theorem Zst (h : Q (.int T9)) : Pk (Zcu (.int 10) (.int 9)) Q := by
 have := Zr1 []
 simp only [oPow] at this
 split at this
 ·rename_i hc
  refine ⟨_, by simp only [Zcu]; rw [if_pos hc], ?_⟩
  simp only [Option.some.injEq, Prod.mk.injEq, V.int.injEq, and_true] at this
  rw [this]; exact h
 ·cases this
theorem Zsh (h : Q (.int T40)) : Pk (Zcu (.int 10) (.int 40)) Q := by
 have := Zri []
 simp only [oPow] at this
 split at this
 ·rename_i hc
  refine ⟨_, by simp only [Zcu]; rw [if_pos hc], ?_⟩
  simp only [Option.some.injEq, Prod.mk.injEq, V.int.injEq, and_true] at this
  rw [this]; exact h
 ·cases this
theorem Zsi (h : Q (.int M9)) : Pk (Zcu (.int 48271) (.int 9)) Q := by
 have := Zrh []
 simp only [oPow] at this
 split at this
 ·rename_i hc
  refine ⟨_, by simp only [Zcu]; rw [if_pos hc], ?_⟩
  simp only [Option.some.injEq, Prod.mk.injEq, V.int.injEq, and_true] at this
  rw [this]; exact h
 ·cases this
theorem ZcM {a b : Int} (h1 : -(2 ^ 64) < b) (h2 : b < 2 ^ 64) (h : Q (.int (a * b))) : Pk (ZaE (.int a) (.int b)) Q := Zb9 (Zo1 h1 h2) h
theorem ZqL {a b : Int} (h1 : -(2 ^ 64) < a) (h2 : a < 2 ^ 64) (h : Q (.int (a * b))) : Pk (ZaE (.int a) (.int b)) Q := Zb9 (Zon h1 h2) h
end
noncomputable def scr (ns : List Int) : T := .lst (ns.map T.int)
noncomputable def Lay (ns : List Int) : Prop := PyData.layable0 (.list (ns.map .int)) = true
noncomputable def ZbM (ns : List Int) (k : Int) : Int := k * k * 7919 + 11 + (if 0 < ns.length then cellAt ns (k.fmod ns.length) 0 else 0)
theorem ZlB {ns : List Int} {k : Int} (h0 : 0 ≤ k) (h9 : k ≤ 10000) : Zeo [scr ns, .int k] = some (.int (ZbM ns k)) := by
 apply Pk.eq
 unfold Zeo ZhO ZbM scr
 by_cases hl : 0 < ns.length
 ·have a := Int.fmod_nonneg_of_pos k (show (0 : Int) < ns.length by omega)
  have b := Int.fmod_lt_of_pos k (show (0 : Int) < ns.length by omega)
  have e : (ns.map T.int).length = ns.length := by simp
  walk_at "zz"
  refine ZcM (by omega) (by omega) ?_
  walk_at "zz"
  refine ZcM (by omega) (by omega) ?_
  walk_at "zz"
  refine ZeF (t := .int (cellAt ns (k.fmod ns.length) 0)) (by rw [e]; omega) ?_ ?_
  ·rw [e, List.getElem?_map, List.getElem?_eq_getElem (by omega), cellAt_def]
   simp only [Option.map_some, T.int.injEq, Option.some.injEq]
   rw [List.getD_eq_getElem?_getD, List.getElem?_eq_getElem (by omega)]
   rfl
  walk_at "zz"
  rw [if_pos hl]
 ·walk_at "zz"
  refine ZcM (by omega) (by omega) ?_
  walk_at "zz"
  refine ZcM (by omega) (by omega) ?_
  walk_at "zz"
  rw [if_neg hl]
  simp
theorem ZoA {ns : List Int} {k : Int} (hL : Lay ns) (h0 : 0 ≤ k) (h9 : k ≤ 10000) : Builtin.Int.intBits (ZbM ns k) ≤ 2 ^ 21 := by
 unfold ZbM
 have h1 : 0 ≤ k * k := Int.mul_nonneg h0 h0
 have h2 : k * k ≤ 10000 * 10000 := Int.mul_le_mul h9 h9 h0 (by decide)
 have hb : Builtin.Int.intBits (k * k * 7919 + 11) ≤ 2 ^ 20 := Nat.le_trans (intBits_le_64 (by omega) (by omega)) (by decide)
 have hc : Builtin.Int.intBits (if 0 < ns.length then cellAt ns (k.fmod ns.length) 0 else 0) ≤ 2 ^ 20 := by
  split
  ·exact (cell_at hL _).bits
  ·exact bits_zero
 exact Nat.le_trans (PM.ZpB hb hc) (by decide)
noncomputable def Zbd (ns : List Int) (k many : Int) : Int := ((ZbM ns k * 48271).fmod 2147483647).fmod many
theorem Zci (ns : List Int) (k : Int) {many : Int} (h : 0 < many) : 0 ≤ Zbd ns k many ∧ Zbd ns k many < many := ⟨Int.fmod_nonneg_of_pos _ h, Int.fmod_lt_of_pos _ h⟩
theorem Zcn {ns : List Int} {k many : Int} (h0 : 0 ≤ k) (h9 : k ≤ 10000) (hm : 0 < many) : Zbq [scr ns, .int k, .int many] = some (.int (Zbd ns k many)) := by
 apply Pk.eq
 unfold Zbq Ziq
 walk_at "zz"
 refine ZO (ZlB h0 h9) ?_
 walk_at "zz"
 refine ZcM (by decide) (by decide) ?_
 walk_at "zz"
 rfl
noncomputable def ZcQ (ns : List Int) (k : Int) : Int := [3, 9, T9, T40].getD (((ZbM ns k * 69621).fmod 2147483629).fmod 4).toNat 0
theorem ZlC (ns : List Int) (k : Int) : 0 < ZcQ ns k ∧ ZcQ ns k ≤ T40 := by
 unfold ZcQ
 have a := Int.fmod_nonneg_of_pos ((ZbM ns k * 69621).fmod 2147483629) (show (0 : Int) < 4 by decide)
 have b := Int.fmod_lt_of_pos ((ZbM ns k * 69621).fmod 2147483629) (show (0 : Int) < 4 by decide)
 generalize ((ZbM ns k * 69621).fmod 2147483629).fmod 4 = i at a b
 have h9 := T9_eq
 have h40 := Zgl
 have : i = 0 ∨ i = 1 ∨ i = 2 ∨ i = 3 := by omega
 obtain rfl | rfl | rfl | rfl := this
 ·show 0 < 3 ∧ 3 ≤ T40; omega
 ·show 0 < 9 ∧ 9 ≤ T40; omega
 ·show 0 < T9 ∧ T9 ≤ T40; omega
 ·show 0 < T40 ∧ T40 ≤ T40; omega
noncomputable def Zb4 (ns : List Int) (k : Int) : Int := (ZbM ns k * M9).fmod (2 * ZcQ ns k + 1) - ZcQ ns k
theorem ZmD (ns : List Int) (k : Int) : -T40 ≤ Zb4 ns k ∧ Zb4 ns k ≤ T40 := by
 obtain ⟨a, b⟩ := ZlC ns k
 have h1 := Int.fmod_nonneg_of_pos (ZbM ns k * M9) (show 0 < 2 * ZcQ ns k + 1 by omega)
 have h2 := Int.fmod_lt_of_pos (ZbM ns k * M9) (show 0 < 2 * ZcQ ns k + 1 by omega)
 unfold Zb4
 omega
theorem ZfW {ns : List Int} {k : Int} (hL : Lay ns) (h0 : 0 ≤ k) (h9 : k ≤ 10000) : Zdm [scr ns, .int k] = some (.int (Zb4 ns k)) := by
 apply Pk.eq
 unfold Zdm Zhu
 have hb := Zlr (ZoA hL h0 h9) Zqh
 obtain ⟨r0, r1⟩ := ZlC ns k
 have a := Int.fmod_nonneg_of_pos ((ZbM ns k * 69621).fmod 2147483629) (show (0 : Int) < 4 by decide)
 have b := Int.fmod_lt_of_pos ((ZbM ns k * 69621).fmod 2147483629) (show (0 : Int) < 4 by decide)
 walk_at "zz"
 refine ZO (ZlB h0 h9) ?_
 walk_at "zz"
 refine Zst ?_
 walk_at "zz"
 refine Zsh ?_
 walk_at "zz"
 refine ZcM (by decide) (by decide) ?_
 walk_at "zz"
 refine ZeF (t := .int (ZcQ ns k)) (by omega) ?_ ?_
 ·unfold ZcQ
  have : (((ZbM ns k * 69621).fmod 2147483629).fmod 4).toNat < 4 := by omega
  generalize (((ZbM ns k * 69621).fmod 2147483629).fmod 4).toNat = i at this
  match i, this with
  | 0, _ => rfl
  | 1, _ => rfl
  | 2, _ => rfl
  | 3, _ => rfl
 walk_at "zz"
 refine Zsi ?_
 walk_at "zz"
 refine Zb9 hb ?_
 walk_at "zz"
 refine ZqL (by decide) (by decide) ?_
 walk_at "zz"
 rfl
noncomputable def ZaZ (a : Int) : Int := if a < 0 then -a else a
theorem ZcN (a : Int) : 0 ≤ ZaZ a := by unfold ZaZ; split <;> omega
noncomputable def Zcp (ns : List Int) (k : Int) : Option Int :=
 if (Zbd ns k 42).fmod 6 < 2 then none else if (Zbd ns k 42).fmod 6 < 4 then some 0 else if (Zbd ns k 42).fmod 6 = 4 then some ((Zbd ns k 42).fdiv 6) else some (ZaZ (Zb4 ns k))
theorem ZlD (ns : List Int) (k : Int) {c : Int} (h : Zcp ns k = some c) : 0 ≤ c ∧ c ≤ T40 := by
 have h40 := Zgl
 unfold Zcp at h
 split at h
 ·cases h
 ·split at h
  ·cases h; omega
  ·split at h
   ·cases h
    obtain ⟨p0, p1⟩ := Zci ns k (show (0 : Int) < 42 by decide)
    rw [Int.fdiv_eq_ediv_of_nonneg _ (by decide)]
    omega
   ·cases h
    have := ZmD ns k
    have := ZcN (Zb4 ns k)
    unfold ZaZ at *
    split at * <;> omega
theorem Zld {a b : Int} (h0 : 0 ≤ b) (h1 : b < 2 ^ 30) : Builtin.divisionGoesByPylong a b = false := PyProof.noPylong_small (by omega)
theorem ZpW {ns : List Int} {k : Int} (hL : Lay ns) (h0 : 0 ≤ k) (h9 : k ≤ 10000) : Zfw [scr ns, .int k] = some (oT (Zcp ns k)) := by
 apply Pk.eq
 unfold Zfw ZhR Zcp
 obtain ⟨p0, p1⟩ := Zci ns k (show (0 : Int) < 42 by decide)
 walk_at "zz"
 refine ZO (Zcn h0 h9 (by decide)) ?_
 walk_at "zz"
 refine ⟨fun c => ?_, fun c => ?_⟩
 ·walk_at "zz"
  rw [if_pos (by simpa using c)]; rfl
 rw [if_neg (by simpa using c)]
 walk_at "zz"
 refine ⟨fun c => ?_, fun c => ?_⟩
 ·walk_at "zz"
  rw [if_pos (by simpa using c)]; rfl
 rw [if_neg (by simpa using c)]
 walk_at "zz"
 refine ⟨fun c => ?_, fun c => ?_⟩
 ·walk_at "zz"
  refine Zd7 (by decide) (Zld (by decide) (by decide)) ?_
  rw [if_pos (by simpa using c)]; rfl
 rw [if_neg (by simpa using c)]
 walk_at "zz"
 refine ZO (ZfW hL h0 h9) ?_
 walk_at "zz"
 rfl
noncomputable def RestOk (q : Int × Int) : Prop := q.1 = 0 ∨ (0 < q.1 ∧ 0 ≤ q.2 ∧ q.2 < q.1)
noncomputable def Zas (m r : Int) : Int × Int := if m = 0 then (0, r) else (m, r.fmod m)
theorem Zcw {m : Int} (h : 0 ≤ m) (r : Int) : RestOk (Zas m r) := by
 unfold RestOk Zas
 split
 ·exact .inl rfl
 ·exact .inr ⟨by show 0 < m; omega, Int.fmod_nonneg_of_pos _ (by omega), Int.fmod_lt_of_pos _ (by omega)⟩
theorem ZkX {m r : Int} : Zeh [.int m, .int r] = some (Z9 (Zas m r)) := by
 apply Pk.eq
 unfold Zeh Zhd Zas
 by_cases c : m = 0
 ·walk_at "zz"
  rw [if_pos c]; rfl
 ·walk_at "zz"
  rw [if_neg c]; rfl
noncomputable def ZcC (ns : List Int) (k x : Int) : Int × Int :=
 if (Zbd ns k 60).fmod 5 < 2 then (1, 0) else if (Zbd ns k 60).fmod 5 = 2 then (0, x) else if (Zbd ns k 60).fmod 5 = 3 then Zas ((Zbd ns k 60).fdiv 5 + 1) x else Zas (ZaZ (Zb4 ns k)) x
noncomputable def Zaq (q : Int × Int) (x : Int) : Prop := (q.1 = 0 → x = q.2) ∧ (0 < q.1 → (x - q.2).emod q.1 = 0)
theorem ZkY {m : Int} (h : 0 ≤ m) (r : Int) : Zaq (Zas m r) r := by
 unfold Zaq Zas
 split
 ·exact ⟨fun _ => rfl, fun q => absurd q (by simp)⟩
 ·refine ⟨fun q => absurd q (by simpa using ‹¬ m = 0›), fun q => ?_⟩
  show (r - r.fmod m) % m = 0
  rw [Int.fmod_eq_emod_of_nonneg _ h, Int.sub_emod, Int.emod_emod, Int.sub_self]
  simp
theorem ZjA (ns : List Int) (k : Int) : 0 ≤ (Zbd ns k 60).fdiv 5 ∧ (Zbd ns k 60).fdiv 5 < 12 := by
 obtain ⟨p0, p1⟩ := Zci ns k (show (0 : Int) < 60 by decide)
 rw [Int.fdiv_eq_ediv_of_nonneg _ (by decide)]
 omega
theorem ZpX (ns : List Int) (k x : Int) : RestOk (ZcC ns k x) := by
 have := ZjA ns k
 unfold ZcC
 split
 ·exact .inr ⟨by decide, by decide, by decide⟩
 ·split
  ·exact .inl rfl
  ·split
   ·exact Zcw (by omega) x
   ·exact Zcw (ZcN _) x
theorem Zpc (ns : List Int) (k x : Int) : Zaq (ZcC ns k x) x := by
 have := ZjA ns k
 unfold ZcC
 split
 ·exact ⟨fun q => absurd q (by decide), fun _ => by show (x - 0) % 1 = 0; omega⟩
 ·split
  ·exact ⟨fun _ => rfl, fun q => absurd q (by simp)⟩
  ·split
   ·exact ZkY (by omega) x
   ·exact ZkY (ZcN _) x
theorem ZqM {ns : List Int} {k x : Int} (hL : Lay ns) (h0 : 0 ≤ k) (h9 : k ≤ 10000) : ZfD [scr ns, .int k, .int x] = some (Z9 (ZcC ns k x)) := by
 apply Pk.eq
 unfold ZfD Zit ZcC
 obtain ⟨p0, p1⟩ := Zci ns k (show (0 : Int) < 60 by decide)
 walk_at "zz"
 refine ZO (Zcn h0 h9 (by decide)) ?_
 walk_at "zz"
 refine ⟨fun c => ?_, fun c => ?_⟩
 ·walk_at "zz"
  rw [if_pos (by simpa using c)]; rfl
 rw [if_neg (by simpa using c)]
 walk_at "zz"
 refine ⟨fun c => ?_, fun c => ?_⟩
 ·walk_at "zz"
  rw [if_pos (by simpa using c)]; rfl
 rw [if_neg (by simpa using c)]
 walk_at "zz"
 refine ⟨fun c => ?_, fun c => ?_⟩
 ·walk_at "zz"
  refine Zd7 (by decide) (Zld (by decide) (by decide)) ?_
  walk_at "zz"
  refine ZO ZkX ?_
  rw [if_pos (by simpa using c)]
 rw [if_neg (by simpa using c)]
 walk_at "zz"
 refine ZO (ZfW hL h0 h9) ?_
 walk_at "zz"
 exact ZO ZkX rfl
noncomputable def Zat (x : Nat → Int) : Nat → Int := cn 0 x
theorem ZmE (x : Nat → Int) : cn (T.int 0) (fun i => T.int (x i)) = fun i => T.int (Zat x i) := by
 funext i; cases i <;> rfl
noncomputable def Zbx (ns : List Int) (k : Int) (n : Nat) (x : Nat → Int) (i j : Nat) : Option Int := if j = i then some 0 else (Zcp ns (k + i * (n + 1 : Nat) + j)).map fun c => Zat x i - Zat x j + c
noncomputable def ZdB (ns : List Int) (k : Int) (n : Nat) (x : Nat → Int) (t : Nat) : Int × Int := ZcC ns (k + (n + 1 : Nat) * (n + 1 : Nat) + t) (x t)
theorem ZoB (ns : List Int) (k : Int) (n : Nat) (x : Nat → Int) (i : Nat) : Zbx ns k n x i i = some 0 := by simp [Zbx]
theorem ZpY (ns : List Int) (k : Int) (n : Nat) (x : Nat → Int) (i : Nat) : (fun j => if j = i then T.int 0 else oT ((Zcp ns (k + i * (n + 1 : Nat) + j)).map fun c => Zat x i - Zat x j + c)) = fun j => oT (Zbx ns k n x i j) := by
 funext j
 unfold Zbx
 split <;> rfl
theorem ZqN {ns : List Int} {k : Int} {n : Nat} {x : Nat → Int} (hL : Lay ns) (h0 : 0 ≤ k) (h9 : k ≤ 1000) (hn : n ≤ 9) : ZfE [scr ns, .int k, Zee n x] = some (ZZ n (Zbx ns k n x) (ZdB ns k n x)) := by
 apply Pk.eq
 unfold ZfE Ziw Zee
 have hq : ((n + 1 : Nat) : Int) * ((n + 1 : Nat) : Int) ≤ 10 * 10 := Int.mul_le_mul (by omega) (by omega) (by omega) (by decide)
 have hq0 : (0 : Int) ≤ ((n + 1 : Nat) : Int) * ((n + 1 : Nat) : Int) := Int.mul_nonneg (by omega) (by omega)
 walk_at "zz"
 rw [ZmE]
 refine ZbX (n := n + 1) (a := fun i => .int i) (P := fun i σ => σ 0 = some (scr ns) ∧ σ 1 = some (.int k) ∧ σ 2 = some (.lst (tab n fun i => .int (x i))) ∧ σ 3 = some (.lst (tab (n + 1) fun i => .int (Zat x i))) ∧ σ 4 = some (.int (n + 1 : Nat)) ∧ σ 5 = some (.lst (tab i fun i => Zai (n + 1) (Zbx ns k n x i)))) ?_ ⟨rfl, rfl, rfl, rfl, rfl, rfl⟩ ?_ ?_
 ·walk_at "zz"
  rfl
 ·rintro i σ hi ⟨e0, e1, e2, e3, e4, e5⟩
  walk_at "zz"
  refine ZbX (n := n + 1) (a := fun i => .int i) (P := fun j σ => σ 0 = some (scr ns) ∧ σ 1 = some (.int k) ∧ σ 2 = some (.lst (tab n fun i => .int (x i))) ∧ σ 3 = some (.lst (tab (n + 1) fun i => .int (Zat x i))) ∧ σ 4 = some (.int (n + 1 : Nat)) ∧ σ 5 = some (.lst (tab i fun i => Zai (n + 1) (Zbx ns k n x i))) ∧ σ 6 = some (.int i) ∧ σ 7 = some (.lst (tab j fun j => oT ((Zcp ns (k + i * (n + 1 : Nat) + j)).map fun c => Zat x i - Zat x j + c)))) ?_ ⟨?_, ?_, ?_, ?_, ?_, ?_, ?_, ?_⟩ ?_ ?_
  ·walk_at "zz"
   rfl
  all_goals first | walk_at "zr" | skip
  ·rintro j σ hj ⟨e0, e1, e2, e3, e4, e5, e6, e7⟩
   have hb1 : (0 : Int) ≤ i * ((n + 1 : Nat) : Int) := Int.mul_nonneg (by omega) (by omega)
   have hb2 : (i : Int) * ((n + 1 : Nat) : Int) ≤ 10 * 10 := Int.mul_le_mul (by omega) (by omega) (by omega) (by decide)
   walk_at "zz"
   refine ZcM (by omega) (by omega) ?_
   walk_at "zz"
   refine ZO (ZpW hL (by omega) (by omega)) ?_
   have key : ∀ w, w = oT ((Zcp ns (k + i * (n + 1 : Nat) + j)).map fun c => Zat x i - Zat x j + c) → tab j (fun j => oT ((Zcp ns (k + i * (n + 1 : Nat) + j)).map fun c => Zat x i - Zat x j + c)) ++ [w] = tab (j + 1) fun j => oT ((Zcp ns (k + i * (n + 1 : Nat) + j)).map fun c => Zat x i - Zat x j + c) := fun w e => by
    rw [e]; exact Zc1
   cases hs : Zcp ns (k + ↑i * ↑(n + 1) + ↑j) with
   | none =>
    simp only [ZbW, Zbi]
    walk_at "zz"
    rw [key _ (by rw [hs]; rfl)]
    refine ⟨?_, ?_, ?_, ?_, ?_, ?_, ?_, ?_⟩ <;> walk_at "zr"
   | some c =>
    simp only [ZbW, Zbi]
    walk_at "zz"
    rw [key _ (by rw [hs]; rfl)]
    refine ⟨?_, ?_, ?_, ?_, ?_, ?_, ?_, ?_⟩ <;> walk_at "zr"
  ·rintro σ ⟨e0, e1, e2, e3, e4, e5, e6, e7⟩
   walk_at "zz"
   rw [ZpY, show tab i (fun i => Zai (n + 1) (Zbx ns k n x i)) ++ [T.lst (tab (n + 1) fun j => oT (Zbx ns k n x i j))] = tab (i + 1) fun i => Zai (n + 1) (Zbx ns k n x i) from Zc1 (f := fun i => Zai (n + 1) (Zbx ns k n x i))]
   refine ⟨?_, ?_, ?_, ?_, ?_, ?_⟩ <;> walk_at "zr"
 ·rintro σ ⟨e0, e1, e2, e3, e4, e5⟩
  walk_at "zz"
  refine Za8 (n := n) (a := fun i => .int i) (b := fun t => Z9 (ZdB ns k n x t)) (by omega) ?_ (fun t ht => ?_) ?_
  ·walk_at "zz"
   refine ZmS n (by omega) (by omega) rfl
  ·walk_at "zz"
   refine ZcM (by omega) (by omega) ?_
   walk_at "zz"
   exact ZO (ZqM hL (by omega) (by omega)) ⟨ZfZ, rfl⟩
  walk_at "zz"
  rfl
noncomputable def Za0 (n : Nat) (G : Nat → Nat → Option Int) (R : Nat → Int × Int) (x : Nat → Int) : Prop := (∀ i j, i < n + 1 → j < n + 1 → ∀ b, G i j = some b → Zat x i - Zat x j ≤ b) ∧ ∀ t, t < n → Zaq (R t) (x t)
theorem Zpd (ns : List Int) (k : Int) (n : Nat) (x : Nat → Int) : Za0 n (Zbx ns k n x) (ZdB ns k n x) x := by
 refine ⟨fun i j _ _ b h => ?_, fun t _ => Zpc ns _ _⟩
 unfold Zbx at h
 split at h
 ·rename_i e; subst e; cases h; omega
 ·obtain ⟨c, h1, h2⟩ := Zz1.mp h
  have := (ZlD ns _ h1).1
  omega
noncomputable def Zsu (n : Nat) (G : Nat → Nat → Option Int) (R : Nat → Int × Int) : Prop := (∀ i, i < n + 1 → G i i = some 0) ∧ ∀ t, t < n → RestOk (R t)
theorem Zpe (ns : List Int) (k : Int) (n : Nat) (x : Nat → Int) : Zsu n (Zbx ns k n x) (ZdB ns k n x) := ⟨fun i _ => ZoB ns k n x i, fun t _ => ZpX ns _ _⟩
theorem Zpf {n : Nat} {G : Nat → Nat → Option Int} {σ : TL} {j : Nat} {g : PE} {Q : T → Prop} (hn : n < 10000) (e : Pk (g σ) fun t => t = Zaw n G) (h : Q (Zaw n G)) : Pk (Zah (ZaY g) (Zac j) Zae (Zv Zdt (Zf (Za j) Zn)) σ) Q := by
 refine Za8 (n := n) (a := fun i => Zai n (G i)) (b := fun i => Zai n (G i)) hn ?_ (fun i hi => ?_) h
 ·refine ZjM (e.mono ?_)
  rintro _ rfl
  exact Sq.lst rfl
 ·unfold Zai
  walk_at "zz"
  rfl
theorem ZqO {n : Nat} {G : Nat → Nat → Option Int} {R : Nat → Int × Int} (hn : n ≤ 100) : ZfF [ZZ n G R] = some (ZZ n G R) := by
 apply Pk.eq
 unfold ZfF Ziz ZZ ZaT
 walk_at "zz"
 refine Zpf (n := n + 1) (G := G) (by omega) ?_ ?_
 ·walk_at "zz"
  rfl
 walk_at "zz"
 rfl
end L
namespace L
open PySem PySem.W PyProof.Rows PM TM My
noncomputable def leO (a b : Option Int) : Prop := ∀ y, b = some y → ∃ x, a = some x ∧ x ≤ y
theorem Zf3 {a : Option Int} : leO a none := fun _ e => by cases e
theorem leO_some {x y : Int} : leO (some x) (some y) ↔ x ≤ y := ⟨fun h => by obtain ⟨z, e, q⟩ := h y rfl; cases e; exact q, fun h z e => by cases e; exact ⟨x, rfl, h⟩⟩
theorem Zmb {y : Int} : ¬ leO none (some y) := fun h => by obtain ⟨z, e, _⟩ := h y rfl; cases e
theorem ZnK {a b : Option Int} : Zfx [oT a, oT b] = some (.bool (dec (leO a b))) := by
 apply Pk.eq
 unfold Zfx ZhU
 cases b with
 | none =>
  simp only [ZbW]
  walk_at "zz"
  rw [ZaP Zf3]
 | some y =>
  cases a with
  | none =>
   simp only [ZbW, Zbi]
   walk_at "zz"
   rw [Zbw Zmb]
  | some x =>
   simp only [Zbi]
   walk_at "zz"
   rw [ZdV leO_some, ZdS]
noncomputable def RIn (p q : Int × Int) : Prop := if q.1 = 0 then p = q else p.1 % q.1 = 0 ∧ (p.2 - q.2) % q.1 = 0
theorem ZqP {q : Int × Int} (h : 0 < q.1 ∧ 0 ≤ q.2 ∧ q.2 < q.1) (x : Int) : x.fmod q.1 = q.2 ↔ (x - q.2) % q.1 = 0 := by
 rw [Int.fmod_eq_emod_of_nonneg _ (by omega)]
 constructor
 ·intro e
  rw [← e, Int.sub_emod, Int.emod_emod, Int.sub_self]
  simp
 ·intro e
  have : x % q.1 = q.2 % q.1 := Int.emod_eq_emod_iff_emod_sub_eq_zero.mpr e
  rw [this, Int.emod_eq_of_lt h.2.1 h.2.2]
theorem ZqQ {q : Int × Int} (h : RestOk q) (x : Int) : (if q.1 = 0 then x = q.2 else x.fmod q.1 = q.2) ↔ Zaq q x := by
 unfold Zaq
 rcases h with h | h
 ·rw [if_pos h]; simp [h]
 ·rw [if_neg (by omega), ZqP h]
  have h1 : ¬ q.1 = 0 := by omega
  simp only [h1, false_implies, true_and, h.1, true_implies]
  rfl
theorem ZkL {q : Int × Int} {x : Int} (h : RestOk q) : Zeu [Z9 q, .int x] = some (.bool (dec (Zaq q x))) := by
 apply Pk.eq
 unfold Zeu ZiB Z9
 rw [← ZdV (ZqQ h x)]
 by_cases c : q.1 = 0
 ·walk_at "zz"
  rw [if_pos c, ZdS]
 ·walk_at "zz"
  rw [if_neg c, ZdS]
theorem Zni {p q : Int × Int} (h : RestOk q) : Zfn [Z9 p, Z9 q] = some (.bool (dec (RIn p q))) := by
 apply Pk.eq
 unfold Zfn Zhg
 have hp : Z9 p = .tup [.int p.1, .int p.2] := rfl
 have hq : Z9 q = .tup [.int q.1, .int q.2] := rfl
 by_cases c : q.1 = 0
 ·rw [hp, hq]
  walk_at "zz"
  rw [← hp, ← hq]
  refine Zgn (Zgo (n := 0)) (Zgo (n := 0)) ?_
  rw [ZdV (show Z9 p = Z9 q ↔ RIn p q by unfold RIn; rw [if_pos c, ZqF])]
 ·have hq0 : 0 < q.1 := by rcases h with h | h <;> omega
  rw [hp, hq]
  walk_at "zz"
  refine ⟨fun e => ?_, fun e => ?_⟩
  ·walk_at "zz"
   congr 1
   rw [ZdS]
   refine ZdV ?_
   unfold RIn
   rw [if_neg c]
   simp only [decide_eq_true_eq] at e
   rw [Int.fmod_eq_emod_of_nonneg _ (by omega)] at e ⊢
   simp [e]
  ·rw [e]
   simp only [decide_eq_false_iff_not] at e
   rw [Int.fmod_eq_emod_of_nonneg _ (by omega)] at e
   rw [Zbw]
   unfold RIn
   rw [if_neg c]
   exact fun q => e q.1
noncomputable def Zkg (n : Nat) (G : Nat → Nat → Option Int) (R : Nat → Int × Int) (G' : Nat → Nat → Option Int) (R' : Nat → Int × Int) : Prop := (∀ i, i < n + 1 → ∀ j, j < n + 1 → leO (G i j) (G' i j)) ∧ ∀ t, t < n → RIn (R t) (R' t)
theorem ZnL {a b : Option Int} : Zfy [oT a, oT b] = some (.bool (dec (leO a b))) := by
 apply Pk.eq
 unfold Zfy ZhX
 cases b with
 | none =>
  simp only [ZbW]
  walk_at "zz"
  rw [ZaP Zf3]
 | some y =>
  cases a with
  | none =>
   simp only [ZbW, Zbi]
   walk_at "zz"
   rw [Zbw Zmb]
  | some x =>
   simp only [Zbi]
   walk_at "zz"
   rw [ZdV leO_some, ZdS]
theorem Znv {n : Nat} {G G' : Nat → Nat → Option Int} {R R' : Nat → Int × Int} (hn : n < 900) (h : ∀ t, t < n → RestOk (R' t)) : Zel [ZZ n G R, ZZ n G' R'] = some (.bool (dec (Zkg n G R G' R'))) := by
 apply Pk.eq
 unfold Zel Zhx ZZ Zaw Zai ZaT
 walk_at "zz"
 refine ZbX (n := n + 1) (a := fun i => .int i) (P := fun i σ => σ 0 = some (ZZ n G R) ∧ σ 1 = some (ZZ n G' R') ∧ ∀ a, a < i → ∀ b, b < n + 1 → leO (G a b) (G' a b)) ?_ ⟨rfl, rfl, by omega⟩ ?_ ?_
 ·walk_at "zz"
  rfl
 ·rintro i σ hi ⟨e0, e1, e2⟩
  unfold ZZ Zaw Zai ZaT at e0 e1
  refine ZbX (n := n + 1) (a := fun i => .int i) (P := fun j σ => σ 0 = some (ZZ n G R) ∧ σ 1 = some (ZZ n G' R') ∧ σ 2 = some (.int i) ∧ ∀ b, b < j → leO (G i b) (G' i b)) ?_ ⟨?_, ?_, ?_, by omega⟩ ?_ ?_
  ·walk_at "zz"
   rfl
  ·walk_at "zr"
  ·walk_at "zr"
  ·walk_at "zr"
  ·rintro j σ hj ⟨f0, f1, f2, f3⟩
   unfold ZZ Zaw Zai ZaT at f0 f1
   walk_at "zz"
   refine ZO ZnL ?_
   walk_at "zz"
   refine ⟨fun e => ?_, fun e => ?_⟩
   ·walk_at "zz"
    simp only [Bool.not_eq_true'] at e
    rw [Zbw]
    rintro ⟨h1, _⟩
    have := ZaP (h1 i hi j hj)
    rw [this] at e
    cases e
   ·walk_at "zz"
    refine ⟨by walk_at "zr", by walk_at "zr", by walk_at "zr", fun b hb => ?_⟩
    by_cases q : b = j
    ·subst q
     simp only [Bool.not_eq_false'] at e
     exact dec_iff.mp e
    ·exact f3 b (by omega)
  ·rintro σ ⟨f0, f1, f2, f3⟩
   refine ⟨f0, f1, fun a ha => ?_⟩
   by_cases q : a = i
   ·subst q; exact f3
   ·exact e2 a (by omega)
 ·rintro σ ⟨e0, e1, e2⟩
  unfold ZZ Zaw Zai ZaT at e0 e1
  walk_at "zz"
  refine ZbX (n := n) (a := fun i => .int i) (P := fun j σ => σ 0 = some (ZZ n G R) ∧ σ 1 = some (ZZ n G' R') ∧ ∀ b, b < j → RIn (R b) (R' b)) ?_ ⟨e0, e1, by omega⟩ ?_ ?_
  ·walk_at "zz"
   rfl
  ·rintro j σ hj ⟨f0, f1, f3⟩
   unfold ZZ Zaw Zai ZaT at f0 f1
   walk_at "zz"
   refine ZO (Zni (h j hj)) ?_
   walk_at "zz"
   refine ⟨fun e => ?_, fun e => ?_⟩
   ·walk_at "zz"
    simp only [Bool.not_eq_true'] at e
    rw [Zbw]
    rintro ⟨_, h1⟩
    have := ZaP (h1 j hj)
    rw [this] at e
    cases e
   ·walk_at "zz"
    refine ⟨by walk_at "zr", by walk_at "zr", fun b hb => ?_⟩
    by_cases q : b = j
    ·subst q
     simp only [Bool.not_eq_false'] at e
     exact dec_iff.mp e
    ·exact f3 b (by omega)
  ·rintro σ ⟨f0, f1, f3⟩
   walk_at "zz"
   rw [ZaP]
   exact ⟨e2, f3⟩
end L
namespace L
open PySem PySem.W PyProof.Rows PM TM My
noncomputable def Eu (m : Nat) (a b : Int) : Prop := 0 ≤ a ∧ 0 ≤ b ∧ ∃ k : Nat, a * b < 2 ^ k ∧ m = 2 * k + if a < b then 1 else 0
theorem Eu.step {m : Nat} {a b : Int} (h : Eu m a b) (hb : b ≠ 0) : ∃ m', m' < m ∧ Eu m' b (a % b) := by
 obtain ⟨h0, h1, k, h2, h3⟩ := h
 have hb' : 0 < b := by omega
 have r0 := Int.emod_nonneg a hb
 have r1 := Int.emod_lt_of_pos a hb'
 by_cases q : a < b
 ·rw [if_pos q] at h3
  have e : a % b = a := Int.emod_eq_of_lt h0 q
  rw [e]
  exact ⟨2 * k, by omega, h1, h0, k, by rw [Int.mul_comm]; exact h2, by rw [if_neg (by omega)]; omega⟩
 ·rw [if_neg q] at h3
  have hd := Int.emod_add_mul_ediv a b
  have hq : 1 ≤ a / b := Int.le_ediv_of_mul_le hb' (by omega)
  have hm : b * 1 ≤ b * (a / b) := Int.mul_le_mul_of_nonneg_left hq h1
  have h2r : 2 * (a % b) < a := by omega
  have hp : b * (2 * (a % b)) < b * a := Int.mul_lt_mul_of_pos_left h2r hb'
  have hk : k ≠ 0 := by
   rintro rfl
   have : 0 < a * b := Int.mul_pos (by omega) hb'
   simp at h2
   omega
  obtain ⟨k', rfl⟩ : ∃ k', k = k' + 1 := ⟨k - 1, by omega⟩
  refine ⟨2 * k', by omega, h1, r0, k', ?_, by rw [if_neg (by omega)]; omega⟩
  have e1 : b * (2 * (a % b)) = 2 * (b * (a % b)) := by rw [← Int.mul_assoc, Int.mul_comm b 2, Int.mul_assoc]
  have e2 : a * b = b * a := Int.mul_comm _ _
  rw [Int.pow_succ] at h2
  omega
theorem ZlE {a b : Int} (ha : 0 ≤ a) (hb : 0 ≤ b) (ha2 : a < 2 ^ 200000) (hb2 : b < 2 ^ 200000) : ∃ m, m < 1000000 ∧ Eu m a b := by
 refine ⟨_, ?_, ha, hb, 400000, ?_, rfl⟩
 ·split <;> omega
 ·have h1 : a * b ≤ a * 2 ^ 200000 := Int.mul_le_mul_of_nonneg_left (by omega) ha
  have h2 : a * 2 ^ 200000 < 2 ^ 200000 * 2 ^ 200000 := Int.mul_lt_mul_of_pos_right ha2 (Int.pow_pos (by decide))
  have h3 : (2 : Int) ^ 200000 * 2 ^ 200000 = 2 ^ 400000 := by rw [← Int.pow_add]
  omega
theorem ZjB {a b : Int} (hb : 0 < b) : Int.gcd b (a % b) = Int.gcd a b := by
 rw [Int.gcd_comm a b, Int.emod_def, Int.gcd_sub_mul_left_right]
theorem ZqR {a b : Int} : Int.gcd (ZaZ a) (ZaZ b) = Int.gcd a b := by
 unfold ZaZ Int.gcd
 split <;> split <;> simp
theorem Zmc {a : Int} {k : Nat} (h : a.natAbs < 2 ^ k) : ZaZ a < 2 ^ k := by
 have : ((a.natAbs : Nat) : Int) < 2 ^ k := by exact_mod_cast h
 unfold ZaZ
 split <;> omega
theorem ZjW (ns : List Int) (k : Int) : (Zb4 ns k).natAbs < 2 ^ 134 := by
 have h := ZmD ns k
 have h2 := Zgl
 have : (2 : Nat) ^ 134 = 21778071482940061661655974875633165533184 := by decide
 omega
theorem ZbR {a : Nat} {i j : Nat} (h : a < 2 ^ i) (hij : i ≤ j) : a < 2 ^ j := Nat.lt_of_lt_of_le h (Nat.pow_le_pow_right (by decide) hij)
noncomputable def SmG (k n : Nat) (G : Nat → Nat → Option Int) : Prop := ∀ i j, i < n + 1 → j < n + 1 → ∀ b, G i j = some b → b.natAbs < 2 ^ k
noncomputable def SmR (k n : Nat) (R : Nat → Int × Int) : Prop := ∀ t, t < n → (R t).1.natAbs < 2 ^ k ∧ (R t).2.natAbs < 2 ^ k
theorem ZhJ {m r : Int} {k : Nat} (h0 : 0 ≤ m) (hm : m.natAbs < 2 ^ k) (hr : r.natAbs < 2 ^ k) : (Zas m r).1.natAbs < 2 ^ k ∧ (Zas m r).2.natAbs < 2 ^ k := by
 unfold Zas
 split
 ·exact ⟨Nat.two_pow_pos k, hr⟩
 ·have h1 := Int.fmod_nonneg_of_pos r (show 0 < m by omega)
  have h2 := Int.fmod_lt_of_pos r (show 0 < m by omega)
  exact ⟨hm, by show (r.fmod m).natAbs < _; omega⟩
theorem ZjC (a : Int) : (ZaZ a).natAbs = a.natAbs := by unfold ZaZ; split <;> omega
theorem Zn5 {ns : List Int} {k x : Int} (hx : x.natAbs < 2 ^ 134) : (ZcC ns k x).1.natAbs < 2 ^ 134 ∧ (ZcC ns k x).2.natAbs < 2 ^ 134 := by
 have h := ZjA ns k
 have h2 := ZjW ns k
 have e : (2 : Nat) ^ 134 = 21778071482940061661655974875633165533184 := by decide
 unfold ZcC
 split
 ·exact ⟨by show (1 : Nat) < _; omega, by show (0 : Nat) < _; omega⟩
 ·split
  ·exact ⟨by show (0 : Nat) < _; omega, hx⟩
  ·split
   ·exact ZhJ (by omega) (by omega) hx
   ·exact ZhJ (ZcN _) (by rw [ZjC]; exact h2) hx
theorem ZkZ {n k : Nat} {x : Nat → Int} (hx : ∀ i, i < n → (x i).natAbs < 2 ^ k) (i : Nat) (hi : i < n + 1) : (Zat x i).natAbs < 2 ^ k := by
 cases i with
 | zero => exact Nat.two_pow_pos k
 | succ i => exact hx i (by omega)
theorem ZpZ {ns : List Int} {k : Int} {n : Nat} {x : Nat → Int} (hx : ∀ i, i < n → (x i).natAbs < 2 ^ 134) : SmG 136 n (Zbx ns k n x) := by
 intro i j hi hj b h
 have e : (2 : Nat) ^ 134 = 21778071482940061661655974875633165533184 := by decide
 have e2 : (2 : Nat) ^ 136 = 4 * 21778071482940061661655974875633165533184 := by decide
 have h40 := Zgl
 have h1 := ZkZ hx i hi
 have h2 := ZkZ hx j hj
 unfold Zbx at h
 split at h
 ·cases h; exact Nat.two_pow_pos _
 ·obtain ⟨c, h3, h4⟩ := Zz1.mp h
  have := ZlD ns _ h3
  subst h4
  omega
theorem ZlF {ns : List Int} {k : Int} {n : Nat} {x : Nat → Int} (hx : ∀ i, i < n → (x i).natAbs < 2 ^ 134) : SmR 134 n (ZdB ns k n x) := fun t ht => Zn5 (hx t ht)
theorem Zle {σ : TL} {Q : T → Prop} {g : PG} {j n : Nat} {a : Nat → T} {f : PE} {β : Type} (e : β → T) (P : Nat → β → Prop) (hn : n < 10000) (hg : Pl (g σ) fun ts => ts = tab n a) (hf : ∀ i, i < n → Pk (f (ZR σ j (a i))) fun t => ∃ y, t = e y ∧ P i y) (d : β) (h : ∀ y : Nat → β, (∀ i, i < n → P i (y i)) → Q (.lst (tab n fun i => e (y i)))) : Pk (Zah g (Zac j) Zae f σ) Q := by
 have hc : ∃ y : Nat → β, ∀ i, i < n → Pk (f (ZR σ j (a i))) (fun t => t = e (y i)) ∧ P i (y i) := by
  have hx : ∀ i, ∃ y : β, i < n → Pk (f (ZR σ j (a i))) (fun t => t = e y) ∧ P i y := fun i => by
   by_cases q : i < n
   ·obtain ⟨t, e1, y, e2, p⟩ := hf i q
    exact ⟨y, fun _ => ⟨⟨t, e1, e2⟩, p⟩⟩
   ·exact ⟨d, fun h => absurd h q⟩
  exact ⟨fun i => Classical.choose (hx i), fun i => Classical.choose_spec (hx i)⟩
 obtain ⟨y, hy⟩ := hc
 exact Za8 hn hg (fun i hi => (hy i hi).1) (h y fun i hi => (hy i hi).2)
theorem ZcK {a : Option Int} : leO a a := fun y e => ⟨y, e, Int.le_refl y⟩
theorem Zdo {a b c : Option Int} (h : leO a b) (k : leO b c) : leO a c := fun y e => by
 obtain ⟨x, e1, l1⟩ := k y e
 obtain ⟨w, e2, l2⟩ := h x e1
 exact ⟨w, e2, by omega⟩
theorem ZmF {k : Int} {n : Nat} (h0 : 0 ≤ k) (h1 : k < n) : ∃ i : Nat, k = i ∧ i < n := ⟨k.toNat, by omega, by omega⟩
end L
namespace L
open PySem PySem.W PyProof.Rows PM TM My
theorem Zk0 {a b : Int} (ha : a.natAbs < 2 ^ 200000) (hb : b.natAbs < 2 ^ 200000) : ZeA [.int a, .int b] = some (.int (Int.gcd a b)) := by
 apply Pk.eq
 unfold ZeA Zi2
 walk_at "zz"
 obtain ⟨m, hm, eu⟩ := ZlE (ZcN a) (ZcN b) (Zmc ha) (Zmc hb)
 refine Zjo (fun m σ => ∃ c d : Int, σ 2 = some (.int c) ∧ σ 3 = some (.int d) ∧ Eu m c d ∧ Int.gcd c d = Int.gcd a b) _ _ ?_ 1000000 (m := m) ⟨ZaZ a, ZaZ b, by walk_at "zr", by walk_at "zr", eu, ZqR⟩ hm
 rintro m σ ⟨c, d, e0, e1, eu, eg⟩
 walk_at "zz"
 refine ⟨fun h => ?_, fun h => ?_⟩
 ·have hd : d ≠ 0 := by simpa using h
  have hd0 : 0 ≤ d := eu.2.1
  walk_at "zz"
  rw [Int.fmod_eq_emod_of_nonneg _ hd0]
  obtain ⟨m', h1, h2⟩ := eu.step hd
  exact ⟨m', h1, d, c % d, by walk_at "zr", by walk_at "zr", h2, by rw [ZjB (by omega)]; exact eg⟩
 ·have hd : d = 0 := by simpa using h
  subst hd
  walk_at "zz"
  rw [← eg, Int.gcd_zero_right]
  have := eu.1
  congr 1
  omega
noncomputable def Bd (k : Nat) (x : Int) : Prop := x.natAbs < 2 ^ k
theorem Bd.mono {i j : Nat} {x : Int} (h : Bd i x) (hij : i ≤ j) : Bd j x := ZbR h hij
theorem Zcy {i j : Nat} {x y : Int} (h : Bd i x) (k : Bd j y) (hi : i ≤ 1000000) (hj : j ≤ 1000000) : mulOk x y = true := Zlr (Nat.le_trans (PyProof.Rows.intBits_le h) (Nat.le_trans hi (by decide))) (Nat.le_trans (PyProof.Rows.intBits_le k) (Nat.le_trans hj (by decide)))
theorem Bd.mul {i j : Nat} {x y : Int} (h : Bd i x) (k : Bd j y) : Bd (i + j) (x * y) := by
 unfold Bd at *
 rw [Int.natAbs_mul, Nat.pow_add]
 exact Nat.mul_lt_mul'' h k
theorem Bd.add {i : Nat} {x y : Int} (h : Bd i x) (k : Bd i y) : Bd (i + 1) (x + y) := by
 unfold Bd at *
 rw [Nat.pow_succ]
 omega
theorem Zkh {i : Nat} {x y : Int} (h : Bd i x) (k : Bd i y) : Bd (i + 1) (x - y) := by
 unfold Bd at *
 rw [Nat.pow_succ]
 omega
theorem Zgt {i : Nat} {y x : Int} (h : Bd i y) (hi : i ≤ 9000) : Builtin.divisionGoesByPylong x y = false := by
 refine PyProof.noPylong_of_log2 ?_
 by_cases h0 : y.natAbs = 0
 ·rw [h0]; decide +kernel
 ·exact Nat.lt_of_lt_of_le ((Nat.log2_lt h0).mpr h) hi
theorem Zdd {i : Nat} {x y : Int} (h : Bd i y) (h0 : 0 ≤ x) (h1 : x ≤ y) : Bd i x := by unfold Bd at *; omega
theorem Zfe {i : Nat} (h : 1 ≤ i) : Bd i 1 := ZbR (i := 1) (by decide) h
theorem ZdK {i : Nat} : Bd i 0 := Nat.two_pow_pos i
theorem ZoC {a b : Int} {k : Nat} (hb : 0 < b) (kb : Bd k b) (hk : k ≤ 8000) (ha : 0 ≤ a) (hg : Int.gcd a b = 1) : Pk (ZfS [.int a, .int b]) fun t => ∃ x : Int, t = .int x ∧ 0 ≤ x ∧ x < b ∧ ∃ q, a * x = 1 + b * q := by
 unfold ZfS Zi5
 walk_at "zz"
 rw [Int.fmod_eq_emod_of_nonneg _ (by omega)]
 have r0 := Int.emod_nonneg a (show b ≠ 0 by omega)
 have r1 := Int.emod_lt_of_pos a hb
 have hlt : ∀ x : Int, 0 ≤ x → x ≤ b → x < 2 ^ 200000 := fun x h0 h1 => by
  have h2 : b.natAbs < 2 ^ 200000 := ZbR kb (by omega)
  have h3 : ((b.natAbs : Nat) : Int) < 2 ^ 200000 := by exact_mod_cast h2
  omega
 obtain ⟨m, hm, eu⟩ := ZlE r0 (show 0 ≤ b by omega) (hlt _ r0 (by omega)) (hlt b (by omega) (by omega))
 have hg0 : Int.gcd (a % b) b = 1 := by
  rw [Int.gcd_comm, ZjB hb]; exact hg
 refine Zjo (fun m σ => ∃ l r s t : Int, σ 1 = some (.int b) ∧ σ 2 = some (.int l) ∧ σ 3 = some (.int r) ∧ σ 4 = some (.int s) ∧ σ 5 = some (.int t) ∧ Eu m l r ∧ Int.gcd l r = 1 ∧ l ≤ b ∧ r ≤ b ∧ (∃ q, s * a = l + b * q) ∧ (∃ q, t * a = r + b * q) ∧ (s.natAbs : Int) * r + (t.natAbs : Int) * l ≤ b ∧ (1 ≤ l ∨ t = 0)) _ _ ?_ 1000000 (m := m) ⟨a % b, b, 1, 0, by walk_at "zr", by walk_at "zr", by walk_at "zr", by walk_at "zr", by walk_at "zr", eu, hg0, by omega, by omega, ⟨a / b, ?_⟩, ⟨-1, by omega⟩, by simp, .inr rfl⟩ hm
 ·rintro m σ ⟨l, r, s, t, e1, e2, e3, e4, e5, eu, gl, lb, rb, ⟨q1, h1⟩, ⟨q2, h2⟩, hb1, hl⟩
  walk_at "zz"
  refine ⟨fun h => ?_, fun h => ?_⟩
  ·have hr : r ≠ 0 := by simpa using h
   have hr0 : 0 ≤ r := eu.2.1
   have hl0 : 0 ≤ l := eu.1
   have hrp : 0 < r := by omega
   have kr : Bd k r := Zdd kb hr0 rb
   have kl : Bd k l := Zdd kb hl0 lb
   have hdiv0 : 0 ≤ l / r := Int.ediv_nonneg hl0 hr0
   have hdiv1 : l / r ≤ l := Int.ediv_le_self _ hl0
   have ks : (s.natAbs : Int) ≤ b := by
    have : (s.natAbs : Int) * 1 ≤ (s.natAbs : Int) * r := Int.mul_le_mul_of_nonneg_left (by omega) (by omega)
    have : 0 ≤ (t.natAbs : Int) * l := Int.mul_nonneg (by omega) hl0
    omega
   have kt : (t.natAbs : Int) ≤ b := by
    rcases hl with hl | hl
    ·have : (t.natAbs : Int) * 1 ≤ (t.natAbs : Int) * l := Int.mul_le_mul_of_nonneg_left (by omega) (by omega)
     have : 0 ≤ (s.natAbs : Int) * r := Int.mul_nonneg (by omega) hr0
     omega
    ·rw [hl]; simp; omega
   have kt' : Bd k t := by unfold Bd at *; omega
   have kd : Bd k (l / r) := Zdd kl hdiv0 hdiv1
   walk_at "zz"
   refine Zd7 hr (Zgt kr (by omega)) ?_
   rw [Int.fdiv_eq_ediv_of_nonneg _ hr0]
   walk_at "zz"
   refine Zb9 (Zcy kd kr (by omega) (by omega)) ?_
   walk_at "zz"
   refine Zb9 (Zcy kd kt' (by omega) (by omega)) ?_
   walk_at "zz"
   have hover : l - l / r * r = l % r := by
    have := Int.emod_add_mul_ediv l r
    rw [Int.mul_comm r (l / r)] at this
    omega
   rw [hover]
   obtain ⟨m', hm1, hm2⟩ := eu.step hr
   have o0 := Int.emod_nonneg l hr
   have o1 := Int.emod_lt_of_pos l hrp
   refine ⟨m', hm1, r, l % r, t, s - l / r * t, by walk_at "zr", by walk_at "zr", by walk_at "zr", by walk_at "zr", by walk_at "zr", hm2, by rw [ZjB hrp]; exact gl, rb, by omega, ⟨q2, h2⟩, ⟨q1 - l / r * q2, ?_⟩, ?_, .inl (by omega)⟩
   ·rw [Int.sub_mul, h1, Int.mul_assoc, h2, Int.mul_add, Int.mul_sub, ← hover]
    have e1 : b * (l / r * q2) = l / r * (b * q2) := by rw [← Int.mul_assoc, Int.mul_comm b, Int.mul_assoc]
    rw [e1]
    omega
   ·have ht : ((s - l / r * t).natAbs : Int) ≤ (s.natAbs : Int) + l / r * (t.natAbs : Int) := by
     have h3 : (s - l / r * t).natAbs ≤ s.natAbs + (l / r * t).natAbs := by omega
     have h4 : (l / r * t).natAbs = (l / r).natAbs * t.natAbs := Int.natAbs_mul ..
     have h5 : (((l / r).natAbs * t.natAbs : Nat) : Int) = l / r * (t.natAbs : Int) := by
      rw [Int.natCast_mul, Int.natAbs_of_nonneg hdiv0]
     rw [h4] at h3
     omega
    have h6 : ((s - l / r * t).natAbs : Int) * r ≤ ((s.natAbs : Int) + l / r * (t.natAbs : Int)) * r := Int.mul_le_mul_of_nonneg_right ht hr0
    have h7 : ((s.natAbs : Int) + l / r * (t.natAbs : Int)) * r = (s.natAbs : Int) * r + (t.natAbs : Int) * (l / r * r) := by
     rw [Int.add_mul, Int.mul_comm (l / r) (t.natAbs : Int), Int.mul_assoc]
    have h8 : (t.natAbs : Int) * (l % r) + (t.natAbs : Int) * (l / r * r) = (t.natAbs : Int) * l := by
     rw [← Int.mul_add, ← hover]
     congr 1
     omega
    omega
  ·have hr : r = 0 := by simpa using h
   subst hr
   rw [Int.gcd_zero_right] at gl
   have hl1 : l = 1 := by have := eu.1; omega
   subst hl1
   walk_at "zz"
   rw [Int.fmod_eq_emod_of_nonneg _ (by omega)]
   refine ⟨s % b, rfl, Int.emod_nonneg _ (by omega), Int.emod_lt_of_pos _ hb, q1 - s / b * a, ?_⟩
   have h3 := Int.emod_add_mul_ediv s b
   have h4 : s % b = s - b * (s / b) := by omega
   rw [h4, Int.mul_sub, Int.mul_comm a s, h1, Int.mul_sub]
   have e1 : a * (b * (s / b)) = b * (s / b * a) := by rw [Int.mul_comm a, Int.mul_assoc]
   rw [e1]
   omega
 ·have h3 := Int.emod_add_mul_ediv a b
  rw [Int.one_mul]
  omega
end L
namespace L
open PySem PySem.W PyProof.Rows PM TM My
theorem ZhK {m r : Int} (h : 0 ≤ m) : Zd8 [.int m, .int r] = some (Z9 (Zas m r)) := by
 apply Pk.eq
 unfold Zd8 Zkd Zas
 by_cases c : m = 0
 ·walk_at "zz"
  rw [if_pos c]; rfl
 ·walk_at "zz"
  rw [if_neg c]; rfl
theorem Zbj {q : Int × Int} (h : 0 ≤ q.1) (x : Int) : Zaq q x ↔ q.1 ∣ x - q.2 := by
 unfold Zaq
 by_cases c : q.1 = 0
 ·rw [c]
  simp
  omega
 ·have : 0 < q.1 := by omega
  simp only [c, false_implies, true_and, this, true_implies]
  exact (Int.dvd_iff_emod_eq_zero).symm
theorem Zpg {m r : Int} (h : 0 ≤ m) : 0 ≤ (Zas m r).1 := by unfold Zas; split <;> simp [h]
theorem ZcJ {m r : Int} (h : 0 ≤ m) (x : Int) : Zaq (Zas m r) x ↔ m ∣ x - r := by
 rw [Zbj (Zpg h)]
 unfold Zas
 split
 ·rename_i c; subst c; rfl
 ·show m ∣ x - r.fmod m ↔ _
  rw [Int.fmod_eq_emod_of_nonneg _ h]
  have h1 : x - r % m = (x - r) + m * (r / m) := by have := Int.emod_add_mul_ediv r m; omega
  rw [h1]
  constructor
  ·intro q
   have := Int.dvd_sub q (Int.dvd_mul_right m (r / m))
   rwa [Int.add_sub_cancel] at this
  ·intro q
   exact Int.dvd_add q (Int.dvd_mul_right m (r / m))
theorem RestOk.nn {q : Int × Int} (h : RestOk q) : 0 ≤ q.1 := by rcases h with h | h <;> omega
theorem RestOk.self {q : Int × Int} (h : RestOk q) : Zaq q q.2 := by rw [Zbj h.nn]; simp
theorem ZkM {p q : Int × Int} (hp : RestOk p) (hq : RestOk q) (h : ∀ x, Zaq p x ↔ Zaq q x) : p = q := by
 have e1 : ∀ x, p.1 ∣ x - p.2 ↔ q.1 ∣ x - q.2 := fun x => by rw [← Zbj hp.nn, ← Zbj hq.nn]; exact h x
 have a1 : q.1 ∣ p.2 - q.2 := (e1 p.2).mp (by simp)
 have a2 : q.1 ∣ p.2 + p.1 - q.2 := (e1 (p.2 + p.1)).mp (by rw [show p.2 + p.1 - p.2 = p.1 by omega]; exact Int.dvd_refl _)
 have b1 : p.1 ∣ q.2 - p.2 := (e1 q.2).mpr (by simp)
 have b2 : p.1 ∣ q.2 + q.1 - p.2 := (e1 (q.2 + q.1)).mpr (by rw [show q.2 + q.1 - q.2 = q.1 by omega]; exact Int.dvd_refl _)
 have c1 : q.1 ∣ p.1 := by have := Int.dvd_sub a2 a1; rwa [show p.2 + p.1 - q.2 - (p.2 - q.2) = p.1 by omega] at this
 have c2 : p.1 ∣ q.1 := by have := Int.dvd_sub b2 b1; rwa [show q.2 + q.1 - p.2 - (q.2 - p.2) = q.1 by omega] at this
 have em : p.1 = q.1 := Int.dvd_antisymm hp.nn hq.nn c2 c1
 have er : p.2 = q.2 := by
  rcases hp with hp | hp
  ·rw [hp] at em
   rw [← em] at a1
   have := Int.zero_dvd.mp a1
   omega
  ·rcases hq with hq | hq
   ·omega
   ·rw [← em] at a1 hq
    obtain ⟨k, hk⟩ := a1
    have : k = 0 := by
     rcases Int.lt_trichotomy k 0 with h | h | h
     ·have : p.1 * k ≤ p.1 * (-1) := Int.mul_le_mul_of_nonneg_left (by omega) (by omega)
      omega
     ·exact h
     ·have : p.1 * 1 ≤ p.1 * k := Int.mul_le_mul_of_nonneg_left (by omega) (by omega)
      omega
    subst this
    simp at hk
    omega
 exact Prod.ext em er
noncomputable def RBd (k : Nat) (q : Int × Int) : Prop := Bd k q.1 ∧ Bd k q.2
theorem Zje {m r : Int} {k : Nat} (h0 : 0 ≤ m) (hm : Bd k m) (hr : Bd k r) : RBd k (Zas m r) := ZhJ h0 hm hr
noncomputable def ZbD (p q : Int × Int) : Int × Int := Zas (Int.gcd p.1 q.1) (p.2 + q.2)
theorem ZjD (p q : Int × Int) : RestOk (ZbD p q) := Zcw (by omega) _
theorem ZhL {p q : Int × Int} {k : Nat} (hk : k ≤ 200000) (hp : Bd k p.1) (hq : Bd k q.1) : ZdO [Z9 p, Z9 q] = some (Z9 (ZbD p q)) := by
 apply Pk.eq
 unfold ZdO ZhZ Z9 ZbD
 walk_at "zz"
 refine ZO (Zk0 (ZbR hp hk) (ZbR hq hk)) ?_
 walk_at "zz"
 exact ZO (ZhK (by omega)) rfl
noncomputable def Zck (p : Int × Int) (k : Int) : Int × Int := Zas (p.1 * ZaZ k) (p.2 * k)
theorem ZkB {p : Int × Int} {c : Int} {k : Nat} (hk : k ≤ 200000) (hp0 : 0 ≤ p.1) (hp : RBd k p) (hc : Bd k c) : Zem [Z9 p, .int c] = some (Z9 (Zck p c)) := by
 apply Pk.eq
 unfold Zem Zhz Z9 Zck
 have ha : Bd k (ZaZ c) := by unfold Bd at *; rw [ZjC]; exact hc
 walk_at "zz"
 refine Zb9 (Zcy hp.1 ha (by omega) (by omega)) ?_
 walk_at "zz"
 refine Zb9 (Zcy hp.2 hc (by omega) (by omega)) ?_
 walk_at "zz"
 exact ZO (ZhK (Int.mul_nonneg hp0 (ZcN c))) rfl
noncomputable def Zda (p : Int × Int) (top : Int) : Option Int := if p.1 = 0 then (if p.2 ≤ top then some p.2 else none) else some (top - (top - p.2) % p.1)
theorem Znw {p : Int × Int} {top : Int} (hp : 0 ≤ p.1) : Zfs [Z9 p, .int top] = some (oT (Zda p top)) := by
 apply Pk.eq
 unfold Zfs ZhC Z9 Zda
 by_cases c : p.1 = 0
 ·rw [if_pos c]
  by_cases d : p.2 ≤ top
  ·walk_at "zz"
   rw [if_pos d]; rfl
  ·walk_at "zz"
   rw [if_neg d]; rfl
 ·rw [if_neg c]
  walk_at "zz"
  rw [Int.fmod_eq_emod_of_nonneg _ hp]
  rfl
noncomputable def oR : Option (Int × Int) → T
 | none => .none
 | some q => Z9 q
noncomputable def Met (p q : Int × Int) (o : Option (Int × Int)) : Prop := match o with
 | none => ∀ x, ¬ (Zaq p x ∧ Zaq q x)
 | some r => RestOk r ∧ (∀ x, Zaq r x ↔ Zaq p x ∧ Zaq q x)
theorem Zn6 {p q : Int × Int} {k : Nat} (hk : k ≤ 8000) (op : RestOk p) (oq : RestOk q) (bp : RBd k p) (bq : RBd k q) : Pk (ZfH [Z9 p, Z9 q]) fun t => ∃ o, t = oR o ∧ Met p q o ∧ ∀ r, o = some r → (r = p ∨ r = q ∨ (p.1 ≠ 0 ∧ q.1 ≠ 0 ∧ r.1 = Int.lcm p.1 q.1)) := by
 unfold ZfH ZiE
 have ep : Z9 p = .tup [.int p.1, .int p.2] := rfl
 have eq : Z9 q = .tup [.int q.1, .int q.2] := rfl
 have np := op.nn
 have nq := oq.nn
 by_cases c1 : p.1 = 0
 ·rw [ep]
  walk_at "zz"
  refine ZO (ZkL oq) ?_
  walk_at "zz"
  have hone : ∀ x, Zaq p x ↔ x = p.2 := fun x => by rw [Zbj np, c1, Int.zero_dvd]; omega
  refine ⟨fun e => ?_, fun e => ?_⟩
  ·walk_at "zz"
   refine ⟨some p, rfl, ⟨op, fun x => ⟨fun h => ⟨h, ?_⟩, fun h => h.1⟩⟩, fun r e => by cases e; exact .inl rfl⟩
   rw [(hone x).mp h]; exact dec_iff.mp e
  ·walk_at "zz"
   refine ⟨none, rfl, fun x h => ?_, by simp⟩
   have := (hone x).mp h.1
   subst this
   have h2 := ZaP h.2
   rw [h2] at e
   cases e
 by_cases c2 : q.1 = 0
 ·have hone : ∀ x, Zaq q x ↔ x = q.2 := fun x => by rw [Zbj nq, c2, Int.zero_dvd]; omega
  rw [ep, eq]
  walk_at "zz"
  rw [← ep]
  refine ZO (ZkL op) ?_
  walk_at "zz"
  refine ⟨fun e => ?_, fun e => ?_⟩
  ·walk_at "zz"
   refine ⟨some q, rfl, ⟨oq, fun x => ⟨fun h => ⟨?_, h⟩, fun h => h.2⟩⟩, fun r e => by cases e; exact .inr (.inl rfl)⟩
   rw [(hone x).mp h]; exact dec_iff.mp e
  ·walk_at "zz"
   refine ⟨none, rfl, fun x h => ?_, by simp⟩
   have := (hone x).mp h.2
   subst this
   have h2 := ZaP h.1
   rw [h2] at e
   cases e
 ·have pp : 0 < p.1 := by omega
  have pq : 0 < q.1 := by omega
  obtain ⟨g, hg⟩ : ∃ g : Nat, Int.gcd p.1 q.1 = g := ⟨_, rfl⟩
  have hg0 : 0 < (g : Int) := by
   have : Int.gcd p.1 q.1 ≠ 0 := fun h => c1 (Int.gcd_eq_zero_iff.mp h).1
   omega
  have gp : (g : Int) ∣ p.1 := by rw [← hg]; exact Int.gcd_dvd_left ..
  have gq : (g : Int) ∣ q.1 := by rw [← hg]; exact Int.gcd_dvd_right ..
  obtain ⟨a, ea⟩ := gp
  obtain ⟨b, eb⟩ := gq
  have ha : 0 < a := by
   rcases Int.lt_trichotomy a 0 with h | h | h
   ·have := Int.mul_neg_of_pos_of_neg hg0 h; omega
   ·subst h; simp at ea; omega
   ·exact h
  have hb : 0 < b := by
   rcases Int.lt_trichotomy b 0 with h | h | h
   ·have := Int.mul_neg_of_pos_of_neg hg0 h; omega
   ·subst h; simp at eb; omega
   ·exact h
  have da : p.1 / g = a := by rw [ea]; exact Int.mul_ediv_cancel_left _ (by omega)
  have db : q.1 / g = b := by rw [eb]; exact Int.mul_ediv_cancel_left _ (by omega)
  have kg : Bd k (g : Int) := Zdd bp.1 (by omega) (by
   rw [ea]
   have : (g : Int) * 1 ≤ g * a := Int.mul_le_mul_of_nonneg_left (by omega) (by omega)
   omega)
  have kb : Bd k b := Zdd bq.1 (by omega) (by
   rw [eb]
   have : 1 * b ≤ g * b := Int.mul_le_mul_of_nonneg_right (by omega) (by omega)
   omega)
  have cop : Int.gcd a b = 1 := by
   have h1 := Int.gcd_mul_left (g : Int) a b
   rw [← ea, ← eb, hg, Int.natAbs_natCast] at h1
   have h2 : g * 1 = g * Int.gcd a b := by omega
   exact (Nat.eq_of_mul_eq_mul_left (by omega) h2).symm
  rw [ep, eq]
  walk_at "zz"
  refine ZO (Zk0 (ZbR bp.1 (by omega)) (ZbR bq.1 (by omega))) ?_
  rw [hg]
  walk_at "zz"
  rw [Int.fmod_eq_emod_of_nonneg _ (by omega)]
  by_cases c3 : (q.2 - p.2) % (g : Int) = 0
  ·obtain ⟨d, ed⟩ := Int.dvd_of_emod_eq_zero c3
   have dd : (q.2 - p.2) / g = d := by rw [ed]; exact Int.mul_ediv_cancel_left _ (by omega)
   have kd : Bd (k + 1) d := by
    have h1 : Bd (k + 1) (q.2 - p.2) := Zkh bq.2 bp.2
    unfold Bd at *
    rw [ed, Int.natAbs_mul] at h1
    have : 1 * d.natAbs ≤ (g : Int).natAbs * d.natAbs := Nat.mul_le_mul_right _ (by omega)
    omega
   walk_at "zz"
   refine Zd7 (by omega) (Zgt kg (by omega)) ?_
   rw [Int.fdiv_eq_ediv_of_nonneg _ (by omega), db]
   walk_at "zz"
   refine Zd7 (by omega) (Zgt kg (by omega)) ?_
   rw [Int.fdiv_eq_ediv_of_nonneg _ (by omega), dd]
   walk_at "zz"
   refine Zd7 (by omega) (Zgt kg (by omega)) ?_
   rw [Int.fdiv_eq_ediv_of_nonneg _ (by omega), da]
   walk_at "zz"
   refine (ZoC hb kb hk (by omega) cop).mono ?_
   rintro _ ⟨y, rfl, y0, y1, z, hz⟩
   have ky : Bd k y := Zdd kb y0 (by omega)
   walk_at "zz"
   refine Zb9 (Zcy kd ky (by omega) (by omega)) ?_
   walk_at "zz"
   refine Zb9 (Zcy bp.1 kb (by omega) (by omega)) ?_
   walk_at "zz"
   refine Zb9 (Zcy bp.1 (Bd.mul kd ky) (by omega) (by omega)) ?_
   walk_at "zz"
   have hL : (p.1 * b).natAbs = Int.lcm p.1 q.1 := by
    have h1 := Int.gcd_mul_lcm p.1 q.1
    rw [hg] at h1
    have h2 : p.1.natAbs * q.1.natAbs = g * (p.1 * b).natAbs := by
     rw [Int.natAbs_mul]
     conv => lhs; rw [show q.1.natAbs = g * b.natAbs by rw [eb, Int.natAbs_mul, Int.natAbs_natCast]]
     rw [← Nat.mul_assoc, Nat.mul_comm p.1.natAbs g, Nat.mul_assoc]
    have h3 : g * Int.lcm p.1 q.1 = g * (p.1 * b).natAbs := by omega
    exact (Nat.eq_of_mul_eq_mul_left (by omega) h3).symm
   have hpb : 0 < p.1 * b := Int.mul_pos pp hb
   refine ZO (ZhK (by omega)) ⟨some _, rfl, ⟨Zcw (by omega) _, fun x => ?_⟩, fun r e => ?_⟩
   ·rw [ZcJ (by omega), Zbj np, Zbj nq]
    have hx0 : p.1 * (d * y) = (q.2 - p.2) + q.1 * (d * z) := by
     rw [ed, ea, eb]
     have : (g : Int) * a * (d * y) = g * d * (a * y) := by
      rw [Int.mul_assoc, Int.mul_assoc, Int.mul_left_comm a d y]
     rw [this, hz, Int.mul_add, Int.mul_one]
     congr 1
     rw [Int.mul_assoc, Int.mul_assoc, Int.mul_left_comm d b z]
    constructor
    ·intro h
     have h1 : p.1 ∣ x - (p.2 + p.1 * (d * y)) := Int.dvd_trans (Int.dvd_mul_right _ _) h
     have h2 : q.1 ∣ x - (p.2 + p.1 * (d * y)) := Int.dvd_trans ⟨a, by rw [ea, eb]; rw [Int.mul_assoc, Int.mul_assoc, Int.mul_comm a b]⟩ h
     refine ⟨?_, ?_⟩
     ·have := Int.dvd_add h1 (Int.dvd_mul_right p.1 (d * y))
      rwa [show x - (p.2 + p.1 * (d * y)) + p.1 * (d * y) = x - p.2 by omega] at this
     ·have := Int.dvd_add h2 (Int.dvd_mul_right q.1 (d * z))
      rwa [show x - (p.2 + p.1 * (d * y)) + q.1 * (d * z) = x - q.2 by omega] at this
    ·rintro ⟨h1, h2⟩
     have h3 : p.1 ∣ x - (p.2 + p.1 * (d * y)) := by
      have := Int.dvd_sub h1 (Int.dvd_mul_right p.1 (d * y))
      rwa [show x - p.2 - p.1 * (d * y) = x - (p.2 + p.1 * (d * y)) by omega] at this
     have h4 : q.1 ∣ x - (p.2 + p.1 * (d * y)) := by
      have := Int.dvd_sub h2 (Int.dvd_mul_right q.1 (d * z))
      rwa [show x - q.2 - q.1 * (d * z) = x - (p.2 + p.1 * (d * y)) by omega] at this
     have h5 := Int.lcm_dvd (Int.dvd_natAbs.mpr h3) (Int.dvd_natAbs.mpr h4)
     rw [← hL] at h5
     have h6 : (((p.1 * b).natAbs : Nat) : Int) ∣ (((x - (p.2 + p.1 * (d * y))).natAbs : Nat) : Int) := Int.natCast_dvd_natCast.mpr h5
     exact Int.natAbs_dvd.mp (Int.dvd_natAbs.mp h6)
   ·cases e
    refine .inr (.inr ⟨c1, c2, ?_⟩)
    unfold Zas
    rw [if_neg (by omega)]
    show p.1 * b = _
    rw [← hL]
    omega
  ·walk_at "zz"
   refine ⟨none, rfl, fun x h => c3 ?_, by simp⟩
   rw [Zbj np, Zbj nq] at h
   have h1 : (g : Int) ∣ x - p.2 := Int.dvd_trans ⟨a, ea⟩ h.1
   have h2 : (g : Int) ∣ x - q.2 := Int.dvd_trans ⟨b, eb⟩ h.2
   have h3 := Int.dvd_sub h1 h2
   rw [show x - p.2 - (x - q.2) = q.2 - p.2 by omega] at h3
   exact Int.emod_eq_zero_of_dvd h3
end L
namespace L
open PySem PySem.W PyProof.Rows PM TM My
theorem ZrP {k : Nat} {a b : Int} (ha : Bd k a) (hb : Bd k b) : Bd k ((Int.gcd a b : Nat) : Int) := by
 unfold Bd at *
 rw [Int.natAbs_natCast]
 by_cases z : a = 0
 ·rw [z, Int.gcd_zero_left]; exact hb
 ·exact Nat.lt_of_le_of_lt (Nat.gcd_le_left _ (by omega)) ha
end L
namespace L
open PySem PySem.W PyProof.Rows PM TM My
noncomputable def Zb5 (a b : Option Int) : Option Int := if dec (leO a b) then a else b
noncomputable def Zar : Option Int → Option Int → Option Int
 | some a, some b => some (a + b)
 | _, _ => none
theorem addO_some {a b : Option Int} {c : Int} : Zar a b = some c ↔ ∃ x y, a = some x ∧ b = some y ∧ x + y = c := by
 cases a <;> cases b <;> simp [Zar]
theorem leO_total {a b : Option Int} (h : ¬ leO a b) : leO b a := by
 cases a with
 | none => exact Zf3
 | some x =>
  cases b with
  | none => exact absurd Zf3 h
  | some y => rw [leO_some] at h ⊢; omega
theorem Zki {a b : Option Int} : leO (Zb5 a b) a := by
 unfold Zb5
 split
 ·exact ZcK
 ·rename_i h; exact leO_total fun q => h (ZaP q)
theorem ZmG {a b : Option Int} : leO (Zb5 a b) b := by
 unfold Zb5
 split
 ·rename_i h; exact dec_iff.mp h
 ·exact ZcK
theorem Zgg (a b : Option Int) : Zb5 a b = a ∨ Zb5 a b = b := by
 unfold Zb5; split <;> simp
theorem Zmd {a b : Option Int} (h : leO a b) : Zb5 a b = a := by unfold Zb5; rw [ZaP h]; rfl
theorem ZfX {a b c d : Option Int} (h : leO a c) (k : leO b d) : leO (Zar a b) (Zar c d) := by
 intro y e
 obtain ⟨p, q, rfl, rfl, rfl⟩ := addO_some.mp e
 obtain ⟨p', rfl, l1⟩ := h p rfl
 obtain ⟨q', rfl, l2⟩ := k q rfl
 exact ⟨p' + q', rfl, by omega⟩
theorem ZmH {a : Option Int} : Zar a (some 0) = a := by cases a <;> simp [Zar]
theorem ZmI {a : Option Int} : Zar (some 0) a = a := by cases a <;> simp [Zar]
theorem ZfO {a b c : Option Int} : Zar (Zar a b) c = Zar a (Zar b c) := by cases a <;> cases b <;> cases c <;> simp [Zar, Int.add_assoc]
theorem Zes {a b : Option Int} : ZcX [oT a, oT b] = some (oT (Zar a b)) := by
 apply Pk.eq
 unfold ZcX ZiG
 cases a with
 | none =>
  rw [ZbW]
  walk_at "zz"
  rfl
 | some x =>
  cases b with
  | none =>
   rw [ZbW, Zbi]
   walk_at "zz"
   rfl
  | some y =>
   rw [Zbi, Zbi]
   walk_at "zz"
   rfl
theorem Zph {a b : Option Int} : Zf1 [oT a, oT b] = some (oT (Zb5 a b)) := by
 apply Pk.eq
 unfold Zf1 Zjs Zb5
 walk_at "zz"
 refine ZO ZnK ?_
 walk_at "zz"
 refine ⟨fun e => ?_, fun e => ?_⟩
 ·walk_at "zz"
  rw [e]; rfl
 ·walk_at "zz"
  rw [e]; rfl
noncomputable def Zbh (G : Nat → Nat → Option Int) (m : Nat) : Nat → Nat → Option Int := fun i j => Zb5 (G i j) (Zar (G i m) (G m j))
theorem Zm1 {n : Nat} {a b : Nat → Option Int} {c : Option Int} (hn : n < 10000) : Zff [Zai n a, oT c, Zai n b] = some (Zai n fun j => Zb5 (a j) (Zar c (b j))) := by
 apply Pk.eq
 unfold Zff ZgQ Zai
 walk_at "zz"
 refine Zjn (n := n) (a := fun j => oT (a j)) (b := fun j => oT (b j)) (c := fun j => oT (Zb5 (a j) (Zar c (b j)))) hn ?_ (fun j hj => ?_) ?_
 ·walk_at "zz"
  rfl
 ·walk_at "zz"
  refine ZO Zes ?_
  walk_at "zz"
  exact ZO Zph ⟨ZjR, rfl⟩
 rfl
theorem ZnM {n m : Nat} {G : Nat → Nat → Option Int} (hn : n < 10000) (hm : m < n) : Zfz [Zaw n G, .int m] = some (Zaw n (Zbh G m)) := by
 apply Pk.eq
 unfold Zfz Zh3 Zaw
 walk_at "zz"
 refine Za8 (n := n) (a := fun i => Zai n (G i)) (b := fun i => Zai n (Zbh G m i)) hn ?_ (fun i hi => ?_) ?_
 ·walk_at "zz"
  rfl
 ·have h : Zai n (G i) = .lst (tab n fun j => oT (G i j)) := rfl
  rw [h]
  walk_at "zz"
  rw [← h]
  exact ZO (Zm1 hn) rfl
 rfl
noncomputable def Neg (n : Nat) (G : Nat → Nat → Option Int) : Prop := ∃ i, i < n ∧ ∃ b, G i i = some b ∧ b < 0
theorem Zp0 {n : Nat} {G : Nat → Nat → Option Int} (hn : n ≤ 1000) (hd : ∀ i, i < n → ∃ b, G i i = some b) : Zfj [Zaw n G] = some (.bool (dec (Neg n G))) := by
 apply Pk.eq
 unfold Zfj Zg2 Zaw Zai
 walk_at "zz"
 refine Za8 (n := n) (a := fun i => .int i) (b := fun i => .bool (dec (∃ b, G i i = some b ∧ b < 0))) (by omega) ?_ (fun i hi => ?_) ?_
 ·walk_at "zz"
  rfl
 ·walk_at "zz"
  obtain ⟨b, e⟩ := hd i hi
  rw [e, Zbi]
  walk_at "zz"
  rw [ZdS]
  congr 1
  refine ZdV ⟨fun h => ⟨b, rfl, h⟩, ?_⟩
  rintro ⟨c, e, h⟩
  cases e
  exact h
 walk_at "zz"
 rfl
noncomputable def clG (G : Nat → Nat → Option Int) : Nat → Nat → Nat → Option Int
 | 0 => G
 | m + 1 => Zbh (clG G m) m
theorem ZlG {G : Nat → Nat → Option Int} {m i : Nat} (h : ∃ b, G i i = some b) : ∃ b, Zbh G m i i = some b := by
 obtain ⟨b, e⟩ := h
 have := Zki (a := G i i) (b := Zar (G i m) (G m i))
 rw [e] at this
 obtain ⟨c, e2, _⟩ := this b rfl
 exact ⟨c, by unfold Zbh; rw [e]; exact e2⟩
theorem ZjX {n : Nat} {G : Nat → Nat → Option Int} (hd : ∀ i, i < n → ∃ b, G i i = some b) : ∀ m i, i < n → ∃ b, clG G m i i = some b
 | 0 => hd
 | m + 1 => fun i hi => ZlG (ZjX hd m i hi)
theorem Zpi {n : Nat} {G : Nat → Nat → Option Int} (h0 : 0 < n) (hn : n ≤ 1000) (hd : ∀ i, i < n → ∃ b, G i i = some b) : Pk (ZeB [Zaw n G]) fun t => (t = Zaw n (clG G n) ∧ ∀ m, m < n → ¬ Neg n (clG G (m + 1))) ∨ (t = .none ∧ ∃ m, m < n ∧ Neg n (clG G (m + 1))) := by
 unfold ZeB Zju
 have hg : Zaw n G = .lst (tab n fun i => Zai n (G i)) := rfl
 walk_at "zz"
 refine ZqJ (n := n) (a := fun i => .int i) h0 ?_ (P := fun i σ => σ 1 = some (Zaw n (clG G i)) ∧ ∀ m, m < i → ¬ Neg n (clG G (m + 1))) ⟨rfl, by omega⟩ ?_ ?_
 ·walk_at "zz"
  rw [hg]
  walk_at "zz"
  rfl
 ·rintro i σ hi ⟨e1, e2⟩
  walk_at "zz"
  refine ZO (ZnM (by omega) hi) ?_
  walk_at "zz"
  refine ZO (Zp0 hn fun a ha => ZlG (ZjX hd i a ha)) ?_
  walk_at "zz"
  refine ⟨fun e => ?_, fun e => ?_⟩
  ·walk_at "zz"
   exact .inr ⟨rfl, i, hi, dec_iff.mp e⟩
  ·walk_at "zz"
   refine ⟨by walk_at "zr", fun m hm => ?_⟩
   by_cases q : m = i
   ·subst q
    intro h
    have h2 : dec (Neg n (Zbh (clG G m) m)) = true := ZaP h
    rw [h2] at e
    cases e
   ·exact e2 m (by omega)
 ·rintro σ ⟨e1, e2⟩
  walk_at "zz"
  exact .inl ⟨rfl, e2⟩
theorem ZgD {G : Nat → Nat → Option Int} : ∀ m i j, leO (clG G m i j) (G i j)
 | 0 => fun _ _ => ZcK
 | m + 1 => fun i j => Zdo Zki (ZgD m i j)
theorem Zgh {n : Nat} {G : Nat → Nat → Option Int} (hd : ∀ i, i < n → G i i = some 0) {m : Nat} (hn : ∀ k, k < m → ¬ Neg n (clG G (k + 1))) : ∀ i, i < n → clG G m i i = some 0 := by
 intro i hi
 obtain ⟨b, e⟩ := ZjX (fun i hi => ⟨0, hd i hi⟩) m i hi
 have h := ZgD m i i (G := G)
 rw [hd i hi, e] at h
 have h1 := leO_some.mp h
 have h2 : ¬ b < 0 := fun q => by
  cases m with
  | zero => have := hd i hi; rw [show clG G 0 i i = G i i from rfl, this] at e; cases e; omega
  | succ m => exact hn m (by omega) ⟨i, hi, b, e, q⟩
 rw [e, show b = 0 by omega]
theorem ZmJ {n : Nat} {G : Nat → Nat → Option Int} (hd : ∀ i, i < n → G i i = some 0) : ∀ m, m ≤ n → (∀ k, k < m → ¬ Neg n (clG G (k + 1))) → ∀ k, k < m → ∀ i j, i < n → j < n → leO (clG G m i j) (Zar (clG G m i k) (clG G m k j))
 | 0, _, _, k, hk => by omega
 | m + 1, hm, hn, k, hk => by
  intro i j hi hj
  have z := Zgh hd (fun k hk => hn k (by omega) : ∀ k, k < m → _)
  have ih := ZmJ hd m (by omega) (fun k hk => hn k (by omega))
  generalize hD : clG G m = D at z ih
  have hs : clG G (m + 1) = Zbh D m := by rw [← hD]; rfl
  rw [hs]
  have zm := z m (by omega)
  have cm : ∀ a, Zbh D m a m = D a m := fun a => by unfold Zbh; rw [zm, ZmH]; exact Zmd ZcK
  have rm : ∀ b, Zbh D m m b = D m b := fun b => by unfold Zbh; rw [zm, ZmI]; exact Zmd ZcK
  by_cases q : k = m
  ·subst q
   rw [cm, rm]
   exact ZmG
  ·have hk' : k < m := by omega
   have t1 := ih k hk' i j hi hj
   have t2 := ih k hk' i m hi (by omega)
   have t3 := ih k hk' m j (by omega) hj
   have t4 := ih k hk' m m (by omega) (by omega)
   rw [zm] at t4
   have dn : leO (Zbh D m i j) (Zar (D i m) (D m j)) := ZmG
   have d0 : leO (Zbh D m i j) (D i j) := Zki
   rcases Zgg (D i k) (Zar (D i m) (D m k)) with e1 | e1 <;> rcases Zgg (D k j) (Zar (D k m) (D m j)) with e2 | e2
   ·rw [show Zbh D m i k = _ from e1, show Zbh D m k j = _ from e2]
    exact Zdo d0 t1
   ·rw [show Zbh D m i k = _ from e1, show Zbh D m k j = _ from e2, ← ZfO]
    exact Zdo dn (ZfX t2 ZcK)
   ·rw [show Zbh D m i k = _ from e1, show Zbh D m k j = _ from e2, ZfO]
    exact Zdo dn (ZfX ZcK t3)
   ·rw [show Zbh D m i k = _ from e1, show Zbh D m k j = _ from e2, ZfO, ← ZfO (a := D m k)]
    refine Zdo dn (ZfX ZcK ?_)
    have := ZfX t4 (ZcK (a := D m j))
    rwa [ZmI] at this
noncomputable def Ze4 (n : Nat) (G : Nat → Nat → Option Int) (y : Nat → Int) : Prop := ∀ i j, i < n → j < n → ∀ b, G i j = some b → y i - y j ≤ b
theorem ZjE {n : Nat} {G : Nat → Nat → Option Int} {y : Nat → Int} (h : Ze4 n G y) : ∀ m, m ≤ n → Ze4 n (clG G m) y
 | 0, _ => h
 | m + 1, hm => by
  have ih := ZjE h m (by omega)
  intro i j hi hj b e
  rcases Zgg (clG G m i j) (Zar (clG G m i m) (clG G m m j)) with e1 | e1
  ·rw [show clG G (m + 1) i j = _ from e1] at e; exact ih i j hi hj b e
  ·rw [show clG G (m + 1) i j = _ from e1] at e
   obtain ⟨p, q, h1, h2, h3⟩ := addO_some.mp e
   have := ih i m hi (by omega) p h1
   have := ih m j (by omega) hj q h2
   omega
theorem Zpj {n : Nat} {G : Nat → Nat → Option Int} {y : Nat → Int} (h : Ze4 n G y) : ¬ Neg n G := by
 rintro ⟨i, hi, b, e, hb⟩
 have := h i i hi hi b e
 omega
theorem Zk1 {n : Nat} {G : Nat → Nat → Option Int} {R : Nat → Int × Int} {x : Nat → Int} (h : Za0 n G R x) : Ze4 (n + 1) G (Zat x) := fun i j hi hj b e => h.1 i j hi hj b e
theorem Zjf {k : Int} : ZdP [.int k] = some (.bool true) := by
 apply Pk.eq
 unfold ZdP Zh5
 walk_at "zz"
 rfl
theorem ZqS {n : Nat} {G : Nat → Nat → Option Int} (hn : n ≤ 1000) (hd : ∀ i, i < n → G i i = some 0) : ZfI [Zaw n G, .int n] = some (.bool true) := by
 apply Pk.eq
 unfold ZfI ZiJ Zaw Zai
 walk_at "zz"
 refine ZbX (n := n) (a := fun i => .int i) (P := fun i σ => σ 0 = some (Zaw n G) ∧ σ 1 = some (.int n)) ?_ ⟨rfl, rfl⟩ ?_ ?_
 ·walk_at "zz"
  rfl
 ·rintro i σ hi ⟨e0, e1⟩
  unfold Zaw Zai at e0
  walk_at "zz"
  refine ZbX (n := n) (a := fun j => oT (G i j)) (P := fun j σ => σ 0 = some (Zaw n G) ∧ σ 1 = some (.int n) ∧ σ 2 = some (.int i)) ?_ ⟨by walk_at "zr", by walk_at "zr", by walk_at "zr"⟩ ?_ ?_
  ·walk_at "zz"
   rfl
  ·rintro j σ hj ⟨f0, f1, f2⟩
   cases G i j with
   | none =>
    rw [ZbW]
    walk_at "zz"
    exact ⟨by walk_at "zr", by walk_at "zr", by walk_at "zr"⟩
   | some b =>
    rw [Zbi]
    walk_at "zz"
    refine ZO Zjf ?_
    walk_at "zz"
    exact ⟨by walk_at "zr", by walk_at "zr", by walk_at "zr"⟩
  ·rintro σ ⟨f0, f1, f2⟩
   unfold Zaw Zai at f0
   walk_at "zz"
   rw [hd i hi, Zbi]
   walk_at "zz"
   exact ⟨by walk_at "zr", by walk_at "zr"⟩
 ·rintro σ ⟨e0, e1⟩
  walk_at "zz"
  rfl
end L
namespace L
open PySem PySem.W PyProof.Rows PM TM My
section
variable {Q : T → Prop}
theorem Zjg {p : PE} {σ : TL} {k : Nat} (h : Pk (p σ) fun t => ∃ ts, t = .lst ts ∧ Q (.lst (ts.drop k))) : Pk (Zdy p k σ) Q := by
 obtain ⟨_, e, ts, rfl, q⟩ := h
 exact ⟨_, by simp only [Zdy, e, Option.bind_some], q⟩
end
noncomputable abbrev Sp := Option Int × Option Int
noncomputable def spT (s : Sp) : T := .tup [oT s.1, oT s.2]
noncomputable def SBd (k : Nat) (s : Sp) : Prop := (∀ x, s.1 = some x → Bd k x) ∧ ∀ x, s.2 = some x → Bd k x
theorem ZqT {k : Nat} {x : Int} (h : Bd k x) : Bd k (ZaZ x) := by unfold ZaZ; unfold Bd at *; split <;> omega
noncomputable def InS (s : Sp) (x : Int) : Prop := (∀ l, s.1 = some l → l ≤ x) ∧ ∀ h, s.2 = some h → x ≤ h
theorem ZhM {a : Option Int} {k : Int} {i : Nat} (hi : i ≤ 100000) (ha : ∀ x, a = some x → Bd i x) (hk : Bd i k) : ZdQ [oT a, .int k] = some (oT (a.map fun x => x * k)) := by
 apply Pk.eq
 unfold ZdQ Zh8
 cases a with
 | none =>
  simp only [ZbW, Option.map_none]
  walk_at "zz"
  rfl
 | some x =>
  simp only [Zbi, Option.map_some]
  walk_at "zz"
  refine Zb9 (Zcy (ha x rfl) hk (by omega) (by omega)) ?_
  rfl
noncomputable def ZbU (s : Sp) (k : Int) : Sp := if k = 0 then (some 0, some 0) else if k < 0 then (s.2.map fun x => x * k, s.1.map fun x => x * k) else (s.1.map fun x => x * k, s.2.map fun x => x * k)
theorem Zm2 {s : Sp} {k : Int} {i : Nat} (hi : i ≤ 100000) (hs : SBd i s) (hk : Bd i k) : Zfg [spT s, .int k] = some (spT (ZbU s k)) := by
 apply Pk.eq
 unfold Zfg ZgT ZbU spT
 by_cases c : k = 0
 ·walk_at "zz"
  rw [if_pos c]
  rfl
 ·rw [if_neg c]
  walk_at "zz"
  refine ZO (ZhM hi hs.1 hk) ?_
  walk_at "zz"
  refine ZO (ZhM hi hs.2 hk) ?_
  by_cases d : k < 0
  ·walk_at "zz"
   rw [if_pos d]
  ·walk_at "zz"
   rw [if_neg d]
noncomputable def ZgE (s u : Sp) : Sp := (Zar s.1 u.1, Zar s.2 u.2)
theorem Zm9 {s u : Sp} : Zfk [spT s, spT u] = some (spT (ZgE s u)) := by
 apply Pk.eq
 unfold Zfk Zg5 spT
 walk_at "zz"
 refine ZO Zes ?_
 walk_at "zz"
 refine ZO Zes ?_
 walk_at "zz"
 rfl
noncomputable def Zby (c : Nat → Int) (S : Nat → Sp) : Nat → Sp
 | 0 => (some (c 0), some (c 0))
 | j + 1 => ZgE (Zby c S j) (ZbU (S j) (c (j + 1)))
theorem ZjF {n : Nat} {f : Nat → T} : (tab (n + 1) f).drop 1 = tab n fun i => f (i + 1) := by
 apply List.ext_getElem
 ·simp [tab]
 ·intro i h1 h2
  simp [tab]
theorem Znj {n i : Nat} {c : Nat → Int} {S : Nat → Sp} (hn : n ≤ 100) (hi : i ≤ 100000) (bc : ∀ j, j < n + 1 → Bd i (c j)) (bS : ∀ j, j < n → SBd i (S j)) : Zfo [.lst (tab (n + 1) fun j => .int (c j)), .lst (tab n fun j => spT (S j))] = some (spT (Zby c S n)) := by
 apply Pk.eq
 unfold Zfo Zhj
 walk_at "zz"
 refine Zge (n := n) (a := fun j => .int (c (j + 1))) (c := fun j => spT (S j)) (P := fun j σ => σ 2 = some (spT (Zby c S j))) ?_ rfl ?_ ?_
 ·refine Zka ?_
  refine Zjg ?_
  walk_at "zz"
  refine ⟨_, rfl, ?_⟩
  rw [ZjF]
  walk_at "zz"
  rfl
 ·rintro j σ hj e2
  walk_at "zz"
  refine ZO (Zm2 hi (bS j hj) (bc (j + 1) (by omega))) ?_
  walk_at "zz"
  refine ZO Zm9 ?_
  walk_at "zz"
  exact Zch
 ·rintro σ e2
  walk_at "zz"
  rfl
noncomputable def Zdk (c : Nat → Int) (R : Nat → Int × Int) : Nat → Int × Int
 | 0 => (0, c 0)
 | j + 1 => ZbD (Zdk c R j) (Zck (R j) (c (j + 1)))
noncomputable def ZbE (c : Nat → Int) (R : Nat → Int × Int) : Nat → Int
 | 0 => 0
 | j + 1 => Int.gcd (ZbE c R j) (c (j + 1) * (R j).1)
noncomputable def ZbQ (c : Nat → Int) (R : Nat → Int × Int) : Nat → Int
 | 0 => c 0
 | j + 1 => ZbQ c R j + c (j + 1) * (R j).2
theorem ZeJ (c : Nat → Int) (R : Nat → Int × Int) : ∀ j, 0 ≤ ZbE c R j
 | 0 => by show (0 : Int) ≤ 0; decide
 | j + 1 => by show (0 : Int) ≤ ((Int.gcd _ _ : Nat) : Int); omega
theorem ZjY {c : Nat → Int} {R : Nat → Int × Int} {n i : Nat} (bc : ∀ j, j < n + 1 → Bd i (c j)) (bR : ∀ j, j < n → RBd i (R j)) : ∀ j, j ≤ n → Bd (i + i) (ZbE c R j)
 | 0, _ => ZdK
 | j + 1, h => ZrP (ZjY bc bR j (by omega)) ((bc (j + 1) (by omega)).mul (bR j (by omega)).1)
theorem Zme {c : Nat → Int} {R : Nat → Int × Int} {n i : Nat} (bc : ∀ j, j < n + 1 → Bd i (c j)) (bR : ∀ j, j < n → RBd i (R j)) : ∀ j, j ≤ n → Bd (i + i + j) (ZbQ c R j)
 | 0, _ => (bc 0 (by omega)).mono (by omega)
 | j + 1, h => (Zme bc bR j (by omega)).add (((bc (j + 1) (by omega)).mul (bR j (by omega)).2).mono (by omega))
theorem ZnN {m a b : Int} (h : 0 ≤ m) (hd : m ∣ a - b) : Zas m a = Zas m b := by
 refine ZkM (Zcw h _) (Zcw h _) fun x => ?_
 rw [ZcJ h, ZcJ h]
 constructor
 ·intro q
  have := Int.dvd_add q hd
  rwa [show x - a + (a - b) = x - b by omega] at this
 ·intro q
  have := Int.dvd_sub q hd
  rwa [show x - b - (a - b) = x - a by omega] at this
theorem Zk2 {m r : Int} (h : 0 ≤ m) : m ∣ (Zas m r).2 - r := by
 have := (ZcJ (r := r) h (Zas m r).2).mp (Zcw h r).self
 exact this
theorem ZfP {m r : Int} : (Zas m r).1 = m := by
 unfold Zas
 split
 ·rename_i h; exact h.symm
 ·rfl
theorem Zd2 {c : Nat → Int} {R : Nat → Int × Int} {n : Nat} (ok : ∀ j, j < n → RestOk (R j)) : ∀ j, j ≤ n → Zdk c R j = Zas (ZbE c R j) (ZbQ c R j)
 | 0, _ => rfl
 | j + 1, h => by
  have ih := Zd2 (c := c) ok j (by omega)
  have h0 := ZeJ c R j
  have hr := (ok j (by omega)).nn
  show ZbD (Zdk c R j) (Zck (R j) (c (j + 1))) = _
  rw [ih]
  unfold ZbD Zck
  rw [ZfP, ZfP]
  have hab : 0 ≤ (R j).1 * ZaZ (c (j + 1)) := Int.mul_nonneg hr (ZcN _)
  have eg : ((Int.gcd (ZbE c R j) ((R j).1 * ZaZ (c (j + 1))) : Nat) : Int) = ZbE c R (j + 1) := by
   show _ = ((Int.gcd (ZbE c R j) (c (j + 1) * (R j).1) : Nat) : Int)
   congr 1
   unfold Int.gcd
   rw [Int.natAbs_mul, Int.natAbs_mul, ZjC, Nat.mul_comm]
  rw [eg]
  have h1 : ZbE c R (j + 1) ∣ ZbE c R j := Int.gcd_dvd_left ..
  have h2 : ZbE c R (j + 1) ∣ (R j).1 * ZaZ (c (j + 1)) := by rw [← eg]; exact Int.gcd_dvd_right ..
  refine ZnN (ZeJ _ _ _) ?_
  have a1 := Int.dvd_trans h1 (Zk2 (r := ZbQ c R j) h0)
  have a2 := Int.dvd_trans h2 (Zk2 (r := (R j).2 * c (j + 1)) hab)
  have := Int.dvd_add a1 a2
  rw [show ZbQ c R (j + 1) = ZbQ c R j + c (j + 1) * (R j).2 from rfl, Int.mul_comm (c (j + 1))]
  generalize (Zas (ZbE c R j) (ZbQ c R j)).2 = u at *
  generalize (Zas ((R j).1 * ZaZ (c (j + 1))) ((R j).2 * c (j + 1))).2 = v at *
  generalize (R j).2 * c (j + 1) = z at *
  rwa [show u - ZbQ c R j + (v - z) = u + v - (ZbQ c R j + z) by omega] at this
theorem Zn7 {n i : Nat} {c : Nat → Int} {R : Nat → Int × Int} (hn : n ≤ 100) (hi : 1 ≤ i) (hi2 : i ≤ 1000) (bc : ∀ j, j < n + 1 → Bd i (c j)) (bR : ∀ j, j < n → RBd i (R j)) (ok : ∀ j, j < n → RestOk (R j)) : ZfJ [.lst (tab (n + 1) fun j => .int (c j)), .lst (tab n fun j => Z9 (R j))] = some (Z9 (Zdk c R n)) := by
 apply Pk.eq
 unfold ZfJ ZiM
 walk_at "zz"
 refine Zge (n := n) (a := fun j => .int (c (j + 1))) (c := fun j => Z9 (R j)) (P := fun j σ => σ 2 = some (Z9 (Zdk c R j))) ?_ rfl ?_ ?_
 ·refine Zka ?_
  refine Zjg ?_
  walk_at "zz"
  refine ⟨_, rfl, ?_⟩
  rw [ZjF]
  walk_at "zz"
  rfl
 ·rintro j σ hj e2
  have hr := (ok j hj).nn
  have bt : Bd (i + i) (Zck (R j) (c (j + 1))).1 := by
   unfold Zck
   rw [ZfP]
   exact (bR j hj).1.mul (ZqT (bc (j + 1) (by omega)))
  have bv : Bd (i + i) (Zdk c R j).1 := by
   rw [Zd2 ok j (by omega), ZfP]
   exact ZjY bc bR j (by omega)
  walk_at "zz"
  refine ZO (ZkB (k := i) (by omega) hr (bR j hj) (bc (j + 1) (by omega))) ?_
  walk_at "zz"
  refine ZO (ZhL (k := i + i) (by omega) bv bt) ?_
  walk_at "zz"
  exact Zch
 ·rintro σ e2
  walk_at "zz"
  rfl
end L
namespace L
open PySem PySem.W PyProof.Rows PM TM My
end L
namespace L
open PySem PySem.W PyProof.Rows PM TM My
theorem Zpk {s : Sp} {x k : Int} (h : InS s x) : InS (ZbU s k) (k * x) := by
 unfold ZbU
 obtain ⟨a, b⟩ := s
 by_cases c : k = 0
 ·rw [if_pos c, c, Int.zero_mul]
  exact ⟨fun l e => by cases e; omega, fun l e => by cases e; omega⟩
 ·rw [if_neg c]
  by_cases d : k < 0
  ·rw [if_pos d]
   refine ⟨fun l e => ?_, fun l e => ?_⟩
   ·cases b with
    | none => cases e
    | some y =>
     cases e
     have := h.2 y rfl
     show y * k ≤ k * x
     rw [Int.mul_comm]
     exact Int.mul_le_mul_of_nonpos_left (a := k) (by omega) this
   ·cases a with
    | none => cases e
    | some y =>
     cases e
     have := h.1 y rfl
     show k * x ≤ y * k
     rw [Int.mul_comm y]
     exact Int.mul_le_mul_of_nonpos_left (a := k) (by omega) this
  ·rw [if_neg d]
   refine ⟨fun l e => ?_, fun l e => ?_⟩
   ·cases a with
    | none => cases e
    | some y =>
     cases e
     have := h.1 y rfl
     show y * k ≤ k * x
     rw [Int.mul_comm]
     exact Int.mul_le_mul_of_nonneg_left this (show 0 ≤ k by omega)
   ·cases b with
    | none => cases e
    | some y =>
     cases e
     have := h.2 y rfl
     show k * x ≤ y * k
     rw [Int.mul_comm y]
     exact Int.mul_le_mul_of_nonneg_left this (show 0 ≤ k by omega)
theorem Zp1 {s u : Sp} {x y : Int} (h : InS s x) (k : InS u y) : InS (ZgE s u) (x + y) := by
 refine ⟨fun l e => ?_, fun l e => ?_⟩
 ·obtain ⟨a, b, h1, h2, rfl⟩ := addO_some.mp e
  have := h.1 a h1
  have := k.1 b h2
  omega
 ·obtain ⟨a, b, h1, h2, rfl⟩ := addO_some.mp e
  have := h.2 a h1
  have := k.2 b h2
  omega
end L
namespace L
open PySem PySem.W PyProof.Rows PM TM My
noncomputable def ZU (R : Nat → Int × Int) : Nat → Int × Int := cn (0, 0) R
theorem Zsj (R : Nat → Int × Int) : cn (T.tup [.int 0, .int 0]) (fun i => Z9 (R i)) = fun i => Z9 (ZU R i) := by
 funext i; cases i <;> rfl
theorem Zkz {n : Nat} {R : Nat → Int × Int} (hn : n < 9000) : ZdM [ZaT n R] = some (ZaT (n + 1) (ZU R)) := by
 apply Pk.eq
 unfold ZdM Zhl ZaT
 walk_at "zz"
 rw [Zsj]
noncomputable def RB (M : Int) (k : Nat) (q : Int × Int) : Prop := RestOk q ∧ (q.1 = 0 ∨ q.1 ∣ M) ∧ Bd k q.2
theorem RB.mono {M : Int} {i j : Nat} {q : Int × Int} (h : RB M i q) (hij : i ≤ j) : RB M j q := ⟨h.1, h.2.1, h.2.2.mono hij⟩
theorem RB.bd {M : Int} {k : Nat} {q : Int × Int} (hM : 0 < M) (bM : Bd k M) (h : RB M k q) : RBd k q := by
 refine ⟨?_, h.2.2⟩
 rcases h.2.1 with e | e
 ·rw [e]; exact ZdK
 ·exact Zdd bM h.1.nn (Int.le_of_dvd hM e)
theorem Zc2 {M : Int} {k n : Nat} {R : Nat → Int × Int} (h : ∀ t, t < n → RB M k (R t)) : ∀ i, i < n + 1 → RB M k (ZU R i)
 | 0, _ => ⟨.inl rfl, .inl rfl, ZdK⟩
 | i + 1, hi => h i (by omega)
noncomputable def Zds (n : Nat) (G : Nat → Nat → Option Int) (R : Nat → Int × Int) (i : Nat) (m : Nat) (x : Int) : Prop := Zaq (ZU R i) x ∧ ∀ j, j < m → ∀ a b, G i j = some a → G j i = some b → a + b = 0 → Zaq (ZU R j) (x - a)
noncomputable def Zgu (n : Nat) (G : Nat → Nat → Option Int) (R : Nat → Int × Int) (M : Int) (k : Nat) (i m : Nat) (o : Option (Int × Int)) : Prop := match o with
 | none => ∀ x, ¬ Zds n G R i m x
 | some q => RB M k q ∧ ∀ x, Zaq q x ↔ Zds n G R i m x
theorem Zn8 {q : Int × Int} (h : RestOk q) (a x : Int) : Zaq (ZbD q (0, a)) x ↔ Zaq q (x - a) := by
 unfold ZbD
 rw [ZcJ (by omega), Zbj h.nn]
 simp only [Int.gcd_zero_right]
 rw [Int.natAbs_of_nonneg h.nn, show x - (q.2 + a) = x - a - q.2 by omega]
theorem Zna {n i k : Nat} {G : Nat → Nat → Option Int} {R : Nat → Int × Int} {M : Int} (hn : n ≤ 100) (hi : i < n + 1) (hk : k ≤ 7000) (hM : 0 < M) (bM : Bd k M) (bG : ∀ a b c, a < n + 1 → b < n + 1 → G a b = some c → Bd k c) (hR : ∀ t, t < n → RB M k (R t)) : Pk (Zdl [Zaw (n + 1) G, ZaT (n + 1) (ZU R), .int i]) fun t => ∃ o, t = oR o ∧ Zgu n G R M (k + 1) i (n + 1) o := by
 unfold Zdl Zg7
 have hF := Zc2 hR
 have bM1 : Bd (k + 1) M := bM.mono (by omega)
 have hr : ZaT (n + 1) (ZU R) = .lst (tab (n + 1) fun i => Z9 (ZU R i)) := rfl
 rw [hr]
 walk_at "zz"
 refine Zge (n := n + 1) (a := fun j => .int j) (c := fun j => Z9 (ZU R j)) (P := fun m σ => ∃ o, σ 0 = some (Zaw (n + 1) G) ∧ σ 1 = some (.lst (tab (n + 1) fun i => Z9 (ZU R i))) ∧ σ 2 = some (.int i) ∧ σ 3 = some (oR o) ∧ Zgu n G R M (k + 1) i m o) ?_ ⟨some (ZU R i), by walk_at "zr", by walk_at "zr", by walk_at "zr", by walk_at "zr", (hF i hi).mono (by omega), fun x => ⟨fun h => ⟨h, by omega⟩, fun h => h.1⟩⟩ ?_ ?_
 ·walk_at "zz"
  rfl
 ·rintro j σ hj ⟨o, e0, e1, e2, e3, ho⟩
  unfold Zaw Zai at e0
  cases o with
  | none =>
   have e3' : σ 3 = some .none := e3
   clear e3
   walk_at "zz"
   refine ⟨none, by walk_at "zr", by walk_at "zr", by walk_at "zr", by walk_at "zr", fun x h => ho x ⟨h.1, fun j' hj' => h.2 j' (by omega)⟩⟩
  | some q =>
   have e3' : σ 3 = some (.tup [.int q.1, .int q.2]) := e3
   clear e3
   walk_at "zz"
   refine ZO Zes ?_
   walk_at "zz"
   refine Zgn (ZmT (n := 0)) (.int (n := 0)) ?_
   walk_at "zz"
   have stay : (∀ a b, G i j = some a → G j i = some b → ¬ a + b = 0) → Zgu n G R M (k + 1) i (j + 1) (some q) := fun h => ⟨ho.1, fun x => (ho.2 x).trans ⟨fun hx => ⟨hx.1, fun j' hj' a b ha hb hab => by
     by_cases q' : j' = j
     ·subst q'; exact absurd hab (h a b ha hb)
     ·exact hx.2 j' (by omega) a b ha hb hab⟩, fun hx => ⟨hx.1, fun j' hj' => hx.2 j' (by omega)⟩⟩⟩
   refine ⟨fun e => ?_, fun e => ?_⟩
   ·have e' := dec_iff.mp e
    rw [← Zbi, ZrL] at e'
    obtain ⟨a, b, ha, hb, hab⟩ := addO_some.mp e'
    walk_at "zz"
    rw [ha, Zbi]
    have hj2 := hF j hj
    have ba := bG i j a hi hj ha
    refine ZO (ZhL (p := ZU R j) (q := (0, a)) (k := k) (by omega) (hj2.bd hM bM).1 ZdK) ?_
    have hpl : RB M (k + 1) (ZbD (ZU R j) (0, a)) := by
     refine ⟨ZjD _ _, ?_, ?_⟩
     ·unfold ZbD Zas
      simp only [Int.gcd_zero_right]
      rw [Int.natAbs_of_nonneg hj2.1.nn]
      split
      ·exact .inl rfl
      ·exact hj2.2.1
     ·have hm := (hj2.bd hM bM).1
      refine (Zje (k := k + 1) (by omega) ?_ (Bd.add hj2.2.2 ba)).2
      simp only [Int.gcd_zero_right]
      rw [Int.natAbs_of_nonneg hj2.1.nn]
      exact hm.mono (by omega)
    walk_at "zz"
    refine (Zn6 (p := q) (q := ZbD (ZU R j) (0, a)) (k := k + 1) (by omega) ho.1.1 hpl.1 (ho.1.bd hM bM1) (hpl.bd hM bM1)).mono ?_
    rintro _ ⟨o', rfl, mt, wh⟩
    refine ⟨o', by walk_at "zr", by walk_at "zr", by walk_at "zr", by walk_at "zr", ?_⟩
    have hset : ∀ x, (Zaq q x ∧ Zaq (ZbD (ZU R j) (0, a)) x) ↔ Zds n G R i (j + 1) x := fun x => by
     rw [ho.2 x, Zn8 hj2.1]
     constructor
     ·rintro ⟨h1, h2⟩
      refine ⟨h1.1, fun j' hj' c d hc hd hcd => ?_⟩
      by_cases q' : j' = j
      ·subst q'; rw [ha] at hc; cases hc; exact h2
      ·exact h1.2 j' (by omega) c d hc hd hcd
     ·intro h
      exact ⟨⟨h.1, fun j' hj' => h.2 j' (by omega)⟩, h.2 j (by omega) a b ha hb hab⟩
    cases o' with
    | none => exact fun x hx => mt x ((hset x).mpr hx)
    | some r =>
     refine ⟨⟨mt.1, ?_, ?_⟩, fun x => (mt.2 x).trans (hset x)⟩
     ·rcases wh r rfl with h | h | ⟨h1, h2, h3⟩
      ·rw [h]; exact ho.1.2.1
      ·rw [h]; exact hpl.2.1
      ·right
       rw [h3]
       exact Int.coe_lcm_dvd (ho.1.2.1.resolve_left h1) (hpl.2.1.resolve_left h2)
     ·rcases wh r rfl with h | h | ⟨h1, h2, h3⟩
      ·rw [h]; exact ho.1.2.2
      ·rw [h]; exact hpl.2.2
      ·rcases mt.1 with z | z
       ·have : (Int.lcm q.1 (ZbD (ZU R j) (0, a)).1) ≠ 0 := Int.lcm_ne_zero h1 h2
        omega
       ·have hd : r.1 ∣ M := by
         rw [h3]
         exact Int.coe_lcm_dvd (ho.1.2.1.resolve_left h1) (hpl.2.1.resolve_left h2)
        exact Zdd bM1 z.2.1 (by have := Int.le_of_dvd hM hd; omega)
   ·walk_at "zz"
    refine ⟨some q, by walk_at "zr", by walk_at "zr", by walk_at "zr", by walk_at "zr", stay fun a b ha hb hab => ?_⟩
    have : dec (oT (Zar (G i j) (G j i)) = .int 0) = true := ZaP (by rw [ha, hb]; simp [Zar, oT, hab])
    rw [this] at e
    cases e
 ·rintro σ ⟨o, e0, e1, e2, e3, ho⟩
  walk_at "zz"
  exact ⟨o, rfl, ho⟩
theorem ZrQ : ZbP 1 1 1 = some [] := by
 unfold ZbP
 rw [if_pos (by decide +kernel)]
 rfl
theorem Zsk {o : Option (Int × Int)} : Pln 1 (oR o) := by
 cases o with
 | none => exact .none
 | some q => exact Zgo
theorem oR_none {o : Option (Int × Int)} : oR o = .none ↔ o = none := by cases o <;> simp [oR, Z9]
noncomputable def Hand (n : Nat) (G : Nat → Nat → Option Int) (R R' : Nat → Int × Int) (M : Int) (k : Nat) : Prop := ∀ t, t < n → RB M k (R' t) ∧ ∀ x, Zaq (R' t) x ↔ Zds n G R (t + 1) (n + 1) x
theorem Znk {n k : Nat} {G : Nat → Nat → Option Int} {R : Nat → Int × Int} {M : Int} (hn : n ≤ 100) (hk : k ≤ 7000) (hM : 0 < M) (bM : Bd k M) (bG : ∀ a b c, a < n + 1 → b < n + 1 → G a b = some c → Bd k c) (hR : ∀ t, t < n → RB M k (R t)) : Pk (ZcH [ZZ n G R]) fun t => (∃ R', t = ZZ n G R' ∧ Hand n G R R' M (k + 1)) ∨ (t = .none ∧ ∃ i, i < n ∧ ∀ x, ¬ Zds n G R (i + 1) (n + 1) x) := by
 unfold ZcH Zej
 have ht : ZZ n G R = .tup [Zaw (n + 1) G, ZaT n R] := rfl
 rw [ht]
 walk_at "zz"
 refine ZO (Zkz (by omega)) ?_
 have hr : ZaT (n + 1) (ZU R) = .lst (tab (n + 1) fun i => Z9 (ZU R i)) := rfl
 walk_at "zz"
 refine Zle oR (fun t o => Zgu n G R M (k + 1) (t + 1) (n + 1) o) (n := n) (a := fun i => .int (i + 1)) (by omega) ?_ (fun t ht => ?_) none (fun y hy => ?_)
 ·by_cases h0 : n = 0
  ·subst h0
   exact ⟨[], Zgd (a := 1) (b := 1) rfl ZrQ, rfl⟩
  ·rw [hr]
   walk_at "zz"
   refine Rn.two 1 n (by decide) (by omega) (by omega) (by omega) ?_
   refine ZdW fun i _ => ?_
   congr 1
   omega
 ·walk_at "zz"
  refine (Zna (i := t + 1) hn (by omega) hk hM bM bG hR).mono ?_
  rintro _ ⟨o, rfl, ho⟩
  exact ⟨o, rfl, ho⟩
 ·walk_at "zz"
  refine ZmV (.none (n := 0)) (ZeM (n := 1) fun i _ => Zsk) ?_
  by_cases hc : ∃ i, i < n ∧ y i = none
  ·obtain ⟨i, hi, ei⟩ := hc
   rw [ZaP (show T.none ∈ tab n fun i => oR (y i) from List.mem_of_getElem? (i := i) (by rw [ZbB hi, ei]; rfl))]
   walk_at "zz"
   refine .inr ⟨rfl, i, hi, ?_⟩
   have := hy i hi
   rw [ei] at this
   exact this
  ·rw [Zbw (show ¬ T.none ∈ tab n fun i => oR (y i) from fun h => by
    obtain ⟨i, hi, e⟩ := ZeG h
    exact hc ⟨i, hi, oR_none.mp e.symm⟩)]
   walk_at "zz"
   have hs : ∀ i, i < n → y i = some ((y i).getD (1, 0)) := fun i hi => by
    cases e : y i with
    | none => exact absurd ⟨i, hi, e⟩ hc
    | some q => rfl
   refine .inl ⟨fun i => (y i).getD (1, 0), ?_, fun t ht => ?_⟩
   ·unfold ZZ ZaT
    congr 4
    refine ZdW fun i hi => ?_
    conv => lhs; rw [hs i hi]
    rfl
   ·have := hy t ht
    rw [hs t ht] at this
    exact this
theorem Zkw : ZcH [.none] = some .none := by
 apply Pk.eq
 unfold ZcH Zej
 walk_at "zz"
 rfl
noncomputable def Za4 (R : Nat → Int × Int) (i j : Nat) : Int × Int := ZbD (ZU R i) (Zck (ZU R j) (-1))
noncomputable def ZbF (b : Option Int) (q : Int × Int) : Option Int := match b with
 | some b => Zda q b
 | none => if q.1 = 0 then some q.2 else none
noncomputable def Za1 (G : Nat → Nat → Option Int) (R : Nat → Int × Int) : Nat → Nat → Option Int := fun i j => ZbF (G i j) (Za4 R i j)
noncomputable def Zd3 (n : Nat) (G : Nat → Nat → Option Int) (R : Nat → Int × Int) : Prop := ∃ i j, i < n + 1 ∧ j < n + 1 ∧ ∃ b, G i j = some b ∧ Za1 G R i j = none
theorem Zm3 {b : Option Int} {q : Int × Int} (hq : 0 ≤ q.1) : Zfh [oT b, Z9 q] = some (oT (ZbF b q)) := by
 apply Pk.eq
 unfold Zfh ZgW ZbF
 cases b with
 | none =>
  have ep : Z9 q = .tup [.int q.1, .int q.2] := rfl
  rw [ZbW, ep]
  by_cases c : q.1 = 0
  ·walk_at "zz"
   simp [c, oT]
  ·walk_at "zz"
   simp [c, oT]
 | some b =>
  rw [Zbi]
  walk_at "zz"
  exact ZO (Znw hq) rfl
theorem Znl {n i k : Nat} {b : Nat → Option Int} {R : Nat → Int × Int} {M : Int} (hn : n ≤ 100) (hi : i < n + 1) (hk : k ≤ 7000) (hM : 0 < M) (bM : Bd k M) (hR : ∀ t, t < n → RB M k (R t)) : Pk (Zfp [Zai (n + 1) b, Z9 (ZU R i), ZaT (n + 1) (ZU R)]) fun t => (t = Zai (n + 1) (fun j => ZbF (b j) (Za4 R i j)) ∧ ∀ j, j < n + 1 → ∀ c, b j = some c → ZbF (b j) (Za4 R i j) ≠ none) ∨ (t = .none ∧ ∃ j, j < n + 1 ∧ ∃ c, b j = some c ∧ ZbF (b j) (Za4 R i j) = none) := by
 unfold Zfp Zhp
 have hF := Zc2 hR
 have hb : Zai (n + 1) b = .lst (tab (n + 1) fun j => oT (b j)) := rfl
 have hr : ZaT (n + 1) (ZU R) = .lst (tab (n + 1) fun i => Z9 (ZU R i)) := rfl
 rw [hb, hr]
 walk_at "zz"
 refine Zge (n := n + 1) (a := fun j => oT (b j)) (c := fun j => Z9 (ZU R j)) (P := fun m σ => σ 1 = some (Z9 (ZU R i)) ∧ σ 3 = some (.lst (tab m fun j => oT (ZbF (b j) (Za4 R i j)))) ∧ ∀ j, j < m → ∀ c, b j = some c → ZbF (b j) (Za4 R i j) ≠ none) ?_ ⟨by walk_at "zr", by walk_at "zr", by omega⟩ ?_ ?_
 ·walk_at "zz"
  rfl
 ·rintro j σ hj ⟨e1, e3, st⟩
  have h1 := hF i hi
  have h2 := hF j hj
  have b1 := h1.bd hM bM
  have b2 := h2.bd hM bM
  have bt : Bd (k + 1) (Zck (ZU R j) (-1)).1 := by
   refine (Zje (k := k + 1) (Int.mul_nonneg h2.1.nn (ZcN _)) ?_ ?_).1
   ·have := Bd.mul b2.1 (show Bd 1 (ZaZ (-1)) by unfold Bd; decide); exact this
   ·have := Bd.mul b2.2 (show Bd 1 (-1) by unfold Bd; decide); exact this
  walk_at "zz"
  refine ZO (ZkB (p := ZU R j) (c := -1) (k := k + 1) (by omega) h2.1.nn ⟨b2.1.mono (by omega), b2.2.mono (by omega)⟩ (show Bd (k + 1) (-1) from (show Bd 1 (-1) by unfold Bd; decide).mono (by omega))) ?_
  walk_at "zz"
  refine ZO (ZhL (k := k + 1) (by omega) (b1.1.mono (by omega)) bt) ?_
  walk_at "zz"
  refine ZO (Zm3 (ZjD _ _).nn) ?_
  have hd : ZbD (ZU R i) (Zck (ZU R j) (-1)) = Za4 R i j := rfl
  rw [hd]
  walk_at "zz"
  have app : ∀ w, w = oT (ZbF (b j) (Za4 R i j)) → tab j (fun j => oT (ZbF (b j) (Za4 R i j))) ++ [w] = tab (j + 1) fun j => oT (ZbF (b j) (Za4 R i j)) := fun w e => by rw [e]; exact Zc1
  cases hl : ZbF (b j) (Za4 R i j) with
  | none =>
   rw [ZbW]
   walk_at "zz"
   cases hbj : b j with
   | none =>
    rw [ZbW]
    walk_at "zz"
    rw [app _ (by rw [hl]; rfl)]
    refine ⟨by walk_at "zr", by walk_at "zr", fun j' hj' c hc => ?_⟩
    by_cases q : j' = j
    ·subst q; rw [hbj] at hc; cases hc
    ·exact st j' (by omega) c hc
   | some c =>
    rw [Zbi]
    walk_at "zz"
    exact .inr ⟨rfl, j, hj, c, hbj, hl⟩
  | some v =>
   rw [Zbi]
   walk_at "zz"
   rw [app _ (by rw [hl]; rfl)]
   refine ⟨by walk_at "zr", by walk_at "zr", fun j' hj' c hc => ?_⟩
   by_cases q : j' = j
   ·subst q; rw [hl]; simp
   ·exact st j' (by omega) c hc
 ·rintro σ ⟨e1, e3, st⟩
  walk_at "zz"
  exact .inl ⟨rfl, st⟩
noncomputable def Zef (n : Nat) : Option (Nat → Option Int) → T
 | none => .none
 | some b => Zai n b
theorem ZqU {n : Nat} {o : Option (Nat → Option Int)} : Pln 1 (Zef n o) := by
 cases o with
 | none => exact .none
 | some q => exact Zl5
end L
namespace L
open PySem PySem.W PyProof.Rows PM TM My
theorem ZoD {σ : TL} {Q : T → Prop} {g : PG} {j k n : Nat} {a b : Nat → T} {f : PE} {β : Type} (e : β → T) (P : Nat → β → Prop) (hn : n < 10000) (hg : Pl (g σ) fun ts => ts = tab n fun i => .tup [a i, b i]) (hf : ∀ i, i < n → Pk (f (ZR (ZR σ j (a i)) k (b i))) fun t => ∃ y, t = e y ∧ P i y) (d : β) (h : ∀ y : Nat → β, (∀ i, i < n → P i (y i)) → Q (.lst (tab n fun i => e (y i)))) : Pk (Zah g (Zcb j k) Zae f σ) Q := by
 have hc : ∃ y : Nat → β, ∀ i, i < n → Pk (f (ZR (ZR σ j (a i)) k (b i))) (fun t => t = e (y i)) ∧ P i (y i) := by
  have hx : ∀ i, ∃ y : β, i < n → Pk (f (ZR (ZR σ j (a i)) k (b i))) (fun t => t = e y) ∧ P i y := fun i => by
   by_cases q : i < n
   ·obtain ⟨t, e1, y, e2, p⟩ := hf i q
    exact ⟨y, fun _ => ⟨⟨t, e1, e2⟩, p⟩⟩
   ·exact ⟨d, fun h => absurd h q⟩
  exact ⟨fun i => Classical.choose (hx i), fun i => Classical.choose_spec (hx i)⟩
 obtain ⟨y, hy⟩ := hc
 exact Zjn hn hg (fun i hi => (hy i hi).1) (h y fun i hi => (hy i hi).2)
theorem oRow_none {n : Nat} {o : Option (Nat → Option Int)} : Zef n o = .none ↔ o = none := by cases o <;> simp [Zef, Zai]
theorem ZoE {n k : Nat} {G : Nat → Nat → Option Int} {R : Nat → Int × Int} {M : Int} (hn : n ≤ 100) (hk : k ≤ 7000) (hM : 0 < M) (bM : Bd k M) (hR : ∀ t, t < n → RB M k (R t)) : Pk (ZdX [ZZ n G R]) fun t => (t = ZZ n (Za1 G R) R ∧ ¬ Zd3 n G R) ∨ (t = .none ∧ Zd3 n G R) := by
 unfold ZdX ZfT
 have ht : ZZ n G R = .tup [.lst (tab (n + 1) fun i => Zai (n + 1) (G i)), ZaT n R] := rfl
 rw [ht]
 walk_at "zz"
 refine ZO (Zkz (by omega)) ?_
 have hr : ZaT (n + 1) (ZU R) = .lst (tab (n + 1) fun i => Z9 (ZU R i)) := rfl
 walk_at "zz"
 refine ZoD (Zef (n + 1)) (fun i o => match o with
  | none => ∃ j, j < n + 1 ∧ ∃ c, G i j = some c ∧ Za1 G R i j = none
  | some b => b = Za1 G R i ∧ ∀ j, j < n + 1 → ∀ c, G i j = some c → Za1 G R i j ≠ none) (n := n + 1) (a := fun i => Zai (n + 1) (G i)) (b := fun i => Z9 (ZU R i)) (by omega) ?_ (fun i hi => ?_) none (fun y hy => ?_)
 ·rw [hr]
  walk_at "zz"
  rfl
 ·walk_at "zz"
  refine (Znl hn hi hk hM bM hR).mono ?_
  rintro t (⟨rfl, h⟩ | ⟨rfl, h⟩)
  ·exact ⟨some (Za1 G R i), rfl, rfl, h⟩
  ·exact ⟨none, rfl, h⟩
 ·walk_at "zz"
  refine ZmV (.none (n := 0)) (ZeM (n := 1) fun i _ => ZqU) ?_
  by_cases hc : ∃ i, i < n + 1 ∧ y i = none
  ·obtain ⟨i, hi, ei⟩ := hc
   rw [ZaP (show T.none ∈ tab (n + 1) fun i => Zef (n + 1) (y i) from List.mem_of_getElem? (i := i) (by rw [ZbB hi, ei]; rfl))]
   walk_at "zz"
   have := hy i hi
   rw [ei] at this
   obtain ⟨j, hj, c, h1, h2⟩ := this
   exact .inr ⟨rfl, i, j, hi, hj, c, h1, h2⟩
  ·rw [Zbw (show ¬ T.none ∈ tab (n + 1) fun i => Zef (n + 1) (y i) from fun h => by
    obtain ⟨i, hi, e⟩ := ZeG h
    exact hc ⟨i, hi, oRow_none.mp e.symm⟩)]
   walk_at "zz"
   have hs : ∀ i, i < n + 1 → y i = some (Za1 G R i) ∧ ∀ j, j < n + 1 → ∀ c, G i j = some c → Za1 G R i j ≠ none := fun i hi => by
    have := hy i hi
    cases e : y i with
    | none => exact absurd ⟨i, hi, e⟩ hc
    | some b => rw [e] at this; exact ⟨by rw [this.1], this.2⟩
   refine .inl ⟨?_, ?_⟩
   ·unfold ZZ Zaw
    congr 3
    refine ZdW fun i hi => ?_
    rw [(hs i hi).1]
    rfl
   ·rintro ⟨i, j, hi, hj, c, h1, h2⟩
    exact (hs i hi).2 j hj c h1 h2
theorem ZnO : ZdX [.none] = some .none := by
 apply Pk.eq
 unfold ZdX ZfT
 walk_at "zz"
 rfl
theorem Zpl : Zc9 [.none] = some .none := by
 apply Pk.eq
 unfold Zc9 Zgr
 walk_at "zz"
 rfl
noncomputable def Zcf (n : Nat) (G : Nat → Nat → Option Int) : Prop := ∃ m, m < n ∧ Neg n (clG G (m + 1))
theorem ZqV {n : Nat} {G : Nat → Nat → Option Int} {R : Nat → Int × Int} (hn : n ≤ 100) (hd : ∀ i, i < n + 1 → G i i = some 0) : Pk (Zc9 [ZZ n G R]) fun t => (t = ZZ n (clG G (n + 1)) R ∧ ¬ Zcf (n + 1) G) ∨ (t = .none ∧ Zcf (n + 1) G) := by
 unfold Zc9 Zgr
 have ht : ZZ n G R = .tup [Zaw (n + 1) G, ZaT n R] := rfl
 rw [ht]
 walk_at "zz"
 refine (Zpi (n := n + 1) (by omega) (by omega) fun i hi => ⟨0, hd i hi⟩).mono ?_
 rintro t (⟨rfl, h⟩ | ⟨rfl, h⟩)
 ·have hg : Zaw (n + 1) (clG G (n + 1)) = .lst (tab (n + 1) fun i => Zai (n + 1) (clG G (n + 1) i)) := rfl
  rw [hg]
  walk_at "zz"
  exact .inl ⟨rfl, fun ⟨m, hm, q⟩ => h m hm q⟩
 ·walk_at "zz"
  exact .inr ⟨rfl, h⟩
noncomputable def BdG (n k : Nat) (G : Nat → Nat → Option Int) : Prop := ∀ a b c, a < n → b < n → G a b = some c → Bd k c
theorem Zkp {n k : Nat} {G : Nat → Nat → Option Int} (h : BdG n k G) : ∀ m, m ≤ n → BdG n (k + m) (clG G m)
 | 0, _ => h
 | m + 1, hm => fun a b c ha hb e => by
  have ih := Zkp h m (by omega)
  rcases Zgg (clG G m a b) (Zar (clG G m a m) (clG G m m b)) with e1 | e1
  ·rw [show clG G (m + 1) a b = _ from e1] at e
   exact (ih a b c ha hb e).mono (by omega)
  ·rw [show clG G (m + 1) a b = _ from e1] at e
   obtain ⟨p, q, h1, h2, rfl⟩ := addO_some.mp e
   exact Bd.add (ih a m p ha (by omega) h1) (ih m b q (by omega) hb h2)
theorem Zk3 {q : Int × Int} (h : RestOk q) : Zck q (-1) = Zas q.1 (-q.2) := by
 unfold Zck
 rw [show ZaZ (-1) = 1 from rfl, Int.mul_one, Int.mul_neg, Int.mul_one]
theorem ZiZ {m r : Int} : (Zas m r).1 = m := by
 unfold Zas; split
 ·rename_i c; exact c.symm
 ·rfl
theorem Zf4 {R : Nat → Int × Int} {i j : Nat} (hi : RestOk (ZU R i)) (hj : RestOk (ZU R j)) (x : Int) : Zaq (Za4 R i j) x ↔ ((Int.gcd (ZU R i).1 (ZU R j).1 : Nat) : Int) ∣ x - ((ZU R i).2 - (ZU R j).2) := by
 unfold Za4 ZbD
 rw [ZcJ (by omega), Zk3 hj, ZiZ]
 have hr := ZcJ hj.nn (r := -(ZU R j).2) (Zas (ZU R j).1 (-(ZU R j).2)).2
 have hs := (hr.mp (Zcw hj.nn _).self)
 generalize (Zas (ZU R j).1 (-(ZU R j).2)).2 = s at *
 have hg : ((Int.gcd (ZU R i).1 (ZU R j).1 : Nat) : Int) ∣ s - -(ZU R j).2 := Int.dvd_trans (Int.gcd_dvd_right ..) hs
 constructor
 ·intro h
  have := Int.dvd_add h hg
  rwa [show x - ((ZU R i).2 + s) + (s - -(ZU R j).2) = x - ((ZU R i).2 - (ZU R j).2) by omega] at this
 ·intro h
  have := Int.dvd_sub h hg
  rwa [show x - ((ZU R i).2 - (ZU R j).2) - (s - -(ZU R j).2) = x - ((ZU R i).2 + s) by omega] at this
theorem Zjh {q : Int × Int} {b c : Int} (h0 : RestOk q) (h : Zda q b = some c) : c ≤ b ∧ Zaq q c ∧ (q.1 = 0 ∨ b - c < q.1) := by
 unfold Zda at h
 split at h
 ·rename_i z
  split at h
  ·cases h
   exact ⟨by assumption, h0.self, .inl z⟩
  ·cases h
 ·rename_i z
  cases h
  have hp : 0 < q.1 := by have := h0.nn; omega
  have h1 := Int.emod_nonneg (b - q.2) z
  have h2 := Int.emod_lt_of_pos (b - q.2) hp
  refine ⟨by omega, ?_, .inr (by omega)⟩
  rw [Zbj h0.nn]
  have h3 := Int.emod_add_mul_ediv (b - q.2) q.1
  exact ⟨(b - q.2) / q.1, by omega⟩
theorem Zi0 {q : Int × Int} {b x : Int} (h0 : RestOk q) (hx : Zaq q x) (hb : x ≤ b) : ∃ c, Zda q b = some c ∧ x ≤ c := by
 unfold Zda
 rw [Zbj h0.nn] at hx
 split
 ·rename_i z
  rw [z, Int.zero_dvd] at hx
  rw [if_pos (by omega)]
  exact ⟨_, rfl, by omega⟩
 ·rename_i z
  have hp : 0 < q.1 := by have := h0.nn; omega
  refine ⟨_, rfl, ?_⟩
  obtain ⟨t, ht⟩ := hx
  have h3 := Int.emod_add_mul_ediv (b - q.2) q.1
  have h2 := Int.emod_lt_of_pos (b - q.2) hp
  have h4 : t ≤ (b - q.2) / q.1 := Int.le_ediv_of_mul_le hp (by rw [Int.mul_comm]; omega)
  have h5 : q.1 * t ≤ q.1 * ((b - q.2) / q.1) := Int.mul_le_mul_of_nonneg_left h4 (by omega)
  omega
theorem Zc4 (R : Nat → Int × Int) (i j : Nat) : RestOk (Za4 R i j) := ZjD _ _
theorem ZqW {G : Nat → Nat → Option Int} {R : Nat → Int × Int} {i j : Nat} (h : ∀ b, G i j = some b → Za1 G R i j ≠ none) : leO (Za1 G R i j) (G i j) := by
 intro b e
 have hn := h b e
 unfold Za1 at hn ⊢
 rw [e] at hn ⊢
 cases hc : ZbF (some b) (Za4 R i j) with
 | none => exact absurd hc hn
 | some c => exact ⟨c, rfl, (Zjh (Zc4 R i j) hc).1⟩
theorem ZrR {n k : Nat} {G : Nat → Nat → Option Int} {R : Nat → Int × Int} {M : Int} (hM : 0 < M) (bM : Bd k M) (hG : BdG (n + 1) k G) (hR : ∀ t, t < n → RB M k (R t)) : BdG (n + 1) (k + 1) (Za1 G R) := by
 intro i j c hi hj e
 have h1 := Zc2 hR i hi
 have h2 := Zc2 hR j hj
 have hd1 : (Za4 R i j).1 = ((Int.gcd (ZU R i).1 (ZU R j).1 : Nat) : Int) := by
  unfold Za4 ZbD
  rw [ZiZ, Zk3 h2.1, ZiZ]
 have hb1 := (h1.bd hM bM).1
 have hb2 := (h2.bd hM bM).1
 have hm : Bd k (Za4 R i j).1 := by
  rw [hd1]
  by_cases z : (ZU R i).1 = 0
  ·rw [z, Int.gcd_zero_left]
   unfold Bd at *
   simpa using hb2
  ·have := Int.gcd_le_natAbs_left (b := (ZU R j).1) z
   unfold Bd at *
   simp only [Int.natAbs_natCast]
   omega
 unfold Za1 ZbF at e
 cases hg : G i j with
 | some b =>
  rw [hg] at e
  obtain ⟨u1, u2, u3⟩ := Zjh (Zc4 R i j) e
  have hbb := hG i j b hi hj hg
  rcases u3 with z | z
  ·have hx := (Zf4 h1.1 h2.1 c).mp u2
   rw [hd1] at z
   rw [z, Int.zero_dvd] at hx
   have : c = (ZU R i).2 - (ZU R j).2 := by omega
   rw [this]
   exact Zkh h1.2.2 h2.2.2
  ·unfold Bd at *
   rw [Nat.pow_succ]
   omega
 | none =>
  rw [hg] at e
  simp only at e
  split at e
  ·rename_i z
   cases e
   have hx := (Zf4 h1.1 h2.1 (Za4 R i j).2).mp (Zc4 R i j).self
   rw [hd1] at z
   rw [z, Int.zero_dvd] at hx
   have : (Za4 R i j).2 = (ZU R i).2 - (ZU R j).2 := by omega
   rw [this]
   exact Zkh h1.2.2 h2.2.2
  ·cases e
end L
namespace L
open PySem PySem.W PyProof.Rows PM TM My
noncomputable def Zf5 (n : Nat) (C : Nat → Nat → Option Int) (R : Nat → Int × Int) : Prop := ∃ i, i < n ∧ ∀ x, ¬ Zds n C R (i + 1) (n + 1) x
theorem Zmf {ts : List T} {Q : T → Prop} (h : Pk (Z0 1 Zgs ts) fun t => ZeI t = true ∧ Q t) : Pk (Zdu ts) Q := by
 obtain ⟨t, e, o, q⟩ := h
 exact ⟨t, by simp only [Zdu, e, Option.bind_some, o, if_true], q⟩
theorem ZqX {n : Nat} {G : Nat → Nat → Option Int} {R : Nat → Int × Int} : ZeI (ZZ n G R) = true := Zla fun _ _ => ZfZ
theorem Zmg {n k : Nat} {G : Nat → Nat → Option Int} {R : Nat → Int × Int} {M : Int} (hn : n ≤ 100) (hk : k + n + 1 ≤ 7000) (hM : 0 < M) (bM : Bd k M) (hd : ∀ i, i < n + 1 → G i i = some 0) (bG : BdG (n + 1) k G) (hR : ∀ t, t < n → RB M k (R t)) : Pk (Zdu [ZZ n G R]) fun t => (∃ R', t = ZZ n (clG G (n + 1)) R' ∧ ¬ Zcf (n + 1) G ∧ Hand n (clG G (n + 1)) R R' M (k + n + 2)) ∨ (t = .none ∧ (Zcf (n + 1) G ∨ (¬ Zcf (n + 1) G ∧ Zf5 n (clG G (n + 1)) R))) := by
 refine Zmf ?_
 unfold Zgs
 walk_at "zz"
 refine (ZqV hn hd).mono ?_
 rintro t (⟨rfl, h⟩ | ⟨rfl, h⟩)
 ·walk_at "zz"
  refine (Znk (k := k + n + 1) hn hk hM (bM.mono (by omega)) (Zkp bG (n + 1) (by omega)) (fun t ht => (hR t ht).mono (by omega))).mono ?_
  rintro t (⟨R', rfl, h2⟩ | ⟨rfl, h2⟩)
  ·exact ⟨ZqX, .inl ⟨R', rfl, h, h2⟩⟩
  ·exact ⟨rfl, .inr ⟨rfl, .inr ⟨h, h2⟩⟩⟩
 ·walk_at "zz"
  exact ZO Zkw ⟨rfl, .inr ⟨rfl, .inl h⟩⟩
theorem Zlf : Zdu [.none] = some .none := by
 apply Pk.eq
 refine Zmf ?_
 unfold Zgs
 walk_at "zz"
 refine ZO Zpl ?_
 walk_at "zz"
 exact ZO Zkw ⟨rfl, rfl⟩
theorem ZlH {n : Nat} {G : Nat → Nat → Option Int} {R : Nat → Int × Int} (hR : ∀ i, i < n + 1 → RestOk (ZU R i)) (hd : ∀ i, i < n + 1 → G i i = some 0) : ∀ i, i < n + 1 → Za1 G R i i = some 0 := by
 intro i hi
 unfold Za1 ZbF
 rw [hd i hi]
 have h0 : Zaq (Za4 R i i) 0 := (Zf4 (hR i hi) (hR i hi) 0).mpr (by simp)
 obtain ⟨c, e, hc⟩ := Zi0 (Zc4 R i i) h0 (Int.le_refl 0)
 have := (Zjh (Zc4 R i i) e).1
 show Zda (Za4 R i i) 0 = some 0
 rw [e, show c = 0 by omega]
structure Sharp (n : Nat) (G : Nat → Nat → Option Int) (R : Nat → Int × Int) (G2 : Nat → Nat → Option Int) (R2 : Nat → Int × Int) (M : Int) (k : Nat) : Prop where
 go : ∃ R1, ¬ Zcf (n + 1) G ∧ Hand n (clG G (n + 1)) R R1 M k ∧ ¬ Zd3 n (clG G (n + 1)) R1 ∧ ¬ Zcf (n + 1) (Za1 (clG G (n + 1)) R1) ∧ G2 = clG (Za1 (clG G (n + 1)) R1) (n + 1) ∧ Hand n G2 R1 R2 M k
noncomputable def Zji (n : Nat) (G : Nat → Nat → Option Int) (R : Nat → Int × Int) (M : Int) (k : Nat) : Prop := Zcf (n + 1) G ∨ (¬ Zcf (n + 1) G ∧ Zf5 n (clG G (n + 1)) R) ∨ ∃ R1, ¬ Zcf (n + 1) G ∧ Hand n (clG G (n + 1)) R R1 M k ∧ (Zd3 n (clG G (n + 1)) R1 ∨ (¬ Zd3 n (clG G (n + 1)) R1 ∧ (Zcf (n + 1) (Za1 (clG G (n + 1)) R1) ∨ (¬ Zcf (n + 1) (Za1 (clG G (n + 1)) R1) ∧ Zf5 n (clG (Za1 (clG G (n + 1)) R1) (n + 1)) R1))))
theorem Hand.mono {n : Nat} {G : Nat → Nat → Option Int} {R R' : Nat → Int × Int} {M : Int} {i j : Nat} (h : Hand n G R R' M i) (hij : i ≤ j) : Hand n G R R' M j := fun t ht => ⟨(h t ht).1.mono hij, (h t ht).2⟩
theorem Zp2 {n k : Nat} {G : Nat → Nat → Option Int} {R : Nat → Int × Int} {M : Int} (hn : n ≤ 100) (hk : k + 2 * n + 4 ≤ 7000) (hM : 0 < M) (bM : Bd k M) (hd : ∀ i, i < n + 1 → G i i = some 0) (bG : BdG (n + 1) k G) (hR : ∀ t, t < n → RB M k (R t)) : Pk (Zd1 [ZZ n G R]) fun t => (∃ G2 R2, t = ZZ n G2 R2 ∧ Sharp n G R G2 R2 M (k + 2 * n + 5)) ∨ (t = .none ∧ Zji n G R M (k + n + 2)) := by
 unfold Zd1 ZjV
 walk_at "zz"
 refine (Zmg hn (by omega) hM bM hd bG hR).mono ?_
 rintro t (⟨R1, rfl, nr, h1⟩ | ⟨rfl, h⟩)
 ·have hR1 : ∀ t, t < n → RB M (k + n + 2) (R1 t) := fun t ht => (h1 t ht).1
  have hF1 := Zc2 hR1
  have z1 := Zgh hd (m := n + 1) fun m hm q => nr ⟨m, hm, q⟩
  walk_at "zz"
  refine (ZoE hn (by omega) hM (bM.mono (by omega)) hR1).mono ?_
  rintro t (⟨rfl, nl⟩ | ⟨rfl, fl⟩)
  ·walk_at "zz"
   have bG1 : BdG (n + 1) (k + n + 3) (Za1 (clG G (n + 1)) R1) := ZrR hM (bM.mono (by omega)) (fun a b c ha hb e => (Zkp bG (n + 1) (by omega) a b c ha hb e).mono (by omega)) hR1
   refine (Zmg (k := k + n + 3) hn (by omega) hM (bM.mono (by omega)) (ZlH (fun i hi => (hF1 i hi).1) z1) bG1 (fun t ht => (hR1 t ht).mono (by omega))).mono ?_
   rintro t (⟨R2, rfl, nr2, h2⟩ | ⟨rfl, h2⟩)
   ·exact .inl ⟨_, R2, rfl, ⟨R1, nr, h1.mono (by omega), nl, nr2, rfl, h2.mono (by omega)⟩⟩
   ·exact .inr ⟨rfl, .inr (.inr ⟨R1, nr, h1, .inr ⟨nl, h2⟩⟩)⟩
  ·walk_at "zz"
   exact ZO Zlf (.inr ⟨rfl, .inr (.inr ⟨R1, nr, h1, .inl fl⟩)⟩)
 ·walk_at "zz"
  refine ZO ZnO ?_
  walk_at "zz"
  refine ZO Zlf (.inr ⟨rfl, ?_⟩)
  rcases h with h | h
  ·exact .inl h
  ·exact .inr (.inl h)
theorem Zew {n : Nat} {G : Nat → Nat → Option Int} {R : Nat → Int × Int} {x : Nat → Int} (h : Za0 n G R x) : Za0 n (clG G (n + 1)) R x := ⟨fun i j hi hj b e => ZjE (Zk1 h) (n + 1) (by omega) i j hi hj b e, h.2⟩
theorem ZkN {n : Nat} {G : Nat → Nat → Option Int} {R : Nat → Int × Int} {x : Nat → Int} (h : Za0 n G R x) : ¬ Zcf (n + 1) G := fun ⟨m, hm, q⟩ => Zpj (ZjE (Zk1 h) (m + 1) (by omega)) q
theorem Zjj {n : Nat} {G : Nat → Nat → Option Int} {R : Nat → Int × Int} {x : Nat → Int} (h : Za0 n G R x) : ∀ i, i < n + 1 → Zaq (ZU R i) (Zat x i)
 | 0, _ => ⟨fun _ => rfl, fun q => absurd q (show ¬ (0 : Int) < 0 by decide)⟩
 | i + 1, hi => h.2 i (by omega)
theorem Zlg {n : Nat} {G : Nat → Nat → Option Int} {R : Nat → Int × Int} {x : Nat → Int} (h : Za0 n G R x) {t : Nat} (ht : t < n) : Zds n G R (t + 1) (n + 1) (x t) := by
 refine ⟨h.2 t ht, fun j hj a b ha hb hab => ?_⟩
 have h1 := h.1 (t + 1) j (by omega) hj a ha
 have h2 := h.1 j (t + 1) hj (by omega) b hb
 have h3 : Zat x (t + 1) = x t := rfl
 rw [h3] at h1 h2
 rw [show x t - a = Zat x j by omega]
 exact Zjj h j hj
theorem Zii {n : Nat} {G : Nat → Nat → Option Int} {R R' : Nat → Int × Int} {x : Nat → Int} {M : Int} {k : Nat} (h : Za0 n G R x) (q : Hand n G R R' M k) : Za0 n G R' x := ⟨h.1, fun t ht => ((q t ht).2 _).mpr (Zlg h ht)⟩
theorem ZlI {n : Nat} {G : Nat → Nat → Option Int} {R : Nat → Int × Int} {x : Nat → Int} (hR : ∀ i, i < n + 1 → RestOk (ZU R i)) (h : Za0 n G R x) {i j : Nat} (hi : i < n + 1) (hj : j < n + 1) : Zaq (Za4 R i j) (Zat x i - Zat x j) := by
 rw [Zf4 (hR i hi) (hR j hj)]
 have h1 := (Zbj (hR i hi).nn _).mp (Zjj h i hi)
 have h2 := (Zbj (hR j hj).nn _).mp (Zjj h j hj)
 have h3 := Int.dvd_sub (Int.dvd_trans (Int.gcd_dvd_left (b := (ZU R j).1) ..) h1) (Int.dvd_trans (Int.gcd_dvd_right (a := (ZU R i).1) ..) h2)
 rwa [show Zat x i - (ZU R i).2 - (Zat x j - (ZU R j).2) = Zat x i - Zat x j - ((ZU R i).2 - (ZU R j).2) by omega] at h3
theorem ZoF {n : Nat} {G : Nat → Nat → Option Int} {R : Nat → Int × Int} {x : Nat → Int} (hR : ∀ i, i < n + 1 → RestOk (ZU R i)) (h : Za0 n G R x) : ¬ Zd3 n G R := by
 rintro ⟨i, j, hi, hj, b, e, hn⟩
 obtain ⟨c, e2, _⟩ := Zi0 (Zc4 R i j) (ZlI hR h hi hj) (h.1 i j hi hj b e)
 unfold Za1 ZbF at hn
 rw [e] at hn
 simp only at hn
 rw [e2] at hn
 cases hn
theorem ZlJ {n : Nat} {G : Nat → Nat → Option Int} {R : Nat → Int × Int} {x : Nat → Int} (hR : ∀ i, i < n + 1 → RestOk (ZU R i)) (h : Za0 n G R x) : Za0 n (Za1 G R) R x := by
 refine ⟨fun i j hi hj b e => ?_, h.2⟩
 have hd := ZlI hR h hi hj
 unfold Za1 ZbF at e
 cases hg : G i j with
 | some c =>
  rw [hg] at e
  simp only at e
  obtain ⟨d, e2, hle⟩ := Zi0 (Zc4 R i j) hd (h.1 i j hi hj c hg)
  rw [e2] at e
  cases e
  exact hle
 | none =>
  rw [hg] at e
  simp only at e
  split at e
  ·rename_i z
   cases e
   rw [Zbj (Zc4 R i j).nn, z, Int.zero_dvd] at hd
   omega
  ·cases e
theorem ZoG {n k : Nat} {G G2 : Nat → Nat → Option Int} {R R2 : Nat → Int × Int} {M : Int} {x : Nat → Int} (h : Za0 n G R x) (s : Sharp n G R G2 R2 M k) : Za0 n G2 R2 x := by
 obtain ⟨R1, h1, h2, h3, h4, rfl, h6⟩ := s.go
 have l1 := Zii (Zew h) h2
 have hF := Zc2 fun t ht => (h2 t ht).1
 exact Zii (Zew (ZlJ (fun i hi => (hF i hi).1) l1)) h6
theorem Zn9 {n k : Nat} {G : Nat → Nat → Option Int} {R : Nat → Int × Int} {M : Int} {x : Nat → Int} (h : Za0 n G R x) : ¬ Zji n G R M k := by
 have hf : ∀ {G : Nat → Nat → Option Int} {R : Nat → Int × Int}, Za0 n G R x → ¬ Zf5 n G R := fun h ⟨i, hi, q⟩ => q _ (Zlg h hi)
 rintro (q | ⟨_, q⟩ | ⟨R1, _, h2, q⟩)
 ·exact ZkN h q
 ·exact hf (Zew h) q
 ·have l1 := Zii (Zew h) h2
  have hF := Zc2 fun t ht => (h2 t ht).1
  have l2 := ZlJ (fun i hi => (hF i hi).1) l1
  rcases q with q | ⟨_, q | ⟨_, q⟩⟩
  ·exact ZoF (fun i hi => (hF i hi).1) l1 q
  ·exact ZkN l2 q
  ·exact hf (Zew l2) q
end L
namespace L
open PySem PySem.W PyProof.Rows PM TM My
end L
namespace L
open PySem PySem.W PyProof.Rows PM TM My
end L
namespace L
open PySem PySem.W PyProof.Rows PM TM My
end L
namespace L
open PySem PySem.W PyProof.Rows PM TM My
end L
namespace L
open PySem PySem.W PyProof.Rows PM TM My
end L
namespace L
open PySem PySem.W PyProof.Rows PM TM My
end L
namespace L
open PySem PySem.W PyProof.Rows PM TM My
end L
namespace L
open PySem PySem.W PyProof.Rows PM TM My
theorem Zk4 {n : Nat} {G : Nat → Nat → Option Int} {R : Nat → Int × Int} (hn : n ≤ 100) (hd : ∀ i, i < n + 1 → G i i = some 0) (ok : ∀ t, t < n → RestOk (R t)) : ZdR [ZZ n G R, .int n] = some (.bool true) := by
 apply Pk.eq
 unfold ZdR Zib ZZ ZaT
 walk_at "zz"
 rw [show (n : Int) + 1 = ((n + 1 : Nat) : Int) by omega]
 refine ZO (ZqS (by omega) hd) ?_
 walk_at "zz"
 refine ZbX (n := n) (a := fun i => Z9 (R i)) (P := fun _ _ => True) ?_ trivial ?_ ?_
 ·walk_at "zz"
  rfl
 ·rintro t σ ht _
  have ho := ok t ht
  unfold Z9
  walk_at "zz"
  refine ZO Zjf ?_
  walk_at "zz"
  refine ZO Zjf ?_
  walk_at "zz"
  have h0 := ho.nn
  walk_at "zz"
  rcases ho with h | h
  ·walk_at "zz"
   trivial
  ·walk_at "zz"
   trivial
 ·rintro σ _
  walk_at "zz"
  rfl
theorem ZoH {n k : Nat} {G G2 : Nat → Nat → Option Int} {R R2 : Nat → Int × Int} {M : Int} (hd : ∀ i, i < n + 1 → G i i = some 0) (s : Sharp n G R G2 R2 M k) : (∀ i, i < n + 1 → G2 i i = some 0) ∧ ∀ k, k < n + 1 → ∀ i j, i < n + 1 → j < n + 1 → leO (G2 i j) (Zar (G2 i k) (G2 k j)) := by
 obtain ⟨R1, h1, h2, h3, h4, rfl, h6⟩ := s.go
 have hF := Zc2 fun t ht => (h2 t ht).1
 have z1 := Zgh hd (m := n + 1) fun m hm q => h1 ⟨m, hm, q⟩
 have z2 := ZlH (fun i hi => (hF i hi).1) z1
 exact ⟨Zgh z2 fun m hm q => h4 ⟨m, hm, q⟩, ZmJ z2 (n + 1) (by omega) fun m hm q => h4 ⟨m, hm, q⟩⟩
noncomputable def Zct (R : Nat → Int × Int) : Nat → Int
 | 0 => 1
 | t + 1 => Zct R t * (if (R t).1 = 0 then 1 else (R t).1)
theorem Zlh {n : Nat} {R : Nat → Int × Int} (h : ∀ t, t < n → RestOk (R t)) : ∀ m, m ≤ n → 0 < Zct R m
 | 0, _ => by show (0 : Int) < 1; decide
 | m + 1, hm => by
  have ih := Zlh h m (by omega)
  have := (h m (by omega)).nn
  unfold Zct
  refine Int.mul_pos ih ?_
  split
  ·decide
  ·omega
theorem Zli {R : Nat → Int × Int} : ∀ m t, t < m → (R t).1 = 0 ∨ (R t).1 ∣ Zct R m
 | m + 1, t, ht => by
  by_cases z : (R t).1 = 0
  ·exact .inl z
  ·right
   unfold Zct
   by_cases q : t = m
   ·subst q
    rw [if_neg z]
    exact Int.dvd_mul_left _ _
   ·exact Int.dvd_trans ((Zli m t (by omega)).resolve_left z) (Int.dvd_mul_right _ _)
theorem ZlK {n k : Nat} {R : Nat → Int × Int} (hk : 1 ≤ k) (h : ∀ t, t < n → Bd k (R t).1) : ∀ m, m ≤ n → Bd (k * m + 1) (Zct R m)
 | 0, _ => by rw [Nat.mul_zero]; exact Zfe (by omega)
 | m + 1, hm => by
  have ih := ZlK hk h m (by omega)
  unfold Zct
  have h2 : Bd k (if (R m).1 = 0 then 1 else (R m).1) := by
   split
   ·exact Zfe hk
   ·exact h m (by omega)
  have := Bd.mul ih h2
  rw [Nat.mul_succ]
  exact this.mono (by omega)
theorem Zoa {n B : Nat} {G : Nat → Nat → Option Int} {R : Nat → Int × Int} (hn : n ≤ 20) (hB : 1 ≤ B) (hB2 : B ≤ 300) (hd : ∀ i, i < n + 1 → G i i = some 0) (ok : ∀ t, t < n → RestOk (R t)) (sG : SmG B n G) (sR : SmR B n R) : Pk (Zd1 [ZZ n G R]) fun t => (∃ G2 R2, t = ZZ n G2 R2 ∧ Sharp n G R G2 R2 (Zct R n) (B * n + B + 2 * n + 6)) ∨ (t = .none ∧ Zji n G R (Zct R n) (B * n + B + n + 3)) := by
 have hBn : B * n ≤ 300 * 20 := Nat.mul_le_mul hB2 hn
 have bM : Bd (B * n + B + 1) (Zct R n) := (ZlK hB (fun t ht => (sR t ht).1) n (Nat.le_refl n)).mono (by omega)
 have bG : BdG (n + 1) (B * n + B + 1) G := fun a b c ha hb e => (show Bd B c from sG a b ha hb c e).mono (by omega)
 have hR : ∀ t, t < n → RB (Zct R n) (B * n + B + 1) (R t) := fun t ht => ⟨ok t ht, Zli n t ht, (show Bd B (R t).2 from (sR t ht).2).mono (by omega)⟩
 have := Zp2 (k := B * n + B + 1) (by omega) (by omega) (Zlh ok n (Nat.le_refl n)) bM hd bG hR
 rw [show B * n + B + 1 + 2 * n + 5 = B * n + B + 2 * n + 6 by omega, show B * n + B + 1 + n + 2 = B * n + B + n + 3 by omega] at this
 exact this
end L
namespace L
open PySem PySem.W PyProof.Rows PM TM My
end L
namespace L
open PySem PySem.W PyProof.Rows PM TM My
end L
namespace L
open PySem PySem.W PyProof.Rows PM TM My
end L
namespace L
open PySem PySem.W PyProof.Rows PM TM My
theorem Zlj {n : Nat} {G : Nat → Nat → Option Int} {R : Nat → Int × Int} {x : Nat → Int} (hn : n ≤ 100) (h : Za0 n G R x) (ok : ∀ t, t < n → RestOk (R t)) : ZdT [ZZ n G R, Zee n x] = some (.bool true) := by
 apply Pk.eq
 unfold ZdT ZiO ZZ Zaw Zai ZaT Zee
 walk_at "zz"
 rw [ZmE]
 refine ZbX (n := n + 1) (a := fun i => .int i) (P := fun i σ => σ 0 = some (ZZ n G R) ∧ σ 1 = some (.lst (tab n fun i => .int (x i))) ∧ σ 2 = some (.lst (tab (n + 1) fun i => .int (Zat x i)))) ?_ ⟨by walk_at "zr", by walk_at "zr", by walk_at "zr"⟩ ?_ ?_
 ·walk_at "zz"
  rfl
 ·rintro i σ hi ⟨e0, e1, e2⟩
  refine ZbX (n := n + 1) (a := fun i => .int i) (P := fun j σ => σ 0 = some (ZZ n G R) ∧ σ 1 = some (.lst (tab n fun i => .int (x i))) ∧ σ 2 = some (.lst (tab (n + 1) fun i => .int (Zat x i))) ∧ σ 3 = some (.int i)) ?_ ⟨by walk_at "zr", by walk_at "zr", by walk_at "zr", by walk_at "zr"⟩ ?_ ?_
  ·walk_at "zz"
   rfl
  ·rintro j σ hj ⟨f0, f1, f2, f3⟩
   unfold ZZ Zaw Zai ZaT at f0
   walk_at "zz"
   cases hg : G i j with
   | none =>
    rw [ZbW]
    walk_at "zz"
    exact ⟨by walk_at "zr", by walk_at "zr", by walk_at "zr", by walk_at "zr"⟩
   | some b =>
    have := h.1 i j hi hj b hg
    rw [Zbi]
    walk_at "zz"
    rw [hg, Zbi]
    walk_at "zz"
    exact ⟨by walk_at "zr", by walk_at "zr", by walk_at "zr", by walk_at "zr"⟩
  ·rintro σ ⟨f0, f1, f2, f3⟩
   exact ⟨f0, f1, f2⟩
 ·rintro σ ⟨e0, e1, e2⟩
  refine Zj8 ?_
  refine ZbX (n := n) (a := fun i => .int i) (P := fun j σ => σ 0 = some (ZZ n G R) ∧ σ 1 = some (.lst (tab n fun i => .int (x i)))) ?_ ⟨e0, e1⟩ ?_ ?_
  ·walk_at "zz"
   rfl
  ·rintro t σ ht ⟨f0, f1⟩
   unfold ZZ Zaw Zai ZaT Z9 at f0
   have ho := ok t ht
   have hh := h.2 t ht
   unfold Zaq at hh
   walk_at "zz"
   by_cases c : (R t).1 = 0
   ·have := hh.1 c
    walk_at "zz"
    exact ⟨by walk_at "zr", by walk_at "zr"⟩
   ·have hp : 0 < (R t).1 := by have := ho.nn; omega
    have h2 : (x t - (R t).2) % (R t).1 = 0 := hh.2 hp
    walk_at "zz"
    rw [Int.fmod_eq_emod_of_nonneg _ (by omega), h2]
    walk_at "zz"
    exact ⟨by walk_at "zr", by walk_at "zr"⟩
  ·rintro σ _
   walk_at "zz"
   rfl
end L
namespace L
open PySem PySem.W PyProof.Rows PM TM My
end L
namespace L
open PySem PySem.W PyProof.Rows PM TM My
section
variable {σ : TL} {Q : T → Prop}
theorem Zmh {a : T} {n : Nat} (hn : n ≤ 1000) (h : Q (.lst (tab n fun _ => a))) : Pk (ZaE (.lst [a]) (.int n)) Q := by
 have e : ∀ n, Zfc [a] n = tab n fun _ => a := fun n => by
  induction n with
  | zero => rfl
  | succ n ih => show Zfc [a] n ++ [a] = _; rw [ih]; exact Zc1 (f := fun _ => a)
 refine ⟨_, ?_, h⟩
 simp only [ZaE, List.length_cons, List.length_nil, Int.toNat_natCast, e]
 rw [if_pos ⟨by rw [Za2]; omega, by omega, by omega⟩]
end
theorem ZcL {a b : PS} {σ : TL} {R : T → Prop} {N : TL → Prop} (M : TL → Prop) (h1 : Psk (a σ) R M) (h2 : ∀ σ, M σ → Psk (b σ) R N) : Psk (Zu a b σ) R N := by
 obtain ⟨o, s, e, p, q⟩ := h1
 exact Zj8 ⟨o, s, e, p, fun h => h2 s (q h)⟩
end L
namespace L
open PySem PySem.W PyProof.Rows PM TM My
theorem ZqY {a : Nat} (h : a ≤ 4) : ZbP a a 1 = some [] := by
 have : a = 0 ∨ a = 1 ∨ a = 2 ∨ a = 3 ∨ a = 4 := by omega
 obtain rfl | rfl | rfl | rfl | rfl := this <;> (unfold ZbP; rw [if_pos (by decide +kernel)]; rfl)
theorem Zp3 {σ : TL} {g : PEs} {a m : Nat} {L : List T → Prop} (ha : a ≤ 4) (hm : m ≤ 100) (e : g σ = some [.int a, .int (a + m)]) (h : L (tab m fun i => .int ((a + i : Nat) : Int))) : Pl (Zax g σ) L := by
 cases m with
 | zero =>
  have e2 : ZbP (a : Int) ((a : Int) + ((0 : Nat) : Int)) 1 = some [] := by simpa using ZqY ha
  exact ⟨[], Zgd e e2, h⟩
 | succ m =>
  refine ⟨_, Zgd e (by have := Zl3 (a := a) (n := m + 1) (by omega) (by omega); simpa using this), ?_⟩
  rw [show (tab (m + 1) fun i => T.int ((a : Int) + i)) = tab (m + 1) fun i => .int ((a + i : Nat) : Int) from ZdW fun i _ => by congr 1]
  exact h
end L
namespace L
open PySem PySem.W PyProof.Rows PM TM My
noncomputable def Zap (n : Nat) (c : Nat → Int) : T := .lst (tab (n + 1) fun i => .int (c i))
theorem ZnP {n b : Nat} {c : Nat → Int} {k : Int} (hn : n ≤ 1000) (hb : b ≤ 100000) (bc : ∀ i, i < n + 1 → Bd b (c i)) (bk : Bd b k) : ZfB [Zap n c, .int k] = some (Zap n fun i => c i * k) := by
 apply Pk.eq
 unfold ZfB Zie Zap
 walk_at "zz"
 refine Za8 (n := n + 1) (a := fun i => .int (c i)) (b := fun i => .int (c i * k)) (by omega) ?_ (fun i hi => ?_) rfl
 ·walk_at "zz"
  rfl
 ·walk_at "zz"
  exact Zb9 (Zcy (bc i hi) bk (by omega) (by omega)) rfl
noncomputable def S40 (G : Nat → Nat → Option Int) (i : Nat) : Sp := ((G 0 (i + 1)).map fun y => y * (-1), G (i + 1) 0)
theorem Znb {n b : Nat} {G : Nat → Nat → Option Int} {R : Nat → Int × Int} (hn : n ≤ 90) (hb : b ≤ 100000) (hb1 : 1 ≤ b) (bG : ∀ i j, i < n + 1 → j < n + 1 → ∀ y, G i j = some y → Bd b y) : Zfl [ZZ n G R] = some (.lst (tab n fun i => spT (S40 G i))) := by
 apply Pk.eq
 unfold Zfl Zha
 have ht : ZZ n G R = .tup [.lst (tab (n + 1) fun i => .lst (tab (n + 1) fun j => oT (G i j))), .lst (tab n fun i => Z9 (R i))] := rfl
 rw [ht]
 walk_at "zz"
 refine Za8 (n := n) (a := fun i => .int ((1 + i : Nat) : Int)) (b := fun i => spT (S40 G i)) (by omega) ?_ (fun i hi => ?_) rfl
 ·refine Zp3 (a := 1) (m := n) (by omega) (by omega) ?_ rfl
  simp only [Zf, Zk, Zn, Zv, Za, ZR, Option.bind_some, if_true, ZaB, Zav]
  congr 3
  congr 1
  omega
 ·have h1 : 1 + i < n + 1 := by omega
  have h0 : 0 < n + 1 := by omega
  walk_at "zz"
  refine ZO (ZhM hb (fun y e => bG 0 (1 + i) h0 h1 y e) (show Bd b (-1) by unfold Bd; have := Zfe hb1; unfold Bd at this; simpa using this)) ?_
  walk_at "zz"
  unfold spT S40
  rw [show 1 + i = i + 1 by omega]
  rfl
theorem ZkO {σ : TL} {j : Nat} {cnd : PB} {P : T → Bool} : ∀ {ts : List T}, (∀ t ∈ ts, cnd (ZR σ j t) = some (P t)) → Zcr (Zac j) cnd (Za j) σ ts = some (ts.filter P)
 | [], _ => rfl
 | t :: ts, h => by
  have ih := ZkO fun t m => h t (Zz2 _ m)
  have h0 := h t Zz5
  simp only [Zcr, Zac, Option.bind_some, h0, Za, Zch, ih, Option.map_some, List.filter_cons]
  cases P t <;> rfl
theorem Zpm {σ : TL} {j : Nat} {g : PG} {cnd : PB} {P : T → Bool} {ts : List T} {Q : T → Prop} (hl : ts.length ≤ 10000) (hg : Pl (g σ) fun us => us = ts) (hc : ∀ t ∈ ts, Pb (cnd (ZR σ j t)) fun b => b = P t) (h : Q (.lst (ts.filter P))) : Pk (Zah g (Zac j) cnd (Za j) σ) Q := by
 obtain ⟨us, e, rfl⟩ := hg
 refine ⟨_, ?_, h⟩
 have := ZkO (σ := σ) (j := j) (cnd := cnd) (P := P) (ts := us) fun t m => by
  obtain ⟨b, e1, rfl⟩ := hc t m
  exact e1
 simp only [Zah, e, Option.bind_some, this, Option.map_some]
 rw [if_pos (by rw [Za2]; omega)]
noncomputable def xsI (n : Nat) (c : Nat → Int) : List Int := tab n fun i => c (i + 1)
noncomputable def nzI (n : Nat) (c : Nat → Int) : List Int := (xsI n c).filter fun x => decide (x ≠ 0)
noncomputable def Df (n : Nat) (c : Nat → Int) : Prop := PM.Zcs (nzI n c) = [-1, 1]
theorem Zf6 (ks : List Int) : Zcq (ks.map T.int) = some ks := by
 induction ks with
 | nil => rfl
 | cons k ks ih => simp [Zcq, ih]
theorem Zob {a b : List Int} (h : a.map T.int = b.map T.int) : a = b := by
 have := congrArg Zcq h
 rw [Zf6, Zf6] at this
 simpa using this
theorem ZjZ (ks : List Int) : Pln 1 (.lst (ks.map T.int)) := .lst fun t m => by
 obtain ⟨k, _, rfl⟩ := List.mem_map.mp m
 exact .int
theorem tab_map {α β : Type} {n : Nat} {f : Nat → α} {g : α → β} : (tab n f).map g = tab n fun i => g (f i) := by simp [tab]
theorem Zm4 {n : Nat} {c : Nat → Int} (hn : n ≤ 60) : Zfi [Zap n c] = some (.bool (dec (Df n c))) := by
 apply Pk.eq
 unfold Zfi ZgZ Zap
 walk_at "zz"
 refine Zpm (ts := (xsI n c).map T.int) (P := fun t => match t with | .int x => decide (x ≠ 0) | _ => false) (by simp [xsI, Zav]; omega) ?_ (fun t m => ?_) ?_
 ·refine ZjM ?_
  refine Zjg ?_
  walk_at "zz"
  refine ⟨_, rfl, ?_⟩
  rw [ZjF]
  refine Sq.lst ?_
  unfold xsI
  rw [tab_map]
 ·obtain ⟨x, _, rfl⟩ := List.mem_map.mp m
  walk_at "zz"
  rfl
 have ef : ((xsI n c).map T.int).filter (fun t => match t with | .int x => decide (x ≠ 0) | _ => false) = (nzI n c).map T.int := by
  unfold nzI
  rw [List.filter_map]
  rfl
 rw [ef]
 have hl : (nzI n c).length ≤ n := by
  unfold nzI
  refine Nat.le_trans (List.length_filter_le _ _) ?_
  simp [xsI, Zav]
 walk_at "zz"
 refine ⟨.lst ((PM.Zcs (nzI n c)).map T.int), ?_, ?_⟩
 ·simp only [Zgf, Zf6, Option.bind_some, List.length_map]
  rw [if_pos (by omega)]
 walk_at "zz"
 refine Zgn (n := 1) (m := 1) (ZjZ _) (ZjZ [-1, 1]) ?_
 by_cases h : Df n c
 ·rw [ZaP h, ZaP]
  show T.lst ((PM.Zcs (nzI n c)).map T.int) = _
  rw [show PM.Zcs (nzI n c) = [-1, 1] from h]
  rfl
 ·rw [Zbw h, Zbw]
  intro q
  refine h (Zob ?_)
  simpa using q
noncomputable def Zay (c : Nat → Int) : Nat → List Nat
 | 0 => []
 | n + 1 => Zay c n ++ (if 0 < c (n + 1) then [n + 1] else [])
noncomputable def ZaC (c : Nat → Int) : Nat → List Nat
 | 0 => []
 | n + 1 => ZaC c n ++ (if c (n + 1) < 0 then [n + 1] else [])
theorem ups_mem {c : Nat → Int} : ∀ {n i : Nat}, i ∈ Zay c n ↔ 1 ≤ i ∧ i ≤ n ∧ 0 < c i
 | 0, i => by simp [Zay]; omega
 | n + 1, i => by
  simp only [Zay, List.mem_append, ups_mem (n := n)]
  by_cases h : 0 < c (n + 1)
  ·simp only [h, if_true, List.mem_singleton]
   constructor
   ·rintro (⟨a, b, d⟩ | rfl)
    ·exact ⟨a, by omega, d⟩
    ·exact ⟨by omega, by omega, h⟩
   ·rintro ⟨a, b, d⟩
    by_cases q : i = n + 1
    ·exact .inr q
    ·exact .inl ⟨a, by omega, d⟩
  ·simp only [h, if_false, List.not_mem_nil, or_false]
   constructor
   ·rintro ⟨a, b, d⟩; exact ⟨a, by omega, d⟩
   ·rintro ⟨a, b, d⟩
    have : i ≠ n + 1 := fun q => h (q ▸ d)
    exact ⟨a, by omega, d⟩
theorem dns_mem {c : Nat → Int} : ∀ {n i : Nat}, i ∈ ZaC c n ↔ 1 ≤ i ∧ i ≤ n ∧ c i < 0
 | 0, i => by simp [ZaC]; omega
 | n + 1, i => by
  simp only [ZaC, List.mem_append, dns_mem (n := n)]
  by_cases h : c (n + 1) < 0
  ·simp only [h, if_true, List.mem_singleton]
   constructor
   ·rintro (⟨a, b, d⟩ | rfl)
    ·exact ⟨a, by omega, d⟩
    ·exact ⟨by omega, by omega, h⟩
   ·rintro ⟨a, b, d⟩
    by_cases q : i = n + 1
    ·exact .inr q
    ·exact .inl ⟨a, by omega, d⟩
  ·simp only [h, if_false, List.not_mem_nil, or_false]
   constructor
   ·rintro ⟨a, b, d⟩; exact ⟨a, by omega, d⟩
   ·rintro ⟨a, b, d⟩
    have : i ≠ n + 1 := fun q => h (q ▸ d)
    exact ⟨a, by omega, d⟩
theorem ZlL {c : Nat → Int} : ∀ n, (Zay c n).map c = (xsI n c).filter fun x => decide (0 < x)
 | 0 => rfl
 | n + 1 => by
  have e : xsI (n + 1) c = xsI n c ++ [c (n + 1)] := (Zc1 (n := n) (f := fun i => c (i + 1))).symm
  rw [e, List.filter_append, ← ZlL n]
  simp only [Zay, List.map_append]
  by_cases h : 0 < c (n + 1) <;> simp [h]
theorem ZlM {c : Nat → Int} : ∀ n, (ZaC c n).map c = (xsI n c).filter fun x => decide (x < 0)
 | 0 => rfl
 | n + 1 => by
  have e : xsI (n + 1) c = xsI n c ++ [c (n + 1)] := (Zc1 (n := n) (f := fun i => c (i + 1))).symm
  rw [e, List.filter_append, ← ZlM n]
  simp only [ZaC, List.map_append]
  by_cases h : c (n + 1) < 0 <;> simp [h]
theorem df_iff {n : Nat} {c : Nat → Int} : Df n c ↔ (Zay c n).map c = [1] ∧ (ZaC c n).map c = [-1] := by
 rw [ZlL, ZlM]
 have hp : (nzI n c).Perm ((xsI n c).filter (fun x => decide (0 < x)) ++ (xsI n c).filter (fun x => decide (x < 0))) := by
  unfold nzI
  generalize xsI n c = xs
  induction xs with
  | nil => exact List.Perm.refl _
  | cons x xs ih =>
   by_cases h1 : 0 < x
   ·have : x ≠ 0 := by omega
    have h2 : ¬ x < 0 := by omega
    simp only [List.filter_cons, h1, h2, this, decide_true, decide_false, ne_eq, not_false_eq_true, if_true, Bool.false_eq_true, if_false, List.cons_append]
    exact List.Perm.cons _ ih
   ·by_cases h2 : x < 0
    ·have : x ≠ 0 := by omega
     simp only [List.filter_cons, h1, h2, this, decide_true, decide_false, ne_eq, not_false_eq_true, if_true, Bool.false_eq_true, if_false]
     exact (List.Perm.cons _ ih).trans List.perm_middle.symm
    ·have : x = 0 := by omega
     subst this
     simpa using ih
 constructor
 ·intro h
  have hq : (nzI n c).Perm [-1, 1] := by
   have := List.mergeSort_perm (nzI n c) fun a b => decide (a ≤ b)
   rw [show (nzI n c).mergeSort (fun a b => decide (a ≤ b)) = [-1, 1] from h] at this
   exact this.symm
  have hf : ∀ q : Int → Bool, (∀ x, q x = true → x ≠ 0) → (xsI n c).filter q = (nzI n c).filter q := fun q hq => by
   unfold nzI
   rw [List.filter_filter]
   refine List.filter_congr fun x _ => ?_
   cases e : q x with
   | false => simp
   | true => simp [hq x e]
  rw [hf _ (fun x h => by simp at h; omega), hf _ (fun x h => by simp at h; omega)]
  have p1 := hq.filter fun x => decide (0 < x)
  have p2 := hq.filter fun x => decide (x < 0)
  exact ⟨List.perm_singleton.mp (by simpa using p1), List.perm_singleton.mp (by simpa using p2)⟩
 ·rintro ⟨h1, h2⟩
  rw [h1, h2] at hp
  unfold Df
  refine (PM.Zlx ?_ ?_).symm
  ·exact (hp.trans (List.Perm.swap (-1) 1 [])).symm
  ·simp
end L
namespace L
open PySem PySem.W PyProof.Rows PM TM My
theorem ZlN {σ : TL} {p q r : PE} {Q : T → Prop} (h : Pk (p σ) fun t => ∃ ks : List Int, t = .lst (ks.map T.int) ∧ Pk (q σ) fun u => ∃ k, u = .int k ∧ Pk (r σ) fun v => v = .int 1 ∧ k ∈ ks.drop 1 ∧ Q (.int ((1 + (ks.drop 1).idxOf k : Nat) : Int))) : Pk (ZeR p q r σ) Q := by
 obtain ⟨_, e1, ks, rfl, _, e2, k, rfl, _, e3, rfl, hm, h⟩ := h
 refine ⟨_, ?_, h⟩
 simp only [ZeR, e1, e2, e3, Option.bind_some, Zf6]
 rw [if_pos ⟨trivial, hm⟩]
theorem Zgi {n : Nat} {c : Nat → Int} : (tab (n + 1) c).drop 1 = xsI n c := by
 unfold xsI
 apply List.ext_getElem
 ·simp [tab]
 ·intro i h1 h2
  simp [tab]
theorem ZmK {l : List Nat} {c : Nat → Int} {k : Int} (h : l.map c = [k]) : ∃ u, l = [u] ∧ c u = k := by
 cases l with
 | nil => simp at h
 | cons a l =>
  cases l with
  | nil => exact ⟨a, rfl, by simpa using h⟩
  | cons b l => simp at h
theorem ZmW {n i : Nat} {c : Nat → Int} (hi : i < n) : (xsI n c)[i]? = some (c (i + 1)) := ZbB (f := fun i => c (i + 1)) hi
theorem ZmL {n u : Nat} {c : Nat → Int} {k : Int} (h1 : 1 ≤ u) (h2 : u ≤ n) (hu : c u = k) (ho : ∀ i, 1 ≤ i → i ≤ n → c i = k → i = u) : 1 + (xsI n c).idxOf k = u ∧ k ∈ xsI n c := by
 have hm : k ∈ xsI n c := List.mem_of_getElem? (i := u - 1) (by rw [ZmW (by omega), show u - 1 + 1 = u by omega, hu])
 have hl : (xsI n c).idxOf k < (xsI n c).length := List.idxOf_lt_length_iff.mpr hm
 have hn : (xsI n c).length = n := Zav
 have hk := List.getElem_idxOf hl
 have hx : (xsI n c)[(xsI n c).idxOf k]? = some k := by rw [List.getElem?_eq_getElem hl, hk]
 rw [ZmW (by omega)] at hx
 have := ho ((xsI n c).idxOf k + 1) (by omega) (by omega) (by simpa using hx)
 exact ⟨by omega, hm⟩
theorem ZfY {n : Nat} {c : Nat → Int} (h : Df n c) : ∃ u d, Zay c n = [u] ∧ ZaC c n = [d] ∧ c u = 1 ∧ c d = -1 ∧ u < n + 1 ∧ d < n + 1 ∧ 1 ≤ u ∧ 1 ≤ d ∧ 1 + (xsI n c).idxOf 1 = u ∧ 1 + (xsI n c).idxOf (-1) = d ∧ 1 ∈ xsI n c ∧ -1 ∈ xsI n c := by
 obtain ⟨h1, h2⟩ := df_iff.mp h
 obtain ⟨u, eu, hu⟩ := ZmK h1
 obtain ⟨d, ed, hd⟩ := ZmK h2
 have mu := ups_mem.mp (show u ∈ Zay c n by rw [eu]; simp)
 have md := dns_mem.mp (show d ∈ ZaC c n by rw [ed]; simp)
 have a1 := ZmL mu.1 mu.2.1 hu fun i q1 q2 q3 => by
  have : i ∈ Zay c n := ups_mem.mpr ⟨q1, q2, by omega⟩
  rw [eu] at this
  simpa using this
 have a2 := ZmL md.1 md.2.1 hd fun i q1 q2 q3 => by
  have : i ∈ ZaC c n := dns_mem.mpr ⟨q1, q2, by omega⟩
  rw [ed] at this
  simpa using this
 exact ⟨u, d, eu, ed, hu, hd, by omega, by omega, mu.1, md.1, a1.1, a2.1, a1.2, a2.2⟩
noncomputable def grt (n : Nat) (G : Nat → Nat → Option Int) (c : Nat → Int) : Option Int := if dec (Df n c) then Zar (G (1 + (xsI n c).idxOf 1) (1 + (xsI n c).idxOf (-1))) (some (c 0)) else (Zby c (S40 G) n).2
noncomputable def GB (b n : Nat) (G : Nat → Nat → Option Int) : Prop := ∀ i j, i < n + 1 → j < n + 1 → ∀ y, G i j = some y → Bd b y
theorem ZmM {b n : Nat} {G : Nat → Nat → Option Int} (hG : GB b n G) : ∀ i, i < n → SBd b (S40 G i) := fun i hi => ⟨fun x e => by
 obtain ⟨y, e1, e2⟩ := Zz1.mp e
 have := hG 0 (i + 1) (by omega) (by omega) y e1
 subst e2
 unfold Bd at *
 omega, fun x e => hG (i + 1) 0 (by omega) (by omega) x e⟩
theorem Zoc {n b : Nat} {G : Nat → Nat → Option Int} {R : Nat → Int × Int} {c : Nat → Int} (hn : n ≤ 60) (hb : b ≤ 100000) (hb1 : 1 ≤ b) (hG : GB b n G) (bc : ∀ i, i < n + 1 → Bd b (c i)) : ZfL [ZZ n G R, Zap n c] = some (oT (grt n G c)) := by
 apply Pk.eq
 unfold ZfL ZiS grt
 have ht : ZZ n G R = .tup [.lst (tab (n + 1) fun i => .lst (tab (n + 1) fun j => oT (G i j))), .lst (tab n fun i => Z9 (R i))] := rfl
 have hs : Zap n c = .lst ((tab (n + 1) c).map T.int) := by unfold Zap; rw [tab_map]
 walk_at "zz"
 refine ZO (Zm4 hn) ?_
 by_cases h : Df n c
 ·obtain ⟨u, d, _, _, _, _, hu, hd, _, _, eu, ed, mu, md⟩ := ZfY h
  rw [ZaP h]
  rw [ht]
  walk_at "zz"
  refine ZlN ?_
  walk_at "zz"
  refine ⟨tab (n + 1) c, hs, ?_⟩
  walk_at "zz"
  refine ⟨1, rfl, ?_⟩
  walk_at "zz"
  refine ⟨rfl, by rw [Zgi]; exact mu, ?_⟩
  rw [Zgi, eu]
  walk_at "zz"
  refine ZlN ?_
  walk_at "zz"
  refine ⟨tab (n + 1) c, hs, ?_⟩
  walk_at "zz"
  refine ⟨-1, rfl, ?_⟩
  walk_at "zz"
  refine ⟨rfl, by rw [Zgi]; exact md, ?_⟩
  rw [Zgi, ed]
  unfold Zap
  walk_at "zz"
  exact ZO (Zes (b := some (c (Int.toNat 0)))) rfl
 ·rw [Zbw h]
  walk_at "zz"
  refine ZO (Znb (by omega) hb hb1 hG) ?_
  walk_at "zz"
  refine ZO (Znj (by omega) hb bc (ZmM hG)) ?_
  unfold spT
  walk_at "zz"
  rfl
noncomputable def sU (G : Nat → Nat → Option Int) (c : Nat → Int) (l : List Nat) : Int := (l.map fun i => c i * (G i 0).getD 0).sum
noncomputable def sD (G : Nat → Nat → Option Int) (c : Nat → Int) (l : List Nat) : Int := (l.map fun i => c i * (G 0 i).getD 0).sum
noncomputable def Zcv (G : Nat → Nat → Option Int) (c : Nat → Int) (n : Nat) : Prop := (∃ i ∈ Zay c n, G i 0 = none) ∨ ∃ i ∈ ZaC c n, G 0 i = none
theorem ZqZ {G : Nat → Nat → Option Int} {c : Nat → Int} {l : List Nat} {i : Nat} : sU G c (l ++ [i]) = sU G c l + c i * (G i 0).getD 0 := by simp [sU]
theorem Zq0 {G : Nat → Nat → Option Int} {c : Nat → Int} {l : List Nat} {i : Nat} : sD G c (l ++ [i]) = sD G c l + c i * (G 0 i).getD 0 := by simp [sD]
theorem tot {G : Nat → Nat → Option Int} {c : Nat → Int} : ∀ n, (Zcv G c n → (Zby c (S40 G) n).2 = none) ∧ (¬ Zcv G c n → (Zby c (S40 G) n).2 = some (c 0 + sU G c (Zay c n) - sD G c (ZaC c n)))
 | 0 => ⟨fun h => (by rcases h with ⟨i, m, _⟩ | ⟨i, m, _⟩ <;> cases m), fun _ => by simp [Zby, sU, sD, Zay, ZaC]⟩
 | n + 1 => by
  obtain ⟨ih1, ih2⟩ := tot (G := G) (c := c) n
  have step : (Zby c (S40 G) (n + 1)).2 = Zar (Zby c (S40 G) n).2 (ZbU (S40 G n) (c (n + 1))).2 := rfl
  rw [step]
  have mono : Zcv G c n → Zcv G c (n + 1) := fun h => h.imp (fun ⟨i, m, e⟩ => ⟨i, by simp only [Zay, List.mem_append]; exact .inl m, e⟩) fun ⟨i, m, e⟩ => ⟨i, by simp only [ZaC, List.mem_append]; exact .inl m, e⟩
  rcases Int.lt_trichotomy (c (n + 1)) 0 with h | h | h
  ·have h0 : ¬ 0 < c (n + 1) := by omega
   have hz : ¬ c (n + 1) = 0 := by omega
   have eu : Zay c (n + 1) = Zay c n := by simp [Zay, h0]
   have ed : ZaC c (n + 1) = ZaC c n ++ [n + 1] := by simp [ZaC, h]
   have et : (ZbU (S40 G n) (c (n + 1))).2 = (G 0 (n + 1)).map fun y => y * (-1) * c (n + 1) := by
    unfold ZbU S40
    rw [if_neg hz, if_pos h]
    cases G 0 (n + 1) <;> rfl
   rw [et]
   cases hg : G 0 (n + 1) with
   | none =>
    refine ⟨fun _ => ?_, fun q => absurd (.inr ⟨n + 1, by rw [ed]; simp, hg⟩) q⟩
    cases (Zby c (S40 G) n).2 <;> rfl
   | some y =>
    have hl : Zcv G c (n + 1) → Zcv G c n := by
     rintro (⟨i, m, e⟩ | ⟨i, m, e⟩)
     ·rw [eu] at m; exact .inl ⟨i, m, e⟩
     ·rw [ed] at m
      rcases List.mem_append.mp m with m | m
      ·exact .inr ⟨i, m, e⟩
      ·rw [List.mem_singleton.mp m, hg] at e; cases e
    refine ⟨fun q => by rw [ih1 (hl q)]; rfl, fun q => ?_⟩
    rw [ih2 fun r => q (mono r), eu, ed, Zq0, hg]
    simp only [Zar, Option.map_some, Option.getD_some]
    congr 1
    have : y * (-1) * c (n + 1) = -(c (n + 1) * y) := by rw [Int.mul_neg, Int.mul_one, Int.neg_mul, Int.mul_comm]
    omega
  ·have h0 : ¬ 0 < c (n + 1) := by omega
   have h1 : ¬ c (n + 1) < 0 := by omega
   have eu : Zay c (n + 1) = Zay c n := by simp [Zay, h0]
   have ed : ZaC c (n + 1) = ZaC c n := by simp [ZaC, h1]
   have et : (ZbU (S40 G n) (c (n + 1))).2 = some 0 := by unfold ZbU; rw [if_pos h]
   have el : Zcv G c (n + 1) ↔ Zcv G c n := by unfold Zcv; rw [eu, ed]
   rw [et, ZmH, el, eu, ed]
   exact ⟨ih1, ih2⟩
  ·have h1 : ¬ c (n + 1) < 0 := by omega
   have hz : ¬ c (n + 1) = 0 := by omega
   have eu : Zay c (n + 1) = Zay c n ++ [n + 1] := by simp [Zay, h]
   have ed : ZaC c (n + 1) = ZaC c n := by simp [ZaC, h1]
   have et : (ZbU (S40 G n) (c (n + 1))).2 = (G (n + 1) 0).map fun y => y * c (n + 1) := by
    unfold ZbU S40
    rw [if_neg hz, if_neg h1]
   rw [et]
   cases hg : G (n + 1) 0 with
   | none =>
    refine ⟨fun _ => ?_, fun q => absurd (.inl ⟨n + 1, by rw [eu]; simp, hg⟩) q⟩
    cases (Zby c (S40 G) n).2 <;> rfl
   | some y =>
    have hl : Zcv G c (n + 1) → Zcv G c n := by
     rintro (⟨i, m, e⟩ | ⟨i, m, e⟩)
     ·rw [eu] at m
      rcases List.mem_append.mp m with m | m
      ·exact .inl ⟨i, m, e⟩
      ·rw [List.mem_singleton.mp m, hg] at e; cases e
     ·rw [ed] at m; exact .inr ⟨i, m, e⟩
    refine ⟨fun q => by rw [ih1 (hl q)]; rfl, fun q => ?_⟩
    rw [ih2 fun r => q (mono r), eu, ed, ZqZ, hg]
    simp only [Zar, Option.map_some, Option.getD_some]
    congr 1
    have : y * c (n + 1) = c (n + 1) * y := Int.mul_comm _ _
    omega
end L
namespace L
open PySem PySem.W PyProof.Rows PM TM My
end L
namespace L
open PySem PySem.W PyProof.Rows PM TM My
theorem Zmi {b n : Nat} {c : Nat → Int} {S : Nat → Sp} (bc : ∀ i, i < n + 1 → Bd b (c i)) (bS : ∀ i, i < n → SBd b (S i)) : ∀ j, j ≤ n → ∀ y, (Zby c S j).2 = some y → Bd (b + b + j + 1) y
 | 0, _, y, e => by cases e; exact (bc 0 (by omega)).mono (by omega)
 | j + 1, h, y, e => by
  obtain ⟨p, q, h1, h2, rfl⟩ := addO_some.mp (show Zar (Zby c S j).2 (ZbU (S j) (c (j + 1))).2 = some y from e)
  have ih := Zmi bc bS j (by omega) p h1
  have hq : Bd (b + b) q := by
   unfold ZbU at h2
   split at h2
   ·cases h2; exact ZdK
   ·split at h2
    ·obtain ⟨z, e1, rfl⟩ := Zz1.mp h2
     exact ((bS j (by omega)).1 z e1).mul (bc (j + 1) (by omega))
    ·obtain ⟨z, e1, rfl⟩ := Zz1.mp h2
     exact ((bS j (by omega)).2 z e1).mul (bc (j + 1) (by omega))
  exact (ih.add (hq.mono (by omega))).mono (by omega)
noncomputable def ZaD (c : Nat → Int) (x : Nat → Int) : Nat → Int
 | 0 => c 0
 | j + 1 => ZaD c x j + c (j + 1) * x j
theorem Zmj {c x : Nat → Int} : ∀ n, c 0 + (tab n fun i => c (i + 1) * x i).sum = ZaD c x n
 | 0 => by simp [tab, ZaD]
 | n + 1 => by
  rw [← Zc1 (n := n) (f := fun i => c (i + 1) * x i), List.sum_append]
  have := Zmj (c := c) (x := x) n
  simp only [List.sum_cons, List.sum_nil, ZaD]
  omega
theorem ZmN {c x : Nat → Int} {S : Nat → Sp} {n : Nat} (h : ∀ i, i < n → InS (S i) (x i)) : ∀ j, j ≤ n → InS (Zby c S j) (ZaD c x j)
 | 0, _ => ⟨fun l e => by cases e; exact Int.le_refl _, fun l e => by cases e; exact Int.le_refl _⟩
 | j + 1, hj => Zp1 (ZmN h j (by omega)) (Zpk (h j (by omega)))
noncomputable def sV (c x : Nat → Int) (l : List Nat) : Int := (l.map fun i => c i * x (i - 1)).sum
theorem Zlk {c x : Nat → Int} : ∀ n, ZaD c x n = c 0 + sV c x (Zay c n) + sV c x (ZaC c n)
 | 0 => by simp [ZaD, sV, Zay, ZaC]
 | n + 1 => by
  have ih := Zlk (c := c) (x := x) n
  have sn : ∀ l, sV c x (l ++ [n + 1]) = sV c x l + c (n + 1) * x n := fun l => by simp [sV]
  simp only [ZaD, Zay, ZaC, ih]
  rcases Int.lt_trichotomy (c (n + 1)) 0 with h | h | h
  ·rw [if_neg (by omega), if_pos h, List.append_nil, sn]
   omega
  ·rw [if_neg (by omega), if_neg (by omega), List.append_nil, List.append_nil, h]
   omega
  ·rw [if_pos h, if_neg (by omega), List.append_nil, sn]
   omega
theorem ZrS {n : Nat} {G : Nat → Nat → Option Int} {R : Nat → Int × Int} {c x : Nat → Int} (h : Za0 n G R x) {y : Int} (e : grt n G c = some y) : ZaD c x n ≤ y := by
 unfold grt at e
 by_cases hd : Df n c
 ·rw [ZaP hd] at e
  obtain ⟨u, d, eu, ed, hcu, hcd, hu, hdn, hu1, hd1, iu, id_, _, _⟩ := ZfY hd
  rw [iu, id_] at e
  obtain ⟨p, q, h1, h2, rfl⟩ := addO_some.mp (show Zar (G u d) (some (c 0)) = some y from e)
  cases h2
  have hb := h.1 u d hu hdn p h1
  rw [Zlk, eu, ed]
  have f : ∀ i, 1 ≤ i → Zat x i = x (i - 1) := fun i hi => by
   cases i with
   | zero => omega
   | succ i => rfl
  rw [f u hu1, f d hd1] at hb
  simp only [sV, List.map_cons, List.map_nil, List.sum_cons, List.sum_nil, hcu, hcd]
  omega
 ·rw [Zbw hd] at e
  refine (ZmN (S := S40 G) (n := n) (fun i hi => ⟨fun l el => ?_, fun r er => ?_⟩) n (Nat.le_refl n)).2 y e
  ·obtain ⟨z, e1, rfl⟩ := Zz1.mp el
   have := h.1 0 (i + 1) (by omega) (by omega) z e1
   have f0 : Zat x 0 = 0 := rfl
   have f1 : Zat x (i + 1) = x i := rfl
   show z * (-1) ≤ x i
   omega
  ·have := h.1 (i + 1) 0 (by omega) (by omega) r er
   have f0 : Zat x 0 = 0 := rfl
   have f1 : Zat x (i + 1) = x i := rfl
   omega
theorem Zp4 {n b : Nat} {c x : Nat → Int} (hn : n ≤ 60) (hb : b ≤ 100000) (bc : ∀ i, i < n + 1 → Bd b (c i)) (bx : ∀ i, i < n → Bd b (x i)) : ZfC [Zap n c, Zee n x] = some (.int (ZaD c x n)) := by
 apply Pk.eq
 unfold ZfC Zih Zap Zee
 have h0 : 0 < n + 1 := by omega
 walk_at "zz"
 refine Za8 (n := n) (a := fun i => .int i) (b := fun i => .int (c (i + 1) * x i)) (by omega) ?_ (fun i hi => ?_) ?_
 ·walk_at "zz"
  rfl
 ·walk_at "zz"
  rw [show ((i : Int) + 1).toNat = i + 1 by omega]
  exact Zb9 (Zcy (bc (i + 1) (by omega)) (bx i hi) (by omega) (by omega)) rfl
 walk_at "zz"
 refine ⟨.int (tab n fun i => c (i + 1) * x i).sum, by simp only [ZgM, ZpG, Option.map_some], ?_⟩
 walk_at "zz"
 rw [show (Int.toNat 0) = 0 from rfl, Zmj]
end L
namespace L
open PySem PySem.W PyProof.Rows PM TM My
noncomputable def SumB (n : Nat) (c : Nat → Int) (K : Int) : Prop := Bd 140 (c 0) ∧ ∀ i, 1 ≤ i → i < n + 1 → -K ≤ c i ∧ c i ≤ K
theorem SumB.bd {n : Nat} {c : Nat → Int} {K : Int} (h : SumB n c K) (hK : K ≤ 4000000000) : ∀ i, i < n + 1 → Bd 140 (c i) := fun i hi => by
 by_cases q : i = 0
 ·subst q; exact h.1
 ·have := h.2 i (by omega) hi
  exact ZbR (i := 33) (by omega) (by decide)
theorem SumB.mono {n : Nat} {c : Nat → Int} {K K' : Int} (h : SumB n c K) (hK : K ≤ K') : SumB n c K' := ⟨h.1, fun i h1 h2 => by have := h.2 i h1 h2; omega⟩
theorem Zgj {σ : TL} {x n : Nat} {c : Nat → Int} {v k K K' : Int} {N : TL → Prop} (e : σ x = some (.lst (tab (n + 1) fun i => .int (c i)))) (h0 : 1 ≤ k) (h1 : k < (n + 1 : Nat)) (bc : SumB n c K) (hK : K ≤ K') (v0 : -K' ≤ v) (v1 : v ≤ K') (h : ∀ c', SumB n c' K' → N (ZR σ x (.lst (tab (n + 1) fun i => .int (c' i))))) : PutP σ x (.int v) (.int k) N := by
 refine Zo5 (n := n + 1) (f := fun i => .int (c i)) e (by omega) h1 ?_
 have := h (fun i => if i = k.toNat then v else c i) ⟨by show Bd 140 (if 0 = k.toNat then v else c 0); rw [if_neg (by omega)]; exact bc.1, fun i hi1 hi2 => by
  by_cases q : i = k.toNat
  ·simp only [q, if_true]; exact ⟨v0, v1⟩
  ·simp only [q, if_false]; have := bc.2 i hi1 hi2; omega⟩
 rw [show (tab (n + 1) fun i => if i = k.toNat then T.int v else T.int (c i)) = tab (n + 1) fun i => T.int (if i = k.toNat then v else c i) from ZdW fun i _ => by split <;> rfl]
 exact this
end L
namespace L
open PySem PySem.W PyProof.Rows PM TM My
end L
namespace L
open PySem PySem.W PyProof.Rows PM TM My
noncomputable def unC (i : Nat) : Nat → Int := fun k => if 0 < i ∧ k = i then 1 else 0
theorem ZoI {i n : Nat} (hn : n ≤ 900) : ZfV [.int i, .int n] = some (Zap n (unC i)) := by
 apply Pk.eq
 unfold ZfV Zjd Zap
 walk_at "zz"
 refine Za8 (n := n + 1) (a := fun k => .int (k : Nat)) (b := fun k => .int (unC i k)) (by omega) ?_ (fun k hk => ?_) rfl
 ·walk_at "zz"
  exact ZmS (n + 1) (by omega) (by omega) rfl
 ·walk_at "zz"
  by_cases h : 0 < i
  ·refine ⟨fun _ => ?_, fun c => absurd c (by simp; omega)⟩
   walk_at "zz"
   by_cases q : k = i
   ·refine ⟨fun _ => ?_, fun c => absurd c (by simp [q])⟩
    walk_at "zz"
    show _ = T.int (unC i k)
    unfold unC
    rw [if_pos ⟨h, q⟩]
   ·refine ⟨fun c => absurd c (by simp; omega), fun _ => ?_⟩
    walk_at "zz"
    show _ = T.int (unC i k)
    unfold unC
    rw [if_neg (fun c => q c.2)]
  ·refine ⟨fun c => absurd c (by simp; omega), fun _ => ⟨fun c => absurd c (by decide), fun _ => ?_⟩⟩
   walk_at "zz"
   show _ = T.int (unC i k)
   unfold unC
   rw [if_neg (fun c => h c.1)]
theorem Zod {n : Nat} {c d : Nat → Int} (hn : n ≤ 900) : ZfM [Zap n c, Zap n d] = some (Zap n fun k => c k + d k) := by
 apply Pk.eq
 unfold ZfM ZiV Zap
 walk_at "zz"
 refine Zjn (n := n + 1) (a := fun i => .int (c i)) (b := fun i => .int (d i)) (c := fun i => .int (c i + d i)) (by omega) ?_ (fun i hi => ?_) rfl
 ·walk_at "zz"
  rfl
 ·walk_at "zz"
  rfl
theorem Zoe {n b : Nat} {c d : Nat → Int} (hn : n ≤ 900) (hb1 : 1 ≤ b) (hb : b ≤ 100000) (bd : ∀ i, i < n + 1 → Bd b (d i)) : ZfN [Zap n c, Zap n d] = some (Zap n fun k => c k - d k) := by
 apply Pk.eq
 unfold ZfN ZiY
 walk_at "zz"
 refine ZO (ZnP (by omega) hb bd (show Bd b (-1) by unfold Bd; have := Zfe hb1; unfold Bd at this; simpa using this)) ?_
 walk_at "zz"
 refine ZO (Zod hn) ?_
 walk_at "zz"
 have : (fun k => c k + d k * -1) = fun k => c k - d k := by funext k; omega
 rw [this]
noncomputable def ZcD (C : Nat → Nat → Int) : Nat → Nat → Int
 | 0 => fun _ => 0
 | i + 1 => C i
noncomputable def dC (C : Nat → Nat → Int) (i j : Nat) : Nat → Int := fun k => ZcD C i k - ZcD C j k
noncomputable def rcG (n : Nat) (G : Nat → Nat → Option Int) (C : Nat → Nat → Int) (i j : Nat) : Option Int := grt n G (dC C i j)
noncomputable def rcR (n : Nat) (R : Nat → Int × Int) (C : Nat → Nat → Int) (i : Nat) : Int × Int := Zdk (C i) R n
noncomputable def ZgF (n m : Nat) (C : Nat → Nat → Int) : T := .lst (tab m fun i => Zap n (C i))
noncomputable def CB (b n m : Nat) (C : Nat → Nat → Int) : Prop := ∀ i, i < m → ∀ k, k < n + 1 → Bd b (C i k)
theorem CB.full {b n m : Nat} {C : Nat → Nat → Int} (h : CB b n m C) : ∀ i, i < m + 1 → ∀ k, k < n + 1 → Bd b (ZcD C i k)
 | 0, _, _, _ => ZdK
 | i + 1, hi, k, hk => h i (by omega) k hk
theorem CB.dif {b n m : Nat} {C : Nat → Nat → Int} (h : CB b n m C) {i j : Nat} (hi : i < m + 1) (hj : j < m + 1) : ∀ k, k < n + 1 → Bd (b + 1) (dC C i j k) := fun k hk => by
 have h1 := h.full i hi k hk
 have h2 := h.full j hj k hk
 unfold Bd dC at *
 rw [Nat.pow_succ]
 omega
theorem unC_0 : unC 0 = fun _ => 0 := by funext k; unfold unC; rw [if_neg (by omega)]
theorem Znx {n m b : Nat} {G : Nat → Nat → Option Int} {R : Nat → Int × Int} {C : Nat → Nat → Int} {i : Nat} (hn : n ≤ 60) (hm : m ≤ 60) (hb : b ≤ 1000) (hb1 : 1 ≤ b) (hG : GB b n G) (hC : CB b n m C) (hi : i < m + 1) : Zft [ZZ n G R, Zap n (ZcD C i), .lst (tab (m + 1) fun j => Zap n (ZcD C j))] = some (Zai (m + 1) fun j => rcG n G C i j) := by
 apply Pk.eq
 unfold Zft ZhF Zai
 walk_at "zz"
 refine Za8 (n := m + 1) (a := fun j => Zap n (ZcD C j)) (b := fun j => oT (rcG n G C i j)) (by omega) ?_ (fun j hj => ?_) rfl
 ·walk_at "zz"
  rfl
 ·walk_at "zz"
  refine ZO (Zoe (b := b) (by omega) hb1 (by omega) (hC.full j hj)) ?_
  walk_at "zz"
  exact ZO (Zoc (b := b + 1) (c := dC C i j) hn (by omega) (by omega) (fun a b ha hb y e => (hG a b ha hb y e).mono (by omega)) (hC.dif hi hj)) rfl
theorem Zpn {n m b : Nat} {G : Nat → Nat → Option Int} {R : Nat → Int × Int} {C : Nat → Nat → Int} {Q : T → Prop} (hn : n ≤ 60) (hm : m ≤ 60) (hb : b ≤ 1000) (hb1 : 1 ≤ b) (hG : GB b n G) (hR : ∀ t, t < n → RBd b (R t)) (ok : ∀ t, t < n → RestOk (R t)) (hC : CB b n m C) (h : Pk (Zd1 [ZZ m (rcG n G C) (rcR n R C)]) Q) : Pk (Zdq [ZZ n G R, ZgF n m C]) Q := by
 obtain ⟨t, et, qt⟩ := h
 refine ⟨t, ?_, qt⟩
 apply Pk.eq
 unfold Zdq Zjw
 have ht : ZZ n G R = .tup [.lst (tab (n + 1) fun i => .lst (tab (n + 1) fun j => oT (G i j))), .lst (tab n fun i => Z9 (R i))] := rfl
 have hc : cn (Zap n (unC 0)) (fun i => Zap n (C i)) = fun i => Zap n (ZcD C i) := by
  funext i
  cases i with
  | zero => rw [unC_0]; rfl
  | succ i => rfl
 have hs : ZgF n m C = .lst (tab m fun i => Zap n (C i)) := rfl
 rw [ht, hs]
 walk_at "zz"
 refine ZO (ZoI (i := 0) (n := n) (by omega)) ?_
 walk_at "zz"
 rw [hc]
 refine Za8 (n := m + 1) (a := fun j => Zap n (ZcD C j)) (b := fun i => Zai (m + 1) fun j => rcG n G C i j) (by omega) ?_ (fun j hj => ?_) ?_
 ·walk_at "zz"
  rfl
 ·walk_at "zz"
  rw [← ht]
  exact ZO (Znx (b := b) hn hm hb hb1 hG hC hj) rfl
 walk_at "zz"
 refine Za8 (n := m) (a := fun j => Zap n (C j)) (b := fun i => Z9 (rcR n R C i)) (by omega) ?_ (fun j hj => ?_) ?_
 ·walk_at "zz"
  rfl
 ·walk_at "zz"
  exact ZO (Zn7 (i := b) (by omega) hb1 hb (fun k hk => hC j hj k hk) hR ok) rfl
 walk_at "zz"
 exact ZO et rfl
theorem Zq1 {b n : Nat} {G : Nat → Nat → Option Int} {c : Nat → Int} (hG : GB b n G) (bc : ∀ i, i < n + 1 → Bd b (c i)) : ∀ y, grt n G c = some y → Bd (b + b + n + 1) y := fun y e => by
 unfold grt at e
 by_cases h : Df n c
 ·rw [ZaP h] at e
  obtain ⟨u, d, _, _, _, _, hu, hd, _, _, iu, id_, _, _⟩ := ZfY h
  rw [iu, id_] at e
  obtain ⟨p, q, h1, h2, rfl⟩ := addO_some.mp (show Zar (G u d) (some (c 0)) = some y from e)
  cases h2
  exact ((hG u d hu hd p h1).add (bc 0 (by omega))).mono (by omega)
 ·rw [Zbw h] at e
  exact (Zmi bc (ZmM hG) n (Nat.le_refl n) y e).mono (by omega)
theorem ZrT {b n m B : Nat} {G : Nat → Nat → Option Int} {C : Nat → Nat → Int} (hG : GB b n G) (hC : CB b n m C) (hB : b + b + n + 3 ≤ B) : SmG B m (rcG n G C) := fun i j hi hj y e => (Zq1 (b := b + 1) (fun u v hu hv z e => (hG u v hu hv z e).mono (by omega)) (hC.dif hi hj) y e).mono (by omega)
theorem ZmX {n m : Nat} {R : Nat → Int × Int} {C : Nat → Nat → Int} (ok : ∀ t, t < n → RestOk (R t)) : ∀ t, t < m → RestOk (rcR n R C t) := fun t _ => by
 unfold rcR
 rw [Zd2 ok n (Nat.le_refl n)]
 exact Zcw (ZeJ _ _ _) _
theorem ZrU {b n m B : Nat} {R : Nat → Int × Int} {C : Nat → Nat → Int} (ok : ∀ t, t < n → RestOk (R t)) (hR : ∀ t, t < n → RBd b (R t)) (hC : CB b n m C) (hB : b + b + n ≤ B) : SmR B m (rcR n R C) := fun t ht => by
 unfold rcR
 rw [Zd2 ok n (Nat.le_refl n)]
 exact Zje (ZeJ _ _ _) ((ZjY (fun k hk => hC t ht k hk) hR n (Nat.le_refl n)).mono (by omega)) ((Zme (fun k hk => hC t ht k hk) hR n (Nat.le_refl n)).mono (by omega))
theorem Zsl {c : Nat → Int} (h : ∀ k, c k = 0) : ∀ n, Zay c n = []
 | n => List.eq_nil_iff_forall_not_mem.mpr fun i hi => by have := (ups_mem.mp hi).2.2; rw [h] at this; omega
theorem ZmY {n : Nat} {G : Nat → Nat → Option Int} {c : Nat → Int} (h : ∀ k, c k = 0) : grt n G c = some 0 := by
 unfold grt
 have hd : ¬ Df n c := fun q => by have := (df_iff.mp q).1; rw [Zsl h] at this; cases this
 rw [Zbw hd]
 have : ∀ j, Zby c (S40 G) j = (some 0, some 0) := fun j => by
  induction j with
  | zero => show (some (c 0), some (c 0)) = _; rw [h]
  | succ j ih =>
   show ZgE (Zby c (S40 G) j) (ZbU (S40 G j) (c (j + 1))) = _
   rw [ih, h]
   rfl
 show (Zby c (S40 G) n).2 = some 0
 rw [this]
theorem Zm0 {n m : Nat} {G : Nat → Nat → Option Int} {C : Nat → Nat → Int} : ∀ i, i < m + 1 → rcG n G C i i = some 0 := fun i _ => ZmY fun k => by unfold dC; omega
theorem Zmk {c d x : Nat → Int} : ∀ n, ZaD (fun k => c k - d k) x n = ZaD c x n - ZaD d x n
 | 0 => rfl
 | n + 1 => by
  simp only [ZaD, Zmk n, Int.sub_mul]
  omega
theorem ZlO {x : Nat → Int} : ∀ n, ZaD (fun _ => 0) x n = 0
 | 0 => rfl
 | n + 1 => by simp only [ZaD, ZlO n, Int.zero_mul]; omega
theorem ZlP {n : Nat} {C : Nat → Nat → Int} {x : Nat → Int} : ∀ i, ZaD (ZcD C i) x n = Zat (fun t => ZaD (C t) x n) i
 | 0 => ZlO n
 | i + 1 => rfl
theorem Zml {c : Nat → Int} {R : Nat → Int × Int} {x : Nat → Int} {n : Nat} (ok : ∀ t, t < n → RestOk (R t)) (h : ∀ t, t < n → Zaq (R t) (x t)) : ∀ j, j ≤ n → ZbE c R j ∣ ZaD c x j - ZbQ c R j
 | 0, _ => by show (0 : Int) ∣ c 0 - c 0; rw [Int.sub_self]; exact Int.dvd_zero _
 | j + 1, hj => by
  have h1 : ZbE c R (j + 1) ∣ ZbE c R j := Int.gcd_dvd_left ..
  have h2 : ZbE c R (j + 1) ∣ c (j + 1) * (R j).1 := Int.gcd_dvd_right ..
  obtain ⟨z, hz⟩ := (Zbj (ok j (by omega)).nn (x j)).mp (h j (by omega))
  have h3 := Int.dvd_add (Int.dvd_trans h1 (Zml ok h j (by omega))) (Int.dvd_trans h2 (Int.dvd_mul_right _ z))
  rw [show ZaD c x (j + 1) = ZaD c x j + c (j + 1) * x j from rfl, show ZbQ c R (j + 1) = ZbQ c R j + c (j + 1) * (R j).2 from rfl, show x j = (R j).2 + (R j).1 * z by omega, Int.mul_add, ← Int.mul_assoc]
  generalize c (j + 1) * (R j).1 * z = u at *
  generalize c (j + 1) * (R j).2 = v at *
  rwa [show ZaD c x j + (v + u) - (ZbQ c R j + v) = ZaD c x j - ZbQ c R j + u by omega]
theorem Zq2 {n m : Nat} {G : Nat → Nat → Option Int} {R : Nat → Int × Int} {C : Nat → Nat → Int} {x : Nat → Int} (ok : ∀ t, t < n → RestOk (R t)) (h : Za0 n G R x) : Za0 m (rcG n G C) (rcR n R C) fun t => ZaD (C t) x n := by
 refine ⟨fun i j hi hj b e => ?_, fun t ht => ?_⟩
 ·rw [← ZlP, ← ZlP, ← Zmk]
  exact ZrS h e
 ·unfold rcR
  rw [Zd2 ok n (Nat.le_refl n)]
  exact (ZcJ (ZeJ _ _ _) _).mpr (Zml ok h.2 n (Nat.le_refl n))
end L
namespace L
open PySem PySem.W PyProof.Rows PM TM My
theorem Zll {ns : List Int} {n : Nat} {kk : Int} {w at_ m K lo K' : Int} {c : Nat → Int} {σ : TL} {Q : T → Prop} {N : TL → Prop} (hk0 : 0 ≤ kk) (hk9 : kk ≤ 1000) (hm : 0 < m) (hn : n ≤ 9) (hK : K ≤ K') (hlo : -K' ≤ -lo) (hhi : m - 1 - lo ≤ K') (e0 : σ 0 = some (scr ns)) (e1 : σ 1 = some (.int kk)) (e2 : σ 2 = some (.int n)) (e4 : σ 4 = some (.int w)) (e5 : σ 5 = some (.int (1 + at_))) (e3 : σ 3 = some (.lst (tab (n + 1) fun i => .int (c i)))) (bc : SumB n c K) (h : ∀ σ' c', σ' 0 = some (scr ns) → σ' 1 = some (.int kk) → σ' 2 = some (.int n) → σ' 4 = some (.int w) → σ' 5 = some (.int (1 + at_)) → σ' 3 = some (.lst (tab (n + 1) fun i => .int (c' i))) → SumB n c' K' → N σ') (pm plo : PE) (epm : ∀ σ, pm σ = some (.int m)) (eplo : ∀ σ, plo σ = some (.int lo)) : Psk (ZaV (Zax (Zf (Za 2) Zn)) (Zac 7) (Zce 3 [] (Zd Za3 (Zv Zbq (Zf (Za 0) (Zf (Zd Zad (Zd Zad (Za 1) (Zk 1)) (Za 7)) (Zf pm Zn)))) plo) Zbc (Zd Zad (Za 7) (Zk 1))) σ) Q N := by
 refine ZbX (n := n) (a := fun i => .int i) (P := fun _ σ' => σ' 0 = some (scr ns) ∧ σ' 1 = some (.int kk) ∧ σ' 2 = some (.int n) ∧ σ' 4 = some (.int w) ∧ σ' 5 = some (.int (1 + at_)) ∧ ∃ c', σ' 3 = some (.lst (tab (n + 1) fun i => .int (c' i))) ∧ SumB n c' K') ?_ ⟨e0, e1, e2, e4, e5, c, e3, bc.mono hK⟩ ?_ ?_
 ·walk_at "zz"
  rfl
 ·rintro i σ' hi ⟨f0, f1, f2, f4, f5, c', f3, bc'⟩
  obtain ⟨k0, k1⟩ := Zci ns (kk + 1 + (i : Int)) hm
  walk_at "zz"
  refine ⟨_, epm _, ?_⟩
  walk_at "zz"
  refine ZO (Zcn (by omega) (by omega) hm) ?_
  refine ⟨_, eplo _, ?_⟩
  walk_at "zz"
  refine Zgj (n := n) (c := c') (K := K') (K' := K') (by walk_at "zr") (by omega) (by omega) bc' (Int.le_refl _) (by omega) (by omega) fun c2 bc2 => ?_
  exact ⟨by walk_at "zr", by walk_at "zr", by walk_at "zr", by walk_at "zr", by walk_at "zr", c2, Zch, bc2⟩
 ·rintro σ' ⟨f0, f1, f2, f4, f5, c', f3, bc'⟩
  exact h σ' c' f0 f1 f2 f4 f5 f3 bc'
theorem Zsm {ns : List Int} {n : Nat} {kk : Int} (hk0 : 0 ≤ kk) (hk9 : kk ≤ 1000) (hL : Lay ns) (hn : n ≤ 9) : Pk (ZfU [scr ns, .int kk, .int n]) fun t => ∃ c, t = Zap n c ∧ SumB n c 1000000000 := by
 unfold ZfU Zja
 have bn : Bd 140 (Zb4 ns kk) := ZbR (ZjW ns kk) (by decide)
 obtain ⟨p0, p1⟩ := Zci ns kk (show (0 : Int) < 6 by decide)
 refine Zmw rfl ?_
 refine ZcL (fun σ' => σ' 0 = some (scr ns) ∧ σ' 1 = some (.int kk) ∧ σ' 2 = some (.int n) ∧ ∃ c, σ' 3 = some (.lst (tab (n + 1) fun i => .int (c i))) ∧ SumB n c 0) ?_ ?_
 ·walk_at "zz"
  refine ZO (ZfW hL (by omega) (by omega)) ?_
  walk_at "zz"
  refine Zmh (by omega) ?_
  refine Zl2 (by omega) ?_
  rw [show cn (T.int (Zb4 ns kk)) (fun _ => T.int 0) = fun i => T.int (cn (Zb4 ns kk) (fun _ => 0) i) from by funext i; cases i <;> rfl]
  refine ⟨Zio fun _ _ => rfl, ?_⟩
  refine ⟨rfl, rfl, rfl, _, Zch, bn, fun i h1 h2 => ?_⟩
  cases i with
  | zero => omega
  | succ i => exact ⟨Int.le_refl 0, Int.le_refl 0⟩
 rintro σ1 ⟨e0, e1, e2, c, e3, bc⟩
 walk_at "zz"
 refine ZO (Zcn (by omega) (by omega) (by decide)) ?_
 by_cases hz : Zbd ns kk 6 = 0 ∨ n = 0
 ·rcases hz with hz | hz
  ·walk_at "zz"
   exact ⟨c, rfl, bc.mono (by decide)⟩
  ·by_cases q : Zbd ns kk 6 = 0
   ·walk_at "zz"
    exact ⟨c, rfl, bc.mono (by decide)⟩
   ·have : (n : Int) = 0 := by omega
    walk_at "zz"
    exact ⟨c, rfl, bc.mono (by decide)⟩
 have hz1 : Zbd ns kk 6 ≠ 0 := fun q => hz (.inl q)
 have hn0 : (n : Int) ≠ 0 := fun q => hz (.inr (by omega))
 obtain ⟨a0, a1⟩ := Zci ns (kk + 1) (show (0 : Int) < n by omega)
 walk_at "zz"
 refine ZO (Zcn (by omega) (by omega) (by omega)) ?_
 refine Zmx ?_
 generalize Zbd ns kk 6 = w at *
 generalize Zbd ns (kk + 1) n = at_ at *
 let M : Int → TL → Prop := fun K σ' => σ' 0 = some (scr ns) ∧ σ' 1 = some (.int kk) ∧ σ' 2 = some (.int n) ∧ σ' 4 = some (.int w) ∧ σ' 5 = some (.int (1 + at_)) ∧ ∃ c, σ' 3 = some (.lst (tab (n + 1) fun i => .int (c i))) ∧ SumB n c K
 refine ZcL (M 6) ?_ ?_
 ·walk_at "zz"
  refine ⟨fun q => ?_, fun q => ?_⟩
  ·obtain ⟨k0, k1⟩ := Zci ns (kk + 2) (show (0 : Int) < 13 by decide)
   walk_at "zz"
   refine ZO (Zcn (by omega) (by omega) (by decide)) ?_
   walk_at "zz"
   refine Zgj (n := n) (c := c) (K := 0) (K' := 6) (by walk_at "zr") (by omega) (by omega) bc (by decide) (by omega) (by omega) fun c' bc' => ?_
   exact ⟨by walk_at "zr", by walk_at "zr", by walk_at "zr", by walk_at "zr", by walk_at "zr", c', Zch, bc'⟩
  ·walk_at "zz"
   exact ⟨by walk_at "zr", by walk_at "zr", by walk_at "zr", by walk_at "zr", by walk_at "zr", c, by walk_at "zr", bc.mono (by decide)⟩
 clear bc e3 c
 rintro σ2 ⟨f0, f1, f2, f4, f5, c1, f3, bc1⟩
 refine ZcL (M 7) ?_ ?_
 ·have go : Psk ((Zu (ZP 6 (Zd Zad (Zk 1) (Zv Zbq (Zf (Za 0) (Zf (Zd Zad (Za 1) (Zk 2)) (Zf (Za 2) Zn)))))) (Zu (Zce 3 [] (Zk 1) Zbc (Za 5)) (Zce 3 [] (Zd Za3 (Zd Zs (Za 3) (Za 6)) (Zk 1)) Zbc (Za 6)))) σ2) (fun t => ∃ c, t = Zap n c ∧ SumB n c 1000000000) (M 7) := by
   obtain ⟨k0, k1⟩ := Zci ns (kk + 2) (show (0 : Int) < n by omega)
   walk_at "zz"
   refine ZO (Zcn (by omega) (by omega) (by omega)) ?_
   generalize Zbd ns (kk + 2) n = to_ at *
   walk_at "zz"
   refine Zgj (n := n) (c := c1) (K := 6) (K' := 6) (by walk_at "zr") (by omega) (by omega) bc1 (by decide) (by decide) (by decide) fun c' bc' => ?_
   have hto := bc'.2 (1 + to_).toNat (by omega) (by omega)
   walk_at "zz"
   refine Zgj (n := n) (c := c') (K := 6) (K' := 7) (by walk_at "zr") (by omega) (by omega) bc' (by decide) (by omega) (by omega) fun c2 bc2 => ?_
   exact ⟨by walk_at "zr", by walk_at "zr", by walk_at "zr", by walk_at "zr", by walk_at "zr", c2, Zch, bc2⟩
  have no : M 7 σ2 := ⟨f0, f1, f2, f4, f5, c1, f3, bc1.mono (by decide)⟩
  by_cases q2 : w = 2
  ·refine Zj9 ?_
   refine ⟨true, ?_, fun _ => go, fun e => by cases e⟩
   simp [bOr, ZI, Zd, Za, f4, Zk, qEq, Zgc, Zbl, q2]
  ·by_cases q3 : w = 3
   ·refine Zj9 ?_
    refine ⟨true, ?_, fun _ => go, fun e => by cases e⟩
    simp [bOr, ZI, Zd, Za, f4, Zk, qEq, Zgc, Zbl, q3]
   ·walk_at "zz"
    exact no
 clear bc1 f3 c1
 clear f0 f1 f2 f4 f5
 rintro σ3 ⟨f0, f1, f2, f4, f5, c1, f3, bc1⟩
 refine ZcL (M 7) ?_ ?_
 ·walk_at "zz"
  refine ⟨fun q => ?_, fun q => ?_⟩
  ·exact Zll hk0 hk9 (m := 7) (lo := 3) (K := 7) (K' := 7) (by decide) hn (by decide) (by decide) (by decide) f0 f1 f2 f4 f5 f3 bc1 (fun σ' c' g0 g1 g2 g4 g5 g3 bc' => ⟨g0, g1, g2, g4, g5, c', g3, bc'⟩) _ _ (fun _ => rfl) (fun _ => rfl)
  ·walk_at "zz"
   exact ⟨f0, f1, f2, f4, f5, c1, f3, bc1⟩
 clear bc1 f3 c1
 clear f0 f1 f2 f4 f5
 rintro σ4 ⟨f0, f1, f2, f4, f5, c1, f3, bc1⟩
 refine ZcL (M 1000000000) ?_ ?_
 ·walk_at "zz"
  refine ⟨fun q => ?_, fun q => ?_⟩
  ·exact Zll hk0 hk9 (m := 2000000001) (lo := 1000000000) (K := 7) (K' := 1000000000) (by decide) hn (by decide) (by decide) (by decide) f0 f1 f2 f4 f5 f3 bc1 (fun σ' c' g0 g1 g2 g4 g5 g3 bc' => ⟨g0, g1, g2, g4, g5, c', g3, bc'⟩) _ _ (fun _ => rfl) (fun _ => rfl)
  ·walk_at "zz"
   exact ⟨f0, f1, f2, f4, f5, c1, f3, bc1.mono (by decide)⟩
 rintro σ5 ⟨g0, g1, g2, g4, g5, c2, g3, bc2⟩
 walk_at "zz"
 exact ⟨c2, rfl, bc2⟩
end L
namespace L
open PySem PySem.W PyProof.Rows PM TM My
theorem ZlQ {c : Nat → Int} : ∀ {n : Nat}, (∀ i, 1 ≤ i → i ≤ n → ¬ 0 < c i) → Zay c n = []
 | n, h => List.eq_nil_iff_forall_not_mem.mpr fun i hi => h i (ups_mem.mp hi).1 (ups_mem.mp hi).2.1 (ups_mem.mp hi).2.2
theorem ZlR {c : Nat → Int} : ∀ {n : Nat}, (∀ i, 1 ≤ i → i ≤ n → ¬ c i < 0) → ZaC c n = []
 | n, h => List.eq_nil_iff_forall_not_mem.mpr fun i hi => h i (dns_mem.mp hi).1 (dns_mem.mp hi).2.1 (dns_mem.mp hi).2.2
theorem Zmm {c : Nat → Int} {a : Nat} : ∀ {n : Nat}, (∀ i, 1 ≤ i → i ≤ n → (0 < c i ↔ i = a)) → 1 ≤ a → a ≤ n → Zay c n = [a]
 | 0, _, h1, h2 => by omega
 | n + 1, h, h1, h2 => by
  have hn := h (n + 1) (by omega) (by omega)
  show Zay c n ++ (if 0 < c (n + 1) then [n + 1] else []) = [a]
  by_cases q : n + 1 = a
  ·rw [if_pos (hn.mpr q), ZlQ (fun i g1 g2 g => by have := (h i g1 (by omega)).mp g; omega), q]; rfl
  ·rw [if_neg (fun g => q (hn.mp g)), Zmm (fun i g1 g2 => h i g1 (by omega)) h1 (by omega)]; rfl
theorem Zmn {c : Nat → Int} {a : Nat} : ∀ {n : Nat}, (∀ i, 1 ≤ i → i ≤ n → (c i < 0 ↔ i = a)) → 1 ≤ a → a ≤ n → ZaC c n = [a]
 | 0, _, h1, h2 => by omega
 | n + 1, h, h1, h2 => by
  have hn := h (n + 1) (by omega) (by omega)
  show ZaC c n ++ (if c (n + 1) < 0 then [n + 1] else []) = [a]
  by_cases q : n + 1 = a
  ·rw [if_pos (hn.mpr q), ZlR (fun i g1 g2 g => by have := (h i g1 (by omega)).mp g; omega), q]; rfl
  ·rw [if_neg (fun g => q (hn.mp g)), Zmn (fun i g1 g2 => h i g1 (by omega)) h1 (by omega)]; rfl
theorem Zdv {a : Nat} (h : 1 ≤ a) : unC a a = 1 := by unfold unC; rw [if_pos ⟨by omega, rfl⟩]
theorem ZcR {a k : Nat} (h : k ≠ a) : unC a k = 0 := by unfold unC; rw [if_neg (fun q => h q.2)]
theorem ZoJ {n i : Nat} (hn : n ≤ 60) (h1 : 1 ≤ i) (h2 : i ≤ n) : Zek [.int i, .int n] = some (Zap n (unC i)) := by
 apply Pk.eq
 unfold Zek Zhs
 walk_at "zz"
 rw [show (n : Int) + 1 = ((n + 1 : Nat) : Int) by omega]
 refine Zmh (by omega) ?_
 refine ⟨Zio fun _ _ => rfl, ?_⟩
 walk_at "zz"
 show T.lst _ = T.lst _
 congr 1
 refine ZdW fun k _ => ?_
 by_cases q : k = i
 ·rw [if_pos q, q, Zdv h1]
 ·rw [if_neg q, ZcR q]
theorem ZrV {n a b : Nat} {G : Nat → Nat → Option Int} (ha : a < n + 1) (hb : b < n + 1) (hd : ∀ i, i < n + 1 → G i i = some 0) : grt n G (fun k => unC a k - unC b k) = G a b := by
 by_cases hab : a = b
 ·subst hab
  rw [ZmY (fun k => by omega), hd a ha]
 have c0 : (fun k => unC a k - unC b k) 0 = 0 := by
  show unC a 0 - unC b 0 = 0
  unfold unC
  rw [if_neg (by omega), if_neg (by omega)]; rfl
 generalize hc : (fun k => unC a k - unC b k) = c at *
 have hk : ∀ k, c k = unC a k - unC b k := fun k => by rw [← hc]
 have hu : ∀ k, (unC a k = 1 ∧ 1 ≤ a ∧ k = a) ∨ (unC a k = 0 ∧ (a = 0 ∨ k ≠ a)) := fun k => by
  unfold unC
  split
  ·rename_i q; exact .inl ⟨rfl, q.1, q.2⟩
  ·rename_i q; exact .inr ⟨rfl, by omega⟩
 have hv : ∀ k, (unC b k = 1 ∧ 1 ≤ b ∧ k = b) ∨ (unC b k = 0 ∧ (b = 0 ∨ k ≠ b)) := fun k => by
  unfold unC
  split
  ·rename_i q; exact .inl ⟨rfl, q.1, q.2⟩
  ·rename_i q; exact .inr ⟨rfl, by omega⟩
 have up : 1 ≤ a → Zay c n = [a] := fun h1 => Zmm (fun i g1 g2 => by rw [hk]; have := hu i; have := hv i; omega) h1 (by omega)
 have up0 : a = 0 → Zay c n = [] := fun h1 => ZlQ fun i g1 g2 => by rw [hk]; have := hu i; have := hv i; omega
 have dn : 1 ≤ b → ZaC c n = [b] := fun h1 => Zmn (fun i g1 g2 => by rw [hk]; have := hu i; have := hv i; omega) h1 (by omega)
 have dn0 : b = 0 → ZaC c n = [] := fun h1 => ZlR fun i g1 g2 => by rw [hk]; have := hu i; have := hv i; omega
 unfold grt
 by_cases h : 1 ≤ a ∧ 1 ≤ b
 ·have ca : c a = 1 := by rw [hk, Zdv h.1, ZcR (by omega)]; rfl
  have cb : c b = -1 := by rw [hk, Zdv h.2, ZcR (by omega)]; rfl
  have hD : Df n c := df_iff.mpr ⟨by rw [up h.1, List.map_cons, ca]; rfl, by rw [dn h.2, List.map_cons, cb]; rfl⟩
  rw [ZaP hD]
  obtain ⟨u, d, e1, e2, _, _, _, _, _, _, i1, i2, _, _⟩ := ZfY hD
  rw [up h.1] at e1
  rw [dn h.2] at e2
  cases e1; cases e2
  show Zar (G (1 + (xsI n c).idxOf 1) (1 + (xsI n c).idxOf (-1))) (some (c 0)) = _
  rw [i1, i2, c0]
  cases G a b with
  | none => rfl
  | some y => show some (y + 0) = some y; rw [Int.add_zero]
 ·have hD : ¬ Df n c := fun q => by
   obtain ⟨h1, h2⟩ := df_iff.mp q
   by_cases g : 1 ≤ a
   ·rw [dn0 (by omega)] at h2; cases h2
   ·rw [up0 (by omega)] at h1; cases h1
  rw [Zbw hD]
  show (Zby c (S40 G) n).2 = _
  obtain ⟨t1, t2⟩ := tot (G := G) (c := c) n
  by_cases g : 1 ≤ a
  ·have hb0 : b = 0 := by omega
   have ca : c a = 1 := by rw [hk, Zdv g, ZcR (by omega)]; rfl
   subst hb0
   cases e : G a 0 with
   | none => exact t1 (.inl ⟨a, by rw [up g]; exact List.mem_singleton.mpr rfl, e⟩)
   | some y =>
    rw [t2 (fun q => by
     rcases q with ⟨i, hi, q⟩ | ⟨i, hi, q⟩
     ·rw [up g] at hi; rw [List.mem_singleton.mp hi, e] at q; cases q
     ·rw [dn0 rfl] at hi; cases hi), up g, dn0 rfl, c0]
    simp [sU, sD, ca, e]
  ·have ha0 : a = 0 := by omega
   have hb1 : 1 ≤ b := by omega
   have cb : c b = -1 := by rw [hk, Zdv hb1, ZcR (by omega)]; rfl
   subst ha0
   cases e : G 0 b with
   | none => exact t1 (.inr ⟨b, by rw [dn hb1]; exact List.mem_singleton.mpr rfl, e⟩)
   | some y =>
    rw [t2 (fun q => by
     rcases q with ⟨i, hi, q⟩ | ⟨i, hi, q⟩
     ·rw [up0 rfl] at hi; cases hi
     ·rw [dn hb1] at hi; rw [List.mem_singleton.mp hi, e] at q; cases q), up0 rfl, dn hb1, c0]
    simp [sU, sD, cb, e]
theorem Zkj {a : Nat} {R : Nat → Int × Int} (h1 : 1 ≤ a) (nn : 0 ≤ (R (a - 1)).1) : ∀ j, ZbE (unC a) R j = (if a ≤ j then (R (a - 1)).1 else 0) ∧ ZbQ (unC a) R j = if a ≤ j then (R (a - 1)).2 else 0
 | 0 => by
  rw [if_neg (by omega), if_neg (by omega)]
  exact ⟨rfl, ZcR (by omega)⟩
 | j + 1 => by
  obtain ⟨i1, i2⟩ := Zkj h1 nn j
  show ((Int.gcd (ZbE (unC a) R j) (unC a (j + 1) * (R j).1) : Nat) : Int) = _ ∧ ZbQ (unC a) R j + unC a (j + 1) * (R j).2 = _
  rw [i1, i2]
  by_cases q : j + 1 = a
  ·subst q
   rw [Zdv h1, if_neg (by omega), if_pos (by omega), if_neg (by omega), if_pos (by omega), Nat.add_sub_cancel]
   rw [Nat.add_sub_cancel] at nn
   constructor
   ·rw [Int.one_mul, Int.gcd_zero_left]; omega
   ·omega
  ·rw [ZcR q, Int.zero_mul, Int.zero_mul, Int.gcd_zero_right]
   by_cases g : a ≤ j
   ·rw [if_pos g, if_pos (by omega), if_pos g, if_pos (by omega)]
    exact ⟨by omega, by omega⟩
   ·rw [if_neg g, if_neg (by omega), if_neg g, if_neg (by omega)]
    exact ⟨rfl, rfl⟩
theorem Zq3 {a n : Nat} {R : Nat → Int × Int} (ok : ∀ t, t < n → RestOk (R t)) (h1 : 1 ≤ a) (h2 : a ≤ n) : Zdk (unC a) R n = R (a - 1) := by
 have oa := ok (a - 1) (by omega)
 rw [Zd2 ok n (Nat.le_refl n), (Zkj h1 oa.nn n).1, (Zkj h1 oa.nn n).2, if_pos h2, if_pos h2]
 exact ZkM (Zcw oa.nn _) oa fun x => by rw [ZcJ oa.nn, Zbj oa.nn]
noncomputable def fO (o : Nat → Nat) : Nat → Nat
 | 0 => 0
 | t + 1 => o t
noncomputable def trG (G : Nat → Nat → Option Int) (o : Nat → Nat) (i j : Nat) : Option Int := G (fO o i) (fO o j)
noncomputable def trR (R : Nat → Int × Int) (o : Nat → Nat) (t : Nat) : Int × Int := R (o t - 1)
noncomputable def Ord (n m : Nat) (o : Nat → Nat) : Prop := ∀ t, t < m → 1 ≤ o t ∧ o t ≤ n
theorem Ord.lt {n m : Nat} {o : Nat → Nat} (h : Ord n m o) : ∀ i, i < m + 1 → fO o i < n + 1
 | 0, _ => by show 0 < n + 1; omega
 | t + 1, ht => by have := h t (by omega); show o t < n + 1; omega
theorem Zmo {o : Nat → Nat} : ∀ i, ZcD (fun t => unC (o t)) i = unC (fO o i)
 | 0 => unC_0.symm
 | t + 1 => rfl
theorem Zsn {n m : Nat} {G : Nat → Nat → Option Int} {o : Nat → Nat} (hd : ∀ i, i < n + 1 → G i i = some 0) (ho : Ord n m o) : ∀ i j, i < m + 1 → j < m + 1 → rcG n G (fun t => unC (o t)) i j = trG G o i j := fun i j hi hj => by
 unfold rcG dC trG
 rw [Zmo, Zmo]
 exact ZrV (ho.lt i hi) (ho.lt j hj) hd
theorem ZrW {n m : Nat} {R : Nat → Int × Int} {o : Nat → Nat} (ok : ∀ t, t < n → RestOk (R t)) (ho : Ord n m o) : ∀ t, t < m → rcR n R (fun t => unC (o t)) t = trR R o t := fun t ht => Zq3 ok (ho t ht).1 (ho t ht).2
theorem Zpo {n m : Nat} {G : Nat → Nat → Option Int} {R : Nat → Int × Int} {o : Nat → Nat} (hn : n ≤ 60) (hm : m ≤ 60) (ho : Ord n m o) : Zen [ZZ n G R, .lst (tab m fun t => .int (o t))] = some (ZZ m (trG G o) (trR R o)) := by
 apply Pk.eq
 unfold Zen ZhI
 have ht : ZZ n G R = .tup [.lst (tab (n + 1) fun i => .lst (tab (n + 1) fun j => oT (G i j))), .lst (tab n fun i => Z9 (R i))] := rfl
 have hc : cn (T.int 0) (fun t => T.int ((o t : Nat) : Int)) = fun i => T.int ((fO o i : Nat) : Int) := by funext i; cases i <;> rfl
 walk_at "zz"
 rw [hc]
 refine ZbX (n := m + 1) (a := fun i => .int (fO o i : Nat)) (P := fun i σ => σ 0 = some (ZZ n G R) ∧ σ 1 = some (.lst (tab m fun t => .int (o t : Nat))) ∧ σ 2 = some (.lst (tab (m + 1) fun i => .int (fO o i : Nat))) ∧ σ 3 = some (.lst (tab i fun i => Zai (m + 1) (trG G o i)))) ?_ ⟨by walk_at "zr", by walk_at "zr", by walk_at "zr", by walk_at "zr"⟩ ?_ ?_
 ·walk_at "zz"
  rfl
 ·rintro i σ hi ⟨e0, e1, e2, e3⟩
  have li := ho.lt i hi
  walk_at "zz"
  refine Za8 (n := m + 1) (a := fun j => .int (fO o j : Nat)) (b := fun j => oT (trG G o i j)) (by omega) ?_ (fun j hj => ?_) ?_
  ·walk_at "zz"
   rfl
  ·have lj := ho.lt j hj
   rw [ht] at e0
   walk_at "zz"
   rfl
  walk_at "zz"
  rw [show tab i (fun i => Zai (m + 1) (trG G o i)) ++ [T.lst (tab (m + 1) fun j => oT (trG G o i j))] = tab (i + 1) fun i => Zai (m + 1) (trG G o i) from Zc1 (f := fun i => Zai (m + 1) (trG G o i))]
  exact ⟨by walk_at "zr", by walk_at "zr", by walk_at "zr", by walk_at "zr"⟩
 ·rintro σ ⟨e0, e1, e2, e3⟩
  walk_at "zz"
  refine Za8 (n := m) (a := fun t => .int (o t : Nat)) (b := fun t => Z9 (trR R o t)) (by omega) ?_ (fun t ht' => ?_) ?_
  ·walk_at "zz"
   rfl
  ·have lt := ho t ht'
   rw [ht] at e0
   walk_at "zz"
   unfold trR
   rw [show ((o t : Int) - 1).toNat = o t - 1 by omega]
  walk_at "zz"
  rfl
end L
namespace L
open PySem PySem.W PyProof.Rows PM TM My
theorem ZrX {p q : Int × Int} (hp : RestOk p) (hq : RestOk q) (h : ∀ x, Zaq p x → Zaq q x) : RIn p q := by
 have e : ∀ x, p.1 ∣ x - p.2 → q.1 ∣ x - q.2 := fun x hx => (Zbj hq.nn x).mp (h x ((Zbj hp.nn x).mpr hx))
 have a1 : q.1 ∣ p.2 - q.2 := e p.2 (by simp)
 have a2 : q.1 ∣ p.2 + p.1 - q.2 := e (p.2 + p.1) (by rw [show p.2 + p.1 - p.2 = p.1 by omega]; exact Int.dvd_refl _)
 have c1 : q.1 ∣ p.1 := by have := Int.dvd_sub a2 a1; rwa [show p.2 + p.1 - q.2 - (p.2 - q.2) = p.1 by omega] at this
 unfold RIn
 split
 ·rename_i z
  rw [z, Int.zero_dvd] at a1 c1
  exact Prod.ext (by rw [c1, z]) (by omega)
 ·exact ⟨Int.emod_eq_zero_of_dvd c1, Int.emod_eq_zero_of_dvd a1⟩
theorem ZnQ {n k : Nat} {G G2 : Nat → Nat → Option Int} {R R2 : Nat → Int × Int} {M : Int} (hR : ∀ t, t < n → RestOk (R t)) (s : Sharp n G R G2 R2 M k) : Zkg n G2 R2 G R := by
 obtain ⟨R1, h1, h2, h3, h4, rfl, h6⟩ := s.go
 refine ⟨fun i hi j hj => ?_, fun t ht => ?_⟩
 ·refine Zdo (ZgD (n + 1) i j) (Zdo (ZqW fun b e q => h3 ⟨i, j, hi, hj, b, e, q⟩) (ZgD (n + 1) i j))
 ·refine ZrX (h6 t ht).1.1 (hR t ht) fun x hx => ?_
  have a := ((h6 t ht).2 x).mp hx
  have b := ((h2 t ht).2 x).mp a.1
  exact b.1
end L
namespace L
open PySem PySem.W PyProof.Rows PM TM My
theorem ZmO {a : Nat} {x : Nat → Int} (h1 : 1 ≤ a) : ∀ n, ZaD (unC a) x n = if a ≤ n then x (a - 1) else 0
 | 0 => by rw [if_neg (by omega)]; exact ZcR (by omega)
 | n + 1 => by
  show ZaD (unC a) x n + unC a (n + 1) * x n = _
  rw [ZmO h1 n]
  by_cases q : n + 1 = a
  ·subst q
   rw [Zdv h1, if_neg (by omega), if_pos (by omega), Nat.add_sub_cancel]; omega
  ·rw [ZcR q, Int.zero_mul]
   by_cases g : a ≤ n
   ·rw [if_pos g, if_pos (by omega)]; omega
   ·rw [if_neg g, if_neg (by omega)]; rfl
theorem Zmp {n m : Nat} {C : Nat → Nat → Int} : Pln 2 (ZgF n m C) := .lst fun t h => by
 obtain ⟨i, hi, rfl⟩ := ZeG h
 have := ZjZ (tab (n + 1) (C i))
 rw [tab_map] at this
 exact this
theorem Zso {n m : Nat} {o : Nat → Nat} : CB 140 n m fun t => unC (o t) := fun i _ k _ => by
 show Bd 140 (unC (o i) k)
 unfold unC
 split
 ·exact Zfe (by decide)
 ·exact ZdK
theorem ZkP {n m : Nat} {G : Nat → Nat → Option Int} {R : Nat → Int × Int} {C : Nat → Nat → Int} {x : Nat → Int} {Q : T → Prop} (hn : n ≤ 6) (hm : m ≤ 20) (hG : GB 140 n G) (sR : SmR 140 n R) (ok : ∀ t, t < n → RestOk (R t)) (hC : CB 140 n m C) (li : Za0 n G R x) (h : ∀ G2 R2 M k, Sharp m (rcG n G C) (rcR n R C) G2 R2 M k → Za0 m G2 R2 (fun t => ZaD (C t) x n) → (∀ i, i < m + 1 → G2 i i = some 0) → (∀ t, t < m → RestOk (R2 t)) → Q (ZZ m G2 R2)) : Pk (Zdq [ZZ n G R, ZgF n m C]) Q := by
 have hR : ∀ t, t < n → RBd 140 (R t) := sR
 refine Zpn (b := 140) (by omega) (by omega) (by decide) (by decide) hG hR ok hC ?_
 have l1 := Zq2 (m := m) (C := C) ok li
 refine (Zoa (B := 290) hm (by decide) (by decide) Zm0 (ZmX ok) (ZrT hG hC (by omega)) (ZrU ok hR hC (by omega))).mono ?_
 rintro t (⟨G2, R2, rfl, s⟩ | ⟨rfl, f⟩)
 ·refine h G2 R2 _ _ s (ZoG l1 s) (ZoH Zm0 s).1 fun t ht => ?_
  obtain ⟨_, _, _, _, _, _, h6⟩ := s.go
  exact (h6 t ht).1.1
 ·exact absurd f (Zn9 l1)
theorem ZoK {ns : List Int} {n : Nat} {G : Nat → Nat → Option Int} {R : Nat → Int × Int} {x : Nat → Int} {σ : TL} {N : TL → Prop} (hL : Lay ns) (hn0 : 0 < n) (hn : n ≤ 4) (hG : GB 140 n G) (sR : SmR 140 n R) (hd : ∀ i, i < n + 1 → G i i = some 0) (ok : ∀ t, t < n → RestOk (R t)) (li : Za0 n G R x) (e0 : σ 0 = some (scr ns)) (e1 : σ 1 = some (.int n)) (e2 : σ 2 = some (.lst (tab n fun i => .int (x i)))) (e3 : σ 3 = some (ZZ n G R)) (e5 : σ 5 = some (ZZ n G R)) : Psk ((Zu (ZP 8 (Zv Zbq (Zf (Za 0) (Zf (Zk 6) (Zf (Za 1) Zn))))) (Zu (ZP 9 (Zah (Zax (Zf (Za 1) Zn)) (Zac 106) Zae (Zd Zad (Zk 1) (Zd ZaI (Zd Zad (Za 8) (Za 106)) (Za 1))))) (Zu (ZT (ZI (Zd qEq (Zv Zbq (Zf (Za 0) (Zf (Zk 0) (Zf (Zk 2) Zn)))) (Zk 1))) (ZP 9 (Zah (ZaY (Za 9)) (Zac 108) Zae (Zd Za3 (Zd Zad (Za 1) (Zk 1)) (Za 108)))) ZX) (Zu (ZP 7 (Zv Zdq (Zf (Za 3) (Zf (Zah (ZaY (Za 9)) (Zac 110) Zae (Zv Zek (Zf (Za 110) (Zf (Za 1) Zn)))) Zn)))) (Zu (ZT (bOr (Zbg (ZI (Zv ZdR (Zf (Za 7) (Zf (Za 1) Zn))))) (bOr (Zbg (ZI (Zv ZdT (Zf (Za 7) (Zf (Zah (ZaY (Za 9)) (Zac 114) Zae (Zd Zs (Za 2) (Zd Za3 (Za 114) (Zk 1)))) Zn))))) ZbJ)) (ZF (ZaO false)) ZX) (ZF ((ZcF (Zv Zel (Zf (Za 7) (Zf (Zv Zen (Zf (Za 3) (Zf (Za 9) Zn))) Zn))) (Zd qEq (Za 3) (Za 5)))))))))) σ) (fun t => t = .bool true) N := by
 have hne : (n : Int) ≠ 0 := by omega
 refine ZcL (fun σ' => σ' 0 = some (scr ns) ∧ σ' 1 = some (.int n) ∧ σ' 2 = some (.lst (tab n fun i => .int (x i))) ∧ σ' 3 = some (ZZ n G R) ∧ σ' 5 = some (ZZ n G R) ∧ ∃ u : Int, 0 ≤ u ∧ σ' 8 = some (.int u)) ?_ ?_
 ·obtain ⟨k0, k1⟩ := Zci ns 6 (show (0 : Int) < n by omega)
  walk_at "zz"
  refine ZO (Zcn (by decide) (by decide) (by omega)) ?_
  exact ⟨by walk_at "zr", by walk_at "zr", by walk_at "zr", by walk_at "zr", by walk_at "zr", _, k0, Zch⟩
 rintro σ1 ⟨f0, f1, f2, f3, f5, u, hu, f8⟩
 refine ZcL (fun σ' => σ' 0 = some (scr ns) ∧ σ' 1 = some (.int n) ∧ σ' 2 = some (.lst (tab n fun i => .int (x i))) ∧ σ' 3 = some (ZZ n G R) ∧ σ' 5 = some (ZZ n G R) ∧ ∃ o : Nat → Nat, Ord n n o ∧ σ' 9 = some (.lst (tab n fun t => .int (o t)))) ?_ ?_
 ·walk_at "zz"
  refine Za8 (n := n) (a := fun i => .int i) (b := fun t => .int ((1 + ((u + (t : Int)).fmod n).toNat : Nat) : Int)) (by omega) ?_ (fun t ht => ?_) ?_
  ·walk_at "zz"
   rfl
  ·have m0 := Int.fmod_nonneg_of_pos (u + (t : Int)) (show (0 : Int) < n by omega)
   walk_at "zz"
   rw [show 1 + (u + (t : Int)).fmod n = ((1 + ((u + (t : Int)).fmod n).toNat : Nat) : Int) by omega]
  ·refine ⟨by walk_at "zr", by walk_at "zr", by walk_at "zr", by walk_at "zr", by walk_at "zr", fun t => 1 + ((u + (t : Int)).fmod n).toNat, fun t ht => ?_, Zch⟩
   have m0 := Int.fmod_nonneg_of_pos (u + (t : Int)) (show (0 : Int) < n by omega)
   have m1 := Int.fmod_lt_of_pos (u + (t : Int)) (show (0 : Int) < n by omega)
   show 1 ≤ 1 + ((u + (t : Int)).fmod n).toNat ∧ 1 + ((u + (t : Int)).fmod n).toNat ≤ n
   omega
 clear f0 f1 f2 f3 f5 f8
 rintro σ2 ⟨f0, f1, f2, f3, f5, o1, ho1, f9⟩
 refine ZcL (fun σ' => σ' 1 = some (.int n) ∧ σ' 2 = some (.lst (tab n fun i => .int (x i))) ∧ σ' 3 = some (ZZ n G R) ∧ σ' 5 = some (ZZ n G R) ∧ ∃ o : Nat → Nat, Ord n n o ∧ σ' 9 = some (.lst (tab n fun t => .int (o t)))) ?_ ?_
 ·walk_at "zz"
  refine ZO (Zcn (by decide) (by decide) (by decide)) ?_
  walk_at "zz"
  refine ⟨fun q => ?_, fun q => ?_⟩
  ·walk_at "zz"
   refine Za8 (n := n) (a := fun t => .int (o1 t : Nat)) (b := fun t => .int ((n + 1 - o1 t : Nat) : Int)) (by omega) ?_ (fun t ht => ?_) ?_
   ·walk_at "zz"
    rfl
   ·have := ho1 t ht
    walk_at "zz"
    rw [show (n : Int) + 1 - (o1 t : Int) = ((n + 1 - o1 t : Nat) : Int) by omega]
   ·exact ⟨by walk_at "zr", by walk_at "zr", by walk_at "zr", by walk_at "zr", fun t => n + 1 - o1 t, fun t ht => by have := ho1 t ht; show 1 ≤ n + 1 - o1 t ∧ n + 1 - o1 t ≤ n; omega, Zch⟩
  ·walk_at "zz"
   exact ⟨f1, f2, f3, f5, o1, ho1, f9⟩
 clear f0 f1 f2 f3 f5 f9 ho1
 rintro σ3 ⟨f1, f2, f3, f5, o, ho, f9⟩
 walk_at "zz"
 refine Za8 (n := n) (a := fun t => .int (o t : Nat)) (b := fun t => Zap n (unC (o t))) (by omega) ?_ (fun t ht => ?_) ?_
 ·walk_at "zz"
  rfl
 ·have := ho t ht
  walk_at "zz"
  exact ZO (ZoJ (by omega) this.1 this.2) rfl
 walk_at "zz"
 refine ZkP (n := n) (m := n) (C := fun t => unC (o t)) (x := x) (by omega) (by omega) hG sR ok Zso li fun G3 R3 M k s l3 z3 ok3 => ?_
 have ins := ZnQ (ZmX ok) s
 have ins3 : Zkg n G3 R3 (trG G o) (trR R o) := ⟨fun i hi j hj => by rw [← Zsn hd ho i j hi hj]; exact ins.1 i hi j hj, fun t ht => by rw [← ZrW ok ho t ht]; exact ins.2 t ht⟩
 walk_at "zz"
 refine ZO (Zk4 (by omega) z3 ok3) ?_
 walk_at "zz"
 refine Za8 (n := n) (a := fun t => .int (o t : Nat)) (b := fun t => .int (ZaD (unC (o t)) x n)) (by omega) ?_ (fun t ht => ?_) ?_
 ·walk_at "zz"
  rfl
 ·have := ho t ht
  walk_at "zz"
  rw [show ((o t : Int) - 1).toNat = o t - 1 by omega, ZmO this.1, if_pos this.2]
 walk_at "zz"
 refine ZO (Zlj (x := fun t => ZaD (unC (o t)) x n) (by omega) l3 ok3) ?_
 walk_at "zz"
 refine ZO (Zpo (by omega) (by omega) ho) ?_
 walk_at "zz"
 refine ZO (Znv (by omega) (fun t ht => by have := ho t ht; exact ok (o t - 1) (by omega))) ?_
 rw [ZaP ins3]
 walk_at "zz"
 refine Zgn Zf0 Zf0 ?_
 rw [ZaP rfl]
theorem Zof {ns : List Int} (hL : Lay ns) : Zjz [scr ns] = some (.bool true) := by
 apply Pk.eq
 unfold Zjz Zjy
 obtain ⟨p0, p1⟩ := Zci ns 0 (show (0 : Int) < 9 by decide)
 obtain ⟨w, ew, hw⟩ := ZmF p0 (show Zbd ns 0 9 < (9 : Nat) by omega)
 walk_at "zz"
 refine ZO (Zcn (by decide) (by decide) (by decide)) ?_
 rw [ew]
 obtain ⟨n, hn, hidx⟩ : ∃ n : Nat, n ≤ 4 ∧ [T.int 0, .int 1, .int 2, .int 1, .int 2, .int 3, .int 2, .int 1, .int 4][w]? = some (.int n) := by
  match w, hw with
  | 0, _ => exact ⟨0, by decide, rfl⟩
  | 1, _ => exact ⟨1, by decide, rfl⟩
  | 2, _ => exact ⟨2, by decide, rfl⟩
  | 3, _ => exact ⟨1, by decide, rfl⟩
  | 4, _ => exact ⟨2, by decide, rfl⟩
  | 5, _ => exact ⟨3, by decide, rfl⟩
  | 6, _ => exact ⟨2, by decide, rfl⟩
  | 7, _ => exact ⟨1, by decide, rfl⟩
  | 8, _ => exact ⟨4, by decide, rfl⟩
 refine ZeF (t := .int n) (by omega) (by rw [Int.toNat_natCast]; exact hidx) ?_
 walk_at "zz"
 refine Za8 (n := n) (a := fun i => .int i) (b := fun i => .int (Zb4 ns (2 + i))) (by omega) ?_ (fun t ht => ?_) ?_
 ·walk_at "zz"
  rfl
 ·walk_at "zz"
  exact ZO (ZfW hL (by omega) (by omega)) rfl
 generalize hx : (fun i : Nat => Zb4 ns (2 + i)) = x
 have sx : ∀ i, i < n → (x i).natAbs < 2 ^ 134 := fun i _ => by rw [← hx]; exact ZjW ns _
 rw [show (fun i : Nat => T.int (Zb4 ns (2 + i))) = fun i => T.int (x i) by rw [← hx]]
 walk_at "zz"
 refine ZO (ZqN (x := x) hL (by decide) (by decide) (by omega)) ?_
 have gd := Zpe ns 33 n x
 have li := Zpd ns 33 n x
 have smG : SmG 136 n (Zbx ns 33 n x) := ZpZ sx
 have smR : SmR 136 n (ZdB ns 33 n x) := fun t ht => ⟨ZbR (ZlF (ns := ns) (k := 33) sx t ht).1 (by decide), ZbR (ZlF (ns := ns) (k := 33) sx t ht).2 (by decide)⟩
 generalize Zbx ns 33 n x = G at *
 generalize ZdB ns 33 n x = R at *
 have hG : GB 140 n G := fun i j hi hj y e => ZbR (smG i j hi hj y e) (by decide)
 have sR : SmR 140 n R := fun t ht => ⟨ZbR (smR t ht).1 (by decide), ZbR (smR t ht).2 (by decide)⟩
 have bx : ∀ i, i < n → Bd 140 (x i) := fun i hi => ZbR (sx i hi) (by decide)
 clear hidx ew hw p0 p1
 obtain ⟨q0, q1⟩ := Zci ns 1 (show (0 : Int) < 6 by decide)
 obtain ⟨v, ev, hv⟩ := ZmF q0 (show Zbd ns 1 6 < (6 : Nat) by omega)
 obtain ⟨m, hm, hidm⟩ : ∃ m : Nat, m ≤ 5 ∧ [T.int 0, .int 1, .int 2, .int 3, .int 2, .int 5][v]? = some (.int m) := by
  match v, hv with
  | 0, _ => exact ⟨0, by decide, rfl⟩
  | 1, _ => exact ⟨1, by decide, rfl⟩
  | 2, _ => exact ⟨2, by decide, rfl⟩
  | 3, _ => exact ⟨3, by decide, rfl⟩
  | 4, _ => exact ⟨2, by decide, rfl⟩
  | 5, _ => exact ⟨5, by decide, rfl⟩
 walk_at "zz"
 refine Zle (n := m) (a := fun i => .int i) (Zap n) (fun _ c => SumB n c 1000000000) (by omega) ?_ (fun t ht => ?_) (fun _ => 0) fun C hC => ?_
 ·walk_at "zz"
  refine ZO (Zcn (by decide) (by decide) (by decide)) ?_
  rw [ev]
  refine ZeF (t := .int m) (by omega) (by rw [Int.toNat_natCast]; exact hidm) ?_
  walk_at "zz"
  rfl
 ·walk_at "zz"
  refine ZcM (by omega) (by omega) ?_
  walk_at "zz"
  exact Zsm (by omega) (by omega) hL (by omega)
 have hCB : CB 140 n m C := fun i hi k hk => (hC i hi).bd (by decide) k hk
 refine ZcL (fun σ' => σ' 0 = some (scr ns) ∧ σ' 1 = some (.int n) ∧ σ' 2 = some (.lst (tab n fun i => .int (x i))) ∧ σ' 3 = some (ZZ n G R) ∧ σ' 4 = some (.lst (tab m fun i => Zap n (C i))) ∧ σ' 5 = some (ZZ n G R)) ?_ ?_
 ·walk_at "zz"
  refine ZO (ZqO (by omega)) ?_
  exact ⟨by walk_at "zr", by walk_at "zr", by walk_at "zr", by walk_at "zr", by walk_at "zr", Zch⟩
 rintro σ1 ⟨e0, e1, e2, e3, e4, e5⟩
 walk_at "zz"
 refine Za8 (n := m) (a := fun t => Zap n (C t)) (b := fun t => Zap n (C t)) (by omega) ?_ (fun t ht => ?_) ?_
 ·walk_at "zz"
  rfl
 ·unfold Zap
  walk_at "zz"
  rfl
 walk_at "zz"
 refine ZkP (n := n) (m := m) (C := C) (x := x) (by omega) (by omega) hG sR gd.2 hCB li fun G2 R2 M k s l2 z2 ok2 => ?_
 walk_at "zz"
 refine Zmz Zf0 Zf0 ?_
 rw [ZaP rfl]
 walk_at "zz"
 refine Zmz (Zmp (C := C) (n := n) (m := m)) (Zmp (C := C) (n := n) (m := m)) ?_
 rw [ZaP rfl]
 walk_at "zz"
 refine ZO (Zk4 (by omega) z2 ok2) ?_
 walk_at "zz"
 refine Za8 (n := m) (a := fun t => Zap n (C t)) (b := fun t => .int (ZaD (C t) x n)) (by omega) ?_ (fun t ht => ?_) ?_
 ·walk_at "zz"
  rfl
 ·walk_at "zz"
  exact ZO (Zp4 (b := 140) (by omega) (by decide) (fun k hk => hCB t ht k hk) bx) rfl
 walk_at "zz"
 refine ZO (Zlj (x := fun t => ZaD (C t) x n) (by omega) l2 ok2) ?_
 walk_at "zz"
 refine ⟨fun q => ?_, fun q => ?_⟩
 ·walk_at "zz"
  rfl
 ·have hn0 : 0 < n := by simp at q; omega
  walk_at "tk1"
  exact ZoK hL hn0 hn hG sR gd.1 gd.2 li (by walk_at "zr") (by walk_at "zr") (by walk_at "zr") (by walk_at "zr") (by walk_at "zr")
theorem ZnR {ns : List Int} (hlen : ns.length ≤ 63) (hL : PyData.layable0 (.list (ns.map .int)) = true) : ∃ H', ZlA [.ref 0] [ns.map V.int] = some (.bool true, H') := Zo3 ZpV ns (Zof hL)
end L
end
section
open PySem PySem.W PyProof.Rows
namespace PySem.W.Fast
def tw5105673956185107153:=0
def tw9296360433889664002:=0
def tw16968176118458789586:=0
def tw9497945907656264259:=0
def tw1176975735165151067:=0
def tw9515242367644423802:=0
def tw10426125643436316091:=0
def tw16920697182585239240:=0
def tw6397798872860733234:=0
def tw4621932581444047675:=0
def tw13402640891724300857:=0
def tw14869557710840242666:=0
def tw17643754061406199020:=0
def tw11187973929812520656:=0
def tw10667965978278278033:=0
def tw9601000219436670146:=0
def tw15452572443179084588:=0
def tw9156678896304099913:=0
def tw15886500619415505586:=0
def tw3520363519792060846:=0
def tw12048056826642495367:=0
def tw4419873286371483742:=0
def tw13436231055378572716:=0
def tw15221209806709932071:=0
def tw11930311979851757478:=0
def tw10209164474934016114:=0
def tw2257529940240947247:=0
def tw12533650973541477374:=0
def tw3101917741504857134:=0
def tw7523194637212750777:=0
def tw4361700775904427359:=0
def tw7498633149979677338:=0
def tw3092117133297227249:=0
def tw10299302589577801163:=0
def tw13840814423707232359:=0
def tw17624731456758155189:=0
def tw11519117686961666697:=0
def tw2947586027576077979:=0
def tw16932301668260661676:=0
def tw4157206338815638501:=0
def tw16915470645016011554:=0
def tw16472409268878238316:=0
def tw10700183255674453818:=0
def tw8164005668110941744:=0
def tw3764688243253525356:=0
def tw5681066748535004433:=0
def tw234749781942434899:=0
def tw529536973988259948:=0
def tw1906743188756502811:=0
def tw8426798971799828003:=0
def tw10335527622381539264:=0
def tw14501001857826371202:=0
def tw17925384258215065573:=0
def tw7328447075739424539:=0
def tw13517250619966689955:=0
def tw16131593051203169754:=0
def tw8933567498414919238:=0
def tw5623994078177797194:=0
def tw5312734613080425828:=0
def tw10155365746132046468:=0
def tw15703943229012101698:=0
def tw17849293660312457548:=0
def tw14613296582639449008:=0
def tw12018387782679925087:=0
def tw16745343075639119971:=0
def tw16749348522385944071:=0
def tw4235718262950952673:=0
def tw12996339429388188178:=0
def tw69414778264802052:=0
def tw16550838102048051623:=0
def tw7215932318001415403:=0
def tw12300527617525357084:=0
def tw16950569574821323974:=0
def tw3172541193896328996:=0
def tw16172578528114110199:=0
def tw1541540961381408409:=0
def tw8789256864460932259:=0
def tw15622835117965313283:=0
def tw5388663596951873645:=0
def tw11849525312028181438:=0
def tw10785849952161257653:=0
def tw15943592676296772274:=0
def tw7317576523658780031:=0
def tw8621301723031713458:=0
def tw17312996333117680517:=0
def tw4248988804066548162:=0
def tw12068798485007620914:=0
def tw7363425622247834253:=0
def tw12941643214049860704:=0
def tw8934421753687110507:=0
def tw13056512690104125533:=0
def tw3094701115853657799:=0
def tw4179031660912777645:=0
def tw305048472116853797:=0
def tw3857615796733700780:=0
def tw804092199982636349:=0
def tw15508019666092448443:=0
def tw13829591483307370896:=0
def tw17969941481158815411:=0
def tw16469568281967520401:=0
def tw15213048550514571353:=0
def tw17334881123488906936:=0
def tw4033379813872489195:=0
def tw14712817762504950641:=0
def tw8903238766108814736:=0
def tw539595736760451978:=0
def tw16149030986926176842:=0
def tw11622863634709415212:=0
def tw13478877428745155630:=0
def tw8436589768386056944:=0
def tw3103751414666246812:=0
def tw145712597652796589:=0
def tw10097012582147076362:=0
def tw17721039672839981703:=0
def tw112567504061534027:=0
def tw16333567060226556081:=0
def tw9192171586001469603:=0
def tw9455475090630465045:=0
def tw17004574920194074796:=0
def tw17845374550828520631:=0
def tw14439765378166140033:=0
def tw8454840944936950519:=0
def tw18221076124747093969:=0
def tw10752687858943698738:=0
def tw7470021291188754609:=0
def tw16629561534657121264:=0
def tw17601101962401091345:=0
def tw14864845329073380503:=0
def tw12059592832596718669:=0
def tw16118103595353321548:=0
def tw11712190458185945011:=0
def tw12976177241038019767:=0
def tw13231743877010270464:=0
def tw14566440943485919492:=0
def tw14374603453287560736:=0
def tw15069716523494295500:=0
def tw14678158920106854735:=0
def tw14790834132378566595:=0
def tw10188337973796604112:=0
def tw802917404587063742:=0
def tw12221415409051222339:=0
def tw14864208457647378226:=0
def tw6664951462986138201:=0
def tw3241244739717862871:=0
def tw15679247252792206210:=0
def tw8160871880118814707:=0
def tw7805864855692585105:=0
def tw15431134087688302020:=0
def tw9508736203920968164:=0
def tw6585068141940680455:=0
def tw11990459337992974956:=0
def tw5036445103931068615:=0
def tw11732214188671553305:=0
def tw13792483299354683862:=0
def tw4954584648838934644:=0
def tw6511239469406747073:=0
def tw6737687440995333003:=0
def tw11289143093466461953:=0
def tw13989995598129119793:=0
def tw1948689806639624469:=0
def tw2852278927748849453:=0
def tw5427499738942290107:=0
def tw10390157646234782899:=0
def tw10042499479572932358:=0
def tw6731276024794131016:=0
def tw17996964024917085871:=0
def tw3992908553847606798:=0
def tw7042659310547366237:=0
def tw10015853644003576960:=0
def tw931956834028986255:=0
def tw17857563459279650048:=0
def tw1322031339247656150:=0
def tw12434779806091606683:=0
def tw13218621648322568166:=0
def tw5353813085845620550:=0
def tw12184380411685104690:=0
def tw4475145619620083286:=0
def tw10693841506766600124:=0
def tw18387022231905187089:=0
def tw15724745641170818534:=0
def tw5485572742587201778:=0
def tw13481268755573549168:=0
def tw17093224777342109595:=0
def tw8237626310708396552:=0
def tw4211700434839312001:=0
def tw17837415989878807268:=0
def tw9585978970863474492:=0
def tw4674102799890499726:=0
def tw5552461122284547459:=0
def tw6315216371427503177:=0
def tw5260856337621036202:=0
def tw8824595633291508535:=0
def tw1611551182742943237:=0
def tw14805814515597417852:=0
def tw726985913927333873:=0
def tw2385268686561707046:=0
def tw2335157872551914648:=0
def tw2927799364441409784:=0
def tw729466047920990731:=0
def tw17513604867990543079:=0
def tw8605165415444627158:=0
def tw13553050674002434610:=0
def tw15632992782082381434:=0
def tw5426448371682200115:=0
def tw17094580856887593759:=0
def tw3904583755211930517:=0
def tw17119971604622065936:=0
def tw14788362278542820120:=0
def tw2648174423076098445:=0
def tw7317234293075219:=0
def tw10069975712529536831:=0
def tw3373145609055282853:=0
def tw18431155831084640082:=0
def tw14722794537435163219:=0
def tw11069628954808310989:=0
def tw7942853410682446962:=0
def tw17698735102306075112:=0
def tw11118301316682269745:=0
def tw15078095837771203109:=0
def tw11188117447681078326:=0
def tw11763852733077360975:=0
def tw8526028360262338249:=0
def tw10052001805573714066:=0
def tw1877378965866140348:=0
def tw17882641709403210578:=0
def tw12694589447371642155:=0
def tw4153491320931672185:=0
def tw15545184769064153574:=0
def tw12067549021546063074:=0
def tw16396790404030501481:=0
def tw15755044616229629136:=0
def tw1647960591809683682:=0
def tw17878424488110687958:=0
def tw14267268813261638861:=0
def tw4185518321428705831:=0
def tw10015450608781386451:=0
def tw3345597093286824917:=0
def tw8174591469460913490:=0
def tw5680315236850328200:=0
def tw15223397061033166810:=0
def tw5916140570258018564:=0
def tw14323227155912201964:=0
def tw7340446101256811000:=0
def tw14734032772098568817:=0
def tw2962324470309885386:=0
def tw16266442582153907279:=0
def tw11320351676317602388:=0
def tw6793172497655745189:=0
def tw13952158723898717365:=0
def tw5310652868755799522:=0
def tw7524379617451308511:=0
def tw12674656310777702994:=0
def tw18167724695441219349:=0
def tw4968929673044707356:=0
def tw13887902116395311400:=0
def tw1391549112126926301:=0
def tw12712400820596877648:=0
def tw3934833063311361131:=0
def tw274189353798237994:=0
def tw2873748437651673626:=0
def tw16655083059833703075:=0
def tw6771182271545134960:=0
def tw3664731896753646195:=0
def tw9090191851170928556:=0
def tw4340971767527515617:=0
def tw10497823618577955822:=0
def tw644751248652905101:=0
def tw2680141511932349947:=0
def tw897888412878121761:=0
def tw10131873952172028942:=0
def tw18329075359065952542:=0
def tw16463793508043411602:=0
def tw5587484289544270231:=0
def tw8131721106225051767:=0
def tw15261137711255440680:=0
def tw10800367221633172730:=0
def tw10134030333460990790:=0
def tw2202087279664922802:=0
def tw3471986238504059686:=0
def tw4799189423077775474:=0
def tw17456480263006714056:=0
def tw1567247161763788871:=0
def tw1011254245296060442:=0
def tw18182889222666715495:=0
def tw7894344252036594922:=0
def tw7090585071989052306:=0
def tw5845538515087863352:=0
def tw17338234738716814015:=0
def tw12325562205625792791:=0
def tw6623812351622530092:=0
def tw1998032249293215463:=0
def tw9161490523856799436:=0
def tw6760056911573607715:=0
def tw7618804249908900691:=0
def tw11300376045408061371:=0
def tw18277388166739348960:=0
def tw3133745999044795564:=0
def tw670427922429333600:=0
def tw3083371992184736890:=0
def tw10354477200866600673:=0
def tw12079628635447562283:=0
def tw6252695792229605141:=0
def tw12487779173672901959:=0
def tw10393078302967963895:=0
def tw6205024481829086969:=0
def tw16884622931589843948:=0
def tw5015507407206683207:=0
def tw16408362238061914836:=0
def tw8621336744817483243:=0
def tw14064692534454641163:=0
def tw15155859288707382567:=0
def tw11347631108264317165:=0
def tw11586196018267737339:=0
def tw17590088832654516399:=0
def tw4842887358765978389:=0
def tw14398365135244066966:=0
def tw6606014719576569030:=0
def tw6999941293234460784:=0
def tw10241233070082051121:=0
def tw1173414789623836638:=0
def tw12319047049370110589:=0
def tw7158441374720773216:=0
def tw16286715671046524454:=0
def tw133755455108545178:=0
def tw12514039047250868702:=0
def tw6788773261714906821:=0
def tw5609530884314319229:=0
def tw7945405709010385892:=0
def tw7717702957765121957:=0
def tw13350131943787299761:=0
def tw14731147920152588799:=0
def tw11887224372650548316:=0
def tw8078195926588453703:=0
def tw3822784309164373692:=0
def tw5674458297940323589:=0
def tw12523711969749109062:=0
def tw5011889884212318148:=0
def tw15231466150309641479:=0
def tw14245618210516037357:=0
def tw6784790241324674965:=0
def tw2456577590951144490:=0
def tw8697654515486363317:=0
def tw12661032092557703082:=0
def tw16607927582987124570:=0
def tw13949155002146243131:=0
def tw4589182232624314844:=0
def tw16970792351503237766:=0
def tw14949513074056673275:=0
def tw1620389302784492585:=0
def tw10993542457211605592:=0
def tw13323373534744806615:=0
def tw17960848765466677729:=0
def tw15854262060937163188:=0
def tw17802128708061929859:=0
def tw9835382159548102362:=0
def tw14650769484350525481:=0
def tw5713610079918043996:=0
def tw18042889414512086050:=0
def tw1833547357909804662:=0
def tw3016012700857477809:=0
def tw3942624392001961204:=0
def tw5738919822854818926:=0
def tw6728313399510405491:=0
def tw2450569374399577549:=0
def tw6662249597110656733:=0
def tw7750522813701495628:=0
def tw11843833423457600547:=0
def tw15536387163757344236:=0
def tw17108046237660401759:=0
def tw16504757533647375273:=0
end PySem.W.Fast
set_option maxRecDepth 100000 in
set_option maxHeartbeats 8000000 in
open_top head for PySem.Challenge.rw_seer_k42_recast_keeps_boxes
end
section
set_option maxRecDepth 100000
set_option maxHeartbeats 8000000
set_option linter.all false
open PySem PySem.W PySem.Calls PyProof.Rows PM
seal PM.J PM.Js PM.JT PM.JA PM.JF PM.JI PM.JI2 PM.JP PM.S1 PM.Ss PM.Sto PM.Rd PM.Nm PM.OpN PM.Op2 PM.Def
namespace L
noncomputable abbrev DD (w : World) (s₀ : Shared) (mg mb : Str → Option Value) (f : Addr) (r : Nat) (F : List V → Hp → Option (V × Hp)) : Prop := Def PySem.Challenge.rw_seer_k42_recast_keeps_boxes.row.prog w (head.heap_39 w.params) head.view_39 (looseW head.view_39 []) (ExcName.means s₀.heap) mg mb f r F
section
variable {w : World} {s₀ : Shared} {mg mb : Str → Option Value}
theorem ZkQ : DD w s₀ mg mb 288 1 Zfv := by
 unfold DD; k_fill
 refine Dof (names := ["_law_script", "_law_k", "_law_number_here"]) (g := ZhN) ?_
 exact fun _ _ _ _ _ _ _ c _ _ => (ZB (Z1 sL (ZG (ZG (ZG vL vL Zba) jI Zba) jI Zam)) (ZB (Z5 (ZV (ZaF (nB c) (Zj vL Zq) Za9) jI ZeV) (ZA (Z1 sL (ZG vL (Zz vL (ZG vL (ZaF (nB c) (Zj vL Zq) Za9) ZaW)) Zam))) Z4) (ZA (ZH vL))))
theorem law_pick_d : DD w s₀ mg mb 295 2 ZbV := by
 unfold DD; k_fill
 refine Dof (names := ["_law_script", "_law_k", "_law_many"]) (g := Zip) ?_
 exact fun _ _ _ _ _ _ _ c _ _ => (ZA (ZH (ZG (ZG (ZG (cF c ZkQ (Zj vL (Zj vL Zq))) jI Zba) jI ZaW) vL ZaW)))
theorem Zfu : DD w s₀ mg mb 302 2 ZdN := by
 unfold DD; k_fill
 refine Dof (names := ["_law_script", "_law_k", "_law_number_here", "_law_reach"]) (g := Zht) ?_
 exact fun _ _ _ _ _ _ _ c _ _ => (ZB (Z1 sL (cF c ZkQ (Zj vL (Zj vL Zq)))) (ZB (Z1 sL (Zz (J.list (Zj jI (Zj jI (Zj (ZG jI jI Zj0) (Zj (ZG jI jI Zj0) Zq))))) (ZG (ZG (ZG vL jI Zba) jI ZaW) jI ZaW))) (ZA (ZH (ZG (ZG (ZG vL (ZG jI jI Zj0) Zba) (ZG (ZG jI vL Zba) jI Zam) ZaW) vL ZbA)))))
theorem Zog : DD w s₀ mg mb 309 3 ZhQ := by
 unfold DD; k_fill
 refine Dof (names := ["_law_script", "_law_k", "_law_way"]) (g := ZhP) ?_
 exact fun _ _ _ _ _ _ _ c _ _ => (ZB (Z1 sL (cF c law_pick_d (Zj vL (Zj vL (Zj jI Zq))))) (ZB (Z5 (ZV (ZG vL jI ZaW) jI Zdb) (ZA (ZH jN)) Z4) (ZB (Z5 (ZV (ZG vL jI ZaW) jI Zdb) (ZA (ZH jI)) Z4) (ZB (Z5 (ZV (ZG vL jI ZaW) jI Zaz) (ZA (ZH (ZG vL jI Zd4))) Z4) (ZA (ZH (ZaF (nB c) (Zj (cF c Zfu (Zj vL (Zj vL Zq))) Zq) ZeL)))))))
theorem ZkC : DD w s₀ mg mb 316 1 Zfm := by
 unfold DD; k_fill
 refine Dof (names := ["_law_m", "_law_r"]) (g := Zhc) ?_
 exact fun _ _ _ _ _ _ _ c _ _ => (ZB (Z5 (ZV vL jI Zaz) (ZA (ZH (J.tup (Zj jI (Zj vL Zq))))) Z4) (ZA (ZH (J.tup (Zj vL (Zj (ZG vL vL ZaW) Zq))))))
theorem ZoL : DD w s₀ mg mb 323 3 Zis := by
 unfold DD; k_fill
 refine Dof (names := ["_law_script", "_law_k", "_law_number_here", "_law_way"]) (g := Zir) ?_
 exact fun _ _ _ _ _ _ _ c _ _ => (ZB (Z1 sL (cF c law_pick_d (Zj vL (Zj vL (Zj jI Zq))))) (ZB (Z5 (ZV (ZG vL jI ZaW) jI Zdb) (ZA (ZH (J.tup (Zj jI (Zj jI Zq))))) Z4) (ZB (Z5 (ZV (ZG vL jI ZaW) jI Zaz) (ZA (ZH (J.tup (Zj jI (Zj vL Zq))))) Z4) (ZB (Z5 (ZV (ZG vL jI ZaW) jI Zaz) (ZA (ZH (cF c ZkC (Zj (ZG (ZG vL jI Zd4) jI Zam) (Zj vL Zq))))) Z4) (ZA (ZH (cF c ZkC (Zj (ZaF (nB c) (Zj (cF c Zfu (Zj vL (Zj vL Zq))) Zq) ZeL) (Zj vL Zq)))))))))
theorem ZoM : DD w s₀ mg mb 328 4 Ziv := by
 unfold DD; k_fill
 refine Dof (names := ["_law_script", "_law_k", "_law_boxes", "_law_full", "_law_size", "_law_bounds", "_law_i", "_law_row", "_law_j", "_law_top"]) (g := Ziu) ?_
 exact fun _ _ _ _ _ _ _ c _ _ => (ZB (Z1 sL (ZG (J.list (Zj jI Zq)) vC Zam)) (ZB (Z1 sC (ZaF (nB c) (Zj vL Zq) Za9)) (ZB (Z1 sL (J.list Zq)) (ZB (ZbT sL (JI.range (nB c) (Zj vC Zq)) (ZB (Z1 sL (J.list Zq)) (ZB (ZbT sL (JI.range (nB c) (Zj vC Zq)) (ZB (Z1 sL (cF c Zog (Zj vC (Zj (ZG (ZG vC (ZG vL vC Zba) Zam) vL Zam) Zq)))) (ZB (Z5 (ZV vL jN ZcZ) (ZA (Z1 sL (ZG (ZG (Zz vL vL) (Zz vL vL) ZbA) vL Zam))) Z4) (ZA (Zgk (J.append vL vL)))))) (ZB (S1.put jI vL vL) (ZA (Zgk (J.append vL vL))))))) (ZA (ZH (J.tup (Zj vL (Zj (by refine cO ?_ ?_ ?_; (exact (JI.range (nB c) (Zj (ZG vC jI ZbA) Zq))); (exact fun _ _ => (cF (Zbz c) ZoL (Zj vD (Zj (ZG (ZG vD (ZG vD vD Zba) Zam) vO Zam) (Zj (Zz vD vO) Zq))))); (exact fun _ _ => JF.nil)) Zq)))))))))
theorem ZoN : DD w s₀ mg mb 333 1 Ziy := by
 unfold DD; k_fill
 refine Dof (names := ["_law_told_here"]) (g := Zix) ?_
 exact fun _ _ _ _ _ _ _ c _ _ => (ZB (Z5 (ZV vL jN ZbN) (ZA (ZH jN)) Z4) (ZA (ZH (J.tup (Zj (by refine cO ?_ ?_ ?_; (exact (JI.seq (Zz vL jI))); (exact fun _ _ => (ZjG (nB (Zbz c)) (Zj vO Zq) Zjk)); (exact fun _ _ => JF.nil)) (Zj (ZjG (nB c) (Zj (Zz vL jI) Zq) Zjk) Zq))))))
theorem ZkD : DD w s₀ mg mb 228 1 ZdL := by
 unfold DD; k_fill
 refine Dof (names := ["rests"]) (g := Zhk) ?_
 exact fun _ _ _ _ _ _ _ c _ _ => (ZA (ZH (ZG (J.list (Zj (J.tup (Zj jI (Zj jI Zq))) Zq)) vL Zam)))
theorem Zlm : DD w s₀ mg mb 110 1 ZfR := by
 unfold DD; k_fill
 refine Dof (names := ["one", "other", "left", "right", "over"]) (g := Zi1) ?_
 exact fun _ _ _ _ _ _ _ c _ _ => (ZB (Z1 sL (ZaF (nB c) (Zj vL Zq) ZeL)) (ZB (Z1 sL (ZaF (nB c) (Zj vL Zq) ZeL)) (ZB (Zlo 1000000 (ZV vL jI ZbZ) (ZB (Z1 sL (ZG vL vL ZaW)) (ZB (Z1 sL vL) (ZA (Z1 sL vL))))) (ZA (ZH vL)))))
theorem Zkk : DD w s₀ mg mb 124 1 ZeS := by
 unfold DD; k_fill
 refine Dof (names := ["m", "r"]) (g := Zkc) ?_
 exact fun _ _ _ _ _ _ _ c _ _ => (ZB (Z5 (ZV vL jI Zdb) (ZA (Zsf)) Z4) (ZB (Z5 (ZV vL jI Zaz) (ZA (ZH (J.tup (Zj jI (Zj vL Zq))))) Z4) (ZA (ZH (J.tup (Zj vL (Zj (ZG vL vL ZaW) Zq)))))))
theorem Zpp : DD w s₀ mg mb 117 1 Zi4 := by
 unfold DD; k_fill
 refine Dof (names := ["one", "by", "left", "right", "left_turns", "right_turns", "part", "over", "over_turns"]) (g := Zi3) ?_
 exact fun _ _ _ _ _ _ _ c _ _ => (ZB (Z1 sL (ZG vL vL ZaW)) (ZB (Z1 sL vL) (ZB (Z1 sL jI) (ZB (Z1 sL jI) (ZB (Zlo 1000000 (ZV vL jI ZbZ) (ZB (Z1 sL (ZG vL vL Zd4)) (ZB (Z1 sL (ZG vL (ZG vL vL Zba) ZbA)) (ZB (Z1 sL (ZG vL (ZG vL vL Zba) ZbA)) (ZB (Z1 sL vL) (ZB (Z1 sL vL) (ZB (Z1 sL vL) (ZA (Z1 sL vL))))))))) (ZA (ZH (ZG vL vL ZaW))))))))
theorem Zk5 : DD w s₀ mg mb 131 1 ZfG := by
 unfold DD; k_fill
 refine Dof (names := ["one", "number"]) (g := ZiA) ?_
 exact fun _ _ _ _ _ _ _ c _ _ => (ZB (Z5 (ZV (Zz vL jI) jI Zaz) (ZA (ZH (ZbY vL (Zz vL jI) Zaz))) Z4) (ZA (ZH (ZbY (ZG vL (Zz vL jI) ZaW) (Zz vL jI) Zaz))))
theorem ZoO : DD w s₀ mg mb 138 2 ZiD := by
 unfold DD; k_fill
 refine Dof (names := ["one", "other", "common", "apart", "width", "turns"]) (g := ZiC) ?_
 exact fun _ _ _ _ _ _ _ c _ _ => (ZB (Z5 (ZV (Zz vL jI) jI Zaz) (ZA (ZH (ZeU (Zbk (cF c Zk5 (Zj vL (Zj (Zz vL jI) Zq)))) vL jN))) Z4) (ZB (Z5 (ZV (Zz vL jI) jI Zaz) (ZA (ZH (ZeU (Zbk (cF c Zk5 (Zj vL (Zj (Zz vL jI) Zq)))) vL jN))) Z4) (ZB (Z1 sL (cF c Zlm (Zj (Zz vL jI) (Zj (Zz vL jI) Zq)))) (ZB (Z1 sL (ZG (Zz vL jI) (Zz vL jI) ZbA)) (ZB (Z5 (ZV (ZG vL vL ZaW) jI ZbZ) (ZA (ZH jN)) Z4) (ZB (Z1 sL (ZG (Zz vL jI) vL Zd4)) (ZB (Z1 sL (ZG (ZG vL vL Zd4) (cF c Zpp (Zj (ZG (Zz vL jI) vL Zd4) (Zj vL Zq))) Zba)) (ZA (ZH (cF c Zkk (Zj (ZG (Zz vL jI) vL Zba) (Zj (ZG (Zz vL jI) (ZG (Zz vL jI) vL Zba) Zam) Zq))))))))))))
theorem Zex : DD w s₀ mg mb 53 1 Zdn := by
 unfold DD; k_fill
 refine Dof (names := ["one", "other"]) (g := ZiF) ?_
 exact fun _ _ _ _ _ _ _ c _ _ => (ZB (Z5 (Za7 (ZaJ (ZV vL jN ZbN) (ZaJ (ZV vL jN ZbN) Zb6))) (ZA (ZH jN)) Z4) (ZA (ZH (ZG vL vL Zam))))
theorem Zij : DD w s₀ mg mb 145 2 Zep := by
 unfold DD; k_fill
 refine Dof (names := ["one", "other"]) (g := ZhY) ?_
 exact fun _ _ _ _ _ _ _ c _ _ => (ZA (ZH (cF c Zkk (Zj (cF c Zlm (Zj (Zz vL jI) (Zj (Zz vL jI) Zq))) (Zj (ZG (Zz vL jI) (Zz vL jI) Zam) Zq)))))
theorem Znm : DD w s₀ mg mb 235 3 Zeg := by
 unfold DD; k_fill
 refine Dof (names := ["bounds", "rests", "i", "met", "j", "other"]) (g := Zg6) ?_
 exact fun _ _ _ _ _ _ _ c _ _ => (ZB (Z1 sL (Zz vL vL)) (ZB (Zf7 sL sL (ZpM (nB c) vL) (ZA (Z5 (Za7 (ZbG (ZV vL jN ZcZ) (ZbG (ZV (cF c Zex (Zj (Zz (Zz vL vL) vL) (Zj (Zz (Zz vL vL) vL) Zq))) jI Zaz) ZcY))) (ZA (Z1 sL (cF c ZoO (Zj vL (Zj (cF c Zij (Zj vL (Zj (J.tup (Zj jI (Zj (Zz (Zz vL vL) vL) Zq))) Zq))) Zq))))) Z4))) (ZA (ZH vL))))
theorem Zny : DD w s₀ mg mb 221 4 ZcW := by
 unfold DD; k_fill
 refine Dof (names := ["told", "rests", "met"]) (g := Zei) ?_
 exact fun _ _ _ _ _ _ _ c _ _ => (ZB (Z5 (ZV vC jN ZbN) (ZA (ZH jN)) Z4) (ZB (Z1 sC (cF c ZkD (Zj (Zz vC jI) Zq))) (ZB (by refine sO sL ?_ ?_ ?_; (exact (JI.range (nB c) (Zj jI (Zj (ZaF (nB c) (Zj vC Zq) Za9) Zq)))); (exact fun _ _ => (cF (Zbz c) Znm (Zj (Zz vD jI) (Zj vD (Zj vO Zq))))); (exact fun _ _ => JF.nil)) (ZB (Z5 (ZV jN vL ZmU) (ZA (ZH jN)) Z4) (ZA (ZH (J.tup (Zj (Zz vC jI) (Zj vL Zq)))))))))
theorem Zoh : DD w s₀ mg mb 74 1 ZhT := by
 unfold DD; k_fill
 refine Dof (names := ["one", "other"]) (g := ZhS) ?_
 exact fun _ _ _ _ _ _ _ c _ _ => (ZA (ZH (Zsp (ZbY vL jN ZbN) (ZeT (ZbY vL jN ZcZ) (ZbY vL vL Zgw)))))
theorem Zp5 : DD w s₀ mg mb 81 2 Zjr := by
 unfold DD; k_fill
 refine Dof (names := ["one", "other"]) (g := Zjq) ?_
 exact fun _ _ _ _ _ _ _ c _ _ => (ZA (ZH (ZeU (Zbk (cF c Zoh (Zj vL (Zj vL Zq)))) vL vL)))
theorem Znc : DD w s₀ mg mb 98 3 ZgP := by
 unfold DD; k_fill
 refine Dof (names := ["row", "there", "further"]) (g := ZgO) ?_
 exact fun _ _ _ _ _ _ _ c _ _ => (ZA (ZH (by refine cT ?_ ?_; (exact (JI2.zip (nB c) vL vL)); (exact fun _ _ => (cF (Zbz c) Zp5 (Zj vO (Zj (cF (Zbz c) Zex (Zj vD (Zj vO Zq))) Zq)))))))
theorem Zoi : DD w s₀ mg mb 93 4 Zh2 := by
 unfold DD; k_fill
 refine Dof (names := ["bounds", "mid"]) (g := Zh1) ?_
 exact fun _ _ _ _ _ _ _ c _ _ => (ZA (ZH (by refine cO ?_ ?_ ?_; (exact (JI.seq vC)); (exact fun _ _ => (cF (Zbz c) Znc (Zj vO (Zj (Zz vO vD) (Zj (Zz vD vD) Zq))))); (exact fun _ _ => JF.nil))))
theorem Znn : DD w s₀ mg mb 103 1 Zg1 := by
 unfold DD; k_fill
 refine Dof (names := ["bounds"]) (g := Zg0) ?_
 exact fun _ _ _ _ _ _ _ c _ _ => (ZA (ZH (ZaF (nB c) (Zj (by refine cO ?_ ?_ ?_; (exact (JI.range (nB c) (Zj (ZaF (nB c) (Zj vC Zq) Za9) Zq))); (exact fun _ _ => (ZbY (Zz (Zz vD vO) vO) jI Zdb)); (exact fun _ _ => JF.nil)) Zq) Zrc)))
theorem Zp6 : DD w s₀ mg mb 88 5 ZdY := by
 unfold DD; k_fill
 refine Dof (names := ["bounds", "near", "mid"]) (g := Zjt) ?_
 exact fun _ _ _ _ _ _ _ c _ _ => (ZB (Z1 sL vL) (ZB (ZbT sL (JI.range (nB c) (Zj (ZaF (nB c) (Zj vL Zq) Za9) Zq)) (ZB (Z1 sL (cF c Zoi (Zj vL (Zj vL Zq)))) (ZA (Z5 (Zbk (cF c Znn (Zj vL Zq))) (ZA (ZH jN)) Z4)))) (ZA (ZH vL))))
theorem ZrY : DD w s₀ mg mb 216 6 Zc8 := by
 unfold DD; k_fill
 refine Dof (names := ["told", "bounds"]) (g := Zgq) ?_
 exact fun _ _ _ _ _ _ _ c _ _ => (ZB (Z5 (ZV vL jN ZbN) (ZA (ZH jN)) Z4) (ZB (Z1 sL (cF c Zp6 (Zj (Zz vL jI) Zq))) (ZB (Z5 (ZV vL jN ZbN) (ZA (ZH jN)) Z4) (ZA (ZH (J.tup (Zj vL (Zj (Zz vL jI) Zq))))))))
theorem ZmP : DD w s₀ mg mb 209 7 Zd9 := by
 unfold DD; k_fill
 refine Dof (names := ["told"]) (g := Zkf) ?_
 exact fun _ _ _ _ _ _ _ c _ _ => (ZA (ZH (cF c Zny (Zj (cF c ZrY (Zj vL Zq)) Zq))))
theorem ZnS : DD w s₀ mg mb 159 1 ZhB := by
 unfold DD; k_fill
 refine Dof (names := ["one", "top"]) (g := ZhA) ?_
 exact fun _ _ _ _ _ _ _ c _ _ => (ZB (Z5 (ZV (Zz vL jI) jI Zaz) (ZA (ZH (ZeU (ZV (Zz vL jI) vL Zgw) (Zz vL jI) jN))) Z4) (ZA (ZH (ZG vL (ZG (ZG vL (Zz vL jI) ZbA) (Zz vL jI) ZaW) ZbA))))
theorem Znd : DD w s₀ mg mb 254 2 ZgV := by
 unfold DD; k_fill
 refine Dof (names := ["bound", "left"]) (g := ZgU) ?_
 exact fun _ _ _ _ _ _ _ c _ _ => (ZB (Z5 (ZV vL jN ZcZ) (ZA (ZH (cF c ZnS (Zj vL (Zj vL Zq))))) Z4) (ZB (Z5 (ZV (Zz vL jI) jI Zaz) (ZA (ZH (Zz vL jI))) Z4) (ZA (ZH jN))))
theorem ZkF : DD w s₀ mg mb 152 2 Zfr := by
 unfold DD; k_fill
 refine Dof (names := ["one", "k"]) (g := Zhy) ?_
 exact fun _ _ _ _ _ _ _ c _ _ => (ZA (ZH (cF c Zkk (Zj (ZG (Zz vL jI) (ZaF (nB c) (Zj vL Zq) ZeL) Zba) (Zj (ZG (Zz vL jI) vL Zba) Zq)))))
theorem Znz : DD w s₀ mg mb 247 3 Zho := by
 unfold DD; k_fill
 refine Dof (names := ["row", "left", "rests", "new", "bound", "other", "low"]) (g := Zhn) ?_
 exact fun _ _ _ _ _ _ _ c _ _ => (ZB (Z1 sL (J.list Zq)) (ZB (Zf7 sL sL (JI2.zip (nB c) vL vL) (ZB (Z1 sL (cF c Znd (Zj vL (Zj (cF c Zij (Zj vL (Zj (cF c ZkF (Zj vL (Zj (Ze6 jI ZeK) Zq))) Zq))) Zq)))) (ZB (Z5 (Za7 (ZbG (ZV vL jN ZbN) (ZbG (ZV vL jN ZcZ) ZcY))) (ZA (ZH jN)) Z4) (ZA (Zgk (J.append vL vL)))))) (ZA (ZH vL))))
theorem Zpq : DD w s₀ mg mb 240 4 Zi7 := by
 unfold DD; k_fill
 refine Dof (names := ["told", "rests", "bounds"]) (g := Zi6) ?_
 exact fun _ _ _ _ _ _ _ c _ _ => (ZB (Z5 (ZV vL jN ZbN) (ZA (ZH jN)) Z4) (ZB (Z1 sC (cF c ZkD (Zj (Zz vL jI) Zq))) (ZB (by refine sT sL ?_ ?_; (exact (JI2.zip (nB c) (Zz vL jI) vC)); (exact fun _ _ => (cF (Zbz c) Znz (Zj vO (Zj vO (Zj vD Zq)))))) (ZB (Z5 (ZV jN vL ZmU) (ZA (ZH jN)) Z4) (ZA (ZH (J.tup (Zj vL (Zj (Zz vL jI) Zq)))))))))
theorem Zq4 : DD w s₀ mg mb 202 8 ZjU := by
 unfold DD; k_fill
 refine Dof (names := ["told"]) (g := ZjT) ?_
 exact fun _ _ _ _ _ _ _ c _ _ => (ZA (ZH (cF c ZmP (Zj (cF c Zpq (Zj (cF c ZmP (Zj vL Zq)) Zq)) Zq))))
theorem Zne : DD w s₀ mg mb 271 1 ZgY := by
 unfold DD; k_fill
 refine Dof (names := ["one"]) (g := ZgX) ?_
 exact fun _ _ _ _ _ _ _ c _ _ => (ZA (ZH (ZbY (ZaF (nB c) (Zj (by refine cO ?_ ?_ ?_; (exact (JI.seq (Zj5 vL jI))); (exact fun _ _ => vO); (exact fun _ _ => JF.one (ZV vO jI ZbZ))) Zq) Zo7) (J.list (Zj (Ze6 jI ZeK) (Zj jI Zq))) Zaz)))
theorem Zno : DD w s₀ mg mb 46 2 Zg4 := by
 unfold DD; k_fill
 refine Dof (names := ["one", "other"]) (g := Zg3) ?_
 exact fun _ _ _ _ _ _ _ c _ _ => (ZA (ZH (J.tup (Zj (cF c Zex (Zj (Zz vL jI) (Zj (Zz vL jI) Zq))) (Zj (cF c Zex (Zj (Zz vL jI) (Zj (Zz vL jI) Zq))) Zq)))))
theorem Zik : DD w s₀ mg mb 67 1 Zer := by
 unfold DD; k_fill
 refine Dof (names := ["end", "k"]) (g := Zh7) ?_
 exact fun _ _ _ _ _ _ _ c _ _ => (ZB (Z5 (ZV vL jN ZbN) (ZA (ZH jN)) Z4) (ZA (ZH (ZG vL vL Zba))))
theorem Znf : DD w s₀ mg mb 60 2 ZgS := by
 unfold DD; k_fill
 refine Dof (names := ["one", "k", "lo", "hi"]) (g := ZgR) ?_
 exact fun _ _ _ _ _ _ _ c _ _ => (ZB (Z5 (ZV vL jI Zaz) (ZA (ZH (J.tup (Zj jI (Zj jI Zq))))) Z4) (ZB (Z1 sL (cF c Zik (Zj (Zz vL jI) (Zj vL Zq)))) (ZB (Z1 sL (cF c Zik (Zj (Zz vL jI) (Zj vL Zq)))) (ZB (Z5 (ZV vL jI Zdb) (ZA (ZH (J.tup (Zj vL (Zj vL Zq))))) Z4) (ZA (ZH (J.tup (Zj vL (Zj vL Zq)))))))))
theorem ZnA : DD w s₀ mg mb 188 3 Zhi := by
 unfold DD; k_fill
 refine Dof (names := ["one", "stretches", "whole", "k", "part"]) (g := Zhh) ?_
 exact fun _ _ _ _ _ _ _ c _ _ => (ZB (Z1 sL (J.tup (Zj (Zz vL jI) (Zj (Zz vL jI) Zq)))) (ZB (Zf7 sL sL (JI2.zip (nB c) (Zj5 vL jI) vL) (ZA (Z1 sL (cF c Zno (Zj vL (Zj (cF c Znf (Zj vL (Zj vL Zq))) Zq)))))) (ZA (ZH vL))))
theorem Znp : DD w s₀ mg mb 259 2 Zg9 := by
 unfold DD; k_fill
 refine Dof (names := ["told", "bounds"]) (g := Zg8) ?_
 exact fun _ _ _ _ _ _ _ c _ _ => (ZB (Z1 sC (Zz vL jI)) (ZA (ZH (by refine cO ?_ ?_ ?_; (exact (JI.range (nB c) (Zj jI (Zj (ZaF (nB c) (Zj vC Zq) Za9) Zq)))); (exact fun _ _ => (J.tup (Zj (cF (Zbz c) Zik (Zj (Zz (Zz vD jI) vO) (Zj (Ze6 jI ZeK) Zq))) (Zj (Zz (Zz vD vO) jI) Zq)))); (exact fun _ _ => JF.nil)))))
theorem ZoP : DD w s₀ mg mb 266 4 ZiR := by
 unfold DD; k_fill
 refine Dof (names := ["told", "one"]) (g := ZiQ) ?_
 exact fun _ _ _ _ _ _ _ c _ _ => (ZB (Z5 (Zbk (cF c Zne (Zj vL Zq))) (ZA (ZH (cF c Zex (Zj (Zz (Zz (Zz vL jI) (J.index vL jI jI)) (J.index vL (Ze6 jI ZeK) jI)) (Zj (Zz vL jI) Zq))))) Z4) (ZA (ZH (Zz (cF c ZnA (Zj vL (Zj (cF c Znp (Zj vL Zq)) Zq))) jI))))
theorem ZoQ : DD w s₀ mg mb 169 1 ZiU := by
 unfold DD; k_fill
 refine Dof (names := ["one", "other"]) (g := ZiT) ?_
 exact fun _ _ _ _ _ _ _ c _ _ => (ZA (ZH (by refine cT ?_ ?_; (exact (JI2.zip (nB c) vL vL)); (exact fun _ _ => (ZG vO vO Zam)))))
theorem Zoj : DD w s₀ mg mb 174 1 Zid := by
 unfold DD; k_fill
 refine Dof (names := ["one", "k"]) (g := Zic) ?_
 exact fun _ _ _ _ _ _ _ c _ _ => (ZA (ZH (by refine cO ?_ ?_ ?_; (exact (JI.seq vL)); (exact fun _ _ => (ZG vO vD Zba)); (exact fun _ _ => JF.nil))))
theorem ZoR : DD w s₀ mg mb 181 2 ZiX := by
 unfold DD; k_fill
 refine Dof (names := ["one", "other"]) (g := ZiW) ?_
 exact fun _ _ _ _ _ _ _ c _ _ => (ZA (ZH (cF c ZoQ (Zj vL (Zj (cF c Zoj (Zj vL (Zj (Ze6 jI ZeK) Zq))) Zq)))))
theorem ZnT : DD w s₀ mg mb 281 5 ZhE := by
 unfold DD; k_fill
 refine Dof (names := ["told", "one", "others"]) (g := ZhD) ?_
 exact fun _ _ _ _ _ _ _ c _ _ => (ZA (ZH (by refine cO ?_ ?_ ?_; (exact (JI.seq vL)); (exact fun _ _ => (cF (Zbz c) ZoP (Zj vD (Zj (cF (Zbz c) ZoR (Zj vD (Zj vO Zq))) Zq)))); (exact fun _ _ => JF.nil))))
theorem ZoS : DD w s₀ mg mb 195 3 ZiL := by
 unfold DD; k_fill
 refine Dof (names := ["one", "rests", "whole", "k", "part"]) (g := ZiK) ?_
 exact fun _ _ _ _ _ _ _ c _ _ => (ZB (Z1 sL (J.tup (Zj jI (Zj (Zz vL jI) Zq)))) (ZB (Zf7 sL sL (JI2.zip (nB c) (Zj5 vL jI) vL) (ZA (Z1 sL (cF c Zij (Zj vL (Zj (cF c ZkF (Zj vL (Zj vL Zq))) Zq)))))) (ZA (ZH vL))))
theorem Zpr : DD w s₀ mg mb 164 1 Zjc := by
 unfold DD; k_fill
 refine Dof (names := ["i", "n"]) (g := Zjb) ?_
 exact fun _ _ _ _ _ _ _ c _ _ => (ZA (ZH (by refine cO ?_ ?_ ?_; (exact (JI.range (nB c) (Zj (ZG vL jI Zam) Zq))); (exact fun _ _ => (ZeU (Za7 (ZbG (ZV vD jI ZeV) (ZbG (ZV vO vD Zaz) ZcY))) jI jI)); (exact fun _ _ => JF.nil))))
theorem ZlS : DD w s₀ mg mb 276 9 Zf2 := by
 unfold DD; k_fill
 refine Dof (names := ["told", "sums", "all_sums", "bounds", "rests"]) (g := Zjv) ?_
 exact fun _ _ _ _ _ _ _ c _ _ => (ZB (Z5 (ZV vC jN ZbN) (ZA (ZH jN)) Z4) (ZB (Z1 sC (ZG (J.list (Zj (cF c Zpr (Zj jI (Zj (ZaF (nB c) (Zj (Zz vC jI) Zq) Za9) Zq))) Zq)) vL Zam)) (ZB (by refine sO sL ?_ ?_ ?_; (exact (JI.seq vC)); (exact fun _ _ => (cF (Zbz c) ZnT (Zj vD (Zj vO (Zj vD Zq))))); (exact fun _ _ => JF.nil)) (ZB (by refine sO sL ?_ ?_ ?_; (exact (JI.seq vL)); (exact fun _ _ => (cF (Zbz c) ZoS (Zj vO (Zj (Zz vD jI) Zq)))); (exact fun _ _ => JF.nil)) (ZA (ZH (cF c Zq4 (Zj (J.tup (Zj vL (Zj vL Zq))) Zq))))))))
theorem Zps : DD w s₀ mg mb 389 3 Zi9 := by
 unfold DD; k_fill
 refine Dof (names := ["_law_script", "_law_k", "_law_many", "_law_one", "_law_way", "_law_at", "_law_to", "_law_i"]) (g := Zi8) ?_
 exact fun _ _ _ _ _ _ _ c _ _ => (ZB (Z1 sL (ZG (J.list (Zj (cF c Zfu (Zj vL (Zj vL Zq))) Zq)) (ZG (J.list (Zj jI Zq)) vL Zba) Zam)) (ZB (Z1 sL (cF c law_pick_d (Zj vL (Zj vL (Zj jI Zq))))) (ZB (Z5 (Za7 (ZaJ (ZV vL jI Zaz) (ZaJ (ZV vL jI Zaz) Zb6))) (ZA (ZH vL)) Z4) (ZB (Z1 sL (ZG jI (cF c law_pick_d (Zj vL (Zj (ZG vL jI Zam) (Zj vL Zq)))) Zam)) (ZB (Z5 (ZV vL jI Zaz) (ZA (S1.put (ZG (cF c law_pick_d (Zj vL (Zj (ZG vL jI Zam) (Zj jI Zq)))) jI ZbA) vL vL)) Z4) (ZB (Z5 (Za7 (ZaJ (ZV vL jI Zaz) (ZaJ (ZV vL jI Zaz) Zb6))) (ZB (Z1 sL (ZG jI (cF c law_pick_d (Zj vL (Zj (ZG vL jI Zam) (Zj vL Zq)))) Zam)) (ZB (S1.put jI vL vL) (ZA (S1.put (ZG (Zz vL vL) jI ZbA) vL vL)))) Z4) (ZB (Z5 (ZV vL jI Zaz) (ZA (ZbT sL (JI.range (nB c) (Zj vL Zq)) (ZA (S1.put (ZG (cF c law_pick_d (Zj vL (Zj (ZG (ZG vL jI Zam) vL Zam) (Zj jI Zq)))) jI ZbA) vL (ZG vL jI Zam))))) Z4) (ZB (Z5 (ZV vL jI Zaz) (ZA (ZbT sL (JI.range (nB c) (Zj vL Zq)) (ZA (S1.put (ZG (cF c law_pick_d (Zj vL (Zj (ZG (ZG vL jI Zam) vL Zam) (Zj jI Zq)))) jI ZbA) vL (ZG vL jI Zam))))) Z4) (ZA (ZH vL))))))))))
theorem Zk6 : DD w s₀ mg mb 340 1 ZfK := by
 unfold DD; k_fill
 refine Dof (names := ["_law_told_here", "_law_boxes", "_law_full", "_law_i", "_law_j", "_law_t", "_law_apart"]) (g := ZiN) ?_
 exact fun _ _ _ _ _ _ _ c _ _ => (ZB (Z5 (ZV vL jN ZbN) (ZA (ZH jB)) Z4) (ZB (Z1 sL (ZG (J.list (Zj jI Zq)) vL Zam)) (ZB (ZbT sL (JI.range (nB c) (Zj (ZaF (nB c) (Zj vL Zq) Za9) Zq)) (ZA (ZbT sL (JI.range (nB c) (Zj (ZaF (nB c) (Zj vL Zq) Za9) Zq)) (ZA (Z5 (Za7 (ZbG (ZV (Zz (Zz (Zz vL jI) vL) vL) jN ZcZ) (ZbG (ZV (Zz vL vL) (ZG (Zz vL vL) (Zz (Zz (Zz vL jI) vL) vL) Zam) ZeV) ZcY))) (ZA (ZH jB)) Z4))))) (ZB (ZbT sL (JI.range (nB c) (Zj (ZaF (nB c) (Zj vL Zq) Za9) Zq)) (ZB (Z1 sL (ZG (Zz vL vL) (Zz (Zz (Zz vL jI) vL) jI) ZbA)) (ZB (Z5 (Za7 (ZbG (ZV (Zz (Zz (Zz vL jI) vL) jI) jI Zaz) (ZbG (ZV vL jI ZbZ) ZcY))) (ZA (ZH jB)) Z4) (ZA (Z5 (Za7 (ZbG (ZV (Zz (Zz (Zz vL jI) vL) jI) jI ZeV) (ZbG (ZV (ZG vL (Zz (Zz (Zz vL jI) vL) jI) ZaW) jI ZbZ) ZcY))) (ZA (ZH jB)) Z4))))) (ZA (ZH jB))))))
theorem ZnB : DD w s₀ mg mb 375 1 Zhf := by
 unfold DD; k_fill
 refine Dof (names := ["_law_one", "_law_other"]) (g := Zhe) ?_
 exact fun _ _ _ _ _ _ _ c _ _ => (ZB (Z5 (ZV (Zz vL jI) jI Zaz) (ZA (ZH (ZbY vL vL Zaz))) Z4) (ZA (ZH (ZeT (ZbY (ZG (Zz vL jI) (Zz vL jI) ZaW) jI Zaz) (ZbY (ZG (ZG (Zz vL jI) (Zz vL jI) ZbA) (Zz vL jI) ZaW) jI Zaz)))))
theorem Zok : DD w s₀ mg mb 368 1 ZhW := by
 unfold DD; k_fill
 refine Dof (names := ["_law_one", "_law_other"]) (g := ZhV) ?_
 exact fun _ _ _ _ _ _ _ c _ _ => (ZB (Z5 (ZV vL jN ZbN) (ZA (ZH jB)) Z4) (ZA (ZH (ZeT (ZbY vL jN ZcZ) (ZbY vL vL Zgw)))))
theorem ZnU : DD w s₀ mg mb 382 2 Zhw := by
 unfold DD; k_fill
 refine Dof (names := ["_law_one", "_law_other", "_law_i", "_law_j", "_law_t"]) (g := Zhv) ?_
 exact fun _ _ _ _ _ _ _ c _ _ => (ZB (Z5 (Za7 (ZaJ (ZV vL jN ZbN) (ZaJ (ZV vL jN ZbN) Zb6))) (ZA (ZH (ZbY vL jN ZbN))) Z4) (ZB (ZbT sL (JI.range (nB c) (Zj (ZaF (nB c) (Zj (Zz vL jI) Zq) Za9) Zq)) (ZA (ZbT sL (JI.range (nB c) (Zj (ZaF (nB c) (Zj (Zz vL jI) Zq) Za9) Zq)) (ZA (Z5 (ZbI (Zbk (cF c Zok (Zj (Zz (Zz (Zz vL jI) vL) vL) (Zj (Zz (Zz (Zz vL jI) vL) vL) Zq))))) (ZA (ZH jB)) Z4))))) (ZB (ZbT sL (JI.range (nB c) (Zj (ZaF (nB c) (Zj (Zz vL jI) Zq) Za9) Zq)) (ZA (Z5 (ZbI (Zbk (cF c ZnB (Zj (Zz (Zz vL jI) vL) (Zj (Zz (Zz vL jI) vL) Zq))))) (ZA (ZH jB)) Z4))) (ZA (ZH jB)))))
theorem Zil : DD w s₀ mg mb 347 1 Zeq := by
 unfold DD; k_fill
 refine Dof (names := ["_law_thing"]) (g := Zh4) ?_
 exact fun _ _ _ _ _ _ _ c _ _ => (ZA (ZH (ZeT (Zdp (nB c) (nB c) (.inl rfl) vL) (ZrZ (Zdp (nB c) (nB c) (.inr (.inl rfl)) vL)))))
theorem ZoT : DD w s₀ mg mb 354 2 ZiI := by
 unfold DD; k_fill
 refine Dof (names := ["_law_thing", "_law_size", "_law_i", "_law_top"]) (g := ZiH) ?_
 exact fun _ _ _ _ _ _ _ c _ _ => (ZB (Z5 (Za7 (ZaJ (ZbI (Zbk (Zdp (nB c) (nB c) (.inr (.inr (.inl rfl))) vL))) (ZaJ (ZV (ZaF (nB c) (Zj vL Zq) Za9) vL ZbZ) Zb6))) (ZA (ZH jB)) Z4) (ZB (ZbT sL (JI.range (nB c) (Zj vL Zq)) (ZB (Z5 (Za7 (ZaJ (ZbI (Zbk (Zdp (nB c) (nB c) (.inr (.inr (.inl rfl))) (Zz vL vL)))) (ZaJ (ZV (ZaF (nB c) (Zj (Zz vL vL) Zq) Za9) vL ZbZ) Zb6))) (ZA (ZH jB)) Z4) (ZB (ZbT sL (JI.seq (Zz vL vL)) (ZA (Z5 (Za7 (ZbG (ZV vL jN ZcZ) (ZbG (ZbI (Zbk (cF c Zil (Zj vL Zq)))) ZcY))) (ZA (ZH jB)) Z4))) (ZA (Z5 (ZV (Zz (Zz vL vL) vL) jI ZbZ) (ZA (ZH jB)) Z4))))) (ZA (ZH jB))))
theorem ZkR : DD w s₀ mg mb 361 3 ZfA := by
 unfold DD; k_fill
 refine Dof (names := ["_law_thing", "_law_many", "_law_pair"]) (g := Zia) ?_
 exact fun _ _ _ _ _ _ _ c _ _ => (ZB (Z5 (Za7 (ZaJ (ZbI (Zbk (Zdp (nB c) (nB c) (.inr (.inr (.inr rfl))) vL))) (ZaJ (ZV (ZaF (nB c) (Zj vL Zq) Za9) jI ZbZ) (ZaJ (ZbI (Zbk (cF c ZoT (Zj (Zz vL jI) (Zj (ZG vL jI Zam) Zq))))) Zb6)))) (ZA (ZH jB)) Z4) (ZB (Z5 (Za7 (ZaJ (ZbI (Zbk (Zdp (nB c) (nB c) (.inr (.inr (.inl rfl))) (Zz vL jI)))) (ZaJ (ZV (ZaF (nB c) (Zj (Zz vL jI) Zq) Za9) vL ZbZ) Zb6))) (ZA (ZH jB)) Z4) (ZB (ZbT sL (JI.seq (Zz vL jI)) (ZB (Z5 (Za7 (ZaJ (ZbI (Zbk (Zdp (nB c) (nB c) (.inr (.inr (.inr rfl))) vL))) (ZaJ (ZV (ZaF (nB c) (Zj vL Zq) Za9) jI ZbZ) Zb6))) (ZA (ZH jB)) Z4) (ZB (Z5 (Za7 (ZaJ (ZbI (Zbk (cF c Zil (Zj (Zz vL jI) Zq)))) (ZaJ (ZbI (Zbk (cF c Zil (Zj (Zz vL jI) Zq)))) Zb6))) (ZA (ZH jB)) Z4) (ZA (Z5 (Za7 (ZaJ (ZV (Zz vL jI) jI Zdb) (ZaJ (Za7 (ZbG (ZV (Zz vL jI) jI ZeV) (ZbG (ZbI (ZpP jI (Zz vL jI) (Zz vL jI) Zgw Zdb)) ZcY))) Zb6))) (ZA (ZH jB)) Z4))))) (ZA (ZH jB)))))
theorem ZnC : DD w s₀ mg mb 406 1 Zhr := by
 unfold DD; k_fill
 refine Dof (names := ["_law_i", "_law_many", "_law_one"]) (g := Zhq) ?_
 exact fun _ _ _ _ _ _ _ c _ _ => (ZB (Z1 sL (ZG (J.list (Zj jI Zq)) (ZG vL jI Zam) Zba)) (ZB (S1.put jI vL vL) (ZA (ZH vL))))
theorem ZnV : DD w s₀ mg mb 399 1 ZhH := by
 unfold DD; k_fill
 refine Dof (names := ["_law_told_here", "_law_order", "_law_full", "_law_bounds", "_law_i"]) (g := ZhG) ?_
 exact fun _ _ _ _ _ _ _ c _ _ => (ZB (Z1 sL (ZG (J.list (Zj jI Zq)) vL Zam)) (ZB (Z1 sL (J.list Zq)) (ZB (ZbT sC (JI.seq vL) (ZA (Zgk (J.append vL (by refine cO ?_ ?_ ?_; (exact (JI.seq vL)); (exact fun _ _ => (Zz (Zz (Zz vD jI) vD) vO)); (exact fun _ _ => JF.nil)))))) (ZA (ZH (J.tup (Zj vL (Zj (by refine cO ?_ ?_ ?_; (exact (JI.seq vL)); (exact fun _ _ => (Zz (Zz vD jI) (ZG vO jI ZbA))); (exact fun _ _ => JF.nil)) Zq))))))))
theorem Zol : DD w s₀ mg mb 394 1 Zig := by
 unfold DD; k_fill
 refine Dof (names := ["_law_one", "_law_boxes"]) (g := Zif) ?_
 exact fun _ _ _ _ _ _ _ c _ _ => (ZA (ZH (ZG (Zz vC jI) (ZaF (nB c) (Zj (by refine cO ?_ ?_ ?_; (exact (JI.range (nB c) (Zj (ZaF (nB c) (Zj vC Zq) Za9) Zq))); (exact fun _ _ => (ZG (Zz vD (ZG vO jI Zam)) (Zz vD vO) Zba)); (exact fun _ _ => JF.nil)) Zq) Zq5) Zam)))
end
end L
end
section
set_option maxRecDepth 100000
set_option maxHeartbeats 8000000
set_option linter.all false
open PySem PySem.W PySem.Calls PyProof.Rows PM
open L
seal PySem.wpAny PM.J PM.Js PM.JT PM.JA PM.JF PM.JI PM.JI2 PM.JP PM.S1 PM.Ss PM.Sto PM.Rd PM.Nm PM.OpN PM.Op2 PM.Def
theorem PySem.Challenge.cw_seer_k42_recast_keeps_boxes_holds : PySem.Challenge.rw_seer_k42_recast_keeps_boxes.Holds :=
 head (by
  w_strict (k_go0; (rename Well _ _ _ _ => w9); (rename Frag.In _ _ => kx9); (rename Top _ _ _ _ _ _ => t9); (rename Fr _ _ _ _ => f9); (rename News _ _ _ _ => n9); (rename CellsAre _ _ _ => x9); (rename (PyData.layable0 _ = true) => hl9); (obtain ⟨H9, e9⟩ := L.ZnR (by omega) hl9); (refine' PM.Zqd (names := ["_law_script", "_law_many", "_law_boxes", "_law_told_here", "_law_sums", "_law_kept", "_law_handed", "_law_found", "_law_turn", "_law_order"]) (g := Zjx) (room := 9) ?hb ?h1 ?h2 ?h3 ?h4 kx9 t9 w9 ?len f9 n9 x9 e9 ?post); (case h1 => decide); (case h2 => decide); (case h3 => rfl); (case h4 => rfl); (case len => (rw [PM.Za2]; omega)); (case hb => (intro dp un gd L a ccd outer h₀ hu clr hd1 hu1; exact (ZB (Z1 sC (Zz (J.list (Zj jI (Zj jI (Zj jI (Zj jI (Zj jI (Zj jI (Zj jI (Zj jI (Zj jI Zq)))))))))) (cF clr law_pick_d (Zj vC (Zj jI (Zj jI Zq)))))) (ZB (Z1 sC (by refine cO ?_ ?_ ?_; (exact (JI.range (nB clr) (Zj vC Zq))); (exact fun _ _ => (cF (Zbz clr) Zfu (Zj vD (Zj (ZG jI vO Zam) Zq)))); (exact fun _ _ => JF.nil))) (ZB (Z1 sL (cF clr ZoM (Zj vC (Zj jI (Zj vC Zq))))) (ZB (by refine sO sL ?_ ?_ ?_; (exact (JI.range (nB clr) (Zj (Zz (J.list (Zj jI (Zj jI (Zj jI (Zj jI (Zj jI (Zj jI Zq))))))) (cF clr law_pick_d (Zj vC (Zj jI (Zj jI Zq))))) Zq))); (exact fun _ _ => (cF (Zbz clr) Zps (Zj vD (Zj (ZG jI (ZG jI vO Zba) Zam) (Zj vD Zq))))); (exact fun _ _ => JF.nil)) (ZB (Z1 sL (cF clr ZoN (Zj vL Zq))) (ZB (by refine sO sL ?_ ?_ ?_; (exact (JI.seq vL)); (exact fun _ _ => (ZjG (nB (Zbz clr)) (Zj vO Zq) Zjk)); (exact fun _ _ => JF.nil)) (ZB (Z1 sL (cF clr ZlS (Zj vL (Zj vL Zq)))) (ZB (Z5 (Za7 (ZaJ (ZV vL vL ZbZ) (ZaJ (ZV vL vL ZbZ) (ZaJ (ZbI (Zbk (cF clr ZkR (Zj vL (Zj (ZaF (nB clr) (Zj vL Zq) Za9) Zq))))) Zb6)))) (ZA (ZH jB)) Z4) (ZB (Z5 (ZbI (Zbk (cF clr Zk6 (Zj vL (Zj (by refine cO ?_ ?_ ?_; (exact (JI.seq vL)); (exact fun _ _ => (cF (Zbz clr) Zol (Zj vO (Zj vD Zq)))); (exact fun _ _ => JF.nil)) Zq))))) (ZA (ZH jB)) Z4) (ZB (Z5 (ZV vC jI Zaz) (ZA (ZH jB)) Z4) (ZB (Z1 sC (cF clr law_pick_d (Zj vC (Zj jI (Zj vC Zq))))) (ZB (by refine sO sL ?_ ?_ ?_; (exact (JI.range (nB clr) (Zj vC Zq))); (exact fun _ _ => (ZG jI (ZG (ZG vD vO Zam) vD ZaW) Zam)); (exact fun _ _ => JF.nil)) (ZB (Z5 (ZV (cF clr law_pick_d (Zj vC (Zj jI (Zj jI Zq)))) jI Zaz) (ZA (by refine sO sL ?_ ?_ ?_; (exact (JI.seq vL)); (exact fun _ _ => (ZG (ZG vD jI Zam) vO ZbA)); (exact fun _ _ => JF.nil))) Z4) (ZB (Z1 sL (cF clr ZlS (Zj vL (Zj (by refine cO ?_ ?_ ?_; (exact (JI.seq vL)); (exact fun _ _ => (cF (Zbz clr) ZnC (Zj vO (Zj vD Zq)))); (exact fun _ _ => JF.nil)) Zq)))) (ZB (Z5 (Za7 (ZaJ (ZbI (Zbk (cF clr ZkR (Zj vL (Zj vC Zq))))) (ZaJ (ZbI (Zbk (cF clr Zk6 (Zj vL (Zj (by refine cO ?_ ?_ ?_; (exact (JI.seq vL)); (exact fun _ _ => (Zz vD (ZG vO jI ZbA))); (exact fun _ _ => JF.nil)) Zq))))) Zb6))) (ZA (ZH jB)) Z4) (ZA (ZH (ZeT (cF clr ZnU (Zj vL (Zj (cF clr ZnV (Zj vL (Zj vL Zq))) Zq))) (ZbY vL vL Zaz))))))))))))))))))))); (case post => (intro h' tk' m' F'; k_steps)))
  )
end
