import PyProof.Rows.All
import Wide.All
import OpenK.AllK
import Wide.FinOn
import PySem.Challenge.RW_seer_k44_held_and_under
import PyProof.Rows.News
import PyProof.Rows.Nodes
import PyProof.Rows.Chain
import PyProof.Rows.TupSub
import PyProof.PureInt
import PyProof.Rules2
import PyProof.Rules3
import PyProof.Rows.Globals
import PyProof.Rows.RuleB_mod
import PyProof.Rows.RuleB_floordiv
import PyProof.Rows.RuleB_small
import PyProof.NoPylong
import PyProof.Rows.RuleB_pow
import PyProof.Rows.EqDataRows
import PyProof.Rows.StrTemp
import PyProof.Rows.TupAdd
import PyProof.Rows.ListMul
import PyProof.ListIndexNeg
import PyProof.SliceList
import PyProof.Methods
import PyProof.Rows.Tup
import PyProof.IsiPairs
import PyProof.IsiHeapPairs
import PyProof.IsiNone
import PyProof.Rows.RuleN_abs
import PyProof.Rows.SumAny
import PyProof.WalkInts
import PyProof.PvWalk
import PyProof.RulesRaise
import PyProof.Raises
import PyProof.Dict
import PyProof.Seq
import PyProof.Rows.ListAppend
import PyProof.ForAppend
import PyProof.ForAny
import PyProof.Walks
import PyProof.WalksT
import KE.KItem
import PyProof.WalksMore
import PyProof.RangeFor
import PyProof.Rows.Range3
import OpenK.KCell
import KE.KTree
import KE.RegLcTurns
import KE.KCompFold
import KE.KLcPair
import KE.LcTurns
import PyProof.CompUse
import PyProof.Rows.ZipGen
import OpenK.KLine
import KE.KState
import Wide.Well
import PyProof.ListCopy
import PyProof.Rows.TupleOfSeqD
import KE.LcSums
import KE.KCellOne
import PyProof.FitsBits
import KE.KEqDeep
import PyProof.Rows.TupMore
import PyProof.Rows.NestLooks
import PyProof.EnumMake
import PyProof.WalksEnum
import PyProof.Rows.SortWalk
import PyProof.DictStraight
import PyProof.EqAt
import PyProof.Rows.SeqMore2
import KE.KAnyBase
import PyProof.Rows.SeqSlice
abbrev Zz0 := @Option.bind_eq_some_iff
abbrev Zz1 := @Option.map_eq_some_iff
abbrev Zz2 := @List.mem_cons_of_mem
abbrev Zz3 := @List.mem_append_right
abbrev Zz4 := @List.mem_append_left
abbrev Zz5 := @List.mem_cons_self
abbrev Zz6 := @List.getElem?_eq_some_iff
set_option Elab.async false
set_option compiler.extract_closed false
section
set_option maxRecDepth 100000
set_option linter.all false
set_option autoImplicit false
/-! The plain machine: values as trees, lists as places; and how it stands for the model's heap. -/
namespace PM
open PySem PyProof.Rows
inductive V where
 | none
 | bool (b : Bool)
 | int (i : Int)
 | str (s : Str)
 | tup (vs : List V)
 | ref (a : Nat)
noncomputable abbrev Hp := List (List V)
noncomputable abbrev Lc := Nat → Option V
noncomputable def LEN : Nat := 100000
theorem Za7 : LEN = 100000 := rfl
theorem Zc7 {n : Nat} (h : n ≤ LEN) : n ≤ sizeLine := by
 have : sizeLine = 2 ^ 24 := rfl
 rw [this]; rw [Za7] at h; omega
noncomputable abbrev ZeD (xs : List Value) (k : Nat) : Obj := { cls := .type "tuple", data := .seq xs.toArray k }
noncomputable abbrev Zb0 (xs : List Value) (k : Nat) : Obj := { cls := .type "list", data := .seq xs.toArray k }
structure Wd where
 pi : List Addr
 tups : List (Addr × Obj)
 sc : Addr × Obj
structure Wd.Le (W W' : Wd) : Prop where
 pi : W.pi <+: W'.pi
 tups : ∀ q ∈ W.tups, q ∈ W'.tups
 sc : W'.sc = W.sc
theorem Wd.Le.refl (W : Wd) : W.Le W := ⟨List.prefix_refl _, fun _ h => h, rfl⟩
theorem Wd.Le.trans {W W' W'' : Wd} (a : W.Le W') (b : W'.Le W'') : W.Le W'' := ⟨a.pi.trans b.pi, fun q h => b.tups q (a.tups q h), b.sc.trans a.sc⟩
theorem Wd.Le.at {W W' : Wd} (h : W.Le W') {i : Nat} {a : Addr} (e : W.pi[i]? = some a) : W'.pi[i]? = some a := by
 obtain ⟨t, ht⟩ := h.pi
 have hi : i < W.pi.length := (Zz6.mp e).1
 rw [← ht, List.getElem?_append_left hi]
 exact e
mutual
inductive VR (W : Wd) : V → Value → Prop where
 | none : VR W .none .none
 | bool (b : Bool) : VR W (.bool b) (.bool b)
 | int (i : Int) (t : Tok) : VR W (.int i) (.int i t)
 | str (s : Str) (t : Tok) : VR W (.str s) (.str s t)
 | tup {vs : List V} {a : Addr} {xs : List Value} {k : Nat} : (a, ZeD xs k) ∈ W.tups → vs.length ≤ LEN → VRs W vs xs → VR W (.tup vs) (.ref a)
 | ref {i : Nat} {a : Addr} : W.pi[i]? = some a → VR W (.ref i) (.ref a)
inductive VRs (W : Wd) : List V → List Value → Prop where
 | nil : VRs W [] []
 | cons {v : V} {x : Value} {vs : List V} {xs : List Value} : VR W v x → VRs W vs xs → VRs W (v :: vs) (x :: xs)
end
mutual
theorem VR.mono {W W' : Wd} (h : W.Le W') {v : V} {x : Value} (r : VR W v x) : VR W' v x := by
 cases r with
 | none => exact .none
 | bool b => exact .bool b
 | int i t => exact .int i t
 | str s t => exact .str s t
 | tup hm hl hs => exact .tup (h.tups _ hm) hl (VRs.mono h hs)
 | ref e => exact .ref (h.at e)
theorem VRs.mono {W W' : Wd} (h : W.Le W') {vs : List V} {xs : List Value} (r : VRs W vs xs) : VRs W' vs xs := by
 cases r with
 | nil => exact .nil
 | cons a b => exact .cons (VR.mono h a) (VRs.mono h b)
end
theorem VRs.length {W : Wd} : ∀ {vs : List V} {xs : List Value}, VRs W vs xs → xs.length = vs.length
 | _, _, .nil => rfl
 | _, _, .cons _ r => by rw [List.length_cons, List.length_cons, r.length]
theorem VRs.at {W : Wd} : ∀ {vs : List V} {xs : List Value} {i : Nat} {v : V}, VRs W vs xs → vs[i]? = some v → ∃ x, xs[i]? = some x ∧ VR W v x
 | _, _, _, _, .nil, e => by simp at e
 | _, _, 0, _, .cons a _, e => by
  simp at e
  exact ⟨_, by simp, e ▸ a⟩
 | _, _, i + 1, _, .cons _ r, e => by
  simp at e
  obtain ⟨x, hx, hr⟩ := r.at e
  exact ⟨x, by simpa using hx, hr⟩
theorem VRs.append {W : Wd} : ∀ {vs us : List V} {xs ys : List Value}, VRs W vs xs → VRs W us ys → VRs W (vs ++ us) (xs ++ ys)
 | _, _, _, _, .nil, h => h
 | _, _, _, _, .cons a r, h => .cons a (r.append h)
theorem VRs.snoc {W : Wd} {vs : List V} {xs : List Value} {v : V} {x : Value} (h : VRs W vs xs) (r : VR W v x) : VRs W (vs ++ [v]) (xs ++ [x]) := h.append (.cons r .nil)
theorem VRs.set {W : Wd} : ∀ {vs : List V} {xs : List Value} {v : V} {x : Value} (i : Nat), VRs W vs xs → VR W v x → VRs W (vs.set i v) (xs.set i x)
 | _, _, _, _, _, .nil, _ => .nil
 | _, _, _, _, 0, .cons _ r, h => .cons h r
 | _, _, _, _, i + 1, .cons a r, h => .cons a (r.set i h)
theorem VRs.drop {W : Wd} : ∀ {vs : List V} {xs : List Value} (i : Nat), VRs W vs xs → VRs W (vs.drop i) (xs.drop i)
 | _, _, 0, h => h
 | _, _, _ + 1, .nil => .nil
 | _, _, i + 1, .cons _ r => r.drop i
structure HR (W : Wd) (H : Hp) (led : List (Addr × Obj)) : Prop where
 len : W.pi.length = H.length
 nd : W.pi.Nodup
 lists : ∀ (i : Nat) (vs : List V), H[i]? = some vs → vs.length ≤ LEN ∧ ∃ a xs k, W.pi[i]? = some a ∧ (a, Zb0 xs k) ∈ led ∧ VRs W vs xs
 tups : ∀ q ∈ W.tups, q ∈ led
 kind : ∀ q ∈ W.tups, ∃ xs k, q.2 = ZeD xs k
theorem HR.mono {W : Wd} {H : Hp} {led led' : List (Addr × Obj)} (R : HR W H led) (h : ∀ q ∈ led, q ∈ led') : HR W H led' :=
 ⟨R.len, R.nd, fun i vs e => by
  obtain ⟨l, a, xs, k, h1, h2, h3⟩ := R.lists i vs e
  exact ⟨l, a, xs, k, h1, h _ h2, h3⟩, fun q hq => h q (R.tups q hq), R.kind⟩
structure Cx where
 A : Around
 env : Env
 h₀ : Heap
 L : Addr
 hh : A.handled = none
 hu : A.units + 200 < cLine
 Own : Wd → Lc → (Str → Option Value) → List (Addr × Obj) → Prop
 mono : ∀ {W W' : Wd} {ρ : Lc} {m : Str → Option Value} {c : List (Addr × Obj)}, W.Le W' → Own W ρ m c → Own W' ρ m c
structure Rep' (Γ : Cx) (W : Wd) (ρ : Lc) (H : Hp) (fr : List (Addr × Obj)) (h : Heap) (m : Str → Option Value) (cells led : List (Addr × Obj)) : Prop where
 F : Fr Γ.h₀ Γ.L h m
 N : News Γ.h₀ Γ.L h led
 R : HR W H (W.sc :: led)
 sc : Γ.h₀.get? W.sc.1 = some W.sc.2
 sc0 : W.pi[0]? = some W.sc.1
 frIn : ∀ q ∈ fr, q ∈ led
 frOff : ∀ q ∈ fr, q.1 ∉ W.pi
 clIn : ∀ q ∈ cells, q ∈ led
 clOff : ∀ q ∈ cells, q.1 ∉ W.pi
 apart : ∀ q ∈ cells, ∀ r ∈ fr, q.1 ≠ r.1
 frTup : ∀ q ∈ fr, ∀ t ∈ W.tups, q.1 ≠ t.1
 clTup : ∀ q ∈ cells, ∀ t ∈ W.tups, q.1 ≠ t.1
 own : Γ.Own W ρ m cells
noncomputable def Rep (Γ : Cx) (W : Wd) (ρ : Lc) (H : Hp) (fr : List (Addr × Obj)) (h : Heap) : Prop := ∃ m cells led, Rep' Γ W ρ H fr h m cells led
theorem Rep.grown {Γ : Cx} {W : Wd} {ρ : Lc} {H : Hp} {fr : List (Addr × Obj)} {h h' : Heap} (r : Rep Γ W ρ H fr h) (up : ∀ b o, h.get? b = some o → h'.get? b = some o) : Rep Γ W ρ H fr h' := by
 obtain ⟨m, c, led, r⟩ := r
 refine ⟨m, c, led, ⟨⟨?_, fun b o e => up b o (r.F.keep b o e), r.F.above⟩, fun q hq => ⟨up _ _ (r.N q hq).1, (r.N q hq).2⟩, r.R, r.sc, r.sc0, r.frIn, r.frOff, r.clIn, r.clOff, r.apart, r.frTup, r.clTup, r.own⟩⟩
 obtain ⟨o, es, ep, h1, h2⟩ := r.F.ns
 exact ⟨o, es, ep, up _ _ h1, h2⟩
theorem Rep.push {Γ : Cx} {W : Wd} {ρ : Lc} {H : Hp} {fr : List (Addr × Obj)} {h : Heap} (r : Rep Γ W ρ H fr h) (o : Obj) : Rep Γ W ρ H fr (h.push o) := r.grown fun _ _ e => Heap.get?_push_of_some _ e
theorem Zd7 {q s : Addr × Obj} {l l' : List (Addr × Obj)} (h : q ∈ s :: l) (m : q ∈ l → q ∈ l') : q ∈ s :: l' := by
 rcases List.mem_cons.mp h with e | h
 ·exact e ▸ List.mem_cons_self
 ·exact Zz2 _ (m h)
theorem Zfx {q s : Addr × Obj} {l l' : List (Addr × Obj)} (h : q ∈ s :: l) (m : ∀ x ∈ l, x ∈ l') : q ∈ s :: l' := by
 rcases List.mem_cons.mp h with e | h
 ·exact e ▸ List.mem_cons_self
 ·exact Zz2 _ (m q h)
theorem Rep'.get {Γ : Cx} {W : Wd} {ρ : Lc} {H : Hp} {fr : List (Addr × Obj)} {h : Heap} {m : Str → Option Value} {c led : List (Addr × Obj)} (r : Rep' Γ W ρ H fr h m c led) {q : Addr × Obj} (hq : q ∈ W.sc :: led) : h.get? q.1 = some q.2 := by
 rcases List.mem_cons.mp hq with e | hq
 ·rw [e]
  exact r.F.keep _ _ r.sc
 ·exact (r.N q hq).1
theorem Rep'.off {Γ : Cx} {W : Wd} {ρ : Lc} {H : Hp} {fr : List (Addr × Obj)} {h : Heap} {m : Str → Option Value} {c led : List (Addr × Obj)} (r : Rep' Γ W ρ H fr h m c led) : ∀ q ∈ W.sc :: led, q.1 ≠ h.objs.size := fun q hq => Nat.ne_of_lt (Heap.lt_size (r.get hq))
theorem Rep'.same {Γ : Cx} {W : Wd} {ρ : Lc} {H : Hp} {fr : List (Addr × Obj)} {h h' : Heap} {m : Str → Option Value} {c led : List (Addr × Obj)} (r : Rep' Γ W ρ H fr h m c led) (F' : Fr Γ.h₀ Γ.L h' m) (N' : News Γ.h₀ Γ.L h' led) : Rep Γ W ρ H fr h' :=
 ⟨m, c, led, F', N', r.R, r.sc, r.sc0, r.frIn, r.frOff, r.clIn, r.clOff, r.apart, r.frTup, r.clTup, r.own⟩
theorem Rep'.piIn {Γ : Cx} {W : Wd} {ρ : Lc} {H : Hp} {fr : List (Addr × Obj)} {h : Heap} {m : Str → Option Value} {c led : List (Addr × Obj)} (r : Rep' Γ W ρ H fr h m c led) : ∀ a ∈ W.pi, ∃ o, (a, o) ∈ W.sc :: led := by
 intro a ha
 obtain ⟨i, hi, e⟩ := List.getElem_of_mem ha
 have hi' : i < H.length := r.R.len ▸ hi
 obtain ⟨_, b, xs, k, h1, h2, _⟩ := r.R.lists i H[i] (List.getElem?_eq_getElem hi')
 have : b = a := by rw [List.getElem?_eq_getElem hi, e] at h1; exact (Option.some.inj h1).symm
 exact ⟨_, this ▸ h2⟩
theorem Rep'.inLed {Γ : Cx} {W : Wd} {ρ : Lc} {H : Hp} {fr : List (Addr × Obj)} {h : Heap} {m : Str → Option Value} {c led : List (Addr × Obj)} (r : Rep' Γ W ρ H fr h m c led) {i : Nat} {a : Addr} {o : Obj} (hi : i ≠ 0) (ea : W.pi[i]? = some a) (hm : (a, o) ∈ W.sc :: led) : (a, o) ∈ led := by
 rcases List.mem_cons.mp hm with e | hm
 ·have e1 : a = W.sc.1 := congrArg (·.1) e
  have hl : i < W.pi.length := (Zz6.mp ea).1
  have : i = 0 := (List.getElem?_inj hl r.R.nd).mp (by rw [ea, r.sc0, e1])
  exact absurd this hi
 ·exact hm
theorem Rep'.notSc {Γ : Cx} {W : Wd} {ρ : Lc} {H : Hp} {fr : List (Addr × Obj)} {h : Heap} {m : Str → Option Value} {c led : List (Addr × Obj)} (r : Rep' Γ W ρ H fr h m c led) : ∀ q ∈ led, q.1 ≠ W.sc.1 := fun q hq e => by
 have := (r.N q hq).2.2
 rw [e, r.sc] at this
 cases this
theorem Rep'.newTup {Γ : Cx} {W : Wd} {ρ : Lc} {H : Hp} {fr : List (Addr × Obj)} {h h' : Heap} {m : Str → Option Value} {c led : List (Addr × Obj)} {vs : List V} {xs : List Value} {k : Nat} {n : Addr} (r : Rep' Γ W ρ H fr h m c led) (F' : Fr Γ.h₀ Γ.L h' m) (N' : News Γ.h₀ Γ.L h' ((n, ZeD xs k) :: led)) (hn : ∀ q ∈ W.sc :: led, q.1 ≠ n) (hv : VRs W vs xs) (hl : vs.length ≤ LEN) :
  ∃ W', W.Le W' ∧ Rep Γ W' ρ H fr h' ∧ VR W' (.tup vs) (.ref n) := by
 have le : W.Le ⟨W.pi, (n, ZeD xs k) :: W.tups, W.sc⟩ := ⟨List.prefix_refl _, fun q hq => List.mem_cons_of_mem _ hq, rfl⟩
 refine ⟨⟨W.pi, (n, ZeD xs k) :: W.tups, W.sc⟩, le, ⟨m, c, (n, ZeD xs k) :: led, ⟨F', N', ?_, r.sc, r.sc0, fun q hq => List.mem_cons_of_mem _ (r.frIn q hq), r.frOff, fun q hq => List.mem_cons_of_mem _ (r.clIn q hq), r.clOff, r.apart, fun q hq t ht => ?_, fun q hq t ht => ?_, Γ.mono le r.own⟩⟩, .tup Zz5 hl (hv.mono le)⟩
 ·refine ⟨r.R.len, r.R.nd, fun i us e => ?_, fun q hq => ?_, fun q hq => ?_⟩
  ·obtain ⟨l, a, ys, j, h1, h2, h3⟩ := r.R.lists i us e
   exact ⟨l, a, ys, j, h1, Zfx h2 fun x hx => List.mem_cons_of_mem _ hx, h3.mono le⟩
  ·rcases List.mem_cons.mp hq with e | hq
   ·exact e ▸ List.mem_cons_of_mem _ Zz5
   ·exact Zfx (r.R.tups q hq) fun x hx => List.mem_cons_of_mem _ hx
  ·rcases List.mem_cons.mp hq with e | hq
   ·exact ⟨xs, k, by rw [e]⟩
   ·exact r.R.kind q hq
 ·rcases List.mem_cons.mp ht with e | ht
  ·rw [e]
   exact hn q (Zz2 _ (r.frIn q hq))
  ·exact r.frTup q hq t ht
 ·rcases List.mem_cons.mp ht with e | ht
  ·rw [e]
   exact hn q (Zz2 _ (r.clIn q hq))
  ·exact r.clTup q hq t ht
theorem Rep.tuple {Γ : Cx} {W : Wd} {ρ : Lc} {H : Hp} {fr : List (Addr × Obj)} {h : Heap} {vs : List V} {xs : List Value} {k : Nat} (r : Rep Γ W ρ H fr h) (hv : VRs W vs xs) (hl : vs.length ≤ LEN) :
  ∃ W', W.Le W' ∧ Rep Γ W' ρ H fr (h.push (ZeD xs k)) ∧ VR W' (.tup vs) (.ref h.objs.size) := by
 obtain ⟨m, c, led, r⟩ := r
 exact r.newTup (r.F.push _) (News.push r.F r.N _) r.off hv hl
theorem Rep'.newList {Γ : Cx} {W : Wd} {ρ : Lc} {H : Hp} {fr : List (Addr × Obj)} {h h' : Heap} {m : Str → Option Value} {c led : List (Addr × Obj)} {vs : List V} {xs : List Value} {k : Nat} {n : Addr} (r : Rep' Γ W ρ H fr h m c led) (F' : Fr Γ.h₀ Γ.L h' m) (N' : News Γ.h₀ Γ.L h' ((n, Zb0 xs k) :: led)) (hn : ∀ q ∈ W.sc :: led, q.1 ≠ n) (hv : VRs W vs xs) (hl : vs.length ≤ LEN) :
  ∃ W', W.Le W' ∧ Rep Γ W' ρ (H ++ [vs]) fr h' ∧ VR W' (.ref H.length) (.ref n) := by
 have le : W.Le ⟨W.pi ++ [n], W.tups, W.sc⟩ := ⟨List.prefix_append _ _, fun q hq => hq, rfl⟩
 have h0 : 0 < W.pi.length := (Zz6.mp r.sc0).1
 have at_n : (W.pi ++ [n])[H.length]? = some n := by rw [← r.R.len]; simp
 refine ⟨⟨W.pi ++ [n], W.tups, W.sc⟩, le, ⟨m, c, (n, Zb0 xs k) :: led, ⟨F', N', ?_, r.sc, (List.getElem?_append_left h0).trans r.sc0, fun q hq => List.mem_cons_of_mem _ (r.frIn q hq), fun q hq => ?_, fun q hq => List.mem_cons_of_mem _ (r.clIn q hq), fun q hq => ?_, r.apart, r.frTup, r.clTup, Γ.mono le r.own⟩⟩, .ref at_n⟩
 ·refine ⟨by simp [r.R.len], ?_, fun i us e => ?_, fun q hq => Zfx (r.R.tups q hq) fun x hx => List.mem_cons_of_mem _ hx, r.R.kind⟩
  ·show (W.pi ++ [n]).Nodup
   rw [List.nodup_append]
   refine ⟨r.R.nd, by simp, fun a ha b hb => ?_⟩
   rw [List.mem_singleton.mp hb]
   obtain ⟨o, ho⟩ := r.piIn a ha
   exact hn _ ho
  ·by_cases hi : i < H.length
   ·rw [List.getElem?_append_left hi] at e
    obtain ⟨l, a, ys, j, h1, h2, h3⟩ := r.R.lists i us e
    exact ⟨l, a, ys, j, le.at h1, Zfx h2 fun x hx => List.mem_cons_of_mem _ hx, h3.mono le⟩
   ·have : i = H.length := by
     have := (Zz6.mp e).1
     simp at this
     omega
    subst this
    simp at e
    subst e
    exact ⟨hl, n, xs, k, at_n, List.mem_cons_of_mem _ Zz5, hv.mono le⟩
 ·intro hm
  rcases List.mem_append.mp hm with hm | hm
  ·exact r.frOff q hq hm
  ·exact hn q (Zz2 _ (r.frIn q hq)) (List.mem_singleton.mp hm)
 ·intro hm
  rcases List.mem_append.mp hm with hm | hm
  ·exact r.clOff q hq hm
  ·exact hn q (Zz2 _ (r.clIn q hq)) (List.mem_singleton.mp hm)
theorem Rep.list {Γ : Cx} {W : Wd} {ρ : Lc} {H : Hp} {fr : List (Addr × Obj)} {h : Heap} {vs : List V} {xs : List Value} {k : Nat} (r : Rep Γ W ρ H fr h) (hv : VRs W vs xs) (hl : vs.length ≤ LEN) :
  ∃ W', W.Le W' ∧ Rep Γ W' ρ (H ++ [vs]) fr (h.push (Zb0 xs k)) ∧ VR W' (.ref H.length) (.ref h.objs.size) := by
 obtain ⟨m, c, led, r⟩ := r
 exact r.newList (r.F.push _) (News.push r.F r.N _) r.off hv hl
theorem Rep.at {Γ : Cx} {W : Wd} {ρ : Lc} {H : Hp} {fr : List (Addr × Obj)} {h : Heap} {i : Nat} {a : Addr} {vs : List V} (r : Rep Γ W ρ H fr h) (e : H[i]? = some vs) (ea : W.pi[i]? = some a) : vs.length ≤ LEN ∧ ∃ xs k, h.get? a = some (Zb0 xs k) ∧ VRs W vs xs := by
 obtain ⟨m, c, led, r⟩ := r
 obtain ⟨l, b, xs, k, h1, h2, h3⟩ := r.R.lists i vs e
 rw [ea] at h1
 cases h1
 exact ⟨l, xs, k, r.get h2, h3⟩
theorem Rep.tupAt {Γ : Cx} {W : Wd} {ρ : Lc} {H : Hp} {fr : List (Addr × Obj)} {h : Heap} {q : Addr × Obj} (r : Rep Γ W ρ H fr h) (e : q ∈ W.tups) : h.get? q.1 = some q.2 := by
 obtain ⟨m, c, led, r⟩ := r
 exact r.get (r.R.tups _ e)
theorem Rep'.changed {Γ : Cx} {W : Wd} {ρ : Lc} {H : Hp} {fr : List (Addr × Obj)} {h h' : Heap} {m : Str → Option Value} {c led : List (Addr × Obj)} {i : Nat} {a : Addr} {vs us : List V} {ys : List Value} {k : Nat} (r : Rep' Γ W ρ H fr h m c led) (i0 : i ≠ 0) (e : H[i]? = some vs) (ea : W.pi[i]? = some a) (F' : Fr Γ.h₀ Γ.L h' m) (N' : News Γ.h₀ Γ.L h' ((a, Zb0 ys k) :: led.filter (fun q => decide (q.1 ≠ a)))) (hv : VRs W us ys) (hl : us.length ≤ LEN) :
  Rep Γ W ρ (H.set i us) fr h' := by
 obtain ⟨_, b, xs, j, h1, h2, h3⟩ := r.R.lists i vs e
 rw [ea] at h1
 cases h1
 have h2 := r.inLed i0 ea h2
 have hN := r.N _ h2
 have hm : a ∈ W.pi := List.mem_of_getElem? ea
 have hi : i < H.length := (Zz6.mp e).1
 refine ⟨m, c, (a, Zb0 ys k) :: led.filter (fun q => decide (q.1 ≠ a)), ⟨F', N', ?_, r.sc, r.sc0, fun q hq => ?_, r.frOff, fun q hq => ?_, r.clOff, r.apart, r.frTup, r.clTup, r.own⟩⟩
 ·refine ⟨by simp [r.R.len], r.R.nd, fun n ws en => ?_, fun q hq => ?_, r.R.kind⟩
  ·by_cases hn : n = i
   ·subst hn
    rw [List.getElem?_set_self hi] at en
    cases en
    exact ⟨hl, a, ys, k, ea, List.mem_cons_of_mem _ Zz5, hv⟩
   ·rw [List.getElem?_set_ne (Ne.symm hn)] at en
    obtain ⟨l, d, zs, j', g1, g2, g3⟩ := r.R.lists n ws en
    refine ⟨l, d, zs, j', g1, Zd7 g2 fun g2 => List.mem_cons_of_mem _ (List.mem_filter.mpr ⟨g2, ?_⟩), g3⟩
    have : d ≠ a := fun e => by
     subst e
     exact hn ((List.getElem?_inj (Zz6.mp g1).1 r.R.nd).mp (g1.trans ea.symm))
    simpa using this
  ·refine Zd7 (r.R.tups q hq) fun g2 => List.mem_cons_of_mem _ (List.mem_filter.mpr ⟨g2, ?_⟩)
   have : q.1 ≠ a := fun e => by
    obtain ⟨zs, j', hk⟩ := r.R.kind q hq
    have g := r.get (r.R.tups q hq)
    rw [e, hN.1, hk] at g
    have c := congrArg Obj.cls (Option.some.inj g)
    exact absurd c (by simp)
   simpa using this
 ·refine Zz2 _ (List.mem_filter.mpr ⟨r.frIn q hq, ?_⟩)
  have : q.1 ≠ a := fun e => r.frOff q hq (e ▸ hm)
  simpa using this
 ·refine Zz2 _ (List.mem_filter.mpr ⟨r.clIn q hq, ?_⟩)
  have : q.1 ≠ a := fun e => r.clOff q hq (e ▸ hm)
  simpa using this
theorem Rep.change {Γ : Cx} {W : Wd} {ρ : Lc} {H : Hp} {fr : List (Addr × Obj)} {h h' : Heap} {i : Nat} {a : Addr} {vs us : List V} {ys : List Value} {k : Nat} (r : Rep Γ W ρ H fr h) (i0 : i ≠ 0) (e : H[i]? = some vs) (ea : W.pi[i]? = some a) (sb : Heap.SameBut a h h') (ha : h'.get? a = some (Zb0 ys k)) (hv : VRs W us ys) (hl : us.length ≤ LEN) :
  Rep Γ W ρ (H.set i us) fr h' := by
 obtain ⟨m, c, led, r⟩ := r
 obtain ⟨_, b, xs, j, h1, h2, h3⟩ := r.R.lists i vs e
 rw [ea] at h1
 cases h1
 have h2 := r.inLed i0 ea h2
 have hN := r.N _ h2
 have keep : ∀ q ∈ led, q.1 ≠ a → h'.get? q.1 = some q.2 := fun q hq hn => sb.extBut _ _ hn (r.N q hq).1
 refine r.changed (k := k) i0 e ea ⟨r.F.ns.sameBut sb (Ne.symm hN.2.1), fun b o eb => sb.extBut b o (fun q => ?_) (r.F.keep b o eb), r.F.above⟩ (fun q hq => ?_) hv hl
 ·subst q
  rw [hN.2.2] at eb
  cases eb
 ·rcases List.mem_cons.mp hq with e | hq
  ·subst e
   exact ⟨ha, hN.2⟩
  ·obtain ⟨h1, h2⟩ := List.mem_filter.mp hq
   exact ⟨keep q h1 (by simpa using h2), (r.N q h1).2⟩
theorem Rep.swap {Γ : Cx} {W : Wd} {ρ : Lc} {H : Hp} {fs fs' fr : List (Addr × Obj)} {h h' : Heap} (r : Rep Γ W ρ H (fs ++ fr) h) (ap : ∀ q ∈ fs, ∀ t ∈ fr, q.1 ≠ t.1) (keep : ∀ b o, b ∉ fs.map (·.1) → h.get? b = some o → h'.get? b = some o) (new : ∀ q ∈ fs', h'.get? q.1 = some q.2 ∧ q.1 ∈ fs.map (·.1)) : Rep Γ W ρ H (fs' ++ fr) h' := by
 obtain ⟨m, c, led, r⟩ := r
 have inF : ∀ q ∈ fs, q ∈ fs ++ fr := fun q hq => List.mem_append_left _ hq
 have nL : ∀ a ∈ fs.map (·.1), a ≠ Γ.L ∧ Γ.h₀.get? a = none := fun a ha => by
  obtain ⟨q, hq, e⟩ := List.mem_map.mp ha
  exact e ▸ (r.N q (r.frIn q (inF q hq))).2
 have kp : ∀ q ∈ led, q.1 ∉ fs.map (·.1) → h'.get? q.1 = some q.2 := fun q hq hn => keep _ _ hn (r.N q hq).1
 refine ⟨m, c, fs' ++ led.filter (fun q => decide (q.1 ∉ fs.map (·.1))), ⟨⟨?_, fun b o e => ?_, r.F.above⟩, fun q hq => ?_, ⟨r.R.len, r.R.nd, fun i vs e => ?_, fun q hq => ?_, r.R.kind⟩, r.sc, r.sc0, fun q hq => ?_, fun q hq => ?_, fun q hq => ?_, r.clOff, fun q hq t ht => ?_, fun q hq t ht => ?_, r.clTup, r.own⟩⟩
 ·obtain ⟨o, es, ep, h1, h2⟩ := r.F.ns
  exact ⟨o, es, ep, keep _ _ (fun q => (nL _ q).1 rfl) h1, h2⟩
 ·refine keep b o (fun q => ?_) (r.F.keep b o e)
  rw [(nL b q).2] at e
  cases e
 ·rcases List.mem_append.mp hq with hq | hq
  ·obtain ⟨h1, h2⟩ := new q hq
   exact ⟨h1, nL _ h2⟩
  ·obtain ⟨h1, h2⟩ := List.mem_filter.mp hq
   exact ⟨kp q h1 (by simpa using h2), (r.N q h1).2⟩
 ·obtain ⟨l, a, xs, k, h1, h2, h3⟩ := r.R.lists i vs e
  refine ⟨l, a, xs, k, h1, Zd7 h2 fun h2 => List.mem_append_right _ (List.mem_filter.mpr ⟨h2, ?_⟩), h3⟩
  have : a ∉ fs.map (·.1) := fun q => by
   obtain ⟨t, ht, e⟩ := List.mem_map.mp q
   exact r.frOff t (inF t ht) (e ▸ List.mem_of_getElem? h1)
  simpa using this
 ·refine Zd7 (r.R.tups q hq) fun h2 => List.mem_append_right _ (List.mem_filter.mpr ⟨h2, ?_⟩)
  have : q.1 ∉ fs.map (·.1) := fun z => by
   obtain ⟨t, ht, e⟩ := List.mem_map.mp z
   exact r.frTup t (inF t ht) q hq e
  simpa using this
 ·rcases List.mem_append.mp hq with hq | hq
  ·exact Zz4 _ hq
  ·refine Zz3 _ (List.mem_filter.mpr ⟨r.frIn q (Zz3 _ hq), ?_⟩)
   have : q.1 ∉ fs.map (·.1) := fun z => by
    obtain ⟨t, ht, e⟩ := List.mem_map.mp z
    exact ap t ht q hq e
   simpa using this
 ·rcases List.mem_append.mp hq with hq | hq
  ·obtain ⟨t, ht, e⟩ := List.mem_map.mp (new q hq).2
   exact e ▸ r.frOff t (inF t ht)
  ·exact r.frOff q (Zz3 _ hq)
 ·refine Zz3 _ (List.mem_filter.mpr ⟨r.clIn q hq, ?_⟩)
  have : q.1 ∉ fs.map (·.1) := fun z => by
   obtain ⟨t, ht, e⟩ := List.mem_map.mp z
   exact r.apart q hq t (inF t ht) e.symm
  simpa using this
 ·rcases List.mem_append.mp ht with ht | ht
  ·obtain ⟨u, hu, e⟩ := List.mem_map.mp (new t ht).2
   exact e ▸ r.apart q hq u (inF u hu)
  ·exact r.apart q hq t (Zz3 _ ht)
 ·rcases List.mem_append.mp hq with hq | hq
  ·obtain ⟨u, hu, e⟩ := List.mem_map.mp (new q hq).2
   exact e ▸ r.frTup u (inF u hu) t ht
  ·exact r.frTup q (Zz3 _ hq) t ht
theorem Rep.more {Γ : Cx} {W : Wd} {ρ : Lc} {H : Hp} {fs fr : List (Addr × Obj)} {h h' : Heap} (r : Rep Γ W ρ H fr h) (up : ∀ b o, h.get? b = some o → h'.get? b = some o) (new : ∀ q ∈ fs, h'.get? q.1 = some q.2 ∧ h.objs.size ≤ q.1) : Rep Γ W ρ H (fs ++ fr) h' ∧ ∀ q ∈ fs, ∀ t ∈ fr, q.1 ≠ t.1 := by
 have r' := r.grown up
 obtain ⟨m, c, led, r⟩ := r
 have lt : ∀ q ∈ W.sc :: led, q.1 < h.objs.size := fun q hq => Heap.lt_size (r.get hq)
 have ne : ∀ q ∈ fs, ∀ t ∈ W.sc :: led, q.1 ≠ t.1 := fun q hq t ht => Nat.ne_of_gt (Nat.lt_of_lt_of_le (lt t ht) (new q hq).2)
 refine ⟨⟨m, c, fs ++ led, ⟨⟨?_, fun b o e => up b o (r.F.keep b o e), r.F.above⟩, fun q hq => ?_, r.R.mono fun q hq => Zfx hq fun x hx => List.mem_append_right _ hx, r.sc, r.sc0, fun q hq => ?_, fun q hq => ?_, fun q hq => List.mem_append_right _ (r.clIn q hq), r.clOff, fun q hq t ht => ?_, fun q hq t ht => ?_, r.clTup, r.own⟩⟩, fun q hq t ht => ne q hq t (Zz2 _ (r.frIn t ht))⟩
 ·obtain ⟨o, es, ep, h1, h2⟩ := r.F.ns
  exact ⟨o, es, ep, up _ _ h1, h2⟩
 ·rcases List.mem_append.mp hq with hq | hq
  ·obtain ⟨h1, h2⟩ := new q hq
   refine ⟨h1, fun e => ?_, ?_⟩
   ·exact absurd (e ▸ r.F.ns.lt) (Nat.not_lt.mpr h2)
   ·cases e : Γ.h₀.get? q.1 with
    | none => rfl
    | some o => exact absurd (Heap.lt_size (r.F.keep _ _ e)) (Nat.not_lt.mpr h2)
  ·exact ⟨up _ _ (r.N q hq).1, (r.N q hq).2⟩
 ·rcases List.mem_append.mp hq with hq | hq
  ·exact Zz4 _ hq
  ·exact Zz3 _ (r.frIn q hq)
 ·rcases List.mem_append.mp hq with hq | hq
  ·intro hm
   obtain ⟨o, ho⟩ := r.piIn _ hm
   exact ne q hq _ ho rfl
  ·exact r.frOff q hq
 ·rcases List.mem_append.mp ht with ht | ht
  ·exact (ne t ht q (Zz2 _ (r.clIn q hq))).symm
  ·exact r.apart q hq t ht
 ·rcases List.mem_append.mp hq with hq | hq
  ·exact ne q hq t (r.R.tups t ht)
  ·exact r.frTup q hq t ht
theorem Rep.less {Γ : Cx} {W : Wd} {ρ : Lc} {H : Hp} {fs fr : List (Addr × Obj)} {h : Heap} (r : Rep Γ W ρ H fs h) (sub : ∀ q ∈ fr, q ∈ fs) : Rep Γ W ρ H fr h := by
 obtain ⟨m, c, led, r⟩ := r
 exact ⟨m, c, led, ⟨r.F, r.N, r.R, r.sc, r.sc0, fun q hq => r.frIn q (sub q hq), fun q hq => r.frOff q (sub q hq), r.clIn, r.clOff, fun q hq t ht => r.apart q hq t (sub t ht), fun q hq => r.frTup q (sub q hq), r.clTup, r.own⟩⟩
theorem Rep.frAt {Γ : Cx} {W : Wd} {ρ : Lc} {H : Hp} {fr : List (Addr × Obj)} {h : Heap} {q : Addr × Obj} (r : Rep Γ W ρ H fr h) (hq : q ∈ fr) : h.get? q.1 = some q.2 := by
 obtain ⟨m, c, led, r⟩ := r
 exact (r.N q (r.frIn q hq)).1
end PM
end
section
set_option maxRecDepth 100000
set_option linter.all false
set_option autoImplicit false
namespace PM
open PySem PyProof.Rows PyProof
noncomputable abbrev Ex := Lc → Hp → Option (V × Hp)
noncomputable abbrev Exs := Lc → Hp → Option (List V × Hp)
noncomputable abbrev Ts := Lc → Hp → Option (Bool × Hp)
noncomputable abbrev ZgJ (Γ : Cx) (W : Wd) (ρ : Lc) (H : Hp) (fr : List (Addr × Obj)) (s : Shared) (Q : Value → Shared → Prop) (v : V) : Prop :=
 ∀ (W' : Wd) (h' : Heap) (tk' : Nat) (x : Value), W.Le W' → Rep Γ W' ρ H fr h' → VR W' v x → Q x { s with heap := h', toks := tk' }
noncomputable abbrev Zix (Γ : Cx) (W : Wd) (ρ : Lc) (H : Hp) (fr : List (Addr × Obj)) (s : Shared) (Q : Bool → Shared → Prop) (b : Bool) : Prop :=
 ∀ (W' : Wd) (h' : Heap) (tk' : Nat), W.Le W' → Rep Γ W' ρ H fr h' → Q b { s with heap := h', toks := tk' }
section
variable (prog : Program) (w : World)
noncomputable def J (Γ : Cx) (e : Expr) (f : Ex) : Prop := ∀ (W : Wd) (ρ : Lc) (H : Hp) (fr : List (Addr × Obj)) (s : Shared) (Q E : Value → Shared → Prop) (v : V) (H' : Hp),
 Rep Γ W ρ H fr s.heap → f ρ H = some (v, H') → ZgJ Γ W ρ H' fr s Q v → wpAny (model prog w) Γ.A (eval e Γ.env) Q E s
noncomputable def Js (Γ : Cx) (es : List Expr) (f : Exs) : Prop := ∀ (pos : Pos) (W : Wd) (ρ : Lc) (H : Hp) (fr : List (Addr × Obj)) (s : Shared) (Q : List Value → Shared → Prop) (E : Value → Shared → Prop) (vs : List V) (H' : Hp),
 Rep Γ W ρ H fr s.heap → f ρ H = some (vs, H') → (∀ (W' : Wd) (h' : Heap) (tk' : Nat) (xs : List Value), W.Le W' → Rep Γ W' ρ H' fr h' → VRs W' vs xs → Q xs { s with heap := h', toks := tk' }) → wpAny (model prog w) Γ.A (spliced (backTo pos (starEach es Γ.env))) Q E s
noncomputable def JT (Γ : Cx) (e : Expr) (f : Ts) : Prop := ∀ (W : Wd) (ρ : Lc) (H : Hp) (fr : List (Addr × Obj)) (s : Shared) (Q : Bool → Shared → Prop) (E : Value → Shared → Prop) (b : Bool) (H' : Hp),
 Rep Γ W ρ H fr s.heap → f ρ H = some (b, H') → Zix Γ W ρ H' fr s Q b → wpAny (model prog w) Γ.A (isTrue e Γ.env (eval e Γ.env)) Q E s
noncomputable def Op2 (m : Value → Value → Sem Value) (o : V → V → Hp → Option (V × Hp)) : Prop := ∀ (Γ : Cx) (W : Wd) (ρ : Lc) (H : Hp) (fr : List (Addr × Obj)) (s : Shared) (Q E : Value → Shared → Prop) (a b : V) (x y : Value) (v : V) (H' : Hp),
 Rep Γ W ρ H fr s.heap → VR W a x → VR W b y → o a b H = some (v, H') → ZgJ Γ W ρ H' fr s Q v → wpAny (model prog w) Γ.A (m x y) Q E s
noncomputable def Op1 (m : Value → Sem Value) (o : V → Hp → Option (V × Hp)) : Prop := ∀ (Γ : Cx) (W : Wd) (ρ : Lc) (H : Hp) (fr : List (Addr × Obj)) (s : Shared) (Q E : Value → Shared → Prop) (a : V) (x : Value) (v : V) (H' : Hp),
 Rep Γ W ρ H fr s.heap → VR W a x → o a H = some (v, H') → ZgJ Γ W ρ H' fr s Q v → wpAny (model prog w) Γ.A (m x) Q E s
noncomputable def OpT (m : Value → Sem Bool) (o : V → Hp → Option Bool) : Prop := ∀ (Γ : Cx) (W : Wd) (ρ : Lc) (H : Hp) (fr : List (Addr × Obj)) (s : Shared) (Q : Bool → Shared → Prop) (E : Value → Shared → Prop) (a : V) (x : Value) (b : Bool),
 Rep Γ W ρ H fr s.heap → VR W a x → o a H = some b → Zix Γ W ρ H fr s Q b → wpAny (model prog w) Γ.A (m x) Q E s
end
noncomputable def Zl (k : Int) : Ex := fun _ H => some (.int k, H)
noncomputable def ZY : Ex := fun _ H => some (.none, H)
noncomputable def ZbZ (b : Bool) : Ex := fun _ H => some (.bool b, H)
noncomputable def Zd8 (x : Str) : Ex := fun _ H => some (.str x, H)
noncomputable def Zb (i : Nat) : Ex := fun ρ H => (ρ i).map fun v => (v, H)
noncomputable def Zj (o : V → V → Hp → Option (V × Hp)) (f g : Ex) : Ex := fun ρ H => (f ρ H).bind fun p => (g ρ p.2).bind fun q => o p.1 q.1 q.2
noncomputable def eUn (o : V → Hp → Option (V × Hp)) (f : Ex) : Ex := fun ρ H => (f ρ H).bind fun p => o p.1 p.2
noncomputable def eIf (t : Ts) (f g : Ex) : Ex := fun ρ H => (t ρ H).bind fun p => if p.1 then f ρ p.2 else g ρ p.2
noncomputable def Zo : Exs := fun _ H => some ([], H)
noncomputable def Zf (f : Ex) (g : Exs) : Exs := fun ρ H => (f ρ H).bind fun p => (g ρ p.2).bind fun q => some (p.1 :: q.1, q.2)
noncomputable def ZaK (g : Exs) : Ex := fun ρ H => (g ρ H).bind fun p => if p.1.length ≤ LEN then some (.tup p.1, p.2) else none
noncomputable def Zb7 (g : Exs) : Ex := fun ρ H => (g ρ H).bind fun p => if p.1.length ≤ LEN then some (.ref p.2.length, p.2 ++ [p.1]) else none
noncomputable def ZcL : V → Hp → Option Bool
 | .bool b, _ => some b
 | .int i, _ => some (i != 0)
 | .none, _ => some false
 | _, _ => none
noncomputable def ZH (f : Ex) : Ts := fun ρ H => (f ρ H).bind fun p => (ZcL p.1 p.2).map fun b => (b, p.2)
noncomputable def Zcc (t : Ts) : Ts := fun ρ H => (t ρ H).map fun p => (!p.1, p.2)
noncomputable def Zao : Ts := fun _ H => some (true, H)
noncomputable def Zcn : Ts := fun _ H => some (false, H)
noncomputable def Zav (t u : Ts) : Ts := fun ρ H => (t ρ H).bind fun p => if p.1 then u ρ p.2 else some (false, p.2)
noncomputable def tOr (t u : Ts) : Ts := fun ρ H => (t ρ H).bind fun p => if p.1 then some (true, p.2) else u ρ p.2
noncomputable def ZiG (f : Ex) : Ex := fun ρ H => (f ρ H).bind fun p => (ZcL p.1 p.2).map fun b => (.bool (!b), p.2)
noncomputable def Zc2 (f g : Ex) : Ex := fun ρ H => (f ρ H).bind fun p => (ZcL p.1 p.2).bind fun b => if b then g ρ p.2 else some p
noncomputable def eOr (f g : Ex) : Ex := fun ρ H => (f ρ H).bind fun p => (ZcL p.1 p.2).bind fun b => if b then some p else g ρ p.2
section
variable {prog : Program} {w : World} {Γ : Cx}
theorem J.int (k : Int) (n : Nat) (pos : Pos) : J prog w Γ (.Constant (.int k) n pos) (Zl k) := fun W ρ H fr s Q E v H' r e post => by
 cases e
 exact wpAny_Constant_int (post W s.heap _ _ (.refl W) r (.int k _))
theorem J.none (n : Nat) (pos : Pos) : J prog w Γ (.Constant .none n pos) ZY := fun W ρ H fr s Q E v H' r e post => by
 cases e
 exact wpAny_Constant_none (post W s.heap s.toks _ (.refl W) r .none)
theorem J.bool (b : Bool) (n : Nat) (pos : Pos) : J prog w Γ (.Constant (.bool b) n pos) (ZbZ b) := fun W ρ H fr s Q E v H' r e post => by
 cases e
 exact wpAny_Constant_bool (post W s.heap s.toks _ (.refl W) r (.bool b))
theorem J.str (x : Str) (n : Nat) (pos : Pos) : J prog w Γ (.Constant (.str x) n pos) (Zd8 x) := fun W ρ H fr s Q E v H' r e post => by
 cases e
 exact wpAny_Constant_str (post W s.heap _ _ (.refl W) r (.str x _))
theorem ZL {e1 e2 : Expr} {op : Operator} {pos : Pos} {f g : Ex} {o : V → V → Hp → Option (V × Hp)} (h1 : J prog w Γ e1 f) (h2 : J prog w Γ e2 g) (ho : Op2 prog w (binaryOp op) o) : J prog w Γ (.BinOp e1 op e2 pos) (Zj o f g) := by
 intro W ρ H fr s Q E v H' r hf post
 obtain ⟨p, e1, hf⟩ := Zz0.mp hf
 obtain ⟨q, e2, e3⟩ := Zz0.mp hf
 refine wpAny_BinOp (h1 W ρ H fr s _ E _ _ r e1 fun W1 k1 t1 x l1 r1 x1 => ?_)
 refine h2 W1 ρ _ fr _ _ E _ _ r1 e2 fun W2 k2 t2 y l2 r2 y2 => ?_
 exact ho Γ W2 ρ _ fr _ Q E _ _ x y v H' r2 (x1.mono l2) y2 e3 fun W3 k3 t3 z l3 r3 z3 => post W3 k3 t3 z ((l1.trans l2).trans l3) r3 z3
theorem Zcr {e1 e2 : Expr} {op : CmpOp} {pos : Pos} {f g : Ex} {o : V → V → Hp → Option (V × Hp)} (h1 : J prog w Γ e1 f) (h2 : J prog w Γ e2 g) (ho : Op2 prog w (compareOp op) o) (hm : behindInMarks op e2 = false := by with_unfolding_all rfl) : J prog w Γ (.Compare e1 [op] [e2] pos) (Zj o f g) := by
 intro W ρ H fr s Q E v H' r hf post
 obtain ⟨p, e1, hf⟩ := Zz0.mp hf
 obtain ⟨q, e2, e3⟩ := Zz0.mp hf
 refine wpAny_Compare1 (h1 W ρ H fr s _ E _ _ r e1 fun W1 k1 t1 x l1 r1 x1 => ?_) hm
 refine h2 W1 ρ _ fr _ _ E _ _ r1 e2 fun W2 k2 t2 y l2 r2 y2 => ?_
 exact ho Γ W2 ρ _ fr _ Q E _ _ x y v H' r2 (x1.mono l2) y2 e3 fun W3 k3 t3 z l3 r3 z3 => post W3 k3 t3 z ((l1.trans l2).trans l3) r3 z3
theorem ZbO {e1 : Expr} {op : UnaryOp} {pos : Pos} {f : Ex} {o : V → Hp → Option (V × Hp)} (h1 : J prog w Γ e1 f) (ho : Op1 prog w (unaryOp op) o) : J prog w Γ (.UnaryOp op e1 pos) (eUn o f) := by
 intro W ρ H fr s Q E v H' r hf post
 obtain ⟨p, e1, hf⟩ := Zz0.mp hf
 refine wpAny_UnaryOp (h1 W ρ H fr s _ E _ _ r e1 fun W1 k1 t1 x l1 r1 x1 => ?_)
 exact ho Γ W1 ρ _ fr _ Q E _ x v H' r1 x1 hf fun W3 k3 t3 z l3 r3 z3 => post W3 k3 t3 z (l1.trans l3) r3 z3
theorem truth : OpT prog w truthy ZcL := by
 intro Γ W ρ H fr s Q E a x b r hx ho post
 cases hx with
 | none => cases ho; exact truthy_none (post W s.heap s.toks (.refl W) r)
 | bool c => cases ho; exact fun _ _ _ => post W s.heap s.toks (.refl W) r
 | int i t => cases ho; exact P.truthy_int (post W s.heap s.toks (.refl W) r)
 | str _ _ => cases ho
 | tup _ _ _ => cases ho
 | ref _ => cases ho
theorem Zwp {e1 : Expr} {pos : Pos} {f : Ex} (h1 : J prog w Γ e1 f) : J prog w Γ (.UnaryOp .Not e1 pos) (ZiG f) := by
 intro W ρ H fr s Q E v H' r hf post
 obtain ⟨p, e1, hf⟩ := Zz0.mp hf
 obtain ⟨b, e2, e3⟩ := Zz1.mp hf
 cases e3
 refine wpAny_UnaryOp (h1 W ρ H fr s _ E _ _ r e1 fun W1 k1 t1 x l1 r1 x1 => ?_)
 exact not_of (truth Γ W1 ρ _ fr _ _ E _ x b r1 x1 e2 fun W2 k2 t2 l2 r2 => post W2 k2 t2 _ (l1.trans l2) r2 (.bool _))
theorem Zfy {e1 e2 : Expr} {pos : Pos} {f g : Ex} (h1 : J prog w Γ e1 f) (h2 : J prog w Γ e2 g) : J prog w Γ (.BoolOp .And [e1, e2] pos) (Zc2 f g) := by
 intro W ρ H fr s Q E v H' r hf post
 obtain ⟨p, e1, hf⟩ := Zz0.mp hf
 obtain ⟨b, e2, e3⟩ := Zz0.mp hf
 refine wpAny_And2 (h1 W ρ H fr s _ E _ _ r e1 fun W1 k1 t1 x l1 r1 x1 => ?_)
 refine truth Γ W1 ρ _ fr _ _ E _ x b r1 x1 e2 fun W2 k2 t2 l2 r2 => ?_
 cases b with
 | true => exact h2 W2 ρ _ fr _ Q E v H' r2 e3 fun W3 k3 t3 z l3 r3 z3 => post W3 k3 t3 z ((l1.trans l2).trans l3) r3 z3
 | false =>
  cases e3
  exact post W2 k2 t2 x (l1.trans l2) r2 (x1.mono l2)
theorem ZwP {e1 e2 : Expr} {pos : Pos} {f g : Ex} (h1 : J prog w Γ e1 f) (h2 : J prog w Γ e2 g) : J prog w Γ (.BoolOp .Or [e1, e2] pos) (eOr f g) := by
 intro W ρ H fr s Q E v H' r hf post
 obtain ⟨p, e1, hf⟩ := Zz0.mp hf
 obtain ⟨b, e2, e3⟩ := Zz0.mp hf
 refine wpAny_Or2 (h1 W ρ H fr s _ E _ _ r e1 fun W1 k1 t1 x l1 r1 x1 => ?_)
 refine truth Γ W1 ρ _ fr _ _ E _ x b r1 x1 e2 fun W2 k2 t2 l2 r2 => ?_
 cases b with
 | false => exact h2 W2 ρ _ fr _ Q E v H' r2 e3 fun W3 k3 t3 z l3 r3 z3 => post W3 k3 t3 z ((l1.trans l2).trans l3) r3 z3
 | true =>
  cases e3
  exact post W2 k2 t2 x (l1.trans l2) r2 (x1.mono l2)
theorem Zex {t e1 e2 : Expr} {pos : Pos} {u : Ts} {f g : Ex} (ht : JT prog w Γ t u) (h1 : J prog w Γ e1 f) (h2 : J prog w Γ e2 g) : J prog w Γ (.IfExp t e1 e2 pos) (eIf u f g) := by
 intro W ρ H fr s Q E v H' r hf post
 obtain ⟨p, e1, hf⟩ := Zz0.mp hf
 refine wpAny_IfExp (ht W ρ H fr s _ E _ _ r e1 fun W1 k1 t1 l1 r1 => ?_)
 obtain ⟨b, H1⟩ := p
 cases b with
 | true => exact h1 W1 ρ _ fr _ Q E v H' r1 hf fun W3 k3 t3 z l3 r3 z3 => post W3 k3 t3 z (l1.trans l3) r3 z3
 | false => exact h2 W1 ρ _ fr _ Q E v H' r1 hf fun W3 k3 t3 z l3 r3 z3 => post W3 k3 t3 z (l1.trans l3) r3 z3
theorem Zq : Js prog w Γ [] Zo := fun pos W ρ H fr s Q E vs H' r hf post => by
 cases hf
 exact wpAny_items_nil (post W s.heap s.toks [] (.refl W) r .nil)
theorem Zg {e : Expr} {es : List Expr} {f : Ex} {g : Exs} (h1 : J prog w Γ e f) (h2 : Js prog w Γ es g) (he : starEach (e :: es) Γ.env = (false, eval e Γ.env) :: starEach es Γ.env := by rfl) : Js prog w Γ (e :: es) (Zf f g) := by
 intro pos W ρ H fr s Q E vs H' r hf post
 obtain ⟨p, e1, hf⟩ := Zz0.mp hf
 obtain ⟨q, e2, e3⟩ := Zz0.mp hf
 cases e3
 refine wpAny_items_cons (h1 W ρ H fr s _ E _ _ r e1 fun W1 k1 t1 x l1 r1 x1 => ?_) he
 exact h2 pos W1 ρ _ fr _ _ E _ _ r1 e2 fun W2 k2 t2 ys l2 r2 y2 => post W2 k2 t2 _ (l1.trans l2) r2 (.cons (x1.mono l2) y2)
theorem J.tup {es : List Expr} {k : Nat} {pos : Pos} {g : Exs} (h : Js prog w Γ es g) : J prog w Γ (.Tuple es k pos) (ZaK g) := by
 intro W ρ H fr s Q E v H' r hf post
 obtain ⟨p, e1, hf⟩ := Zz0.mp hf
 by_cases hl : p.1.length ≤ LEN
 ·rw [if_pos hl] at hf
  cases hf
  refine wpAny_Tuple (h pos W ρ H fr s _ E _ _ r e1 fun W1 k1 t1 xs l1 r1 x1 => ⟨Zc7 (by rw [x1.length]; exact hl), ?_⟩)
  obtain ⟨W2, l2, r2, v2⟩ := r1.tuple (k := 0) x1 hl
  exact post W2 _ _ _ (l1.trans l2) r2 v2
 ·rw [if_neg hl] at hf
  cases hf
theorem J.list {es : List Expr} {pos : Pos} {g : Exs} (h : Js prog w Γ es g) : J prog w Γ (.List es pos) (Zb7 g) := by
 intro W ρ H fr s Q E v H' r hf post
 obtain ⟨p, e1, hf⟩ := Zz0.mp hf
 by_cases hl : p.1.length ≤ LEN
 ·rw [if_pos hl] at hf
  cases hf
  refine wpAny_List (h pos W ρ H fr s _ E _ _ r e1 fun W1 k1 t1 xs l1 r1 x1 => ⟨Zc7 (by rw [x1.length]; exact hl), ?_⟩)
  obtain ⟨W2, l2, r2, v2⟩ := r1.list (k := 0) x1 hl
  exact post W2 _ _ _ (l1.trans l2) r2 v2
 ·rw [if_neg hl] at hf
  cases hf
theorem ZcA {e : Expr} {pos : Pos} {t : Ts} (h : JT prog w Γ e t) : JT prog w Γ (.UnaryOp .Not e pos) (Zcc t) := by
 intro W ρ H fr s Q E b H' r hf post
 obtain ⟨p, e1, e2⟩ := Zz1.mp hf
 cases e2
 exact isTrue_not (h W ρ H fr s _ E _ _ r e1 post)
noncomputable def JA (prog : Program) (w : World) (Γ : Cx) (op : BoolOp) (es : List Expr) (f : Ts) : Prop := ∀ (W : Wd) (ρ : Lc) (H : Hp) (fr : List (Addr × Obj)) (s : Shared) (Q : Bool → Shared → Prop) (E : Value → Shared → Prop) (b : Bool) (H' : Hp),
 Rep Γ W ρ H fr s.heap → f ρ H = some (b, H') → Zix Γ W ρ H' fr s Q b → wpAny (model prog w) Γ.A (allTrue op es Γ.env) Q E s
theorem Zca : JA prog w Γ .And [] Zao := fun W ρ H fr s Q E b H' r hf post => by
 cases hf
 exact wpAny_allTrue_And_nil (post W s.heap s.toks (.refl W) r)
theorem ZcI : JA prog w Γ .Or [] Zcn := fun W ρ H fr s Q E b H' r hf post => by
 cases hf
 exact wpAny_allTrue_Or_nil (post W s.heap s.toks (.refl W) r)
theorem ZaB {e : Expr} {es : List Expr} {t u : Ts} (h1 : JT prog w Γ e t) (h2 : JA prog w Γ .And es u) : JA prog w Γ .And (e :: es) (Zav t u) := by
 intro W ρ H fr s Q E b H' r hf post
 obtain ⟨p, e1, hf⟩ := Zz0.mp hf
 refine wpAny_allTrue_And_cons (h1 W ρ H fr s _ E _ _ r e1 fun W1 k1 t1 l1 r1 => ?_)
 obtain ⟨c, H1⟩ := p
 cases c with
 | true => exact h2 W1 ρ _ fr _ Q E b H' r1 hf fun W3 k3 t3 l3 r3 => post W3 k3 t3 (l1.trans l3) r3
 | false =>
  cases hf
  exact post W1 k1 t1 l1 r1
theorem Za5 {e : Expr} {es : List Expr} {t u : Ts} (h1 : JT prog w Γ e t) (h2 : JA prog w Γ .Or es u) : JA prog w Γ .Or (e :: es) (tOr t u) := by
 intro W ρ H fr s Q E b H' r hf post
 obtain ⟨p, e1, hf⟩ := Zz0.mp hf
 refine wpAny_allTrue_Or_cons (h1 W ρ H fr s _ E _ _ r e1 fun W1 k1 t1 l1 r1 => ?_)
 obtain ⟨c, H1⟩ := p
 cases c with
 | false => exact h2 W1 ρ _ fr _ Q E b H' r1 hf fun W3 k3 t3 l3 r3 => post W3 k3 t3 (l1.trans l3) r3
 | true =>
  cases hf
  exact post W1 k1 t1 l1 r1
theorem ZaY {op : BoolOp} {es : List Expr} {pos : Pos} {t : Ts} (h : JA prog w Γ op es t) : JT prog w Γ (.BoolOp op es pos) t := fun W ρ H fr s Q E b H' r hf post => wpAny_isTrue_BoolOp (h W ρ H fr s Q E b H' r hf post)
theorem Zbd {e : Expr} {f : Ex} (h : J prog w Γ e f) (he : isTrue e Γ.env (eval e Γ.env) = (do let v ← eval e Γ.env; standAt e.pos; holding [v] (truthy v)) := by rfl) : JT prog w Γ e (ZH f) := by
 intro W ρ H fr s Q E b H' r hf post
 obtain ⟨p, e1, hf⟩ := Zz0.mp hf
 obtain ⟨c, e2, e3⟩ := Zz1.mp hf
 cases e3
 refine isTrue_plain (h W ρ H fr s _ E _ _ r e1 fun W1 k1 t1 x l1 r1 x1 => ?_) he
 exact truth Γ W1 ρ _ fr _ _ E _ x b r1 x1 e2 fun W2 k2 t2 l2 r2 => post W2 k2 t2 (l1.trans l2) r2
theorem ZP {e1 e2 : Expr} {op : CmpOp} {pos : Pos} {f g : Ex} {o : V → V → Hp → Option (V × Hp)} (h1 : J prog w Γ e1 f) (h2 : J prog w Γ e2 g) (ho : Op2 prog w (compareOp op) o) (hm : behindInMarks op e2 = false := by with_unfolding_all rfl) : JT prog w Γ (.Compare e1 [op] [e2] pos) (ZH (Zj o f g)) := by
 intro W ρ H fr s Q E b H' r hf post
 obtain ⟨pp, e0, hf0⟩ := Zz0.mp hf
 obtain ⟨c, e4, e5⟩ := Zz1.mp hf0
 cases e5
 obtain ⟨p, e1, hf⟩ := Zz0.mp e0
 obtain ⟨q, e2, e3⟩ := Zz0.mp hf
 refine wpAny_isTrue_Compare1 (h1 W ρ H fr s _ E _ _ r e1 fun W1 k1 t1 x l1 r1 x1 => ?_) hm
 refine h2 W1 ρ _ fr _ _ E _ _ r1 e2 fun W2 k2 t2 y l2 r2 y2 => ?_
 refine ho Γ W2 ρ _ fr _ _ E _ _ x y _ _ r2 (x1.mono l2) y2 e3 fun W3 k3 t3 z l3 r3 z3 => ?_
 exact truth Γ W3 ρ _ fr _ _ E _ z b r3 z3 e4 fun W4 k4 t4 l4 r4 => post W4 k4 t4 (((l1.trans l2).trans l3).trans l4) r4
end
end PM
end
section
set_option maxRecDepth 100000
set_option linter.all false
set_option autoImplicit false
namespace PM
open PySem PyProof.Rows PyProof
noncomputable def mulOk (a b : Int) : Bool := !(decide (Builtin.Int.intBits a > shortFactorBits) && decide (Builtin.Int.intBits b > shortFactorBits) && Builtin.Int.intTooBig (Builtin.Int.intBits a + Builtin.Int.intBits b))
theorem ZtI {a b : Int} (h : mulOk a b = true) : IntMulOk a b := by
 unfold mulOk at h
 unfold IntMulOk
 intro c
 rw [c] at h
 cases h
noncomputable def Zbj : V → V → Hp → Option (V × Hp)
 | .int a, .int b, H => some (.int (a - b), H)
 | _, _, _ => none
noncomputable def oDiv : V → V → Hp → Option (V × Hp)
 | .int a, .int b, H => if b ≠ 0 ∧ Builtin.divisionGoesByPylong a b = false then some (.int (a.fdiv b), H) else none
 | _, _, _ => none
noncomputable def oMod : V → V → Hp → Option (V × Hp)
 | .int a, .int b, H => if b ≠ 0 then some (.int (a.fmod b), H) else none
 | _, _, _ => none
noncomputable def oPow : V → V → Hp → Option (V × Hp)
 | .int a, .int b, H => if 0 ≤ b ∧ (Builtin.Int.intBits a : Int) * b ≤ 2 ^ 27 then some (.int (a ^ b.toNat), H) else none
 | _, _, _ => none
noncomputable def Zbx : V → Hp → Option (V × Hp)
 | .int a, H => some (.int (-a), H)
 | _, _ => none
noncomputable def ZiH (p : Int → Int → Bool) : V → V → Hp → Option (V × Hp)
 | .int a, .int b, H => some (.bool (p a b), H)
 | _, _, _ => none
noncomputable def oLt := ZiH fun a b => decide (a < b)
noncomputable def oLe := ZiH fun a b => decide (a ≤ b)
noncomputable def oGt := ZiH fun a b => decide (b < a)
section
variable {prog : Program} {w : World}
theorem Zbo : Op2 prog w (binaryOp .Sub) Zbj := by
 intro Γ W ρ H fr s Q E a b x y v H' r hx hy ho post
 cases hx <;> first | (cases ho; done) | skip
 cases hy <;> first | (cases ho; done) | skip
 cases ho
 exact PySem.P.sub_int (post W s.heap _ _ (.refl W) r (.int _ _))
theorem Zbe : Op2 prog w (binaryOp .Mod) oMod := by
 intro Γ W ρ H fr s Q E a b x y v H' r hx hy ho post
 cases hx <;> first | (cases ho; done) | skip
 cases hy <;> first | (cases ho; done) | skip
 rename_i i t j u
 simp only [oMod] at ho
 by_cases hb : j ≠ 0
 ·rw [if_pos hb] at ho
  cases ho
  exact mod_int' hb (post W s.heap _ _ (.refl W) r (.int _ _))
 ·rw [if_neg hb] at ho
  cases ho
theorem ZcV : Op2 prog w (binaryOp .FloorDiv) oDiv := by
 intro Γ W ρ H fr s Q E a b x y v H' r hx hy ho post
 cases hx <;> first | (cases ho; done) | skip
 cases hy <;> first | (cases ho; done) | skip
 rename_i i t j u
 simp only [oDiv] at ho
 by_cases hb : j ≠ 0 ∧ Builtin.divisionGoesByPylong i j = false
 ·rw [if_pos hb] at ho
  cases ho
  exact floordiv_int hb.1 (post W s.heap _ _ (.refl W) r (.int _ _)) (.inl hb.2)
 ·rw [if_neg hb] at ho
  cases ho
theorem ZmZ : Op2 prog w (binaryOp .Pow) oPow := by
 intro Γ W ρ H fr s Q E a b x y v H' r hx hy ho post
 cases hx <;> first | (cases ho; done) | skip
 cases hy <;> first | (cases ho; done) | skip
 rename_i i t j u
 simp only [oPow] at ho
 by_cases hb : 0 ≤ j ∧ (Builtin.Int.intBits i : Int) * j ≤ 2 ^ 27
 ·rw [if_pos hb] at ho
  cases ho
  exact pow_int hb.1 hb.2 (post W s.heap _ _ (.refl W) r (.int _ _))
 ·rw [if_neg hb] at ho
  cases ho
theorem ZbJ : Op1 prog w (unaryOp .USub) Zbx := by
 intro Γ W ρ H fr s Q E a x v H' r hx ho post
 cases hx <;> first | (cases ho; done) | skip
 cases ho
 exact PySem.P.neg_int (post W s.heap _ _ (.refl W) r (.int _ _))
theorem Zcl : Op2 prog w (compareOp .Lt) oLt := by
 intro Γ W ρ H fr s Q E a b x y v H' r hx hy ho post
 cases hx <;> first | (cases ho; done) | skip
 cases hy <;> first | (cases ho; done) | skip
 cases ho
 exact PySem.P.lt_int (post W s.heap s.toks _ (.refl W) r (.bool _))
theorem Zni : Op2 prog w (compareOp .LtE) oLe := by
 intro Γ W ρ H fr s Q E a b x y v H' r hx hy ho post
 cases hx <;> first | (cases ho; done) | skip
 cases hy <;> first | (cases ho; done) | skip
 cases ho
 exact PySem.P.le_int (post W s.heap s.toks _ (.refl W) r (.bool _))
theorem Zdh : Op2 prog w (compareOp .Gt) oGt := by
 intro Γ W ρ H fr s Q E a b x y v H' r hx hy ho post
 cases hx <;> first | (cases ho; done) | skip
 cases hy <;> first | (cases ho; done) | skip
 cases ho
 exact PySem.P.gt_int (post W s.heap s.toks _ (.refl W) r (.bool _))
end
end PM
end
section
set_option maxRecDepth 100000
set_option linter.all false
set_option autoImplicit false
namespace PM
open PySem PyProof.Rows PyProof
noncomputable def ZfB (f : V → Option PyData) : List V → Option (List PyData)
 | [] => some []
 | v :: vs => (f v).bind fun d => (ZfB f vs).bind fun ds => some (d :: ds)
noncomputable def toD (H : Hp) : Nat → V → Option PyData
 | _, .none => some .none
 | _, .bool b => some (.bool b)
 | _, .int i => some (.int i)
 | _, .str x => some (.str x)
 | n + 1, .tup vs => (ZfB (toD H n) vs).map .tuple
 | n + 1, .ref a => H[a]?.bind fun vs => (ZfB (toD H n) vs).map .list
 | 0, .tup _ => none
 | 0, .ref _ => none
theorem ZkV {W : Wd} {h : Heap} {f : V → Option PyData} (ih : ∀ v x d, VR W v x → f v = some d → ∃ as, Reads h x d as) : ∀ {vs : List V} {xs : List Value} {ds : List PyData}, VRs W vs xs → ZfB f vs = some ds → ∃ as, ReadsAll h xs ds as
 | _, _, _, .nil, e => by
  cases e
  exact ⟨_, .nil⟩
 | _, _, _, .cons a r, e => by
  obtain ⟨d, e1, e⟩ := Zz0.mp e
  obtain ⟨ds, e2, e3⟩ := Zz0.mp e
  cases e3
  obtain ⟨as, h1⟩ := ih _ _ _ a e1
  obtain ⟨bs, h2⟩ := ZkV ih r e2
  exact ⟨_, .cons h1 h2⟩
theorem Ze4 {Γ : Cx} {W : Wd} {ρ : Lc} {H : Hp} {fr : List (Addr × Obj)} {h : Heap} (r : Rep Γ W ρ H fr h) : ∀ (n : Nat) (v : V) (x : Value) (d : PyData), VR W v x → toD H n v = some d → ∃ as, Reads h x d as := by
 intro n
 induction n with
 | zero =>
  intro v x d hv e
  cases hv with
  | none => cases e; exact ⟨_, .none⟩
  | bool b => cases e; exact ⟨_, .bool b⟩
  | int i t => cases e; exact ⟨_, .int i t⟩
  | str y t => cases e; exact ⟨_, .str y t⟩
  | tup _ _ _ => cases e
  | ref _ => cases e
 | succ n ih =>
  intro v x d hv e
  cases hv with
  | none => cases e; exact ⟨_, .none⟩
  | bool b => cases e; exact ⟨_, .bool b⟩
  | int i t => cases e; exact ⟨_, .int i t⟩
  | str y t => cases e; exact ⟨_, .str y t⟩
  | @tup vs a xs k hm hl hs =>
   obtain ⟨ds, e1, e2⟩ := Zz1.mp e
   subst e2
   obtain ⟨as, h1⟩ := ZkV ih hs e1
   exact ⟨_, .tuple (r.tupAt hm) rfl rfl (by simpa using h1)⟩
  | @ref i a ea =>
   obtain ⟨vs, e0, e⟩ := Zz0.mp e
   obtain ⟨ds, e1, e2⟩ := Zz1.mp e
   subst e2
   obtain ⟨hl, xs, k, hg, hs⟩ := r.at e0 ea
   obtain ⟨as, h1⟩ := ZkV ih hs e1
   exact ⟨_, .list hg rfl rfl (by simpa using h1)⟩
noncomputable def Zb1 : Nat := 8
noncomputable def ZiI (a b : V) (H : Hp) : Option Bool := (toD H Zb1 a).bind fun d => (toD H Zb1 b).bind fun e => if SeqAt.shaped d = true ∧ SeqAt.shaped e = true then some (PyData.eqv d e) else none
noncomputable def oEq (a b : V) (H : Hp) : Option (V × Hp) := (ZiI a b H).map fun c => (.bool c, H)
noncomputable def oNe (a b : V) (H : Hp) : Option (V × Hp) := (ZiI a b H).map fun c => (.bool (!c), H)
noncomputable def oIs : V → V → Hp → Option (V × Hp)
 | .none, .none, H => some (.bool true, H)
 | .bool _, .none, H => some (.bool false, H)
 | .int _, .none, H => some (.bool false, H)
 | .str _, .none, H => some (.bool false, H)
 | .tup _, .none, H => some (.bool false, H)
 | .ref _, .none, H => some (.bool false, H)
 | _, _, _ => none
noncomputable def ZbC (a b : V) (H : Hp) : Option (V × Hp) := (oIs a b H).bind fun p => match p.1 with | .bool c => some (.bool (!c), p.2) | _ => none
section
variable {prog : Program} {w : World}
theorem ZaD : Op2 prog w (compareOp .Eq) oEq := by
 intro Γ W ρ H fr s Q E a b x y v H' r hx hy ho post
 obtain ⟨c, e1, e2⟩ := Zz1.mp ho
 cases e2
 obtain ⟨d, h1, e1⟩ := Zz0.mp e1
 obtain ⟨e, h2, e1⟩ := Zz0.mp e1
 by_cases hs : SeqAt.shaped d = true ∧ SeqAt.shaped e = true
 ·rw [if_pos hs] at e1
  cases e1
  obtain ⟨as, R1⟩ := Ze4 r Zb1 a x d hx h1
  obtain ⟨bs, R2⟩ := Ze4 r Zb1 b y e hy h2
  exact eq_dataH R1 R2 hs.1 hs.2 (by have := Γ.hu; omega) (post W s.heap s.toks _ (.refl W) r (.bool _))
 ·rw [if_neg hs] at e1
  cases e1
theorem Zbu : Op2 prog w (compareOp .NotEq) oNe := by
 intro Γ W ρ H fr s Q E a b x y v H' r hx hy ho post
 obtain ⟨c, e1, e2⟩ := Zz1.mp ho
 cases e2
 obtain ⟨d, h1, e1⟩ := Zz0.mp e1
 obtain ⟨e, h2, e1⟩ := Zz0.mp e1
 by_cases hs : SeqAt.shaped d = true ∧ SeqAt.shaped e = true
 ·rw [if_pos hs] at e1
  cases e1
  obtain ⟨as, R1⟩ := Ze4 r Zb1 a x d hx h1
  obtain ⟨bs, R2⟩ := Ze4 r Zb1 b y e hy h2
  exact ne_dataH R1 R2 hs.1 hs.2 (by have := Γ.hu; omega) (post W s.heap s.toks _ (.refl W) r (.bool _))
 ·rw [if_neg hs] at e1
  cases e1
theorem Za9 : Op2 prog w (compareOp .Is) oIs := by
 intro Γ W ρ H fr s Q E a b x y v H' r hx hy ho post
 cases hy <;> first | (cases hx <;> cases ho; done) | skip
 refine PySem.is_none ?_
 cases hx <;> (cases ho; exact post W s.heap s.toks _ (.refl W) r (.bool _))
theorem ZbU : Op2 prog w (compareOp .IsNot) ZbC := by
 intro Γ W ρ H fr s Q E a b x y v H' r hx hy ho post
 cases hy <;> first | (cases hx <;> cases ho; done) | skip
 refine PySem.isNot_none ?_
 cases hx <;> (cases ho; exact post W s.heap s.toks _ (.refl W) r (.bool _))
end
end PM
end
section
set_option maxRecDepth 100000
set_option linter.all false
set_option autoImplicit false
namespace PM
open PySem PyProof.Rows PyProof
noncomputable def Zv : V → V → Hp → Option (V × Hp)
 | .ref a, .int k, H => H[a]?.bind fun vs => (seqIndex? k vs.length).bind fun j => vs[j]?.map fun v => (v, H)
 | .tup vs, .int k, H => (seqIndex? k vs.length).bind fun j => vs[j]?.map fun v => (v, H)
 | _, _, _ => none
theorem Zn2 {k : Int} {n j : Nat} (h : seqIndex? k n = some j) : j < n ∧ (k : Int) < n ∧ -(n : Int) ≤ k ∧ (0 ≤ k → k.toNat = j) ∧ (k < 0 → (k + n).toNat = j) := by
 unfold seqIndex? at h
 by_cases c : k < 0
 ·simp only [c, if_true] at h
  split at h
  ·rename_i d
   simp at d h
   omega
  ·cases h
 ·simp only [c, if_false] at h
  split at h
  ·rename_i d
   simp at d h
   omega
  ·cases h
section
variable {prog : Program} {w : World} {Γ : Cx}
theorem Zx {e1 e2 : Expr} {pos : Pos} {f g : Ex} (h1 : J prog w Γ e1 f) (h2 : J prog w Γ e2 g) (hs : ∀ a k u, subscripted e2 false (.ref a) (.int k u) = operate [.ref a, .int k u] (getItem (.ref a) (.int k u)) := by intros; with_unfolding_all rfl) : J prog w Γ (.Subscript e1 e2 pos) (Zj Zv f g) := by
 intro W ρ H fr s Q E v H' r hf post
 obtain ⟨p, e1, hf⟩ := Zz0.mp hf
 obtain ⟨q, e2, e3⟩ := Zz0.mp hf
 refine Subscript_ (h1 W ρ H fr s _ E _ _ r e1 fun W1 k1 t1 x l1 r1 x1 => ?_)
 refine h2 W1 ρ _ fr _ _ E _ _ r1 e2 fun W2 k2 t2 y l2 r2 y2 => ?_
 have x2 := x1.mono l2
 obtain ⟨v1, H1⟩ := p
 obtain ⟨v2, H2⟩ := q
 simp only at e3 r2 x2 y2
 cases y2 <;> first | (cases x2 <;> cases e3; done) | skip
 rename_i k u
 cases x2 <;> first | (cases e3; done) | skip
 ·rename_i vs a xs kk hm hl hv
  obtain ⟨j, hj, e4⟩ := Zz0.mp e3
  obtain ⟨z, hz, e5⟩ := Zz1.mp e4
  cases e5
  obtain ⟨z', hz', rz⟩ := hv.at hz
  have hx : xs.length = vs.length := hv.length
  have hb := Zn2 hj
  rw [Za7] at hl
  have it : IsTup k2 a xs.toArray := ⟨_, r2.tupAt hm, rfl, kk, rfl⟩
  exact item_tupleT it (by omega) (by omega) (by rw [hx]; exact hj) hz' (post W2 k2 t2 z' (l1.trans l2) r2 rz) (hs _ _ _)
 ·rename_i i a ea
  obtain ⟨vs, hvs, e3⟩ := Zz0.mp e3
  obtain ⟨j, hj, e4⟩ := Zz0.mp e3
  obtain ⟨z, hz, e5⟩ := Zz1.mp e4
  cases e5
  obtain ⟨hl, xs, kk, hg, hv⟩ := r2.at hvs ea
  obtain ⟨z', hz', rz⟩ := hv.at hz
  have hx : xs.length = vs.length := hv.length
  have hb := Zn2 hj
  rw [Za7] at hl
  have isl : k2.IsList a xs.toArray := ⟨_, hg, rfl, kk, rfl⟩
  refine tail_any (s := { s with heap := k2, toks := t2 }) isl.typeIs slot_list_getitem.lookup ?_ (hs _ _ _)
  by_cases hk : 0 ≤ k
  ·exact wpAny_getItem_list isl hk (by omega) (by rw [hb.2.2.2.1 hk]; simpa using hz') (post W2 k2 t2 z' (l1.trans l2) r2 rz)
  ·refine wpAny_getItem_list_neg isl (by omega) (by simp; omega) (by omega) ?_ (post W2 k2 t2 z' (l1.trans l2) r2 rz)
   have := hb.2.2.2.2 (by omega)
   rw [← hx] at this
   simpa [this] using hz'
end
noncomputable def ZcZ {α : Type} (vs : List α) (lo hi : Option Int) : List α := (sliceRange (sliceBounds lo hi none vs.length).1 (sliceBounds lo hi none vs.length).2.1 (sliceBounds lo hi none vs.length).2.2).filterMap fun i => vs[i]?
theorem VRs.pick {W : Wd} {vs : List V} {xs : List Value} (h : VRs W vs xs) (l : List Nat) : VRs W (l.filterMap fun i => vs[i]?) (l.filterMap fun i => xs[i]?) := by
 induction l with
 | nil => exact .nil
 | cons i l ih =>
  simp only [List.filterMap_cons]
  have hl := h.length
  cases e : vs[i]? with
  | none =>
   have : xs[i]? = none := by rw [List.getElem?_eq_none_iff] at e ⊢; omega
   rw [this]
   exact ih
  | some v =>
   obtain ⟨x, hx, hr⟩ := h.at e
   rw [hx]
   exact .cons hr ih
theorem ZtJ {α : Type} (vs : List α) (lo hi : Option Int) : (ZcZ vs lo hi).length ≤ vs.length := by
 unfold ZcZ
 refine Nat.le_trans (List.length_filterMap_le _ _) ?_
 refine sliceRange_length_le _ _ _ _ (fun _ => ?_) fun c => ?_
 ·unfold sliceBounds
  cases lo <;> cases hi <;> simp <;> omega
 ·exact absurd (by unfold sliceBounds; simp) c
theorem ZtK {α : Type} (vs : List α) (a : Nat) : ∀ m : Nat, a + m ≤ vs.length → ((List.range m).map fun k => a + k).filterMap (fun i => vs[i]?) = (vs.drop a).take m := by
 intro m
 induction m with
 | zero => intro _; simp
 | succ m ih =>
  intro h
  rw [List.range_succ, List.map_append, List.filterMap_append, ih (by omega), List.take_add_one]
  congr 1
  simp only [List.map_cons, List.map_nil, List.filterMap_cons, List.filterMap_nil, List.getElem?_drop]
  cases e : vs[a + m]? with
  | none => rw [List.getElem?_eq_none_iff] at e; omega
  | some v => rfl
theorem ZpA {α : Type} (vs : List α) (lo hi : Option Int) {a b : Nat} (ha : (sliceBounds lo hi none vs.length).1 = (a : Int)) (hb : (sliceBounds lo hi none vs.length).2.1 = (b : Int)) (h : b ≤ vs.length) : ZcZ vs lo hi = (vs.drop a).take (b - a) := by
 have hc : (sliceBounds lo hi none vs.length).2.2 = 1 := by unfold sliceBounds; rfl
 unfold ZcZ
 rw [ha, hb, hc]
 have e : sliceRange (a : Int) (b : Int) 1 = (List.range (b - a)).map fun k => a + k := by
  unfold sliceRange
  simp only [show (1 : Int) > 0 from by decide, if_true]
  by_cases c : (a : Int) < b
  ·rw [if_pos c]
   have : ((b : Int) - a + 1 - 1) / 1 = ((b - a : Nat) : Int) := by omega
   rw [this]
   simp only [Int.toNat_natCast]
   refine List.map_congr_left fun k _ => ?_
   omega
  ·rw [if_neg c]
   have : b - a = 0 := by omega
   rw [this]
   rfl
 rw [e]
 by_cases c : a ≤ b
 ·exact ZtK vs a (b - a) (by omega)
 ·have : b - a = 0 := by omega
  rw [this]
  simp
theorem ZsX {α : Type} (vs : List α) {k : Int} {a : Nat} (e : k = (a : Int)) : ZcZ vs (some k) none = vs.drop a := by
 by_cases h : a ≤ vs.length
 ·rw [ZpA vs (some k) none (a := a) (b := vs.length) (by unfold sliceBounds; simp; omega) (by unfold sliceBounds; simp) (Nat.le_refl _)]
  rw [List.take_of_length_le (by simp)]
 ·rw [ZpA vs (some k) none (a := vs.length) (b := vs.length) (by unfold sliceBounds; simp; omega) (by unfold sliceBounds; simp) (Nat.le_refl _)]
  simp
  omega
noncomputable def ZgC : Option V → Option (Option Int)
 | none => some none
 | some (.int k) => some (some k)
 | _ => none
noncomputable abbrev Pt := Lc → Hp → Option (Option V × Hp)
noncomputable def ZgD : Pt := fun _ H => some (none, H)
noncomputable def Znj (f : Ex) : Pt := fun ρ H => (f ρ H).map fun p => (some p.1, p.2)
noncomputable def Zm0 (f : Ex) (lo hi : Pt) : Ex := fun ρ H => (f ρ H).bind fun p => (lo ρ p.2).bind fun q => (hi ρ q.2).bind fun u => (ZgC q.1).bind fun a => (ZgC u.1).bind fun b => match p.1 with
 | .ref i => u.2[i]?.bind fun vs => some (.ref u.2.length, u.2 ++ [ZcZ vs a b])
 | _ => none
inductive VP (W : Wd) : Option V → Value → Prop where
 | none : VP W none .none
 | some {v : V} {x : Value} : VR W v x → VP W (some v) x
theorem VP.mono {W W' : Wd} {v : Option V} {x : Value} (l : W.Le W') (h : VP W v x) : VP W' v x := by
 cases h with
 | none => exact .none
 | some h => exact .some (h.mono l)
theorem VP.part {W : Wd} {v : Option V} {x : Value} {k : Option Int} (h : VP W v x) (e : ZgC v = Option.some k) : IsPart x k := by
 cases h with
 | none => cases e; exact .none
 | some h => cases h <;> cases e; exact .int _ _
noncomputable def JP (prog : Program) (w : World) (Γ : Cx) (e : Option Expr) (f : Pt) : Prop := ∀ (W : Wd) (ρ : Lc) (H : Hp) (fr : List (Addr × Obj)) (s : Shared) (Q E : Value → Shared → Prop) (v : Option V) (H' : Hp),
 Rep Γ W ρ H fr s.heap → f ρ H = some (v, H') → (∀ (W' : Wd) (h' : Heap) (tk' : Nat) (x : Value), W.Le W' → Rep Γ W' ρ H' fr h' → VP W' v x → Q x { s with heap := h', toks := tk' }) → wpAny (model prog w) Γ.A (evalPart e Γ.env) Q E s
section
variable {prog : Program} {w : World} {Γ : Cx}
theorem JP.none : JP prog w Γ none ZgD := fun W ρ H fr s Q E v H' r hf post => by
 cases hf
 exact wpAny_evalPart_none (post W s.heap s.toks _ (.refl W) r .none)
theorem JP.some {e : Expr} {f : Ex} (h : J prog w Γ e f) : JP prog w Γ (some e) (Znj f) := fun W ρ H fr s Q E v H' r hf post => by
 obtain ⟨p, e1, e2⟩ := Zz1.mp hf
 cases e2
 exact wpAny_evalPart_some (h W ρ H fr s _ E _ _ r e1 fun W1 k1 t1 x l1 r1 x1 => post W1 k1 t1 x l1 r1 (.some x1))
theorem Zut {e : Expr} {lo hi : Option Expr} {p pos : Pos} {f : Ex} {a b : Pt} (h : J prog w Γ e f) (hlo : JP prog w Γ lo a) (hhi : JP prog w Γ hi b) (ht : ∀ o r, letTemporaryGo e o r = pure () := by intro _ _; rfl) : J prog w Γ (.Subscript e (.Slice lo hi Option.none p) pos) (Zm0 f a b) := by
 intro W ρ H fr s Q E v H' r hf post
 obtain ⟨p, e1, hf⟩ := Zz0.mp hf
 obtain ⟨q, e2, hf⟩ := Zz0.mp hf
 obtain ⟨u, e3, hf⟩ := Zz0.mp hf
 obtain ⟨ka, e4, hf⟩ := Zz0.mp hf
 obtain ⟨kb, e5, hf⟩ := Zz0.mp hf
 refine wpAny_Subscript_list_slice (h W ρ H fr s _ E _ _ r e1 fun W1 k1 t1 x l1 r1 x1 => ?_) ht
 refine hlo W1 ρ _ fr _ _ E _ _ r1 e2 fun W2 k2 t2 y l2 r2 y2 => ?_
 refine hhi W2 ρ _ fr _ _ E _ _ r2 e3 fun W3 k3 t3 z l3 r3 z3 => ?_
 have x3 := x1.mono (l2.trans l3)
 obtain ⟨v1, H1⟩ := p
 simp only at hf x3
 cases x3 with
 | none => cases hf
 | bool _ => cases hf
 | int _ _ => cases hf
 | str _ _ => cases hf
 | tup _ _ _ => cases hf
 | @ref i a ea =>
  obtain ⟨vs, hvs, e6⟩ := Zz0.mp hf
  cases e6
  obtain ⟨hl, xs, kk, hg, hv⟩ := r3.at hvs ea
  have isl : k3.IsList a xs.toArray := ⟨_, hg, rfl, kk, rfl⟩
  refine ⟨a, xs.toArray, ka, kb, rfl, isl, Zc7 (by simp [hv.length]; exact hl), (y2.mono l3).part e4, z3.part e5, ?_⟩
  have hp : VRs W3 (ZcZ vs ka kb) (ZcZ xs ka kb) := by
   unfold ZcZ
   rw [hv.length]
   exact hv.pick _
  have hx : slicePick xs.toArray ka kb Option.none = (ZcZ xs ka kb).toArray := by
   unfold slicePick ZcZ
   simp
  obtain ⟨W4, l4, r4, v4⟩ := (r3.push { cls := .type "slice", data := .fields #[y, z, .none] }).list (k := 0) hp (Nat.le_trans (ZtJ vs ka kb) hl)
  rw [hx]
  have := post W4 _ t3 _ (((l1.trans l2).trans l3).trans l4) r4 v4
  rw [Heap.size_push] at this
  exact this
end
end PM
end
section
set_option maxRecDepth 100000
set_option linter.all false
set_option autoImplicit false
namespace PM
open PySem PyProof.Rows PyProof
noncomputable def Nm (prog : Program) (w : World) (Γ : Cx) (x : Str) (v : Value) : Prop := ∀ (pos : Pos) (m : Str → Option Value) (s : Shared) (Q E : Value → Shared → Prop), Fr Γ.h₀ Γ.L s.heap m → Q v s → wpAny (model prog w) Γ.A (eval (.Name x pos) Γ.env) Q E s
theorem Nm.use {prog : Program} {w : World} {Γ : Cx} {x : Str} {y : Value} (h : Nm prog w Γ x y) {pos : Pos} {W : Wd} {ρ : Lc} {H : Hp} {fr : List (Addr × Obj)} {s : Shared} {Q E : Value → Shared → Prop} (r : Rep Γ W ρ H fr s.heap) (q : Q y s) : wpAny (model prog w) Γ.A (eval (.Name x pos) Γ.env) Q E s := by
 obtain ⟨m, c, led, r⟩ := r
 exact h pos m s Q E r.F q
noncomputable def OpN (prog : Program) (w : World) (m : List Value → Sem Value) (o : List V → Hp → Option (V × Hp)) : Prop := ∀ (Γ : Cx) (W : Wd) (ρ : Lc) (H : Hp) (fr : List (Addr × Obj)) (s : Shared) (Q E : Value → Shared → Prop) (as : List V) (xs : List Value) (v : V) (H' : Hp),
 Rep Γ W ρ H fr s.heap → VRs W as xs → o as H = some (v, H') → ZgJ Γ W ρ H' fr s Q v → wpAny (model prog w) Γ.A (m xs) Q E s
noncomputable def Zt (o : List V → Hp → Option (V × Hp)) (g : Exs) : Ex := fun ρ H => (g ρ H).bind fun p => o p.1 p.2
section
variable {prog : Program} {w : World} {Γ : Cx}
theorem Zas {x : Str} {np pos : Pos} {id : String} {e : Expr} {es : List Expr} {g : Exs} {o : List V → Hp → Option (V × Hp)} (hn : Nm prog w Γ x (.builtin id)) (h : Js prog w Γ (e :: es) g) (ho : OpN prog w (fun xs => call (.builtin id) xs) o)
  (he : starEach (e :: es) Γ.env = (false, eval e Γ.env) :: starEach es Γ.env := by rfl) (hp : ∀ pos, (backTo pos (starEach es Γ.env)).any (·.1) = false := by intro _; rfl) : J prog w Γ (.Call (.Name x np) (e :: es) [] pos) (Zt o g) := by
 intro W ρ H fr s Q E v H' r hf post
 obtain ⟨p, e1, hf⟩ := Zz0.mp hf
 refine wpAny_Call_ofName (hn.use r ?_)
 refine callWith_builtin1 (h pos W ρ H fr s _ E _ _ r e1 fun W1 k1 t1 xs l1 r1 x1 => ?_) he (hp pos)
 exact ho Γ W1 ρ _ fr _ Q E _ xs v H' r1 x1 hf fun W2 k2 t2 y l2 r2 y2 => post W2 k2 t2 y (l1.trans l2) r2 y2
theorem ZcU {x : Str} {np pos : Pos} {T : String} {e : Expr} {es : List Expr} {g : Exs} {o : List V → Hp → Option (V × Hp)} (hn : Nm prog w Γ x (.type T)) (h : Js prog w Γ (e :: es) g) (ho : OpN prog w (fun xs => call (.type T) xs) o)
  (he : starEach (e :: es) Γ.env = (false, eval e Γ.env) :: starEach es Γ.env := by rfl) (hp : ∀ pos, (backTo pos (starEach es Γ.env)).any (·.1) = false := by intro _; rfl) : J prog w Γ (.Call (.Name x np) (e :: es) [] pos) (Zt o g) := by
 intro W ρ H fr s Q E v H' r hf post
 obtain ⟨p, e1, hf⟩ := Zz0.mp hf
 refine wpAny_Call_ofName (hn.use r ?_)
 refine PySem.Pv.callWith_type1 (h pos W ρ H fr s _ E _ _ r e1 fun W1 k1 t1 xs l1 r1 x1 => ?_) he (hp pos)
 exact ho Γ W1 ρ _ fr _ Q E _ xs v H' r1 x1 hf fun W2 k2 t2 y l2 r2 y2 => post W2 k2 t2 y (l1.trans l2) r2 y2
end
noncomputable def ZmB : V → String
 | .none => "NoneType"
 | .bool _ => "bool"
 | .int _ => "int"
 | .str _ => "str"
 | .tup _ => "tuple"
 | .ref _ => "list"
noncomputable def Zm1 (T : String) (v : V) : Bool := ZmB v == T || (T == "int" && ZmB v == "bool")
noncomputable def eIs (T : String) (f : Ex) : Ex := fun ρ H => (f ρ H).map fun p => (.bool (Zm1 T p.1), p.2)
section
variable {prog : Program} {w : World} {Γ : Cx}
theorem isinst {T : String} (hT : T = "int" ∨ T = "bool" ∨ T = "list" ∨ T = "tuple") {W : Wd} {ρ : Lc} {H : Hp} {fr : List (Addr × Obj)} {s : Shared} {Q E : Value → Shared → Prop} {a : V} {x : Value} (r : Rep Γ W ρ H fr s.heap) (hx : VR W a x) (hin : ∀ i, a = .ref i → i < H.length)
  (post : ∀ tk, Q (.bool (Zm1 T a)) { s with toks := tk }) : wpAny (model prog w) Γ.A (call (.builtin "isinstance") [x, .type T]) Q E s := by
 cases hx with
 | none =>
      rcases hT with e | e | e | e <;> subst e
      ·exact call_isinstance (isinstance_false_none (by decide +kernel) F.isi_meta_int (by rw [isSubtype_type]; kernel_rfl)) (post _)
      ·exact call_isinstance (isinstance_false_none (by decide +kernel) F.isi_meta_bool (by rw [isSubtype_type]; kernel_rfl)) (post _)
      ·exact call_isinstance (isinstance_false_none (by decide +kernel) F.isi_meta_list (by rw [isSubtype_type]; kernel_rfl)) (post _)
      ·exact call_isinstance (isinstance_false_none (by decide +kernel) F.isi_meta_tuple (by rw [isSubtype_type]; kernel_rfl)) (post _)
 | bool b =>
       rcases hT with e | e | e | e <;> subst e
       ·exact IsiPair.bool_int (post s.toks)
       ·exact IsiPair.bool_bool (post s.toks)
       ·exact IsiPair.bool_list (post _)
       ·exact IsiPair.bool_tuple (post _)
 | int i t =>
       rcases hT with e | e | e | e <;> subst e
       ·exact IsiPair.int_int (post s.toks)
       ·exact IsiPair.int_bool (post _)
       ·exact IsiPair.int_list (post _)
       ·exact IsiPair.int_tuple (post _)
 | str y t =>
       rcases hT with e | e | e | e <;> subst e
       ·exact IsiPair.str_int (post _)
       ·exact IsiPair.str_bool (post _)
       ·exact IsiPair.str_list (post _)
       ·exact IsiPair.str_tuple (post _)
 | tup hm hl hs =>
  have hg := r.tupAt hm
  rcases hT with e | e | e | e <;> subst e
  ·exact IsiPair.tuple_int hg rfl (post _)
  ·exact IsiPair.tuple_bool hg rfl (post _)
  ·exact IsiPair.tuple_list hg rfl (post _)
  ·exact IsiPair.tuple_tuple hg rfl (post s.toks)
 | @ref i a ea =>
  obtain ⟨hl, xs, k, hg, hv⟩ := r.at (List.getElem?_eq_getElem (hin i rfl)) ea
  rcases hT with e | e | e | e <;> subst e
  ·exact IsiPair.list_int hg rfl (post _)
  ·exact IsiPair.list_bool hg rfl (post _)
  ·exact IsiPair.list_list hg rfl (post s.toks)
  ·exact IsiPair.list_tuple hg rfl (post _)
end
theorem Rep.refIn {Γ : Cx} {W : Wd} {ρ : Lc} {H : Hp} {fr : List (Addr × Obj)} {h : Heap} {i : Nat} {x : Value} (r : Rep Γ W ρ H fr h) (hx : VR W (.ref i) x) : i < H.length := by
 obtain ⟨m, c, led, r⟩ := r
 cases hx with
 | ref e => rw [← r.R.len]; exact (Zz6.mp e).1
section
variable {prog : Program} {w : World} {Γ : Cx}
theorem ZdC {np tp pos : Pos} {x y : Str} {T : String} {e : Expr} {f : Ex} (hn : Nm prog w Γ x (.builtin "isinstance")) (hy : Nm prog w Γ y (.type T)) (hT : T = "int" ∨ T = "bool" ∨ T = "list" ∨ T = "tuple") (h : J prog w Γ e f)
  (he : starEach [e, .Name y tp] Γ.env = (false, eval e Γ.env) :: starEach [.Name y tp] Γ.env := by rfl) (hp : ∀ pos, (backTo pos (starEach [.Name y tp] Γ.env)).any (·.1) = false := by intro _; rfl) : J prog w Γ (.Call (.Name x np) [e, .Name y tp] [] pos) (eIs T f) := by
 intro W ρ H fr s Q E v H' r hf post
 obtain ⟨p, e1, e2⟩ := Zz1.mp hf
 cases e2
 refine wpAny_Call_ofName (hn.use r ?_)
 refine callWith_builtin1 (wpAny_items_cons (h W ρ H fr s _ E _ _ r e1 fun W1 k1 t1 z l1 r1 z1 => ?_) he) he (hp pos)
 refine wpAny_items_cons (hy.use (s := { s with heap := k1, toks := t1 }) r1 ?_)
 refine wpAny_items_nil ?_
 exact PM.isinst hT r1 z1 (fun i e => by rw [e] at z1; exact r1.refIn z1) fun tk => post W1 k1 tk _ l1 r1 (.bool _)
end
noncomputable def ZaE : List V → Hp → Option (V × Hp)
 | [.ref a], H => H[a]?.map fun vs => (.int vs.length, H)
 | [.tup vs], H => some (.int vs.length, H)
 | _, _ => none
noncomputable def Zc3 : List V → Hp → Option (V × Hp)
 | [.int a], H => some (.int (if a < 0 then -a else a), H)
 | _, _ => none
noncomputable def ZwY : List V → Hp → Option (V × Hp)
 | [.int a, .int b], H => some (.int (if b > a then b else a), H)
 | _, _ => none
noncomputable def Ziy : List V → Hp → Option (V × Hp)
 | [.int a, .int b], H => some (.int (if b < a then b else a), H)
 | _, _ => none
noncomputable def Zds : List V → Option (List Int)
 | [] => some []
 | .int k :: vs => (Zds vs).map fun ks => k :: ks
 | _ :: _ => none
noncomputable def ZgK : List V → Hp → Option (V × Hp)
 | [.ref a], H => H[a]?.bind fun vs => (Zds vs).map fun ks => (.int ks.sum, H)
 | _, _ => none
theorem VRs.one {W : Wd} {v : V} {xs : List Value} (h : VRs W [v] xs) : ∃ x, xs = [x] ∧ VR W v x := by
 cases h with
 | cons a b => cases b; exact ⟨_, rfl, a⟩
theorem VRs.two {W : Wd} {v u : V} {xs : List Value} (h : VRs W [v, u] xs) : ∃ x y, xs = [x, y] ∧ VR W v x ∧ VR W u y := by
 cases h with
 | cons a b => obtain ⟨y, e, r⟩ := b.one; subst e; exact ⟨_, _, rfl, a, r⟩
theorem ZrK {W : Wd} : ∀ {vs : List V} {xs : List Value} {ks : List Int}, VRs W vs xs → Zds vs = some ks → ∃ ts : Array (Int × Tok), xs.toArray = intItems ts ∧ preSum (numAt ts) ts.size = ks.sum := by
 have key : ∀ {vs : List V} {xs : List Value} {ks : List Int}, VRs W vs xs → Zds vs = some ks → ∃ ts : List (Int × Tok), xs = ts.map (fun p => Value.int p.1 p.2) ∧ ts.map (·.1) = ks := by
  intro vs
  induction vs with
  | nil => intro xs ks h e; cases h; cases e; exact ⟨[], rfl, rfl⟩
  | cons v vs ih =>
   intro xs ks h e
   cases h with
   | cons a b =>
    cases v with
    | int i =>
     obtain ⟨js, e1, e2⟩ := Zz1.mp e
     subst e2
     cases a with
     | int _ t =>
      obtain ⟨ts, h1, h2⟩ := ih b e1
      exact ⟨(i, t) :: ts, by rw [h1]; rfl, by rw [List.map_cons, h2]⟩
    | none => cases e
    | bool _ => cases e
    | str _ => cases e
    | tup _ => cases e
    | ref _ => cases e
 intro vs xs ks h e
 obtain ⟨ts, h1, h2⟩ := key h e
 refine ⟨ts.toArray, by rw [h1]; simp [intItems], ?_⟩
 rw [preSum_eq, List.take_of_length_le (by simp), ← h2]
noncomputable def Zah : V → V → Hp → Option (V × Hp)
 | .int a, .int b, H => some (.int (a + b), H)
 | .ref a, .ref b, H => H[a]?.bind fun vs => H[b]?.bind fun us => if (vs ++ us).length ≤ LEN then some (.ref H.length, H ++ [vs ++ us]) else none
 | .tup vs, .tup us, H => if (vs ++ us).length ≤ LEN then some (.tup (vs ++ us), H) else none
 | _, _, _ => none
noncomputable def ZeE (vs : List V) : Nat → List V
 | 0 => []
 | n + 1 => ZeE vs n ++ vs
noncomputable def ZaV : V → V → Hp → Option (V × Hp)
 | .int a, .int b, H => if mulOk a b = true then some (.int (a * b), H) else none
 | .ref a, .int k, H => H[a]?.bind fun vs => if vs.length * k.toNat ≤ LEN ∧ -(2 ^ 63 : Int) ≤ k ∧ k < 2 ^ 63 then some (.ref H.length, H ++ [ZeE vs k.toNat]) else none
 | _, _, _ => none
section
variable {prog : Program} {w : World}
theorem ZaS : OpN prog w (fun xs => call (.builtin "len") xs) ZaE := by
 intro Γ W ρ H fr s Q E as xs v H' r hx ho post
 unfold ZaE at ho
 split at ho
 ·rename_i a
  obtain ⟨vs, e1, e2⟩ := Zz1.mp ho
  cases e2
  obtain ⟨x, ex, rx⟩ := hx.one
  subst ex
  cases rx with
  | ref ea =>
   obtain ⟨hl, ys, k, hg, hv⟩ := r.at e1 ea
   have isl : s.heap.IsList _ ys.toArray := ⟨_, hg, rfl, k, rfl⟩
   have e3 : (ys.toArray.size : Int) = vs.length := by simp [hv.length]
   rw [Za7] at hl
   refine Calls.call_len_list isl (by rw [e3]; omega) ?_
   rw [e3]
   exact post W s.heap _ _ (.refl W) r (.int _ _)
 ·rename_i vs
  cases ho
  obtain ⟨x, ex, rx⟩ := hx.one
  subst ex
  cases rx with
  | @tup _ a ys k hm hl hs =>
   have it : IsTup s.heap a ys.toArray := ⟨_, r.tupAt hm, rfl, k, rfl⟩
   have e3 : (ys.toArray.size : Int) = vs.length := by simp [hs.length]
   rw [Za7] at hl
   refine len_tuple it (by rw [e3]; omega) ?_
   rw [e3]
   exact post W s.heap _ _ (.refl W) r (.int _ _)
 ·cases ho
theorem ZdH : OpN prog w (fun xs => call (.builtin "abs") xs) Zc3 := by
 intro Γ W ρ H fr s Q E as xs v H' r hx ho post
 unfold Zc3 at ho
 split at ho
 ·cases ho
  obtain ⟨x, ex, rx⟩ := hx.one
  subst ex
  cases rx with
  | int i t => exact call_abs_int fun u tk => post W s.heap tk _ (.refl W) r (.int _ _)
 ·cases ho
theorem Zuu : OpN prog w (fun xs => call (.builtin "min") xs) Ziy := by
 intro Γ W ρ H fr s Q E as xs v H' r hx ho post
 unfold Ziy at ho
 split at ho
 ·cases ho
  obtain ⟨x, y, ex, rx, ry⟩ := hx.two
  subst ex
  cases rx with
  | int i t =>
   cases ry with
   | int j u =>
    refine min_two_ints Γ.hh fun h' tk up => ?_
    split
    ·rename_i c
     rw [if_pos c] at post
     exact post W h' tk _ (.refl W) (r.grown up) (.int _ _)
    ·rename_i c
     rw [if_neg c] at post
     exact post W h' tk _ (.refl W) (r.grown up) (.int _ _)
 ·cases ho
theorem ZvA : OpN prog w (fun xs => call (.builtin "sum") xs) ZgK := by
 intro Γ W ρ H fr s Q E as xs v H' r hx ho post
 unfold ZgK at ho
 split at ho
 ·obtain ⟨vs, e1, e2⟩ := Zz0.mp ho
  obtain ⟨ks, e3, e4⟩ := Zz1.mp e2
  cases e4
  obtain ⟨x, ex, rx⟩ := hx.one
  subst ex
  cases rx with
  | ref ea =>
   obtain ⟨hl, ys, k, hg, hv⟩ := r.at e1 ea
   obtain ⟨ts, h1, h2⟩ := ZrK hv e3
   have isl : s.heap.IsList _ (intItems ts) := ⟨_, hg, rfl, k, by rw [← h1]⟩
   refine sum_intListG Γ.hh isl fun h' tk t' up => ?_
   rw [h2]
   exact post W h' tk _ (.refl W) (r.grown up) (.int _ _)
 ·cases ho
theorem Zaj : Op2 prog w (binaryOp .Add) Zah := by
 intro Γ W ρ H fr s Q E a b x y v H' r hx hy ho post
 unfold Zah at ho
 split at ho
 ·cases ho
  cases hx; cases hy
  exact PySem.P.add_int (post W s.heap _ _ (.refl W) r (.int _ _))
 ·obtain ⟨vs, e1, ho⟩ := Zz0.mp ho
  obtain ⟨us, e2, ho⟩ := Zz0.mp ho
  by_cases hl : (vs ++ us).length ≤ LEN
  ·rw [if_pos hl] at ho
   cases ho
   cases hx with
   | ref ea =>
   cases hy with
   | ref eb =>
   obtain ⟨l1, ys, k, hg, hv⟩ := r.at e1 ea
   obtain ⟨l2, zs, k2, hg2, hv2⟩ := r.at e2 eb
   obtain ⟨m, c, led, r'⟩ := r
   have i1 : s.heap.IsList _ ys.toArray := ⟨_, hg, rfl, k, rfl⟩
   have i2 : s.heap.IsList _ zs.toArray := ⟨_, hg2, rfl, k2, rfl⟩
   refine add_lists (hsz := Zc7 (by rw [hv.length, hv2.length, ← List.length_append]; exact hl)) r'.F r'.N i1 i2 fun h' F' N' => ?_
   obtain ⟨W2, le2, r2, v2⟩ := r'.newList F' N' r'.off (hv.append hv2) hl
   exact post W2 h' s.toks _ le2 r2 v2
  ·rw [if_neg hl] at ho
   cases ho
 ·rename_i vs us
  by_cases hl : (vs ++ us).length ≤ LEN
  ·rw [if_pos hl] at ho
   cases ho
   cases hx with
   | @tup _ a ys k hm h1 hv =>
   cases hy with
   | @tup _ b zs k2 hm2 h2 hv2 =>
   have t1 : IsTup s.heap a ys.toArray := ⟨_, r.tupAt hm, rfl, k, rfl⟩
   have t2 : IsTup s.heap b zs.toArray := ⟨_, r.tupAt hm2, rfl, k2, rfl⟩
   have r0 := r
   obtain ⟨m, c, led, r'⟩ := r
   refine add_tuples (hsz := Zc7 (by rw [hv.length, hv2.length, ← List.length_append]; exact hl)) r'.F r'.N t1 t2 (fun e => ?_) (fun _ e => ?_) fun _ _ h' F' N' => ?_
   ·have : vs = [] := List.length_eq_zero_iff.mp (by rw [← hv.length, e]; rfl)
    subst this
    exact post W s.heap s.toks _ (.refl W) r0 (.tup hm2 h2 hv2)
   ·have : us = [] := List.length_eq_zero_iff.mp (by rw [← hv2.length, e]; rfl)
    subst this
    rw [List.append_nil] at post
    exact post W s.heap s.toks _ (.refl W) r0 (.tup hm h1 hv)
   ·obtain ⟨W2, le2, r2, v2⟩ := r'.newTup F' N' r'.off (hv.append hv2) hl
    exact post W2 h' s.toks _ le2 r2 v2
  ·rw [if_neg hl] at ho
   cases ho
 ·cases ho
theorem Zo1 (vs : List V) : ∀ n, (ZeE vs n).length = vs.length * n
 | 0 => rfl
 | n + 1 => by rw [ZeE, List.length_append, Zo1 vs n, Nat.mul_succ]
theorem ZsY (xs : List Value) (n : Nat) : ∀ acc : Array Value, (List.foldl (fun x1 x2 => x1 ++ x2) acc (List.replicate n xs.toArray)) = acc ++ (List.replicate n xs).flatten.toArray := by
 induction n with
 | zero => intro acc; simp
 | succ n ih =>
  intro acc
  rw [List.replicate_succ, List.foldl_cons, ih, List.replicate_succ, List.flatten_cons]
  simp [Array.append_assoc]
theorem ZpB {W : Wd} {vs : List V} {xs : List Value} (h : VRs W vs xs) : ∀ n, VRs W (ZeE vs n) (List.replicate n xs).flatten
 | 0 => .nil
 | n + 1 => by
  rw [ZeE, List.replicate_succ', List.flatten_append]
  simp only [List.flatten_cons, List.flatten_nil, List.append_nil]
  exact (ZpB h n).append h
theorem Za8 : Op2 prog w (binaryOp .Mult) ZaV := by
 intro Γ W ρ H fr s Q E a b x y v H' r hx hy ho post
 unfold ZaV at ho
 split at ho
 ·rename_i i j
  by_cases hm : mulOk i j = true
  ·rw [if_pos hm] at ho
   cases ho
   cases hx; cases hy
   exact PySem.P.mul_int (post W s.heap _ _ (.refl W) r (.int _ _)) (ZtI hm)
  ·rw [if_neg hm] at ho
   cases ho
 ·rename_i i k
  obtain ⟨vs, e1, ho⟩ := Zz0.mp ho
  by_cases hc : vs.length * k.toNat ≤ LEN ∧ -(2 ^ 63 : Int) ≤ k ∧ k < 2 ^ 63
  ·rw [if_pos hc] at ho
   cases ho
   cases hx with
   | ref ea =>
   cases hy with
   | int _ u =>
   obtain ⟨l1, ys, kk, hg, hv⟩ := r.at e1 ea
   obtain ⟨m, c, led, r'⟩ := r
   have hl := hc.1
   rw [Za7] at hl
   refine mul_list r'.F r'.N hg hc.2.1 hc.2.2 (by rw [List.size_toArray, hv.length]; omega) fun h' F' N' => ?_
   have e2 : (List.foldl (fun x1 x2 => x1 ++ x2) #[] (List.replicate (if ys.toArray.isEmpty = true then 0 else k.toNat) ys.toArray)) = (List.replicate k.toNat ys).flatten.toArray := by
    cases ys with
    | nil =>
     simp
    | cons y0 ys0 =>
     have : ((y0 :: ys0).toArray.isEmpty = true) = False := by simp
     simp only [this, if_false]
     rw [ZsY]
     simp
   rw [e2] at N'
   obtain ⟨W2, le2, r2, v2⟩ := r'.newList F' N' r'.off (ZpB hv k.toNat) (by rw [Zo1]; exact hc.1)
   exact post W2 h' s.toks _ le2 r2 v2
  ·rw [if_neg hc] at ho
   cases ho
 ·cases ho
end
end PM
end
section
set_option maxRecDepth 100000
set_option linter.all false
set_option autoImplicit false
namespace PM
open PySem PyProof.Rows PyProof
noncomputable def upd (ρ : Lc) (i : Nat) (v : V) : Lc := fun j => if j = i then some v else ρ j
noncomputable abbrev Sm := Lc → Hp → Option (Option V × Lc × Hp)
noncomputable def Z0 : Sm := fun ρ H => some (none, ρ, H)
noncomputable def Zw (a b : Sm) : Sm := fun ρ H => (a ρ H).bind fun p => match p.1 with
 | some _ => some p
 | none => b p.2.1 p.2.2
noncomputable def ZG (f : Ex) : Sm := fun ρ H => (f ρ H).map fun p => (some p.1, ρ, p.2)
noncomputable def ZN (i : Nat) (f : Ex) : Sm := fun ρ H => (f ρ H).map fun p => (none, upd ρ i p.1, p.2)
noncomputable def ZT (t : Ts) (a b : Sm) : Sm := fun ρ H => (t ρ H).bind fun p => if p.1 then a ρ p.2 else b ρ p.2
noncomputable def Zcd (f : Ex) : Sm := fun ρ H => (f ρ H).map fun p => (none, ρ, p.2)
noncomputable def Znt : V → V → V → Hp → Option Hp
 | .ref a, .int k, v, H => H[a]?.bind fun vs => if a ≠ 0 ∧ 0 ≤ k ∧ k < vs.length then some (H.set a (vs.set k.toNat v)) else none
 | _, _, _, _ => none
noncomputable def Zby (f o i : Ex) : Sm := fun ρ H => (f ρ H).bind fun p => (o ρ p.2).bind fun q => (i ρ q.2).bind fun u => (Znt q.1 u.1 p.1 u.2).map fun K => (none, ρ, K)
noncomputable def ZcW (t : Ts) (b : Sm) : Nat → Sm
 | 0 => fun _ _ => none
 | n + 1 => fun ρ H => (t ρ H).bind fun p => if p.1 then (b ρ p.2).bind fun q => (match q.1 with
   | some _ => some q
   | none => ZcW t b n q.2.1 q.2.2) else some (none, ρ, p.2)
noncomputable def PostS (Γ : Cx) (W : Wd) (fr : List (Addr × Obj)) (s : Shared) (Q : Flow → Shared → Prop) : Option V × Lc × Hp → Prop
 | (none, ρ', H') => ∀ (W' : Wd) (h' : Heap) (tk' : Nat), W.Le W' → Rep Γ W' ρ' H' fr h' → Q .next { s with heap := h', toks := tk' }
 | (some v, ρ', H') => ∀ (W' : Wd) (h' : Heap) (tk' : Nat) (x : Value), W.Le W' → Rep Γ W' ρ' H' fr h' → VR W' v x → Q (.ret x) { s with heap := h', toks := tk' }
theorem PostS.le {Γ : Cx} {W W' : Wd} {fr : List (Addr × Obj)} {s : Shared} {h : Heap} {tk : Nat} {Q : Flow → Shared → Prop} {r : Option V × Lc × Hp} (l : W.Le W') (p : PostS Γ W fr s Q r) : PostS Γ W' fr { s with heap := h, toks := tk } Q r := by
 obtain ⟨o, ρ', H'⟩ := r
 cases o with
 | none => exact fun W2 h2 t2 l2 r2 => p W2 h2 t2 (l.trans l2) r2
 | some v => exact fun W2 h2 t2 x l2 r2 x2 => p W2 h2 t2 x (l.trans l2) r2 x2
section
variable (prog : Program) (w : World)
noncomputable def S1 (Γ : Cx) (st : Stmt) (g : Sm) : Prop := ∀ (W : Wd) (ρ : Lc) (H : Hp) (fr : List (Addr × Obj)) (s : Shared) (Q : Flow → Shared → Prop) (E : Value → Shared → Prop) (r : Option V × Lc × Hp),
 Rep Γ W ρ H fr s.heap → g ρ H = some r → PostS Γ W fr s Q r → wpAny (model prog w) Γ.A (exec st Γ.env) Q E s
noncomputable def Ss (Γ : Cx) (ss : List Stmt) (g : Sm) : Prop := ∀ (W : Wd) (ρ : Lc) (H : Hp) (fr : List (Addr × Obj)) (s : Shared) (Q : Flow → Shared → Prop) (E : Value → Shared → Prop) (r : Option V × Lc × Hp),
 Rep Γ W ρ H fr s.heap → g ρ H = some r → PostS Γ W fr s Q r → wpAny (model prog w) Γ.A (execs ss Γ.env) Q E s
noncomputable def Sto (Γ : Cx) (x : Str) (i : Nat) : Prop := ∀ (W : Wd) (ρ : Lc) (H : Hp) (fr : List (Addr × Obj)) (s : Shared) (Q : Unit → Shared → Prop) (E : Value → Shared → Prop) (v : V) (y : Value),
 Rep Γ W ρ H fr s.heap → VR W v y → (∀ (h' : Heap) (tk' : Nat), Rep Γ W (upd ρ i v) H fr h' → Q () { s with heap := h', toks := tk' }) → wpAny (model prog w) Γ.A (storeName Γ.env x y) Q E s
noncomputable def Rd (Γ : Cx) (x : Str) (i : Nat) : Prop := ∀ (W : Wd) (ρ : Lc) (H : Hp) (fr : List (Addr × Obj)) (s : Shared) (Q E : Value → Shared → Prop) (v : V) (pos : Pos),
 Rep Γ W ρ H fr s.heap → ρ i = some v → (∀ y, VR W v y → Q y s) → wpAny (model prog w) Γ.A (eval (.Name x pos) Γ.env) Q E s
end
section
variable {prog : Program} {w : World} {Γ : Cx}
theorem Ziz {x : Str} {i : Nat} {pos : Pos} (h : Rd prog w Γ x i) : J prog w Γ (.Name x pos) (Zb i) := by
 intro W ρ H fr s Q E v H' r hf post
 obtain ⟨u, e1, e2⟩ := Zz1.mp hf
 cases e2
 exact h W ρ H fr s Q E v pos r e1 fun y hy => post W s.heap s.toks y (.refl W) r hy
theorem Z3 : Ss prog w Γ [] Z0 := fun W ρ H fr s Q E r rp hf post => by
 cases hf
 exact wpAny_execs_nil (post W s.heap s.toks (.refl W) rp)
theorem Zy {st : Stmt} {ss : List Stmt} {a b : Sm} (h1 : S1 prog w Γ st a) (h2 : Ss prog w Γ ss b) : Ss prog w Γ (st :: ss) (Zw a b) := by
 intro W ρ H fr s Q E r rp hf post
 obtain ⟨p, e1, hf⟩ := Zz0.mp hf
 refine wpAny_execs_cons (h1 W ρ H fr s _ E p rp e1 ?_)
 obtain ⟨o, ρ1, H1⟩ := p
 cases o with
 | some v =>
  cases hf
  exact fun W1 k1 t1 x l1 r1 x1 => post W1 k1 t1 x l1 r1 x1
 | none => exact fun W1 k1 t1 l1 r1 => h2 W1 ρ1 H1 fr _ Q E r r1 hf (post.le l1)
theorem ZC {st : Stmt} {a : Sm} (h1 : S1 prog w Γ st a) : Ss prog w Γ [st] a := by
 intro W ρ H fr s Q E r rp hf post
 refine wpAny_execs_cons (h1 W ρ H fr s _ E r rp hf ?_)
 obtain ⟨o, ρ1, H1⟩ := r
 cases o with
 | some v => exact fun W1 k1 t1 x l1 r1 x1 => post W1 k1 t1 x l1 r1 x1
 | none => exact fun W1 k1 t1 l1 r1 => wpAny_execs_nil (post W1 k1 t1 l1 r1)
theorem ZI {e : Expr} {pos : Pos} {f : Ex} (h : J prog w Γ e f) : S1 prog w Γ (.Return (some e) pos) (ZG f) := by
 intro W ρ H fr s Q E r rp hf post
 obtain ⟨p, e1, e2⟩ := Zz1.mp hf
 cases e2
 exact wpAny_Return_some (h W ρ H fr s _ E _ _ rp e1 post)
theorem Z1 {t : Expr} {a b : List Stmt} {pos : Pos} {u : Ts} {f g : Sm} (ht : JT prog w Γ t u) (h1 : Ss prog w Γ a f) (h2 : Ss prog w Γ b g) : S1 prog w Γ (.If t a b pos) (ZT u f g) := by
 intro W ρ H fr s Q E r rp hf post
 obtain ⟨p, e1, hf⟩ := Zz0.mp hf
 refine wpAny_If (ht W ρ H fr s _ E _ _ rp e1 fun W1 k1 t1 l1 r1 => ?_)
 obtain ⟨c, H1⟩ := p
 cases c with
 | true => exact h1 W1 ρ H1 fr _ Q E r r1 hf (post.le l1)
 | false => exact h2 W1 ρ H1 fr _ Q E r r1 hf (post.le l1)
theorem Zdd {e : Expr} {pos : Pos} {f : Ex} (h : J prog w Γ e f) (hi : interactive Γ.env = false := by rfl) (hs : swapsWith e none pos.line Γ.env = pure false := by rfl) : S1 prog w Γ (.Expr e pos) (Zcd f) := by
 intro W ρ H fr s Q E r rp hf post
 obtain ⟨p, e1, e2⟩ := Zz1.mp hf
 cases e2
 exact wpAny_Expr_any (h W ρ H fr s _ E _ _ rp e1 fun W1 k1 t1 x l1 r1 x1 => post W1 k1 t1 l1 r1) hi hs
theorem ZV {x : Str} {i : Nat} {e : Expr} {pos' pos : Pos} {f : Ex} (hx : Sto prog w Γ x i) (h : J prog w Γ e f) (hs : swapsWith e (some (.Name x pos')) pos.line Γ.env = pure false := by rfl) : S1 prog w Γ (.Assign [.Name x pos'] e pos) (ZN i f) := by
 intro W ρ H fr s Q E r rp hf post
 obtain ⟨p, e1, e2⟩ := Zz1.mp hf
 cases e2
 refine wpAny_Assign_Name (h W ρ H fr s _ E _ _ rp e1 fun W1 k1 t1 y l1 r1 y1 => ?_) hs
 exact hx W1 ρ _ fr _ _ E _ y r1 y1 fun h' tk' r2 => post W1 h' tk' l1 r2
theorem Zge {t : Expr} {a : List Stmt} {pos : Pos} {u : Ts} {f : Sm} (n : Nat) (ht : JT prog w Γ t u) (h1 : Ss prog w Γ a f) : S1 prog w Γ (.While t a [] pos) (ZcW u f n) := by
 intro W ρ H fr s Q E r rp hf post
 refine wpAny_While ?_
 refine codeAny_whileLoop (fun k s' => ∃ W' ρ' H' h' tk', s' = { s with heap := h', toks := tk' } ∧ W.Le W' ∧ Rep Γ W' ρ' H' fr h' ∧ ZcW u f k ρ' H' = some r) ?_ n ⟨W, ρ, H, s.heap, s.toks, rfl, .refl W, rp, hf⟩
 rintro k s' ⟨W1, ρ1, H1, k1, t1, rfl, l1, r1, e⟩
 cases k with
 | zero => cases e
 | succ k =>
  obtain ⟨p, e1, e⟩ := Zz0.mp e
  refine ht W1 ρ1 H1 fr _ _ _ _ _ r1 e1 fun W2 k2 t2 l2 r2 => ?_
  obtain ⟨c, H2⟩ := p
  cases c with
  | false =>
   cases e
   exact wpAny_execs_nil (post W2 k2 t2 (l1.trans l2) r2)
  | true =>
   obtain ⟨q, e2, e⟩ := Zz0.mp e
   refine h1 W2 ρ1 H2 fr _ _ _ q r2 e2 ?_
   obtain ⟨o, ρ3, H3⟩ := q
   cases o with
   | some v =>
    cases e
    exact fun W3 k3 t3 x l3 r3 x3 => post W3 k3 t3 x ((l1.trans l2).trans l3) r3 x3
   | none => exact fun W3 k3 t3 l3 r3 => ⟨k, Nat.lt_succ_self k, W3, ρ3, H3, k3, t3, rfl, (l1.trans l2).trans l3, r3, e⟩
end
noncomputable def Zgj : List V → Hp → Option (V × Hp)
 | [.ref a, v], H => H[a]?.bind fun vs => if a ≠ 0 ∧ vs.length < LEN then some (.none, H.set a (vs ++ [v])) else none
 | _, _ => none
section
variable {prog : Program} {w : World} {Γ : Cx}
theorem ZsZ : OpN prog w (fun xs => call (.builtin "list.append") xs) Zgj := by
 intro Γ W ρ H fr s Q E as xs v H' r hx ho post
 unfold Zgj at ho
 split at ho
 ·obtain ⟨vs, e1, e2⟩ := Zz0.mp ho
  obtain ⟨x, y, ex, rx, ry⟩ := hx.two
  subst ex
  split at e2
  ·rename_i hl
   cases e2
   cases rx with
   | @ref _ a0 ea =>
    obtain ⟨_, ys, k, hg, hv⟩ := r.at e1 ea
    refine append_at (hsz := Zc7 (by rw [List.size_toArray, hv.length]; omega)) hg fun h' sb hg' => ?_
    have hg2 : h'.get? a0 = some (Zb0 (ys ++ [y]) (k + 1)) := by rw [hg']; simp
    exact post W h' s.toks _ (.refl W) (r.change hl.1 e1 ea sb hg2 (hv.snoc ry) (by simp; omega)) .none
  ·cases e2
 ·cases ho
end
end PM
end
section
set_option maxRecDepth 100000
set_option linter.all false
set_option autoImplicit false
namespace PM
open PySem PySem.W PyProof.Rows PyProof
theorem ZpC : ∀ {l : List Value} {k : Nat} {v : Value}, k < l.length → ki_setL l k v = some (l.set k v)
 | [], _, _, h => by simp at h
 | x :: r, 0, v, _ => by simp [ki_setL]
 | x :: r, k + 1, v, h => by
  have := ZpC (l := r) (k := k) (v := v) (by simpa using h)
  simp [ki_setL, this]
theorem Zs0 {a k v : V} {H K : Hp} (h : Znt a k v H = some K) : ∃ i j vs, a = .ref i ∧ k = .int j ∧ H[i]? = some vs ∧ (i ≠ 0 ∧ 0 ≤ j ∧ j < vs.length) ∧ K = H.set i (vs.set j.toNat v) := by
 cases a <;> first | (cases h; done) | skip
 cases k <;> first | (cases h; done) | skip
 obtain ⟨vs, e1, e2⟩ := Zz0.mp h
 split at e2
 ·rename_i c
  cases e2
  exact ⟨_, _, vs, rfl, rfl, e1, c, rfl⟩
 ·cases e2
theorem ZrL {a v x : V} {H K : Hp} (h : Zgj [a, v] H = some (x, K)) : ∃ i, a = .ref i := by
 cases a <;> first | (cases h; done) | skip
 exact ⟨_, rfl⟩
noncomputable def Zd0 (o f : Ex) : Ex := fun ρ H => (o ρ H).bind fun p => (f ρ p.2).bind fun q => Zgj [p.1, q.1] q.2
section
variable {prog : Program} {w : World} {Γ : Cx}
theorem S1.put {o i value : Expr} {pos' pos : Pos} {f g k : Ex} (hf : J prog w Γ value f) (ho : J prog w Γ o g) (hi : J prog w Γ i k) (hs : swapsWith value (some (.Subscript o i pos')) pos.line Γ.env = pure false := by rfl) : S1 prog w Γ (.Assign [.Subscript o i pos'] value pos) (Zby f g k) := by
 intro W ρ H fr s Q E r rp hx post
 obtain ⟨p, e1, hx⟩ := Zz0.mp hx
 obtain ⟨q, e2, hx⟩ := Zz0.mp hx
 obtain ⟨u, e3, hx⟩ := Zz0.mp hx
 obtain ⟨K, e4, e5⟩ := Zz1.mp hx
 cases e5
 refine wpAny_Assign_Subscript (hf W ρ H fr s _ E _ _ rp e1 fun W1 k1 t1 x l1 r1 x1 => ?_) hs
 refine ho W1 ρ _ fr _ _ E _ _ r1 e2 fun W2 k2 t2 y l2 r2 y2 => ?_
 refine hi W2 ρ _ fr _ _ E _ _ r2 e3 fun W3 k3 t3 z l3 r3 z3 => ?_
 have x3 := x1.mono (l2.trans l3)
 have y3 := y2.mono l3
 obtain ⟨b, kk, vs, eb, ek, hvs, hc, e6⟩ := Zs0 e4
 subst e6
 rw [eb] at y3
 rw [ek] at z3
 cases y3 with
 | @ref _ a ea =>
 cases z3 with
 | int _ tz =>
 obtain ⟨hl, xs, n, hg, hv⟩ := r3.at hvs ea
 obtain ⟨m, c, led, r'⟩ := r3
 have hll := hl
 rw [Za7] at hll
 have hk : kk.toNat < xs.length := by rw [hv.length]; omega
 obtain ⟨_, a', xs', n', h1, h2, h3⟩ := r'.R.lists b vs hvs
 rw [ea] at h1
 cases h1
 have h2 := r'.inLed hc.1 ea h2
 have N2 : News Γ.h₀ Γ.L k3 ((a, Zb0 xs n) :: led.filter (fun q => decide (q.1 ≠ a))) := by
  intro q hq
  rcases List.mem_cons.mp hq with e | hq
  ·subst e
   exact ⟨hg, (r'.N _ h2).2⟩
  ·exact r'.N q (List.mem_filter.mp hq).1
 refine ki_set (its := xs.toArray) (n := n) (q := xs.set kk.toNat x) r'.F N2 hc.2.1 (by omega) (by simpa using ZpC hk) (Upd.head fun q hq => by simpa using (List.mem_filter.mp hq).2) fun h' F' N' => ?_
 exact post W3 h' t3 ((l1.trans l2).trans l3) (r'.changed hc.1 hvs ea F' N' (hv.set _ x3) (by simpa using hl))
theorem J.append {o e : Expr} {apos pos : Pos} {f g : Ex} (ho : J prog w Γ o f) (he : J prog w Γ e g) (hbase : attributeBase o "append" Γ.env (eval o Γ.env) = eval o Γ.env := by rfl)
  (hfew : ((backTo pos (starEach [e] Γ.env)).all (fun x => !x.1) && (backToKw pos (keywordEach [] Γ.env)).all (fun x => x.1.isSome) && decide (([e] : List Expr).length + ([] : List Keyword).length + (if ([] : List Keyword).isEmpty then 0 else 1) < 30)) = true := by rfl)
  (hline : (apos.endLine == pos.line) = true := by rfl) (htrees : backTo pos (starEach [e] Γ.env) = [(false, eval e Γ.env)] := by rfl) : J prog w Γ (.Call (.Attribute o "append" apos) [e] [] pos) (Zd0 f g) := by
 intro W ρ H fr s Q E v H' r hx post
 obtain ⟨p, e1, hx⟩ := Zz0.mp hx
 obtain ⟨q, e2, e3⟩ := Zz0.mp hx
 refine wpAny_Call_append hbase hfew hline htrees (ho W ρ H fr s _ E _ _ r e1 fun W1 k1 t1 x l1 r1 x1 => ?_)
 obtain ⟨v1, H1⟩ := p
 obtain ⟨b, hb⟩ := ZrL e3
 subst hb
 have hb := r1.refIn x1
 cases x1 with
 | @ref _ a ea =>
 obtain ⟨_, xs, n, hg, hv⟩ := r1.at (List.getElem?_eq_getElem hb) ea
 refine ⟨a, xs.toArray, rfl, ⟨_, n, hg, rfl, rfl, rfl⟩, ?_⟩
 refine he W1 ρ _ fr _ _ E _ _ r1 e2 fun W2 k2 t2 y l2 r2 y2 => ?_
 exact ZsZ Γ W2 ρ _ fr _ Q E _ [.ref a, y] v H' r2 (.cons (.ref (l2.at ea)) (.cons y2 .nil)) e3 fun W3 k3 t3 z l3 r3 z3 => post W3 k3 t3 z ((l1.trans l2).trans l3) r3 z3
end
end PM
end
section
set_option maxRecDepth 100000
set_option linter.all false
set_option autoImplicit false
namespace PM
open PySem PySem.W PyProof.Rows PyProof
noncomputable abbrev Nx := Nat → Hp → Option (Option V)
noncomputable def Zwq (Γ : Cx) (W : Wd) (ρ : Lc) (H : Hp) (fr : List (Addr × Obj)) (s : Shared) (It : Nat → List (Addr × Obj) → Prop) (i : Nat) (Q : Option Value → Shared → Prop) : Option V → Prop
 | none => ∀ (h' : Heap) (tk' : Nat), Rep Γ W ρ H fr h' → Q none { s with heap := h', toks := tk' }
 | some v => ∀ (fs' : List (Addr × Obj)) (h' : Heap) (tk' : Nat) (x : Value), It (i + 1) fs' → Rep Γ W ρ H (fs' ++ fr) h' → VR W v x → Q (some x) { s with heap := h', toks := tk' }
structure Itr (prog : Program) (w : World) (Γ : Cx) (W0 : Wd) (it : Value) (as : List Addr) (It : Nat → List (Addr × Obj) → Prop) (nx : Nx) : Prop where
 adr : ∀ i fs, It i fs → fs.map (·.1) = as
 next : ∀ (i : Nat) (W : Wd) (ρ : Lc) (H : Hp) (fr fs : List (Addr × Obj)) (s : Shared) (Q : Option Value → Shared → Prop) (E : Value → Shared → Prop) (o : Option V), W0.Le W → Rep Γ W ρ H (fs ++ fr) s.heap → (∀ a ∈ as, ∀ t ∈ fr, a ≠ t.1) → It i fs → nx i H = some o →
  Zwq Γ W ρ H fr s It i Q o → wpAny (model prog w) Γ.A (pyNext it) Q E s
 self : ∀ (i : Nat) (W : Wd) (ρ : Lc) (H : Hp) (fr fs : List (Addr × Obj)) (s : Shared) (Q E : Value → Shared → Prop), W0.Le W → Rep Γ W ρ H (fs ++ fr) s.heap → It i fs → Q it s → wpAny (model prog w) Γ.A (pyIter it) Q E s
noncomputable abbrev Src := Lc → Hp → Option (Nx × Nat × Hp)
noncomputable def JI (prog : Program) (w : World) (Γ : Cx) (e : Expr) (g : Src) : Prop := ∀ (W : Wd) (ρ : Lc) (H : Hp) (fr : List (Addr × Obj)) (s : Shared) (Q E : Value → Shared → Prop) (nx : Nx) (n : Nat) (H' : Hp),
 Rep Γ W ρ H fr s.heap → g ρ H = some (nx, n, H') →
 (∀ (W' : Wd) (h' : Heap) (tk' : Nat) (it : Value) (as : List Addr) (It : Nat → List (Addr × Obj) → Prop) (fs : List (Addr × Obj)), W.Le W' → It 0 fs → Rep Γ W' ρ H' (fs ++ fr) h' → (∀ a ∈ as, ∀ t ∈ fr, a ≠ t.1) → Itr prog w Γ W' it as It nx → Q it { s with heap := h', toks := tk' }) →
 wpAny (model prog w) Γ.A (eval e Γ.env) (fun xv s₁ => wpAny (model prog w) Γ.A (pyIter xv) Q E s₁) E s
noncomputable def Zm2 (a : Nat) : Nx := fun i H => H[a]?.map fun vs => vs[i]?
noncomputable def Zqc (vs : List V) : Nx := fun i _ => some vs[i]?
noncomputable def Zfj (a c : Int) (n : Nat) : Nx := fun i _ => some (if i < n then some (.int (a + i * c)) else none)
noncomputable def Zbz (f : Ex) : Src := fun ρ H => (f ρ H).bind fun p => match p.1 with
 | .ref a => p.2[a]?.map fun vs => (Zm2 a, vs.length + 1, p.2)
 | .tup vs => some (Zqc vs, vs.length + 1, p.2)
 | _ => none
noncomputable def rngN (a b c : Int) : Nat := (Builtin.Range.rangeSize a b c).toNat
noncomputable def Zcy (a b c : Int) (H : Hp) : Option (Nx × Nat × Hp) := if c ≠ 0 ∧ Builtin.Range.small a b c = true ∧ 0 ≤ Builtin.Range.rangeSize a b c ∧ rngN a b c ≤ LEN ∧ Builtin.divisionGoesByPylong (b - a) c = false then some (Zfj a c (rngN a b c), rngN a b c + 1, H) else none
noncomputable def ZaM (g : Exs) : Src := fun ρ H => (g ρ H).bind fun p => match p.1 with
 | [.int b] => Zcy 0 b 1 p.2
 | [.int a, .int b] => Zcy a b 1 p.2
 | [.int a, .int b, .int c] => Zcy a b c p.2
 | _ => none
section
variable {prog : Program} {w : World} {Γ : Cx}
theorem Zm3 {W0 : Wd} {I : Addr} {nx : Nx} (P : Nat → Obj → Prop)
  (next : ∀ (i : Nat) (W : Wd) (ρ : Lc) (H : Hp) (fr : List (Addr × Obj)) (ob : Obj) (s : Shared) (Q : Option Value → Shared → Prop) (E : Value → Shared → Prop) (o : Option V), W0.Le W → Rep Γ W ρ H ((I, ob) :: fr) s.heap → P i ob → nx i H = some o →
   (match o with
    | none => ∀ (h' : Heap) (tk' : Nat), (∀ b o, b ≠ I → s.heap.get? b = some o → h'.get? b = some o) → Q none { s with heap := h', toks := tk' }
    | some v => ∀ (ob' : Obj) (h' : Heap) (tk' : Nat) (x : Value), P (i + 1) ob' → h'.get? I = some ob' → (∀ b o, b ≠ I → s.heap.get? b = some o → h'.get? b = some o) → VR W v x → Q (some x) { s with heap := h', toks := tk' }) → wpAny (model prog w) Γ.A (pyNext (.ref I)) Q E s)
  (self : ∀ (i : Nat) (W : Wd) (ρ : Lc) (H : Hp) (fr : List (Addr × Obj)) (ob : Obj) (s : Shared) (Q E : Value → Shared → Prop), W0.Le W → Rep Γ W ρ H ((I, ob) :: fr) s.heap → P i ob → Q (.ref I) s → wpAny (model prog w) Γ.A (pyIter (.ref I)) Q E s) :
  Itr prog w Γ W0 (.ref I) [I] (fun i fs => ∃ ob, fs = [(I, ob)] ∧ P i ob) nx := by
 refine ⟨?_, ?_, ?_⟩
 ·rintro i fs ⟨ob, e, _⟩
  rw [e]
  rfl
 ·rintro i W ρ H fr fs s Q E o le r ap ⟨ob, e, hp⟩ hn post
  subst e
  refine next i W ρ H fr ob s Q E o le r hp hn ?_
  have ap' : ∀ q ∈ [(I, ob)], ∀ t ∈ fr, q.1 ≠ t.1 := fun q hq t ht => by rw [List.mem_singleton.mp hq]; exact ap I Zz5 t ht
  cases o with
  | none =>
   intro h' tk' keep
   have := Rep.swap (fs := [(I, ob)]) (fs' := []) r ap' (fun b o hb e => keep b o (fun q => hb (by simp [q])) e) (fun q hq => nomatch hq)
   exact post h' tk' this
  | some v =>
   intro ob' h' tk' x hp' hg keep hx
   have := Rep.swap (fs := [(I, ob)]) (fs' := [(I, ob')]) r ap' (fun b o hb e => keep b o (fun q => hb (by simp [q])) e) (fun q hq => by rw [List.mem_singleton.mp hq]; exact ⟨hg, by simp⟩)
   exact post [(I, ob')] h' tk' x ⟨ob', rfl, hp'⟩ this hx
 ·rintro i W ρ H fr fs s Q E le r ⟨ob, e, hp⟩ q
  subst e
  exact self i W ρ H fr ob s Q E le r hp q
theorem JI.seq {e : Expr} {f : Ex} (h : J prog w Γ e f) : JI prog w Γ e (Zbz f) := by
 intro W ρ H fr s Q E nx n H' r hf post
 obtain ⟨p, e1, hf⟩ := Zz0.mp hf
 refine h W ρ H fr s _ E _ _ r e1 fun W1 k1 t1 x l1 r1 x1 => ?_
 obtain ⟨v, H1⟩ := p
 cases x1 with
 | none => cases hf
 | bool _ => cases hf
 | int _ _ => cases hf
 | str _ _ => cases hf
 | @tup vs a xs k hm hl hs =>
  cases hf
  have it : k1.IsTuple a xs.toArray := ⟨_, r1.tupAt hm, rfl, k, rfl⟩
  refine wpAny_pyIter_tuple it ?_
  obtain ⟨r2, ap⟩ := r1.more (fs := [(k1.objs.size, { cls := .type "tuple_iterator", data := .fields #[.ref a, .int 0 0] })]) (fun b o e => Heap.get?_push_of_some { cls := .type "tuple_iterator", data := .fields #[.ref a, .int 0 0] } e) (fun q hq => by rw [List.mem_singleton.mp hq]; exact ⟨Heap.get?_push_size _ rfl, Nat.le_refl _⟩)
  refine post W1 _ t1 _ [k1.objs.size] _ _ l1 ⟨_, rfl, ?_⟩ r2 (fun b hb t ht => by rw [List.mem_singleton.mp hb]; exact ap _ Zz5 t ht)
   (Zm3 (fun i ob => ob.cls = .type "tuple_iterator" ∧ ob.data = .fields #[.ref a, .int i 0]) ?_ ?_)
  ·intro i W ρ H fr ob s Q E o le r hp hn post
   have g1 : s.heap.IsTupleIter k1.objs.size a i := ⟨ob, r.frAt Zz5, hp.1, hp.2⟩
   have g2 : s.heap.IsTuple a xs.toArray := ⟨_, r.tupAt (le.tups _ hm), rfl, k, rfl⟩
   have ne : a ≠ k1.objs.size := Nat.ne_of_lt (Heap.lt_size (r1.tupAt hm))
   have Wk := Walks.tuple (prog := prog) (w := w) Γ.hh k1.objs.size a ne xs.toArray
   cases hn
   cases ev : vs[i]? with
   | none =>
    rw [ev] at post
    have hi : xs.toArray[i]? = none := by have := List.getElem?_eq_none_iff.mp ev; rw [← hs.length] at this; simpa using this
    exact wpAny_pyNext_tuple_end Γ.hh g1 g2 hi fun h' he' => post h' s.toks fun b o hb e => he' b o hb e
   | some v =>
    rw [ev] at post
    obtain ⟨y, hy, ry⟩ := hs.at ev
    refine wpAny_pyNext_tuple_item g1 g2 (x := y) (by simpa using hy) fun h' hit' hs' => ?_
    obtain ⟨ob', h1, h2, h3⟩ := hit'
    exact post ob' h' s.toks y ⟨h2, h3⟩ h1 (fun b o hb e => hs'.extBut b o hb e) (ry.mono le)
  ·intro i W ρ H fr ob s Q E le r hp q
   exact wpAny_pyIter_tupleiter (⟨ob, r.frAt Zz5, hp.1, hp.2⟩ : s.heap.IsTupleIter k1.objs.size a i) q
  ·exact ⟨rfl, rfl⟩
 | @ref i0 a ea =>
  obtain ⟨vs, e2, e3⟩ := Zz1.mp hf
  cases e3
  obtain ⟨hl, xs, k, hg, hv⟩ := r1.at e2 ea
  have isl : k1.IsList a xs.toArray := ⟨_, hg, rfl, k, rfl⟩
  refine wpAny_pyIter_list isl ?_
  obtain ⟨r2, ap⟩ := r1.more (fs := [(k1.objs.size, { cls := .type "list_iterator", data := .fields #[.ref a, .int 0 0] })]) (fun b o e => Heap.get?_push_of_some { cls := .type "list_iterator", data := .fields #[.ref a, .int 0 0] } e) (fun q hq => by rw [List.mem_singleton.mp hq]; exact ⟨Heap.get?_push_size _ rfl, Nat.le_refl _⟩)
  refine post W1 _ t1 _ [k1.objs.size] _ _ l1 ⟨_, rfl, ?_⟩ r2 (fun b hb t ht => by rw [List.mem_singleton.mp hb]; exact ap _ Zz5 t ht)
   (Zm3 (fun i ob => ob.cls = .type "list_iterator" ∧ ob.data = .fields #[.ref a, .int i 0]) ?_ ?_)
  ·intro i W ρ H fr ob s Q E o le r hp hn post
   obtain ⟨us, eu, e4⟩ := Zz1.mp hn
   subst e4
   obtain ⟨hl2, ys, k2, hg2, hv2⟩ := r.at eu (le.at ea)
   have g1 : s.heap.IsListIter k1.objs.size a i := ⟨ob, r.frAt Zz5, hp.1, hp.2⟩
   have g2 : s.heap.IsList a ys.toArray := ⟨_, hg2, rfl, k2, rfl⟩
   cases ev : us[i]? with
   | none =>
    rw [ev] at post
    have hi : ys.toArray[i]? = none := by have := List.getElem?_eq_none_iff.mp ev; rw [← hv2.length] at this; simpa using this
    exact wpAny_pyNext_list_end Γ.hh g1 g2 hi fun h' he' => post h' s.toks fun b o hb e => he' b o hb e
   | some v =>
    rw [ev] at post
    obtain ⟨y, hy, ry⟩ := hv2.at ev
    refine wpAny_pyNext_list_item g1 g2 (x := y) (by simpa using hy) fun h' hit' hs' => ?_
    obtain ⟨ob', h1, h2, h3⟩ := hit'
    exact post ob' h' s.toks y ⟨h2, h3⟩ h1 (fun b o hb e => hs'.extBut b o hb e) ry
  ·intro i W ρ H fr ob s Q E le r hp q
   exact wpAny_pyIter_listiter (⟨ob, r.frAt Zz5, hp.1, hp.2⟩ : s.heap.IsListIter k1.objs.size a i) q
  ·exact ⟨rfl, rfl⟩
theorem ZrM {a b c : Int} {H : Hp} {z : Nx × Nat × Hp} (h : Zcy a b c H = some z) : c ≠ 0 ∧ Builtin.divisionGoesByPylong (b - a) c = false := by
 unfold Zcy at h
 split at h
 ·rename_i hc
  exact ⟨hc.1, hc.2.2.2.2⟩
 ·cases h
theorem ZtL {W0 : Wd} {I : Addr} {a c : Int} {n : Nat} : Itr prog w Γ W0 (.ref I) [I] (fun i fs => ∃ ob, fs = [(I, ob)] ∧ (i ≤ n ∧ ob = { cls := .type "range_iterator", dict := none, data := .fields #[rawInt (a + (i : Nat) * c), rawInt ((n : Int) - (i : Nat)), rawInt c], slots := #[] })) (Zfj a c n) := by
 have Wk := Walks.range (prog := prog) (w := w) Γ.hh I a c n
 refine Zm3 (fun i ob => i ≤ n ∧ ob = { cls := .type "range_iterator", dict := none, data := .fields #[rawInt (a + (i : Nat) * c), rawInt ((n : Int) - (i : Nat)), rawInt c], slots := #[] }) ?_ ?_
 ·intro i W ρ H fr ob s Q E o le r hp hn post
  have g : IsRangeIter s.heap I (a + (i : Nat) * c) ((n : Int) - (i : Nat)) c := (r.frAt Zz5).trans (congrArg some hp.2)
  cases hn
  by_cases hi : i < n
  ·rw [if_pos hi] at post
   refine Wk.item i s Q E hi g fun v h' tk hv st keep => ?_
   obtain ⟨t, e⟩ := hv
   subst e
   exact post _ h' tk _ ⟨hi, rfl⟩ st (fun b o hb e => keep b o (by simpa using hb) e) (.int _ _)
  ·rw [if_neg hi] at post
   have e : i = n := by have := hp.1; omega
   subst e
   exact Wk.done s Q E g fun h' tk keep => post h' tk fun b o hb e => keep b o (by simpa using hb) e
 ·intro i W ρ H fr ob s Q E le r hp q
  have g : IsRangeIter s.heap I (a + (i : Nat) * c) ((n : Int) - (i : Nat)) c := (r.frAt Zz5).trans (congrArg some hp.2)
  exact Wk.self i s Q E g q
theorem ZkW {a b c : Int} {t u v : Tok} {W : Wd} {ρ : Lc} {H : Hp} {fr : List (Addr × Obj)} {s : Shared} {k : Heap} {tk : Nat} {Q E : Value → Shared → Prop} {nx : Nx} {n : Nat} {H' : Hp} (r : Rep Γ W ρ H fr k) (hm : Zcy a b c H = some (nx, n, H'))
  (post : ∀ (W' : Wd) (h' : Heap) (tk' : Nat) (it : Value) (as : List Addr) (It : Nat → List (Addr × Obj) → Prop) (fs : List (Addr × Obj)), W.Le W' → It 0 fs → Rep Γ W' ρ H' (fs ++ fr) h' → (∀ a ∈ as, ∀ t ∈ fr, a ≠ t.1) → Itr prog w Γ W' it as It nx → Q it { s with heap := h', toks := tk' }) :
  wpAny (model prog w) Γ.A (pyIter (.ref k.objs.size)) Q E { s with heap := k.push { cls := .type "range", data := .fields #[.int a t, .int b u, .int c v] }, toks := tk } := by
 unfold Zcy at hm
 split at hm
 ·rename_i hc
  cases hm
  have hr : IsRange (k.push { cls := .type "range", data := .fields #[.int a t, .int b u, .int c v] }) k.objs.size a b c t u v := IsRange.new ..
  refine wpAny_pyIter_range hr hc.2.1 ?_
  have rp := r.push { cls := .type "range", data := .fields #[.int a t, .int b u, .int c v] }
  have en : Builtin.Range.rangeSize a b c = ((rngN a b c : Nat) : Int) := (Int.toNat_of_nonneg hc.2.2.1).symm
  dsimp only
  generalize hk : k.push { cls := .type "range", data := .fields #[.int a t, .int b u, .int c v] } = k2 at rp ⊢
  obtain ⟨r2, ap⟩ := rp.more (fs := [(k2.objs.size, { cls := .type "range_iterator", data := .fields #[rawInt a, rawInt (Builtin.Range.rangeSize a b c), rawInt c] })]) (fun b' o e => Heap.get?_push_of_some { cls := .type "range_iterator", data := .fields #[rawInt a, rawInt (Builtin.Range.rangeSize a b c), rawInt c] } e) (fun q hq => by rw [List.mem_singleton.mp hq]; exact ⟨Heap.get?_push_size _ rfl, Nat.le_refl _⟩)
  refine post W _ tk _ [k2.objs.size] _ _ (.refl W) ⟨_, rfl, Nat.zero_le _, ?_⟩ r2 (fun b hb t ht => by rw [List.mem_singleton.mp hb]; exact ap _ Zz5 t ht) (ZtL (a := a) (c := c) (n := rngN a b c))
  rw [en]
  simp
 ·cases hm
theorem JI.range {x : Str} {np pos : Pos} {e : Expr} {es : List Expr} {g : Exs} (hn : Nm prog w Γ x (.type "range")) (h : Js prog w Γ (e :: es) g)
  (he : starEach (e :: es) Γ.env = (false, eval e Γ.env) :: starEach es Γ.env := by rfl) (hp : ∀ pos, (backTo pos (starEach es Γ.env)).any (·.1) = false := by intro _; rfl) : JI prog w Γ (.Call (.Name x np) (e :: es) [] pos) (ZaM g) := by
 intro W ρ H fr s Q E nx n H' r hf post
 obtain ⟨p, e1, hf⟩ := Zz0.mp hf
 refine wpAny_Call_ofName (hn.use r ?_)
 refine PySem.Pv.callWith_type1 (h pos W ρ H fr s _ E _ _ r e1 fun W1 k1 t1 xs l1 r1 x1 => ?_) he (hp pos)
 obtain ⟨vs, H1⟩ := p
 dsimp only at hf x1 r1
 have post1 := fun W' h' tk' it as It fs (l : W1.Le W') => post W' h' tk' it as It fs (l1.trans l)
 split at hf
 ·obtain ⟨y, ex, ry⟩ := x1.one
  subst ex
  cases ry
  exact call_range_1 (ZkW r1 hf post1)
 ·obtain ⟨y, z, ex, ry, rz⟩ := x1.two
  subst ex
  cases ry
  cases rz
  exact call_range_2 (ZkW r1 hf post1)
 ·cases x1 with
  | cons ry x1 =>
  obtain ⟨y, z, ex, rz, ru⟩ := x1.two
  subst ex
  cases ry
  cases rz
  cases ru
  have hc := ZrM hf
  exact call_range_3 hc.1 (ZkW r1 hf post1) (.inl hc.2)
 ·cases hf
end
noncomputable def Zdi (nx : Nx) (put : V → Lc → Option Lc) (b : Sm) : Nat → Nat → Sm
 | 0, _ => fun _ _ => none
 | n + 1, i => fun ρ H => (nx i H).bind fun o => match o with
  | none => some (none, ρ, H)
  | some v => (put v ρ).bind fun ρ1 => (b ρ1 H).bind fun q => match q.1 with
   | some _ => some q
   | none => Zdi nx put b n (i + 1) q.2.1 q.2.2
noncomputable def ZaO (g : Src) (put : V → Lc → Option Lc) (b : Sm) : Sm := fun ρ H => (g ρ H).bind fun z => Zdi z.1 put b z.2.1 0 ρ z.2.2
noncomputable def put1 (i : Nat) : V → Lc → Option Lc := fun v ρ => some (upd ρ i v)
section
variable {prog : Program} {w : World} {Γ : Cx}
theorem Zbp {x : Str} {i : Nat} {px pos : Pos} {it : Expr} {body : List Stmt} {g : Src} {b : Sm} (hx : Sto prog w Γ x i) (hg : JI prog w Γ it g) (hb : Ss prog w Γ body b) (hs : ∀ x, foldedSetIterable it Γ.env x = pure x := by intro _; rfl) : S1 prog w Γ (.For (.Name x px) it body [] pos) (ZaO g (put1 i) b) := by
 intro W ρ H fr s Q E r rp hf post
 obtain ⟨z, e1, hf⟩ := Zz0.mp hf
 obtain ⟨nx, n, H0⟩ := z
 refine wpAny_For (hg W ρ H fr s _ E nx n H0 rp e1 fun W1 k1 t1 itv as It fs l1 i1 r1 ap I1 => ?_) hs
 refine codeAny_forLoop (fun k s' => ∃ W' ρ' H' h' tk' j fs', s' = { s with heap := h', toks := tk' } ∧ W1.Le W' ∧ It j fs' ∧ Rep Γ W' ρ' H' (fs' ++ fr) h' ∧ Zdi nx (put1 i) b k j ρ' H' = some r) ?_ n ⟨W1, ρ, H0, k1, t1, 0, fs, rfl, .refl _, i1, r1, hf⟩
 rintro k s' ⟨W2, ρ2, H2, k2, t2, j, fs2, rfl, l2, i2, r2, e⟩
 cases k with
 | zero => cases e
 | succ k =>
  obtain ⟨o, e2, e⟩ := Zz0.mp e
  refine I1.next j W2 ρ2 H2 fr fs2 _ _ _ o l2 r2 ap i2 e2 ?_
  cases o with
  | none =>
   cases e
   intro h' tk' r3
   exact wpAny_execs_nil (post W2 h' tk' (l1.trans l2) r3)
  | some v =>
   intro fs3 k3 t3 y i3 r3 y3
   obtain ⟨ρ3, e3, e⟩ := Zz0.mp e
   cases e3
   obtain ⟨q, e4, e⟩ := Zz0.mp e
   refine wpAny_assign_Name (hx W2 ρ2 H2 (fs3 ++ fr) _ _ _ v y r3 y3 fun k4 t4 r4 => ?_)
   refine hb W2 _ H2 (fs3 ++ fr) _ _ _ q r4 e4 ?_
   obtain ⟨u, ρ5, H5⟩ := q
   cases u with
   | some u =>
    cases e
    exact fun W5 k5 t5 x5 l5 r5 v5 => post W5 k5 t5 x5 ((l1.trans l2).trans l5) (r5.less fun q hq => List.mem_append_right _ hq) v5
   | none => exact fun W5 k5 t5 l5 r5 => ⟨k, Nat.lt_succ_self k, W5, ρ5, H5, k5, t5, j + 1, fs3, rfl, l2.trans l5, i3, r5, e⟩
end
end PM
end
section
set_option maxRecDepth 100000
set_option linter.all false
set_option autoImplicit false
namespace PM
open PySem PySem.W PySem.Calls PyProof.Rows PyProof
structure OwnF (names : List Str) (cs : Scope) (cl : List (Str × Addr)) (W : Wd) (ρ : Lc) (m : Str → Option Value) (cells : List (Addr × Obj)) : Prop where
 loc : ∀ (i : Nat) (x : Str) (v : V), names[i]? = some x → cs.names.lookup x = some .local → ρ i = some v → ∃ y, m x = some y ∧ VR W v y
 cel : ∀ (i : Nat) (x : Str) (v : V), names[i]? = some x → cs.names.lookup x = some .cell → ρ i = some v → ∃ c o y, cl.lookup x = some c ∧ (c, o) ∈ cells ∧ o.data = .cell (some y) ∧ VR W v y
 all : ∀ (x : Str) (c : Addr), cl.lookup x = some c → ∃ o v₀, (c, o) ∈ cells ∧ o.data = .cell v₀
 one : ∀ (x y : Str) (c : Addr), cl.lookup x = some c → cl.lookup y = some c → x = y
theorem OwnF.mono {names : List Str} {cs : Scope} {cl : List (Str × Addr)} {W W' : Wd} {ρ : Lc} {m : Str → Option Value} {cells : List (Addr × Obj)} (l : W.Le W') (h : OwnF names cs cl W ρ m cells) : OwnF names cs cl W' ρ m cells :=
 ⟨fun i x v a b c => by
  obtain ⟨y, h1, h2⟩ := h.loc i x v a b c
  exact ⟨y, h1, h2.mono l⟩, fun i x v a b c => by
  obtain ⟨d, o, y, h1, h2, h3, h4⟩ := h.cel i x v a b c
  exact ⟨d, o, y, h1, h2, h3, h4.mono l⟩, h.all, h.one⟩
noncomputable def ZbP (dp un : Nat) (gd : Option (List Code)) (cn : Str) (cs : Scope) (L a : Addr) (ccd : Value) (cl : List (Str × Addr)) (outer : List Env) (h₀ : Heap) (hu : un + 200 < cLine) (names : List Str) : Cx where
 A := ktrTop dp un gd cn cs L a ccd cl outer
 env := envX cn cs L a ccd cl
 h₀ := h₀
 L := L
 hh := rfl
 hu := hu
 Own := OwnF names cs cl
 mono := OwnF.mono
section
variable {prog : Program} {w : World} {dp un : Nat} {gd : Option (List Code)} {cn : Str} {cs : Scope} {L a : Addr} {ccd : Value} {cl : List (Str × Addr)} {outer : List Env} {h₀ : Heap} {hu : un + 200 < cLine} {names : List Str}
theorem ZvB {x : Str} {i : Nat} (hi : names[i]? = some x) (hx : cs.names.lookup x = some .local) (hk : cs.kind = .function) (hd : (x == ("__debug__" : Str)) = false) : Rd prog w (ZbP dp un gd cn cs L a ccd cl outer h₀ hu names) x i := by
 intro W ρ H fr s Q E v pos r e q
 obtain ⟨m, c, led, r⟩ := r
 obtain ⟨y, h1, h2⟩ := r.own.loc i x v hi hx e
 exact nameX_L r.F h1 (q y h2) hk hx hd
theorem ZvC {x : Str} {i : Nat} (hi : names[i]? = some x) (hx : cs.names.lookup x = some .cell) (hk : cs.kind = .function) (hd : (x == ("__debug__" : Str)) = false) : Rd prog w (ZbP dp un gd cn cs L a ccd cl outer h₀ hu names) x i := by
 intro W ρ H fr s Q E v pos r e q
 obtain ⟨m, c, led, r⟩ := r
 obtain ⟨d, o, y, h1, h2, h3, h4⟩ := r.own.cel i x v hi hx e
 exact nameX_C r.N h1 (r.clIn _ h2) h3 (q y h4) hk hx hd
theorem Zuv {x : Str} {i : Nat} (nd : names.Nodup) (hi : names[i]? = some x) (hx : cs.names.lookup x = some .local) (hk : cs.kind = .function) : Sto prog w (ZbP dp un gd cn cs L a ccd cl outer h₀ hu names) x i := by
 intro W ρ H fr s Q E v y r vy q
 obtain ⟨m, c, led, r⟩ := r
 have hi' : i < names.length := (Zz6.mp hi).1
 refine storeX_L r.F r.N (fun h' F' N' => q h' _ ⟨_, c, led, ⟨F', N', r.R, r.sc, r.sc0, r.frIn, r.frOff, r.clIn, r.clOff, r.apart, r.frTup, r.clTup, ⟨fun j z u hj hz hu => ?_, fun j z u hj hz hu => ?_, r.own.all, r.own.one⟩⟩⟩) hk hx
 ·by_cases e : j = i
  ·subst e
   rw [hi] at hj
   cases hj
   simp only [upd, if_true] at hu
   cases hu
   exact ⟨y, by simp, vy⟩
  ·have hzx : z ≠ x := fun e' => by
    subst e'
    exact e ((List.getElem?_inj (Zz6.mp hj).1 nd).mp (hj.trans hi.symm))
   simp only [upd, if_neg e] at hu
   obtain ⟨y', h1, h2⟩ := r.own.loc j z u hj hz hu
   exact ⟨y', by simp [hzx, h1], h2⟩
 ·by_cases e : j = i
  ·subst e
   rw [hi] at hj
   cases hj
   rw [hx] at hz
   cases hz
  ·simp only [upd, if_neg e] at hu
   exact r.own.cel j z u hj hz hu
theorem Zuw {x : Str} {i : Nat} (nd : names.Nodup) (hi : names[i]? = some x) (hx : cs.names.lookup x = some .cell) (hk : cs.kind = .function) (hcl : (cl.lookup x).isSome = true) : Sto prog w (ZbP dp un gd cn cs L a ccd cl outer h₀ hu names) x i := by
 intro W ρ H fr s Q E v y r vy q
 obtain ⟨m, c, led, r⟩ := r
 obtain ⟨d, hd⟩ := Option.isSome_iff_exists.mp hcl
 obtain ⟨o, v₀, ho, hv₀⟩ := r.own.all x d hd
 have inl := r.clIn _ ho
 have N2 : News h₀ L s.heap ((d, o) :: led.filter (fun q => decide (q.1 ≠ d))) := by
  intro q hq
  rcases List.mem_cons.mp hq with e | hq
  ·subst e
   exact r.N _ inl
  ·exact r.N q (List.mem_filter.mp hq).1
 refine storeX_C r.F N2 hd (UpdF.head fun q hq => by simpa using (List.mem_filter.mp hq).2) hv₀ (fun h' o' F' N' ho' => ?_) hk hx
 have keep : ∀ q ∈ led, q.1 ≠ d → q ∈ (d, o') :: led.filter (fun q => decide (q.1 ≠ d)) := fun q hq hn => List.mem_cons_of_mem _ (List.mem_filter.mpr ⟨hq, by simpa using hn⟩)
 refine q h' s.toks ⟨m, (d, o') :: c.filter (fun q => decide (q.1 ≠ d)), _, ⟨F', N', ⟨r.R.len, r.R.nd, fun j vs e => ?_, fun q hq => Zd7 (r.R.tups q hq) fun z => keep q z (r.clTup _ ho q hq).symm, r.R.kind⟩, r.sc, r.sc0, fun q hq => keep q (r.frIn q hq) (r.apart _ ho q hq).symm, r.frOff, fun q hq => ?_, fun q hq => ?_, fun q hq t ht => ?_, r.frTup, fun q hq t ht => ?_, ⟨fun j z u hj hz hu => ?_, fun j z u hj hz hu => ?_, fun z e hz => ?_, r.own.one⟩⟩⟩
 ·obtain ⟨l, b, xs, k, h1, h2, h3⟩ := r.R.lists j vs e
  exact ⟨l, b, xs, k, h1, Zd7 h2 fun z => keep _ z fun e => r.clOff _ ho (e ▸ List.mem_of_getElem? h1), h3⟩
 ·rcases List.mem_cons.mp hq with e | hq
  ·exact e ▸ List.mem_cons_self
  ·obtain ⟨h1, h2⟩ := List.mem_filter.mp hq
   exact keep q (r.clIn q h1) (by simpa using h2)
 ·rcases List.mem_cons.mp hq with e | hq
  ·rw [e]
   exact (r.clOff _ ho : d ∉ W.pi)
  ·exact r.clOff q (List.mem_filter.mp hq).1
 ·rcases List.mem_cons.mp hq with e | hq
  ·rw [e]
   exact (r.apart _ ho t ht : d ≠ t.1)
  ·exact r.apart q (List.mem_filter.mp hq).1 t ht
 ·rcases List.mem_cons.mp hq with e | hq
  ·rw [e]
   exact (r.clTup _ ho t ht : d ≠ t.1)
  ·exact r.clTup q (List.mem_filter.mp hq).1 t ht
 ·by_cases e : j = i
  ·subst e
   rw [hi] at hj
   cases hj
   rw [hx] at hz
   cases hz
  ·simp only [upd, if_neg e] at hu
   exact r.own.loc j z u hj hz hu
 ·by_cases e : j = i
  ·subst e
   rw [hi] at hj
   cases hj
   simp only [upd, if_true] at hu
   cases hu
   exact ⟨d, o', y, hd, List.mem_cons_self, ho', vy⟩
  ·have hzx : z ≠ x := fun e' => by
    subst e'
    exact e ((List.getElem?_inj (Zz6.mp hj).1 nd).mp (hj.trans hi.symm))
   simp only [upd, if_neg e] at hu
   obtain ⟨b, ob, y', h1, h2, h3, h4⟩ := r.own.cel j z u hj hz hu
   have : b ≠ d := fun e' => by
    subst e'
    exact hzx (r.own.one z x b h1 hd)
   exact ⟨b, ob, y', h1, List.mem_cons_of_mem _ (List.mem_filter.mpr ⟨h2, by simpa using this⟩), h3, h4⟩
 ·by_cases e' : e = d
  ·subst e'
   exact ⟨o', _, List.mem_cons_self, ho'⟩
  ·obtain ⟨ob, v1, h1, h2⟩ := r.own.all z e hz
   exact ⟨ob, v1, List.mem_cons_of_mem _ (List.mem_filter.mpr ⟨h1, by simpa using e'⟩), h2⟩
end
end PM
end
section
set_option maxRecDepth 100000
set_option linter.all false
set_option autoImplicit false
namespace PM
open PySem PySem.W PySem.Calls PyProof.Rows PyProof PyProof.Rows.LCg
theorem Zf9 {Γ : Cx} {W : Wd} {ρ : Lc} {H : Hp} {fr : List (Addr × Obj)} {h : Heap} {D : Addr} {ys : List Value} {k : Nat} {vs : List V} (r : Rep Γ W ρ H ((D, Zb0 ys k) :: fr) h) (ap : ∀ t ∈ fr, D ≠ t.1) (hv : VRs W vs ys) (hl : vs.length ≤ LEN) :
  ∃ W', W.Le W' ∧ Rep Γ W' ρ (H ++ [vs]) fr h ∧ VR W' (.ref H.length) (.ref D) := by
 obtain ⟨m, c, led, r⟩ := r
 have le : W.Le ⟨W.pi ++ [D], W.tups, W.sc⟩ := ⟨List.prefix_append _ _, fun q hq => hq, rfl⟩
 have h0 : 0 < W.pi.length := (Zz6.mp r.sc0).1
 have at_n : (W.pi ++ [D])[H.length]? = some D := by rw [← r.R.len]; simp
 have off := r.frOff _ Zz5
 refine ⟨⟨W.pi ++ [D], W.tups, W.sc⟩, le, ⟨m, c, led, ⟨r.F, r.N, ⟨by simp [r.R.len], ?_, fun i us e => ?_, r.R.tups, r.R.kind⟩, r.sc, (List.getElem?_append_left h0).trans r.sc0, fun q hq => r.frIn q (Zz2 _ hq), fun q hq => ?_, r.clIn, fun q hq => ?_, fun q hq t ht => r.apart q hq t (Zz2 _ ht), fun q hq => r.frTup q (Zz2 _ hq), r.clTup, Γ.mono le r.own⟩⟩, .ref at_n⟩
 ·show (W.pi ++ [D]).Nodup
  rw [List.nodup_append]
  refine ⟨r.R.nd, by simp, fun a ha b hb => ?_⟩
  rw [List.mem_singleton.mp hb]
  exact fun e => off (e ▸ ha)
 ·by_cases hi : i < H.length
  ·rw [List.getElem?_append_left hi] at e
   obtain ⟨l, a, zs, j, h1, h2, h3⟩ := r.R.lists i us e
   exact ⟨l, a, zs, j, le.at h1, h2, h3.mono le⟩
  ·have : i = H.length := by
    have := (Zz6.mp e).1
    simp at this
    omega
   subst this
   simp at e
   subst e
   exact ⟨hl, D, ys, k, at_n, List.mem_cons_of_mem _ (r.frIn _ Zz5), hv.mono le⟩
 ·intro hm
  rcases List.mem_append.mp hm with hm | hm
  ·exact r.frOff q (Zz2 _ hq) hm
  ·exact ap q hq (List.mem_singleton.mp hm).symm
 ·intro hm
  rcases List.mem_append.mp hm with hm | hm
  ·exact r.clOff q hq hm
  ·exact r.apart q hq _ Zz5 (List.mem_singleton.mp hm)
noncomputable def ZwQ (Γ : Cx) (C : Addr) (ts : List (Str × Nat)) (ρ0 : Lc) (W : Wd) (ρ : Lc) (m : Str → Option Value) (cells : List (Addr × Obj)) : Prop :=
 ∃ oC m₂ cs, cells = (C, oC) :: cs ∧ (∀ q ∈ cs, q.1 ≠ C) ∧ NsObj oC m₂ ∧ (∀ p ∈ ts, ∃ v y, ρ p.2 = some v ∧ m₂ p.1 = some y ∧ VR W v y) ∧ (∀ j, (∀ p ∈ ts, p.2 ≠ j) → ρ j = ρ0 j) ∧ Γ.Own W ρ0 m cs
noncomputable def Zbk (Γ : Cx) (scope : Scope) (cl : List (Str × Addr)) (C : Addr) (ts : List (Str × Nat)) (ρ0 : Lc) : Cx where
 A := Γ.A
 env := compEnvC scope cl C Γ.env
 h₀ := Γ.h₀
 L := Γ.L
 hh := Γ.hh
 hu := Γ.hu
 Own := ZwQ Γ C ts ρ0
 mono := fun l h => by
  obtain ⟨oC, m₂, cs, e, h0, h1, h2, h3, h4⟩ := h
  exact ⟨oC, m₂, cs, e, h0, h1, fun p hp => by
   obtain ⟨v, y, a, b, c⟩ := h2 p hp
   exact ⟨v, y, a, b, c.mono l⟩, h3, Γ.mono l h4⟩
section
variable {Γ : Cx} {scope : Scope} {cl : List (Str × Addr)} {C : Addr} {ts : List (Str × Nat)} {ρ0 : Lc} {W : Wd} {ρ : Lc} {H : Hp} {fr : List (Addr × Obj)} {h : Heap}
theorem ZpD {oC : Obj} {m₂ : Str → Option Value} (r : Rep Γ W ρ0 H ((C, oC) :: fr) h) (ap : ∀ t ∈ fr, C ≠ t.1) (hC : NsObj oC m₂) (ht : ∀ p ∈ ts, ∃ v y, ρ p.2 = some v ∧ m₂ p.1 = some y ∧ VR W v y) (hj : ∀ j, (∀ p ∈ ts, p.2 ≠ j) → ρ j = ρ0 j) : Rep (Zbk Γ scope cl C ts ρ0) W ρ H fr h := by
 obtain ⟨m, c, led, r⟩ := r
 refine ⟨m, (C, oC) :: c, led, ⟨r.F, r.N, r.R, r.sc, r.sc0, fun q hq => r.frIn q (Zz2 _ hq), fun q hq => r.frOff q (Zz2 _ hq), fun q hq => ?_, fun q hq => ?_, fun q hq t ht => ?_, fun q hq => r.frTup q (Zz2 _ hq), fun q hq t ht => ?_, ⟨oC, m₂, c, rfl, fun q hq => r.apart q hq _ Zz5, hC, ht, hj, r.own⟩⟩⟩
 ·rcases List.mem_cons.mp hq with e | hq
  ·exact e ▸ r.frIn _ Zz5
  ·exact r.clIn q hq
 ·rcases List.mem_cons.mp hq with e | hq
  ·exact e ▸ r.frOff _ Zz5
  ·exact r.clOff q hq
 ·rcases List.mem_cons.mp hq with e | hq
  ·exact e ▸ ap t ht
  ·exact r.apart q hq t (Zz2 _ ht)
 ·rcases List.mem_cons.mp hq with e | hq
  ·exact e ▸ r.frTup _ Zz5 t ht
  ·exact r.clTup q hq t ht
theorem Rep.fromC (r : Rep (Zbk Γ scope cl C ts ρ0) W ρ H fr h) : ∃ oC m₂, NsObj oC m₂ ∧ Rep Γ W ρ0 H ((C, oC) :: fr) h := by
 obtain ⟨m, c, led, r⟩ := r
 obtain ⟨oC, m₂, cs, e, h0, h1, h2, h3, h4⟩ := r.own
 subst e
 refine ⟨oC, m₂, h1, m, cs, led, ⟨r.F, r.N, r.R, r.sc, r.sc0, fun q hq => ?_, fun q hq => ?_, fun q hq => r.clIn q (Zz2 _ hq), fun q hq => r.clOff q (Zz2 _ hq), fun q hq t ht => ?_, fun q hq t ht => ?_, fun q hq => r.clTup q (Zz2 _ hq), h4⟩⟩
 ·rcases List.mem_cons.mp hq with e | hq
  ·exact e ▸ r.clIn _ Zz5
  ·exact r.frIn q hq
 ·rcases List.mem_cons.mp hq with e | hq
  ·exact e ▸ r.clOff _ Zz5
  ·exact r.frOff q hq
 ·rcases List.mem_cons.mp ht with e | ht
  ·rw [e]
   exact h0 q hq
  ·exact r.apart q (Zz2 _ hq) t ht
 ·rcases List.mem_cons.mp hq with e | hq
  ·exact e ▸ r.clTup _ Zz5 t ht
  ·exact r.frTup q hq t ht
end
noncomputable def JF (prog : Program) (w : World) (Γ : Cx) (ifs : List Expr) (f : Ts) : Prop := ∀ (W : Wd) (ρ : Lc) (H : Hp) (fr : List (Addr × Obj)) (s : Shared) (Q : Bool → Shared → Prop) (E : Value → Shared → Prop) (b : Bool) (H' : Hp),
 Rep Γ W ρ H fr s.heap → f ρ H = some (b, H') → Zix Γ W ρ H' fr s Q b →
 wpAny (model prog w) Γ.A (forIn ifs true fun c r => if r = true then do let ok ← isTrue c Γ.env (eval c Γ.env); pure (ForInStep.yield ok) else pure (ForInStep.yield r)) Q E s
section
variable {prog : Program} {w : World} {Γ : Cx}
theorem JF.nil : JF prog w Γ [] Zao := fun W ρ H fr s Q E b H' r hf post => by
 cases hf
 exact wpAny_pure (post W s.heap s.toks (.refl W) r)
theorem JF.one {e : Expr} {t : Ts} (h : JT prog w Γ e t) : JF prog w Γ [e] t := fun W ρ H fr s Q E b H' r hf post => by
 rw [List.forIn_cons]
 simp only [if_true, List.forIn_nil]
 refine wpAny_bind (wpAny_bind (h W ρ H fr s _ E b H' r hf fun W1 k1 t1 l1 r1 => wpAny_pure ?_))
 exact wpAny_pure (post W1 k1 t1 l1 r1)
end
end PM
end
section
set_option maxRecDepth 100000
set_option linter.all false
set_option autoImplicit false
namespace PM
open PySem PySem.W PySem.Calls PyProof.Rows PyProof PyProof.Rows.LCg
noncomputable def ZcN (nx : Nx) (put : V → Lc → Option Lc) (c : Ts) (f : Ex) (ρ : Lc) : Nat → Nat → List V → Hp → Option (List V × Hp)
 | 0, _, _, _ => none
 | n + 1, i, acc, H => (nx i H).bind fun o => match o with
  | none => some (acc, H)
  | some v => (put v ρ).bind fun ρ1 => (c ρ1 H).bind fun b => if b.1 then (f ρ1 b.2).bind fun p => (if acc.length < LEN then ZcN nx put c f ρ n (i + 1) (acc ++ [p.1]) p.2 else none) else ZcN nx put c f ρ n (i + 1) acc b.2
noncomputable def ZaA (g : Src) (put : V → Lc → Option Lc) (c : Ts) (f : Ex) : Ex := fun ρ H => (g ρ H).bind fun z => (ZcN z.1 put c f ρ z.2.1 0 [] z.2.2).map fun q => (.ref q.2.length, q.2 ++ [q.1])
noncomputable def ZgL (Γ : Cx) (W0 : Wd) (ρ : Lc) (fr : List (Addr × Obj)) (C D : Addr) (It : Nat → List (Addr × Obj) → Prop) (nx : Nx) (put : V → Lc → Option Lc) (c : Ts) (f : Ex) (q : List V × Hp) (s : Shared) (k : Nat) (s' : Shared) : Prop :=
 ∃ W' H' h' tk' j fs acc ys oC m₂, s' = { s with heap := h', toks := tk' } ∧ W0.Le W' ∧ It j fs ∧ NsObj oC m₂ ∧ VRs W' acc ys ∧ acc.length ≤ LEN ∧ Rep Γ W' ρ H' ((C, oC) :: (D, lst ys) :: (fs ++ fr)) h' ∧ ZcN nx put c f ρ k j acc H' = some q
section
variable {prog : Program} {w : World} {Γ : Cx}
theorem ZoJ {scope : Scope} {cl : List (Str × Addr)} {elt : Expr} {ts : List (Str × Nat)} {W0 W : Wd} {ρ ρ1 : Lc} {H : Hp} {fr fs : List (Addr × Obj)} {C D : Addr} {It : Nat → List (Addr × Obj) → Prop} {nx : Nx} {put : V → Lc → Option Lc} {c : Ts} {f : Ex} {q : List V × Hp} {s : Shared} {h : Heap} {tk : Nat} {k j : Nat} {acc : List V} {ys : List Value} {E : Value → Shared → Prop}
  (hel : J prog w (Zbk Γ scope cl C ts ρ) elt f) (aD : ∀ t ∈ fs ++ fr, D ≠ t.1) (cd : C ≠ D) (l0 : W0.Le W) (hit : It (j + 1) fs) (hv : VRs W acc ys) (r : Rep (Zbk Γ scope cl C ts ρ) W ρ1 H ((D, lst ys) :: (fs ++ fr)) h)
  (e : ((f ρ1 H).bind fun p => (if acc.length < LEN then ZcN nx put c f ρ k (j + 1) (acc ++ [p.1]) p.2 else none)) = some q) :
  wpAny (model prog w) Γ.A (eval elt (compEnvC scope cl C Γ.env)) (fun x s₄ => wpAny (model prog w) Γ.A (call (.builtin "list.append") [.ref D, x]) (fun _ s₅ => ∃ m, m < k + 1 ∧ ZgL Γ W0 ρ fr C D It nx put c f q s m s₅) E s₄) E { s with heap := h, toks := tk } := by
 obtain ⟨p, e2, e⟩ := Zz0.mp e
 by_cases hlt : acc.length < LEN
 ·rw [if_pos hlt] at e
  refine hel W ρ1 H _ _ _ E _ _ r e2 fun W2 k2 t2 x l2 r2 x2 => ?_
  obtain ⟨oC', m₃, hC', r3⟩ := r2.fromC
  have hD : k2.get? D = some (lst ys) := r3.frAt (q := (D, lst ys)) (Zz2 _ Zz5)
  refine append_at (hsz := Zc7 (by rw [List.size_toArray, hv.length]; omega)) hD fun h' sb hg => ?_
  have hg' : h'.get? D = some (lst (ys ++ [x])) := hg.trans (congrArg some (lst_snoc ys x))
  have r4 : Rep Γ W2 ρ p.2 ([(D, lst ys)] ++ ((C, oC') :: (fs ++ fr))) k2 := r3.less fun q hq => by
   rcases List.mem_append.mp hq with hq | hq
   ·rw [List.mem_singleton.mp hq]
    exact Zz2 _ Zz5
   ·rcases List.mem_cons.mp hq with e | hq
    ·exact e ▸ List.mem_cons_self
    ·exact Zz2 _ (Zz2 _ hq)
  have r5 : Rep Γ W2 ρ p.2 ([(D, lst (ys ++ [x]))] ++ ((C, oC') :: (fs ++ fr))) h' := by
   refine r4.swap (fun q hq t ht => ?_) (fun b o hb e => sb.extBut b o (fun z => hb (by simp [z])) e) fun q hq => ?_
   ·rw [List.mem_singleton.mp hq]
    rcases List.mem_cons.mp ht with e | ht
    ·rw [e]
     exact cd.symm
    ·exact aD t ht
   ·rw [List.mem_singleton.mp hq]
    exact ⟨hg', by simp⟩
  have r6 : Rep Γ W2 ρ p.2 ((C, oC') :: (D, lst (ys ++ [x])) :: (fs ++ fr)) h' := r5.less fun q hq => by
   rcases List.mem_cons.mp hq with e | hq
   ·exact e ▸ List.mem_append_right _ Zz5
   ·rcases List.mem_cons.mp hq with e | hq
    ·exact e ▸ List.mem_append_left _ Zz5
    ·exact Zz3 _ (Zz2 _ hq)
  exact ⟨k, Nat.lt_succ_self k, W2, p.2, h', t2, j + 1, fs, acc ++ [p.1], ys ++ [x], oC', m₃, rfl, l0.trans l2, hit, hC', (hv.mono l2).snoc x2, by simp; omega, r6, e⟩
 ·rw [if_neg hlt] at e
  cases e
theorem ZtM {scope : Scope} {cl : List (Str × Addr)} {elt : Expr} {ifs : List Expr} {ts : List (Str × Nat)} {W0 W : Wd} {ρ ρ1 : Lc} {H : Hp} {fr fs : List (Addr × Obj)} {C D : Addr} {It : Nat → List (Addr × Obj) → Prop} {nx : Nx} {put : V → Lc → Option Lc} {c : Ts} {f : Ex} {q : List V × Hp} {s s1 : Shared} {k j : Nat} {acc : List V} {ys : List Value} {oC : Obj} {m₂ : Str → Option Value} {E : Value → Shared → Prop}
  (hel : J prog w (Zbk Γ scope cl C ts ρ) elt f) (hif : JF prog w (Zbk Γ scope cl C ts ρ) ifs c) (hs : ∃ h tk, s1 = { s with heap := h, toks := tk })
  (aC : ∀ t ∈ (D, lst ys) :: (fs ++ fr), C ≠ t.1) (aD : ∀ t ∈ fs ++ fr, D ≠ t.1) (l0 : W0.Le W) (hit : It (j + 1) fs) (hC : NsObj oC m₂) (hv : VRs W acc ys) (hl : acc.length ≤ LEN) (r : Rep Γ W ρ H ((C, oC) :: (D, lst ys) :: (fs ++ fr)) s1.heap)
  (ht : ∀ p ∈ ts, ∃ v y, ρ1 p.2 = some v ∧ m₂ p.1 = some y ∧ VR W v y) (hj : ∀ i, (∀ p ∈ ts, p.2 ≠ i) → ρ1 i = ρ i)
  (e : ((c ρ1 H).bind fun b => if b.1 then (f ρ1 b.2).bind fun p => (if acc.length < LEN then ZcN nx put c f ρ k (j + 1) (acc ++ [p.1]) p.2 else none) else ZcN nx put c f ρ k (j + 1) acc b.2) = some q) :
  wpAny (model prog w) Γ.A (forIn ifs true fun c r => if r = true then do let ok ← isTrue c (compEnvC scope cl C Γ.env) (eval c (compEnvC scope cl C Γ.env)); pure (ForInStep.yield ok) else pure (ForInStep.yield r)) (fun ok s₃ =>
   if ok = true then wpAny (model prog w) Γ.A (eval elt (compEnvC scope cl C Γ.env)) (fun x s₄ => wpAny (model prog w) Γ.A (call (.builtin "list.append") [.ref D, x]) (fun _ s₅ => ∃ m, m < k + 1 ∧ ZgL Γ W0 ρ fr C D It nx put c f q s m s₅) E s₄) E s₃
   else ∃ m, m < k + 1 ∧ ZgL Γ W0 ρ fr C D It nx put c f q s m s₃) E s1 := by
 obtain ⟨h, tk, rfl⟩ := hs
 obtain ⟨b, e1, e⟩ := Zz0.mp e
 obtain ⟨b, H1⟩ := b
 have rc := ZpD (scope := scope) (cl := cl) r aC hC ht hj
 refine hif W ρ1 H _ _ _ E b H1 rc e1 fun W1 k1 t1 l1 r1 => ?_
 cases b with
 | false =>
  obtain ⟨oC', m₃, hC', r2⟩ := r1.fromC
  exact ⟨k, Nat.lt_succ_self k, W1, H1, k1, t1, j + 1, fs, acc, ys, oC', m₃, rfl, l0.trans l1, hit, hC', hv.mono l1, hl, r2, e⟩
 | true => exact ZoJ hel aD (aC (D, lst ys) Zz5) (l0.trans l1) hit (hv.mono l1) r1 e
theorem comp_core {elt iter : Expr} {x : Str} {px : Pos} {ifs : List Expr} {scope : Scope} {pos : Pos} {cl : List (Str × Addr)} {t : Nat} {g : Src} {c : Ts} {f : Ex} (hg : JI prog w Γ iter g) (hel : ∀ C ρ, J prog w (Zbk Γ scope cl C [(x, t)] ρ) elt f) (hif : ∀ C ρ, JF prog w (Zbk Γ scope cl C [(x, t)] ρ) ifs c)
  (hcell : ∀ y ∈ scope.names, y.2 ≠ .cell) (hkind : scope.kind = .function) (hx : scope.names.lookup x = some .local)
  {W : Wd} {ρ : Lc} {H : Hp} {fr : List (Addr × Obj)} {s : Shared} {E : Value → Shared → Prop} {q : List V × Hp} {RR : Value → Addr → Result → Shared → Prop} (r : Rep Γ W ρ H fr s.heap) (hf : ((g ρ H).bind fun z => ZcN z.1 (put1 t) c f ρ z.2.1 0 [] z.2.2) = some q)
  (hR : ∀ (W' : Wd) (h' : Heap) (tk' : Nat) (C D : Addr) (oC : Obj) (m₂ : Str → Option Value) (ys : List Value), W.Le W' → NsObj oC m₂ → VRs W' q.1 ys → q.1.length ≤ LEN → (∀ t ∈ fr, D ≠ t.1) → (∀ t ∈ fr, C ≠ t.1) → C ≠ D → Rep Γ W' ρ q.2 ((C, oC) :: (D, lst ys) :: fr) h' → RR (.ref D) C (.ok .next) { s with heap := h', toks := tk' }) :
  wpAny (model prog w) Γ.A (eval iter Γ.env) (fun xv s₁ => wpAny (model prog w) Γ.A (pyIter xv) (fun it s₂ => wpAny (model prog w) Γ.A (newList []) (fun acc s₃ => wpAny (model prog w) Γ.A (newFunctionEnv scope Γ.env.globals cl [] Γ.env.qual none .none (some Γ.env)) (fun cenv s₄ =>
   codeAny (model prog w) Γ.A (.compStart (.ListComp elt [⟨.Name x px, iter, ifs, 0⟩] scope pos) 0 it acc { cenv with scope := relabel scope Γ.env }) (RR acc cenv.locals) s₄) E s₃) E s₂) E s₁) E s := by
 obtain ⟨z, e1, e2⟩ := Zz0.mp hf
 obtain ⟨nx, n, H0⟩ := z
 refine hg W ρ H fr s _ E nx n H0 r e1 fun W1 k1 t1 itv as It fs l1 i1 r1 ap I1 => ?_
 refine wpAny_newObj_type (wpAny_newFunctionEnv hcell (fun y hy => by simp at hy) (fun h₂ hns hsb => ?_) hkind)
 dsimp only at hns hsb ⊢
 obtain ⟨rD, aD⟩ := r1.more (fs := [(k1.objs.size, lst [])]) (fun b o e => Heap.get?_push_of_some (lst []) e) (fun q hq => by rw [List.mem_singleton.mp hq]; exact ⟨Heap.get?_push_size _ rfl, Nat.le_refl _⟩)
 generalize eH : k1.push { cls := .type "list", dict := none, data := .seq ([] : List Value).toArray } = K at hns hsb ⊢
 have eK : k1.push (lst []) = K := eH
 rw [eK] at rD
 obtain ⟨oC, gC, nC⟩ := ns_obj hns
 have up : ∀ b o, K.get? b = some o → h₂.get? b = some o := fun b o e => hsb.extBut b o (Nat.ne_of_lt (Heap.lt_size e)) (Heap.get?_push_of_some _ e)
 obtain ⟨rC, aC⟩ := rD.more (fs := [(K.objs.size, oC)]) up (fun q hq => by rw [List.mem_singleton.mp hq]; exact ⟨gC, Nat.le_refl _⟩)
 have adr0 := I1.adr 0 fs i1
 have offs : ∀ b ∈ as, b ≠ k1.objs.size ∧ b ≠ K.objs.size := fun b hb => by
  rw [← adr0] at hb
  obtain ⟨q, hq, e⟩ := List.mem_map.mp hb
  exact ⟨e ▸ (aD _ Zz5 q (Zz4 _ hq)).symm, e ▸ (aC _ Zz5 q (Zz3 _ (Zz4 _ hq))).symm⟩
 have cd : K.objs.size ≠ k1.objs.size := aC _ Zz5 (k1.objs.size, lst []) (Zz4 _ Zz5)
 have cfr : ∀ t ∈ fr, K.objs.size ≠ t.1 := fun t ht => aC _ Zz5 t (Zz3 _ (Zz3 _ ht))
 have dfr : ∀ t ∈ fr, k1.objs.size ≠ t.1 := fun t ht => aD _ Zz5 t (Zz3 _ ht)
 generalize k1.objs.size = D at *
 generalize K.objs.size = C at *
 have loop : ∀ s₃ : Shared, s₃ = { s with heap := h₂, toks := t1 + ([] : List (Str × Value)).length } →
   codeAny (model prog w) Γ.A (.compLoop (.ListComp elt [⟨.Name x px, iter, ifs, 0⟩] scope pos) 0 itv (.ref D) (compEnvC scope cl C Γ.env)) (RR (.ref D) C) s₃ := by
  intro s₃ hs₃
  subst hs₃
  refine codeAny_compLoop_tests (ZgL Γ W1 ρ fr C D It nx (put1 t) c f q s) ?_ n ⟨W1, H0, h₂, _, 0, fs, [], [], oC, _, rfl, .refl _, i1, nC, .nil, Nat.zero_le _, rC, e2⟩
  rintro k s' ⟨W2, H2, k2, t2, j, fs2, acc, ys, oC2, m₂, rfl, l2, i2, hC2, hv2, hl2, r2, e⟩
  cases k with
  | zero => cases e
  | succ k =>
   obtain ⟨o, e4, e⟩ := Zz0.mp e
   have r2' : Rep Γ W2 ρ H2 (fs2 ++ ((C, oC2) :: (D, lst ys) :: fr)) k2 := r2.less fun q hq => by
    rcases List.mem_append.mp hq with hq | hq
    ·exact Zz2 _ (Zz2 _ (Zz4 _ hq))
    ·rcases List.mem_cons.mp hq with e | hq
     ·exact e ▸ List.mem_cons_self
     ·rcases List.mem_cons.mp hq with e | hq
      ·exact e ▸ List.mem_cons_of_mem _ Zz5
      ·exact Zz2 _ (Zz2 _ (Zz3 _ hq))
   have ap2 : ∀ b ∈ as, ∀ t ∈ (C, oC2) :: (D, lst ys) :: fr, b ≠ t.1 := fun b hb t ht => by
    rcases List.mem_cons.mp ht with e | ht
    ·rw [e]
     exact (offs b hb).2
    ·rcases List.mem_cons.mp ht with e | ht
     ·rw [e]
      exact (offs b hb).1
     ·exact ap b hb t ht
   refine I1.next j W2 ρ H2 _ fs2 _ _ _ o l2 r2' ap2 i2 e4 ?_
   cases o with
   | none =>
    cases e
    intro h' tk' r3
    exact hR W2 h' tk' C D oC2 m₂ ys (l1.trans l2) hC2 hv2 hl2 dfr cfr cd r3
   | some v =>
    intro fs3 k3 t3 y i3 r3 y3
    obtain ⟨ρ3, e5, e⟩ := Zz0.mp e
    cases e5
    have a3 : ∀ t ∈ fs3, t.1 ∈ as := fun t ht => by
     rw [← I1.adr _ _ i3]
     exact List.mem_map_of_mem ht
    have gC3 : k3.get? C = some oC2 := r3.frAt (q := (C, oC2)) (Zz3 _ Zz5)
    have nC3 : k3.Ns C m₂ := hC2.ns gC3
    refine wpAny_assign_Name (wpAny_storeName_local (lookup_relabel_local hx) nC3 (fun h4 hn4 sb4 => ?_) (by simp [compEnvC, relabel, hkind]))
    obtain ⟨oC4, gC4, nC4⟩ := ns_obj hn4
    have r3' : Rep Γ W2 ρ H2 ([(C, oC2)] ++ ((D, lst ys) :: (fs3 ++ fr))) k3 := r3.less fun q hq => by
     rcases List.mem_append.mp hq with hq | hq
     ·rw [List.mem_singleton.mp hq]
      exact Zz3 _ Zz5
     ·rcases List.mem_cons.mp hq with e | hq
      ·exact e ▸ List.mem_append_right _ (Zz2 _ Zz5)
      ·rcases List.mem_append.mp hq with hq | hq
       ·exact Zz4 _ hq
       ·exact Zz3 _ (Zz2 _ (Zz2 _ hq))
    have aC3 : ∀ t ∈ (D, lst ys) :: (fs3 ++ fr), C ≠ t.1 := fun t ht => by
     rcases List.mem_cons.mp ht with e | ht
     ·rw [e]
      exact cd
     ·rcases List.mem_append.mp ht with ht | ht
      ·exact (offs _ (a3 t ht)).2.symm
      ·exact cfr t ht
    have aD3 : ∀ t ∈ fs3 ++ fr, D ≠ t.1 := fun t ht => by
     rcases List.mem_append.mp ht with ht | ht
     ·exact (offs _ (a3 t ht)).1.symm
     ·exact dfr t ht
    have r4 : Rep Γ W2 ρ H2 ([(C, oC4)] ++ ((D, lst ys) :: (fs3 ++ fr))) h4 := by
     refine r3'.swap (fun q hq t ht => ?_) (fun b o hb e => sb4.extBut b o (fun z => hb (by simp [z, compEnvC])) e) fun q hq => ?_
     ·rw [List.mem_singleton.mp hq]
      exact aC3 t ht
     ·rw [List.mem_singleton.mp hq]
      exact ⟨gC4, by simp⟩
    refine ZtM (hel C ρ) (hif C ρ) ⟨h4, _, rfl⟩ aC3 aD3 l2 i3 nC4 hv2 hl2 r4 (fun p hp => ?_) (fun i hi => ?_) e
    ·rw [List.mem_singleton.mp hp]
     exact ⟨v, y, by simp [upd], by simp, y3⟩
    ·have : i ≠ t := fun e => hi (x, t) Zz5 e.symm
     simp [upd, this]
 refine codeAny_compStart_list (loop _ rfl) ?_
 exact I1.self 0 W1 ρ H0 (([(C, oC)] ++ [(D, lst [])]) ++ fr) fs _ _ _ (.refl _) (rC.less fun q hq => by
  rcases List.mem_append.mp hq with hq | hq
  ·exact Zz3 _ (Zz3 _ (Zz4 _ hq))
  ·rcases List.mem_append.mp hq with hq | hq
   ·rcases List.mem_append.mp hq with hq | hq
    ·exact Zz4 _ hq
    ·exact Zz3 _ (Zz4 _ hq)
   ·exact Zz3 _ (Zz3 _ (Zz3 _ hq))) i1 (loop _ rfl)
theorem Zo2 {W : Wd} {ρ : Lc} {q : List V × Hp} {fr : List (Addr × Obj)} {C D : Addr} {oC : Obj} {ys : List Value} {h' h'' : Heap} (hv : VRs W q.1 ys) (hl : q.1.length ≤ LEN) (aD : ∀ t ∈ fr, D ≠ t.1) (aC : ∀ t ∈ fr, C ≠ t.1) (cd : C ≠ D) (r : Rep Γ W ρ q.2 ((C, oC) :: (D, lst ys) :: fr) h') (sb : Heap.SameBut C h' h'') :
  ∃ W', W.Le W' ∧ Rep Γ W' ρ (q.2 ++ [q.1]) fr h'' ∧ VR W' (.ref q.2.length) (.ref D) := by
 have r4 : Rep Γ W ρ q.2 ([] ++ ((D, lst ys) :: fr)) h'' := by
  refine Rep.swap (fs := [(C, oC)]) (fs' := []) r (fun q hq t ht => ?_) (fun b o hb e => sb.extBut b o (fun z => hb (by simp [z])) e) fun q hq => nomatch hq
  rw [List.mem_singleton.mp hq]
  rcases List.mem_cons.mp ht with e | ht
  ·rw [e]
   exact cd
  ·exact aC t ht
 exact Zf9 r4 aD hv hl
theorem ZvD {elt iter : Expr} {x : Str} {px : Pos} {ifs : List Expr} {scope : Scope} {pos : Pos} {cl : List (Str × Addr)} {t : Nat} {g : Src} {c : Ts} {f : Ex} (hg : JI prog w Γ iter g) (hel : ∀ C ρ, J prog w (Zbk Γ scope cl C [(x, t)] ρ) elt f) (hif : ∀ C ρ, JF prog w (Zbk Γ scope cl C [(x, t)] ρ) ifs c)
  (hclos : closureFor scope Γ.env = pure cl) (hcell : ∀ y ∈ scope.names, y.2 ≠ .cell) (hkind : scope.kind = .function) (hnames : ∀ y ∈ scope.names, y.2 = .local → scope.names.lookup y.1 = some .local) (hx : scope.names.lookup x = some .local) (hs : ∀ x, foldedSetIterable iter Γ.env x = pure x := by intro _; rfl) :
  J prog w Γ (.ListComp elt [⟨.Name x px, iter, ifs, 0⟩] scope pos) (ZaA g (put1 t) c f) := by
 intro W ρ H fr s Q E v H' r hf post
 obtain ⟨z, e1, hf⟩ := Zz0.mp hf
 obtain ⟨q, e2, e3⟩ := Zz1.mp hf
 cases e3
 rw [eval_ListComp]
 refine wpAny_comprehension_free (use := Option.none) rfl hs hclos hkind hnames ?_
 refine comp_core (RR := fun acc C => compPost (model prog w) Γ.A E Option.none Q acc C) hg hel hif hcell hkind hx r (q := q) (by rw [e1]; exact e2) fun W2 h' tk' C D oC m₂ ys l2 hC hv hl aD aC cd r3 => ?_
 refine ⟨m₂, hC.ns (r3.frAt (q := (C, oC)) Zz5), fun h'' sb => ?_⟩
 obtain ⟨W5, l5, r5, v5⟩ := Zo2 hv hl aD aC cd r3 sb
 exact post W5 h'' tk' _ (l2.trans l5) r5 v5
theorem Zsp {elt iter : Expr} {x y : Str} {px py pos spos : Pos} {ifs : List Expr} {scope : Scope} {cl : List (Str × Addr)} {t i : Nat} {g : Src} {c : Ts} {f : Ex} (hy : Sto prog w Γ y i) (hg : JI prog w Γ iter g) (hel : ∀ C ρ, J prog w (Zbk Γ scope cl C [(x, t)] ρ) elt f) (hif : ∀ C ρ, JF prog w (Zbk Γ scope cl C [(x, t)] ρ) ifs c)
  (hsw : swapsWith (.ListComp elt [⟨.Name x px, iter, ifs, 0⟩] scope pos) (some (.Name y py)) spos.line Γ.env = pure true)
  (hclos : closureFor scope Γ.env = pure cl) (hcell : ∀ y ∈ scope.names, y.2 ≠ .cell) (hkind : scope.kind = .function) (hnames : ∀ y ∈ scope.names, y.2 = .local → scope.names.lookup y.1 = some .local) (hx : scope.names.lookup x = some .local) (hs : ∀ x, foldedSetIterable iter Γ.env x = pure x := by intro _; rfl) :
  S1 prog w Γ (.Assign [.Name y py] (.ListComp elt [⟨.Name x px, iter, ifs, 0⟩] scope pos) spos) (ZN i (ZaA g (put1 t) c f)) := by
 intro W ρ H fr s Q E r rp hf post
 obtain ⟨p, e0, e9⟩ := Zz1.mp hf
 cases e9
 obtain ⟨z, e1, hf⟩ := Zz0.mp e0
 obtain ⟨q, e2, e3⟩ := Zz1.mp hf
 cases e3
 rw [exec_Assign_Name_used _ _ _ _ hsw]
 refine wpAny_bind (wpAny_standAt (wpAny_bind ?_))
 show wpAny _ Γ.A (do let _ ← comprehension (.ListComp elt [⟨.Name x px, iter, ifs, 0⟩] scope pos) scope Γ.env _ (newList []) false (eval iter Γ.env) (some (assign (.Name y py) Γ.env))) _ _ s
 refine wpAny_bind (wpAny_mono (wpAny_comprehension_free (use := some (assign (.Name y py) Γ.env)) (Q := fun _ s' => Q .next s') rfl hs hclos hkind hnames ?_) (fun _ s' h' => wpAny_pure (wpAny_pure h')) fun _ _ e => e)
 refine comp_core (RR := fun acc C => compPost (model prog w) Γ.A E (some (assign (.Name y py) Γ.env)) (fun _ s' => Q .next s') acc C) hg hel hif hcell hkind hx rp (q := q) (by rw [e1]; exact e2) fun W2 h' tk' C D oC m₂ ys l2 hC hv hl aD aC cd r3 => ?_
 have r4 : Rep Γ W2 ρ q.2 ((D, lst ys) :: (C, oC) :: fr) h' := r3.less fun t ht => by
  rcases List.mem_cons.mp ht with e | ht
  ·exact e ▸ List.mem_cons_of_mem _ Zz5
  ·rcases List.mem_cons.mp ht with e | ht
   ·exact e ▸ List.mem_cons_self
   ·exact Zz2 _ (Zz2 _ ht)
 obtain ⟨W5, l5, r5, v5⟩ := Zf9 r4 (fun t ht => by
  rcases List.mem_cons.mp ht with e | ht
  ·rw [e]
   exact cd.symm
  ·exact aD t ht) hv hl
 refine wpAny_assign_Name (hy W5 ρ _ _ _ _ _ _ _ r5 v5 fun h6 t6 r6 => ?_)
 refine ⟨m₂, hC.ns (r6.frAt (q := (C, oC)) Zz5), fun h'' sb => ?_⟩
 have r7 : Rep Γ W5 (upd ρ i (.ref q.2.length)) (q.2 ++ [q.1]) ([] ++ fr) h'' :=
  Rep.swap (fs := [(C, oC)]) (fs' := []) r6 (fun q hq t ht => by rw [List.mem_singleton.mp hq]; exact aC t ht) (fun b o hb e => sb.extBut b o (fun z => hb (by simp [z])) e) fun q hq => nomatch hq
 exact post W5 h'' t6 (l2.trans l5) r7
end
end PM
end
section
set_option maxRecDepth 100000
set_option linter.all false
set_option autoImplicit false
namespace PM
open PySem PySem.W PySem.Calls PyProof.Rows PyProof PyProof.Rows.LCg PyProof.Rows.LCp
theorem Znu (h : Heap) : ∀ as : List Addr, (∀ a ∈ as, ∃ o, h.get? a = some o) → ∃ fs : List (Addr × Obj), fs.map (·.1) = as ∧ ∀ q ∈ fs, h.get? q.1 = some q.2
 | [], _ => ⟨[], rfl, fun q hq => nomatch hq⟩
 | a :: as, d => by
  obtain ⟨o, ho⟩ := d a Zz5
  obtain ⟨fs, h1, h2⟩ := Znu h as fun b hb => d b (Zz2 _ hb)
  refine ⟨(a, o) :: fs, by rw [List.map_cons, h1], fun q hq => ?_⟩
  rcases List.mem_cons.mp hq with e | hq
  ·rw [e]
   exact ho
  ·exact h2 q hq
structure Itr2 (prog : Program) (w : World) (Γ : Cx) (W0 : Wd) (it : Value) (as : List Addr) (It : Nat → List (Addr × Obj) → Prop) (nx : Nx) : Prop where
 adr : ∀ i fs, It i fs → fs.map (·.1) = as
 pair : ∀ i H v, nx i H = some (some v) → ∃ a b, v = .tup [a, b]
 item : ∀ (i : Nat) (W : Wd) (ρ : Lc) (H : Hp) (fr fs : List (Addr × Obj)) (s : Shared) (Q : Option Value → Shared → Prop) (E : Value → Shared → Prop) (a b : V), W0.Le W → Rep Γ W ρ H (fs ++ fr) s.heap → (∀ a ∈ as, ∀ t ∈ fr, a ≠ t.1) → It i fs → nx i H = some (some (.tup [a, b])) →
  (∀ (T : Addr) (h1 : Heap) (t1 : Nat) , (∀ (elts : List Expr) (k : Nat) (pos : Pos) (s1 : Shared) (Q1 : Unit → Shared → Prop) (E1 : Value → Shared → Prop), s1 = { s with heap := h1, toks := t1 } →
    (∀ (fs' : List (Addr × Obj)) (h' : Heap) (x y : Value), It (i + 1) fs' → Rep Γ W ρ H (fs' ++ fr) h' → IsTup h' T #[x, y] → VR W a x → VR W b y → Q1 () { s with heap := h', toks := t1 }) → wpAny (model prog w) Γ.A (letOwnedTupleGo (.Tuple elts k pos) it (.ref T)) Q1 E1 s1) → Q (some (.ref T)) { s with heap := h1, toks := t1 }) → wpAny (model prog w) Γ.A (pyNext it) Q E s
 done : ∀ (i : Nat) (W : Wd) (ρ : Lc) (H : Hp) (fr fs : List (Addr × Obj)) (s : Shared) (Q : Option Value → Shared → Prop) (E : Value → Shared → Prop), W0.Le W → Rep Γ W ρ H (fs ++ fr) s.heap → (∀ a ∈ as, ∀ t ∈ fr, a ≠ t.1) → It i fs → nx i H = some none →
  (∀ (h' : Heap) (tk' : Nat), Rep Γ W ρ H fr h' → Q none { s with heap := h', toks := tk' }) → wpAny (model prog w) Γ.A (pyNext it) Q E s
 self : ∀ (i : Nat) (W : Wd) (ρ : Lc) (H : Hp) (fr fs : List (Addr × Obj)) (s : Shared) (Q E : Value → Shared → Prop) (o : Option V), W0.Le W → Rep Γ W ρ H (fs ++ fr) s.heap → It i fs → nx i H = some o → Q it s → wpAny (model prog w) Γ.A (pyIter it) Q E s
noncomputable def JI2 (prog : Program) (w : World) (Γ : Cx) (e : Expr) (g : Src) : Prop := ∀ (W : Wd) (ρ : Lc) (H : Hp) (fr : List (Addr × Obj)) (s : Shared) (Q E : Value → Shared → Prop) (nx : Nx) (n : Nat) (H' : Hp),
 Rep Γ W ρ H fr s.heap → g ρ H = some (nx, n, H') →
 (∀ (W' : Wd) (h' : Heap) (tk' : Nat) (it : Value) (as : List Addr) (It : Nat → List (Addr × Obj) → Prop) (fs : List (Addr × Obj)), W.Le W' → It 0 fs → Rep Γ W' ρ H' (fs ++ fr) h' → (∀ a ∈ as, ∀ t ∈ fr, a ≠ t.1) → Itr2 prog w Γ W' it as It nx → (∃ o, nx 0 H' = some o) → Q it { s with heap := h', toks := tk' }) →
 wpAny (model prog w) Γ.A (eval e Γ.env) (fun xv s₁ => wpAny (model prog w) Γ.A (pyIter xv) Q E s₁) E s
noncomputable def ZgE (a b : Nat) : Nx := fun i H => H[a]?.bind fun vs => H[b]?.bind fun us => match vs[i]?, us[i]? with
 | some x, some y => some (some (.tup [x, y]))
 | _, _ => if i = min vs.length us.length then some none else none
noncomputable def ZdN (f g : Ex) : Src := fun ρ H => (f ρ H).bind fun p => (g ρ p.2).bind fun q => match p.1, q.1 with
 | .ref a, .ref b => q.2[a]?.bind fun vs => q.2[b]?.map fun us => (ZgE a b, min vs.length us.length + 1, q.2)
 | _, _ => none
noncomputable def Zcu (i j : Nat) : V → Lc → Option Lc
 | .tup [a, b], ρ => some (upd (upd ρ i a) j b)
 | _, _ => none
noncomputable def ZS (z TI TO i1 i2 l1 l2 : Addr) (i : Nat) (h : Heap) : Prop := IsZip h z TI TO .none ∧ PySem.IsPair h TI (.ref i1) (.ref i2) ∧ (∃ a b, PySem.IsPair h TO a b) ∧ h.IsListIter i1 l1 i ∧ h.IsListIter i2 l2 i
theorem ZS.at {z TI TO i1 i2 l1 l2 : Addr} {i : Nat} {h h' : Heap} (x : ZS z TI TO i1 i2 l1 l2 i h) (e : ∀ a ∈ [z, TI, TO, i1, i2], ∀ o, h.get? a = some o → h'.get? a = some o) : ZS z TI TO i1 i2 l1 l2 i h' := by
 obtain ⟨h1, h2, ⟨a, b, h3⟩, h4, h5⟩ := x
 exact ⟨e z (by simp) _ h1, e TI (by simp) _ h2, ⟨a, b, e TO (by simp) _ h3⟩, h4.at fun o x => e i1 (by simp) o x, h5.at fun o x => e i2 (by simp) o x⟩
theorem ZS.have {z TI TO i1 i2 l1 l2 : Addr} {i : Nat} {h : Heap} (x : ZS z TI TO i1 i2 l1 l2 i h) : ∀ a ∈ [z, TI, TO, i1, i2], ∃ o, h.get? a = some o := by
 obtain ⟨h1, h2, ⟨a, b, h3⟩, ⟨o4, h4, _⟩, ⟨o5, h5, _⟩⟩ := x
 intro c hc
 simp only [List.mem_cons, List.not_mem_nil, or_false] at hc
 rcases hc with e | e | e | e | e <;> subst e
 ·exact ⟨_, h1⟩
 ·exact ⟨_, h2⟩
 ·exact ⟨_, h3⟩
 ·exact ⟨_, h4⟩
 ·exact ⟨_, h5⟩
noncomputable def ZIt (z TI TO i1 i2 l1 l2 : Addr) (i : Nat) (fs : List (Addr × Obj)) : Prop := fs.map (·.1) = [z, TI, TO, i1, i2] ∧ ∀ h : Heap, (∀ q ∈ fs, h.get? q.1 = some q.2) → ZS z TI TO i1 i2 l1 l2 i h
theorem ZpE {z TI TO i1 i2 l1 l2 : Addr} {i : Nat} {h : Heap} (x : ZS z TI TO i1 i2 l1 l2 i h) : ∃ fs, ZIt z TI TO i1 i2 l1 l2 i fs ∧ ∀ q ∈ fs, h.get? q.1 = some q.2 := by
 obtain ⟨fs, h1, h2⟩ := Znu h [z, TI, TO, i1, i2] x.have
 refine ⟨fs, ⟨h1, fun h' e => x.at fun a ha o ho => ?_⟩, h2⟩
 rw [← h1] at ha
 obtain ⟨q, hq, eq⟩ := List.mem_map.mp ha
 have := h2 q hq
 rw [eq, ho] at this
 cases this
 exact eq ▸ e q hq
section
variable {prog : Program} {w : World} {Γ : Cx}
theorem ZvE {W0 : Wd} {z TI TO i1 i2 l1 l2 : Addr} {a b : Nat} (ea : W0.pi[a]? = some l1) (eb : W0.pi[b]? = some l2) (D : ZipApart z TI TO i1 i2 l1 l2) :
  Itr2 prog w Γ W0 (.ref z) [z, TI, TO, i1, i2] (ZIt z TI TO i1 i2 l1 l2) (ZgE a b) := by
 refine ⟨fun i fs h => h.1, ?_, ?_, ?_, ?_⟩
 ·intro i H v e
  obtain ⟨vs, e1, e⟩ := Zz0.mp e
  obtain ⟨us, e2, e⟩ := Zz0.mp e
  split at e
  ·cases e
   exact ⟨_, _, rfl⟩
  ·split at e <;> cases e
 ·intro i W ρ H fr fs s Q E va vb le r ap hit hn post
  obtain ⟨vs, e1, e⟩ := Zz0.mp hn
  obtain ⟨us, e2, e⟩ := Zz0.mp e
  have hvu : vs[i]? = some va ∧ us[i]? = some vb := by
   split at e
   ·rename_i x y h1 h2
    cases e
    exact ⟨h1, h2⟩
   ·split at e <;> cases e
  obtain ⟨_, xs, k1, g1, v1⟩ := r.at e1 (le.at ea)
  obtain ⟨_, ys, k2, g2, v2⟩ := r.at e2 (le.at eb)
  obtain ⟨x, hx, rx⟩ := v1.at hvu.1
  obtain ⟨y, hy, ry⟩ := v2.at hvu.2
  have st : ZS z TI TO i1 i2 l1 l2 i s.heap := hit.2 _ fun q hq => r.frAt (Zz4 _ hq)
  have Wk := WalksT.zip2 (prog := prog) (w := w) (A := Γ.A) Γ.hh z TI TO i1 i2 l1 l2 D xs.toArray ys.toArray
  have isl1 : s.heap.IsList l1 xs.toArray := ⟨_, g1, rfl, k1, rfl⟩
  have isl2 : s.heap.IsList l2 ys.toArray := ⟨_, g2, rfl, k2, rfl⟩
  have hi : i < min xs.toArray.size ys.toArray.size := by
   have h1 := (Zz6.mp hx).1
   have h2 := (Zz6.mp hy).1
   simp
   omega
  refine Wk.item i s Q E hi ⟨st.1, st.2.1, st.2.2.1, st.2.2.2.1, st.2.2.2.2, isl1, isl2⟩ fun T vals h1 t1 hp hT hTup hmid keep1 => post T h1 t1 ?_
  intro elts k pos s1 Q1 E1 es1 q1
  subst es1
  have hTw := Wk.apart i T _ hmid
  refine Wk.go elts k pos i T _ Q1 E1 hmid fun h2 st2 keep2 => ?_
  obtain ⟨x', y', hx', hy', ev⟩ := hp
  have ex : x' = x := by
   have : xs[i]? = some x' := by simpa using hx'
   rw [hx] at this
   exact (Option.some.inj this).symm
  have ey : y' = y := by
   have : ys[i]? = some y' := by simpa using hy'
   rw [hy] at this
   exact (Option.some.inj this).symm
  subst ex ey ev
  obtain ⟨fs', hit', at'⟩ := ZpE (h := h2) (⟨st2.1, st2.2.1, st2.2.2.1, st2.2.2.2.1, st2.2.2.2.2.1⟩ : ZS z TI TO i1 i2 l1 l2 (i + 1) h2)
  obtain ⟨oT, gT, cT, nT, dT⟩ := hTup
  refine q1 fs' h2 x' y' hit' ?_ ⟨oT, keep2 T oT hTw gT, cT, nT, dT⟩ rx ry
  refine r.swap (fs' := fs') (fun q hq t ht => ?_) (fun c o hc e => ?_) fun q hq => ⟨at' q hq, ?_⟩
  ·exact ap _ (hit.1 ▸ List.mem_map_of_mem hq) t ht
  ·rw [hit.1] at hc
   have hcw : c ∉ [z, TO, i1, i2] := fun h => hc (by simp at h ⊢; rcases h with h | h | h | h <;> simp [h])
   exact keep2 c o hcw (keep1 c o hcw e)
  ·rw [hit.1, ← hit'.1]
   exact List.mem_map_of_mem hq
 ·intro i W ρ H fr fs s Q E le r ap hit hn post
  obtain ⟨vs, e1, e⟩ := Zz0.mp hn
  obtain ⟨us, e2, e⟩ := Zz0.mp e
  obtain ⟨_, xs, k1, g1, v1⟩ := r.at e1 (le.at ea)
  obtain ⟨_, ys, k2, g2, v2⟩ := r.at e2 (le.at eb)
  have hi : i = min vs.length us.length := by
   split at e
   ·cases e
   ·split at e
    ·assumption
    ·cases e
  have st : ZS z TI TO i1 i2 l1 l2 i s.heap := hit.2 _ fun q hq => r.frAt (Zz4 _ hq)
  have Wk := WalksT.zip2 (prog := prog) (w := w) (A := Γ.A) Γ.hh z TI TO i1 i2 l1 l2 D xs.toArray ys.toArray
  have hm : min xs.toArray.size ys.toArray.size = i := by simp [v1.length, v2.length, hi]
  refine Wk.done s Q E (by rw [hm]; exact ⟨st.1, st.2.1, st.2.2.1, st.2.2.2.1, st.2.2.2.2, ⟨_, g1, rfl, k1, rfl⟩, ⟨_, g2, rfl, k2, rfl⟩⟩) fun h' tk keep => post h' tk ?_
  have := r.swap (fs' := []) (fun q hq t ht => ap _ (hit.1 ▸ List.mem_map_of_mem hq) t ht) (fun c o hc e => keep c o (fun h => hc (by rw [hit.1]; simp at h ⊢; rcases h with h | h | h | h <;> simp [h])) e) (fun q hq => nomatch hq)
  exact this
 ·intro i W ρ H fr fs s Q E o le r hit hn q
  obtain ⟨vs, e1, e⟩ := Zz0.mp hn
  obtain ⟨us, e2, e⟩ := Zz0.mp e
  obtain ⟨_, xs, k1, g1, v1⟩ := r.at e1 (le.at ea)
  obtain ⟨_, ys, k2, g2, v2⟩ := r.at e2 (le.at eb)
  have st : ZS z TI TO i1 i2 l1 l2 i s.heap := hit.2 _ fun q hq => r.frAt (Zz4 _ hq)
  have Wk := WalksT.zip2 (prog := prog) (w := w) (A := Γ.A) Γ.hh z TI TO i1 i2 l1 l2 D xs.toArray ys.toArray
  exact Wk.self i s Q E ⟨st.1, st.2.1, st.2.2.1, st.2.2.2.1, st.2.2.2.2, ⟨_, g1, rfl, k1, rfl⟩, ⟨_, g2, rfl, k2, rfl⟩⟩ q
theorem JI2.zip {x : Str} {np pos : Pos} {e1 e2 : Expr} {f g : Ex} (hn : Nm prog w Γ x (.type "zip")) (h1 : J prog w Γ e1 f) (h2 : J prog w Γ e2 g)
  (he : starEach [e1, e2] Γ.env = (false, eval e1 Γ.env) :: starEach [e2] Γ.env := by rfl) (he2 : starEach [e2] Γ.env = (false, eval e2 Γ.env) :: starEach [] Γ.env := by rfl) (hp : ∀ pos, (backTo pos (starEach [e2] Γ.env)).any (·.1) = false := by intro _; rfl) : JI2 prog w Γ (.Call (.Name x np) [e1, e2] [] pos) (ZdN f g) := by
 intro W ρ H fr s Q E nx n H' r hf post
 obtain ⟨p, a1, hf⟩ := Zz0.mp hf
 obtain ⟨q, a2, hf⟩ := Zz0.mp hf
 refine wpAny_Call_ofName (hn.use r ?_)
 refine PySem.Pv.callWith_type1 (wpAny_items_cons (h1 W ρ H fr s _ E _ _ r a1 fun W1 k1 t1 y1 l1 r1 v1 => ?_) he) he (hp pos)
 refine wpAny_items_cons (h2 W1 ρ _ fr _ _ E _ _ r1 a2 fun W2 k2 t2 y2 l2 r2 v2 => wpAny_items_nil ?_) he2
 have v1' := v1.mono l2
 obtain ⟨u1, H1⟩ := p
 obtain ⟨u2, H2⟩ := q
 simp only at hf v1' v2 r2
 cases u1 <;> first | (cases hf; done) | skip
 rename_i b1
 cases u2 <;> first | (cases hf; done) | skip
 rename_i b2
 obtain ⟨vs, c1, hf⟩ := Zz0.mp hf
 obtain ⟨us, c2, c3⟩ := Zz1.mp hf
 cases c3
 cases v1' with
 | @ref _ m1 ea =>
 cases v2 with
 | @ref _ m2 eb =>
 obtain ⟨_, xs, n1, g1, w1⟩ := r2.at c1 ea
 obtain ⟨_, ys, n2, g2, w2⟩ := r2.at c2 eb
 have isl1 : k2.IsList m1 xs.toArray := ⟨_, g1, rfl, n1, rfl⟩
 have isl2 : k2.IsList m2 ys.toArray := ⟨_, g2, rfl, n2, rfl⟩
 refine call_zip_2 (s := { s with heap := k2, toks := t2 }) isl1 isl2 fun h₁ hz hTI hTO hi1 hi2 hsz up => ?_
 have ap := zipApart_new (n := k2.objs.size) (Heap.lt_size g1) (Heap.lt_size g2)
 have Wk := WalksT.zip2 (prog := prog) (w := w) (A := Γ.A) Γ.hh _ _ _ _ _ m1 m2 ap xs.toArray ys.toArray
 have zs : ZS (k2.objs.size + 4) (k2.objs.size + 2) (k2.objs.size + 3) k2.objs.size (k2.objs.size + 1) m1 m2 0 h₁ := ⟨hz, hTI, ⟨_, _, hTO⟩, hi1, hi2⟩
 refine Wk.self 0 _ _ _ ⟨hz, hTI, ⟨_, _, hTO⟩, hi1, hi2, isl1.at fun o e => up _ o e, isl2.at fun o e => up _ o e⟩ ?_
 obtain ⟨fs, hit, at'⟩ := ZpE zs
 obtain ⟨r3, ap3⟩ := r2.more (fs := fs) (h' := h₁) (fun b o e => up b o e) (fun q hq => ⟨at' q hq, by
  have : q.1 ∈ fs.map (·.1) := List.mem_map_of_mem hq
  rw [hit.1] at this
  simp at this
  rcases this with e | e | e | e | e <;> rw [e] <;> omega⟩)
 refine post W2 h₁ t2 _ _ _ fs (l1.trans l2) hit r3 (fun b hb t ht => ?_) (ZvE ea eb ap) ?_
 ·rw [← hit.1] at hb
  obtain ⟨q, hq, e⟩ := List.mem_map.mp hb
  exact e ▸ ap3 q hq t ht
 ·simp only [ZgE, c1, c2, Option.bind_some]
  split
  ·exact ⟨_, rfl⟩
  ·rename_i hno
   have : 0 = min vs.length us.length := by
    rcases Nat.eq_zero_or_pos vs.length with z | z
    ·rw [z]; simp
    ·rcases Nat.eq_zero_or_pos us.length with z' | z'
     ·rw [z']; simp
     ·exact (hno vs[0] us[0] (by simp [z]) (by simp [z'])).elim
   rw [if_pos this]
   exact ⟨_, rfl⟩
theorem Zux {x1 x2 : Str} {i1 i2 kt : Nat} {p1 p2 tp : Pos} (h1 : Sto prog w Γ x1 i1) (h2 : Sto prog w Γ x2 i2) {W : Wd} {ρ : Lc} {H : Hp} {fr : List (Addr × Obj)} {s : Shared} {Q : Unit → Shared → Prop} {E : Value → Shared → Prop} {T : Addr} {y1 y2 : Value} {a b : V} (r : Rep Γ W ρ H fr s.heap) (ht : IsTup s.heap T #[y1, y2]) (v1 : VR W a y1) (v2 : VR W b y2)
  (post : ∀ (h' : Heap) (tk' : Nat), Rep Γ W (upd (upd ρ i1 a) i2 b) H fr h' → Q () { s with heap := h', toks := tk' }) : wpAny (model prog w) Γ.A (assign (.Tuple [.Name x1 p1, .Name x2 p2] kt tp) Γ.env (.ref T)) Q E s := by
 refine assign_Tuple_tuple Γ.hh ht rfl rfl fun g₄ he => ?_
 have r4 := r.grown (h' := g₄) fun b o e => he b o (Nat.ne_of_lt (Heap.lt_size e)) e
 refine assignInOrder_cons (wpAny_assign_Name (h1 W ρ H fr _ _ _ a y1 r4 v1 fun k5 t5 r5 => ?_))
 refine assignInOrder_cons (wpAny_assign_Name (h2 W _ H fr _ _ _ b y2 r5 v2 fun k6 t6 r6 => ?_))
 exact assignInOrder_nil (post k6 t6 r6)
theorem ZhZ {x1 x2 : Str} {i1 i2 kt : Nat} {p1 p2 tp pos : Pos} {it : Expr} {body : List Stmt} {g : Src} {b : Sm} (h1 : Sto prog w Γ x1 i1) (h2 : Sto prog w Γ x2 i2) (hg : JI2 prog w Γ it g) (hb : Ss prog w Γ body b) (hs : ∀ x, foldedSetIterable it Γ.env x = pure x := by intro _; rfl) :
  S1 prog w Γ (.For (.Tuple [.Name x1 p1, .Name x2 p2] kt tp) it body [] pos) (ZaO g (Zcu i1 i2) b) := by
 intro W ρ H fr s Q E r rp hf post
 obtain ⟨z, e1, hf⟩ := Zz0.mp hf
 obtain ⟨nx, n, H0⟩ := z
 refine wpAny_For (hg W ρ H fr s _ E nx n H0 rp e1 fun W1 k1 t1 itv as It fs l1 j1 r1 ap I1 _ => ?_) hs
 refine codeAny_forLoop_any (fun k s' => ∃ W' ρ' H' h' tk' j fs', s' = { s with heap := h', toks := tk' } ∧ W1.Le W' ∧ It j fs' ∧ Rep Γ W' ρ' H' (fs' ++ fr) h' ∧ Zdi nx (Zcu i1 i2) b k j ρ' H' = some r) ?_ n ⟨W1, ρ, H0, k1, t1, 0, fs, rfl, .refl _, j1, r1, hf⟩
 rintro k s' ⟨W2, ρ2, H2, k2, t2, j, fs2, rfl, l2, j2, r2, e⟩
 cases k with
 | zero => cases e
 | succ k =>
  obtain ⟨o, e2, e⟩ := Zz0.mp e
  cases o with
  | none =>
   cases e
   exact I1.done j W2 ρ2 H2 fr fs2 _ _ _ l2 r2 ap j2 e2 fun h' tk' r3 => wpAny_execs_nil (post W2 h' tk' (l1.trans l2) r3)
  | some v =>
   obtain ⟨va, vb, ev⟩ := I1.pair j H2 v e2
   subst ev
   refine I1.item j W2 ρ2 H2 fr fs2 _ _ _ va vb l2 r2 ap j2 e2 fun T h3 t3 go => ?_
   obtain ⟨ρ3, e3, e⟩ := Zz0.mp e
   cases e3
   obtain ⟨q, e4, e⟩ := Zz0.mp e
   refine go _ _ _ _ _ _ rfl fun fs3 k3 y1 y2 j3 r3 ht w1 w2 => ?_
   refine Zux h1 h2 (s := { s with heap := k3, toks := t3 }) r3 ht w1 w2 fun k4 t4 r4 => ?_
   refine hb W2 _ H2 (fs3 ++ fr) _ _ _ q r4 e4 ?_
   obtain ⟨u, ρ5, H5⟩ := q
   cases u with
   | some u =>
    cases e
    exact fun W5 k5 t5 x5 l5 r5 v5 => post W5 k5 t5 x5 ((l1.trans l2).trans l5) (r5.less fun q hq => List.mem_append_right _ hq) v5
   | none => exact fun W5 k5 t5 l5 r5 => ⟨k, Nat.lt_succ_self k, W5, ρ5, H5, k5, t5, j + 1, fs3, rfl, l2.trans l5, j3, r5, e⟩
theorem Zop {elt iter : Expr} {x x₂ : Str} {px px₂ tp : Pos} {kt : Nat} {scope : Scope} {pos : Pos} {cl : List (Str × Addr)} {t t₂ : Nat} {g : Src} {f : Ex} (hg : JI2 prog w Γ iter g) (hel : ∀ C ρ, J prog w (Zbk Γ scope cl C [(x, t), (x₂, t₂)] ρ) elt f)
  (hcell : ∀ y ∈ scope.names, y.2 ≠ .cell) (hkind : scope.kind = .function) (hx : scope.names.lookup x = some .local) (hx₂ : scope.names.lookup x₂ = some .local) (hxx : x ≠ x₂) (htt : t ≠ t₂)
  {W : Wd} {ρ : Lc} {H : Hp} {fr : List (Addr × Obj)} {s : Shared} {E : Value → Shared → Prop} {q : List V × Hp} {RR : Value → Addr → Result → Shared → Prop} (r : Rep Γ W ρ H fr s.heap) (hf : ((g ρ H).bind fun z => ZcN z.1 (Zcu t t₂) Zao f ρ z.2.1 0 [] z.2.2) = some q)
  (hR : ∀ (W' : Wd) (h' : Heap) (tk' : Nat) (C D : Addr) (oC : Obj) (m₂ : Str → Option Value) (ys : List Value), W.Le W' → NsObj oC m₂ → VRs W' q.1 ys → q.1.length ≤ LEN → (∀ t ∈ fr, D ≠ t.1) → (∀ t ∈ fr, C ≠ t.1) → C ≠ D → Rep Γ W' ρ q.2 ((C, oC) :: (D, lst ys) :: fr) h' → RR (.ref D) C (.ok .next) { s with heap := h', toks := tk' }) :
  wpAny (model prog w) Γ.A (eval iter Γ.env) (fun xv s₁ => wpAny (model prog w) Γ.A (pyIter xv) (fun it s₂ => wpAny (model prog w) Γ.A (newList []) (fun acc s₃ => wpAny (model prog w) Γ.A (newFunctionEnv scope Γ.env.globals cl [] Γ.env.qual none .none (some Γ.env)) (fun cenv s₄ =>
   codeAny (model prog w) Γ.A (.compStart (.ListComp elt [⟨.Tuple [.Name x px, .Name x₂ px₂] kt tp, iter, [], 0⟩] scope pos) 0 it acc { cenv with scope := relabel scope Γ.env }) (RR acc cenv.locals) s₄) E s₃) E s₂) E s₁) E s := by
 obtain ⟨z, e1, e2⟩ := Zz0.mp hf
 obtain ⟨nx, n, H0⟩ := z
 refine hg W ρ H fr s _ E nx n H0 r e1 fun W1 k1 t1 itv as It fs l1 i1 r1 ap I1 hstart => ?_
 refine wpAny_newObj_type (wpAny_newFunctionEnv hcell (fun y hy => by simp at hy) (fun h₂ hns hsb => ?_) hkind)
 dsimp only at hns hsb ⊢
 obtain ⟨rD, aD⟩ := r1.more (fs := [(k1.objs.size, lst [])]) (fun b o e => Heap.get?_push_of_some (lst []) e) (fun q hq => by rw [List.mem_singleton.mp hq]; exact ⟨Heap.get?_push_size _ rfl, Nat.le_refl _⟩)
 generalize eH : k1.push { cls := .type "list", dict := none, data := .seq ([] : List Value).toArray } = K at hns hsb ⊢
 have eK : k1.push (lst []) = K := eH
 rw [eK] at rD
 obtain ⟨oC, gC, nC⟩ := ns_obj hns
 have up : ∀ b o, K.get? b = some o → h₂.get? b = some o := fun b o e => hsb.extBut b o (Nat.ne_of_lt (Heap.lt_size e)) (Heap.get?_push_of_some _ e)
 obtain ⟨rC, aC⟩ := rD.more (fs := [(K.objs.size, oC)]) up (fun q hq => by rw [List.mem_singleton.mp hq]; exact ⟨gC, Nat.le_refl _⟩)
 have adr0 := I1.adr 0 fs i1
 have offs : ∀ b ∈ as, b ≠ k1.objs.size ∧ b ≠ K.objs.size := fun b hb => by
  rw [← adr0] at hb
  obtain ⟨q, hq, e⟩ := List.mem_map.mp hb
  exact ⟨e ▸ (aD _ Zz5 q (Zz4 _ hq)).symm, e ▸ (aC _ Zz5 q (Zz3 _ (Zz4 _ hq))).symm⟩
 have cd : K.objs.size ≠ k1.objs.size := aC _ Zz5 (k1.objs.size, lst []) (Zz4 _ Zz5)
 have cfr : ∀ t ∈ fr, K.objs.size ≠ t.1 := fun t ht => aC _ Zz5 t (Zz3 _ (Zz3 _ ht))
 have dfr : ∀ t ∈ fr, k1.objs.size ≠ t.1 := fun t ht => aD _ Zz5 t (Zz3 _ ht)
 generalize k1.objs.size = D at *
 generalize K.objs.size = C at *
 have loop : ∀ s₃ : Shared, s₃ = { s with heap := h₂, toks := t1 + ([] : List (Str × Value)).length } →
   codeAny (model prog w) Γ.A (.compLoop (.ListComp elt [⟨.Tuple [.Name x px, .Name x₂ px₂] kt tp, iter, [], 0⟩] scope pos) 0 itv (.ref D) (compEnvC scope cl C Γ.env)) (RR (.ref D) C) s₃ := by
  intro s₃ hs₃
  subst hs₃
  refine codeAny_compLoop_pair (ZgL Γ W1 ρ fr C D It nx (Zcu t t₂) Zao f q s) ?_ n ⟨W1, H0, h₂, _, 0, fs, [], [], oC, _, rfl, .refl _, i1, nC, .nil, Nat.zero_le _, rC, e2⟩
  rintro k s' ⟨W2, H2, k2, t2, j, fs2, acc, ys, oC2, m₂, rfl, l2, i2, hC2, hv2, hl2, r2, e⟩
  cases k with
  | zero => cases e
  | succ k =>
   obtain ⟨o, e4, e⟩ := Zz0.mp e
   have r2' : Rep Γ W2 ρ H2 (fs2 ++ ((C, oC2) :: (D, lst ys) :: fr)) k2 := r2.less fun q hq => by
    rcases List.mem_append.mp hq with hq | hq
    ·exact Zz2 _ (Zz2 _ (Zz4 _ hq))
    ·rcases List.mem_cons.mp hq with e | hq
     ·exact e ▸ List.mem_cons_self
     ·rcases List.mem_cons.mp hq with e | hq
      ·exact e ▸ List.mem_cons_of_mem _ Zz5
      ·exact Zz2 _ (Zz2 _ (Zz3 _ hq))
   have ap2 : ∀ b ∈ as, ∀ t ∈ (C, oC2) :: (D, lst ys) :: fr, b ≠ t.1 := fun b hb t ht => by
    rcases List.mem_cons.mp ht with e | ht
    ·rw [e]
     exact (offs b hb).2
    ·rcases List.mem_cons.mp ht with e | ht
     ·rw [e]
      exact (offs b hb).1
     ·exact ap b hb t ht
   cases o with
   | none =>
    cases e
    exact I1.done j W2 ρ H2 _ fs2 _ _ _ l2 r2' ap2 i2 e4 fun h' tk' r3 => hR W2 h' tk' C D oC2 m₂ ys (l1.trans l2) hC2 hv2 hl2 dfr cfr cd r3
   | some v =>
    obtain ⟨va, vb, ev⟩ := I1.pair j H2 v e4
    subst ev
    refine I1.item j W2 ρ H2 _ fs2 _ _ _ va vb l2 r2' ap2 i2 e4 fun T h3 t3 go => ?_
    obtain ⟨ρ3, e5, e⟩ := Zz0.mp e
    cases e5
    refine go _ _ _ _ _ _ rfl fun fs3 k3 y1 y2 i3 r3 htup w1 w2 => ?_
    have a3 : ∀ t ∈ fs3, t.1 ∈ as := fun t ht => by
     rw [← I1.adr _ _ i3]
     exact List.mem_map_of_mem ht
    refine assign_Tuple_tuple (s := { s with heap := k3, toks := t3 }) Γ.hh htup rfl rfl fun g₄ he => ?_
    have r3g := r3.grown (h' := g₄) fun b o e => he b o (Nat.ne_of_lt (Heap.lt_size e)) e
    have gC3 : g₄.get? C = some oC2 := r3g.frAt (q := (C, oC2)) (Zz3 _ Zz5)
    have nC3 : g₄.Ns C m₂ := hC2.ns gC3
    refine assignInOrder_cons (wpAny_assign_Name (wpAny_storeName_local (lookup_relabel_local hx) nC3 (fun h5 hn5 sb5 => ?_) (by simp [compEnvC, relabel, hkind])))
    refine assignInOrder_cons (wpAny_assign_Name (wpAny_storeName_local (lookup_relabel_local hx₂) hn5 (fun h4 hn4 sb4 => ?_) (by simp [compEnvC, relabel, hkind])))
    refine assignInOrder_nil ?_
    obtain ⟨oC4, gC4, nC4⟩ := ns_obj hn4
    have r3' : Rep Γ W2 ρ H2 ([(C, oC2)] ++ ((D, lst ys) :: (fs3 ++ fr))) g₄ := r3g.less fun q hq => by
     rcases List.mem_append.mp hq with hq | hq
     ·rw [List.mem_singleton.mp hq]
      exact Zz3 _ Zz5
     ·rcases List.mem_cons.mp hq with e | hq
      ·exact e ▸ List.mem_append_right _ (Zz2 _ Zz5)
      ·rcases List.mem_append.mp hq with hq | hq
       ·exact Zz4 _ hq
       ·exact Zz3 _ (Zz2 _ (Zz2 _ hq))
    have aC3 : ∀ t ∈ (D, lst ys) :: (fs3 ++ fr), C ≠ t.1 := fun t ht => by
     rcases List.mem_cons.mp ht with e | ht
     ·rw [e]
      exact cd
     ·rcases List.mem_append.mp ht with ht | ht
      ·exact (offs _ (a3 t ht)).2.symm
      ·exact cfr t ht
    have aD3 : ∀ t ∈ fs3 ++ fr, D ≠ t.1 := fun t ht => by
     rcases List.mem_append.mp ht with ht | ht
     ·exact (offs _ (a3 t ht)).1.symm
     ·exact dfr t ht
    have r4 : Rep Γ W2 ρ H2 ([(C, oC4)] ++ ((D, lst ys) :: (fs3 ++ fr))) h4 := by
     refine r3'.swap (fun q hq t ht => ?_) (fun b o hb e => sb4.extBut b o (fun z => hb (by simp [z, compEnvC])) (sb5.extBut b o (fun z => hb (by simp [z, compEnvC])) e)) fun q hq => ?_
     ·rw [List.mem_singleton.mp hq]
      exact aC3 t ht
     ·rw [List.mem_singleton.mp hq]
      exact ⟨gC4, by simp⟩
    have rc := ZpD (scope := scope) (cl := cl) (ts := [(x, t), (x₂, t₂)]) (ρ := upd (upd ρ t va) t₂ vb) r4 aC3 nC4 (fun p hp => by
     rcases List.mem_cons.mp hp with e | hp
     ·rw [e]
      exact ⟨va, y1, by simp [upd, htt], by simp [hxx], w1⟩
     ·rw [List.mem_singleton.mp hp]
      exact ⟨vb, y2, by simp [upd], by simp, w2⟩) (fun i hi => by
     have h1 : i ≠ t := fun e => hi (x, t) Zz5 e.symm
     have h2 : i ≠ t₂ := fun e => hi (x₂, t₂) (Zz2 _ Zz5) e.symm
     simp [upd, h1, h2])
    exact ZoJ (hel C ρ) aD3 cd l2 i3 hv2 rc e
 refine codeAny_compStart_list (loop _ rfl) ?_
 obtain ⟨o0, ho0⟩ := hstart
 exact I1.self 0 W1 ρ H0 (([(C, oC)] ++ [(D, lst [])]) ++ fr) fs _ _ _ o0 (.refl _) (rC.less fun q hq => by
  rcases List.mem_append.mp hq with hq | hq
  ·exact Zz3 _ (Zz3 _ (Zz4 _ hq))
  ·rcases List.mem_append.mp hq with hq | hq
   ·rcases List.mem_append.mp hq with hq | hq
    ·exact Zz4 _ hq
    ·exact Zz3 _ (Zz4 _ hq)
   ·exact Zz3 _ (Zz3 _ (Zz3 _ hq))) i1 ho0 (loop _ rfl)
theorem Zuy {elt iter : Expr} {x x₂ : Str} {px px₂ tp : Pos} {kt : Nat} {scope : Scope} {pos : Pos} {cl : List (Str × Addr)} {t t₂ : Nat} {g : Src} {f : Ex} (hg : JI2 prog w Γ iter g) (hel : ∀ C ρ, J prog w (Zbk Γ scope cl C [(x, t), (x₂, t₂)] ρ) elt f)
  (hclos : closureFor scope Γ.env = pure cl) (hcell : ∀ y ∈ scope.names, y.2 ≠ .cell) (hkind : scope.kind = .function) (hnames : ∀ y ∈ scope.names, y.2 = .local → scope.names.lookup y.1 = some .local) (hx : scope.names.lookup x = some .local) (hx₂ : scope.names.lookup x₂ = some .local) (hxx : x ≠ x₂) (htt : t ≠ t₂) (hs : ∀ x, foldedSetIterable iter Γ.env x = pure x := by intro _; rfl) :
  J prog w Γ (.ListComp elt [⟨.Tuple [.Name x px, .Name x₂ px₂] kt tp, iter, [], 0⟩] scope pos) (ZaA g (Zcu t t₂) Zao f) := by
 intro W ρ H fr s Q E v H' r hf post
 obtain ⟨z, e1, hf⟩ := Zz0.mp hf
 obtain ⟨q, e2, e3⟩ := Zz1.mp hf
 cases e3
 rw [eval_ListComp]
 refine wpAny_comprehension_free (use := Option.none) rfl hs hclos hkind hnames ?_
 refine Zop (RR := fun acc C => compPost (model prog w) Γ.A E Option.none Q acc C) hg hel hcell hkind hx hx₂ hxx htt r (q := q) (by rw [e1]; exact e2) fun W2 h' tk' C D oC m₂ ys l2 hC hv hl aD aC cd r3 => ?_
 refine ⟨m₂, hC.ns (r3.frAt (q := (C, oC)) Zz5), fun h'' sb => ?_⟩
 obtain ⟨W5, l5, r5, v5⟩ := Zo2 hv hl aD aC cd r3 sb
 exact post W5 h'' tk' _ (l2.trans l5) r5 v5
end
end PM
end
section
set_option maxRecDepth 100000
set_option linter.all false
set_option autoImplicit false
namespace PM
open PySem PySem.W PySem.Calls PyProof.Rows PyProof PySem.Spec
theorem ZvF {prog : Program} {w : World} {A A₀ : Around} {s : Shared} {base h₀ : Heap} {L : Addr} {m : Str → Option Value} {lent : List (Addr × Obj)} {K : Frag} {p : Program} {loose : List Str} {mean : ExcName → Option Value} {mg mb : Str → Option Value}
  {env : Env} {outer : List Env} {R : Result → Shared → Prop} {name qual : Str} {params : Arguments} {body : List Stmt} {scope : Scope} {dV kV doc pm cdv ct oc : Value} {an od : Option Addr} {osl : Array (Option Value)} {f : Addr} {args : Args} {binds : List (Str × Value)}
  (B : Below A₀ base outer h₀) (F : Fr h₀ L s.heap m) (X₀ : K.In h₀) (N : News h₀ L s.heap lent) (T : Top p loose mean mg mb h₀) (hA : A.frames = some (env :: outer)) (hf : env.frame = some L) (hke : env.scope.kind = .function)
  (ho : K.lookup f = some ⟨oc, od, .func (fnOf name qual params body scope dV kV doc pm an cdv ct), osl⟩) (hcd : codeIn K cdv qual = true) (hroom : A.depth < recursionLimit)
  (hbind : BindsTo s (fnOf name qual params body scope dV kV doc pm an cdv ct) args binds) (hall : (binds.all fun y => scope.names.lookup y.1 == some .local || scope.names.lookup y.1 == some .cell) = true) (hone : ((cellsFrom 0 scope.names []).map (·.1)).Nodup)
  (h : ∀ g L' h₁ tk cells, (∀ b o, s.heap.get? b = some o → b ∉ lent.map (·.1) → g.get? b = some o) → Fr g L' h₁ (bindL (envOfC qual scope L' f cdv).kindOf binds fun _ => none) → News g L' h₁ (cells ++ lent) → CellsAre (bindC (envOfC qual scope L' f cdv).kindOf binds fun _ => none) (cellsFrom (L' + 1) scope.names []) cells →
   (cellsFrom (L' + 1) scope.names []).Pairwise (fun x y => x.2 ≠ y.2) → (∀ n c, (n, c) ∈ cellsFrom (L' + 1) scope.names [] → L' < c) → Below A base (env :: outer) g → K.In g → Top p loose mean mg mb g → (∀ q ∈ lent, q.1 < L') → s.heap.objs.size ≤ L' →
   wpAny (model prog w) (A.deeper (envOfC qual scope L' f cdv)) (execs body (envOfC qual scope L' f cdv)) (fun fl s' => LeaveK h₀ L m g R (match fl with | .ret v => v | _ => .none) s')
    (fun e s' => wpAny (model prog w) (A.deeper (envOfC qual scope L' f cdv)) (leaving (envOfC qual scope L' f cdv) e) (fun _ s'' => R (.error e) s'') (fun e' s'' => R (.error e') s'') s') { s with heap := h₁, toks := tk })
  (hco : scope.isCoroutine = false) (hgen : scope.isGenerator = false) (hk : scope.kind = .function) : codeAny (model prog w) A (.call (.ref f) args) R s := by
 obtain ⟨FG, BG, st, lv⟩ := groundX (R := R) B F N hA hf hke
 have X := X₀.keeps F.keep
 refine codeAny_call_function (fd := fnOf name qual params body scope dV kV doc pm an cdv ct) hroom (X _ _ ho) rfl hco hgen rfl (codeRec_of X hcd) (hbind _ _ _ _ ?_)
 refine wpAny_newFunctionEnv_cells hk (kindsX hall _) fun fresh hfr s' inC => ?_
 subst hfr
 have up := inC.toInCall.keep
 refine ⟨(T.nolimit.keeps F.keep).keeps up, codeAny_func ?_⟩
 obtain ⟨h₁, tk, hs', _⟩ := inC.done
 subst hs'
 have nod := cellsFrom_names scope.names 0 (s.heap.objs.size + 1) [] [] rfl ▸ hone
 obtain ⟨cells, NC, Y⟩ := Cl.news (h₀ := s.heap) (L := s.heap.objs.size) (Nat.le_refl _) fun n c hm => ⟨inC.cell n c (lookup_of_mem_nodup nod hm), inC.above n c hm⟩
 have old : ∀ q ∈ lent, q.1 < s.heap.objs.size := fun q hq => Heap.lt_size (N q hq).1
 refine wpAny_mono (h _ s.heap.objs.size h₁ tk cells (fun b o e nb => hideAll_get _ e nb) ⟨inC.toInCall.ns, fun b o e => up b o (of_hideAll _ e), Nat.le_of_eq (hideAll_size _ _)⟩ (fun q hq => ?_) Y inC.apart inC.above BG (X₀.keeps st) (T.keeps st) old (Nat.le_refl _)) (fun fl s' hl => lv _ _ hl) fun _ _ y => y
 rcases List.mem_append.mp hq with hq | hq
 ·obtain ⟨c1, c2, c3⟩ := NC q hq
  refine ⟨c1, c2, ?_⟩
  cases e : (hideAll s.heap (lent.map (·.1))).get? q.1 with
  | none => rfl
  | some o =>
   have z := of_hideAll _ e
   rw [c3] at z
   cases z
 ·exact ⟨up _ _ (N q hq).1, Nat.ne_of_lt (old q hq), hideAll_none _ (List.mem_map_of_mem hq)⟩
section
variable (prog : Program) (w : World) (K : Frag) (p : Program) (loose : List Str) (mean : ExcName → Option Value) (mg mb : Str → Option Value)
noncomputable def Clr (Γ : Cx) (dp un : Nat) : Prop := ∃ (gd : Option (List Code)) (cn : Str) (cs : Scope) (a : Addr) (ccd : Value) (cl : List (Str × Addr)) (outer : List Env) (A₀ : Around) (base : Heap),
 Γ.A = ktrTop dp un gd cn cs Γ.L a ccd cl outer ∧ Below A₀ base outer Γ.h₀ ∧ K.In Γ.h₀ ∧ Top p loose mean mg mb Γ.h₀ ∧ cs.kind = .function
noncomputable def Def (f : Addr) (room : Nat) (F : List V → Hp → Option (V × Hp)) : Prop := ∀ (Γ : Cx) (dp un : Nat), Clr K p loose mean mg mb Γ dp un → dp + room < recursionLimit → un + 10 * room + 300 < cLine →
 ∀ (W : Wd) (ρ : Lc) (H : Hp) (fr : List (Addr × Obj)) (s : Shared) (Q E : Value → Shared → Prop) (as : List V) (xs : List Value) (v : V) (H' : Hp),
  Rep Γ W ρ H fr s.heap → VRs W as xs → F as H = some (v, H') → ZgJ Γ W ρ H' fr s Q v → wpAny (model prog w) Γ.A (call (.ref f) xs) Q E s
end
noncomputable def Z6 (n : Nat) (g : Sm) : List V → Hp → Option (V × Hp) := fun as H => if as.length = n then (g (fun i => as[i]?) H).map fun r => ((r.1.getD .none), r.2.2) else none
theorem Zs1 {kindOf : Str → Option NameKind} : ∀ {ps : List Str} {xs : List Value} {m : Str → Option Value} {x : Str} {i : Nat} {y : Value}, ps.Nodup → ps[i]? = some x → xs[i]? = some y → kindOf x = some .local → bindL kindOf (ps.zip xs) m x = some y := by
 have skip : ∀ {ps : List Str} {xs : List Value} {m : Str → Option Value} {x : Str}, x ∉ ps → bindL kindOf (ps.zip xs) m x = m x := by
  intro ps
  induction ps with
  | nil => intro xs m x _; rfl
  | cons p ps ih =>
   intro xs m x hx
   cases xs with
   | nil => rfl
   | cons z xs =>
    simp only [List.zip_cons_cons, bindL]
    rw [ih (fun h => hx (Zz2 _ h))]
    have : x ≠ p := fun e => hx (e ▸ List.mem_cons_self)
    split <;> simp [this]
 intro ps
 induction ps with
 | nil => intro xs m x i y _ h; simp at h
 | cons p ps ih =>
  intro xs m x i y nd hp hx hk
  cases xs with
  | nil => simp at hx
  | cons z xs =>
   obtain ⟨n1, n2⟩ := List.nodup_cons.mp nd
   cases i with
   | zero =>
    simp at hp hx
    subst hp hx
    simp only [List.zip_cons_cons, bindL]
    rw [skip n1, if_pos hk]
    simp
   | succ i =>
    simp at hp hx
    simp only [List.zip_cons_cons, bindL]
    exact ih n2 hp hx hk
theorem Zs2 {kindOf : Str → Option NameKind} : ∀ {ps : List Str} {xs : List Value} {m : Str → Option Value} {x : Str} {i : Nat} {y : Value}, ps.Nodup → ps[i]? = some x → xs[i]? = some y → kindOf x = some .cell → bindC kindOf (ps.zip xs) m x = some y := by
 have skip : ∀ {ps : List Str} {xs : List Value} {m : Str → Option Value} {x : Str}, x ∉ ps → bindC kindOf (ps.zip xs) m x = m x := by
  intro ps
  induction ps with
  | nil => intro xs m x _; rfl
  | cons p ps ih =>
   intro xs m x hx
   cases xs with
   | nil => rfl
   | cons z xs =>
    simp only [List.zip_cons_cons, bindC]
    rw [ih (fun h => hx (Zz2 _ h))]
    have : x ≠ p := fun e => hx (e ▸ List.mem_cons_self)
    split <;> simp [this]
 intro ps
 induction ps with
 | nil => intro xs m x i y _ h; simp at h
 | cons p ps ih =>
  intro xs m x i y nd hp hx hk
  cases xs with
  | nil => simp at hx
  | cons z xs =>
   obtain ⟨n1, n2⟩ := List.nodup_cons.mp nd
   cases i with
   | zero =>
    simp at hp hx
    subst hp hx
    simp only [List.zip_cons_cons, bindC]
    rw [skip n1, if_neg (by rw [hk]; simp)]
    simp
   | succ i =>
    simp at hp hx
    simp only [List.zip_cons_cons, bindC]
    exact ih n2 hp hx hk
theorem Zgk {cm : Str → Option Value} : ∀ {cs : List (Str × Addr)} {cells : List (Addr × Obj)} {x : Str} {c : Addr}, CellsAre cm cs cells → (x, c) ∈ cs → ∃ o, (c, o) ∈ cells ∧ o.data = .cell (cm x)
 | _, _, _, _, .nil, h => nomatch h
 | _, _, _, _, .cons hd r, h => by
  rcases List.mem_cons.mp h with e | h
  ·cases e
   exact ⟨_, List.mem_cons_self, hd⟩
  ·obtain ⟨o, h1, h2⟩ := Zgk r h
   exact ⟨o, List.mem_cons_of_mem _ h1, h2⟩
theorem ZpF {cm : Str → Option Value} : ∀ {cs : List (Str × Addr)} {cells : List (Addr × Obj)} {q : Addr × Obj}, CellsAre cm cs cells → q ∈ cells → ∃ x, (x, q.1) ∈ cs
 | _, _, _, .nil, h => nomatch h
 | _, _, _, .cons hd r, h => by
  rcases List.mem_cons.mp h with e | h
  ·cases e
   exact ⟨_, List.mem_cons_self⟩
  ·obtain ⟨x, h1⟩ := ZpF r h
   exact ⟨x, List.mem_cons_of_mem _ h1⟩
theorem ZdA {α β : Type} [BEq α] [LawfulBEq α] : ∀ {l : List (α × β)} {x : α} {y : β}, l.lookup x = some y → (x, y) ∈ l
 | [], _, _, h => by simp at h
 | (a, b) :: r, x, y, h => by
  rw [List.lookup_cons] at h
  split at h
  ·rename_i e
   cases h
   have := eq_of_beq e
   subst this
   exact Zz5
  ·exact Zz2 _ (ZdA h)
end PM
end
section
set_option maxRecDepth 100000
set_option linter.all false
set_option autoImplicit false
namespace PM
open PySem PySem.W PySem.Calls PyProof.Rows PyProof PySem.Spec
section
variable {prog : Program} {w : World} {K : Frag} {p : Program} {loose : List Str} {mean : ExcName → Option Value} {mg mb : Str → Option Value}
theorem Zqd {name qual : Str} {params : Arguments} {body : List Stmt} {scope : Scope} {dV kV doc pm cdv ct oc : Value} {an od : Option Addr} {osl : Array (Option Value)} {f : Addr} {names : List Str} {n room : Nat} {g : Sm}
  (ho : K.lookup f = some ⟨oc, od, .func (fnOf name qual params body scope dV kV doc pm an cdv ct), osl⟩) (hcd : codeIn K cdv qual = true) (nd : names.Nodup) (hn : n ≤ names.length)
  (hbind : ∀ s xs, xs.length = n → BindsTo s (fnOf name qual params body scope dV kV doc pm an cdv ct) ⟨xs, []⟩ ((names.take n).zip xs)) (hkinds : ∀ x ∈ names.take n, scope.names.lookup x = some .local ∨ scope.names.lookup x = some .cell) (hone : ((cellsFrom 0 scope.names []).map (·.1)).Nodup)
  (hco : scope.isCoroutine = false) (hgen : scope.isGenerator = false) (hk : scope.kind = .function)
  (hbody : ∀ (dp un : Nat) (gd : Option (List Code)) (L : Addr) (outer : List Env) (h₀ : Heap) (hu : un + 200 < cLine), Clr K p loose mean mg mb (ZbP dp un gd qual scope L f cdv (cellsFrom (L + 1) scope.names []) outer h₀ hu names) dp un → dp + room < recursionLimit → un + 10 * room + 300 < cLine →
   Ss prog w (ZbP dp un gd qual scope L f cdv (cellsFrom (L + 1) scope.names []) outer h₀ hu names) body g) :
  Def prog w K p loose mean mg mb f (room + 1) (Z6 n g) := by
 intro Γ dp un clr hd hu W ρ H fr s Q E as xs v H' r hx hF post
 obtain ⟨gd, cn, cs, a, ccd, cl, outer, A₀, base, eA, B, X, T, hke⟩ := clr
 unfold Z6 at hF
 split at hF
 ·rename_i hlen
  obtain ⟨res, e1, e2⟩ := Zz1.mp hF
  obtain ⟨o, ρ', K'⟩ := res
  cases e2
  obtain ⟨m, c, led, r⟩ := r
  have hxl : xs.length = n := by rw [hx.length, hlen]
  have inn : ∀ q ∈ led, (q.1 ∈ W.pi ∨ q.1 ∈ W.tups.map (·.1)) ↔ q ∈ led.filter (fun q => decide (q.1 ∈ W.pi ∨ q.1 ∈ W.tups.map (·.1))) := fun q hq => ⟨fun h => List.mem_filter.mpr ⟨hq, by simpa using h⟩, fun h => by simpa using (List.mem_filter.mp h).2⟩
  have isub : ∀ q ∈ led.filter (fun q => decide (q.1 ∈ W.pi ∨ q.1 ∈ W.tups.map (·.1))), q ∈ led := fun q hq => (List.mem_filter.mp hq).1
  generalize hlent : led.filter (fun q => decide (q.1 ∈ W.pi ∨ q.1 ∈ W.tups.map (·.1))) = lent at inn isub
  have notin : ∀ q ∈ led, q.1 ∉ W.pi → (∀ t ∈ W.tups, q.1 ≠ t.1) → q.1 ∉ lent.map (·.1) := fun q hq h1 h2 h3 => by
   obtain ⟨t, ht, e⟩ := List.mem_map.mp h3
   rcases (inn t (isub t ht)).mpr ht with z | z
   ·exact h1 (e ▸ z)
   ·obtain ⟨u, hu, e'⟩ := List.mem_map.mp z
    exact h2 u hu (e ▸ e'.symm)
  rw [eA]
  refine wpAny_call ?_
  refine ZvF (env := envX cn cs Γ.L a ccd cl) (lent := lent) B r.F X (fun q hq => r.N q (isub q hq)) T rfl rfl hke ho hcd (by show dp < recursionLimit; omega) (hbind s xs hxl) ?_ hone ?_ hco hgen hk
  ·refine List.all_eq_true.mpr fun y hy => ?_
   rcases hkinds y.1 (List.of_mem_zip hy).1 with h | h <;> simp [h]
  intro g0 L' h₁ tk cells stay F' N' Y ap ab B' X' T' old szL
  have hu' : (un + 3) + 200 < cLine := by omega
  have clr' : Clr K p loose mean mg mb (ZbP (dp + 1) (un + 3) gd qual scope L' f cdv (cellsFrom (L' + 1) scope.names []) (envX cn cs Γ.L a ccd cl :: outer) g0 hu' names) (dp + 1) (un + 3) :=
   ⟨gd, qual, scope, f, cdv, cellsFrom (L' + 1) scope.names [], envX cn cs Γ.L a ccd cl :: outer, _, base, rfl, B', X', T', hk⟩
  have below : ∀ q ∈ cells, L' < q.1 := fun q hq => by
   obtain ⟨x, hx⟩ := ZpF Y hq
   exact ab x _ hx
  have piLt : ∀ b ∈ W.pi, b < L' := fun b hb => by
   obtain ⟨o, ho⟩ := r.piIn b hb
   exact Nat.lt_of_lt_of_le (Heap.lt_size (r.get ho)) szL
  have tuLt : ∀ t ∈ W.tups, t.1 < L' := fun t ht => Nat.lt_of_lt_of_le (Heap.lt_size (r.get (r.R.tups t ht))) szL
  have scN : W.sc.1 ∉ lent.map (·.1) := fun z => by
   obtain ⟨t, ht, e⟩ := List.mem_map.mp z
   exact r.notSc t (isub t ht) e
  have tkn : ∀ {i : Nat} {x : Str} {u : V}, names[i]? = some x → as[i]? = some u → (names.take n)[i]? = some x ∧ ∃ y, xs[i]? = some y ∧ VR W u y := fun {i x u} h1 h2 => by
   have hi : i < n := by rw [← hlen]; exact (Zz6.mp h2).1
   exact ⟨by rw [List.getElem?_take_of_lt hi]; exact h1, hx.at h2⟩
  have ndt : (names.take n).Nodup := nd.sublist (List.take_sublist _ _)
  have rep : Rep (ZbP (dp + 1) (un + 3) gd qual scope L' f cdv (cellsFrom (L' + 1) scope.names []) (envX cn cs Γ.L a ccd cl :: outer) g0 hu' names) W (fun i => as[i]?) H [] h₁ := by
   refine ⟨_, cells, cells ++ lent, ⟨F', N', ⟨r.R.len, r.R.nd, fun i vs e => ?_, fun q hq => ?_, r.R.kind⟩, stay _ _ (r.F.keep _ _ r.sc) scN, r.sc0, fun q hq => (nomatch hq), fun q hq => (nomatch hq), fun q hq => List.mem_append_left _ hq, fun q hq z => ?_, fun q _ t ht => (nomatch ht), fun q hq => (nomatch hq), fun q hq t ht => ?_, ⟨fun i x u hi hk1 hu1 => ?_, fun i x u hi hk1 hu1 => ?_, fun x c1 hc => ?_, fun x y c1 h1 h2 => ?_⟩⟩⟩
   ·obtain ⟨l, b, ys, k, h1, h2, h3⟩ := r.R.lists i vs e
    exact ⟨l, b, ys, k, h1, Zd7 h2 fun z => List.mem_append_right _ ((inn _ z).mp (.inl (List.mem_of_getElem? h1))), h3⟩
   ·exact Zd7 (r.R.tups q hq) fun z => List.mem_append_right _ ((inn _ z).mp (.inr (List.mem_map_of_mem hq)))
   ·exact absurd (Nat.lt_trans (piLt _ z) (below q hq)) (Nat.lt_irrefl _)
   ·exact Nat.ne_of_gt (Nat.lt_trans (tuLt t ht) (below q hq))
   ·obtain ⟨h1, y, h2, h3⟩ := tkn hi hu1
    exact ⟨y, Zs1 ndt h1 h2 hk1, h3⟩
   ·obtain ⟨h1, y, h2, h3⟩ := tkn hi hu1
    have hs := cellsFrom_some scope.names (L' + 1) [] (.inl hk1)
    obtain ⟨c1, hc1⟩ := Option.isSome_iff_exists.mp hs
    obtain ⟨o1, ho1, hd1⟩ := Zgk Y (ZdA hc1)
    refine ⟨c1, o1, y, hc1, ho1, ?_, h3⟩
    rw [hd1, Zs2 ndt h1 h2 hk1]
   ·obtain ⟨o1, ho1, hd1⟩ := Zgk Y (ZdA hc)
    exact ⟨o1, _, ho1, hd1⟩
   ·exact name_of_addr ap (ZdA h1) (ZdA h2)
  have hb := hbody (dp + 1) (un + 3) gd L' (envX cn cs Γ.L a ccd cl :: outer) g0 hu' clr' (by omega) (by omega)
  have back : ∀ (W' : Wd) (h' : Heap) (tk' : Nat) (x : Value), W.Le W' → Rep (ZbP (dp + 1) (un + 3) gd qual scope L' f cdv (cellsFrom (L' + 1) scope.names []) (envX cn cs Γ.L a ccd cl :: outer) g0 hu' names) W' ρ' K' [] h' → VR W' (o.getD .none) x →
    LeaveK Γ.h₀ Γ.L m g0 (fun r s' => match r with | .ok (.ret v) => Q v s' | .ok _ => False | .error e => E e s') x { s with heap := h', toks := tk' } := by
   intro W' h' tk' x l' r' x'
   obtain ⟨m', c', led', r'⟩ := r'
   refine ⟨L', m', led', r'.F, r'.N, fun FG NG => post W' h' tk' x l' ?_ x'⟩
   have g0at : ∀ q ∈ led, q.1 ∉ lent.map (·.1) → g0.get? q.1 = some q.2 := fun q hq hn => stay _ _ (r.N q hq).1 hn
   have frN : ∀ q ∈ fr, q.1 ∉ lent.map (·.1) := fun q hq => notin q (r.frIn q hq) (r.frOff q hq) (r.frTup q hq)
   have clN : ∀ q ∈ c, q.1 ∉ lent.map (·.1) := fun q hq => notin q (r.clIn q hq) (r.clOff q hq) (r.clTup q hq)
   have newN : ∀ t ∈ led', g0.get? t.1 = none := fun t ht => (r'.N t ht).2.2
   have far : ∀ q ∈ led, q.1 ∉ lent.map (·.1) → ∀ t ∈ W'.sc :: led', q.1 ≠ t.1 := fun q hq hn t ht e => by
    rcases List.mem_cons.mp ht with e2 | ht
    ·rw [e2, l'.sc] at e
     exact r.notSc q hq e
    ·have := g0at q hq hn
     rw [e, newN t ht] at this
     cases this
   have farPi : ∀ q ∈ led, q.1 ∉ lent.map (·.1) → q.1 ∉ W'.pi := fun q hq hn z => by
    obtain ⟨o2, h2⟩ := r'.piIn _ z
    exact far q hq hn _ h2 rfl
   have keep : ∀ q ∈ led, q.1 ∉ lent.map (·.1) → q ∈ led' ++ led.filter (fun q => decide (q.1 ∉ lent.map (·.1))) := fun q hq hn => List.mem_append_right _ (List.mem_filter.mpr ⟨hq, by simpa using hn⟩)
   refine ⟨m, c, led' ++ led.filter (fun q => decide (q.1 ∉ lent.map (·.1))), ⟨FG, fun q hq => ?_, r'.R.mono fun q hq => Zfx hq fun x hx => List.mem_append_left _ hx, l'.sc ▸ r.sc, r'.sc0, fun q hq => keep q (r.frIn q hq) (frN q hq), fun q hq => farPi q (r.frIn q hq) (frN q hq), fun q hq => keep q (r.clIn q hq) (clN q hq), fun q hq => farPi q (r.clIn q hq) (clN q hq), r.apart, fun q hq t ht => far q (r.frIn q hq) (frN q hq) t (r'.R.tups t ht), fun q hq t ht => far q (r.clIn q hq) (clN q hq) t (r'.R.tups t ht), Γ.mono l' r.own⟩⟩
   rcases List.mem_append.mp hq with hq | hq
   ·exact NG q hq
   ·obtain ⟨h1, h2⟩ := List.mem_filter.mp hq
    exact ⟨r'.F.keep _ _ (g0at q h1 (by simpa using h2)), (r.N q h1).2⟩
  refine hb W _ H [] _ _ _ (o, ρ', K') rep e1 ?_
  cases o with
  | none => exact fun W' h' tk' l' r' => back W' h' tk' .none l' r' .none
  | some v0 => exact fun W' h' tk' x l' r' x' => back W' h' tk' x l' r' x'
 ·cases hF
theorem Zuz {Γ : Cx} {dp un : Nat} {x : Str} {np pos : Pos} {f : Addr} {room : Nat} {e : Expr} {es : List Expr} {g : Exs} {o : List V → Hp → Option (V × Hp)} (clr : Clr K p loose mean mg mb Γ dp un) (hn : Nm prog w Γ x (.ref f)) (hkeep : keepIn K (.ref f) = true) (D : Def prog w K p loose mean mg mb f room o) (hd : dp + room < recursionLimit) (hu : un + 10 * room + 300 < cLine)
  (h : Js prog w Γ (e :: es) g) (he : starEach (e :: es) Γ.env = (false, eval e Γ.env) :: starEach es Γ.env := by rfl) (hp : ∀ pos, (backTo pos (starEach es Γ.env)).any (·.1) = false := by intro _; rfl) : J prog w Γ (.Call (.Name x np) (e :: es) [] pos) (Zt o g) := by
 intro W ρ H fr s Q E v H' r hf post
 obtain ⟨q, e1, hf⟩ := Zz0.mp hf
 have X : K.In Γ.h₀ := by
  obtain ⟨_, _, _, _, _, _, _, _, _, _, _, X, _⟩ := clr
  exact X
 refine wpAny_Call_ofName (hn.use r ?_)
 refine callWith_K (first := []) X hkeep (h pos W ρ H fr s _ E _ _ r e1 fun W1 k1 t1 xs l1 r1 x1 => ⟨?_, ?_⟩) he (hp pos)
 ·obtain ⟨m, c, led, r1⟩ := r1
  exact X.keeps r1.F.keep
 ·exact D Γ dp un clr hd hu W1 ρ _ fr _ Q E _ xs v H' r1 x1 hf fun W2 k2 t2 y l2 r2 y2 => post W2 k2 t2 y (l1.trans l2) r2 y2
theorem Zcg {Γ : Cx} {dp un : Nat} {scope : Scope} {cl : List (Str × Addr)} {C : Addr} {ts : List (Str × Nat)} {ρ0 : Lc} (h : Clr K p loose mean mg mb Γ dp un) : Clr K p loose mean mg mb (Zbk Γ scope cl C ts ρ0) dp un := h
end
end PM
end
section
set_option maxRecDepth 100000
set_option linter.all false
set_option autoImplicit false
namespace PM
open PySem PySem.W PySem.Calls PyProof.Rows PyProof PySem.Spec
theorem Zjo {lo : Nat} : ∀ (names : List (Str × NameKind)) (n : Nat) (acc : List (Str × Addr)), acc.Pairwise (fun x y => x.2 ≠ y.2) → (∀ q ∈ acc, lo < q.2 ∧ q.2 < n) → lo < n → (cellsFrom n names acc).Pairwise (fun x y => x.2 ≠ y.2) ∧ ∀ q ∈ cellsFrom n names acc, lo < q.2
 | [], n, acc, h1, h2, _ => ⟨h1, fun q hq => (h2 q hq).1⟩
 | (y, k) :: r, n, acc, h1, h2, h3 => by
  unfold cellsFrom
  by_cases hk : (k == .cell) = true
  ·rw [if_pos hk]
   refine Zjo r (n + 1) ((y, n) :: acc) (List.pairwise_cons.mpr ⟨fun q hq => Nat.ne_of_gt (h2 q hq).2, h1⟩) (fun q hq => ?_) (Nat.lt_succ_of_lt h3)
   rcases List.mem_cons.mp hq with e | hq
   ·rw [e]
    exact ⟨h3, Nat.lt_succ_self n⟩
   ·exact ⟨(h2 q hq).1, Nat.lt_succ_of_lt (h2 q hq).2⟩
  ·rw [if_neg hk]
   exact Zjo r n acc h1 h2 h3
theorem Zs3 {P : Params} {h : Heap} {a : Addr} {ns : List Int} (w1 : Well P h (.ref a) (ofPy (.list (ns.map PyData.int)))) (W : Wd) : ∃ vs, h.get? a = some (Zb0 vs 0) ∧ VRs W (ns.map V.int) vs := by
 have key : ∀ {ns : List Int} {vs : List Value} {xs : List WData}, xs = (ns.map PyData.int).map ofPy → WellAll P h vs xs → VRs W (ns.map V.int) vs := by
  intro ns
  induction ns with
  | nil => intro vs xs e h; subst e; cases h; exact .nil
  | cons n ns ih =>
   intro vs xs e h
   subst e
   cases h with
   | cons h1 h2 =>
    cases h1 with
    | int i t => exact .cons (.int _ _) (ih rfl h2)
 have e : ofPy (.list (ns.map PyData.int)) = .list ((ns.map PyData.int).map ofPy) := by rw [ofPy, ofPys_eq]
 rw [e] at w1
 cases w1 with
 | list hg ha => exact ⟨_, hg, key rfl ha⟩
section
variable {prog : Program} {w : World} {K : Frag} {p : Program} {loose : List Str} {mean : ExcName → Option Value} {mg mb : Str → Option Value}
theorem ZuA {P : Params} {h₀ : Heap} {s : Shared} {sa fa : Addr} {cd : Value} {ns : List Int} {qual pname : Str} {scope : Scope} {body : List Stmt} {names : List Str} {g : Sm} {cells : List (Addr × Obj)} {Q : Flow → Shared → Prop} {E : Value → Shared → Prop} {room : Nat} {H' : Hp}
  (hbody : ∀ (dp un : Nat) (gd : Option (List Code)) (L a : Addr) (ccd : Value) (outer : List Env) (h₀ : Heap) (hu : un + 200 < cLine), Clr K p loose mean mg mb (ZbP dp un gd qual scope L a ccd (cellsFrom (L + 1) scope.names []) outer h₀ hu names) dp un → dp + room < recursionLimit → un + 10 * room + 300 < cLine →
   Ss prog w (ZbP dp un gd qual scope L a ccd (cellsFrom (L + 1) scope.names []) outer h₀ hu names) body g)
  (hd : callerA.depth + 1 + room < recursionLimit) (hun : callerA.units + 3 + 10 * room + 300 < cLine) (hk : scope.kind = .function) (h0 : names[0]? = some pname)
  (KX : K.In h₀) (T : Top p loose mean mg mb h₀) (w1 : Well P h₀ (.ref sa) (ofPy (.list (ns.map PyData.int)))) (hlen : ns.length ≤ LEN)
  (F : Fr h₀ h₀.objs.size s.heap (bindL (envOfC qual scope h₀.objs.size fa cd).kindOf [(pname, .ref sa)] fun _ => none)) (N : News h₀ h₀.objs.size s.heap cells) (X0 : CellsAre (bindC (envOfC qual scope h₀.objs.size fa cd).kindOf [(pname, .ref sa)] fun _ => none) (cellsFrom (h₀.objs.size + 1) scope.names []) cells)
  (hg : Z6 1 g [.ref 0] [ns.map V.int] = some (.bool true, H')) (post : ∀ h' tk' m', Fr h₀ h₀.objs.size h' m' → Q (.ret (.bool true)) { s with heap := h', toks := tk' }) :
  wpAny (model prog w) (callerA.deeper (envOfC qual scope h₀.objs.size fa cd)) (execs body (envOfC qual scope h₀.objs.size fa cd)) Q E s := by
 have hu' : (callerA.units + 3) + 200 < cLine := by omega
 have clr : Clr K p loose mean mg mb (ZbP (callerA.depth + 1) (callerA.units + 3) callerA.guards qual scope h₀.objs.size fa cd (cellsFrom (h₀.objs.size + 1) scope.names []) [] h₀ hu' names) (callerA.depth + 1) (callerA.units + 3) :=
  ⟨callerA.guards, qual, scope, fa, cd, cellsFrom (h₀.objs.size + 1) scope.names [], [], _, _, rfl, below_caller h₀, KX, T, hk⟩
 have hb := hbody (callerA.depth + 1) (callerA.units + 3) callerA.guards h₀.objs.size fa cd [] h₀ hu' clr hd hun
 obtain ⟨vs, hsc, hv⟩ := Zs3 w1 ⟨[sa], [], (sa, Zb0 [] 0)⟩
 have hv' : VRs ⟨[sa], [], (sa, Zb0 vs 0)⟩ (ns.map V.int) vs := by
  clear hg post w1 hlen hsc
  generalize ns.map V.int = us at hv
  have key : ∀ {us : List V} {xs : List Value}, VRs ⟨[sa], [], (sa, Zb0 [] 0)⟩ us xs → VRs ⟨[sa], [], (sa, Zb0 vs 0)⟩ us xs := by
   intro us
   induction us with
   | nil => intro xs h; cases h; exact .nil
   | cons u us ih =>
    intro xs h
    cases h with
    | cons a b =>
     refine .cons ?_ (ih b)
     cases a with
     | none => exact .none
     | bool b => exact .bool b
     | int i t => exact .int i t
     | str s t => exact .str s t
     | tup hm _ _ => exact nomatch hm
     | ref e => exact .ref e
  exact key hv
 have far := Zjo (lo := h₀.objs.size) scope.names (h₀.objs.size + 1) [] .nil (fun q hq => nomatch hq) (Nat.lt_succ_self _)
 unfold Z6 at hg
 rw [if_pos (show ([V.ref 0] : List V).length = 1 from rfl)] at hg
 obtain ⟨res, e1, e2⟩ := Zz1.mp hg
 obtain ⟨o, ρ', K'⟩ := res
 have eo : o = some (.bool true) := by
  cases o with
  | none => simp at e2
  | some v => simp at e2; rw [e2.1]
 subst eo
 have pick : ∀ {i : Nat} {x : Str} {u : V}, names[i]? = some x → ([V.ref 0] : List V)[i]? = some u → x = pname ∧ u = .ref 0 := fun {i x u} h1 h2 => by
  have hi : i < 1 := (Zz6.mp h2).1
  have : i = 0 := by omega
  subst this
  rw [h0] at h1
  simp at h1 h2
  exact ⟨h1.symm, h2.symm⟩
 have rep : Rep (ZbP (callerA.depth + 1) (callerA.units + 3) callerA.guards qual scope h₀.objs.size fa cd (cellsFrom (h₀.objs.size + 1) scope.names []) [] h₀ hu' names) ⟨[sa], [], (sa, Zb0 vs 0)⟩ (fun i => [V.ref 0][i]?) [ns.map V.int] [] s.heap := by
  refine ⟨_, cells, cells, ⟨F, N, ⟨rfl, by simp, fun i us e => ?_, fun q hq => (nomatch hq), fun q hq => (nomatch hq)⟩, hsc, rfl, fun q hq => (nomatch hq), fun q hq => (nomatch hq), fun q hq => hq, fun q hq z => ?_, fun q _ t ht => (nomatch ht), fun q hq => (nomatch hq), fun q hq t ht => (nomatch ht), ⟨fun i x u hi hk1 hu1 => ?_, fun i x u hi hk1 hu1 => ?_, fun x c1 hc => ?_, fun x y c1 h1 h2 => ?_⟩⟩⟩
  ·have hi : i < 1 := (Zz6.mp e).1
   have : i = 0 := by omega
   subst this
   simp at e
   subst e
   exact ⟨by simpa using hlen, sa, vs, 0, rfl, List.mem_cons_self, hv'⟩
  ·have := (N q hq).2.2
   rw [List.mem_singleton.mp z, hsc] at this
   cases this
  ·obtain ⟨e3, e4⟩ := pick hi hu1
   subst e3 e4
   refine ⟨.ref sa, ?_, .ref rfl⟩
   show bindL _ _ _ _ = _
   unfold bindL bindL
   rw [if_pos (show (envOfC qual scope h₀.objs.size fa cd).kindOf x = some .local from hk1)]
   simp
  ·obtain ⟨e3, e4⟩ := pick hi hu1
   subst e3 e4
   have hs := cellsFrom_some scope.names (h₀.objs.size + 1) [] (.inl hk1)
   obtain ⟨c1, hc1⟩ := Option.isSome_iff_exists.mp hs
   obtain ⟨o1, ho1, hd1⟩ := Zgk X0 (ZdA hc1)
   refine ⟨c1, o1, .ref sa, hc1, ho1, ?_, .ref rfl⟩
   rw [hd1]
   unfold bindC bindC
   rw [if_neg (show ¬ (envOfC qual scope h₀.objs.size fa cd).kindOf x = some .local by show ¬ scope.names.lookup x = some .local; rw [hk1]; simp)]
   simp
  ·obtain ⟨o1, ho1, hd1⟩ := Zgk X0 (ZdA hc)
   exact ⟨o1, _, ho1, hd1⟩
  ·exact name_of_addr far.1 (ZdA h1) (ZdA h2)
 refine hb _ _ _ [] s Q E _ rep e1 ?_
 intro W' h' tk' x l' r' x'
 cases x' with
 | bool _ =>
  obtain ⟨m', c', led', r'⟩ := r'
  exact post h' tk' m' r'.F
end
end PM
end
section
set_option maxRecDepth 100000
set_option linter.all false
set_option autoImplicit false
namespace PM
open PySem PySem.W PySem.Calls PyProof.Rows PyProof PyProof.Rows.LCg PyProof.Rows.LSm
theorem Rep.listAt {Γ : Cx} {W : Wd} {ρ : Lc} {H : Hp} {fr : List (Addr × Obj)} {h h' : Heap} {vs : List V} {xs : List Value} {k : Nat} (r : Rep Γ W ρ H fr h) (up : ∀ b o, h.get? b = some o → h'.get? b = some o) (hg : h'.get? h.objs.size = some (Zb0 xs k)) (hv : VRs W vs xs) (hl : vs.length ≤ LEN) :
  ∃ W', W.Le W' ∧ Rep Γ W' ρ (H ++ [vs]) fr h' ∧ VR W' (.ref H.length) (.ref h.objs.size) := by
 obtain ⟨r2, ap⟩ := r.more (fs := [(h.objs.size, Zb0 xs k)]) up (fun q hq => by rw [List.mem_singleton.mp hq]; exact ⟨hg, Nat.le_refl _⟩)
 exact Zf9 r2 (fun t ht => ap _ Zz5 t ht) hv hl
noncomputable def Zco : List V → Hp → Option (V × Hp)
 | [.ref a], H => H[a]?.map fun vs => (.ref H.length, H ++ [vs])
 | [.tup vs], H => some (.ref H.length, H ++ [vs])
 | _, _ => none
noncomputable def Zfk : List V → Hp → Option (V × Hp)
 | [.ref a], H => H[a]?.map fun vs => (.tup vs, H)
 | [.tup vs], H => some (.tup vs, H)
 | _, _ => none
noncomputable def Zfl : List V → Option (List Bool)
 | [] => some []
 | .bool b :: vs => (Zfl vs).map fun bs => b :: bs
 | _ :: _ => none
noncomputable def Zw0 : List V → Hp → Option (V × Hp)
 | [.ref a], H => H[a]?.bind fun vs => (Zfl vs).map fun bs => (.bool (bs.all id), H)
 | _, _ => none
noncomputable def ZgM : List V → Hp → Option (V × Hp)
 | [.ref a], H => H[a]?.bind fun vs => (Zfl vs).map fun bs => (.bool (bs.any id), H)
 | _, _ => none
theorem Zr4 {W : Wd} : ∀ {vs : List V} {xs : List Value} {bs : List Bool}, VRs W vs xs → Zfl vs = some bs → BoolsAre xs bs := by
 intro vs
 induction vs with
 | nil => intro xs bs h e; cases h; cases e; exact .nil
 | cons v vs ih =>
  intro xs bs h e
  cases h with
  | cons a b =>
   cases v with
   | bool c =>
    obtain ⟨cs, e1, e2⟩ := Zz1.mp e
    subst e2
    cases a
    exact .cons _ (ih b e1)
   | none => cases e
   | int _ => cases e
   | str _ => cases e
   | tup _ => cases e
   | ref _ => cases e
section
variable {prog : Program} {w : World}
theorem Zc8 : OpN prog w (fun xs => call (.type "list") xs) Zco := by
 intro Γ W ρ H fr s Q E as xs v H' r hx ho post
 unfold Zco at ho
 split at ho
 ·obtain ⟨vs, e1, e2⟩ := Zz1.mp ho
  cases e2
  obtain ⟨x, ex, rx⟩ := hx.one
  subst ex
  cases rx with
  | @ref _ a ea =>
   obtain ⟨hl, ys, k, hg, hv⟩ := r.at e1 ea
   refine call_list_seq (hsz := Zc7 (by rw [List.size_toArray, hv.length]; exact hl)) a (.inl rfl) hg rfl rfl fun h' c' up hg' => ?_
   obtain ⟨W2, l2, r2, v2⟩ := r.listAt up hg' hv hl
   exact post W2 h' s.toks _ l2 r2 v2
 ·cases ho
  obtain ⟨x, ex, rx⟩ := hx.one
  subst ex
  cases rx with
  | @tup _ a ys k hm hl hv =>
   refine call_list_seq (hsz := Zc7 (by rw [List.size_toArray, hv.length]; exact hl)) a (.inr rfl) (r.tupAt hm) rfl rfl fun h' c' up hg' => ?_
   obtain ⟨W2, l2, r2, v2⟩ := r.listAt up hg' hv hl
   exact post W2 h' s.toks _ l2 r2 v2
 ·cases ho
theorem Zs4 : OpN prog w (fun xs => call (.type "tuple") xs) Zfk := by
 intro Γ W ρ H fr s Q E as xs v H' r hx ho post
 unfold Zfk at ho
 split at ho
 ·obtain ⟨vs, e1, e2⟩ := Zz1.mp ho
  cases e2
  obtain ⟨x, ex, rx⟩ := hx.one
  subst ex
  cases rx with
  | @ref _ a ea =>
   obtain ⟨hl, ys, k, hg, hv⟩ := r.at e1 ea
   have isl : s.heap.IsList a ys.toArray := ⟨_, hg, rfl, k, rfl⟩
   refine call_tuple_list isl (fun h' up => ?_) (Zc7 (by rw [List.size_toArray, hv.length]; exact hl))
   obtain ⟨W2, l2, r2, v2⟩ := (r.grown up).tuple (k := 0) hv hl
   exact post W2 _ s.toks _ l2 r2 v2
 ·cases ho
  obtain ⟨x, ex, rx⟩ := hx.one
  subst ex
  cases rx with
  | @tup _ a ys k hm hl hv =>
   have it : IsTup s.heap a ys.toArray := ⟨_, r.tupAt hm, rfl, k, rfl⟩
   exact call_tuple_tup it (post W s.heap s.toks _ (.refl W) r (.tup hm hl hv))
 ·cases ho
theorem ZvG : OpN prog w (fun xs => call (.builtin "any") xs) ZgM := by
 intro Γ W ρ H fr s Q E as xs v H' r hx ho post
 unfold ZgM at ho
 split at ho
 ·obtain ⟨vs, e1, e2⟩ := Zz0.mp ho
  obtain ⟨bs, e3, e4⟩ := Zz1.mp e2
  cases e4
  obtain ⟨x, ex, rx⟩ := hx.one
  subst ex
  cases rx with
  | @ref _ a ea =>
   obtain ⟨hl, ys, k, hg, hv⟩ := r.at e1 ea
   have isl : s.heap.IsList a ys.toArray := ⟨_, hg, rfl, k, rfl⟩
   obtain ⟨m, c, led, r'⟩ := r
   exact any_bools r'.F r'.N Γ.hh isl (Zr4 hv e3) fun h' tk F' N' => post W h' tk _ (.refl W) (r'.same F' N') (.bool _)
 ·cases ho
end
section
variable {prog : Program} {w : World} {K : Frag} {p : Program} {loose : List Str} {mean : ExcName → Option Value} {mg mb : Str → Option Value} {Γ : Cx} {dp un : Nat}
theorem ZvH {x : Str} {v : Value} (clr : Clr K p loose mean mg mb Γ dp un) (e : nsIn K mainGlobals x = some (some v)) (hg : Γ.env.globals = mainGlobals) (hk : Γ.env.scope.kind = .function) (hx : Γ.env.kindOf x = some .globalImplicit) (hd : (x == ("__debug__" : Str)) = false) : Nm prog w Γ x v := by
 obtain ⟨_, _, _, _, _, _, _, _, _, _, _, X, T, _⟩ := clr
 intro pos m s Q E F q
 exact Name_function_global hk hx (loadGlobal_global (env := Γ.env) (by rw [hg]; exact T.g.keeps F.keep) (mg_of X T.g e) q) hd
theorem ZtN {x : Str} {v : Value} (clr : Clr K p loose mean mg mb Γ dp un) (e : nsIn K mainGlobals x = some none) (hv : bootBuiltins x = some v) (hn : x ≠ "__name__") (hg : Γ.env.globals = mainGlobals) (hb : Γ.env.builtins = builtinsNs) (hk : Γ.env.scope.kind = .function) (hx : Γ.env.kindOf x = some .globalImplicit) (hd : (x == ("__debug__" : Str)) = false) : Nm prog w Γ x v := by
 obtain ⟨_, _, _, _, _, _, _, _, _, _, _, X, T, _⟩ := clr
 intro pos m s Q E F q
 exact Name_function_global hk hx (loadGlobal_builtin (env := Γ.env) (by rw [hg]; exact T.g.keeps F.keep) (mg_none_of X T.g e) (by rw [hb]; exact T.b.keeps F.keep) ((T.builtins x hn).trans hv) q) hd
end
section
variable {prog : Program} {w : World} {Γ : Cx} {scope : Scope} {cl : List (Str × Addr)} {C : Addr} {ts : List (Str × Nat)} {ρ0 : Lc}
theorem ZuB {x : Str} {t : Nat} (hm : (x, t) ∈ ts) (hk : scope.kind = .function) (hl : (compEnvC scope cl C Γ.env).kindOf x = some .local) (hd : (x == ("__debug__" : Str)) = false) : Rd prog w (Zbk Γ scope cl C ts ρ0) x t := by
 intro W ρ H fr s Q E v pos r e q
 obtain ⟨m, c, led, r⟩ := r
 obtain ⟨oC, m₂, cs, ec, h0, h1, h2, h3, h4⟩ := r.own
 obtain ⟨v', y, e1, e2, e3⟩ := h2 _ hm
 rw [e] at e1
 cases e1
 exact LCgL.ld_own r.N (r.clIn _ (by rw [ec]; exact Zz5)) h1 e2 (q y e3) hk hl hd
end
section
variable {prog : Program} {w : World} {dp un : Nat} {gd : Option (List Code)} {cn : Str} {cs : Scope} {L a : Addr} {ccd : Value} {clf : List (Str × Addr)} {outer : List Env} {h₀ : Heap} {hu : un + 200 < cLine} {names : List Str} {scope : Scope} {cl : List (Str × Addr)} {C : Addr} {ts : List (Str × Nat)} {ρ0 : Lc}
theorem ZuC {x : Str} {i : Nat} (hi : names[i]? = some x) (hx : cs.names.lookup x = some .cell) (hne : ∀ p ∈ ts, p.2 ≠ i) (hcl : cl.lookup x = clf.lookup x) (hk : scope.kind = .function) (hl : (compEnvC scope cl C (envX cn cs L a ccd clf)).kindOf x = some .cell) (hd : (x == ("__debug__" : Str)) = false) :
  Rd prog w (Zbk (ZbP dp un gd cn cs L a ccd clf outer h₀ hu names) scope cl C ts ρ0) x i := by
 intro W ρ H fr s Q E v pos r e q
 obtain ⟨m, c, led, r⟩ := r
 obtain ⟨oC, m₂, cs', ec, h0, h1, h2, h3, h4⟩ := r.own
 rw [h3 i hne] at e
 obtain ⟨d, o, y, g1, g2, g3, g4⟩ := h4.cel i x v hi hx e
 exact kcf_cell r.N (hcl.trans g1) (r.clIn _ (by rw [ec]; exact Zz2 _ g2)) g3 (q y g4) hk hl hd
end
end PM
end
section
set_option maxRecDepth 100000
namespace My
open PySem PySem.W PySem.Calls PyProof.Rows PySem.Spec
structure Cell (v : Int) : Prop where
 bits : Builtin.Int.intBits v ≤ 2 ^ 20
theorem bits_zero : Builtin.Int.intBits 0 ≤ 2 ^ 20 := by unfold Builtin.Int.intBits; simp
theorem cell_at {ns : List Int} (h : PyData.layable0 (.list (ns.map .int)) = true) (i : Int) : Cell (cellAt ns i 0) := by
 refine ⟨?_⟩
 rw [cellAt_def, List.getD_eq_getElem?_getD]
 cases e : ns[i.toNat]? with
 | none => exact bits_zero
 | some v => exact PyData.bits_item_of_ints h (List.mem_of_getElem? e)
section
variable {prog : Program} {w : World} {A : Around} {E : Value → Shared → Prop} {s : Shared} {x y : Int} {t u : Tok} {Q : Value → Shared → Prop}
@[irreducible] noncomputable def T9 : Int := 10 ^ 9
theorem T9_eq : T9 = 1000000000 := by unfold T9; decide +kernel
end
end My
end
section
set_option maxRecDepth 100000
set_option linter.all false
set_option autoImplicit false
/-! Reckoning with the plain machine. -/
namespace PM
open PySem PySem.W PyProof.Rows
section
variable (ρ : Lc) (H : Hp)
@[simp] theorem ZtO : ZgD ρ H = some (none, H) := rfl
@[simp] theorem ZtP (f : Ex) : Znj f ρ H = (f ρ H).map fun p => (some p.1, p.2) := rfl
end
section
variable (a b : Int) (H : Hp)
end
theorem ZqH {b : Int} (hb : 0 ≤ b) : Builtin.Range.rangeSize 0 b 1 = b := by
 unfold Builtin.Range.rangeSize
 rw [if_pos (by decide)]
 by_cases h : (0 : Int) < b
 ·rw [if_pos h]
  omega
 ·rw [if_neg h]
  omega
theorem ZvI {b : Int} {H : Hp} (hb : 0 ≤ b) (hb9 : b ≤ 1000) : Zcy 0 b 1 H = some (Zfj 0 1 b.toNat, b.toNat + 1, H) := by
 unfold Zcy rngN
 rw [ZqH hb, if_pos]
 refine ⟨by decide, ?_, hb, by rw [Za7]; omega, ?_⟩
 ·unfold Builtin.Range.small
  rw [ZqH hb]
  simp only [Builtin.Range.rangeFitsLong, Bool.and_eq_true, Bool.or_eq_true, decide_eq_true_eq, beq_iff_eq]
  rw [if_pos (by decide)]
  simp only [Bool.and_eq_true, decide_eq_true_eq]
  by_cases h : (0 : Int) < b
  ·refine ⟨⟨⟨⟨?_, ?_⟩, ?_⟩, ?_⟩, Or.inr ?_⟩ <;> omega
  ·refine ⟨⟨⟨⟨?_, ?_⟩, ?_⟩, ?_⟩, ?_⟩ <;> first | omega | (left; omega)
 ·exact PyProof.noPylong_small (by omega)
end PM
end
section
set_option maxRecDepth 100000
set_option linter.all false
set_option autoImplicit false
namespace PM
open PySem PySem.W PyProof.Rows My
theorem Zo3 {a b : Int} (h : IntMulOk a b) : mulOk a b = true := by
 unfold IntMulOk at h
 unfold mulOk
 cases e : (decide (Builtin.Int.intBits a > shortFactorBits) && decide (Builtin.Int.intBits b > shortFactorBits) && Builtin.Int.intTooBig (Builtin.Int.intBits a + Builtin.Int.intBits b)) with
 | true => exact absurd e h
 | false => rfl
theorem Znk {a b : Int} {H : Hp} (h : 0 ≤ b ∧ (Builtin.Int.intBits a : Int) * b ≤ 2 ^ 27) : oPow (.int a) (.int b) H = some (.int (a ^ b.toNat), H) := by simp only [oPow]; rw [if_pos h]
theorem Zwr (H : Hp) : oPow (.int 10) (.int 9) H = some (.int T9, H) := by rw [Znk (by decide +kernel)]; unfold T9; rfl
end PM
end
section
set_option maxRecDepth 100000
set_option linter.all false
set_option autoImplicit false
namespace PM
open PySem PySem.W PyProof.Rows My
section
variable {ρ ρ1 ρ2 : Lc} {H H1 H2 H3 : Hp}
theorem ZvJ {k : Int} : Zl k ρ H = some (.int k, H) := rfl
theorem ZuD {f g : Ex} {a : Nat} {k : Int} {n : Nat} {vs : List V} (h1 : f ρ H = some (.ref a, H1)) (h2 : g ρ H1 = some (.int k, H2)) (e : H2[a]? = some vs) (hk : k = (n : Int)) : Zm0 f (Znj g) ZgD ρ H = some (.ref H2.length, H2 ++ [vs.drop n]) := by
 simp only [Zm0, h1, Option.bind_some, ZtP, h2, Option.map_some, ZtO, ZgC, e]
 rw [ZsX vs hk]
end
end PM
end
section
set_option maxRecDepth 100000
set_option linter.all false
set_option autoImplicit false
namespace PM
open PySem PySem.W PyProof.Rows PyProof
noncomputable def Zdj (f : Ex) (k : Nat) : Ex := fun ρ H => (f ρ H).bind fun p => match p.1 with
 | .ref i => p.2[i]?.bind fun vs => some (.ref p.2.length, p.2 ++ [vs.drop k])
 | .tup vs => if 1 ≤ k ∧ k ≤ vs.length then some (.tup (vs.drop k), p.2) else none
 | _ => none
section
variable {prog : Program} {w : World} {Γ : Cx}
theorem Zfo {e lo : Expr} {p pos : Pos} {f : Ex} {k : Nat} (h : J prog w Γ e f) (hlo : J prog w Γ lo (Zl k)) (ht : ∀ o r, letTemporaryGo e o r = pure () := by intro _ _; rfl) : J prog w Γ (.Subscript e (.Slice (Option.some lo) Option.none Option.none p) pos) (Zdj f k) := by
 intro W ρ H fr s Q E v H' r hf post
 obtain ⟨⟨v1, H1⟩, e1, hf⟩ := Zz0.mp hf
 cases v1 with
 | none => cases hf
 | bool _ => cases hf
 | int _ => cases hf
 | str _ => cases hf
 | ref i =>
  obtain ⟨vs, e2, e3⟩ := Zz0.mp hf
  refine Zut h (JP.some hlo) JP.none ht W ρ H fr s Q E v H' r ?_ post
  rw [ZuD (n := k) e1 ZvJ e2 rfl]
  exact e3
 | tup vs =>
  simp only at hf
  by_cases c : 1 ≤ k ∧ k ≤ vs.length
  ·rw [if_pos c] at hf
   cases hf
   refine wpAny_Subscript_Slice (T := "tuple") slot_tuple_getitem.lookup (h W ρ H fr s _ E _ _ r e1 fun W1 k1 t1 x l1 r1 x1 => ?_) ht
   refine wpAny_Slice ?_
   refine wpAny_evalPart_some (hlo W1 ρ _ fr _ _ E _ _ r1 rfl fun W2 k2 t2 y l2 r2 y2 => ?_)
   refine wpAny_evalPart_none ?_
   refine wpAny_evalPart_none ?_
   cases y2 with
   | int _ u =>
    have x2 := x1.mono l2
    cases x2 with
    | @tup _ a ys kk hm hl hs =>
     have it : IsTup k2 a ys.toArray := ⟨_, r2.tupAt hm, rfl, kk, rfl⟩
     have it' : IsTup (k2.push { cls := .type "slice", data := .fields #[.int k u, .none, .none] }) a ys.toArray := it.keeps fun _ _ e => Heap.get?_push_of_some _ e
     have hlen := hs.length
     rw [Za7] at hl
     refine ⟨it'.typeIs, getItem_tuple_from it' (Heap.IsSliceOf.new ..) c.1 (by simp [hlen]; exact c.2) ?_ (Zc7 (by simp [hlen]; rw [Za7]; exact hl))⟩
     obtain ⟨W4, l4, r4, v4⟩ := (r2.push { cls := .type "slice", data := .fields #[.int k u, .none, .none] }).tuple (k := 0) (hs.drop k) (by rw [Za7]; simp; omega)
     have := post W4 _ t2 _ ((l1.trans l2).trans l4) r4 v4
     simpa using this
  ·rw [if_neg c] at hf
   cases hf
end
section
variable {ρ : Lc} {H : Hp} {Q : V → Hp → Prop}
theorem ZqI {a b c : Int} (hc : 0 < c) (hb : a < b) : Builtin.Range.rangeSize a b c = (b - a - 1) / c + 1 := by
 unfold Builtin.Range.rangeSize
 rw [if_pos hc, if_pos hb]
theorem ZvK {a b c : Int} {H : Hp} (ha : 0 ≤ a) (hb : a < b) (hb9 : b ≤ 1000) (hc : 0 < c) (hc9 : c ≤ 1000) : Zcy a b c H = some (Zfj a c (rngN a b c), rngN a b c + 1, H) := by
 have e := ZqI hc hb
 have h0 : 0 ≤ (b - a - 1) / c := Int.ediv_nonneg (by omega) (by omega)
 have h2 : (b - a - 1) / c ≤ b - a - 1 := Int.ediv_le_self _ (by omega)
 unfold Zcy
 rw [if_pos]
 refine ⟨by omega, ?_, by omega, by unfold rngN; rw [Za7]; omega, PyProof.noPylong_small (by omega)⟩
 unfold Builtin.Range.small
 rw [e]
 simp only [Builtin.Range.rangeFitsLong, Bool.and_eq_true, Bool.or_eq_true, decide_eq_true_eq, beq_iff_eq]
 rw [if_pos hc]
 simp only [Bool.and_eq_true, decide_eq_true_eq]
 refine ⟨⟨⟨⟨?_, ?_⟩, ?_⟩, ?_⟩, ?_⟩ <;> first | omega | (left; omega) | (right; omega)
end
end PM
end
section
set_option maxRecDepth 100000
set_option linter.all false
set_option autoImplicit false
namespace PM
open PySem PySem.W PyProof.Rows PyProof My
section
variable {ρ : Lc} {H : Hp} {Q : V → Hp → Prop} {L : List V → Hp → Prop}
end
noncomputable def od : Option Int → PyData
 | none => .none
 | some k => .int k
theorem Zn3 {a : Int} {k : Nat} (h : Builtin.Int.intBits a ≤ k) : a.natAbs < 2 ^ k := by
 unfold Builtin.Int.intBits at h
 by_cases z : a = 0
 ·subst z
  exact Nat.two_pow_pos k
 ·rw [if_neg (by simpa using z)] at h
  exact Nat.lt_of_lt_of_le Nat.lt_log2_self (Nat.pow_le_pow_right (by decide) h)
theorem ZtQ {a b : Int} {k : Nat} (ha : Builtin.Int.intBits a ≤ k) (hb : Builtin.Int.intBits b ≤ k) : Builtin.Int.intBits (a + b) ≤ k + 1 := by
 refine PyProof.Rows.intBits_le ?_
 have h1 := Zn3 ha
 have h2 := Zn3 hb
 rw [Nat.pow_succ]
 omega
theorem Zo4 {a b : Int} (ha : Builtin.Int.intBits a ≤ 2 ^ 21) (hb : Builtin.Int.intBits b ≤ 2 ^ 21) : mulOk a b = true := by
 have e : (2 : Nat) ^ 21 = 2097152 := by decide
 have h : Builtin.Int.intTooBig (Builtin.Int.intBits a + Builtin.Int.intBits b) = false := by
  unfold Builtin.Int.intTooBig bitsLine
  exact decide_eq_false (by omega)
 unfold mulOk
 rw [h]
 simp
theorem Zs5 {a b : Int} (h1 : -(2 ^ 64) < b) (h2 : b < 2 ^ 64) : mulOk a b = true := Zo3 (IntMulOk.of_right (intBits_le_64 h1 h2))
theorem Zsq {a b : Int} (h1 : -(2 ^ 64) < a) (h2 : a < 2 ^ 64) : mulOk a b = true := Zo3 (IntMulOk.of_left (intBits_le_64 h1 h2))
@[irreducible] noncomputable def M9 : Int := 48271 ^ Int.toNat 9
@[irreducible] noncomputable def T40 : Int := 10 ^ Int.toNat 40
theorem ZvL (H : Hp) : oPow (.int 48271) (.int 9) H = some (.int M9, H) := by rw [Znk (by decide +kernel)]; unfold M9; rfl
theorem ZvM (H : Hp) : oPow (.int 10) (.int 40) H = some (.int T40, H) := by rw [Znk (by decide +kernel)]; unfold T40; rfl
theorem Zik : T40 = 10000000000000000000000000000000000000000 := by unfold T40; decide +kernel
theorem ZuE : Builtin.Int.intBits M9 ≤ 2 ^ 21 := by
 unfold M9
 exact Nat.le_trans (PyProof.Rows.intBits_le (k := 256) (by decide +kernel)) (by decide)
section
variable {H : Hp} {Q : V → Hp → Prop} {a b : Int}
end
end PM
end
section
set_option maxRecDepth 100000
set_option linter.all false
set_option autoImplicit false
/-! The tree machine: values without places; lists that nobody else holds may be changed. -/
namespace TM
open PySem PM
inductive T where
 | none
 | bool (b : Bool)
 | int (i : Int)
 | str (s : Str)
 | tup (ts : List T)
 | lst (ts : List T)
mutual
inductive RF (H : Hp) : V → T → List Nat → Prop where
 | none : RF H .none .none []
 | bool (b : Bool) : RF H (.bool b) (.bool b) []
 | int (i : Int) : RF H (.int i) (.int i) []
 | str (s : Str) : RF H (.str s) (.str s) []
 | tup {vs : List V} {ts : List T} {F : List Nat} : RFs H vs ts F → RF H (.tup vs) (.tup ts) F
 | ref {a : Nat} {vs : List V} {ts : List T} {F : List Nat} : H[a]? = some vs → RFs H vs ts F → RF H (.ref a) (.lst ts) (a :: F)
inductive RFs (H : Hp) : List V → List T → List Nat → Prop where
 | nil : RFs H [] [] []
 | cons {v : V} {t : T} {F : List Nat} {vs : List V} {ts : List T} {G : List Nat} : RF H v t F → RFs H vs ts G → RFs H (v :: vs) (t :: ts) (F ++ G)
end
mutual
theorem RF.frame {H H' : Hp} {v : V} {t : T} {F : List Nat} (r : RF H v t F) (h : ∀ a ∈ F, H'[a]? = H[a]?) : RF H' v t F := by
 cases r with
 | none => exact .none
 | bool b => exact .bool b
 | int i => exact .int i
 | str s => exact .str s
 | tup hs => exact .tup (RFs.frame hs h)
 | ref e hs => exact .ref ((h _ Zz5).trans e) (RFs.frame hs fun a m => h a (Zz2 _ m))
theorem RFs.frame {H H' : Hp} {vs : List V} {ts : List T} {F : List Nat} (r : RFs H vs ts F) (h : ∀ a ∈ F, H'[a]? = H[a]?) : RFs H' vs ts F := by
 cases r with
 | nil => exact .nil
 | cons a b => exact .cons (RF.frame a fun x m => h x (Zz4 _ m)) (RFs.frame b fun x m => h x (Zz3 _ m))
end
mutual
theorem RF.lt {H : Hp} {v : V} {t : T} {F : List Nat} (r : RF H v t F) : ∀ a ∈ F, a < H.length := by
 cases r with
 | none => intro a m; cases m
 | bool b => intro a m; cases m
 | int i => intro a m; cases m
 | str s => intro a m; cases m
 | tup hs => exact RFs.lt hs
 | ref e hs =>
  intro x m
  rcases List.mem_cons.mp m with rfl | m
  ·exact (Zz6.mp e).1
  ·exact RFs.lt hs x m
theorem RFs.lt {H : Hp} {vs : List V} {ts : List T} {F : List Nat} (r : RFs H vs ts F) : ∀ a ∈ F, a < H.length := by
 cases r with
 | nil => intro a m; cases m
 | cons a b =>
  intro x m
  rcases List.mem_append.mp m with m | m
  ·exact RF.lt a x m
  ·exact RFs.lt b x m
end
theorem RF.ext {H : Hp} {v : V} {t : T} {F : List Nat} (r : RF H v t F) (X : Hp) : RF (H ++ X) v t F := r.frame fun a m => List.getElem?_append_left (r.lt a m)
theorem RFs.ext {H : Hp} {vs : List V} {ts : List T} {F : List Nat} (r : RFs H vs ts F) (X : Hp) : RFs (H ++ X) vs ts F := r.frame fun a m => List.getElem?_append_left (r.lt a m)
theorem RFs.length {H : Hp} : ∀ {vs : List V} {ts : List T} {F : List Nat}, RFs H vs ts F → vs.length = ts.length
 | _, _, _, .nil => rfl
 | _, _, _, .cons _ r => by rw [List.length_cons, List.length_cons, r.length]
theorem RFs.append {H : Hp} : ∀ {vs us : List V} {ts ss : List T} {F G : List Nat}, RFs H vs ts F → RFs H us ss G → RFs H (vs ++ us) (ts ++ ss) (F ++ G)
 | _, _, _, _, _, _, .nil, h => h
 | _, _, _, _, _, _, .cons a r, h => by rw [List.append_assoc]; exact .cons a (r.append h)
theorem RFs.one {H : Hp} {v : V} {t : T} {F : List Nat} (r : RF H v t F) : RFs H [v] [t] F := by
 have := RFs.cons r RFs.nil
 rwa [List.append_nil] at this
theorem RFs.snoc {H : Hp} {vs : List V} {ts : List T} {F G : List Nat} {v : V} {t : T} (r : RFs H vs ts F) (x : RF H v t G) : RFs H (vs ++ [v]) (ts ++ [t]) (F ++ G) := r.append (.one x)
theorem RFs.at {H : Hp} : ∀ {vs : List V} {ts : List T} {F : List Nat} {i : Nat} {t : T}, RFs H vs ts F → ts[i]? = some t → ∃ v G, vs[i]? = some v ∧ RF H v t G ∧ G.Sublist F
 | _, _, _, _, _, .nil, e => by simp at e
 | _, _, _, 0, _, .cons a _, e => by
  simp at e
  exact ⟨_, _, by simp, e ▸ a, List.sublist_append_left _ _⟩
 | _, _, _, i + 1, _, .cons _ r, e => by
  simp at e
  obtain ⟨x, G, hx, hr, hs⟩ := r.at e
  exact ⟨x, G, by simpa using hx, hr, hs.trans (List.sublist_append_right _ _)⟩
theorem RFs.drop {H : Hp} : ∀ {vs : List V} {ts : List T} {F : List Nat} (i : Nat), RFs H vs ts F → ∃ G, RFs H (vs.drop i) (ts.drop i) G ∧ G.Sublist F
 | _, _, _, 0, h => ⟨_, h, List.Sublist.refl _⟩
 | _, _, _, _ + 1, .nil => ⟨_, .nil, List.Sublist.refl _⟩
 | _, _, _, i + 1, .cons _ r => by
  obtain ⟨G, h1, h2⟩ := r.drop i
  exact ⟨G, h1, h2.trans (List.sublist_append_right _ _)⟩
theorem RFs.split {H : Hp} : ∀ {vs : List V} {ts : List T} {F : List Nat} {i : Nat} {t : T}, RFs H vs ts F → ts[i]? = some t →
  ∃ v G F1 F2, vs[i]? = some v ∧ RF H v t G ∧ F = F1 ++ (G ++ F2) ∧ ∀ (H' : Hp) (w : V) (t' : T) (G' : List Nat), RF H' w t' G' → (∀ a ∈ F1, H'[a]? = H[a]?) → (∀ a ∈ F2, H'[a]? = H[a]?) → RFs H' (vs.set i w) (ts.set i t') (F1 ++ (G' ++ F2))
 | _, _, _, _, _, .nil, e => by simp at e
 | _, _, _, 0, _, .cons (G := G1) a r, e => by
  simp at e
  subst e
  exact ⟨_, _, [], G1, by simp, a, by simp, fun H' w t' G' x _ h2 => by simpa using RFs.cons x (r.frame h2)⟩
 | _, _, _, i + 1, _, .cons (F := F0) a r, e => by
  simp at e
  obtain ⟨v, G, F1, F2, h1, h2, h3, h4⟩ := r.split e
  refine ⟨v, G, F0 ++ F1, F2, by simpa using h1, h2, by rw [h3]; simp, fun H' w t' G' x k1 k2 => ?_⟩
  have := RFs.cons (a.frame fun b m => k1 b (Zz4 _ m)) (h4 H' w t' G' x (fun b m => k1 b (Zz3 _ m)) k2)
  simpa using this
theorem Zo5 {α : Type} {xs : List α} {i : Nat} {x : α} (h : xs[i]? = some x) : xs.set i x = xs := by
 obtain ⟨hi, e⟩ := Zz6.mp h
 rw [← e]
 exact List.set_getElem_self hi
theorem nd3 {F1 G F2 G' Gn : List Nat} (nd : (F1 ++ (G ++ F2)).Nodup) (n' : G'.Nodup) (sub : ∀ a ∈ G', a ∈ G ∨ a ∈ Gn) (ds : ∀ a ∈ Gn, a ∉ F1 ++ (G ++ F2)) : (F1 ++ (G' ++ F2)).Nodup := by
 rw [List.nodup_append, List.nodup_append] at nd ⊢
 obtain ⟨a1, ⟨a2, a3, a4⟩, a5⟩ := nd
 refine ⟨a1, ⟨n', a3, fun x hx y hy e => ?_⟩, fun x hx y hy e => ?_⟩
 ·rcases sub x hx with m | m
  ·exact a4 x m y hy e
  ·exact ds x m (Zz3 _ (Zz3 _ (e ▸ hy)))
 ·rcases List.mem_append.mp hy with m | m
  ·rcases sub y m with q | q
   ·exact a5 x hx y (Zz4 _ q) e
   ·exact ds y q (Zz4 _ (e ▸ hx))
  ·exact a5 x hx y (Zz3 _ m) e
theorem in3 {F1 G F2 G' Gn : List Nat} (sub : ∀ a ∈ G', a ∈ G ∨ a ∈ Gn) : ∀ a ∈ F1 ++ (G' ++ F2), a ∈ F1 ++ (G ++ F2) ∨ a ∈ Gn := by
 intro a m
 rcases List.mem_append.mp m with m | m
 ·exact .inl (Zz4 _ m)
 ·rcases List.mem_append.mp m with m | m
  ·exact (sub a m).imp (fun q => List.mem_append_right _ (Zz4 _ q)) id
  ·exact .inl (Zz3 _ (Zz3 _ m))
mutual
noncomputable def T.flat : T → Bool
 | .lst _ => false
 | .tup ts => T.flats ts
 | .none => true
 | .bool _ => true
 | .int _ => true
 | .str _ => true
noncomputable def T.flats : List T → Bool
 | [] => true
 | t :: ts => t.flat && T.flats ts
end
mutual
theorem RF.flat {H : Hp} {v : V} {t : T} {F : List Nat} (r : RF H v t F) (h : t.flat = true) : F = [] := by
 cases r with
 | none => rfl
 | bool b => rfl
 | int i => rfl
 | str s => rfl
 | tup hs => exact RFs.flats hs (by simpa [T.flat] using h)
 | ref e hs => simp [T.flat] at h
theorem RFs.flats {H : Hp} {vs : List V} {ts : List T} {F : List Nat} (r : RFs H vs ts F) (h : T.flats ts = true) : F = [] := by
 cases r with
 | nil => rfl
 | cons a b =>
  simp only [T.flats, Bool.and_eq_true] at h
  rw [RF.flat a h.1, RFs.flats b h.2]
  rfl
end
noncomputable def T.flatIn : T → Bool
 | .lst ts => T.flats ts
 | t => t.flat
noncomputable def ZcD (f : List T → Option (List T)) : List Int → T → Option T
 | [], .lst ts => (f ts).map .lst
 | k :: ks, .lst ts => (seqIndex? k ts.length).bind fun j => ts[j]?.bind fun t => (ZcD f ks t).map fun u => .lst (ts.set j u)
 | k :: ks, .tup ts => (seqIndex? k ts.length).bind fun j => ts[j]?.bind fun t => (ZcD f ks t).map fun u => .tup (ts.set j u)
 | _, _ => none
inductive Lead (H : Hp) : List Int → V → Nat → Prop where
 | nil {a : Nat} : Lead H [] (.ref a) a
 | ref {k : Int} {ks : List Int} {b : Nat} {vs : List V} {j : Nat} {v : V} {a : Nat} : H[b]? = some vs → seqIndex? k vs.length = some j → vs[j]? = some v → Lead H ks v a → Lead H (k :: ks) (.ref b) a
 | tup {k : Int} {ks : List Int} {vs : List V} {j : Nat} {v : V} {a : Nat} : seqIndex? k vs.length = some j → vs[j]? = some v → Lead H ks v a → Lead H (k :: ks) (.tup vs) a
theorem Zfp {H : Hp} {Gn : List Nat} {f : List T → Option (List T)} : ∀ (ks : List Int) {v : V} {t t' : T} {F : List Nat}, RF H v t F → F.Nodup → (∀ a ∈ Gn, a ∉ F) → ZcD f ks t = some t' →
  ∃ a vs ts ts' G, Lead H ks v a ∧ a ∈ F ∧ H[a]? = some vs ∧ RFs H vs ts G ∧ f ts = some ts' ∧ G.Nodup ∧ a ∉ G ∧ (∀ x ∈ G, x ∈ F) ∧
   ∀ vs' G', RFs H vs' ts' G' → G'.Nodup → a ∉ G' → (∀ x ∈ G', x ∈ G ∨ x ∈ Gn) → ∃ F', RF (H.set a vs') v t' F' ∧ F'.Nodup ∧ ∀ x ∈ F', x ∈ F ∨ x ∈ Gn
 | [], v, t, t', F, r, nd, ds, e => by
  cases r with
  | @ref a vs ts G e1 hs =>
   obtain ⟨ts', h1, h2⟩ := Zz1.mp e
   subst h2
   rw [List.nodup_cons] at nd
   refine ⟨a, vs, ts, ts', G, .nil, List.mem_cons_self, e1, hs, h1, nd.2, nd.1, fun x m => List.mem_cons_of_mem _ m, fun vs' G' r' n' na sub => ⟨a :: G', ?_, ?_, ?_⟩⟩
   ·have ha := (Zz6.mp e1).1
    refine .ref (List.getElem?_set_self ha) (r'.frame fun b m => List.getElem?_set_ne ?_)
    intro q
    subst q
    exact na m
   ·exact List.nodup_cons.mpr ⟨na, n'⟩
   ·intro x m
    rcases List.mem_cons.mp m with rfl | m
    ·exact .inl Zz5
    ·exact (sub x m).imp (Zz2 _) id
  | none => cases e
  | bool _ => cases e
  | int _ => cases e
  | str _ => cases e
  | tup _ => cases e
 | k :: ks, v, t, t', F, r, nd, ds, e => by
  cases r with
  | none => cases e
  | bool _ => cases e
  | int _ => cases e
  | str _ => cases e
  | @tup vs ts _ hs =>
   obtain ⟨j, e1, e⟩ := Zz0.mp e
   obtain ⟨u, e2, e⟩ := Zz0.mp e
   obtain ⟨u', e3, e⟩ := Zz1.mp e
   subst e
   obtain ⟨w, G1, F1, F2, e4, g1, eF, rb⟩ := hs.split e2
   subst eF
   have nd1 : G1.Nodup := (List.nodup_append.mp (List.nodup_append.mp nd).2.1).1
   have hin : ∀ x ∈ G1, x ∈ F1 ++ (G1 ++ F2) := fun x m => List.mem_append_right _ (Zz4 _ m)
   obtain ⟨a, us, qs, qs', G, l, am, ea, hq, hf, gn, na, gs, go⟩ := Zfp ks g1 nd1 (fun b m q => ds b m (hin b q)) e3
   refine ⟨a, us, qs, qs', G, .tup (by rw [hs.length]; exact e1) e4 l, hin a am, ea, hq, hf, gn, na, fun x m => hin x (gs x m), fun vs' G' r' n' na' sub => ?_⟩
   obtain ⟨G2, f1, f2, f3⟩ := go vs' G' r' n' na' sub
   obtain ⟨a1, a2, a5⟩ := List.nodup_append.mp nd
   obtain ⟨_, a3, a4⟩ := List.nodup_append.mp a2
   have := rb (H.set a vs') w u' G2 f1 (fun b m => List.getElem?_set_ne fun q => a5 b m a (Zz4 _ am) q.symm) (fun b m => List.getElem?_set_ne fun q => a4 a am b m q)
   rw [Zo5 e4] at this
   exact ⟨_, .tup this, nd3 nd f2 f3 ds, in3 f3⟩
  | @ref b vs ts F' e0 hs =>
   obtain ⟨j, e1, e⟩ := Zz0.mp e
   obtain ⟨u, e2, e⟩ := Zz0.mp e
   obtain ⟨u', e3, e⟩ := Zz1.mp e
   subst e
   obtain ⟨w, G1, F1, F2, e4, g1, eF, rb⟩ := hs.split e2
   subst eF
   rw [List.nodup_cons] at nd
   obtain ⟨nb, nd⟩ := nd
   have nd1 : G1.Nodup := (List.nodup_append.mp (List.nodup_append.mp nd).2.1).1
   have hin : ∀ x ∈ G1, x ∈ F1 ++ (G1 ++ F2) := fun x m => List.mem_append_right _ (Zz4 _ m)
   have ds' : ∀ a ∈ Gn, a ∉ F1 ++ (G1 ++ F2) := fun a m q => ds a m (Zz2 _ q)
   obtain ⟨a, us, qs, qs', G, l, am, ea, hq, hf, gn, na, gs, go⟩ := Zfp ks g1 nd1 (fun b m q => ds' b m (hin b q)) e3
   refine ⟨a, us, qs, qs', G, .ref e0 (by rw [hs.length]; exact e1) e4 l, List.mem_cons_of_mem _ (hin a am), ea, hq, hf, gn, na, fun x m => List.mem_cons_of_mem _ (hin x (gs x m)), fun vs' G' r' n' na' sub => ?_⟩
   obtain ⟨G2, f1, f2, f3⟩ := go vs' G' r' n' na' sub
   obtain ⟨a1, a2, a5⟩ := List.nodup_append.mp nd
   obtain ⟨_, a3, a4⟩ := List.nodup_append.mp a2
   have := rb (H.set a vs') w u' G2 f1 (fun b m => List.getElem?_set_ne fun q => a5 b m a (Zz4 _ am) q.symm) (fun b m => List.getElem?_set_ne fun q => a4 a am b m q)
   rw [Zo5 e4] at this
   have hab : a ≠ b := fun q => nb (hin b (q ▸ am))
   refine ⟨_, .ref ((List.getElem?_set_ne hab).trans e0) this, List.nodup_cons.mpr ⟨fun q => ?_, nd3 nd f2 f3 ds'⟩, fun x m => ?_⟩
   ·rcases in3 f3 b q with m | m
    ·exact nb m
    ·exact ds b m Zz5
   ·rcases List.mem_cons.mp m with rfl | m
    ·exact .inl Zz5
    ·exact (in3 f3 x m).imp (Zz2 _) id
end TM
end
section
set_option maxRecDepth 100000
set_option linter.all false
set_option autoImplicit false
namespace TM
open PySem PM
noncomputable abbrev TL := Nat → Option T
noncomputable abbrev PE := TL → Option T
noncomputable abbrev PEs := TL → Option (List T)
noncomputable abbrev PB := TL → Option Bool
noncomputable abbrev PG := TL → Option (List T)
noncomputable def Z7 (σ : TL) (i : Nat) (t : T) : TL := fun j => if j = i then some t else σ j
structure Ctx where
 H0 : Hp
 F0 : List Nat
 P : Nat → Prop
structure St (c : Ctx) (O : List Nat) (ρ : Lc) (σ : TL) (H : Hp) (Φ : Nat → List Nat) : Prop where
 slot : ∀ i t, σ i = some t → ∃ v, ρ i = some v ∧ RF H v t (Φ i)
 src : ∀ i t, σ i = some t → ∀ a ∈ Φ i, c.H0.length ≤ a ∨ c.P a
 own : ∀ i ∈ O, ∀ t, σ i = some t → (Φ i).Nodup ∧ (∀ a ∈ Φ i, c.H0.length ≤ a ∨ a ∈ c.F0) ∧ ∀ j u, j ≠ i → σ j = some u → ∀ a ∈ Φ i, a ∉ Φ j
 len : c.H0.length ≤ H.length
 keep : ∀ a, a < c.H0.length → a ∉ c.F0 → H[a]? = c.H0[a]?
 pos : 0 < c.H0.length
 f0 : 0 ∉ c.F0
theorem St.ext {c : Ctx} {O : List Nat} {ρ : Lc} {σ : TL} {H : Hp} {Φ : Nat → List Nat} (s : St c O ρ σ H Φ) (X : Hp) : St c O ρ σ (H ++ X) Φ :=
 ⟨fun i t e => by obtain ⟨v, h1, h2⟩ := s.slot i t e; exact ⟨v, h1, h2.ext X⟩, s.src, s.own, by have := s.len; rw [List.length_append]; omega, fun a ha hn => by
  rw [List.getElem?_append_left (Nat.lt_of_lt_of_le ha s.len)]; exact s.keep a ha hn, s.pos, s.f0⟩
theorem St.less {c : Ctx} {O O' : List Nat} {ρ : Lc} {σ : TL} {H : Hp} {Φ : Nat → List Nat} (s : St c O ρ σ H Φ) (h : ∀ i ∈ O', i ∈ O) : St c O' ρ σ H Φ := ⟨s.slot, s.src, fun i hi => s.own i (h i hi), s.len, s.keep, s.pos, s.f0⟩
noncomputable def From (H : Hp) (N : List Nat) (σ : TL) (Φ : Nat → List Nat) (a : Nat) : Prop := H.length ≤ a ∨ ∃ i ∈ N, (∃ t, σ i = some t) ∧ a ∈ Φ i
theorem From.mono {H : Hp} {N N' : List Nat} {σ : TL} {Φ : Nat → List Nat} {a : Nat} (f : From H N σ Φ a) (h : ∀ i ∈ N, i ∈ N') : From H N' σ Φ a := f.imp id fun ⟨i, hi, q⟩ => ⟨i, h i hi, q⟩
theorem From.back {H X : Hp} {N : List Nat} {σ : TL} {Φ : Nat → List Nat} {a : Nat} (f : From (H ++ X) N σ Φ a) : From H N σ Φ a := f.imp (fun h => by rw [List.length_append] at h; omega) id
theorem From.nil {H : Hp} {σ : TL} {Φ : Nat → List Nat} {a : Nat} (f : From H [] σ Φ a) : H.length ≤ a := f.elim id fun ⟨_, hi, _⟩ => by cases hi
noncomputable def E (O N : List Nat) (u : Bool) (e : Ex) (p : PE) : Prop := ∀ (c : Ctx) (ρ : Lc) (σ : TL) (H : Hp) (Φ : Nat → List Nat) (t : T), St c O ρ σ H Φ → p σ = some t →
 ∃ v X F, e ρ H = some (v, H ++ X) ∧ RF (H ++ X) v t F ∧ (∀ a ∈ F, From H N σ Φ a) ∧ (u = true → F.Nodup)
noncomputable def Es (O N : List Nat) (u : Bool) (n : Nat) (e : Exs) (p : PEs) : Prop := ∀ (c : Ctx) (ρ : Lc) (σ : TL) (H : Hp) (Φ : Nat → List Nat) (ts : List T), St c O ρ σ H Φ → p σ = some ts →
 ts.length = n ∧ ∃ vs X F, e ρ H = some (vs, H ++ X) ∧ RFs (H ++ X) vs ts F ∧ (∀ a ∈ F, From H N σ Φ a) ∧ (u = true → F.Nodup)
noncomputable def Bt (O : List Nat) (e : Ts) (p : PB) : Prop := ∀ (c : Ctx) (ρ : Lc) (σ : TL) (H : Hp) (Φ : Nat → List Nat) (b : Bool), St c O ρ σ H Φ → p σ = some b → ∃ X, e ρ H = some (b, H ++ X)
section
variable {O N : List Nat} {u : Bool}
theorem Za3 {O' : List Nat} {e : Ex} {p : PE} (x : E O' N u e p) (h : ∀ i ∈ O', i ∈ O) : E O N u e p := fun c ρ σ H Φ t s => x c ρ σ H Φ t (s.less h)
theorem E.sh {e : Ex} {p : PE} (x : E O N u e p) : E O N false e p := fun c ρ σ H Φ t s q => by
 obtain ⟨v, X, F, a1, a2, a3, a4⟩ := x c ρ σ H Φ t s q
 exact ⟨v, X, F, a1, a2, a3, by simp⟩
noncomputable def Zk (k : Int) : PE := fun _ => some (.int k)
noncomputable def ZZ : PE := fun _ => some .none
noncomputable def Zbv (b : Bool) : PE := fun _ => some (.bool b)
noncomputable def Zd9 (x : Str) : PE := fun _ => some (.str x)
noncomputable def Za (i : Nat) : PE := fun σ => σ i
theorem Zm (k : Int) : E O [] true (Zl k) (Zk k) := fun c ρ σ H Φ t s q => by
 cases q; exact ⟨_, [], [], by simp [Zl], .int k, by simp, by simp⟩
theorem Z9 : E O [] true ZY ZZ := fun c ρ σ H Φ t s q => by
 cases q; exact ⟨_, [], [], by simp [ZY], .none, by simp, by simp⟩
theorem E.bool (k : Bool) : E O [] true (ZbZ k) (Zbv k) := fun c ρ σ H Φ t s q => by
 cases q; exact ⟨_, [], [], by simp [ZbZ], .bool k, by simp, by simp⟩
theorem E.str (k : Str) : E O [] true (Zd8 k) (Zd9 k) := fun c ρ σ H Φ t s q => by
 cases q; exact ⟨_, [], [], by simp [Zd8], .str k, by simp, by simp⟩
theorem Zc (i : Nat) : E O [i] false (Zb i) (Za i) := fun c ρ σ H Φ t s q => by
 obtain ⟨v, h1, h2⟩ := s.slot i t q
 exact ⟨v, [], Φ i, by simp [Zb, h1], by simpa using h2, fun a m => .inr ⟨i, List.mem_cons_self, ⟨t, q⟩, m⟩, by simp⟩
theorem E.own {i : Nat} (hi : i ∈ O) : E O [i] true (Zb i) (Za i) := fun c ρ σ H Φ t s q => by
 obtain ⟨v, h1, h2⟩ := s.slot i t q
 exact ⟨v, [], Φ i, by simp [Zb, h1], by simpa using h2, fun a m => .inr ⟨i, List.mem_cons_self, ⟨t, q⟩, m⟩, fun _ => (s.own i hi t q).1⟩
noncomputable def ZbE (p : PE) : PE := fun σ => (p σ).bind fun t => if t.flat then some t else none
theorem E.flat {e : Ex} {p : PE} (x : E O N u e p) : E O [] true e (ZbE p) := fun c ρ σ H Φ t s q => by
 obtain ⟨t', e1, e2⟩ := Zz0.mp q
 by_cases h : t'.flat = true
 ·rw [if_pos h] at e2
  cases e2
  obtain ⟨v, X, F, a1, a2, a3, a4⟩ := x c ρ σ H Φ t s e1
  have := a2.flat h
  subst this
  exact ⟨v, X, [], a1, a2, by simp, by simp⟩
 ·rw [if_neg h] at e2; cases e2
noncomputable def Zn : PEs := fun _ => some []
noncomputable def Zd (p : PE) (q : PEs) : PEs := fun σ => (p σ).bind fun t => (q σ).bind fun ts => some (t :: ts)
theorem Zp : Es O [] true 0 Zo Zn := fun c ρ σ H Φ ts s q => by
 cases q; exact ⟨rfl, [], [], [], by simp [Zo], .nil, by simp, by simp⟩
theorem Zh {M : List Nat} {u' : Bool} {n : Nat} {e : Ex} {p : PE} {es : Exs} {ps : PEs} (x : E O N u e p) (y : Es O M u' n es ps) : Es O (N ++ M) false (n + 1) (Zf e es) (Zd p ps) := fun c ρ σ H Φ ts s q => by
 obtain ⟨t, e1, q⟩ := Zz0.mp q
 obtain ⟨rs, e2, q⟩ := Zz0.mp q
 cases q
 obtain ⟨v, X, F, a1, a2, a3, a4⟩ := x c ρ σ H Φ t s e1
 obtain ⟨hl, vs, Y, G, b1, b2, b3, b4⟩ := y c ρ σ (H ++ X) Φ rs (s.ext X) e2
 refine ⟨by simp [hl], v :: vs, X ++ Y, F ++ G, by simp [Zf, a1, b1], ?_, fun a m => ?_, by simp⟩
 ·rw [← List.append_assoc]; exact .cons (a2.ext Y) b2
 ·rcases List.mem_append.mp m with m | m
  ·exact (a3 a m).mono fun i hi => List.mem_append_left _ hi
  ·exact (b3 a m).back.mono fun i hi => List.mem_append_right _ hi
theorem Zfe {M : List Nat} {n : Nat} {e : Ex} {p : PE} {es : Exs} {ps : PEs} (x : E O N true e p) (y : Es O M true n es ps) (hN : ∀ i ∈ N, i ∈ O) (hM : ∀ i ∈ N, i ∉ M) : Es O (N ++ M) true (n + 1) (Zf e es) (Zd p ps) := fun c ρ σ H Φ ts s q => by
 obtain ⟨t, e1, q⟩ := Zz0.mp q
 obtain ⟨rs, e2, q⟩ := Zz0.mp q
 cases q
 obtain ⟨v, X, F, a1, a2, a3, a4⟩ := x c ρ σ H Φ t s e1
 obtain ⟨hl, vs, Y, G, b1, b2, b3, b4⟩ := y c ρ σ (H ++ X) Φ rs (s.ext X) e2
 refine ⟨by simp [hl], v :: vs, X ++ Y, F ++ G, by simp [Zf, a1, b1], ?_, fun a m => ?_, fun _ => ?_⟩
 ·rw [← List.append_assoc]; exact .cons (a2.ext Y) b2
 ·rcases List.mem_append.mp m with m | m
  ·exact (a3 a m).mono fun i hi => List.mem_append_left _ hi
  ·exact (b3 a m).back.mono fun i hi => List.mem_append_right _ hi
 ·rw [List.nodup_append]
  refine ⟨a4 rfl, b4 rfl, fun a ha b hb e => ?_⟩
  subst e
  have hlt := a2.lt a ha
  rcases b3 a hb with h | ⟨j, hj, ⟨tj, ej⟩, mj⟩
  ·omega
  ·obtain ⟨vj, _, rj⟩ := s.slot j tj ej
   have := rj.lt a mj
   rcases a3 a ha with h | ⟨i, hi, ⟨ti, ei⟩, mi⟩
   ·omega
   ·exact (s.own i (hN i hi) ti ei).2.2 j tj (fun q => hM i hi (q ▸ hj)) ej a mi mj
noncomputable def ZaL (p : PEs) : PE := fun σ => (p σ).map .tup
noncomputable def ZbF (p : PEs) : PE := fun σ => (p σ).map .lst
theorem E.tup {n : Nat} {e : Exs} {p : PEs} (x : Es O N u n e p) (hn : n ≤ LEN) : E O N u (ZaK e) (ZaL p) := fun c ρ σ H Φ t s q => by
 obtain ⟨ts, e1, e2⟩ := Zz1.mp q
 subst e2
 obtain ⟨hl, vs, Y, G, b1, b2, b3, b4⟩ := x c ρ σ H Φ ts s e1
 have := b2.length
 refine ⟨.tup vs, Y, G, ?_, .tup b2, b3, b4⟩
 simp only [ZaK, b1, Option.bind_some]
 rw [if_pos (by omega)]
theorem E.list {n : Nat} {e : Exs} {p : PEs} (x : Es O N u n e p) (hn : n ≤ LEN) : E O N u (Zb7 e) (ZbF p) := fun c ρ σ H Φ t s q => by
 obtain ⟨ts, e1, e2⟩ := Zz1.mp q
 subst e2
 obtain ⟨hl, vs, Y, G, b1, b2, b3, b4⟩ := x c ρ σ H Φ ts s e1
 have := b2.length
 refine ⟨.ref (H ++ Y).length, Y ++ [vs], (H ++ Y).length :: G, ?_, ?_, fun a m => ?_, fun hu => ?_⟩
 ·simp only [Zb7, b1, Option.bind_some]
  rw [if_pos (by omega), List.append_assoc]
 ·rw [← List.append_assoc]; exact .ref (by simp) (b2.ext _)
 ·rcases List.mem_cons.mp m with rfl | m
  ·exact .inl (by simp)
  ·exact b3 a m
 ·rw [List.nodup_cons]
  exact ⟨fun m => Nat.lt_irrefl _ (b2.lt _ m), b4 hu⟩
noncomputable def OA2 (o : V → V → Hp → Option (V × Hp)) (q : T → T → Option T) : Prop := ∀ (H : Hp) (v1 v2 : V) (t1 t2 t : T) (F1 F2 : List Nat), RF H v1 t1 F1 → RF H v2 t2 F2 → q t1 t2 = some t → ∃ v, o v1 v2 H = some (v, H) ∧ RF H v t []
noncomputable def OI2 (o : V → V → Hp → Option (V × Hp)) (q : T → T → Option T) : Prop := ∀ (H : Hp) (v1 v2 : V) (t1 t2 t : T) (F1 F2 : List Nat), RF H v1 t1 F1 → RF H v2 t2 F2 → q t1 t2 = some t → ∃ v F, o v1 v2 H = some (v, H) ∧ RF H v t F ∧ F.Sublist F1
noncomputable def OC2 (o : V → V → Hp → Option (V × Hp)) (q : T → T → Option T) : Prop := ∀ (H : Hp) (v1 v2 : V) (t1 t2 t : T) (F1 F2 : List Nat), RF H v1 t1 F1 → RF H v2 t2 F2 → q t1 t2 = some t → ∃ v X F, o v1 v2 H = some (v, H ++ X) ∧ RF (H ++ X) v t F ∧ (∀ a ∈ F, H.length ≤ a ∨ a ∈ F1 ∨ a ∈ F2) ∧ (t.flatIn = true → F.Nodup ∧ ∀ a ∈ F, H.length ≤ a)
noncomputable def OA1 (o : V → Hp → Option (V × Hp)) (q : T → Option T) : Prop := ∀ (H : Hp) (v1 : V) (t1 t : T) (F1 : List Nat), RF H v1 t1 F1 → q t1 = some t → ∃ v, o v1 H = some (v, H) ∧ RF H v t []
noncomputable def OAn (o : List V → Hp → Option (V × Hp)) (q : List T → Option T) : Prop := ∀ (H : Hp) (vs : List V) (ts : List T) (t : T) (F : List Nat), RFs H vs ts F → q ts = some t → ∃ v, o vs H = some (v, H) ∧ RF H v t []
noncomputable def OCn (o : List V → Hp → Option (V × Hp)) (q : List T → Option T) : Prop := ∀ (H : Hp) (vs : List V) (ts : List T) (t : T) (F1 : List Nat), 0 < H.length → RFs H vs ts F1 → q ts = some t → ∃ v X F, o vs H = some (v, H ++ X) ∧ RF (H ++ X) v t F ∧ (∀ a ∈ F, H.length ≤ a ∨ a ∈ F1) ∧ (t.flatIn = true → F.Nodup ∧ ∀ a ∈ F, H.length ≤ a)
noncomputable def Ze (q : T → T → Option T) (p1 p2 : PE) : PE := fun σ => (p1 σ).bind fun x => (p2 σ).bind fun y => q x y
noncomputable def pUn (q : T → Option T) (p1 : PE) : PE := fun σ => (p1 σ).bind fun x => q x
noncomputable def Zs (q : List T → Option T) (ps : PEs) : PE := fun σ => (ps σ).bind fun xs => q xs
noncomputable def pFl (p : PE) : PE := fun σ => (p σ).bind fun t => if t.flatIn then some t else none
theorem ZhF {M : List Nat} {u' : Bool} {e1 e2 : Ex} {p1 p2 : PE} {q : T → T → Option T} {o : V → V → Hp → Option (V × Hp)} {c : Ctx} {ρ : Lc} {σ : TL} {H : Hp} {Φ : Nat → List Nat} {t : T} (x : E O N u e1 p1) (y : E O M u' e2 p2) (s : St c O ρ σ H Φ) (h : Ze q p1 p2 σ = some t) :
  ∃ t1 t2 v1 v2 X F1 F2, q t1 t2 = some t ∧ RF (H ++ X) v1 t1 F1 ∧ RF (H ++ X) v2 t2 F2 ∧ (∀ a ∈ F1, From H N σ Φ a) ∧ (∀ a ∈ F2, From H M σ Φ a) ∧ (u = true → F1.Nodup) ∧ Zj o e1 e2 ρ H = o v1 v2 (H ++ X) := by
 obtain ⟨t1, h1, h⟩ := Zz0.mp h
 obtain ⟨t2, h2, h⟩ := Zz0.mp h
 obtain ⟨v, X, F, a1, a2, a3, a4⟩ := x c ρ σ H Φ t1 s h1
 obtain ⟨w, Y, G, b1, b2, b3, b4⟩ := y c ρ σ (H ++ X) Φ t2 (s.ext X) h2
 rw [List.append_assoc] at b1 b2
 refine ⟨t1, t2, v, w, X ++ Y, F, G, h, ?_, b2, a3, fun a m => (b3 a m).back, a4, by simp only [Zj, a1, b1, Option.bind_some]⟩
 rw [← List.append_assoc]; exact a2.ext Y
theorem ZD {M : List Nat} {u' : Bool} {e1 e2 : Ex} {p1 p2 : PE} {q : T → T → Option T} {o : V → V → Hp → Option (V × Hp)} (k : OA2 o q) (x : E O N u e1 p1) (y : E O M u' e2 p2) : E O [] true (Zj o e1 e2) (Ze q p1 p2) := fun c ρ σ H Φ t s h => by
 obtain ⟨t1, t2, v1, v2, X, F1, F2, hq, r1, r2, _, _, _, e⟩ := ZhF (o := o) x y s h
 obtain ⟨v, h1, h2⟩ := k _ v1 v2 t1 t2 t F1 F2 r1 r2 hq
 exact ⟨v, X, [], e.trans h1, h2, by simp, by simp⟩
theorem ZB {M : List Nat} {u' : Bool} {e1 e2 : Ex} {p1 p2 : PE} {q : T → T → Option T} {o : V → V → Hp → Option (V × Hp)} (k : OI2 o q) (x : E O N u e1 p1) (y : E O M u' e2 p2) : E O N u (Zj o e1 e2) (Ze q p1 p2) := fun c ρ σ H Φ t s h => by
 obtain ⟨t1, t2, v1, v2, X, F1, F2, hq, r1, r2, h1, _, hu, e⟩ := ZhF (o := o) x y s h
 obtain ⟨v, F, k1, k2, k3⟩ := k _ v1 v2 t1 t2 t F1 F2 r1 r2 hq
 exact ⟨v, X, F, e.trans k1, k2, fun a m => h1 a (k3.subset m), fun h => (hu h).sublist k3⟩
theorem Zac {M : List Nat} {u' : Bool} {e1 e2 : Ex} {p1 p2 : PE} {q : T → T → Option T} {o : V → V → Hp → Option (V × Hp)} (k : OC2 o q) (x : E O N u e1 p1) (y : E O M u' e2 p2) : E O (N ++ M) false (Zj o e1 e2) (Ze q p1 p2) := fun c ρ σ H Φ t s h => by
 obtain ⟨t1, t2, v1, v2, X, F1, F2, hq, r1, r2, h1, h2, hu, e⟩ := ZhF (o := o) x y s h
 obtain ⟨v, Y, F, k1, k2, k3, k4⟩ := k _ v1 v2 t1 t2 t F1 F2 r1 r2 hq
 rw [List.append_assoc] at k1 k2
 refine ⟨v, X ++ Y, F, e.trans k1, k2, fun a m => ?_, by simp⟩
 rcases k3 a m with h | h | h
 ·exact .inl (by rw [List.length_append] at h; omega)
 ·exact (h1 a h).mono fun i hi => List.mem_append_left _ hi
 ·exact (h2 a h).mono fun i hi => List.mem_append_right _ hi
theorem Zm4 {M : List Nat} {u' : Bool} {e1 e2 : Ex} {p1 p2 : PE} {q : T → T → Option T} {o : V → V → Hp → Option (V × Hp)} (k : OC2 o q) (x : E O N u e1 p1) (y : E O M u' e2 p2) : E O [] true (Zj o e1 e2) (pFl (Ze q p1 p2)) := fun c ρ σ H Φ t s h => by
 obtain ⟨t', h, hf⟩ := Zz0.mp h
 by_cases fl : t'.flatIn = true
 ·rw [if_pos fl] at hf
  cases hf
  obtain ⟨t1, t2, v1, v2, X, F1, F2, hq, r1, r2, h1, h2, hu, e⟩ := ZhF (o := o) x y s h
  obtain ⟨v, Y, F, k1, k2, k3, k4⟩ := k _ v1 v2 t1 t2 t F1 F2 r1 r2 hq
  rw [List.append_assoc] at k1 k2
  exact ⟨v, X ++ Y, F, e.trans k1, k2, fun a m => .inl (by have := (k4 fl).2 a m; rw [List.length_append] at this; omega), fun _ => (k4 fl).1⟩
 ·rw [if_neg fl] at hf; cases hf
theorem ZbL {e1 : Ex} {p1 : PE} {q : T → Option T} {o : V → Hp → Option (V × Hp)} (k : OA1 o q) (x : E O N u e1 p1) : E O [] true (eUn o e1) (pUn q p1) := fun c ρ σ H Φ t s h => by
 obtain ⟨t1, h1, h⟩ := Zz0.mp h
 obtain ⟨v, X, F, a1, a2, a3, a4⟩ := x c ρ σ H Φ t1 s h1
 obtain ⟨w, b1, b2⟩ := k _ v t1 t F a2 h
 exact ⟨w, X, [], by simp only [eUn, a1, Option.bind_some, b1], b2, by simp, by simp⟩
theorem Zat {n : Nat} {es : Exs} {ps : PEs} {q : List T → Option T} {o : List V → Hp → Option (V × Hp)} (k : OAn o q) (x : Es O N u n es ps) : E O [] true (Zt o es) (Zs q ps) := fun c ρ σ H Φ t s h => by
 obtain ⟨ts, h1, h⟩ := Zz0.mp h
 obtain ⟨_, vs, X, F, a1, a2, a3, a4⟩ := x c ρ σ H Φ ts s h1
 obtain ⟨w, b1, b2⟩ := k _ vs ts t F a2 h
 exact ⟨w, X, [], by simp only [Zt, a1, Option.bind_some, b1], b2, by simp, by simp⟩
theorem Zgl {n : Nat} {es : Exs} {ps : PEs} {q : List T → Option T} {o : List V → Hp → Option (V × Hp)} (k : OCn o q) (x : Es O N u n es ps) : E O N false (Zt o es) (Zs q ps) := fun c ρ σ H Φ t s h => by
 obtain ⟨ts, h1, h⟩ := Zz0.mp h
 obtain ⟨_, vs, X, F, a1, a2, a3, a4⟩ := x c ρ σ H Φ ts s h1
 have hp : 0 < (H ++ X).length := by have := s.pos; have := s.len; rw [List.length_append]; omega
 obtain ⟨w, Y, G, b1, b2, b3, b4⟩ := k _ vs ts t F hp a2 h
 rw [List.append_assoc] at b1 b2
 refine ⟨w, X ++ Y, G, by simp only [Zt, a1, Option.bind_some, b1], b2, fun a m => ?_, by simp⟩
 rcases b3 a m with h | h
 ·exact .inl (by rw [List.length_append] at h; omega)
 ·exact a3 a h
theorem Zeo {n : Nat} {es : Exs} {ps : PEs} {q : List T → Option T} {o : List V → Hp → Option (V × Hp)} (k : OCn o q) (x : Es O N u n es ps) : E O [] true (Zt o es) (pFl (Zs q ps)) := fun c ρ σ H Φ t s h => by
 obtain ⟨t', h, hf⟩ := Zz0.mp h
 by_cases fl : t'.flatIn = true
 ·rw [if_pos fl] at hf
  cases hf
  obtain ⟨ts, h1, h⟩ := Zz0.mp h
  obtain ⟨_, vs, X, F, a1, a2, a3, a4⟩ := x c ρ σ H Φ ts s h1
  have hp : 0 < (H ++ X).length := by have := s.pos; have := s.len; rw [List.length_append]; omega
  obtain ⟨w, Y, G, b1, b2, b3, b4⟩ := k _ vs ts t F hp a2 h
  rw [List.append_assoc] at b1 b2
  exact ⟨w, X ++ Y, G, by simp only [Zt, a1, Option.bind_some, b1], b2, fun a m => .inl (by have := (b4 fl).2 a m; rw [List.length_append] at this; omega), fun _ => (b4 fl).1⟩
 ·rw [if_neg fl] at hf; cases hf
noncomputable def SimF (fr : Bool) (f : List V → Hp → Option (V × Hp)) (p : List T → Option T) : Prop := ∀ (H : Hp) (vs : List V) (ts : List T) (t : T) (F1 : List Nat), 0 < H.length → RFs H vs ts F1 → p ts = some t → ∃ v X F, f vs H = some (v, H ++ X) ∧ RF (H ++ X) v t F ∧ (∀ a ∈ F, H.length ≤ a ∨ a ∈ F1) ∧ (fr = true → F.Nodup ∧ ∀ a ∈ F, H.length ≤ a)
theorem ZK {fr : Bool} {n : Nat} {es : Exs} {ps : PEs} {q : List T → Option T} {o : List V → Hp → Option (V × Hp)} (k : SimF fr o q) (x : Es O N u n es ps) : E O N false (Zt o es) (Zs q ps) := fun c ρ σ H Φ t s h => by
 obtain ⟨ts, h1, h⟩ := Zz0.mp h
 obtain ⟨_, vs, X, F, a1, a2, a3, a4⟩ := x c ρ σ H Φ ts s h1
 have hp : 0 < (H ++ X).length := by have := s.pos; have := s.len; rw [List.length_append]; omega
 obtain ⟨w, Y, G, b1, b2, b3, b4⟩ := k _ vs ts t F hp a2 h
 rw [List.append_assoc] at b1 b2
 refine ⟨w, X ++ Y, G, by simp only [Zt, a1, Option.bind_some, b1], b2, fun a m => ?_, by simp⟩
 rcases b3 a m with h | h
 ·exact .inl (by rw [List.length_append] at h; omega)
 ·exact a3 a h
theorem Zbw {n : Nat} {es : Exs} {ps : PEs} {q : List T → Option T} {o : List V → Hp → Option (V × Hp)} (k : SimF true o q) (x : Es O N u n es ps) : E O [] true (Zt o es) (Zs q ps) := fun c ρ σ H Φ t s h => by
 obtain ⟨ts, h1, h⟩ := Zz0.mp h
 obtain ⟨_, vs, X, F, a1, a2, a3, a4⟩ := x c ρ σ H Φ ts s h1
 have hp : 0 < (H ++ X).length := by have := s.pos; have := s.len; rw [List.length_append]; omega
 obtain ⟨w, Y, G, b1, b2, b3, b4⟩ := k _ vs ts t F hp a2 h
 rw [List.append_assoc] at b1 b2
 exact ⟨w, X ++ Y, G, by simp only [Zt, a1, Option.bind_some, b1], b2, fun a m => .inl (by have := (b4 rfl).2 a m; rw [List.length_append] at this; omega), fun _ => (b4 rfl).1⟩
noncomputable def ZbW : T → Option Bool
 | .bool b => some b
 | .none => some false
 | .int i => some (i != 0)
 | _ => none
theorem ZdZ {H : Hp} {v : V} {t : T} {F : List Nat} {b : Bool} (r : RF H v t F) (h : ZbW t = some b) : ZcL v H = some b := by
 cases r <;> first | (cases h; rfl) | cases h
noncomputable def ZE (p : PE) : PB := fun σ => (p σ).bind ZbW
noncomputable def ZbQ (p : PB) : PB := fun σ => (p σ).map fun b => !b
noncomputable def Zag : PB := fun _ => some true
noncomputable def Zcp : PB := fun _ => some false
noncomputable def Zap (p q : PB) : PB := fun σ => (p σ).bind fun b => if b then q σ else some false
noncomputable def bOr (p q : PB) : PB := fun σ => (p σ).bind fun b => if b then some true else q σ
theorem ZJ {e : Ex} {p : PE} (x : E O N u e p) : Bt O (ZH e) (ZE p) := fun c ρ σ H Φ b s h => by
 obtain ⟨t, h1, h⟩ := Zz0.mp h
 obtain ⟨v, X, F, a1, a2, a3, a4⟩ := x c ρ σ H Φ t s h1
 exact ⟨X, by simp only [ZH, a1, Option.bind_some, ZdZ a2 h, Option.map_some]⟩
theorem ZcB {e : Ts} {p : PB} (x : Bt O e p) : Bt O (Zcc e) (ZbQ p) := fun c ρ σ H Φ b s h => by
 obtain ⟨t, h1, h⟩ := Zz1.mp h
 subst h
 obtain ⟨X, a1⟩ := x c ρ σ H Φ t s h1
 exact ⟨X, by simp only [Zcc, a1, Option.map_some]⟩
theorem Zaw : Bt O Zao Zag := fun c ρ σ H Φ b s h => by
 cases h; exact ⟨[], by simp [Zao]⟩
theorem ZcJ : Bt O Zcn Zcp := fun c ρ σ H Φ b s h => by
 cases h; exact ⟨[], by simp [Zcn]⟩
theorem ZaC {e f : Ts} {p q : PB} (x : Bt O e p) (y : Bt O f q) : Bt O (Zav e f) (Zap p q) := fun c ρ σ H Φ b s h => by
 obtain ⟨t, h1, h⟩ := Zz0.mp h
 obtain ⟨X, a1⟩ := x c ρ σ H Φ t s h1
 cases t with
 | true =>
  obtain ⟨Y, b1⟩ := y c ρ σ (H ++ X) Φ b (s.ext X) (by simpa using h)
  exact ⟨X ++ Y, by simp [Zav, a1, b1]⟩
 | false => cases h; exact ⟨X, by simp [Zav, a1]⟩
theorem Zba {e f : Ts} {p q : PB} (x : Bt O e p) (y : Bt O f q) : Bt O (tOr e f) (bOr p q) := fun c ρ σ H Φ b s h => by
 obtain ⟨t, h1, h⟩ := Zz0.mp h
 obtain ⟨X, a1⟩ := x c ρ σ H Φ t s h1
 cases t with
 | false =>
  obtain ⟨Y, b1⟩ := y c ρ σ (H ++ X) Φ b (s.ext X) (by simpa using h)
  exact ⟨X ++ Y, by simp [tOr, a1, b1]⟩
 | true => cases h; exact ⟨X, by simp [tOr, a1]⟩
noncomputable def pIf (b : PB) (p q : PE) : PE := fun σ => (b σ).bind fun x => if x then p σ else q σ
noncomputable def ZiJ (p : PE) : PE := fun σ => (p σ).bind fun t => (ZbW t).map fun b => .bool !b
noncomputable def Zc4 (p q : PE) : PE := fun σ => (p σ).bind fun t => (ZbW t).bind fun b => if b then q σ else some t
noncomputable def pOr (p q : PE) : PE := fun σ => (p σ).bind fun t => (ZbW t).bind fun b => if b then some t else q σ
theorem Zey {M : List Nat} {b : Ts} {pb : PB} {e f : Ex} {p q : PE} (z : Bt O b pb) (x : E O N u e p) (y : E O M u f q) : E O (N ++ M) u (eIf b e f) (pIf pb p q) := fun c ρ σ H Φ t s h => by
 obtain ⟨b', h1, h⟩ := Zz0.mp h
 obtain ⟨X, a1⟩ := z c ρ σ H Φ b' s h1
 cases b' with
 | true =>
  obtain ⟨v, Y, F, b1, b2, b3, b4⟩ := x c ρ σ (H ++ X) Φ t (s.ext X) (by simpa using h)
  exact ⟨v, X ++ Y, F, by simp [eIf, a1, b1], by rw [← List.append_assoc]; exact b2, fun a m => (b3 a m).back.mono fun i hi => List.mem_append_left _ hi, b4⟩
 | false =>
  obtain ⟨v, Y, F, b1, b2, b3, b4⟩ := y c ρ σ (H ++ X) Φ t (s.ext X) (by simpa using h)
  exact ⟨v, X ++ Y, F, by simp [eIf, a1, b1], by rw [← List.append_assoc]; exact b2, fun a m => (b3 a m).back.mono fun i hi => List.mem_append_right _ hi, b4⟩
theorem Zws {e : Ex} {p : PE} (x : E O N u e p) : E O [] true (ZiG e) (ZiJ p) := fun c ρ σ H Φ t s h => by
 obtain ⟨t1, h1, h⟩ := Zz0.mp h
 obtain ⟨b, h2, h⟩ := Zz1.mp h
 subst h
 obtain ⟨v, X, F, a1, a2, a3, a4⟩ := x c ρ σ H Φ t1 s h1
 exact ⟨.bool !b, X, [], by simp only [ZiG, a1, Option.bind_some, ZdZ a2 h2, Option.map_some], .bool _, by simp, by simp⟩
theorem Zez {M : List Nat} {e f : Ex} {p q : PE} (x : E O N u e p) (y : E O M u f q) : E O (N ++ M) u (Zc2 e f) (Zc4 p q) := fun c ρ σ H Φ t s h => by
 obtain ⟨t1, h1, h⟩ := Zz0.mp h
 obtain ⟨b, h2, h⟩ := Zz0.mp h
 obtain ⟨v, X, F, a1, a2, a3, a4⟩ := x c ρ σ H Φ t1 s h1
 cases b with
 | true =>
  obtain ⟨w, Y, F', b1, b2, b3, b4⟩ := y c ρ σ (H ++ X) Φ t (s.ext X) (by simpa using h)
  exact ⟨w, X ++ Y, F', by simp [Zc2, a1, ZdZ a2 h2, b1], by rw [← List.append_assoc]; exact b2, fun a m => (b3 a m).back.mono fun i hi => List.mem_append_right _ hi, b4⟩
 | false =>
  cases h
  exact ⟨v, X, F, by simp [Zc2, a1, ZdZ a2 h2], a2, fun a m => (a3 a m).mono fun i hi => List.mem_append_left _ hi, a4⟩
theorem ZwR {M : List Nat} {e f : Ex} {p q : PE} (x : E O N u e p) (y : E O M u f q) : E O (N ++ M) u (eOr e f) (pOr p q) := fun c ρ σ H Φ t s h => by
 obtain ⟨t1, h1, h⟩ := Zz0.mp h
 obtain ⟨b, h2, h⟩ := Zz0.mp h
 obtain ⟨v, X, F, a1, a2, a3, a4⟩ := x c ρ σ H Φ t1 s h1
 cases b with
 | false =>
  obtain ⟨w, Y, F', b1, b2, b3, b4⟩ := y c ρ σ (H ++ X) Φ t (s.ext X) (by simpa using h)
  exact ⟨w, X ++ Y, F', by simp [eOr, a1, ZdZ a2 h2, b1], by rw [← List.append_assoc]; exact b2, fun a m => (b3 a m).back.mono fun i hi => List.mem_append_right _ hi, b4⟩
 | true =>
  cases h
  exact ⟨v, X, F, by simp [eOr, a1, ZdZ a2 h2], a2, fun a m => (a3 a m).mono fun i hi => List.mem_append_left _ hi, a4⟩
noncomputable def ZmC : T → String
 | .none => "NoneType"
 | .bool _ => "bool"
 | .int _ => "int"
 | .str _ => "str"
 | .tup _ => "tuple"
 | .lst _ => "list"
end
end TM
end
section
set_option maxRecDepth 100000
set_option linter.all false
set_option autoImplicit false
namespace TM
open PySem PM
section
variable {O N : List Nat} {u : Bool}
noncomputable def Zh0 (K : String) (t : T) : Bool := ZmC t == K || (K == "int" && ZmC t == "bool")
noncomputable def pIs (K : String) (p : PE) : PE := fun σ => (p σ).map fun t => .bool (Zh0 K t)
theorem ZuF {H : Hp} {v : V} {t : T} {F : List Nat} (r : RF H v t F) : ZmB v = ZmC t := by cases r <;> rfl
theorem ZdO {K : String} {e : Ex} {p : PE} (x : E O N u e p) : E O [] true (eIs K e) (pIs K p) := fun c ρ σ H Φ t s h => by
 obtain ⟨t1, h1, h⟩ := Zz1.mp h
 subst h
 obtain ⟨v, X, F, a1, a2, a3, a4⟩ := x c ρ σ H Φ t1 s h1
 exact ⟨.bool (Zh0 K t1), X, [], by simp only [eIs, a1, Option.map_some, Zm1, Zh0, ZuF a2], .bool _, by simp, by simp⟩
noncomputable def ZaX : T → T → Option T
 | .int a, .int b => some (.int (a - b))
 | _, _ => none
noncomputable def Zcv : T → T → Option T
 | .int a, .int b => if b ≠ 0 ∧ Builtin.divisionGoesByPylong a b = false then some (.int (a.fdiv b)) else none
 | _, _ => none
noncomputable def Za0 : T → T → Option T
 | .int a, .int b => if b ≠ 0 then some (.int (a.fmod b)) else none
 | _, _ => none
noncomputable def Zdm : T → T → Option T
 | .int a, .int b => if 0 ≤ b ∧ (Builtin.Int.intBits a : Int) * b ≤ 2 ^ 27 then some (.int (a ^ b.toNat)) else none
 | _, _ => none
noncomputable def Zbh : T → Option T
 | .int a => some (.int (-a))
 | _ => none
noncomputable def ZiK (p : Int → Int → Bool) : T → T → Option T
 | .int a, .int b => some (.bool (p a b))
 | _, _ => none
noncomputable def qLt := ZiK fun a b => decide (a < b)
noncomputable def qLe := ZiK fun a b => decide (a ≤ b)
noncomputable def qGt := ZiK fun a b => decide (b < a)
theorem Zbr : OA2 Zbj ZaX := fun H v1 v2 t1 t2 t F1 F2 r1 r2 h => by
 cases r1 <;> first | (cases h; done) | (cases r2 <;> first | (cases h; done) | (cases h; exact ⟨_, rfl, .int _⟩))
theorem Zc0 : OA2 oDiv Zcv := fun H v1 v2 t1 t2 t F1 F2 r1 r2 h => by
 cases r1 <;> first | (cases h; done) | skip
 cases r2 <;> first | (cases h; done) | skip
 simp only [Zcv] at h
 split at h
 ·rename_i hc; cases h; exact ⟨_, by simp only [oDiv]; rw [if_pos hc], .int _⟩
 ·cases h
theorem Zbf : OA2 oMod Za0 := fun H v1 v2 t1 t2 t F1 F2 r1 r2 h => by
 cases r1 <;> first | (cases h; done) | skip
 cases r2 <;> first | (cases h; done) | skip
 simp only [Za0] at h
 split at h
 ·rename_i hc; cases h; exact ⟨_, by simp only [oMod]; rw [if_pos hc], .int _⟩
 ·cases h
theorem Znl : OA2 oPow Zdm := fun H v1 v2 t1 t2 t F1 F2 r1 r2 h => by
 cases r1 <;> first | (cases h; done) | skip
 cases r2 <;> first | (cases h; done) | skip
 simp only [Zdm] at h
 split at h
 ·rename_i hc; cases h; exact ⟨_, by simp only [oPow]; rw [if_pos hc], .int _⟩
 ·cases h
theorem ZbM : OA1 Zbx Zbh := fun H v1 t1 t F1 r1 h => by
 cases r1 <;> first | (cases h; done) | (cases h; exact ⟨_, rfl, .int _⟩)
theorem Znm (p : Int → Int → Bool) : OA2 (ZiH p) (ZiK p) := fun H v1 v2 t1 t2 t F1 F2 r1 r2 h => by
 cases r1 <;> first | (cases h; done) | (cases r2 <;> first | (cases h; done) | (cases h; exact ⟨_, rfl, .bool _⟩))
theorem Zcm : OA2 oLt qLt := Znm _
theorem Znv : OA2 oLe qLe := Znm _
theorem Zdn : OA2 oGt qGt := Znm _
noncomputable def ZeA (f : T → Option PyData) : List T → Option (List PyData)
 | [] => some []
 | v :: vs => (f v).bind fun d => (ZeA f vs).bind fun ds => some (d :: ds)
noncomputable def ZcP : Nat → T → Option PyData
 | _, .none => some .none
 | _, .bool b => some (.bool b)
 | _, .int i => some (.int i)
 | _, .str x => some (.str x)
 | n + 1, .tup vs => (ZeA (ZcP n) vs).map .tuple
 | n + 1, .lst vs => (ZeA (ZcP n) vs).map .list
 | 0, .tup _ => none
 | 0, .lst _ => none
theorem ZmD {H : Hp} {f : V → Option PyData} {g : T → Option PyData} (h : ∀ v t F, RF H v t F → f v = g t) : ∀ {vs : List V} {ts : List T} {F : List Nat}, RFs H vs ts F → ZfB f vs = ZeA g ts
 | _, _, _, .nil => rfl
 | _, _, _, .cons a b => by simp only [ZfB, ZeA, h _ _ _ a, ZmD h b]
theorem Zil {H : Hp} : ∀ (n : Nat) (v : V) (t : T) (F : List Nat), RF H v t F → toD H n v = ZcP n t := by
 intro n
 induction n with
 | zero => intro v t F r; cases r <;> rfl
 | succ n ih =>
  intro v t F r
  cases r with
  | none => rfl
  | bool => rfl
  | int => rfl
  | str => rfl
  | tup hs => simp only [toD, ZcP, ZmD ih hs]
  | ref e hs => simp only [toD, ZcP, e, Option.bind_some, ZmD ih hs]
noncomputable def Zea (a b : T) : Option Bool := (ZcP Zb1 a).bind fun d => (ZcP Zb1 b).bind fun e => if SeqAt.shaped d = true ∧ SeqAt.shaped e = true then some (PyData.eqv d e) else none
noncomputable def qEq (a b : T) : Option T := (Zea a b).map .bool
noncomputable def qNe (a b : T) : Option T := (Zea a b).map fun c => .bool !c
theorem Zqe {H : Hp} {v1 v2 : V} {t1 t2 : T} {F1 F2 : List Nat} (r1 : RF H v1 t1 F1) (r2 : RF H v2 t2 F2) : ZiI v1 v2 H = Zea t1 t2 := by
 simp only [ZiI, Zea, Zil Zb1 _ _ _ r1, Zil Zb1 _ _ _ r2]
theorem ZaF : OA2 oEq qEq := fun H v1 v2 t1 t2 t F1 F2 r1 r2 h => by
 obtain ⟨c, h1, h⟩ := Zz1.mp h
 subst h
 exact ⟨_, by simp only [oEq, Zqe r1 r2, h1, Option.map_some], .bool _⟩
theorem ZbA : OA2 oNe qNe := fun H v1 v2 t1 t2 t F1 F2 r1 r2 h => by
 obtain ⟨c, h1, h⟩ := Zz1.mp h
 subst h
 exact ⟨_, by simp only [oNe, Zqe r1 r2, h1, Option.map_some], .bool _⟩
noncomputable def qIs : T → T → Option T
 | .none, .none => some (.bool true)
 | _, .none => some (.bool false)
 | _, _ => none
noncomputable def Zbm : T → T → Option T
 | .none, .none => some (.bool false)
 | _, .none => some (.bool true)
 | _, _ => none
theorem Zbl : OA2 oIs qIs := fun H v1 v2 t1 t2 t F1 F2 r1 r2 h => by
 cases r1 <;> cases r2 <;> first | (cases h; done) | (cases h; exact ⟨_, rfl, .bool _⟩)
theorem ZbV : OA2 ZbC Zbm := fun H v1 v2 t1 t2 t F1 F2 r1 r2 h => by
 cases r1 <;> cases r2 <;> first | (cases h; done) | (cases h; exact ⟨_, rfl, .bool _⟩)
noncomputable def Zr : T → T → Option T
 | .lst ts, .int k => (seqIndex? k ts.length).bind fun j => ts[j]?
 | .tup ts, .int k => (seqIndex? k ts.length).bind fun j => ts[j]?
 | _, _ => none
theorem ZA : OI2 Zv Zr := fun H v1 v2 t1 t2 t F1 F2 r1 r2 h => by
 cases r1 with
 | none => cases h
 | bool => cases h
 | int => cases h
 | str => cases h
 | tup hs =>
  cases r2 <;> first | (cases h; done) | skip
  obtain ⟨j, h1, h2⟩ := Zz0.mp h
  obtain ⟨v, G, e1, e2, e3⟩ := hs.at h2
  exact ⟨v, G, by simp only [Zv, hs.length, h1, Option.bind_some, e1, Option.map_some], e2, e3⟩
 | ref e hs =>
  cases r2 <;> first | (cases h; done) | skip
  obtain ⟨j, h1, h2⟩ := Zz0.mp h
  obtain ⟨v, G, e1, e2, e3⟩ := hs.at h2
  exact ⟨v, G, by simp only [Zv, e, Option.bind_some, hs.length, h1, e1, Option.map_some], e2, e3.trans (List.sublist_cons_self _ _)⟩
noncomputable def Zaq : List T → Option T
 | [.lst ts] => some (.int ts.length)
 | [.tup ts] => some (.int ts.length)
 | _ => none
theorem RFs.one_inv {H : Hp} {vs : List V} {t : T} {F : List Nat} (r : RFs H vs [t] F) : ∃ v, vs = [v] ∧ RF H v t F := by
 cases r with
 | cons a b => cases b; rw [List.append_nil]; exact ⟨_, rfl, a⟩
theorem RFs.two_inv {H : Hp} {vs : List V} {t t' : T} {F : List Nat} (r : RFs H vs [t, t'] F) : ∃ v v' F1 F2, vs = [v, v'] ∧ RF H v t F1 ∧ RF H v' t' F2 ∧ F = F1 ++ F2 := by
 cases r with
 | cons a b => obtain ⟨v', h1, h2⟩ := b.one_inv; subst h1; exact ⟨_, _, _, _, rfl, a, h2, rfl⟩
theorem ZaR : OAn ZaE Zaq := fun H vs ts t F r h => by
 unfold Zaq at h
 split at h
 ·obtain ⟨v, rfl, r'⟩ := r.one_inv
  cases r' with
  | ref e hs => cases h; exact ⟨_, by simp only [ZaE, e, Option.map_some, hs.length], .int _⟩
 ·obtain ⟨v, rfl, r'⟩ := r.one_inv
  cases r' with
  | tup hs => cases h; exact ⟨_, by simp only [ZaE, hs.length], .int _⟩
 ·cases h
noncomputable def Zc5 : List T → Option T
 | [.int a] => some (.int (if a < 0 then -a else a))
 | _ => none
theorem ZdK : OAn Zc3 Zc5 := fun H vs ts t F r h => by
 unfold Zc5 at h
 split at h
 ·obtain ⟨v, rfl, r'⟩ := r.one_inv
  cases r'; cases h; exact ⟨_, rfl, .int _⟩
 ·cases h
noncomputable def ZwZ : List T → Option T
 | [.int a, .int b] => some (.int (if b > a then b else a))
 | _ => none
noncomputable def ZiA : List T → Option T
 | [.int a, .int b] => some (.int (if b < a then b else a))
 | _ => none
theorem ZvN : OAn Ziy ZiA := fun H vs ts t F r h => by
 unfold ZiA at h
 split at h
 ·obtain ⟨v, w, F1, F2, rfl, r1, r2, _⟩ := r.two_inv
  cases r1; cases r2; cases h; exact ⟨_, rfl, .int _⟩
 ·cases h
noncomputable def Zdk : List T → Option (List Int)
 | [] => some []
 | .int k :: vs => (Zdk vs).map fun ks => k :: ks
 | _ :: _ => none
noncomputable def Zfq : List T → Option (List Bool)
 | [] => some []
 | .bool k :: vs => (Zfq vs).map fun ks => k :: ks
 | _ :: _ => none
theorem Zh1 {H : Hp} : ∀ {vs : List V} {ts : List T} {F : List Nat} {ks : List Int}, RFs H vs ts F → Zdk ts = some ks → Zds vs = some ks
 | _, _, _, _, .nil, h => h
 | _, _, _, _, .cons a b, h => by
  cases a <;> first | (cases h; done) | skip
  obtain ⟨js, h1, h2⟩ := Zz1.mp h
  subst h2
  simp only [Zds, Zh1 b h1, Option.map_some]
theorem Zo6 {H : Hp} : ∀ {vs : List V} {ts : List T} {F : List Nat} {ks : List Bool}, RFs H vs ts F → Zfq ts = some ks → Zfl vs = some ks
 | _, _, _, _, .nil, h => h
 | _, _, _, _, .cons a b, h => by
  cases a <;> first | (cases h; done) | skip
  obtain ⟨js, h1, h2⟩ := Zz1.mp h
  subst h2
  simp only [Zfl, Zo6 b h1, Option.map_some]
noncomputable def ZiL : List T → Option T
 | [.lst ts] => (Zdk ts).map fun ks => .int ks.sum
 | _ => none
noncomputable def ZgN : List T → Option T
 | [.lst ts] => (Zfq ts).map fun bs => .bool (bs.any id)
 | _ => none
theorem Zwt : OAn ZgK ZiL := fun H vs ts t F r h => by
 unfold ZiL at h
 split at h
 ·obtain ⟨v, rfl, r'⟩ := r.one_inv
  cases r' with
  | ref e hs =>
   obtain ⟨ks, h1, h2⟩ := Zz1.mp h
   subst h2
   exact ⟨_, by simp only [ZgK, e, Option.bind_some, Zh1 hs h1, Option.map_some], .int _⟩
 ·cases h
theorem Zwu : OAn ZgM ZgN := fun H vs ts t F r h => by
 unfold ZgN at h
 split at h
 ·obtain ⟨v, rfl, r'⟩ := r.one_inv
  cases r' with
  | ref e hs =>
   obtain ⟨ks, h1, h2⟩ := Zz1.mp h
   subst h2
   exact ⟨_, by simp only [ZgM, e, Option.bind_some, Zo6 hs h1, Option.map_some], .bool _⟩
 ·cases h
theorem ZeF {H : Hp} {vs : List V} {ts : List T} {F : List Nat} (r : RFs H vs ts F) : RF (H ++ [vs]) (.ref H.length) (.lst ts) (H.length :: F) := .ref (by simp) (r.ext _)
theorem Zga {H : Hp} {vs : List V} {ts : List T} {F : List Nat} (r : RFs H vs ts F) (h : T.flatIn (.lst ts) = true) : (H.length :: F).Nodup ∧ ∀ a ∈ H.length :: F, H.length ≤ a := by
 rw [r.flats (by simpa [T.flatIn] using h)]
 simp
theorem ZtR {H : Hp} {v : V} {t : T} {F : List Nat} (r : RF H v t F) (h : F = []) : F.Nodup ∧ ∀ a ∈ F, H.length ≤ a := by subst h; simp
noncomputable def ZgO (ts : List T) : Nat → List T
 | 0 => []
 | n + 1 => ZgO ts n ++ ts
noncomputable def Zae : T → T → Option T
 | .int a, .int b => some (.int (a + b))
 | .lst a, .lst b => if (a ++ b).length ≤ LEN then some (.lst (a ++ b)) else none
 | .tup a, .tup b => if (a ++ b).length ≤ LEN then some (.tup (a ++ b)) else none
 | _, _ => none
noncomputable def ZaG : T → T → Option T
 | .int a, .int b => if mulOk a b = true then some (.int (a * b)) else none
 | .lst a, .int k => if a.length * k.toNat ≤ LEN ∧ -(2 ^ 63 : Int) ≤ k ∧ k < 2 ^ 63 then some (.lst (ZgO a k.toNat)) else none
 | _, _ => none
theorem Zqf {H : Hp} {vs : List V} {ts : List T} {F : List Nat} (r : RFs H vs ts F) : ∀ n, ∃ G, RFs H (ZeE vs n) (ZgO ts n) G ∧ ∀ a ∈ G, a ∈ F
 | 0 => ⟨_, .nil, by simp⟩
 | n + 1 => by
  obtain ⟨G, h1, h2⟩ := Zqf r n
  exact ⟨_, h1.append r, fun a m => (List.mem_append.mp m).elim (h2 a) id⟩
theorem Zak : OC2 Zah Zae := fun H v1 v2 t1 t2 t F1 F2 r1 r2 h => by
 cases r1 with
 | none => cases h
 | bool => cases h
 | str => cases h
 | int a =>
  cases r2 <;> first | (cases h; done) | skip
  cases h; exact ⟨_, [], [], by simp [Zah], .int _, by simp, by simp⟩
 | tup hs1 =>
  cases r2 with
  | none => cases h
  | bool => cases h
  | str => cases h
  | int => cases h
  | ref => cases h
  | tup hs2 =>
   simp only [Zae] at h
   split at h
   ·rename_i hl
    cases h
    refine ⟨_, [], _, ?_, .tup (by simpa using hs1.append hs2), fun a m => .inr (List.mem_append.mp m), fun hf => ZtR (H := H) (.tup (hs1.append hs2)) ((RF.tup (hs1.append hs2)).flat (by simpa [T.flatIn] using hf))⟩
    simp only [Zah, List.append_nil]
    rw [if_pos (by rw [List.length_append] at hl ⊢; rw [hs1.length, hs2.length]; exact hl)]
   ·cases h
 | ref e1 hs1 =>
  cases r2 with
  | none => cases h
  | bool => cases h
  | str => cases h
  | int => cases h
  | tup => cases h
  | ref e2 hs2 =>
   simp only [Zae] at h
   split at h
   ·rename_i hl
    cases h
    refine ⟨_, _, _, ?_, ZeF (hs1.append hs2), fun a m => ?_, Zga (hs1.append hs2)⟩
    ·simp only [Zah, e1, e2, Option.bind_some]
     rw [if_pos (by rw [List.length_append] at hl ⊢; rw [hs1.length, hs2.length]; exact hl)]
    ·rcases List.mem_cons.mp m with rfl | m
     ·exact .inl (Nat.le_refl _)
     ·rcases List.mem_append.mp m with m | m
      ·exact .inr (.inl (Zz2 _ m))
      ·exact .inr (.inr (Zz2 _ m))
   ·cases h
theorem Zbb : OC2 ZaV ZaG := fun H v1 v2 t1 t2 t F1 F2 r1 r2 h => by
 cases r1 with
 | none => cases h
 | bool => cases h
 | str => cases h
 | tup => cases h
 | int a =>
  cases r2 <;> first | (cases h; done) | skip
  simp only [ZaG] at h
  split at h
  ·rename_i hm
   cases h; exact ⟨_, [], [], by simp only [ZaV]; rw [if_pos hm]; simp, .int _, by simp, by simp⟩
  ·cases h
 | ref e1 hs1 =>
  cases r2 with
  | none => cases h
  | bool => cases h
  | str => cases h
  | tup => cases h
  | ref => cases h
  | int k =>
   simp only [ZaG] at h
   split at h
   ·rename_i hl
    cases h
    obtain ⟨G, h1, h2⟩ := Zqf hs1 k.toNat
    refine ⟨_, _, _, ?_, ZeF h1, fun a m => ?_, Zga h1⟩
    ·simp only [ZaV, e1, Option.bind_some]
     rw [if_pos (by rw [hs1.length]; exact hl)]
    ·rcases List.mem_cons.mp m with rfl | m
     ·exact .inl (Nat.le_refl _)
     ·exact .inr (.inl (Zz2 _ (h2 a m)))
   ·cases h
noncomputable def ZbX : List T → Option T
 | [.lst ts] => some (.lst ts)
 | [.tup ts] => some (.lst ts)
 | _ => none
noncomputable def Zh2 : List T → Option T
 | [.lst ts] => some (.tup ts)
 | [.tup ts] => some (.tup ts)
 | _ => none
theorem Zdb : OCn Zco ZbX := fun H vs ts t F hp r h => by
 unfold ZbX at h
 split at h
 ·obtain ⟨v, rfl, r'⟩ := r.one_inv
  cases r' with
  | ref e hs => cases h; exact ⟨_, _, _, by simp only [Zco, e, Option.map_some], ZeF hs, fun a m => (List.mem_cons.mp m).imp (fun q => Nat.le_of_eq q.symm) (Zz2 _), Zga hs⟩
 ·obtain ⟨v, rfl, r'⟩ := r.one_inv
  cases r' with
  | tup hs => cases h; exact ⟨_, _, _, by simp only [Zco], ZeF hs, fun a m => (List.mem_cons.mp m).imp (fun q => Nat.le_of_eq q.symm) id, Zga hs⟩
 ·cases h
end
end TM
end
section
set_option maxRecDepth 100000
set_option linter.all false
set_option autoImplicit false
namespace TM
open PySem PM
theorem St.from_src {c : Ctx} {O N : List Nat} {ρ : Lc} {σ : TL} {H : Hp} {Φ : Nat → List Nat} (s : St c O ρ σ H Φ) {a : Nat} (f : From H N σ Φ a) : c.H0.length ≤ a ∨ c.P a := by
 rcases f with h | ⟨i, hi, ⟨t, e⟩, m⟩
 ·exact .inl (Nat.le_trans s.len h)
 ·exact s.src i t e a m
theorem St.from_off {c : Ctx} {O N : List Nat} {ρ : Lc} {σ : TL} {H : Hp} {Φ : Nat → List Nat} (s : St c O ρ σ H Φ) (hN : ∀ i ∈ N, i ∉ O) {a : Nat} (f : From H N σ Φ a) {i : Nat} (hi : i ∈ O) {t : T} (e : σ i = some t) : a ∉ Φ i := by
 intro m
 obtain ⟨v, _, r⟩ := s.slot i t e
 have hl := r.lt a m
 rcases f with h | ⟨j, hj, ⟨t', e'⟩, m'⟩
 ·omega
 ·exact (s.own i hi t e).2.2 j t' (fun q => hN j hj (q ▸ hi)) e' a m m'
noncomputable abbrev PPt := TL → Option (Option Int)
noncomputable def ZvO : PPt := fun _ => some none
noncomputable def ZwW (p : PE) : PPt := fun σ => (p σ).bind fun t => match t with
 | .int k => some (some k)
 | _ => none
noncomputable def Pe (O : List Nat) (f : Pt) (p : PPt) : Prop := ∀ (c : Ctx) (ρ : Lc) (σ : TL) (H : Hp) (Φ : Nat → List Nat) (k : Option Int), St c O ρ σ H Φ → p σ = some k → ∃ o X, f ρ H = some (o, H ++ X) ∧ ZgC o = some k
section
variable {O N : List Nat} {u : Bool}
theorem Pe.none : Pe O PM.ZgD ZvO := fun c ρ σ H Φ k s h => by
 cases h; exact ⟨Option.none, [], by simp [PM.ZgD], rfl⟩
noncomputable def ZwX (p : PE) (lo hi : PPt) : PE := fun σ => (p σ).bind fun t => (lo σ).bind fun a => (hi σ).bind fun b => match t with
 | .lst ts => Option.some (.lst (ZcZ ts a b))
 | _ => Option.none
noncomputable def ZcG (p : PE) (k : Nat) : PE := fun σ => (p σ).bind fun t => match t with
 | .lst ts => Option.some (.lst (ts.drop k))
 | .tup ts => if 1 ≤ k ∧ k ≤ ts.length then Option.some (.tup (ts.drop k)) else Option.none
 | _ => Option.none
theorem Zs6 {c : Ctx} {ρ : Lc} {σ : TL} {H : Hp} {Φ : Nat → List Nat} {t : T} {e : Ex} {p : PE} {k : Nat} (x : E O N u e p) (s : St c O ρ σ H Φ) (h : ZcG p k σ = Option.some t) :
  ∃ v X F, Zdj e k ρ H = Option.some (v, H ++ X) ∧ RF (H ++ X) v t F ∧ (∀ a ∈ F, From H N σ Φ a) ∧ (t.flatIn = true → F.Nodup ∧ ∀ a ∈ F, H.length ≤ a) := by
 obtain ⟨t1, h1, h⟩ := Zz0.mp h
 obtain ⟨v, X, F, a1, a2, a3, a4⟩ := x c ρ σ H Φ t1 s h1
 cases a2 with
 | none => cases h
 | bool => cases h
 | int => cases h
 | str => cases h
 | tup hs =>
  simp only at h
  split at h
  ·rename_i hc
   cases h
   obtain ⟨G, g1, g2⟩ := hs.drop k
   refine ⟨_, X, G, ?_, .tup g1, fun a m => a3 a (g2.subset m), fun hf => ?_⟩
   ·simp only [Zdj, a1, Option.bind_some]
    rw [if_pos (by rw [hs.length]; exact hc)]
   ·rw [g1.flats (by simpa [T.flatIn, T.flat] using hf)]
    simp
  ·cases h
 | @ref b vs1 ts1 F1 e1 hs =>
  cases h
  obtain ⟨G, g1, g2⟩ := hs.drop k
  refine ⟨.ref (H ++ X).length, X ++ [vs1.drop k], (H ++ X).length :: G, ?_, ?_, fun a m => ?_, fun hf => ?_⟩
  ·simp only [Zdj, a1, Option.bind_some, e1, List.append_assoc]
  ·rw [← List.append_assoc]; exact ZeF g1
  ·rcases List.mem_cons.mp m with rfl | m
   ·exact .inl (by simp)
   ·exact a3 a (Zz2 _ (g2.subset m))
  ·have := Zga g1 hf
   exact ⟨this.1, fun q m => by have := this.2 q m; simp at this; omega⟩
theorem Zfr {e : Ex} {p : PE} {k : Nat} (x : E O N u e p) : E O N false (Zdj e k) (ZcG p k) := fun c ρ σ H Φ t s h => by
 obtain ⟨v, X, F, a1, a2, a3, a4⟩ := Zs6 x s h
 exact ⟨v, X, F, a1, a2, a3, by simp⟩
end
noncomputable def Gs (O N : List Nat) (g : Src) (q : PG) : Prop := ∀ (c : Ctx) (ρ : Lc) (σ : TL) (H : Hp) (Φ : Nat → List Nat) (ts : List T), St c O ρ σ H Φ → q σ = some ts →
 ∃ (nx : Nx) (X : Hp) (vs : List V) (F G : List Nat), g ρ H = some (nx, ts.length + 1, H ++ X) ∧ RFs (H ++ X) vs ts F ∧ (∀ a ∈ F, a ∈ G) ∧ (∀ a ∈ G, a < (H ++ X).length ∧ From H N σ Φ a) ∧ ∀ K : Hp, (∀ a ∈ G, K[a]? = (H ++ X)[a]?) → ∀ i, i ≤ vs.length → nx i K = some vs[i]?
section
variable {O N M : List Nat} {u u' : Bool}
noncomputable def ZaH (p : PE) : PG := fun σ => (p σ).bind fun t => match t with
 | .lst ts => some ts
 | .tup ts => some ts
 | _ => none
theorem Gs.seq {e : Ex} {p : PE} (x : E O N u e p) : Gs O N (Zbz e) (ZaH p) := fun c ρ σ H Φ ts s h => by
 obtain ⟨t1, h1, h⟩ := Zz0.mp h
 obtain ⟨v, X, F, a1, a2, a3, a4⟩ := x c ρ σ H Φ t1 s h1
 have hlt := a2.lt
 cases a2 with
 | none => cases h
 | bool => cases h
 | int => cases h
 | str => cases h
 | @tup vs _ _ hs =>
  cases h
  exact ⟨Zqc vs, X, vs, F, F, by simp only [Zbz, a1, Option.bind_some, hs.length], hs, fun _ m => m, fun a m => ⟨hlt a m, a3 a m⟩, fun K _ i hi => rfl⟩
 | @ref b vs _ F' e1 hs =>
  cases h
  refine ⟨Zm2 b, X, vs, F', b :: F', by simp only [Zbz, a1, Option.bind_some, e1, Option.map_some, hs.length], hs, fun _ m => List.mem_cons_of_mem _ m, fun a m => ⟨hlt a m, a3 a m⟩, fun K hK i hi => ?_⟩
  simp only [Zm2, hK b Zz5, e1, Option.map_some]
noncomputable def Zcw (a b c : Int) : Option (List T) := if c ≠ 0 ∧ Builtin.Range.small a b c = true ∧ 0 ≤ Builtin.Range.rangeSize a b c ∧ rngN a b c ≤ LEN ∧ Builtin.divisionGoesByPylong (b - a) c = false then some ((List.range (rngN a b c)).map fun (i : Nat) => .int (a + (i : Int) * c)) else none
noncomputable def Zaz (p : PEs) : PG := fun σ => (p σ).bind fun ts => match ts with
 | [.int b] => Zcw 0 b 1
 | [.int a, .int b] => Zcw a b 1
 | [.int a, .int b, .int c] => Zcw a b c
 | _ => none
theorem Zo7 (H : Hp) (a c : Int) : ∀ (l : List Nat), RFs H (l.map fun (i : Nat) => .int (a + (i : Int) * c)) (l.map fun (i : Nat) => .int (a + (i : Int) * c)) []
 | [] => .nil
 | i :: l => by have := RFs.cons (RF.int (H := H) (a + i * c)) (Zo7 H a c l); exact this
theorem Zmm {a b c : Int} {H : Hp} {ts : List T} (h : Zcw a b c = some ts) : ∃ (nx : Nx) (vs : List V), Zcy a b c H = some (nx, ts.length + 1, H) ∧ RFs H vs ts [] ∧ ∀ K : Hp, ∀ i, i ≤ vs.length → nx i K = some vs[i]? := by
 unfold Zcw at h
 split at h
 ·rename_i hc
  cases h
  refine ⟨Zfj a c (rngN a b c), (List.range (rngN a b c)).map fun (i : Nat) => .int (a + (i : Int) * c), ?_, Zo7 H a c _, fun K i hi => ?_⟩
  ·unfold Zcy
   rw [if_pos hc]
   simp
  ·simp only [Zfj, List.getElem?_map]
   by_cases q : i < rngN a b c
   ·rw [if_pos q, List.getElem?_range q]; rfl
   ·rw [if_neg q, List.getElem?_eq_none (by simpa using Nat.le_of_not_lt q)]; rfl
 ·cases h
theorem RFs.three_inv {H : Hp} {vs : List V} {t t' t'' : T} {F : List Nat} (r : RFs H vs [t, t', t''] F) : ∃ v v' v'' F1 F2 F3, vs = [v, v', v''] ∧ RF H v t F1 ∧ RF H v' t' F2 ∧ RF H v'' t'' F3 := by
 cases r with
 | cons a b => obtain ⟨v', v'', F2, F3, h1, h2, h3, _⟩ := b.two_inv; subst h1; exact ⟨_, _, _, _, _, _, rfl, a, h2, h3⟩
theorem Gs.range {n : Nat} {e : Exs} {p : PEs} (x : Es O N u n e p) : Gs O [] (ZaM e) (Zaz p) := fun c ρ σ H Φ ts s h => by
 obtain ⟨t1, h1, h⟩ := Zz0.mp h
 obtain ⟨_, vs, X, F, a1, a2, a3, a4⟩ := x c ρ σ H Φ t1 s h1
 split at h
 ·obtain ⟨v, rfl, r⟩ := a2.one_inv
  cases r
  obtain ⟨nx, us, q1, q2, q3⟩ := Zmm (H := H ++ X) h
  exact ⟨nx, X, us, [], [], by simp only [ZaM, a1, Option.bind_some, q1], q2, by simp, by simp, fun K _ => q3 K⟩
 ·obtain ⟨v, v', F1, F2, rfl, r, r', _⟩ := a2.two_inv
  cases r; cases r'
  obtain ⟨nx, us, q1, q2, q3⟩ := Zmm (H := H ++ X) h
  exact ⟨nx, X, us, [], [], by simp only [ZaM, a1, Option.bind_some, q1], q2, by simp, by simp, fun K _ => q3 K⟩
 ·obtain ⟨v, v', v'', F1, F2, F3, rfl, r, r', r''⟩ := a2.three_inv
  cases r; cases r'; cases r''
  obtain ⟨nx, us, q1, q2, q3⟩ := Zmm (H := H ++ X) h
  exact ⟨nx, X, us, [], [], by simp only [ZaM, a1, Option.bind_some, q1], q2, by simp, by simp, fun K _ => q3 K⟩
 ·cases h
noncomputable def ZdP (p q : PE) : PG := fun σ => (p σ).bind fun t => (q σ).bind fun s => match t, s with
 | .lst ts, .lst ss => some (List.zipWith (fun x y => .tup [x, y]) ts ss)
 | _, _ => none
theorem RFs.zip {H : Hp} : ∀ {vs us : List V} {ts ss : List T} {F G : List Nat}, RFs H vs ts F → RFs H us ss G → ∃ D, RFs H (List.zipWith (fun x y => .tup [x, y]) vs us) (List.zipWith (fun x y => .tup [x, y]) ts ss) D ∧ ∀ a ∈ D, a ∈ F ∨ a ∈ G
 | _, _, _, _, _, _, .nil, _ => ⟨_, .nil, by simp⟩
 | _, _, _, _, _, _, .cons _ _, .nil => ⟨_, .nil, by simp⟩
 | _, _, _, _, _, _, .cons a b, .cons a' b' => by
  obtain ⟨D, h1, h2⟩ := b.zip b'
  refine ⟨_, .cons (.tup (.cons a (.one a'))) h1, fun x m => ?_⟩
  rcases List.mem_append.mp m with m | m
  ·rcases List.mem_append.mp m with m | m
   ·exact .inl (Zz4 _ m)
   ·exact .inr (Zz4 _ m)
  ·exact (h2 x m).imp (Zz3 _) (Zz3 _)
theorem Gs.zip {e1 e2 : Ex} {p1 p2 : PE} (x : E O N u e1 p1) (y : E O M u' e2 p2) : Gs O (N ++ M) (ZdN e1 e2) (ZdP p1 p2) := fun c ρ σ H Φ ts s h => by
 obtain ⟨t1, h1, h⟩ := Zz0.mp h
 obtain ⟨t2, h2, h⟩ := Zz0.mp h
 obtain ⟨v, X, F, a1, a2, a3, a4⟩ := x c ρ σ H Φ t1 s h1
 obtain ⟨w, Y, G, b1, b2, b3, b4⟩ := y c ρ σ (H ++ X) Φ t2 (s.ext X) h2
 have a2 := a2.ext Y
 have l1 := a2.lt
 have l2 := b2.lt
 rw [List.append_assoc] at a2 b2 l1 l2 b1
 cases a2 with
 | none => cases h
 | bool => cases h
 | int => cases h
 | str => cases h
 | tup => cases b2 <;> cases h
 | @ref a vs _ F' e1 hs =>
  cases b2 with
  | none => cases h
  | bool => cases h
  | int => cases h
  | str => cases h
  | tup => cases h
  | @ref b us _ G' e2 hs2 =>
   cases h
   obtain ⟨D, d1, d2⟩ := hs.zip hs2
   refine ⟨ZgE a b, X ++ Y, _, D, a :: b :: D, ?_, d1, fun q m => List.mem_cons_of_mem _ (Zz2 _ m), fun q m => ?_, fun K hK i hi => ?_⟩
   ·simp only [ZdN, a1, Option.bind_some, b1, e1, e2, Option.map_some, List.length_zipWith, hs.length, hs2.length]
   ·rcases List.mem_cons.mp m with rfl | m
    ·exact ⟨l1 _ Zz5, (a3 _ Zz5).mono fun i hi => List.mem_append_left _ hi⟩
    ·rcases List.mem_cons.mp m with rfl | m
     ·exact ⟨l2 _ Zz5, (b3 _ Zz5).back.mono fun i hi => List.mem_append_right _ hi⟩
     ·rcases d2 q m with m | m
      ·exact ⟨l1 _ (Zz2 _ m), (a3 _ (Zz2 _ m)).mono fun i hi => List.mem_append_left _ hi⟩
      ·exact ⟨l2 _ (Zz2 _ m), (b3 _ (Zz2 _ m)).back.mono fun i hi => List.mem_append_right _ hi⟩
   ·simp only [ZgE, hK a Zz5, hK b (Zz2 _ Zz5), e1, e2, Option.bind_some, List.getElem?_zipWith]
    rw [List.length_zipWith] at hi
    by_cases q : i < min vs.length us.length
    ·rw [List.getElem?_eq_getElem (show i < vs.length by omega), List.getElem?_eq_getElem (show i < us.length by omega)]
    ·have q' : i = min vs.length us.length := by omega
     by_cases q2 : i < vs.length
     ·rw [List.getElem?_eq_getElem q2, List.getElem?_eq_none (show us.length ≤ i by omega)]
      simp [q']
     ·rw [List.getElem?_eq_none (show vs.length ≤ i by omega)]
      simp [q']
end
noncomputable def PutOk (O J : List Nat) (put : V → Lc → Option Lc) (q : T → TL → Option TL) : Prop := ∀ (c : Ctx) (ρ : Lc) (σ : TL) (H : Hp) (Φ : Nat → List Nat) (v : V) (t : T) (F : List Nat) (σ1 : TL), St c O ρ σ H Φ → RF H v t F → (∀ a ∈ F, c.H0.length ≤ a ∨ c.P a) → (∀ i ∈ O, ∀ t', σ i = some t' → ∀ a ∈ Φ i, a ∉ F) → q t σ = some σ1 →
 ∃ ρ1 Φ1, put v ρ = some ρ1 ∧ St c O ρ1 σ1 H Φ1 ∧ (∀ i, i ∉ J → σ1 i = σ i ∧ Φ1 i = Φ i) ∧ ∀ i ∈ J, ∀ a ∈ Φ1 i, a ∈ F
noncomputable def Zal (Φ : Nat → List Nat) (j : Nat) (F : List Nat) : Nat → List Nat := fun i => if i = j then F else Φ i
theorem St.put {c : Ctx} {O : List Nat} {ρ : Lc} {σ : TL} {H : Hp} {Φ : Nat → List Nat} {v : V} {t : T} {F : List Nat} {j : Nat} (s : St c O ρ σ H Φ) (hj : j ∉ O) (r : RF H v t F) (hs : ∀ a ∈ F, c.H0.length ≤ a ∨ c.P a) (ho : ∀ i ∈ O, ∀ t', σ i = some t' → ∀ a ∈ Φ i, a ∉ F) : St c O (upd ρ j v) (Z7 σ j t) H (Zal Φ j F) := by
 refine ⟨fun i u e => ?_, fun i u e => ?_, fun i hi u e => ?_, s.len, s.keep, s.pos, s.f0⟩
 ·by_cases q : i = j
  ·subst q
   simp [Z7] at e
   subst e
   exact ⟨v, by simp [upd], by simpa [Zal] using r⟩
  ·simp [Z7, q] at e
   simpa [upd, Zal, q] using s.slot i u e
 ·by_cases q : i = j
  ·subst q; simpa [Zal] using hs
  ·simp [Z7, q] at e
   simpa [Zal, q] using s.src i u e
 ·have q : i ≠ j := fun q => hj (q ▸ hi)
  simp [Z7, q] at e
  obtain ⟨h1, h2, h3⟩ := s.own i hi u e
  refine ⟨by simpa [Zal, q] using h1, by simpa [Zal, q] using h2, fun k w hk ek => ?_⟩
  by_cases q2 : k = j
  ·subst q2
   simpa [Zal, q] using ho i hi u e
  ·simp [Z7, q2] at ek
   simpa [Zal, q, q2] using h3 k w hk ek
noncomputable def Zab (j : Nat) : T → TL → Option TL := fun t σ => some (Z7 σ j t)
noncomputable def ZcO (i j : Nat) : T → TL → Option TL
 | .tup [a, b], σ => some (Z7 (Z7 σ i a) j b)
 | _, _ => none
theorem PutOk.one {O : List Nat} {j : Nat} (hj : j ∉ O) : PutOk O [j] (put1 j) (Zab j) := fun c ρ σ H Φ v t F σ1 s r hs ho h => by
 cases h
 refine ⟨_, _, rfl, s.put hj r hs ho, fun i hi => ?_, fun i hi a m => ?_⟩
 ·have : i ≠ j := fun q => hi (by simp [q])
  simp [Z7, Zal, this]
 ·simp at hi; subst hi; simpa [Zal] using m
theorem PutOk.two {O : List Nat} {i j : Nat} (hi : i ∉ O) (hj : j ∉ O) (hij : i ≠ j) : PutOk O [i, j] (Zcu i j) (ZcO i j) := fun c ρ σ H Φ v t F σ1 s r hs ho h => by
 unfold ZcO at h
 split at h
 ·cases h
  cases r with
  | tup hh =>
   obtain ⟨v1, v2, F1, F2, rfl, r1, r2, rfl⟩ := hh.two_inv
   have s1 := s.put hi r1 (fun a m => hs a (Zz4 _ m)) (fun k hk t' e a m q => ho k hk t' e a m (Zz4 _ q))
   have s2 := s1.put hj r2 (fun a m => hs a (Zz3 _ m)) (fun k hk t' e a m q => by
    have : k ≠ i := fun q => hi (q ▸ hk)
    simp [Z7, Zal, this] at e m
    exact ho k hk t' e a m (Zz3 _ q))
   refine ⟨_, _, rfl, s2, fun k hk => ?_, fun k hk a m => ?_⟩
   ·simp at hk
    simp [Z7, Zal, hk.1, hk.2]
   ·simp at hk
    rcases hk with rfl | rfl
    ·simp [Zal, hij] at m
     exact Zz4 _ m
    ·simp [Zal] at m
     exact Zz3 _ m
 ·cases h
noncomputable def Zcs (put : T → TL → Option TL) (c : PB) (f : PE) (σ : TL) : List T → Option (List T)
 | [] => some []
 | t :: ts => (put t σ).bind fun σ1 => (c σ1).bind fun b => if b then (f σ1).bind fun x => (Zcs put c f σ ts).map fun xs => x :: xs else Zcs put c f σ ts
noncomputable def Zam (g : PG) (put : T → TL → Option TL) (c : PB) (f : PE) : PE := fun σ => (g σ).bind fun ts => if ts.length ≤ LEN then (Zcs put c f σ ts).map .lst else none
section
variable {O Ns Ne J : List Nat} {u : Bool}
theorem comp_core {put : V → Lc → Option Lc} {pput : T → TL → Option TL} {tc : Ts} {pc : PB} {f : Ex} {pf : PE} (hj : PutOk O J put pput) (hN : ∀ i ∈ Ns, i ∉ O) (hc : Bt O tc pc) (hf : E O Ne u f pf) (hu : u = true → Ne = [])
  {c : Ctx} {ρ : Lc} {σ : TL} {Φ : Nat → List Nat} {H0 H1 : Hp} {nx : Nx} {vs : List V} {G : List Nat} (h0 : H0.length ≤ H1.length)
  (hG : ∀ a ∈ G, a < H1.length ∧ From H0 Ns σ Φ a) (hoff : ∀ a ∈ G, ∀ i ∈ O, ∀ t, σ i = some t → a ∉ Φ i) (hsrc : ∀ a ∈ G, c.H0.length ≤ a ∨ c.P a) (hnx : ∀ K : Hp, (∀ a ∈ G, K[a]? = H1[a]?) → ∀ i, i ≤ vs.length → nx i K = some vs[i]?) :
  ∀ (rs : List T) (ws : List V) (i : Nat) (acc : List V) (K : Hp) (Fr : List Nat) (out : List T), (∀ j, vs[i + j]? = ws[j]?) → i + ws.length = vs.length → St c O ρ σ K Φ → H1.length ≤ K.length → (∀ a ∈ G, K[a]? = H1[a]?) → RFs K ws rs Fr → (∀ a ∈ Fr, a ∈ G) → acc.length + rs.length ≤ LEN → Zcs pput pc pf σ rs = some out →
   ∃ xs X F, ZcN nx put tc f ρ (rs.length + 1) i acc K = some (acc ++ xs, K ++ X) ∧ RFs (K ++ X) xs out F ∧ (∀ a ∈ F, (u = true → K.length ≤ a) ∧ From H0 (Ns ++ Ne) σ Φ a) ∧ (u = true → F.Nodup)
 | [], ws, i, acc, K, Fr, out, hat, hlen, s, hl, hk, r, hfr, hacc, h => by
  cases r
  cases h
  have e := hnx K hk i (by simp at hlen; omega)
  have e2 : vs[i]? = none := by have := hat 0; simpa using this
  refine ⟨[], [], [], ?_, .nil, by simp, by simp⟩
  simp [ZcN, e, e2]
 | t :: rs, ws0, i, acc, K, Fr0, out, hat, hlen, s, hl, hk, r, hfr, hacc, h => by
  cases r with
  | @cons v _ F1 ws _ F2 a b =>
  simp only [List.length_cons] at hlen hacc
  obtain ⟨σ1, h1, h⟩ := Zz0.mp h
  obtain ⟨bb, h2, h⟩ := Zz0.mp h
  have e := hnx K hk i (by omega)
  have e2 : vs[i]? = some v := by have := hat 0; simpa using this
  have hat' : ∀ j, vs[i + 1 + j]? = ws[j]? := fun j => by have := hat (j + 1); rw [show i + 1 + j = i + (j + 1) by omega, this]; simp
  obtain ⟨ρ1, Φ1, p1, s1, p3, p4⟩ := hj c ρ σ K Φ v t F1 σ1 s a (fun x m => hsrc x (hfr x (Zz4 _ m))) (fun k hk t' e x m q => hoff x (hfr x (Zz4 _ q)) k hk t' e m) h1
  obtain ⟨X1, c1⟩ := hc c ρ1 σ1 K Φ1 bb s1 h2
  cases bb with
  | true =>
   obtain ⟨y, h3, h⟩ := Zz0.mp h
   obtain ⟨ys, h4, h⟩ := Zz1.mp h
   subst h
   obtain ⟨w, X2, Fw, d1, d2, d3, d4⟩ := hf c ρ1 σ1 (K ++ X1) Φ1 y (s1.ext X1) h3
   have hext : ∀ a ∈ G, (K ++ X1 ++ X2)[a]? = H1[a]? := fun a m => by
    have := (hG a m).1
    rw [List.append_assoc, List.getElem?_append_left (by omega)]; exact hk a m
   obtain ⟨xs, X3, F3, f1, f2, f3, f4⟩ := comp_core hj hN hc hf hu h0 hG hoff hsrc hnx rs ws (i + 1) (acc ++ [w]) (K ++ X1 ++ X2) F2 ys hat' (by omega) ((s.ext X1).ext X2) (by simp; omega) hext (by rw [List.append_assoc]; exact b.ext _) (fun x m => hfr x (Zz3 _ m)) (by simp; omega) h4
   refine ⟨w :: xs, X1 ++ X2 ++ X3, Fw ++ F3, ?_, ?_, fun x m => ?_, fun hu' => ?_⟩
   ·rw [List.length_cons, ZcN, e, e2]
    simp only [Option.bind_some, p1, c1, d1, if_true]
    rw [if_pos (by omega)]
    simpa using f1
   ·have := RFs.cons (d2.ext X3) f2
    simpa using this
   ·rcases List.mem_append.mp m with m | m
    ·refine ⟨fun hu' => ?_, ?_⟩
     ·have hne := hu hu'
      subst hne
      have := (d3 x m).nil
      simp at this; omega
     ·rcases d3 x m with q | ⟨k, hk1, ⟨tk, ek⟩, mk⟩
      ·exact .inl (by simp at q; omega)
      ·by_cases hkJ : k ∈ J
       ·exact (hG x (hfr x (Zz4 _ (p4 k hkJ x mk)))).2.mono fun i hi => List.mem_append_left _ hi
       ·obtain ⟨q1, q2⟩ := p3 k hkJ
        exact .inr ⟨k, List.mem_append_right _ hk1, ⟨tk, q1 ▸ ek⟩, q2 ▸ mk⟩
    ·obtain ⟨g1, g2⟩ := f3 x m
     exact ⟨fun hu' => by have := g1 hu'; simp at this; omega, g2⟩
   ·rw [List.nodup_append]
    refine ⟨d4 hu', f4 hu', fun x hx y hy e => ?_⟩
    have l1 := d2.lt x hx
    have l2 := (f3 y hy).1 hu'
    omega
  | false =>
   have hext : ∀ a ∈ G, (K ++ X1)[a]? = H1[a]? := fun a m => by
    have := (hG a m).1
    rw [List.getElem?_append_left (by omega)]; exact hk a m
   obtain ⟨xs, X3, F3, f1, f2, f3, f4⟩ := comp_core hj hN hc hf hu h0 hG hoff hsrc hnx rs ws (i + 1) acc (K ++ X1) F2 out hat' (by omega) (s.ext X1) (by simp; omega) hext (b.ext _) (fun x m => hfr x (Zz3 _ m)) (by omega) (by simpa using h)
   refine ⟨xs, X1 ++ X3, F3, ?_, by simpa using f2, fun x m => ?_, f4⟩
   ·rw [List.length_cons, ZcN, e, e2]
    simp only [Option.bind_some, p1, c1]
    simpa using f1
   ·obtain ⟨g1, g2⟩ := f3 x m
    exact ⟨fun hu' => by have := g1 hu'; simp at this; omega, g2⟩
theorem Zqg {g : Src} {q : PG} {put : V → Lc → Option Lc} {pput : T → TL → Option TL} {tc : Ts} {pc : PB} {f : Ex} {pf : PE} (hg : Gs O Ns g q) (hj : PutOk O J put pput) (hN : ∀ i ∈ Ns, i ∉ O) (hc : Bt O tc pc) (hf : E O Ne u f pf) (hu : u = true → Ne = []) : E O (if u then [] else Ns ++ Ne) u (ZaA g put tc f) (Zam q pput pc pf) := fun c ρ σ H Φ t s h => by
 obtain ⟨ts, h1, h⟩ := Zz0.mp h
 split at h
 ·rename_i hl
  obtain ⟨out, h2, h⟩ := Zz1.mp h
  subst h
  obtain ⟨nx, X, vs, F, G, g1, g2, g3, g4, g5⟩ := hg c ρ σ H Φ ts s h1
  obtain ⟨xs, Y, F', d1, d2, d3, d4⟩ := comp_core hj hN hc hf hu (H0 := H) (H1 := H ++ X) (by simp) g4 (fun a m i hi t e => s.from_off hN (g4 a m).2 hi e) (fun a m => s.from_src (g4 a m).2) g5 ts vs 0 [] (H ++ X) F out (by simp) (by simp) (s.ext X) (Nat.le_refl _) (fun _ _ => rfl) g2 g3 (by simpa using hl) h2
  refine ⟨.ref (H ++ X ++ Y).length, X ++ Y ++ [xs], (H ++ X ++ Y).length :: F', ?_, ?_, fun a m => ?_, fun hu' => ?_⟩
  ·simp only [ZaA, g1, Option.bind_some, d1, Option.map_some, List.nil_append, List.append_assoc]
  ·have := ZeF d2
   simpa using this
  ·rcases List.mem_cons.mp m with rfl | m
   ·exact .inl (by simp)
   ·obtain ⟨q1, q2⟩ := d3 a m
    cases u with
    | true => exact .inl (by have := q1 rfl; simp at this; omega)
    | false => exact q2
  ·rw [List.nodup_cons]
   exact ⟨fun m => Nat.lt_irrefl _ (d2.lt _ m), d4 hu'⟩
 ·cases h
end
end TM
end
section
set_option maxRecDepth 100000
set_option linter.all false
set_option autoImplicit false
namespace TM
open PySem PM
noncomputable abbrev PS := TL → Option (Option T × TL)
noncomputable def ZcH (σ : TL) (N : List Nat) : TL := fun j => if j ∈ N then none else σ j
noncomputable def ZcQ (O : List Nat) (σ : TL) (Φ : Nat → List Nat) (a : Nat) : Prop := ∃ j ∈ O, (∃ t, σ j = some t) ∧ a ∈ Φ j
noncomputable def Aft (c : Ctx) (O O' R : List Nat) (fr : Bool) (σ : TL) (H : Hp) (Φ : Nat → List Nat) (g : Option (Option V × Lc × Hp)) (r : Option T × TL) : Prop :=
 ∃ ρ' H' Φ', H.length ≤ H'.length ∧ (∀ a, a < H.length → ¬ ZcQ O σ Φ a → H'[a]? = H[a]?) ∧
  ((r.1 = none ∧ g = some (none, ρ', H') ∧ St c O' ρ' r.2 H' Φ' ∧ ∀ a, ZcQ O' r.2 Φ' a → H.length ≤ a ∨ ZcQ O σ Φ a) ∨
  ∃ t v F, r.1 = some t ∧ g = some (some v, ρ', H') ∧ RF H' v t F ∧ St c R ρ' r.2 H' Φ' ∧ (∀ a ∈ F, c.H0.length ≤ a ∨ c.P a) ∧ (fr = true → F.Nodup ∧ ∀ a ∈ F, c.H0.length ≤ a ∨ a ∈ c.F0))
noncomputable def S (O O' R : List Nat) (fr : Bool) (g : Sm) (q : PS) : Prop := ∀ (c : Ctx) (ρ : Lc) (σ : TL) (H : Hp) (Φ : Nat → List Nat) (r : Option T × TL), St c O ρ σ H Φ → q σ = some r → Aft c O O' R fr σ H Φ (g ρ H) r
section
variable {O O' R : List Nat} {fr : Bool}
noncomputable def ZX : PS := fun σ => some (none, σ)
theorem Z4 : S O O R fr Z0 ZX := fun c ρ σ H Φ r s e => by
 cases e
 exact ⟨ρ, H, Φ, Nat.le_refl _, fun _ _ _ => rfl, .inl ⟨rfl, rfl, s, fun a m => .inr m⟩⟩
noncomputable def Zu (a b : PS) : PS := fun σ => (a σ).bind fun r => match r.1 with
 | some _ => some r
 | none => b r.2
theorem Zz {O1 : List Nat} {a b : Sm} {p q : PS} (x : S O O1 R fr a p) (y : S O1 O' R fr b q) : S O O' R fr (Zw a b) (Zu p q) := fun c ρ σ H Φ r s e => by
 obtain ⟨r1, e1, e⟩ := Zz0.mp e
 obtain ⟨ρ1, H1, Φ1, h1, h2, h3⟩ := x c ρ σ H Φ r1 s e1
 rcases h3 with ⟨k1, k2, k3, k4⟩ | ⟨t, v, F, k1, k2, k3⟩
 ·rw [k1] at e
  obtain ⟨ρ2, H2, Φ2, g1, g2, g3⟩ := y c ρ1 r1.2 H1 Φ1 r k3 e
  refine ⟨ρ2, H2, Φ2, Nat.le_trans h1 g1, fun a ha hn => ?_, ?_⟩
  ·rw [g2 a (by omega) fun q => (k4 a q).elim (fun q => by omega) hn, h2 a ha hn]
  ·have eg : Zw a b ρ H = b ρ1 H1 := by simp only [Zw, k2, Option.bind_some]
   rw [eg]
   rcases g3 with ⟨l1, l2, l3, l4⟩ | l
   ·refine .inl ⟨l1, l2, l3, fun a m => ?_⟩
    rcases l4 a m with q | q
    ·exact .inl (by omega)
    ·exact k4 a q
   ·exact .inr l
 ·rw [k1] at e
  cases e
  exact ⟨ρ1, H1, Φ1, h1, h2, .inr ⟨t, v, F, k1, by simp only [Zw, k2, Option.bind_some], k3⟩⟩
noncomputable def ZF (p : PE) : PS := fun σ => (p σ).map fun t => (some t, σ)
theorem ZR {N : List Nat} {u : Bool} {e : Ex} {p : PE} (x : E O N u e p) (hR : ∀ i ∈ R, i ∈ O) : S O O' R false (ZG e) (ZF p) := fun c ρ σ H Φ r s q => by
 obtain ⟨t, h1, h⟩ := Zz1.mp q
 subst h
 obtain ⟨v, X, F, a1, a2, a3, a4⟩ := x c ρ σ H Φ t s h1
 refine ⟨ρ, H ++ X, Φ, by simp, fun a ha _ => List.getElem?_append_left ha, .inr ⟨t, v, F, rfl, by simp only [ZG, a1, Option.map_some], a2, (s.ext X).less hR, fun a m => s.from_src (a3 a m), by simp⟩⟩
theorem Za4 {N : List Nat} {e : Ex} {p : PE} (x : E O N true e p) (hN : ∀ i ∈ N, i ∈ O) (hR : ∀ i ∈ R, i ∈ O) : S O O' R fr (ZG e) (ZF p) := fun c ρ σ H Φ r s q => by
 obtain ⟨t, h1, h⟩ := Zz1.mp q
 subst h
 obtain ⟨v, X, F, a1, a2, a3, a4⟩ := x c ρ σ H Φ t s h1
 refine ⟨ρ, H ++ X, Φ, by simp, fun a ha _ => List.getElem?_append_left ha, .inr ⟨t, v, F, rfl, by simp only [ZG, a1, Option.map_some], a2, (s.ext X).less hR, fun a m => s.from_src (a3 a m), fun _ => ⟨a4 rfl, fun a m => ?_⟩⟩⟩
 rcases a3 a m with q | ⟨i, hi, ⟨t', e'⟩, m'⟩
 ·exact .inl (Nat.le_trans s.len q)
 ·exact (s.own i (hN i hi) t' e').2.1 a m'
noncomputable def ZM (i : Nat) (p : PE) : PS := fun σ => (p σ).map fun t => (none, Z7 σ i t)
theorem ZW {N : List Nat} {u : Bool} {i : Nat} {e : Ex} {p : PE} (x : E O N u e p) (hi : i ∉ O') (hN : ∀ j ∈ N, j ∉ O') (hO : ∀ j ∈ O', j ∈ O) : S O O' R fr (ZN i e) (ZM i p) := fun c ρ σ H Φ r s q => by
 obtain ⟨t, h1, h⟩ := Zz1.mp q
 subst h
 obtain ⟨v, X, F, a1, a2, a3, a4⟩ := x c ρ σ H Φ t s h1
 have s' := s.less hO
 refine ⟨upd ρ i v, H ++ X, Zal Φ i F, by simp, fun a ha _ => List.getElem?_append_left ha, .inl ⟨rfl, by simp only [ZN, a1, Option.map_some], (s'.ext X).put hi a2 (fun a m => s.from_src (a3 a m)) (fun k hk t' e' a m q => ?_), fun a m => ?_⟩⟩
 ·exact s'.from_off hN (a3 a q) hk e' m
 ·obtain ⟨k, hk, ⟨t', e'⟩, m⟩ := m
  have : k ≠ i := fun q => hi (q ▸ hk)
  simp [Z7, this] at e'
  simp [Zal, this] at m
  exact .inr ⟨k, hO k hk, ⟨t', e'⟩, m⟩
theorem ZcC {i : Nat} {e : Ex} {p : PE} (x : E O [] true e p) (hO : ∀ j ∈ O', j ∈ O ∨ j = i) : S O O' R fr (ZN i e) (ZM i p) := fun c ρ σ H Φ r s q => by
 obtain ⟨t, h1, h⟩ := Zz1.mp q
 subst h
 obtain ⟨v, X, F, a1, a2, a3, a4⟩ := x c ρ σ H Φ t s h1
 have hnew : ∀ a ∈ F, H.length ≤ a := fun a m => (a3 a m).nil
 have hold : ∀ k t', σ k = some t' → ∀ a ∈ Φ k, a < H.length := fun k t' e a m => by
  obtain ⟨_, _, r⟩ := s.slot k t' e
  exact r.lt a m
 refine ⟨upd ρ i v, H ++ X, Zal Φ i F, by simp, fun a ha _ => List.getElem?_append_left ha, .inl ⟨rfl, by simp only [ZN, a1, Option.map_some], ⟨fun k t' e' => ?_, fun k t' e' => ?_, fun k hk t' e' => ?_, (s.ext X).len, (s.ext X).keep, s.pos, s.f0⟩, fun a m => ?_⟩⟩
 ·by_cases q : k = i
  ·subst q
   simp [Z7] at e'
   subst e'
   exact ⟨v, by simp [upd], by simpa [Zal] using a2⟩
  ·simp [Z7, q] at e'
   simpa [upd, Zal, q] using (s.ext X).slot k t' e'
 ·by_cases q : k = i
  ·subst q; simpa [Zal] using fun a m => s.from_src (a3 a m)
  ·simp [Z7, q] at e'
   simpa [Zal, q] using s.src k t' e'
 ·by_cases q : k = i
  ·subst q
   simp only [Zal, if_true]
   refine ⟨a4 rfl, fun a m => .inl (Nat.le_trans s.len (hnew a m)), fun j w hj ej a m q => ?_⟩
   simp [Z7, hj] at ej
   rw [if_neg hj] at q
   have := hold j w ej a q
   have := hnew a m
   omega
  ·have hk' := (hO k hk).resolve_right q
   simp [Z7, q] at e'
   obtain ⟨o1, o2, o3⟩ := s.own k hk' t' e'
   refine ⟨by simpa [Zal, q] using o1, by simpa [Zal, q] using o2, fun j w hj ej a m => ?_⟩
   simp [Zal, q] at m
   by_cases q2 : j = i
   ·subst q2
    simp only [Zal, if_true]
    intro m2
    have := hold k t' e' a m
    have := hnew a m2
    omega
   ·simp [Z7, q2] at ej
    simpa [Zal, q2] using o3 j w hj ej a m
 ·obtain ⟨k, hk, ⟨t', e'⟩, m⟩ := m
  by_cases q : k = i
  ·subst q
   simp [Zal] at m
   exact .inl (hnew a m)
  ·simp [Z7, q] at e'
   simp [Zal, q] at m
   exact .inr ⟨k, (hO k hk).resolve_right q, ⟨t', e'⟩, m⟩
noncomputable def ZU (b : PB) (p q : PS) : PS := fun σ => (b σ).bind fun x => if x then p σ else q σ
theorem Aft.grow {c : Ctx} {σ : TL} {H X : Hp} {Φ : Nat → List Nat} {g : Option (Option V × Lc × Hp)} {r : Option T × TL} (h : Aft c O O' R fr σ (H ++ X) Φ g r) : Aft c O O' R fr σ H Φ g r := by
 obtain ⟨ρ', H', Φ', h1, h2, h3⟩ := h
 rw [List.length_append] at h1
 refine ⟨ρ', H', Φ', by omega, fun a ha hn => ?_, ?_⟩
 ·rw [h2 a (by rw [List.length_append]; omega) hn, List.getElem?_append_left ha]
 ·rcases h3 with ⟨k1, k2, k3, k4⟩ | k
  ·exact .inl ⟨k1, k2, k3, fun a m => (k4 a m).imp (fun q => by rw [List.length_append] at q; omega) id⟩
  ·exact .inr k
theorem Z2 {t : Ts} {pb : PB} {a b : Sm} {p q : PS} (z : Bt O t pb) (x : S O O' R fr a p) (y : S O O' R fr b q) : S O O' R fr (ZT t a b) (ZU pb p q) := fun c ρ σ H Φ r s e => by
 obtain ⟨bb, e1, e⟩ := Zz0.mp e
 obtain ⟨X, h1⟩ := z c ρ σ H Φ bb s e1
 cases bb with
 | true =>
  have := x c ρ σ (H ++ X) Φ r (s.ext X) (by simpa using e)
  have eg : ZT t a b ρ H = a ρ (H ++ X) := by simp [ZT, h1]
  rw [eg]
  exact this.grow
 | false =>
  have := y c ρ σ (H ++ X) Φ r (s.ext X) (by simpa using e)
  have eg : ZT t a b ρ H = b ρ (H ++ X) := by simp [ZT, h1]
  rw [eg]
  exact this.grow
noncomputable def qNo : PS := fun _ => none
noncomputable def sNo : Sm := fun _ _ => none
theorem ZwS {g : Sm} : S O O' R fr g qNo := fun c ρ σ H Φ r s q => by cases q
noncomputable def follow (H : Hp) : List Int → V → Option V
 | [], v => some v
 | k :: ks, v => (Zv v (.int k) H).bind fun q => follow H ks q.1
theorem Lead.follow {H : Hp} {ks : List Int} {v : V} {a : Nat} (l : Lead H ks v a) : follow H ks v = some (.ref a) := by
 induction l with
 | nil => rfl
 | ref h1 h2 h3 _ ih => simp only [TM.follow, Zv, h1, Option.bind_some, h2, h3, Option.map_some, ih]
 | tup h2 h3 _ ih => simp only [TM.follow, Zv, Option.bind_some, h2, h3, Option.map_some, ih]
theorem ZlI {H : Hp} {v w z : V} {K : Hp} (h : Zv v z H = some (w, K)) (X : Hp) : K = H ∧ Zv v z (H ++ X) = some (w, H ++ X) := by
 unfold Zv at h
 split at h
 ·obtain ⟨vs, e1, h⟩ := Zz0.mp h
  obtain ⟨j, e2, h⟩ := Zz0.mp h
  obtain ⟨x, e3, h⟩ := Zz1.mp h
  cases h
  exact ⟨rfl, by simp only [Zv, List.getElem?_append_left (Zz6.mp e1).1, e1, Option.bind_some, e2, e3, Option.map_some]⟩
 ·obtain ⟨j, e2, h⟩ := Zz0.mp h
  obtain ⟨x, e3, h⟩ := Zz1.mp h
  cases h
  exact ⟨rfl, by simp only [Zv, Option.bind_some, e2, e3, Option.map_some]⟩
 ·cases h
theorem Zn4 {H : Hp} {k : Int} : ∀ {ks : List Int} {v : V}, follow H (ks ++ [k]) v = (follow H ks v).bind fun w => (Zv w (.int k) H).map (·.1)
 | [], v => by
  simp only [List.nil_append, follow, Option.bind_some]
  cases Zv v (.int k) H <;> rfl
 | j :: ks, v => by
  simp only [List.cons_append, follow]
  cases Zv v (.int j) H with
  | none => rfl
  | some q => simp only [Option.bind_some]; exact Zn4
noncomputable abbrev PPa := TL → Option (List Int)
noncomputable def ZaN : PPa := fun _ => some []
noncomputable def Zck (p : PPa) (i : PE) : PPa := fun σ => (p σ).bind fun ks => (i σ).bind fun t => match t with
 | .int k => some (ks ++ [k])
 | _ => none
noncomputable def Pa (O : List Nat) (x : Nat) (e : Ex) (p : PPa) : Prop := ∀ (c : Ctx) (ρ : Lc) (σ : TL) (H : Hp) (Φ : Nat → List Nat) (ks : List Int) (v w : V), St c O ρ σ H Φ → p σ = some ks → ρ x = some v → follow H ks v = some w → ∃ X, e ρ H = some (w, H ++ X)
theorem Zbq {x : Nat} : Pa O x (Zb x) ZaN := fun c ρ σ H Φ ks v w s h e f => by
 cases h; cases f
 exact ⟨[], by simp [Zb, e]⟩
theorem ZcM {x : Nat} {N : List Nat} {u : Bool} {e i : Ex} {p : PPa} {pi : PE} (y : Pa O x e p) (z : E O N u i pi) : Pa O x (Zj Zv e i) (Zck p pi) := fun c ρ σ H Φ ks v w s h ev f => by
 obtain ⟨ks0, h1, h⟩ := Zz0.mp h
 obtain ⟨t, h2, h⟩ := Zz0.mp h
 cases t <;> first | (cases h; done) | skip
 rename_i k
 cases h
 rw [Zn4] at f
 obtain ⟨w0, f1, f⟩ := Zz0.mp f
 obtain ⟨⟨w1, K⟩, f2, f⟩ := Zz1.mp f
 cases f
 obtain ⟨X, a1⟩ := y c ρ σ H Φ ks0 v w0 s h1 ev f1
 obtain ⟨vi, Y, F, b1, b2, b3, b4⟩ := z c ρ σ (H ++ X) Φ _ (s.ext X) h2
 cases b2
 refine ⟨X ++ Y, ?_⟩
 simp only [Zj, a1, Option.bind_some, b1]
 have := (ZlI f2 (X ++ Y)).2
 rw [List.append_assoc]
 exact this
theorem Zqh {c : Ctx} {ρ : Lc} {σ : TL} {H : Hp} {Φ : Nat → List Nat} {N : List Nat} {x a b : Nat} {t t' : T} {v : V} {Fw F' : List Nat} {vs' : List V} (s : St c O ρ σ H Φ) (hx : x ∈ O) (ex : σ x = some t) (ev : ρ x = some v) (hb : c.H0.length ≤ b) (hlow : ∀ k t, σ k = some t → ∀ a ∈ Φ k, a < b)
  (hFw : ∀ a ∈ Fw, b ≤ a ∨ ∃ j ∈ N, (∃ t, σ j = some t) ∧ a ∈ Φ j) (hN : ∀ j ∈ N, j ∈ O ∧ j ≠ x) (ha : a ∈ Φ x) (r : RF (H.set a vs') v t' F') (nd : F'.Nodup) (sub : ∀ y ∈ F', y ∈ Φ x ∨ y ∈ Fw) (hO : ∀ j ∈ O', j ∈ O ∧ j ∉ N) :
  St c O' ρ (ZcH (Z7 σ x t') N) (H.set a vs') (Zal Φ x F') ∧ (∀ y, ZcQ O' (ZcH (Z7 σ x t') N) (Zal Φ x F') y → b ≤ y ∨ ZcQ O σ Φ y) := by
 obtain ⟨o1, o2, o3⟩ := s.own x hx t ex
 have old : ∀ k u, k ≠ x → ZcH (Z7 σ x t') N k = some u → σ k = some u ∧ k ∉ N := fun k u hk e => by
  unfold ZcH at e
  split at e
  ·cases e
  ·rename_i hn
   simp [Z7, hk] at e
   exact ⟨e, hn⟩
 have self : ∀ u, ZcH (Z7 σ x t') N x = some u → u = t' := fun u e => by
  unfold ZcH at e
  split at e
  ·cases e
  ·simp [Z7] at e; exact e.symm
 have foff : ∀ y ∈ F', ∀ k u, k ≠ x → σ k = some u → k ∉ N → y ∉ Φ k := fun y hy k u hk e hkn m => by
  rcases sub y hy with q | q
  ·exact o3 k u hk e y q m
  ·rcases hFw y q with q | ⟨j, hj, ⟨tj, ej⟩, mj⟩
   ·have := hlow k u e y m; omega
   ·exact (s.own j (hN j hj).1 tj ej).2.2 k u (fun q => hkn (q ▸ hj)) e y mj m
 refine ⟨⟨fun k u e => ?_, fun k u e => ?_, fun k hk u e => ?_, by simpa using s.len, fun y hy hn => ?_, s.pos, s.f0⟩, fun y hy => ?_⟩
 ·by_cases q : k = x
  ·subst q
   have := self u e
   subst this
   exact ⟨v, ev, by simpa [Zal] using r⟩
  ·obtain ⟨e1, e2⟩ := old k u q e
   obtain ⟨w, h1, h2⟩ := s.slot k u e1
   refine ⟨w, h1, ?_⟩
   simp only [Zal, q, if_false]
   refine h2.frame fun y hy => List.getElem?_set_ne fun q' => ?_
   exact o3 k u q e1 a ha (q' ▸ hy)
 ·by_cases q : k = x
  ·subst q
   simp only [Zal, if_true]
   intro y hy
   rcases sub y hy with q | q
   ·exact s.src k t ex y q
   ·rcases hFw y q with q | ⟨j, hj, ⟨tj, ej⟩, mj⟩
    ·exact .inl (by omega)
    ·exact s.src j tj ej y mj
  ·obtain ⟨e1, e2⟩ := old k u q e
   simpa [Zal, q] using s.src k u e1
 ·by_cases q : k = x
  ·subst q
   simp only [Zal, if_true]
   refine ⟨nd, fun y hy => ?_, fun j w hj ej y hy => ?_⟩
   ·rcases sub y hy with q | q
    ·exact o2 y q
    ·rcases hFw y q with q | ⟨j, hj, ⟨tj, ej⟩, mj⟩
     ·exact .inl (by omega)
     ·exact (s.own j (hN j hj).1 tj ej).2.1 y mj
   ·obtain ⟨e1, e2⟩ := old j w hj ej
    simpa [hj] using foff y hy j w hj e1 e2
  ·obtain ⟨e1, e2⟩ := old k u q e
   obtain ⟨p1, p2, p3⟩ := s.own k (hO k hk).1 u e1
   simp only [Zal, q, if_false]
   refine ⟨p1, p2, fun j w hj ej y hy => ?_⟩
   by_cases q2 : j = x
   ·subst q2
    simp only [if_true]
    exact fun m => foff y m k u q e1 e2 hy
   ·obtain ⟨f1, f2⟩ := old j w q2 ej
    simpa [q2] using p3 j w hj f1 y hy
 ·have : a ≠ y := fun q => by
   subst q
   rcases o2 a ha with q | q
   ·omega
   ·exact hn q
  rw [List.getElem?_set_ne this]
  exact s.keep y hy hn
 ·obtain ⟨k, hk, ⟨u, e⟩, m⟩ := hy
  by_cases q : k = x
  ·subst q
   simp only [Zal, if_true] at m
   rcases sub y m with q | q
   ·exact .inr ⟨k, hx, ⟨t, ex⟩, q⟩
   ·rcases hFw y q with q | ⟨j, hj, q⟩
    ·exact .inl q
    ·exact .inr ⟨j, (hN j hj).1, q⟩
  ·obtain ⟨e1, e2⟩ := old k u q e
   simp only [Zal, q, if_false] at m
   exact .inr ⟨k, (hO k hk).1, ⟨u, e1⟩, m⟩
theorem ZmE {c : Ctx} {ρ : Lc} {σ : TL} {H : Hp} {Φ : Nat → List Nat} {x a : Nat} {t : T} (s : St c O ρ σ H Φ) (hx : x ∈ O) (ex : σ x = some t) (ha : a ∈ Φ x) : a ≠ 0 := by
 have := s.pos
 rcases (s.own x hx t ex).2.1 a ha with q | q
 ·omega
 ·exact fun e => s.f0 (e ▸ q)
noncomputable def Zeb (w : T) (ts : List T) : Option (List T) := if ts.length < LEN then some (ts ++ [w]) else none
noncomputable def ZfC (k : Int) (w : T) (ts : List T) : Option (List T) := if 0 ≤ k ∧ k < ts.length then some (ts.set k.toNat w) else none
noncomputable def Zdo (x : Nat) (N : List Nat) (po : PPa) (p : PE) : PS := fun σ => (po σ).bind fun ks => (p σ).bind fun w => (σ x).bind fun t => (ZcD (Zeb w) ks t).map fun t' => (none, ZcH (Z7 σ x t') N)
noncomputable def Zbc (x : Nat) (N : List Nat) (p : PE) (po : PPa) (pi : PE) : PS := fun σ => (p σ).bind fun w => (po σ).bind fun ks => (pi σ).bind fun k => match k with
 | .int k => (σ x).bind fun t => (ZcD (ZfC k w) ks t).map fun t' => (none, ZcH (Z7 σ x t') N)
 | _ => none
theorem ZfW {H : Hp} (X : Hp) : ∀ {ks : List Int} {v w : V}, follow H ks v = some w → follow (H ++ X) ks v = some w
 | [], _, _, h => h
 | k :: ks, v, w, h => by
  obtain ⟨⟨w1, K⟩, h1, h2⟩ := Zz0.mp h
  simp only [follow, (ZlI h1 X).2, Option.bind_some]
  exact ZfW X h2
theorem ZgF {x : Nat} {N : List Nat} {o e : Ex} {po : PPa} {p : PE} (hx : x ∈ O) (y : Pa O x o po) (z : E O N true e p) (hN : ∀ j ∈ N, j ∈ O ∧ j ≠ x) (hO : ∀ j ∈ O', j ∈ O ∧ j ∉ N) : S O O' R fr (Zcd (Zd0 o e)) (Zdo x N po p) := fun c ρ σ H Φ r s q => by
 obtain ⟨ks, h1, q⟩ := Zz0.mp q
 obtain ⟨w, h2, q⟩ := Zz0.mp q
 obtain ⟨t, h3, q⟩ := Zz0.mp q
 obtain ⟨t', h4, q⟩ := Zz1.mp q
 subst q
 obtain ⟨v, ev, rv⟩ := s.slot x t h3
 have hlow : ∀ k t, σ k = some t → ∀ a ∈ Φ k, a < H.length := fun k t e a m => by
  obtain ⟨_, _, r⟩ := s.slot k t e
  exact r.lt a m
 obtain ⟨o1, o2, o3⟩ := s.own x hx t h3
 obtain ⟨a, vs0, ts0, ts0', G0, l0, _⟩ := Zfp (Gn := []) ks rv o1 (by simp) h4
 obtain ⟨X, a1⟩ := y c ρ σ H Φ ks v (.ref a) s h1 ev l0.follow
 obtain ⟨vw, Y, Fw, b1, b2, b3, b4⟩ := z c ρ σ (H ++ X) Φ w (s.ext X) h2
 have s2 := (s.ext X).ext Y
 have rv2 : RF (H ++ X ++ Y) v t (Φ x) := (rv.ext X).ext Y
 have hFw : ∀ a ∈ Fw, H.length ≤ a ∨ ∃ j ∈ N, (∃ t, σ j = some t) ∧ a ∈ Φ j := fun a m => (b3 a m).back
 have dsj : ∀ a ∈ Fw, a ∉ Φ x := fun a m q => by
  rcases hFw a m with h | ⟨j, hj, ⟨tj, ej⟩, mj⟩
  ·have := hlow x t h3 a q; omega
  ·exact o3 j tj (hN j hj).2 ej a q mj
 obtain ⟨a', vs, ts, ts', G, l, am, ea, hs, hf, gn, na, gs, go⟩ := Zfp (Gn := Fw) ks rv2 o1 dsj h4
 have haa : a' = a := by
  have f2 := ZfW Y (ZfW X l0.follow)
  rw [l.follow] at f2
  cases f2
  rfl
 subst haa
 unfold Zeb at hf
 split at hf
 ·rename_i hl
  cases hf
  obtain ⟨F', r', n', sub'⟩ := go (vs ++ [vw]) (G ++ Fw) (hs.snoc b2) (by
   rw [List.nodup_append]
   exact ⟨gn, b4 rfl, fun y hy z hz e => dsj z hz (e ▸ gs y hy)⟩) (fun m => (List.mem_append.mp m).elim na fun m => dsj _ m am) (fun y m => List.mem_append.mp m)
  obtain ⟨st, com⟩ := Zqh (O' := O') (b := H.length) s2 hx h3 ev s.len hlow hFw hN am r' n' sub' hO
  refine ⟨ρ, (H ++ X ++ Y).set a' (vs ++ [vw]), Zal Φ x F', by simp, fun y hy hn => ?_, .inl ⟨rfl, ?_, st, com⟩⟩
  ·have : a' ≠ y := fun q => hn ⟨x, hx, ⟨t, h3⟩, q ▸ am⟩
   rw [List.getElem?_set_ne this, List.append_assoc, List.getElem?_append_left hy]
  ·simp only [Zcd, Zd0, a1, Option.bind_some, b1, Zgj, ea]
   rw [if_pos ⟨ZmE s hx h3 am, by rw [hs.length]; exact hl⟩]
   rfl
 ·cases hf
theorem S.put {x : Nat} {N M : List Nat} {u : Bool} {o e i : Ex} {po : PPa} {p pi : PE} (hx : x ∈ O) (z : E O N true e p) (y : Pa O x o po) (zi : E O M u i pi) (hN : ∀ j ∈ N, j ∈ O ∧ j ≠ x) (hO : ∀ j ∈ O', j ∈ O ∧ j ∉ N) : S O O' R fr (Zby e o i) (Zbc x N p po pi) := fun c ρ σ H Φ r s q => by
 obtain ⟨w, h2, q⟩ := Zz0.mp q
 obtain ⟨ks, h1, q⟩ := Zz0.mp q
 obtain ⟨tk, h5, q⟩ := Zz0.mp q
 cases tk <;> first | (cases q; done) | skip
 rename_i k
 obtain ⟨t, h3, q⟩ := Zz0.mp q
 obtain ⟨t', h4, q⟩ := Zz1.mp q
 subst q
 obtain ⟨v, ev, rv⟩ := s.slot x t h3
 have hlow : ∀ k t, σ k = some t → ∀ a ∈ Φ k, a < H.length := fun k t e a m => by
  obtain ⟨_, _, r⟩ := s.slot k t e
  exact r.lt a m
 obtain ⟨o1, o2, o3⟩ := s.own x hx t h3
 obtain ⟨vw, X, Fw, b1, b2, b3, b4⟩ := z c ρ σ H Φ w s h2
 obtain ⟨a, vs0, ts0, ts0', G0, l0, _⟩ := Zfp (Gn := []) ks (rv.ext X) o1 (by simp) h4
 obtain ⟨Y, a1⟩ := y c ρ σ (H ++ X) Φ ks v (.ref a) (s.ext X) h1 ev l0.follow
 obtain ⟨vk, Z, Fk, d1, d2, d3, d4⟩ := zi c ρ σ (H ++ X ++ Y) Φ _ ((s.ext X).ext Y) h5
 cases d2
 have s2 := ((s.ext X).ext Y).ext Z
 have rv2 : RF (H ++ X ++ Y ++ Z) v t (Φ x) := ((rv.ext X).ext Y).ext Z
 have hFw : ∀ a ∈ Fw, H.length ≤ a ∨ ∃ j ∈ N, (∃ t, σ j = some t) ∧ a ∈ Φ j := b3
 have dsj : ∀ a ∈ Fw, a ∉ Φ x := fun a m q => by
  rcases hFw a m with h | ⟨j, hj, ⟨tj, ej⟩, mj⟩
  ·have := hlow x t h3 a q; omega
  ·exact o3 j tj (hN j hj).2 ej a q mj
 obtain ⟨a', vs, ts, ts', G, l, am, ea, hs, hf, gn, na, gs, go⟩ := Zfp (Gn := Fw) ks rv2 o1 dsj h4
 have haa : a' = a := by
  have f2 := ZfW Z (ZfW Y l0.follow)
  rw [l.follow] at f2
  cases f2
  rfl
 subst haa
 unfold ZfC at hf
 split at hf
 ·rename_i hl
  cases hf
  have hk : k.toNat < ts.length := by omega
  obtain ⟨v0, Gk, F1, F2, e0, r0, eG, rb⟩ := hs.split (List.getElem?_eq_getElem hk)
  have b2' : RF (H ++ X ++ Y ++ Z) vw w Fw := (b2.ext Y).ext Z
  have rs := rb (H ++ X ++ Y ++ Z) vw w Fw b2' (fun _ _ => rfl) (fun _ _ => rfl)
  have sub0 : ∀ a ∈ Fw, a ∈ Gk ∨ a ∈ Fw := fun a m => .inr m
  subst eG
  obtain ⟨F', r', n', sub'⟩ := go _ _ rs (nd3 gn (b4 rfl) sub0 fun a m q => dsj a m (gs a q)) (fun m => by
   rcases in3 (G := Gk) sub0 _ m with m | m
   ·exact na m
   ·exact dsj _ m am) (in3 sub0)
  obtain ⟨st, com⟩ := Zqh (O' := O') (b := H.length) s2 hx h3 ev s.len hlow hFw hN am r' n' sub' hO
  refine ⟨ρ, (H ++ X ++ Y ++ Z).set a' (vs.set k.toNat vw), Zal Φ x F', by simp, fun y hy hn => ?_, .inl ⟨rfl, ?_, st, com⟩⟩
  ·have : a' ≠ y := fun q => hn ⟨x, hx, ⟨t, h3⟩, q ▸ am⟩
   rw [List.getElem?_set_ne this, List.append_assoc, List.append_assoc, List.getElem?_append_left hy]
  ·simp only [Zby, b1, Option.bind_some, a1, d1, Znt, ea]
   rw [if_pos ⟨ZmE s hx h3 am, by rw [hs.length]; exact hl⟩]
   rfl
 ·cases hf
noncomputable def ZeG (put : T → TL → Option TL) (b : PS) : TL → List T → Option (Option T × TL)
 | σ, [] => some (none, σ)
 | σ, t :: ts => (put t σ).bind fun σ1 => (b σ1).bind fun r => match r.1 with
  | some _ => some r
  | none => ZeG put b r.2 ts
noncomputable def ZaI (g : PG) (put : T → TL → Option TL) (b : PS) : PS := fun σ => (g σ).bind fun ts => ZeG put b σ ts
theorem Zmn {J : List Nat} {put : V → Lc → Option Lc} {pput : T → TL → Option TL} {b : Sm} {qb : PS} (hj : PutOk O J put pput) (hJ : ∀ i ∈ J, i ∉ O) (hb : S O O R fr b qb) {c : Ctx} {nx : Nx} {vs : List V} {G : List Nat} {H1 : Hp} (hG : ∀ a ∈ G, a < H1.length) (hsrc : ∀ a ∈ G, c.H0.length ≤ a ∨ c.P a) (hnx : ∀ K : Hp, (∀ a ∈ G, K[a]? = H1[a]?) → ∀ i, i ≤ vs.length → nx i K = some vs[i]?) :
  ∀ (rs : List T) (ws : List V) (i : Nat) (ρ : Lc) (σ : TL) (K : Hp) (Φ : Nat → List Nat) (Fr : List Nat) (r : Option T × TL), (∀ j, vs[i + j]? = ws[j]?) → i + ws.length = vs.length → St c O ρ σ K Φ → H1.length ≤ K.length → (∀ a ∈ G, K[a]? = H1[a]?) → (∀ a ∈ G, ¬ ZcQ O σ Φ a) → RFs K ws rs Fr → (∀ a ∈ Fr, a ∈ G) → ZeG pput qb σ rs = some r →
   Aft c O O R fr σ K Φ (Zdi nx put b (rs.length + 1) i ρ K) r
 | [], ws, i, ρ, σ, K, Φ, Fr, r, hat, hlen, s, hl, hk, hoff, rr, hfr, h => by
  cases rr
  cases h
  have e := hnx K hk i (by simp at hlen; omega)
  have e2 : vs[i]? = none := by have := hat 0; simpa using this
  exact ⟨ρ, K, Φ, Nat.le_refl _, fun _ _ _ => rfl, .inl ⟨rfl, by simp [Zdi, e, e2], s, fun a m => .inr m⟩⟩
 | t :: rs, ws0, i, ρ, σ, K, Φ, Fr0, r, hat, hlen, s, hl, hk, hoff, rr, hfr, h => by
  cases rr with
  | @cons v _ F1 ws _ F2 a b' =>
  simp only [List.length_cons] at hlen
  obtain ⟨σ1, h1, h⟩ := Zz0.mp h
  obtain ⟨r1, h2, h⟩ := Zz0.mp h
  have e := hnx K hk i (by omega)
  have e2 : vs[i]? = some v := by have := hat 0; simpa using this
  have hat' : ∀ j, vs[i + 1 + j]? = ws[j]? := fun j => by have := hat (j + 1); rw [show i + 1 + j = i + (j + 1) by omega, this]; simp
  obtain ⟨ρ1, Φ1, p1, s1, p3, p4⟩ := hj c ρ σ K Φ v t F1 σ1 s a (fun x m => hsrc x (hfr x (Zz4 _ m))) (fun k hk t' e x m q => hoff x (hfr x (Zz4 _ q)) ⟨k, hk, ⟨t', e⟩, m⟩) h1
  have hh : ∀ x, ZcQ O σ1 Φ1 x → ZcQ O σ Φ x := fun x ⟨k, hk, ⟨t', e⟩, m⟩ => by
   obtain ⟨q1, q2⟩ := p3 k fun q => hJ k q hk
   exact ⟨k, hk, ⟨t', q1 ▸ e⟩, q2 ▸ m⟩
  obtain ⟨ρ2, K2, Φ2, g1, g2, g3⟩ := hb c ρ1 σ1 K Φ1 r1 s1 h2
  have estep : Zdi nx put b ((t :: rs).length + 1) i ρ K = (b ρ1 K).bind fun q => match q.1 with
    | some _ => some q
    | none => Zdi nx put b (rs.length + 1) (i + 1) q.2.1 q.2.2 := by
   rw [List.length_cons]
   show (nx i K).bind _ = _
   rw [e, e2]
   first | (simp only [Option.bind_some, p1]; done) | (simp only [Option.bind_some, p1]; rfl)
  rcases g3 with ⟨k1, k2, k3, k4⟩ | ⟨t', v', F', k1, k2, k3⟩
  ·rw [k1] at h
   have hG2 : ∀ a ∈ G, K2[a]? = K[a]? := fun x m => g2 x (by have := hG x m; omega) fun q => hoff x m (hh x q)
   have hoff2 : ∀ a ∈ G, ¬ ZcQ O r1.2 Φ2 a := fun x m q => by
    rcases k4 x q with q | q
    ·have := hG x m; omega
    ·exact hoff x m (hh x q)
   have ih := Zmn hj hJ hb hG hsrc hnx rs ws (i + 1) ρ2 r1.2 K2 Φ2 F2 r hat' (by omega) k3 (by omega) (fun x m => (hG2 x m).trans (hk x m)) hoff2 (b'.frame fun x m => hG2 x (hfr x (Zz3 _ m))) (fun x m => hfr x (Zz3 _ m)) h
   rw [estep, k2]
   simp only [Option.bind_some]
   obtain ⟨ρ3, K3, Φ3, l1, l2, l3⟩ := ih
   refine ⟨ρ3, K3, Φ3, by omega, fun x hx hn => ?_, ?_⟩
   ·rw [l2 x (by omega) fun q => (k4 x q).elim (fun q => by omega) fun q => hn (hh x q), g2 x hx fun q => hn (hh x q)]
   ·rcases l3 with ⟨m1, m2, m3, m4⟩ | l
    ·refine .inl ⟨m1, m2, m3, fun x q => ?_⟩
     rcases m4 x q with q | q
     ·exact .inl (by omega)
     ·exact (k4 x q).imp id (hh x)
    ·exact .inr l
  ·rw [k1] at h
   cases h
   refine ⟨ρ2, K2, Φ2, g1, fun x hx hn => g2 x hx fun q => hn (hh x q), .inr ⟨t', v', F', k1, ?_, k3⟩⟩
   rw [estep, k2]
   rfl
theorem Zbg {J Ns : List Nat} {g : Src} {q : PG} {put : V → Lc → Option Lc} {pput : T → TL → Option TL} {b : Sm} {qb : PS} (hg : Gs O Ns g q) (hj : PutOk O J put pput) (hJ : ∀ i ∈ J, i ∉ O) (hN : ∀ i ∈ Ns, i ∉ O) (hb : S O O R fr b qb) : S O O R fr (ZaO g put b) (ZaI q pput qb) := fun c ρ σ H Φ r s h => by
 obtain ⟨ts, h1, h⟩ := Zz0.mp h
 obtain ⟨nx, X, vs, F, G, g1, g2, g3, g4, g5⟩ := hg c ρ σ H Φ ts s h1
 have := Zmn hj hJ hb (H1 := H ++ X) (fun a m => (g4 a m).1) (fun a m => s.from_src (g4 a m).2) g5 ts vs 0 ρ σ (H ++ X) Φ F r (by simp) (by simp) (s.ext X) (Nat.le_refl _) (fun _ _ => rfl) (fun a m ⟨k, hk, ⟨t, e⟩, q⟩ => s.from_off hN (g4 a m).2 hk e q) g2 g3 h
 have eg : ZaO g put b ρ H = Zdi nx put b (ts.length + 1) 0 ρ (H ++ X) := by simp only [ZaO, g1, Option.bind_some]
 rw [eg]
 exact this.grow
noncomputable def Zde (t : PB) (b : PS) : Nat → PS
 | 0 => fun _ => none
 | n + 1 => fun σ => (t σ).bind fun p => if p then (b σ).bind fun q => (match q.1 with
   | some _ => some q
   | none => Zde t b n q.2) else some (none, σ)
theorem Zfm {t : Ts} {pt : PB} {b : Sm} {qb : PS} (z : Bt O t pt) (y : S O O R fr b qb) : ∀ n, S O O R fr (ZcW t b n) (Zde pt qb n)
 | 0 => fun c ρ σ H Φ r s h => by cases h
 | n + 1 => fun c ρ σ H Φ r s h => by
  obtain ⟨p, h1, h⟩ := Zz0.mp h
  obtain ⟨X, a1⟩ := z c ρ σ H Φ p s h1
  cases p with
  | false =>
   cases h
   exact ⟨ρ, H ++ X, Φ, by simp, fun a ha _ => List.getElem?_append_left ha, .inl ⟨rfl, by simp [ZcW, a1], s.ext X, fun a m => .inr m⟩⟩
  | true =>
   simp only [if_true] at h
   obtain ⟨r1, h2, h⟩ := Zz0.mp h
   have b1 := (y c ρ σ (H ++ X) Φ r1 (s.ext X) h2).grow
   have eg : ZcW t b (n + 1) ρ H = (b ρ (H ++ X)).bind fun q => (match q.1 with
    | some _ => some q
    | none => ZcW t b n q.2.1 q.2.2) := by
    show (t ρ H).bind _ = _
    rw [a1]
    rfl
   rw [eg]
   obtain ⟨ρ1, H1, Φ1, g1, g2, g3⟩ := b1
   rcases g3 with ⟨k1, k2, k3, k4⟩ | ⟨t', v', F', k1, k2, k3⟩
   ·rw [k1] at h
    obtain ⟨ρ3, K3, Φ3, l1, l2, l3⟩ := Zfm z y n c ρ1 r1.2 H1 Φ1 r k3 h
    rw [k2]
    simp only [Option.bind_some]
    refine ⟨ρ3, K3, Φ3, by omega, fun x hx hn => ?_, ?_⟩
    ·rw [l2 x (by omega) fun q => (k4 x q).elim (fun q => by omega) hn, g2 x hx hn]
    ·rcases l3 with ⟨m1, m2, m3, m4⟩ | l
     ·refine .inl ⟨m1, m2, m3, fun x q => ?_⟩
      rcases m4 x q with q | q
      ·exact .inl (by omega)
      ·exact k4 x q
     ·exact .inr l
   ·rw [k1] at h
    cases h
    exact ⟨ρ1, H1, Φ1, g1, g2, .inr ⟨t', v', F', k1, by rw [k2]; rfl, k3⟩⟩
end
noncomputable def Zaa (n : Nat) (q : PS) : List T → Option T := fun ts => if ts.length = n then (q fun i => ts[i]?).map fun r => r.1.getD .none else none
theorem RFs.slots {H : Hp} : ∀ {vs : List V} {ts : List T} {F : List Nat}, RFs H vs ts F → ∃ Φ : Nat → List Nat, ∀ i t, ts[i]? = some t → ∃ v, vs[i]? = some v ∧ RF H v t (Φ i) ∧ ∀ a ∈ Φ i, a ∈ F
 | _, _, _, .nil => ⟨fun _ => [], fun i t e => by simp at e⟩
 | _, _, _, .cons (F := F1) a b => by
  obtain ⟨Φ, h⟩ := b.slots
  refine ⟨fun i => match i with | 0 => F1 | i + 1 => Φ i, fun i t e => ?_⟩
  cases i with
  | zero => simp at e; subst e; exact ⟨_, by simp, a, fun x m => List.mem_append_left _ m⟩
  | succ i =>
   simp at e
   obtain ⟨v, h1, h2, h3⟩ := h i t e
   exact ⟨v, by simpa using h1, h2, fun x m => List.mem_append_right _ (h3 x m)⟩
theorem Zoq {H H' : Hp} (hl : H.length ≤ H'.length) (h : ∀ a, a < H.length → H'[a]? = H[a]?) : H' = H ++ H'.drop H.length := by
 conv => lhs; rw [← List.take_append_drop H.length H']
 congr 1
 refine List.ext_getElem? fun i => ?_
 by_cases q : i < H.length
 ·rw [List.getElem?_take_of_lt q, h i q]
 ·rw [List.getElem?_eq_none (by simp; omega), List.getElem?_eq_none (by omega)]
theorem Zaf {O' : List Nat} {fr : Bool} {n : Nat} {g : Sm} {q : PS} (h : S [] O' [] fr g q) : SimF fr (Z6 n g) (Zaa n q) := fun H vs ts t F1 hp r e => by
 unfold Zaa at e
 split at e
 ·rename_i hl
  obtain ⟨r1, e1, e2⟩ := Zz1.mp e
  obtain ⟨Φ, hΦ⟩ := r.slots
  have st : St ⟨H, [], fun a => a ∈ F1⟩ [] (fun i => vs[i]?) (fun i => ts[i]?) H Φ :=
   ⟨(fun i t e => by obtain ⟨v, h1, h2, _⟩ := hΦ i t e; exact ⟨v, h1, h2⟩), fun i t e a m => (by obtain ⟨v, h1, h2, h3⟩ := hΦ i t e; exact .inr (h3 a m)), (fun i hi => nomatch hi), Nat.le_refl _, fun a _ _ => rfl, hp, by simp⟩
  obtain ⟨ρ', H', Φ', h1, h2, h3⟩ := h _ _ _ _ _ _ st e1
  rcases h3 with ⟨k1, k2, k3, k4⟩ | ⟨t', v', F', k1, k2, k3, k4, k5, k6⟩
  ·have eh := Zoq k3.len fun a ha => k3.keep a ha (by simp)
   refine ⟨.none, H'.drop H.length, [], ?_, ?_, by simp, by simp⟩
   ·have hv : vs.length = n := r.length.trans hl
    simp only [Z6, hv, if_true, k2, Option.map_some, Option.getD_none]
    rw [← eh]
   ·rw [k1] at e2
    subst e2
    exact .none
  ·have eh := Zoq k4.len fun a ha => k4.keep a ha (by simp)
   refine ⟨v', H'.drop H.length, F', ?_, ?_, k5, fun hf => ⟨(k6 hf).1, fun a m => ((k6 hf).2 a m).elim id fun q => by cases q⟩⟩
   ·have hv : vs.length = n := r.length.trans hl
    simp only [Z6, hv, if_true, k2, Option.map_some, Option.getD_some]
    rw [← eh]
   ·rw [k1] at e2
    subst e2
    rw [← eh]
    exact k3
 ·cases e
theorem Zs7 {f : List V → Hp → Option (V × Hp)} {p : List T → Option T} {fr : Bool} (h : SimF fr f p) (ns : List Int) (e : p [.lst (ns.map T.int)] = some (.bool true)) : ∃ H', f [.ref 0] [ns.map V.int] = some (.bool true, H') := by
 have intsAre : ∀ l : List Int, RFs [ns.map V.int] (l.map V.int) (l.map T.int) [] := fun l => by
  induction l with
  | nil => exact .nil
  | cons a l ih => exact .cons (.int a) ih
 obtain ⟨v, X, F, h1, h2, _⟩ := h [ns.map V.int] [.ref 0] [.lst (ns.map T.int)] _ _ (by simp) (.one (.ref rfl (intsAre ns))) e
 cases h2
 exact ⟨_, h1⟩
end TM
end
section
set_option maxRecDepth 100000
set_option linter.all false
set_option autoImplicit false
namespace TM
open PySem PM
section
variable {O Ns Ne J : List Nat}
theorem Zcb {u : Bool} {g : Src} {q : PG} {put : V → Lc → Option Lc} {pput : T → TL → Option TL} {tc : Ts} {pc : PB} {f : Ex} {pf : PE} (hg : Gs O Ns g q) (hj : PutOk O J put pput) (hN : ∀ i ∈ Ns, i ∉ O) (hc : Bt O tc pc) (hf : E O Ne u f pf) : E O (Ns ++ Ne) false (ZaA g put tc f) (Zam q pput pc pf) :=
 Zqg hg hj hN hc hf.sh (by simp)
theorem Zdc {g : Src} {q : PG} {put : V → Lc → Option Lc} {pput : T → TL → Option TL} {tc : Ts} {pc : PB} {f : Ex} {pf : PE} (hg : Gs O Ns g q) (hj : PutOk O J put pput) (hN : ∀ i ∈ Ns, i ∉ O) (hc : Bt O tc pc) (hf : E O [] true f pf) : E O [] true (ZaA g put tc f) (Zam q pput pc pf) :=
 Zqg hg hj hN hc hf (by simp)
end
end TM
end
section
set_option maxRecDepth 100000
set_option linter.all false
set_option autoImplicit false
/-! Forward reckoning over trees. -/
namespace TM
open PySem PM
noncomputable def dec (P : Prop) : Bool := @decide P (Classical.propDecidable P)
theorem dec_iff {P : Prop} : dec P = true ↔ P := by unfold dec; exact @decide_eq_true_iff P (Classical.propDecidable P)
theorem ZaZ {P : Prop} (h : P) : dec P = true := dec_iff.mpr h
theorem ZbN {P : Prop} (h : ¬ P) : dec P = false := by
 cases e : dec P with
 | true => exact absurd (dec_iff.mp e) h
 | false => rfl
theorem ZlJ {P Q : Prop} (h : P ↔ Q) : dec P = dec Q := by
 by_cases p : P
 ·rw [ZaZ p, ZaZ (h.mp p)]
 ·rw [ZbN p, ZbN fun q => p (h.mpr q)]
theorem Zm5 {P : Prop} {b : Bool} (h : b = true ↔ P) : dec P = b := by
 cases b with
 | true => exact ZaZ (h.mp rfl)
 | false => exact ZbN fun p => by simpa using h.mpr p
theorem Zhs {P : Prop} [i : Decidable P] : decide P = dec P := by
 unfold dec; congr
noncomputable def tab {α : Type} (n : Nat) (f : Nat → α) : List α := (List.range n).map f
theorem Zau {α : Type} {n : Nat} {f : Nat → α} : (tab n f).length = n := by simp [tab]
theorem ZbD {α : Type} {n : Nat} {f : Nat → α} {i : Nat} (h : i < n) : (tab n f)[i]? = some (f i) := by simp [tab, h]
theorem ZvP {α : Type} {n : Nat} {f : Nat → α} {i : Nat} (h : n ≤ i) : (tab n f)[i]? = none := by simp [tab, h]
theorem ZdD {α : Type} {n : Nat} {f : Nat → α} : tab n f ++ [f n] = tab (n + 1) f := by simp [tab, List.range_succ]
theorem Zh3 {α : Type} {n : Nat} {xs : List α} {f : Nat → α} (hl : xs.length = n) (h : ∀ i, i < n → xs[i]? = some (f i)) : xs = tab n f := by
 refine List.ext_getElem? fun i => ?_
 by_cases q : i < n
 ·rw [h i q, ZbD q]
 ·rw [List.getElem?_eq_none (by omega), ZvP (by omega)]
theorem ZbI {α : Type} {n : Nat} {f g : Nat → α} (h : ∀ i, i < n → f i = g i) : tab n f = tab n g := by
 refine Zh3 Zau fun i hi => ?_
 rw [ZbD hi, h i hi]
theorem Zh4 {α : Type} {n k : Nat} {f : Nat → α} {v : α} : (tab n f).set k v = tab n fun i => if i = k then v else f i := by
 refine Zh3 (by rw [List.length_set, Zau]) fun i hi => ?_
 by_cases q : i = k
 ·subst q
  rw [List.getElem?_set_self (by rw [Zau]; exact hi), if_pos rfl]
 ·rw [List.getElem?_set_ne (Ne.symm q), ZbD hi, if_neg q]
theorem tab_map {α β : Type} {n : Nat} {f : Nat → α} {g : α → β} : (tab n f).map g = tab n fun i => g (f i) := by simp [tab]
noncomputable def cn {α : Type} (a : α) (f : Nat → α) : Nat → α
 | 0 => a
 | i + 1 => f i
theorem ZtS {α : Type} {n : Nat} {a : α} {f : Nat → α} : a :: tab n f = tab (n + 1) (cn a f) := by
 refine Zh3 (by rw [List.length_cons, Zau]) fun i hi => ?_
 cases i with
 | zero => rfl
 | succ i => rw [List.getElem?_cons_succ, ZbD (by omega)]; rfl
theorem ZpG {α β γ : Type} {n m : Nat} {f : Nat → α} {g : Nat → β} {h : α → β → γ} : List.zipWith h (tab n f) (tab m g) = tab (min n m) fun i => h (f i) (g i) := by
 refine Zh3 (by rw [List.length_zipWith, Zau, Zau]) fun i hi => ?_
 rw [List.getElem?_zipWith, ZbD (show i < n by omega), ZbD (show i < m by omega)]
noncomputable def Pk (c : Option T) (Q : T → Prop) : Prop := ∃ t, c = some t ∧ Q t
noncomputable def Pl (c : Option (List T)) (Q : List T → Prop) : Prop := ∃ t, c = some t ∧ Q t
noncomputable def Pb (c : Option Bool) (Q : Bool → Prop) : Prop := ∃ t, c = some t ∧ Q t
noncomputable def Psk (c : Option (Option T × TL)) (R : T → Prop) (N : TL → Prop) : Prop := ∃ o σ, c = some (o, σ) ∧ (∀ t, o = some t → R t) ∧ (o = none → N σ)
theorem ZO {c : Option T} {Q : T → Prop} {t : T} (h : c = some t) (k : Q t) : Pk c Q := ⟨t, h, k⟩
theorem Pk.eq {c : Option T} {t : T} (h : Pk c fun v => v = t) : c = some t := by obtain ⟨v, e, rfl⟩ := h; exact e
theorem Pk.mono {c : Option T} {Q Q' : T → Prop} (h : Pk c Q) (k : ∀ t, Q t → Q' t) : Pk c Q' := by obtain ⟨v, e, q⟩ := h; exact ⟨v, e, k v q⟩
section
variable {σ : TL} {Q : T → Prop} {L : List T → Prop} {B : Bool → Prop} {R : T → Prop} {N : TL → Prop}
theorem ZvQ {k : Int} (h : Q (.int k)) : Pk (Zk k σ) Q := ⟨_, rfl, h⟩
theorem ZvR (h : Q .none) : Pk (ZZ σ) Q := ⟨_, rfl, h⟩
theorem ZuG {k : Bool} (h : Q (.bool k)) : Pk (Zbv k σ) Q := ⟨_, rfl, h⟩
theorem ZvS {k : Str} (h : Q (.str k)) : Pk (Zd9 k σ) Q := ⟨_, rfl, h⟩
theorem ZvT {i : Nat} {t : T} (e : σ i = some t) (h : Q t) : Pk (Za i σ) Q := ⟨_, e, h⟩
theorem ZvU {q : T → T → Option T} {f g : PE} (h : Pk (f σ) fun x => Pk (g σ) fun y => Pk (q x y) Q) : Pk (Ze q f g σ) Q := by
 obtain ⟨x, a, y, b, z, c, k⟩ := h
 exact ⟨z, by simp only [Ze, a, b, Option.bind_some, c], k⟩
theorem Zwv {q : T → Option T} {f : PE} (h : Pk (f σ) fun x => Pk (q x) Q) : Pk (pUn q f σ) Q := by
 obtain ⟨x, a, z, c, k⟩ := h
 exact ⟨z, by simp only [pUn, a, Option.bind_some, c], k⟩
theorem ZuH {q : List T → Option T} {f : PEs} (h : Pl (f σ) fun x => Pk (q x) Q) : Pk (Zs q f σ) Q := by
 obtain ⟨x, a, z, c, k⟩ := h
 exact ⟨z, by simp only [Zs, a, Option.bind_some, c], k⟩
theorem ZvV (h : L []) : Pl (Zn σ) L := ⟨_, rfl, h⟩
theorem ZuI {f : PE} {g : PEs} (h : Pk (f σ) fun x => Pl (g σ) fun xs => L (x :: xs)) : Pl (Zd f g σ) L := by
 obtain ⟨x, a, y, b, k⟩ := h
 exact ⟨_, by simp only [Zd, a, b, Option.bind_some], k⟩
theorem ZvW {g : PEs} (h : Pl (g σ) fun xs => Q (.tup xs)) : Pk (ZaL g σ) Q := by
 obtain ⟨x, a, k⟩ := h; exact ⟨_, by simp only [ZaL, a, Option.map_some], k⟩
theorem ZuJ {g : PEs} (h : Pl (g σ) fun xs => Q (.lst xs)) : Pk (ZbF g σ) Q := by
 obtain ⟨x, a, k⟩ := h; exact ⟨_, by simp only [ZbF, a, Option.map_some], k⟩
theorem ZuK {f : PE} (h : Pk (f σ) fun t => t.flat = true ∧ Q t) : Pk (ZbE f σ) Q := by
 obtain ⟨x, a, b, k⟩ := h; exact ⟨_, by simp only [ZbE, a, Option.bind_some, b, if_true], k⟩
theorem Zww {f : PE} (h : Pk (f σ) fun t => t.flatIn = true ∧ Q t) : Pk (pFl f σ) Q := by
 obtain ⟨x, a, b, k⟩ := h; exact ⟨_, by simp only [pFl, a, Option.bind_some, b, if_true], k⟩
theorem Zwx {b : PB} {f g : PE} (h : Pb (b σ) fun x => (x = true → Pk (f σ) Q) ∧ (x = false → Pk (g σ) Q)) : Pk (pIf b f g σ) Q := by
 obtain ⟨x, a, h1, h2⟩ := h
 cases x with
 | true => obtain ⟨t, c, q⟩ := h1 rfl; exact ⟨t, by simp [pIf, a, c], q⟩
 | false => obtain ⟨t, c, q⟩ := h2 rfl; exact ⟨t, by simp [pIf, a, c], q⟩
theorem ZvX {f : PE} (h : Pk (f σ) fun x => Pb (ZbW x) fun b => Q (.bool (!b))) : Pk (ZiJ f σ) Q := by
 obtain ⟨x, a, b, e, q⟩ := h; exact ⟨_, by simp only [ZiJ, a, Option.bind_some, e, Option.map_some], q⟩
theorem ZvY {f g : PE} (h : Pk (f σ) fun x => Pb (ZbW x) fun b => (b = true → Pk (g σ) Q) ∧ (b = false → Q x)) : Pk (Zc4 f g σ) Q := by
 obtain ⟨x, a, b, e, h1, h2⟩ := h
 cases b with
 | true => obtain ⟨t, c, q⟩ := h1 rfl; exact ⟨t, by simp [Zc4, a, e, c], q⟩
 | false => exact ⟨x, by simp [Zc4, a, e], h2 rfl⟩
theorem Zwy {f g : PE} (h : Pk (f σ) fun x => Pb (ZbW x) fun b => (b = true → Q x) ∧ (b = false → Pk (g σ) Q)) : Pk (pOr f g σ) Q := by
 obtain ⟨x, a, b, e, h1, h2⟩ := h
 cases b with
 | false => obtain ⟨t, c, q⟩ := h2 rfl; exact ⟨t, by simp [pOr, a, e, c], q⟩
 | true => exact ⟨x, by simp [pOr, a, e], h1 rfl⟩
theorem Zwz {K : String} {f : PE} (h : Pk (f σ) fun x => Q (.bool (Zh0 K x))) : Pk (pIs K f σ) Q := by
 obtain ⟨x, a, q⟩ := h; exact ⟨_, by simp only [pIs, a, Option.map_some], q⟩
theorem ZvZ {f : PE} (h : Pk (f σ) fun x => Pb (ZbW x) B) : Pb (ZE f σ) B := by
 obtain ⟨x, a, b, e, q⟩ := h; exact ⟨_, by simp only [ZE, a, Option.bind_some, e], q⟩
theorem ZuL {f : PB} (h : Pb (f σ) fun b => B (!b)) : Pb (ZbQ f σ) B := by
 obtain ⟨x, a, q⟩ := h; exact ⟨_, by simp only [ZbQ, a, Option.map_some], q⟩
theorem ZuM (h : B true) : Pb (Zag σ) B := ⟨_, rfl, h⟩
theorem ZtT (h : B false) : Pb (Zcp σ) B := ⟨_, rfl, h⟩
theorem ZuN {f g : PB} (h : Pb (f σ) fun b => (b = true → Pb (g σ) B) ∧ (b = false → B false)) : Pb (Zap f g σ) B := by
 obtain ⟨x, a, h1, h2⟩ := h
 cases x with
 | true => obtain ⟨t, c, q⟩ := h1 rfl; exact ⟨t, by simp [Zap, a, c], q⟩
 | false => exact ⟨_, by simp [Zap, a], h2 rfl⟩
theorem Zv0 {f g : PB} (h : Pb (f σ) fun b => (b = true → B true) ∧ (b = false → Pb (g σ) B)) : Pb (bOr f g σ) B := by
 obtain ⟨x, a, h1, h2⟩ := h
 cases x with
 | false => obtain ⟨t, c, q⟩ := h2 rfl; exact ⟨t, by simp [bOr, a, c], q⟩
 | true => exact ⟨_, by simp [bOr, a], h1 rfl⟩
theorem Zor {b : Bool} (h : B b) : Pb (ZbW (.bool b)) B := ⟨_, rfl, h⟩
theorem ZuO (h : N σ) : Psk (ZX σ) R N := ⟨_, _, rfl, by simp, fun _ => h⟩
theorem Zv1 {f : PE} (h : Pk (f σ) R) : Psk (ZF f σ) R N := by
 obtain ⟨x, a, q⟩ := h; exact ⟨some x, σ, by simp only [ZF, a, Option.map_some], fun t e => by cases e; exact q, by simp⟩
theorem Zim {i : Nat} {f : PE} (h : Pk (f σ) fun t => N (Z7 σ i t)) : Psk (ZM i f σ) R N := by
 obtain ⟨x, a, q⟩ := h; exact ⟨none, Z7 σ i x, by simp only [ZM, a, Option.map_some], by simp, fun _ => q⟩
theorem Zgu {a b : PS} (h : Psk (a σ) R fun σ1 => Psk (b σ1) R N) : Psk (Zu a b σ) R N := by
 obtain ⟨o, σ1, e, h1, h2⟩ := h
 cases o with
 | some t => exact ⟨some t, σ1, by simp only [Zu, e, Option.bind_some], h1, by simp⟩
 | none =>
  obtain ⟨o2, σ2, e2, k1, k2⟩ := h2 rfl
  exact ⟨o2, σ2, by simp only [Zu, e, Option.bind_some, e2], k1, k2⟩
theorem Zm6 {b : PB} {f g : PS} (h : Pb (b σ) fun x => (x = true → Psk (f σ) R N) ∧ (x = false → Psk (g σ) R N)) : Psk (ZU b f g σ) R N := by
 obtain ⟨x, a, h1, h2⟩ := h
 cases x with
 | true => obtain ⟨o, s, c, q⟩ := h1 rfl; exact ⟨o, s, by simp [ZU, a, c], q⟩
 | false => obtain ⟨o, s, c, q⟩ := h2 rfl; exact ⟨o, s, by simp [ZU, a, c], q⟩
theorem Zm7 {n : Nat} {q : PS} {ts : List T} (hn : ts.length = n) (h : Psk (q fun i => ts[i]?) Q fun _ => Q .none) : Pk (Zaa n q ts) Q := by
 obtain ⟨o, s, e, h1, h2⟩ := h
 cases o with
 | some t => exact ⟨t, by simp only [Zaa, hn, if_true, e, Option.map_some, Option.getD_some], h1 t rfl⟩
 | none => exact ⟨.none, by simp only [Zaa, hn, if_true, e, Option.map_some, Option.getD_none], h2 rfl⟩
theorem Zqi {b : Bool} {A C : Prop} (h : b = true) (k : A) : (b = true → A) ∧ (b = false → C) := ⟨fun _ => k, fun e => (by rw [h] at e; cases e)⟩
theorem Zv2 {b : Bool} {A C : Prop} (h : b = false) (k : C) : (b = true → A) ∧ (b = false → C) := ⟨fun e => (by rw [h] at e; cases e), fun _ => k⟩
theorem Zqj {a b : Int} (h : Q (.int (a + b))) : Pk (Zae (.int a) (.int b)) Q := ⟨_, rfl, h⟩
theorem Zv3 {a b : Int} (h : Q (.int (a - b))) : Pk (ZaX (.int a) (.int b)) Q := ⟨_, rfl, h⟩
theorem Zv4 {a : Int} (h : Q (.int (-a))) : Pk (Zbh (.int a)) Q := ⟨_, rfl, h⟩
theorem ZwA {a b : Int} (h : Q (.bool (decide (a < b)))) : Pk (qLt (.int a) (.int b)) Q := ⟨_, rfl, h⟩
theorem ZwB {a b : Int} (h : Q (.bool (decide (a ≤ b)))) : Pk (qLe (.int a) (.int b)) Q := ⟨_, rfl, h⟩
theorem ZwC {a b : Int} (h : Q (.bool (decide (b < a)))) : Pk (qGt (.int a) (.int b)) Q := ⟨_, rfl, h⟩
theorem Zv5 {a b : Int} (hb : b ≠ 0) (h : Q (.int (a.fmod b))) : Pk (Za0 (.int a) (.int b)) Q := ⟨_, by simp only [Za0]; rw [if_pos hb], h⟩
theorem ZcX {a b : Int} (hb : b ≠ 0) (hd : Builtin.divisionGoesByPylong a b = false) (h : Q (.int (a.fdiv b))) : Pk (Zcv (.int a) (.int b)) Q := ⟨_, by simp only [Zcv]; rw [if_pos ⟨hb, hd⟩], h⟩
theorem ZbY {a b : Int} (hm : mulOk a b = true) (h : Q (.int (a * b))) : Pk (ZaG (.int a) (.int b)) Q := ⟨_, by simp only [ZaG]; rw [if_pos hm], h⟩
theorem Zv6 {a : Int} (h : Q (.int (if a < 0 then -a else a))) : Pk (Zc5 [.int a]) Q := ⟨_, rfl, h⟩
theorem Zv7 {a b : Int} (h : Q (.int (if b < a then b else a))) : Pk (ZiA [.int a, .int b]) Q := ⟨_, rfl, h⟩
theorem Zh5 (a b : Int) : Zea (.int a) (.int b) = some (decide (a = b)) := by
 simp [Zea, ZcP, SeqAt.shaped, PyData.canLay0, PyData.depth, PyData.eqv]
 by_cases h : a = b <;> simp [h]
theorem ZwD {a b : Int} (h : Q (.bool (decide (a = b)))) : Pk (qEq (.int a) (.int b)) Q := ⟨_, by simp only [qEq, Zh5, Option.map_some], h⟩
theorem ZwE {a b : Int} (h : Q (.bool (decide (a ≠ b)))) : Pk (qNe (.int a) (.int b)) Q := ⟨.bool (decide (a ≠ b)), by simp only [qNe, Zh5, Option.map_some]; simp, h⟩
theorem Zv8 (h : Q (.bool true)) : Pk (qIs .none .none) Q := ⟨_, rfl, h⟩
theorem Zv9 {a : Int} (h : Q (.bool false)) : Pk (qIs (.int a) .none) Q := ⟨_, rfl, h⟩
theorem Zwa {a : List T} (h : Q (.bool false)) : Pk (qIs (.lst a) .none) Q := ⟨_, rfl, h⟩
theorem Zwb {a : List T} (h : Q (.bool false)) : Pk (qIs (.tup a) .none) Q := ⟨_, rfl, h⟩
theorem ZuP (h : Q (.bool false)) : Pk (Zbm .none .none) Q := ⟨_, rfl, h⟩
theorem ZuQ {a : Int} (h : Q (.bool true)) : Pk (Zbm (.int a) .none) Q := ⟨_, rfl, h⟩
theorem ZuR {a : List T} (h : Q (.bool true)) : Pk (Zbm (.tup a) .none) Q := ⟨_, rfl, h⟩
theorem ZuS {n : Nat} {f : Nat → T} (h : Q (.int n)) : Pk (Zaq [.lst (tab n f)]) Q := ⟨_, by simp only [Zaq, Zau], h⟩
theorem Zwc {ts : List T} (h : Q (.int ts.length)) : Pk (Zaq [.lst ts]) Q := ⟨_, rfl, h⟩
theorem ZuT {ts : List T} (h : Q (.int ts.length)) : Pk (Zaq [.tup ts]) Q := ⟨_, rfl, h⟩
theorem ZdL {k : Int} {n : Nat} (h0 : 0 ≤ k) (h1 : k < n) : seqIndex? k n = some k.toNat := by
 unfold seqIndex?
 have : ¬ k < 0 := by omega
 simp [this]
 omega
theorem ZuU {n i : Nat} {f : Nat → T} (hi : i < n) (h : Q (f i)) : Pk (Zr (.lst (tab n f)) (.int (i : Nat))) Q := ⟨_, by
 simp only [Zr, Zau, ZdL (show (0 : Int) ≤ (i : Int) by omega) (show (i : Int) < (n : Int) by omega), Option.bind_some, Int.toNat_natCast]
 exact ZbD hi, h⟩
theorem ZuV {n : Nat} {k : Int} {f : Nat → T} (h0 : 0 ≤ k) (h1 : k < n) (h : Q (f k.toNat)) : Pk (Zr (.lst (tab n f)) (.int k)) Q := ⟨_, by
 simp only [Zr, Zau, ZdL h0 h1, Option.bind_some]
 exact ZbD (by omega), h⟩
theorem Zh6 {ts : List T} {k : Int} {t : T} (h0 : 0 ≤ k) (e : ts[k.toNat]? = some t) (h : Q t) : Pk (Zr (.lst ts) (.int k)) Q := ⟨_, by
 simp only [Zr]
 rw [ZdL h0 (by have := (Zz6.mp e).1; omega)]
 exact e, h⟩
theorem ZuW {ts : List T} {k : Int} {t : T} (h0 : 0 ≤ k) (e : ts[k.toNat]? = some t) (h : Q t) : Pk (Zr (.tup ts) (.int k)) Q := ⟨_, by
 simp only [Zr]
 rw [ZdL h0 (by have := (Zz6.mp e).1; omega)]
 exact e, h⟩
theorem ZpH {n : Nat} {a : T} {f : Nat → T} (hn : n < 10000) (h : Q (.lst (tab (n + 1) (cn a f)))) : Pk (Zae (.lst [a]) (.lst (tab n f))) Q := ⟨_, by
 simp only [Zae]
 rw [if_pos (by rw [Za7, List.length_append, Zau]; simp; omega), List.singleton_append, ZtS], h⟩
theorem ZtU {ts : List T} (h : Q (.lst ts)) : Pk (ZbX [.lst ts]) Q := ⟨_, rfl, h⟩
theorem ZuX {ts : List T} (h : Q (.tup ts)) : Pk (Zh2 [.lst ts]) Q := ⟨_, rfl, h⟩
theorem Zs8 {n : Nat} {f : Nat → Bool} : Zfq (tab n fun i => .bool (f i)) = some (tab n f) := by
 have : ∀ l : List Bool, Zfq (l.map T.bool) = some l := fun l => by
  induction l with
  | nil => rfl
  | cons a l ih => simp only [List.map_cons, Zfq, ih, Option.map_some]
 rw [show (tab n fun i => T.bool (f i)) = (tab n f).map T.bool from tab_map.symm]
 exact this _
theorem ZtV {n : Nat} {f : Nat → Int} : Zdk (tab n fun i => .int (f i)) = some (tab n f) := by
 have : ∀ l : List Int, Zdk (l.map T.int) = some l := fun l => by
  induction l with
  | nil => rfl
  | cons a l ih => simp only [List.map_cons, Zdk, ih, Option.map_some]
 rw [show (tab n fun i => T.int (f i)) = (tab n f).map T.int from tab_map.symm]
 exact this _
theorem Zwd {n : Nat} {P : Nat → Prop} (h : Q (.bool (dec (∃ i, i < n ∧ P i)))) : Pk (ZgN [.lst (tab n fun i => .bool (dec (P i)))]) Q := ⟨_, by
 simp only [ZgN, Zs8, Option.map_some]
 congr 2
 symm
 apply Zm5
 rw [List.any_eq_true]
 constructor
 ·rintro ⟨x, hx, h⟩
  obtain ⟨i, hi, e⟩ := List.getElem_of_mem hx
  rw [Zau] at hi
  have := ZbD (f := fun i => dec (P i)) hi
  rw [List.getElem?_eq_getElem (by rw [Zau]; exact hi)] at this
  rw [← e, Option.some.inj this] at h
  exact ⟨i, hi, dec_iff.mp h⟩
 ·rintro ⟨i, hi, h⟩
  exact ⟨_, List.mem_of_getElem? (ZbD hi), ZaZ h⟩, h⟩
noncomputable def SqP (x : T) (L : List T → Prop) : Prop := ∃ ts, (x = .lst ts ∨ x = .tup ts) ∧ L ts
theorem Zh7 {f : PE} (h : Pk (f σ) fun t => SqP t L) : Pl (ZaH f σ) L := by
 obtain ⟨t, a, ts, rfl | rfl, q⟩ := h <;> exact ⟨_, by simp only [ZaH, a, Option.bind_some], q⟩
theorem Sq.lst {ts : List T} (h : L ts) : SqP (.lst ts) L := ⟨ts, .inl rfl, h⟩
theorem Zqk {a b c : Int} {H : Hp} {z : Nx × Nat × Hp} (h : Zcy a b c H = some z) : Zcw a b c = some ((List.range (rngN a b c)).map fun (i : Nat) => .int (a + (i : Int) * c)) := by
 unfold Zcy at h
 split at h
 ·rename_i hc
  unfold Zcw
  rw [if_pos hc]
 ·cases h
theorem ZtW {n : Nat} (hn : n ≤ 1000) : Zcw 0 n 1 = some (tab n fun i => .int i) := by
 rw [Zqk (ZvI (H := []) (b := n) (by omega) (by omega))]
 have e : rngN 0 n 1 = n := by
  unfold rngN Builtin.Range.rangeSize
  by_cases q : (0 : Int) < n
  ·rw [if_pos (by decide), if_pos (by omega)]; omega
  ·rw [if_pos (by decide), if_neg (by omega)]; omega
 rw [e]
 simp [tab]
theorem ZpI {a n : Nat} (ha : 0 < n) (hn : a + n ≤ 1000) : Zcw a (a + n) 1 = some (tab n fun i => .int (a + i)) := by
 rw [Zqk (ZvK (H := []) (a := a) (b := a + n) (c := 1) (by omega) (by omega) (by omega) (by omega) (by omega))]
 have e : rngN a (a + n) 1 = n := by
  unfold rngN
  rw [ZqI (by omega) (by omega)]
  omega
 rw [e]
 simp [tab]
theorem ZuY {g : PEs} {b : Int} {o : Option (List T)} (e : g σ = some [.int b]) (h : Zcw 0 b 1 = o) : Zaz g σ = o := by
 subst h; unfold Zaz; rw [e]; rfl
theorem Zgm {g : PEs} {a b : Int} {o : Option (List T)} (e : g σ = some [.int a, .int b]) (h : Zcw a b 1 = o) : Zaz g σ = o := by
 subst h; unfold Zaz; rw [e]; rfl
noncomputable def RnP (xs : List T) (L : List T → Prop) : Prop := (∃ n : Nat, xs = [.int n] ∧ n ≤ 1000 ∧ L (tab n fun i => .int i)) ∨ ∃ (a : Nat) (n : Nat), xs = [.int a, .int (a + n)] ∧ 0 < n ∧ a + n ≤ 1000 ∧ L (tab n fun i => .int (a + i))
theorem ZtX {g : PEs} (h : Pl (g σ) fun xs => RnP xs L) : Pl (Zaz g σ) L := by
 obtain ⟨xs, e, h⟩ := h
 rcases h with ⟨n, h0, h1, q⟩ | ⟨a, n, h0, h1, h2, q⟩
 ·subst h0; exact ⟨_, ZuY e (ZtW h1), q⟩
 ·subst h0; exact ⟨_, Zgm e (ZpI h1 h2), q⟩
theorem Rn.one {n : Nat} (hn : n ≤ 1000) (h : L (tab n fun i => .int i)) : RnP [.int n] L := .inl ⟨n, rfl, hn, h⟩
theorem ZiB {k : Int} (n : Nat) (e : k = n) (hn : n ≤ 1000) (h : L (tab n fun i => .int i)) : RnP [.int k] L := .inl ⟨n, by rw [e], hn, h⟩
theorem Rn.two {k l : Int} (a n : Nat) (e0 : l = a) (e : k = a + n) (ha : 0 < n) (hn : a + n ≤ 1000) (h : L (tab n fun i => .int (a + i))) : RnP [.int l, .int k] L := .inr ⟨a, n, by rw [e, e0], ha, hn, h⟩
noncomputable def ZiP (x y : T) (L : List T → Prop) : Prop := ∃ xs ys, x = .lst xs ∧ y = .lst ys ∧ L (List.zipWith (fun a b => .tup [a, b]) xs ys)
theorem Zql {f g : PE} (h : Pk (f σ) fun x => Pk (g σ) fun y => ZiP x y L) : Pl (ZdP f g σ) L := by
 obtain ⟨x, a, y, b, xs, ys, rfl, rfl, q⟩ := h; exact ⟨_, by simp only [ZdP, a, b, Option.bind_some], q⟩
theorem Zi.eq {n : Nat} {f g : Nat → T} (h : L (tab n fun i => .tup [f i, g i])) : ZiP (.lst (tab n f)) (.lst (tab n g)) L := ⟨_, _, rfl, rfl, by rw [ZpG, Nat.min_self]; exact h⟩
theorem ZoK {j : Nat} {f : PE} {h : T → T} : ∀ {ts : List T}, (∀ t ∈ ts, f (Z7 σ j t) = some (h t)) → Zcs (Zab j) Zag f σ ts = some (ts.map h)
 | [], _ => rfl
 | t :: ts, k => by
  simp only [Zcs, Zab, Zag, Option.bind_some, if_true, k t Zz5, ZoK fun t m => k t (Zz2 _ m), Option.map_some, List.map_cons]
theorem ZmF {put : T → TL → Option TL} {f : PE} : ∀ {ts us : List T}, us.length = ts.length → (∀ (i : Nat) t u, ts[i]? = some t → us[i]? = some u → ∃ σ1, put t σ = some σ1 ∧ f σ1 = some u) → Zcs put Zag f σ ts = some us
 | [], us, hl, _ => by cases us with
  | nil => rfl
  | cons _ _ => simp at hl
 | t :: ts, us, hl, k => by
  cases us with
  | nil => simp at hl
  | cons u us =>
   obtain ⟨σ1, h1, h2⟩ := k 0 t u (by simp) (by simp)
   have := ZmF (ts := ts) (us := us) (f := f) (put := put) (by simpa using hl) fun i t' u' h3 h4 => k (i + 1) t' u' (by simpa using h3) (by simpa using h4)
   simp only [Zcs, h1, Zag, Option.bind_some, if_true, h2, this, Option.map_some]
theorem Zcz {g : PG} {j n : Nat} {a b : Nat → T} {f : PE} (hn : n < 10000) (hg : Pl (g σ) fun ts => ts = tab n a) (hf : ∀ i, i < n → Pk (f (Z7 σ j (a i))) fun t => t = b i) (h : Q (.lst (tab n b))) : Pk (Zam g (Zab j) Zag f σ) Q := by
 obtain ⟨ts, e, rfl⟩ := hg
 refine ⟨_, ?_, h⟩
 simp only [Zam, e, Option.bind_some, Zau]
 rw [if_pos (by rw [Za7]; omega), ZmF (us := tab n b) (by rw [Zau, Zau]) fun i t u h1 h2 => ?_]
 ·rfl
 ·have hi : i < n := by have := (Zz6.mp h1).1; rwa [Zau] at this
  rw [ZbD hi] at h1 h2
  cases h1; cases h2
  exact ⟨_, rfl, (hf i hi).eq⟩
theorem Zmo {g : PG} {j k n : Nat} {a b c : Nat → T} {f : PE} (hn : n < 10000) (hg : Pl (g σ) fun ts => ts = tab n fun i => .tup [a i, b i]) (hf : ∀ i, i < n → Pk (f (Z7 (Z7 σ j (a i)) k (b i))) fun t => t = c i) (h : Q (.lst (tab n c))) : Pk (Zam g (ZcO j k) Zag f σ) Q := by
 obtain ⟨ts, e, rfl⟩ := hg
 refine ⟨_, ?_, h⟩
 simp only [Zam, e, Option.bind_some, Zau]
 rw [if_pos (by rw [Za7]; omega), ZmF (us := tab n c) (by rw [Zau, Zau]) fun i t u h1 h2 => ?_]
 ·rfl
 ·have hi : i < n := by have := (Zz6.mp h1).1; rwa [Zau] at this
  rw [ZbD hi] at h1 h2
  cases h1; cases h2
  exact ⟨_, rfl, (hf i hi).eq⟩
theorem Zin {put : T → TL → Option TL} {b : PS} : ∀ {ts : List T} (P : Nat → TL → Prop) {σ : TL}, P 0 σ → (∀ (i : Nat) t σ, ts[i]? = some t → P i σ → ∃ σ1, put t σ = some σ1 ∧ Psk (b σ1) R (P (i + 1))) → (∀ σ, P ts.length σ → N σ) → Psk (ZeG put b σ ts) R N
 | [], P, σ, h0, _, h2 => ⟨_, _, rfl, by simp, fun _ => h2 _ h0⟩
 | t :: ts, P, σ, h0, h1, h2 => by
  obtain ⟨σ1, e1, o, σ2, e2, k1, k2⟩ := h1 0 t σ (by simp) h0
  cases o with
  | some v => exact ⟨some v, σ2, by simp only [ZeG, e1, Option.bind_some, e2], k1, by simp⟩
  | none =>
   obtain ⟨o3, σ3, e3, l1, l2⟩ := Zin (ts := ts) (fun i => P (i + 1)) (k2 rfl) (fun i t' σ' h3 h4 => h1 (i + 1) t' σ' (by simpa using h3) h4) (fun σ' h => h2 σ' (by simpa using h))
   exact ⟨o3, σ3, by simp only [ZeG, e1, Option.bind_some, e2, e3], l1, l2⟩
theorem ZbK {g : PG} {j n : Nat} {a : Nat → T} {b : PS} (hg : Pl (g σ) fun ts => ts = tab n a) (P : Nat → TL → Prop) (h0 : P 0 σ) (h1 : ∀ i σ, i < n → P i σ → Psk (b (Z7 σ j (a i))) R (P (i + 1))) (h2 : ∀ σ, P n σ → N σ) : Psk (ZaI g (Zab j) b σ) R N := by
 obtain ⟨ts, e, rfl⟩ := hg
 have := Zin (R := R) (N := N) (put := Zab j) (b := b) (ts := tab n a) P h0 (fun i t σ' h3 h4 => by
  have hi : i < n := by have := (Zz6.mp h3).1; rwa [Zau] at this
  rw [ZbD hi] at h3
  cases h3
  exact ⟨_, rfl, h1 i σ' hi h4⟩) (by rw [Zau]; exact h2)
 obtain ⟨o, s, e2, q⟩ := this
 exact ⟨o, s, by simp only [ZaI, e, Option.bind_some, e2], q⟩
theorem ZmG {g : PG} {j k n : Nat} {a c : Nat → T} {b : PS} (hg : Pl (g σ) fun ts => ts = tab n fun i => .tup [a i, c i]) (P : Nat → TL → Prop) (h0 : P 0 σ) (h1 : ∀ i σ, i < n → P i σ → Psk (b (Z7 (Z7 σ j (a i)) k (c i))) R (P (i + 1))) (h2 : ∀ σ, P n σ → N σ) : Psk (ZaI g (ZcO j k) b σ) R N := by
 obtain ⟨ts, e, rfl⟩ := hg
 have := Zin (R := R) (N := N) (put := ZcO j k) (b := b) (ts := tab n fun i => .tup [a i, c i]) P h0 (fun i t σ' h3 h4 => by
  have hi : i < n := by have := (Zz6.mp h3).1; rwa [Zau] at this
  rw [ZbD hi] at h3
  cases h3
  exact ⟨_, rfl, h1 i σ' hi h4⟩) (by rw [Zau]; exact h2)
 obtain ⟨o, s, e2, q⟩ := this
 exact ⟨o, s, by simp only [ZaI, e, Option.bind_some, e2], q⟩
theorem ZuZ {g : PG} {j : Nat} {ts : List T} {b : PS} (hg : Pl (g σ) fun us => us = ts) (P : Nat → TL → Prop) (h0 : P 0 σ) (h1 : ∀ (i : Nat) t σ, ts[i]? = some t → P i σ → Psk (b (Z7 σ j t)) R (P (i + 1))) (h2 : ∀ σ, P ts.length σ → N σ) : Psk (ZaI g (Zab j) b σ) R N := by
 obtain ⟨us, e, rfl⟩ := hg
 obtain ⟨o, s, e2, q⟩ := Zin (R := R) (N := N) (put := Zab j) (b := b) (ts := us) P h0 (fun i t σ' h3 h4 => ⟨_, rfl, h1 i t σ' h3 h4⟩) h2
 exact ⟨o, s, by simp only [ZaI, e, Option.bind_some, e2], q⟩
theorem Zff {t : PB} {b : PS} (P : Nat → TL → Prop) (R : T → Prop) (N : TL → Prop) (h : ∀ m σ, P m σ → Pb (t σ) fun x => (x = true → Psk (b σ) R fun σ1 => ∃ m', m' < m ∧ P m' σ1) ∧ (x = false → N σ)) : ∀ (n : Nat) {m : Nat} {σ : TL}, P m σ → m < n → Psk (Zde t b n σ) R N
 | 0, _, _, _, hm => by omega
 | n + 1, m, σ, hp, hm => by
  obtain ⟨x, e, h1, h2⟩ := h m σ hp
  cases x with
  | false => exact ⟨none, σ, by simp [Zde, e], by simp, fun _ => h2 rfl⟩
  | true =>
   obtain ⟨o, σ1, e1, k1, k2⟩ := h1 rfl
   cases o with
   | some v => exact ⟨some v, σ1, by simp [Zde, e, e1], k1, by simp⟩
   | none =>
    obtain ⟨m', hm', hp'⟩ := k2 rfl
    obtain ⟨o2, σ2, e2, l1, l2⟩ := Zff P R N h n hp' (by omega)
    exact ⟨o2, σ2, by simp [Zde, e, e1, e2], l1, l2⟩
theorem ZhG : ZcH σ [] = σ := by funext i; simp [ZcH]
noncomputable def AppP (σ : TL) (x : Nat) (w : T) (N : TL → Prop) : Prop := ∃ ts, σ x = some (.lst ts) ∧ ts.length < 10000 ∧ N (Z7 σ x (.lst (ts ++ [w])))
theorem Zu0 {x : Nat} {w : T} {ts : List T} (e : σ x = some (.lst ts)) (hl : ts.length < 10000) (h : N (Z7 σ x (.lst (ts ++ [w])))) : AppP σ x w N := ⟨ts, e, hl, h⟩
theorem Zwe {x : Nat} {f : PE} (h : Pk (f σ) fun w => AppP σ x w N) : Psk (Zdo x [] ZaN f σ) R N := by
 obtain ⟨w, e, ts, h1, h2, q⟩ := h
 refine ⟨none, _, ?_, by simp, fun _ => q⟩
 simp only [Zdo, ZaN, Option.bind_some, e, h1, ZcD, Zeb]
 rw [if_pos (by rw [Za7]; omega)]
 simp only [Option.map_some, ZhG]
noncomputable def AppQ (σ : TL) (x y : Nat) (w : T) (N : TL → Prop) : Prop := ∃ ts, σ x = some (.lst ts) ∧ ts.length < 10000 ∧ N (ZcH (Z7 σ x (.lst (ts ++ [w]))) [y])
theorem Zu1 {x y : Nat} {w : T} {ts : List T} (e : σ x = some (.lst ts)) (hl : ts.length < 10000) (h : N (ZcH (Z7 σ x (.lst (ts ++ [w]))) [y])) : AppQ σ x y w N := ⟨ts, e, hl, h⟩
theorem Zu2 {x y : Nat} {f : PE} (h : Pk (f σ) fun w => AppQ σ x y w N) : Psk (Zdo x [y] ZaN f σ) R N := by
 obtain ⟨w, e, ts, h1, h2, q⟩ := h
 refine ⟨none, _, ?_, by simp, fun _ => q⟩
 simp only [Zdo, ZaN, Option.bind_some, e, h1, ZcD, Zeb]
 rw [if_pos (by rw [Za7]; omega)]
 simp only [Option.map_some]
noncomputable def PutP (σ : TL) (x : Nat) (w k : T) (N : TL → Prop) : Prop := ∃ ts m, k = .int m ∧ σ x = some (.lst ts) ∧ 0 ≤ m ∧ m < ts.length ∧ N (Z7 σ x (.lst (ts.set m.toNat w)))
theorem ZtY {x n i : Nat} {w : T} {f : Nat → T} (e : σ x = some (.lst (TM.tab n f))) (hi : i < n) (h : N (Z7 σ x (.lst (TM.tab n fun k => if k = i then w else f k)))) : PutP σ x w (.int i) N := ⟨_, _, rfl, e, by omega, by rw [Zau]; omega, by rw [Int.toNat_natCast, Zh4]; exact h⟩
theorem Zs9 {x n : Nat} {k : Int} {w : T} {f : Nat → T} (e : σ x = some (.lst (TM.tab n f))) (h0 : 0 ≤ k) (hi : k < n) (h : N (Z7 σ x (.lst (TM.tab n fun i => if i = k.toNat then w else f i)))) : PutP σ x w (.int k) N := ⟨_, _, rfl, e, h0, by rw [Zau]; omega, by rw [Zh4]; exact h⟩
theorem Zwf {x : Nat} {f i : PE} (h : Pk (f σ) fun w => Pk (i σ) fun k => PutP σ x w k N) : Psk (Zbc x [] f ZaN i σ) R N := by
 obtain ⟨w, e, k, e2, ts, m, rfl, h1, h2, h3, q⟩ := h
 refine ⟨none, _, ?_, by simp, fun _ => q⟩
 simp only [Zbc, ZaN, Option.bind_some, e, e2, h1, ZcD, ZfC]
 rw [if_pos ⟨h2, h3⟩]
 simp only [Option.map_some, ZhG]
noncomputable def Put2 (σ : TL) (x : Nat) (w a k : T) (N : TL → Prop) : Prop := ∃ ts us l m, a = .int l ∧ k = .int m ∧ σ x = some (.lst ts) ∧ 0 ≤ l ∧ ts[l.toNat]? = some (.lst us) ∧ 0 ≤ m ∧ m < us.length ∧ N (Z7 σ x (.lst (ts.set l.toNat (.lst (us.set m.toNat w)))))
theorem Zo8 {x n m i j : Nat} {w : T} {f : Nat → Nat → T} (e : σ x = some (.lst (TM.tab n fun a => .lst (TM.tab m (f a))))) (hi : i < n) (hj : j < m) (h : N (Z7 σ x (.lst (TM.tab n fun a => .lst (TM.tab m fun b => if a = i ∧ b = j then w else f a b))))) : Put2 σ x w (.int i) (.int j) N := by
 refine ⟨_, TM.tab m (f i), i, j, rfl, rfl, e, by omega, ?_, by omega, by rw [Zau]; omega, ?_⟩
 ·rw [Int.toNat_natCast, ZbD hi]
 ·rw [Int.toNat_natCast, Int.toNat_natCast, Zh4, Zh4]
  have : (TM.tab n fun a => if a = i then T.lst (TM.tab m fun b => if b = j then w else f i b) else T.lst (TM.tab m (f a))) = TM.tab n fun a => .lst (TM.tab m fun b => if a = i ∧ b = j then w else f a b) := ZbI fun a _ => by
   by_cases q : a = i
   ·subst q; simp
   ·simp [q]
  rw [this]; exact h
theorem Zu3 {x : Nat} {f i j : PE} (h : Pk (f σ) fun w => Pk (i σ) fun a => Pk (j σ) fun k => Put2 σ x w a k N) : Psk (Zbc x [] f (Zck ZaN i) j σ) R N := by
 obtain ⟨w, e, a, e1, k, e2, ts, us, l, m, rfl, rfl, h1, h0, h4, h2, h3, q⟩ := h
 refine ⟨none, _, ?_, by simp, fun _ => q⟩
 have hl := (Zz6.mp h4).1
 simp only [Zbc, ZaN, Zck, Option.bind_some, e, e1, e2, h1, List.nil_append, ZcD, ZfC, ZdL h0 (show l < ts.length by omega), h4]
 rw [if_pos ⟨h2, h3⟩]
 simp only [Option.map_some, ZhG]
theorem Zu4 {i j : Nat} {t : T} {o : Option T} (h : j ≠ i) (e : σ j = o) : Z7 σ i t j = o := by simp [Z7, h, e]
theorem ZtZ {j : Nat} {J : List Nat} {o : Option T} (h : j ∉ J) (e : σ j = o) : ZcH σ J j = o := by simp [ZcH, h, e]
end
end TM
end
section
set_option maxRecDepth 100000
set_option linter.all false
set_option autoImplicit false
namespace TM
open PySem PM
inductive Pln : Nat → T → Prop where
 | none {n : Nat} : Pln n .none
 | int {n : Nat} {i : Int} : Pln n (.int i)
 | str {n : Nat} {x : Str} : PyData.strOk x = true → Pln n (.str x)
 | tup {n : Nat} {ts : List T} : (∀ t ∈ ts, Pln n t) → Pln (n + 1) (.tup ts)
 | lst {n : Nat} {ts : List T} : (∀ t ∈ ts, Pln n t) → Pln (n + 1) (.lst ts)
mutual
noncomputable def dd : T → PyData
 | .none => .none
 | .bool b => .bool b
 | .int i => .int i
 | .str x => .str x
 | .tup ts => .tuple (dds ts)
 | .lst ts => .list (dds ts)
noncomputable def dds : List T → List PyData
 | [] => []
 | t :: ts => dd t :: dds ts
end
theorem Zmp {f : T → Option PyData} : ∀ {ts : List T}, (∀ t ∈ ts, f t = some (dd t)) → ZeA f ts = some (dds ts)
 | [], _ => rfl
 | t :: ts, h => by simp only [ZeA, h t Zz5, Zmp fun t m => h t (Zz2 _ m), Option.bind_some, dds]
theorem ZmH : ∀ {ts : List T}, (∀ t ∈ ts, PyData.canLay0 (dd t) = true) → PyData.canLayAll0 (dds ts) = true
 | [], _ => rfl
 | t :: ts, h => by simp only [dds, PyData.canLayAll0, h t Zz5, ZmH fun t m => h t (Zz2 _ m), Bool.and_self]
theorem ZmI {n : Nat} : ∀ {ts : List T}, (∀ t ∈ ts, PyData.depth (dd t) ≤ n) → PyData.depthAll (dds ts) ≤ n
 | [], _ => by simp [dds, PyData.depthAll]
 | t :: ts, h => by
  have h1 := h t Zz5
  have h2 := ZmI fun t m => h t (Zz2 _ m)
  simp only [dds, PyData.depthAll]
  omega
theorem Pln.dat {n : Nat} {t : T} (h : Pln n t) : ZcP n t = some (dd t) ∧ PyData.canLay0 (dd t) = true ∧ PyData.depth (dd t) ≤ n := by
 induction h with
 | @none n => cases n <;> exact ⟨rfl, rfl, by simp [dd, PyData.depth]⟩
 | @int n i => cases n <;> exact ⟨rfl, rfl, by simp [dd, PyData.depth]⟩
 | @str n x h => cases n <;> exact ⟨rfl, by simpa [dd, PyData.canLay0] using h, by simp [dd, PyData.depth]⟩
 | @tup n ts _ ih =>
  refine ⟨?_, ?_, ?_⟩
  ·simp only [ZcP, Zmp fun t m => (ih t m).1, Option.map_some, dd]
  ·simp only [dd, PyData.canLay0]; exact ZmH fun t m => (ih t m).2.1
  ·simp only [dd, PyData.depth]
   have := ZmI fun t m => (ih t m).2.2
   omega
 | @lst n ts _ ih =>
  refine ⟨?_, ?_, ?_⟩
  ·simp only [ZcP, Zmp fun t m => (ih t m).1, Option.map_some, dd]
  ·simp only [dd, PyData.canLay0]; exact ZmH fun t m => (ih t m).2.1
  ·simp only [dd, PyData.depth]
   have := ZmI fun t m => (ih t m).2.2
   omega
theorem ZmJ : ∀ {ts us : List T}, (∀ t ∈ ts, ∀ u ∈ us, (PyData.eqv (dd t) (dd u) = true ↔ t = u)) → (PyData.eqvAll (dds ts) (dds us) = true ↔ ts = us)
 | [], [], _ => by simp [dds, PyData.eqvAll]
 | [], _ :: _, _ => by simp [dds, PyData.eqvAll]
 | _ :: _, [], _ => by simp [dds, PyData.eqvAll]
 | t :: ts, u :: us, h => by
  simp only [dds, PyData.eqvAll, Bool.and_eq_true, h t Zz5 u Zz5, ZmJ fun t m u n => h t (Zz2 _ m) u (Zz2 _ n), List.cons.injEq]
theorem Pln.eqv {n : Nat} {t : T} (h : Pln n t) : ∀ {m : Nat} {u : T}, Pln m u → (PyData.eqv (dd t) (dd u) = true ↔ t = u) := by
 induction h with
 | none => intro m u h; cases h <;> simp [dd, PyData.eqv]
 | int => intro m u h; cases h <;> simp [dd, PyData.eqv]
 | str _ => intro m u h; cases h <;> simp [dd, PyData.eqv]
 | tup hs ih =>
  intro m u h
  cases h with
  | tup hu => simp only [dd, PyData.eqv, T.tup.injEq]; exact ZmJ fun t a u b => ih t a (hu u b)
  | none => simp [dd, PyData.eqv]
  | int => simp [dd, PyData.eqv]
  | str => simp [dd, PyData.eqv]
  | lst => simp [dd, PyData.eqv]
 | lst hs ih =>
  intro m u h
  cases h with
  | lst hu => simp only [dd, PyData.eqv, T.lst.injEq]; exact ZmJ fun t a u b => ih t a (hu u b)
  | none => simp [dd, PyData.eqv]
  | int => simp [dd, PyData.eqv]
  | str => simp [dd, PyData.eqv]
  | tup => simp [dd, PyData.eqv]
theorem Pln.mono {n : Nat} {t : T} (h : Pln n t) : ∀ {m : Nat}, n ≤ m → Pln m t := by
 induction h with
 | none => intro m _; exact .none
 | int => intro m _; exact .int
 | str h => intro m _; exact .str h
 | tup hs ih =>
  intro m hm
  cases m with
  | zero => omega
  | succ m => exact .tup fun t a => ih t a (by omega)
 | lst hs ih =>
  intro m hm
  cases m with
  | zero => omega
  | succ m => exact .lst fun t a => ih t a (by omega)
theorem ZpJ {n m : Nat} {a b : T} (ha : Pln n a) (hb : Pln m b) (hn : n ≤ 8 := by decide) (hm : m ≤ 8 := by decide) : Zea a b = some (dec (a = b)) := by
 have ha := ha.mono hn
 have hb := hb.mono hm
 obtain ⟨a1, a2, a3⟩ := ha.dat
 obtain ⟨b1, b2, b3⟩ := hb.dat
 unfold Zea Zb1
 rw [a1, b1]
 simp only [Option.bind_some]
 rw [if_pos ⟨by simp only [SeqAt.shaped, a2, Bool.true_and, decide_eq_true_eq]; omega, by simp only [SeqAt.shaped, b2, Bool.true_and, decide_eq_true_eq]; omega⟩, Zm5 (ha.eqv hb)]
section
variable {Q : T → Prop}
theorem Zet {n m : Nat} {a b : T} (ha : Pln n a) (hb : Pln m b) (h : Q (.bool (dec (a = b)))) (hn : n ≤ 8 := by decide) (hm : m ≤ 8 := by decide) : Pk (qEq a b) Q := ⟨_, by simp only [qEq, ZpJ ha hb hn hm, Option.map_some], h⟩
theorem Zqm {n m : Nat} {a b : T} (ha : Pln n a) (hb : Pln m b) (h : Q (.bool (!dec (a = b)))) (hn : n ≤ 8 := by decide) (hm : m ≤ 8 := by decide) : Pk (qNe a b) Q := ⟨_, by simp only [qNe, ZpJ ha hb hn hm, Option.map_some], h⟩
end
theorem ZdE {α : Type} {n : Nat} {f : Nat → α} {x : α} (h : x ∈ tab n f) : ∃ i, i < n ∧ x = f i := by
 obtain ⟨i, hi, e⟩ := List.mem_map.mp h
 exact ⟨i, List.mem_range.mp hi, e.symm⟩
theorem ZoL {n : Nat} {f : Nat → T} (h : ∀ i, i < n → (f i).flat = true) : T.flats (tab n f) = true := by
 have key : ∀ l : List T, (∀ t ∈ l, t.flat = true) → T.flats l = true := fun l => by
  induction l with
  | nil => intro _; rfl
  | cons t l ih => intro h; simp only [T.flats, h t Zz5, ih fun t m => h t (Zz2 _ m), Bool.and_self]
 exact key _ fun t m => by obtain ⟨i, hi, rfl⟩ := ZdE m; exact h i hi
theorem Zos {n : Nat} {f : Nat → T} (h : ∀ i, i < n → (f i).flat = true) : T.flatIn (.lst (tab n f)) = true := ZoL h
noncomputable def oT : Option Int → T
 | none => .none
 | some x => .int x
noncomputable def prT (q : Int × Int) : T := .tup [.int q.1, .int q.2]
noncomputable def ZiM (n : Nat) (x : Nat → Int) : T := .lst (tab n fun i => .int (x i))
noncomputable def Zar (n : Nat) (b : Nat → Option Int) : T := .lst (tab n fun j => oT (b j))
noncomputable def Z8 (n : Nat) (G : Nat → Nat → Option Int) : T := .lst (tab n fun i => Zar n (G i))
noncomputable def ZaU (n : Nat) (R : Nat → Int × Int) : T := .lst (tab n fun i => prT (R i))
noncomputable def Z5 (n : Nat) (G : Nat → Nat → Option Int) (R : Nat → Int × Int) : T := .tup [Z8 (n + 1) G, ZaU n R]
theorem Za6 : oT none = .none := rfl
theorem Zan {c : Int} : oT (some c) = .int c := rfl
theorem Zep {b : Option Int} : (oT b).flat = true := by cases b <;> rfl
theorem ZhS {q : Int × Int} : (prT q).flat = true := rfl
theorem oT_inj {a b : Option Int} : oT a = oT b ↔ a = b := by cases a <;> cases b <;> simp [oT]
theorem Zfs {n k : Nat} {f : Nat → T} (h : ∀ i, i < k → Pln n (f i)) : Pln (n + 1) (.lst (tab k f)) := .lst fun t m => by obtain ⟨i, hi, rfl⟩ := ZdE m; exact h i hi
theorem ZgG {n : Nat} {b : Option Int} : Pln n (oT b) := by cases b; exact .none; exact .int
theorem Zqn {n : Nat} {q : Int × Int} : Pln (n + 1) (prT q) := .tup fun t m => by
 simp at m; rcases m with rfl | rfl <;> exact .int
theorem ZpK {n : Nat} {b : Nat → Option Int} : Pln 1 (Zar n b) := Zfs fun _ _ => ZgG
theorem Zt0 {n : Nat} {G : Nat → Nat → Option Int} : Pln 2 (Z8 n G) := Zfs fun _ _ => ZpK
theorem Zt1 {n : Nat} {R : Nat → Int × Int} : Pln 2 (ZaU n R) := Zfs fun _ _ => Zqn
theorem Zmq {n : Nat} {G : Nat → Nat → Option Int} {R : Nat → Int × Int} : Pln 3 (Z5 n G R) := .tup fun t m => by
 simp at m; rcases m with rfl | rfl
 ·exact Zt0
 ·exact Zt1
theorem Zbn {σ : TL} {i : Nat} {t : T} : Z7 σ i t i = some t := by simp [Z7]
end TM
end
section
set_option maxRecDepth 100000
set_option linter.all false
set_option autoImplicit false
namespace PM
open PySem PySem.W PySem.Calls PyProof.Rows PyProof PyProof.Rows.LCg PyProof.Rows.LCp
noncomputable def sNo : Sm := fun _ _ => none
noncomputable def inD (d : PyData) : PyData → Option Bool
 | .list xs => if PyData.canLayAll0 xs = true ∧ d.canLay0 = true ∧ d.depth ≤ 64 then some (xs.any fun y => PyData.eqv y d) else none
 | .tuple xs => if PyData.canLayAll0 xs = true ∧ d.canLay0 = true ∧ d.depth ≤ 64 then some (xs.any fun y => PyData.eqv y d) else none
 | _ => none
noncomputable def Znw (a b : V) (H : Hp) : Option Bool := (toD H Zb1 a).bind fun d => (toD H Zb1 b).bind fun e => inD d e
noncomputable def oIn (a b : V) (H : Hp) : Option (V × Hp) := (Znw a b H).map fun c => (.bool c, H)
noncomputable def Zgv (a : Nat) : Nx := fun i H => H[a]?.bind fun vs => match vs[i]? with
 | some x => some (some (.tup [.int i, x]))
 | none => if i = vs.length then some none else none
noncomputable def ZiC (f : Ex) : Src := fun ρ H => (f ρ H).bind fun p => match p.1 with
 | .ref a => p.2[a]?.map fun vs => (Zgv a, vs.length + 1, p.2)
 | _ => none
section
variable {prog : Program} {w : World} {Γ : Cx}
theorem ZwF {st : Stmt} : S1 prog w Γ st sNo := fun W ρ H fr s Q E r rp hf post => by cases hf
theorem ZgH : Op2 prog w (compareOp .In) oIn := by
 intro Γ W ρ H fr s Q E a b x y v H' r hx hy ho post
 obtain ⟨c, e1, e2⟩ := Zz1.mp ho
 cases e2
 obtain ⟨d, h1, e1⟩ := Zz0.mp e1
 obtain ⟨e, h2, e1⟩ := Zz0.mp e1
 obtain ⟨as, R1⟩ := Ze4 r Zb1 a x d hx h1
 obtain ⟨bs, R2⟩ := Ze4 r Zb1 b y e hy h2
 have hu := Γ.hu
 unfold inD at e1
 split at e1
 ·split at e1
  ·rename_i hs
   cases e1
   exact SeqAt.in_list_reads R2 R1 hs.1 hs.2.1 (by omega) (post W s.heap s.toks _ (.refl W) r (.bool _))
  ·cases e1
 ·split at e1
  ·rename_i hs
   cases e1
   exact SeqAt.in_tuple_reads R2 R1 hs.1 hs.2.1 (by omega) (post W s.heap s.toks _ (.refl W) r (.bool _))
  ·cases e1
 ·cases e1
noncomputable def ES (e it l : Addr) (i : Nat) (h : Heap) : Prop := (∃ old, IsEnum h e it i old) ∧ h.IsListIter it l i
theorem ES.at {e it l : Addr} {i : Nat} {h h' : Heap} (x : ES e it l i h) (k : ∀ a ∈ [e, it], ∀ o, h.get? a = some o → h'.get? a = some o) : ES e it l i h' := by
 obtain ⟨⟨old, h1⟩, h2⟩ := x
 exact ⟨⟨old, k e (by simp) _ h1⟩, h2.at fun o x => k it (by simp) o x⟩
theorem ES.have {e it l : Addr} {i : Nat} {h : Heap} (x : ES e it l i h) : ∀ a ∈ [e, it], ∃ o, h.get? a = some o := by
 obtain ⟨⟨old, h1⟩, o, h2, _⟩ := x
 intro a ha
 simp at ha
 rcases ha with rfl | rfl
 ·exact ⟨_, h1⟩
 ·exact ⟨_, h2⟩
noncomputable def EIt (e it l : Addr) (i : Nat) (fs : List (Addr × Obj)) : Prop := fs.map (·.1) = [e, it] ∧ ∀ h : Heap, (∀ q ∈ fs, h.get? q.1 = some q.2) → ES e it l i h
theorem ZpL {e it l : Addr} {i : Nat} {h : Heap} (x : ES e it l i h) : ∃ fs, EIt e it l i fs ∧ ∀ q ∈ fs, h.get? q.1 = some q.2 := by
 obtain ⟨fs, h1, h2⟩ := Znu h [e, it] x.have
 refine ⟨fs, ⟨h1, fun h' k => x.at fun a ha o ho => ?_⟩, h2⟩
 rw [← h1] at ha
 obtain ⟨q, hq, eq⟩ := List.mem_map.mp ha
 have := h2 q hq
 rw [eq, ho] at this
 cases this
 exact eq ▸ k q hq
theorem Zu5 {W0 : Wd} {e it l : Addr} {a : Nat} (ea : W0.pi[a]? = some l) (hei : e ≠ it) (hle : l ≠ e) (hli : l ≠ it) :
  Itr2 prog w Γ W0 (.ref e) [e, it] (EIt e it l) (Zgv a) := by
 refine ⟨fun i fs h => h.1, ?_, ?_, ?_, ?_⟩
 ·intro i H v hh
  obtain ⟨vs, e1, hh⟩ := Zz0.mp hh
  split at hh
  ·cases hh
   exact ⟨_, _, rfl⟩
  ·split at hh <;> cases hh
 ·intro i W ρ H fr fs s Q E va vb le r ap hit hn post
  obtain ⟨vs, e1, hh⟩ := Zz0.mp hn
  have hv : va = .int i ∧ vs[i]? = some vb := by
   split at hh
   ·rename_i x h1
    cases hh
    exact ⟨rfl, h1⟩
   ·split at hh <;> cases hh
  obtain ⟨_, xs, k1, g1, v1⟩ := r.at e1 (le.at ea)
  obtain ⟨x, hx, rx⟩ := v1.at hv.2
  have st : ES e it l i s.heap := hit.2 _ fun q hq => r.frAt (Zz4 _ hq)
  have Wk := WalksT.enumerate (prog := prog) (w := w) (A := Γ.A) Γ.hh e it l hei hle hli xs.toArray
  have isl1 : s.heap.IsList l xs.toArray := ⟨_, g1, rfl, k1, rfl⟩
  have hi : i < xs.toArray.size := by
   have h1 := (Zz6.mp hx).1
   simpa using h1
  refine Wk.item i s Q E hi ⟨st.1, st.2, isl1⟩ fun T vals h1 t1 hp hT hTup hmid keep1 => post T h1 t1 ?_
  intro elts k pos s1 Q1 E1 es1 q1
  subst es1
  have hTw := Wk.apart i T _ hmid
  refine Wk.go elts k pos i T _ Q1 E1 hmid fun h2 st2 keep2 => ?_
  obtain ⟨tk, x', hx', ev⟩ := hp
  have ex : x' = x := by
   have : xs[i]? = some x' := by simpa using hx'
   rw [hx] at this
   exact (Option.some.inj this).symm
  subst ex ev
  obtain ⟨fs', hit', at'⟩ := ZpL (h := h2) (⟨st2.1, st2.2.1⟩ : ES e it l (i + 1) h2)
  obtain ⟨oT, gT, cT, nT, dT⟩ := hTup
  refine q1 fs' h2 (.int i tk) x' hit' ?_ ⟨oT, keep2 T oT hTw gT, cT, nT, dT⟩ (by rw [hv.1]; exact .int _ _) rx
  refine r.swap (fs' := fs') (fun q hq t ht => ?_) (fun c o hc e => ?_) fun q hq => ⟨at' q hq, ?_⟩
  ·exact ap _ (hit.1 ▸ List.mem_map_of_mem hq) t ht
  ·rw [hit.1] at hc
   exact keep2 c o hc (keep1 c o hc e)
  ·rw [hit.1, ← hit'.1]
   exact List.mem_map_of_mem hq
 ·intro i W ρ H fr fs s Q E le r ap hit hn post
  obtain ⟨vs, e1, hh⟩ := Zz0.mp hn
  obtain ⟨_, xs, k1, g1, v1⟩ := r.at e1 (le.at ea)
  have hi : i = vs.length := by
   split at hh
   ·cases hh
   ·split at hh
    ·assumption
    ·cases hh
  have st : ES e it l i s.heap := hit.2 _ fun q hq => r.frAt (Zz4 _ hq)
  have Wk := WalksT.enumerate (prog := prog) (w := w) (A := Γ.A) Γ.hh e it l hei hle hli xs.toArray
  have hm : xs.toArray.size = i := by simp [v1.length, hi]
  refine Wk.done s Q E (by rw [hm]; exact ⟨st.1, st.2, ⟨_, g1, rfl, k1, rfl⟩⟩) fun h' tk keep => post h' tk ?_
  have := r.swap (fs' := []) (fun q hq t ht => ap _ (hit.1 ▸ List.mem_map_of_mem hq) t ht) (fun c o hc e => keep c o (by rw [hit.1] at hc; exact hc) e) (fun q hq => nomatch hq)
  exact this
 ·intro i W ρ H fr fs s Q E o le r hit hn q
  obtain ⟨vs, e1, hh⟩ := Zz0.mp hn
  obtain ⟨_, xs, k1, g1, v1⟩ := r.at e1 (le.at ea)
  have st : ES e it l i s.heap := hit.2 _ fun q hq => r.frAt (Zz4 _ hq)
  have Wk := WalksT.enumerate (prog := prog) (w := w) (A := Γ.A) Γ.hh e it l hei hle hli xs.toArray
  exact Wk.self i s Q E ⟨st.1, st.2, ⟨_, g1, rfl, k1, rfl⟩⟩ q
theorem Zt2 {x : Str} {np pos : Pos} {e1 : Expr} {f : Ex} (hn : Nm prog w Γ x (.type "enumerate")) (h1 : J prog w Γ e1 f)
  (he : starEach [e1] Γ.env = (false, eval e1 Γ.env) :: starEach [] Γ.env := by rfl) (hp : ∀ pos, (backTo pos (starEach [] Γ.env)).any (·.1) = false := by intro _; rfl) : JI2 prog w Γ (.Call (.Name x np) [e1] [] pos) (ZiC f) := by
 intro W ρ H fr s Q E nx n H' r hf post
 obtain ⟨p, a1, hf⟩ := Zz0.mp hf
 refine wpAny_Call_ofName (hn.use r ?_)
 refine PySem.Pv.callWith_type1 (wpAny_items_cons (h1 W ρ H fr s _ E _ _ r a1 fun W1 k1 t1 y1 l1 r1 v1 => wpAny_items_nil ?_) he) he (hp pos)
 obtain ⟨u1, H1⟩ := p
 simp only at hf v1 r1
 cases u1 <;> first | (cases hf; done) | skip
 rename_i b1
 obtain ⟨vs, c1, c3⟩ := Zz1.mp hf
 cases c3
 cases v1 with
 | @ref _ m1 ea =>
 obtain ⟨_, xs, n1, g1, w1⟩ := r1.at c1 ea
 have isl1 : k1.IsList m1 xs.toArray := ⟨_, g1, rfl, n1, rfl⟩
 refine call_enumerate_list (s := { s with heap := k1, toks := t1 }) isl1 fun h₁ hE hI hsz up => ?_
 have hlt : m1 < k1.objs.size := Heap.lt_size g1
 have Wk := WalksT.enumerate (prog := prog) (w := w) (A := Γ.A) Γ.hh (k1.objs.size + 1) k1.objs.size m1 (Nat.succ_ne_self _) (Nat.ne_of_lt (Nat.lt_succ_of_lt hlt)) (Nat.ne_of_lt hlt) xs.toArray
 have zs : ES (k1.objs.size + 1) k1.objs.size m1 0 h₁ := ⟨⟨_, hE⟩, hI⟩
 refine Wk.self 0 _ _ _ ⟨⟨_, hE⟩, hI, isl1.at fun o e => up _ o e⟩ ?_
 obtain ⟨fs, hit, at'⟩ := ZpL zs
 obtain ⟨r3, ap3⟩ := r1.more (fs := fs) (h' := h₁) (fun b o e => up b o e) (fun q hq => ⟨at' q hq, by
  have : q.1 ∈ fs.map (·.1) := List.mem_map_of_mem hq
  rw [hit.1] at this
  simp at this
  rcases this with e | e <;> rw [e] <;> omega⟩)
 refine post W1 h₁ t1 _ _ _ fs l1 hit r3 (fun b hb t ht => ?_) (Zu5 ea (Nat.succ_ne_self _) (Nat.ne_of_lt (Nat.lt_succ_of_lt hlt)) (Nat.ne_of_lt hlt)) ?_
 ·rw [← hit.1] at hb
  obtain ⟨q, hq, e⟩ := List.mem_map.mp hb
  exact e ▸ ap3 q hq t ht
 ·simp only [Zgv, c1, Option.bind_some]
  cases q : vs[0]? with
  | some x => exact ⟨_, rfl⟩
  | none =>
   have : vs.length = 0 := by simpa using q
   simp [this]
theorem Zwg {e1 e2 e3 : Expr} {es : List Expr} {pos : Pos} {f g : Ex} (h1 : J prog w Γ e1 f) (h2 : J prog w Γ (.BoolOp .And (e2 :: e3 :: es) pos) g) (he : eval (.BoolOp .And (e1 :: e2 :: e3 :: es) pos) Γ.env = (do
  let v ← eval e1 Γ.env
  standAt pos
  let t ← holding [v] (truthy v)
  match BoolOp.And, t with
  | .And, false | .Or, true => pure v
  | _, _ => eval (.BoolOp .And (e2 :: e3 :: es) pos) Γ.env) := by rfl) : J prog w Γ (.BoolOp .And (e1 :: e2 :: e3 :: es) pos) (Zc2 f g) := by
 intro W ρ H fr s Q E v H' r hf post
 obtain ⟨p, a1, hf⟩ := Zz0.mp hf
 obtain ⟨b, a2, a3⟩ := Zz0.mp hf
 rw [he]
 refine wpAny_bind (wpAny_mono (h1 W ρ H fr s (fun x s₁ => wpAny (model prog w) Γ.A (truthy x) (fun t s₂ => if t then wpAny (model prog w) Γ.A (eval (.BoolOp .And (e2 :: e3 :: es) pos) Γ.env) Q E s₂ else Q x s₂) E s₁) E _ _ r a1 fun W1 k1 t1 x l1 r1 x1 => ?_) (fun v s₁ h₁ => wpAny_bind (wpAny_standAt (wpAny_bind (wpAny_holding (wpAny_mono h₁ (fun t s₂ h₂ => ?_) fun _ _ x => x))))) fun _ _ x => x)
 ·refine truth Γ W1 ρ _ fr _ _ E _ x b r1 x1 a2 fun W2 k2 t2 l2 r2 => ?_
  cases b with
  | true => exact h2 W2 ρ _ fr _ Q E _ H' r2 a3 fun W3 k3 t3 z l3 r3 z3 => post W3 k3 t3 z ((l1.trans l2).trans l3) r3 z3
  | false =>
   cases a3
   exact post W2 k2 t2 x (l1.trans l2) r2 (x1.mono l2)
 ·cases t with
  | false => exact wpAny_pure h₂
  | true => exact h₂
end
end PM
end
section
set_option maxRecDepth 100000
set_option linter.all false
set_option autoImplicit false
namespace TM
open PySem PM
noncomputable def ZgP (a b : T) : Option Bool := (ZcP Zb1 a).bind fun d => (ZcP Zb1 b).bind fun e => inD d e
noncomputable def qIn (a b : T) : Option T := (ZgP a b).map .bool
theorem Zwh {H : Hp} {v1 v2 : V} {t1 t2 : T} {F1 F2 : List Nat} (r1 : RF H v1 t1 F1) (r2 : RF H v2 t2 F2) : Znw v1 v2 H = ZgP t1 t2 := by
 simp only [Znw, ZgP, Zil Zb1 _ _ _ r1, Zil Zb1 _ _ _ r2]
theorem ZfD : OA2 oIn qIn := fun H v1 v2 t1 t2 t F1 F2 r1 r2 h => by
 obtain ⟨c, h1, h⟩ := Zz1.mp h
 subst h
 exact ⟨_, by simp only [oIn, Zwh r1 r2, h1, Option.map_some], .bool _⟩
theorem Zqo {d : T} : ∀ {ts : List T}, (∀ t ∈ ts, (PyData.eqv (dd t) (dd d) = true ↔ t = d)) → ((dds ts).any fun y => PyData.eqv y (dd d)) = dec (d ∈ ts)
 | [], _ => by simp [dds, ZbN]
 | t :: ts, h => by
  have ih := Zqo (d := d) (ts := ts) fun t m => h t (Zz2 _ m)
  simp only [dds, List.any_cons, ih]
  symm
  apply Zm5
  rw [Bool.or_eq_true, h t Zz5, dec_iff]
  simp [eq_comm]
theorem Zwi {n m : Nat} {a : T} {ts : List T} (ha : Pln n a) (hb : Pln m (.lst ts)) (hn : n ≤ 8 := by decide) (hm : m ≤ 8 := by decide) : ZgP a (.lst ts) = some (dec (a ∈ ts)) := by
 have ha := ha.mono hn
 have hb := hb.mono hm
 obtain ⟨a1, a2, a3⟩ := ha.dat
 obtain ⟨b1, b2, b3⟩ := hb.dat
 unfold ZgP Zb1
 rw [a1, b1]
 simp only [Option.bind_some, dd, inD]
 simp only [dd, PyData.canLay0] at b2
 rw [if_pos ⟨b2, a2, by omega⟩, Zqo]
 intro t m
 cases hb with
 | lst hs => exact (hs t m).eqv ha
section
variable {Q : T → Prop}
theorem ZiD {n m : Nat} {a : T} {ts : List T} (ha : Pln n a) (hb : Pln m (.lst ts)) (h : Q (.bool (dec (a ∈ ts)))) (hn : n ≤ 8 := by decide) (hm : m ≤ 8 := by decide) : Pk (qIn a (.lst ts)) Q := ⟨_, by simp only [qIn, Zwi ha hb hn hm, Option.map_some], h⟩
end
noncomputable def ZeB (ts : List T) : List T := List.zipWith (fun i t => .tup [.int (i : Nat), t]) (List.range ts.length) ts
noncomputable def ZiE (p : PE) : PG := fun σ => (p σ).bind fun t => match t with
 | .lst ts => some (ZeB ts)
 | _ => none
theorem Zt3 {ts : List T} : (ZeB ts).length = ts.length := by simp [ZeB]
theorem Zo9 {H : Hp} : ∀ {vs : List V} {ts : List T} {F : List Nat} (k : Nat), RFs H vs ts F → RFs H (List.zipWith (fun i v => V.tup [.int (i : Nat), v]) (List.range' k ts.length) vs) (List.zipWith (fun i t => T.tup [.int (i : Nat), t]) (List.range' k ts.length) ts) F
 | _, _, _, _, .nil => .nil
 | _, _, _, k, .cons a b => by
  rw [List.length_cons, List.range'_succ]
  have h1 : RF H (V.tup [.int (k : Nat), _]) (T.tup [.int (k : Nat), _]) _ := .tup (.cons (.int _) (.one a))
  simpa using RFs.cons h1 (Zo9 (k + 1) b)
theorem Zu6 {O N : List Nat} {u : Bool} {e : Ex} {p : PE} (x : E O N u e p) : Gs O N (ZiC e) (ZiE p) := fun c ρ σ H Φ ts s h => by
 obtain ⟨t1, h1, h⟩ := Zz0.mp h
 obtain ⟨v, X, F, a1, a2, a3, a4⟩ := x c ρ σ H Φ t1 s h1
 have hlt := a2.lt
 cases a2 with
 | none => cases h
 | bool => cases h
 | int => cases h
 | str => cases h
 | tup => cases h
 | @ref b vs us F' e1 hs =>
  cases h
  have hl := hs.length
  refine ⟨Zgv b, X, List.zipWith (fun i v => V.tup [.int (i : Nat), v]) (List.range us.length) vs, F', b :: F', by simp only [ZiC, a1, Option.bind_some, e1, Option.map_some, Zt3, hl], ?_, fun _ m => List.mem_cons_of_mem _ m, fun a m => ⟨hlt a m, a3 a m⟩, fun K hK i hi => ?_⟩
  ·have := Zo9 0 hs
   unfold ZeB
   rw [List.range_eq_range']
   exact this
  ·simp only [Zgv, hK b Zz5, e1, Option.bind_some, List.getElem?_zipWith]
   simp only [List.length_zipWith, List.length_range] at hi
   by_cases q : i < vs.length
   ·rw [List.getElem?_eq_getElem q, List.getElem?_range (by omega)]
   ·rw [List.getElem?_eq_none (by omega), List.getElem?_eq_none (by simp; omega)]
    simp
    omega
theorem Zt4 {n : Nat} {f : Nat → T} : ZeB (tab n f) = tab n fun i => .tup [.int (i : Nat), f i] := by
 unfold ZeB
 rw [Zau]
 have : List.range n = tab n fun i => i := by simp [tab]
 rw [this, ZpG, Nat.min_self]
section
variable {σ : TL} {L : List T → Prop}
noncomputable def EnP (x : T) (L : List T → Prop) : Prop := ∃ ts, x = .lst ts ∧ L (ZeB ts)
theorem Zu7 {f : PE} (h : Pk (f σ) fun t => EnP t L) : Pl (ZiE f σ) L := by
 obtain ⟨t, a, ts, rfl, q⟩ := h; exact ⟨_, by simp only [ZiE, a, Option.bind_some], q⟩
theorem Zu8 {n : Nat} {f : Nat → T} (h : L (TM.tab n fun i => .tup [.int (i : Nat), f i])) : EnP (.lst (TM.tab n f)) L := ⟨_, rfl, by rw [Zt4]; exact h⟩
end
noncomputable def ZiF (g : PG) (put : T → TL → Option TL) (b : PS) : PS := fun σ => (g σ).bind fun ts => if ts = [] then none else ZeG put b σ ts
end TM
end
section
set_option maxRecDepth 100000
set_option linter.all false
set_option autoImplicit false
namespace PM
open PySem PySem.W PySem.Calls PyProof.Rows PyProof
noncomputable def Zgw (o1 o2 : V → V → Hp → Option (V × Hp)) (f g h : Ex) : Ts := fun ρ H => (f ρ H).bind fun p => (g ρ p.2).bind fun q => (o1 p.1 q.1 q.2).bind fun u => (ZcL u.1 u.2).bind fun b => if b then (h ρ u.2).bind fun x => (o2 q.1 x.1 x.2).bind fun y => (ZcL y.1 y.2).map fun c => (c, y.2) else some (false, u.2)
section
variable {prog : Program} {w : World} {Γ : Cx}
theorem Zt5 {e1 e2 e3 : Expr} {op1 op2 : CmpOp} {pos : Pos} {f g h : Ex} {o1 o2 : V → V → Hp → Option (V × Hp)} (h1 : J prog w Γ e1 f) (h2 : J prog w Γ e2 g) (h3 : J prog w Γ e3 h) (k1 : Op2 prog w (compareOp op1) o1) (k2 : Op2 prog w (compareOp op2) o2) (hm : lastMarks [op1, op2] [e2, e3] = false := by with_unfolding_all rfl) : JT prog w Γ (.Compare e1 [op1, op2] [e2, e3] pos) (Zgw o1 o2 f g h) := by
 intro W ρ H fr s Q E b H' r hf post
 obtain ⟨p, a1, hf⟩ := Zz0.mp hf
 obtain ⟨q, a2, hf⟩ := Zz0.mp hf
 obtain ⟨u, a3, hf⟩ := Zz0.mp hf
 obtain ⟨c, a4, hf⟩ := Zz0.mp hf
 refine isTrue_chain (h1 W ρ H fr s _ E _ _ r a1 fun W1 n1 t1 x l1 r1 x1 => ?_) hm
 refine test_link (h2 W1 ρ _ fr _ _ E _ _ r1 a2 fun W2 n2 t2 y l2 r2 y2 => ?_)
 refine k1 Γ W2 ρ _ fr _ _ E _ _ x y _ _ r2 (x1.mono l2) y2 a3 fun W3 n3 t3 z l3 r3 z3 => ?_
 refine truth Γ W3 ρ _ fr _ _ E _ z c r3 z3 a4 fun W4 n4 t4 l4 r4 => ?_
 cases c with
 | false =>
  cases hf
  exact post W4 n4 t4 (((l1.trans l2).trans l3).trans l4) r4
 | true =>
  simp only [if_true] at hf
  obtain ⟨v, a5, hf⟩ := Zz0.mp hf
  obtain ⟨v2, a6, hf⟩ := Zz0.mp hf
  obtain ⟨d, a7, a8⟩ := Zz1.mp hf
  cases a8
  refine test_last (h3 W4 ρ _ fr _ _ E _ _ r4 a5 fun W5 n5 t5 y5 l5 r5 x5 => ?_)
  refine k2 Γ W5 ρ _ fr _ _ E _ _ y y5 _ _ r5 (((y2.mono l3).mono l4).mono l5) x5 a6 fun W6 n6 t6 z6 l6 r6 x6 => ?_
  exact truth Γ W6 ρ _ fr _ _ E _ z6 b r6 x6 a7 fun W7 n7 t7 l7 r7 => post W7 n7 t7 ((((((l1.trans l2).trans l3).trans l4).trans l5).trans l6).trans l7) r7
end
end PM
end
section
set_option maxRecDepth 100000
set_option linter.all false
set_option autoImplicit false
namespace TM
open PySem PM
section
variable {O N M K : List Nat} {u u' u'' : Bool}
noncomputable def Zgx (q1 q2 : T → T → Option T) (p1 p2 p3 : PE) : PB := fun σ => (p1 σ).bind fun x => (p2 σ).bind fun y => (q1 x y).bind fun z => (ZbW z).bind fun b => if b then (p3 σ).bind fun v => (q2 y v).bind ZbW else some false
theorem Zt6 {e1 e2 e3 : Ex} {p1 p2 p3 : PE} {q1 q2 : T → T → Option T} {o1 o2 : V → V → Hp → Option (V × Hp)} (k1 : OA2 o1 q1) (k2 : OA2 o2 q2) (x : E O N u e1 p1) (y : E O M u' e2 p2) (z : E O K u'' e3 p3) : Bt O (Zgw o1 o2 e1 e2 e3) (Zgx q1 q2 p1 p2 p3) := fun c ρ σ H Φ b s h => by
 obtain ⟨t1, h1, h⟩ := Zz0.mp h
 obtain ⟨t2, h2, h⟩ := Zz0.mp h
 obtain ⟨t3, h3, h⟩ := Zz0.mp h
 obtain ⟨b0, h4, h⟩ := Zz0.mp h
 obtain ⟨v1, X, F, a1, a2, _, _⟩ := x c ρ σ H Φ t1 s h1
 obtain ⟨v2, Y, G, b1, b2, _, _⟩ := y c ρ σ (H ++ X) Φ t2 (s.ext X) h2
 obtain ⟨v3, c1, c2⟩ := k1 _ v1 v2 t1 t2 t3 F G (a2.ext Y) b2 h3
 have d1 := ZdZ c2 h4
 cases b0 with
 | false =>
  cases h
  exact ⟨X ++ Y, by simp only [Zgw, a1, b1, Option.bind_some, c1, d1]; simp⟩
 | true =>
  simp only [if_true] at h
  obtain ⟨t5, h5, h⟩ := Zz0.mp h
  obtain ⟨t6, h6, h⟩ := Zz0.mp h
  obtain ⟨v5, Z, F5, e1, e2, _, _⟩ := z c ρ σ (H ++ X ++ Y) Φ t5 ((s.ext X).ext Y) h5
  obtain ⟨v6, f1, f2⟩ := k2 _ v2 v5 t2 t5 t6 G F5 (b2.ext Z) e2 h6
  have g1 := ZdZ f2 h
  exact ⟨X ++ Y ++ Z, by simp only [Zgw, a1, b1, Option.bind_some, c1, d1, if_true, e1, f1, g1, Option.map_some]; simp⟩
noncomputable def OIn (o : List V → Hp → Option (V × Hp)) (q : List T → Option T) : Prop := ∀ (H : Hp) (vs : List V) (ts : List T) (t : T) (F1 : List Nat), RFs H vs ts F1 → q ts = some t → ∃ v F, o vs H = some (v, H) ∧ RF H v t F ∧ F.Sublist F1
theorem Zu9 {n : Nat} {es : Exs} {ps : PEs} {q : List T → Option T} {o : List V → Hp → Option (V × Hp)} (k : OIn o q) (x : Es O N u n es ps) : E O N u (Zt o es) (Zs q ps) := fun c ρ σ H Φ t s h => by
 obtain ⟨ts, h1, h⟩ := Zz0.mp h
 obtain ⟨_, vs, X, F, a1, a2, a3, a4⟩ := x c ρ σ H Φ ts s h1
 obtain ⟨w, G, b1, b2, b3⟩ := k _ vs ts t F a2 h
 exact ⟨w, X, G, by simp only [Zt, a1, Option.bind_some, b1], b2, fun a m => a3 a (b3.subset m), fun hu => (a4 hu).sublist b3⟩
theorem Zt7 : OIn Zfk Zh2 := fun H vs ts t F r h => by
 unfold Zh2 at h
 split at h
 ·obtain ⟨v, rfl, r'⟩ := r.one_inv
  cases r' with
  | @ref a vs1 _ F1 e hs => cases h; exact ⟨.tup vs1, F1, by simp only [Zfk, e, Option.map_some], .tup hs, List.sublist_cons_self _ _⟩
 ·obtain ⟨v, rfl, r'⟩ := r.one_inv
  cases r' with
  | @tup vs1 _ _ hs => cases h; exact ⟨.tup vs1, _, by simp only [Zfk], .tup hs, List.Sublist.refl _⟩
 ·cases h
end
theorem Zwj {O O1 R J Ns : List Nat} {fr : Bool} {g : Src} {q : PG} {put : V → Lc → Option Lc} {pput : T → TL → Option TL} {b : Sm} {qb : PS} (hg : Gs O Ns g q) (hj : PutOk O J put pput) (hj1 : PutOk O1 J put pput) (hJ : ∀ i ∈ J, i ∉ O) (hJ1 : ∀ i ∈ J, i ∉ O1) (hN : ∀ i ∈ Ns, i ∉ O) (hb : S O O1 R fr b qb) (hb1 : S O1 O1 R fr b qb) : S O O1 R fr (ZaO g put b) (ZiF q pput qb) := fun c ρ σ H Φ r s h => by
 obtain ⟨ts, h1, h⟩ := Zz0.mp h
 obtain ⟨nx, X, vs, F, G, g1, g2, g3, g4, g5⟩ := hg c ρ σ H Φ ts s h1
 split at h
 ·cases h
 ·rename_i hne
  cases ts with
  | nil => exact absurd rfl hne
  | cons t rs =>
   cases g2 with
   | @cons v _ F1 ws _ F2 a b' =>
   have sx := s.ext X
   have hsrc : ∀ a ∈ G, c.H0.length ≤ a ∨ c.P a := fun a m => s.from_src (g4 a m).2
   have hoff : ∀ a ∈ G, ¬ ZcQ O σ Φ a := fun a m ⟨k, hk, ⟨t, e⟩, q⟩ => s.from_off hN (g4 a m).2 hk e q
   obtain ⟨σ1, p0, h⟩ := Zz0.mp h
   obtain ⟨r1, h2, h⟩ := Zz0.mp h
   obtain ⟨ρ1, Φ1, p1, s1, p3, p4⟩ := hj c ρ σ (H ++ X) Φ v t F1 σ1 sx a (fun x m => hsrc x (g3 x (Zz4 _ m))) (fun k hk t' e x m q => hoff x (g3 x (Zz4 _ q)) ⟨k, hk, ⟨t', e⟩, m⟩) p0
   have hh : ∀ x, ZcQ O σ1 Φ1 x → ZcQ O σ Φ x := fun x ⟨k, hk, ⟨t', e⟩, m⟩ => by
    obtain ⟨q1, q2⟩ := p3 k fun q => hJ k q hk
    exact ⟨k, hk, ⟨t', q1 ▸ e⟩, q2 ▸ m⟩
   obtain ⟨ρ2, K2, Φ2, w1, w2, w3⟩ := hb c ρ1 σ1 (H ++ X) Φ1 r1 s1 h2
   have e0 : nx 0 (H ++ X) = some (some v) := by have := g5 (H ++ X) (fun _ _ => rfl) 0 (Nat.zero_le _); simpa using this
   have estep : ZaO g put b ρ H = (b ρ1 (H ++ X)).bind fun q => match q.1 with
     | some _ => some q
     | none => Zdi nx put b (rs.length + 1) 1 q.2.1 q.2.2 := by
    simp only [ZaO, g1, Option.bind_some, List.length_cons]
    show (nx 0 (H ++ X)).bind _ = _
    rw [e0]
    first | (simp only [Option.bind_some, p1]; done) | (simp only [Option.bind_some, p1]; rfl)
   rw [estep]
   refine Aft.grow (X := X) ?_
   rcases w3 with ⟨k1, k2, k3, k4⟩ | ⟨t', v', F', k1, k2, k3⟩
   ·rw [k1] at h
    have hG2 : ∀ a ∈ G, K2[a]? = (H ++ X)[a]? := fun x m => w2 x (g4 x m).1 fun q => hoff x m (hh x q)
    have hoff2 : ∀ a ∈ G, ¬ ZcQ O1 r1.2 Φ2 a := fun x m q => by
     rcases k4 x q with q | q
     ·have := (g4 x m).1; omega
     ·exact hoff x m (hh x q)
    have ih := Zmn hj1 hJ1 hb1 (H1 := H ++ X) (fun a m => (g4 a m).1) hsrc g5 rs ws 1 ρ2 r1.2 K2 Φ2 F2 r (fun j => by rw [Nat.add_comm]; simp) (by simp; omega) k3 w1 hG2 hoff2 (b'.frame fun x m => hG2 x (g3 x (Zz3 _ m))) (fun x m => g3 x (Zz3 _ m)) h
    rw [k2]
    simp only [Option.bind_some]
    obtain ⟨ρ3, K3, Φ3, l1, l2, l3⟩ := ih
    refine ⟨ρ3, K3, Φ3, by omega, fun x hx hn => ?_, ?_⟩
    ·rw [l2 x (by omega) fun q => (k4 x q).elim (fun q => by omega) fun q => hn (hh x q), w2 x hx fun q => hn (hh x q)]
    ·rcases l3 with ⟨m1, m2, m3, m4⟩ | l
     ·refine .inl ⟨m1, m2, m3, fun x q => ?_⟩
      rcases m4 x q with q | q
      ·exact .inl (by omega)
      ·exact (k4 x q).imp id (hh x)
     ·exact .inr l
   ·rw [k1] at h
    cases h
    refine ⟨ρ2, K2, Φ2, w1, fun x hx hn => w2 x hx fun q => hn (hh x q), .inr ⟨t', v', F', k1, ?_, k3⟩⟩
    rw [k2]
    rfl
section
variable {σ : TL} {Q : T → Prop} {B : Bool → Prop} {R : T → Prop} {N : TL → Prop}
theorem Zt8 {q1 q2 : T → T → Option T} {f g h : PE} (k : Pk (f σ) fun x => Pk (g σ) fun y => Pk (q1 x y) fun z => Pb (ZbW z) fun b => (b = true → Pk (h σ) fun v => Pk (q2 y v) fun w => Pb (ZbW w) B) ∧ (b = false → B false)) : Pb (Zgx q1 q2 f g h σ) B := by
 obtain ⟨x, a1, y, a2, z, a3, b, a4, k1, k2⟩ := k
 cases b with
 | false => exact ⟨false, by simp [Zgx, a1, a2, a3, a4], k2 rfl⟩
 | true =>
  obtain ⟨v, b1, w, b2, c, b3, q⟩ := k1 rfl
  exact ⟨c, by simp [Zgx, a1, a2, a3, a4, b1, b2, b3], q⟩
theorem Zva {g : PG} {j n : Nat} {a : Nat → T} {b : PS} (hn : 0 < n) (hg : Pl (g σ) fun ts => ts = tab n a) (P : Nat → TL → Prop) (h0 : P 0 σ) (h1 : ∀ i σ, i < n → P i σ → Psk (b (Z7 σ j (a i))) R (P (i + 1))) (h2 : ∀ σ, P n σ → N σ) : Psk (ZiF g (Zab j) b σ) R N := by
 obtain ⟨o, s, e, q⟩ := ZbK (R := R) (N := N) (b := b) (j := j) hg P h0 h1 h2
 obtain ⟨ts, e1, rfl⟩ := hg
 refine ⟨o, s, ?_, q⟩
 have hne : tab n a ≠ [] := fun h => by have := congrArg List.length h; rw [Zau] at this; simp at this; omega
 simp only [ZiF, e1, Option.bind_some, hne, if_false]
 simpa only [ZaI, e1, Option.bind_some] using e
end
end TM
end
section
set_option linter.all false
set_option autoImplicit false
namespace TM
open PySem PM
theorem Zta {fr : Bool} : SimF fr (fun _ _ => none) (fun _ => none) := by
 intro H vs ts t F1 hp r h
 cases h
end TM
end
section
set_option maxRecDepth 100000
set_option linter.all false
set_option autoImplicit false
namespace TM
open PySem PM
noncomputable def Keep0 (g : Sm) : Prop := ∀ ρ H r, g ρ H = some r → r.2.1 0 = ρ 0
theorem Keep0.next : Keep0 Z0 := fun ρ H r h => by cases h; rfl
theorem ZhH {e : Ex} : Keep0 (Zcd e) := fun ρ H r h => by
 obtain ⟨_, _, q⟩ := Zz1.mp h
 subst q; rfl
theorem Keep0.ret {e : Ex} : Keep0 (ZG e) := fun ρ H r h => by
 obtain ⟨_, _, q⟩ := Zz1.mp h
 subst q; rfl
theorem Keep0.put {f o i : Ex} : Keep0 (Zby f o i) := fun ρ H r h => by
 obtain ⟨_, _, h⟩ := Zz0.mp h
 obtain ⟨_, _, h⟩ := Zz0.mp h
 obtain ⟨_, _, h⟩ := Zz0.mp h
 obtain ⟨_, _, q⟩ := Zz1.mp h
 subst q; rfl
theorem Keep0.seq {a b : Sm} (x : Keep0 a) (y : Keep0 b) : Keep0 (Zw a b) := fun ρ H r h => by
 obtain ⟨r1, e1, h⟩ := Zz0.mp h
 have h1 := x ρ H r1 e1
 split at h
 ·cases h; exact h1
 ·exact (y _ _ _ h).trans h1
theorem ZhI {t : Ts} {a b : Sm} (x : Keep0 a) (y : Keep0 b) : Keep0 (ZT t a b) := fun ρ H r h => by
 obtain ⟨p, _, h⟩ := Zz0.mp h
 split at h
 ·exact x _ _ _ h
 ·exact y _ _ _ h
theorem Keep0.set {i : Nat} {e : Ex} (hi : 0 ≠ i) : Keep0 (ZN i e) := fun ρ H r h => by
 obtain ⟨_, _, q⟩ := Zz1.mp h
 subst q
 simp [upd, hi]
noncomputable def SimM (f : List V → Hp → Option (V × Hp)) (p : List T → Option T) : Prop := ∀ (H : Hp) (v : V) (vs : List V) (t : T) (ts : List T) (t' : T) (F0 F1 : List Nat), 0 < H.length → RF H v t F0 → F0.Nodup → 0 ∉ F0 → RFs H vs ts F1 → (∀ a ∈ F0, a ∉ F1) → p (t :: ts) = some t' →
 ∃ w H' F', f (v :: vs) H = some (w, H') ∧ H.length ≤ H'.length ∧ (∀ a, a < H.length → a ∉ F0 → H'[a]? = H[a]?) ∧ RF H' v t' F' ∧ F'.Nodup ∧ ∀ a ∈ F', H.length ≤ a ∨ a ∈ F0
noncomputable def Zec (n : Nat) (q : PS) : List T → Option T := fun ts => if ts.length = n then (q fun i => ts[i]?).bind fun r => r.2 0 else none
theorem Zh8 {O' : List Nat} {n : Nat} {g : Sm} {q : PS} (h : S [0] O' [0] false g q) (h0 : 0 ∈ O') (hk : Keep0 g) : SimM (Z6 n g) (Zec n q) := fun H v vs t ts t' F0 F1 hp r0 nd n0 rs dj e => by
 unfold Zec at e
 split at e
 ·rename_i hl
  obtain ⟨r1, e1, e2⟩ := Zz0.mp e
  obtain ⟨Φ, hΦ⟩ := rs.slots
  have st : St ⟨H, F0, fun a => a ∈ F0 ∨ a ∈ F1⟩ [0] (fun i => (v :: vs)[i]?) (fun i => (t :: ts)[i]?) H (fun i => match i with | 0 => F0 | i + 1 => Φ i) := by
   refine ⟨fun i u e => ?_, fun i u e a m => ?_, fun i hi u e => ?_, Nat.le_refl _, fun a _ _ => rfl, hp, n0⟩
   ·cases i with
    | zero => simp at e; subst e; exact ⟨v, rfl, r0⟩
    | succ i =>
     simp at e
     obtain ⟨w, h1, h2, _⟩ := hΦ i u e
     exact ⟨w, by simpa using h1, h2⟩
   ·cases i with
    | zero => exact .inr (.inl m)
    | succ i =>
     simp at e
     obtain ⟨w, h1, h2, h3⟩ := hΦ i u e
     exact .inr (.inr (h3 a m))
   ·have : i = 0 := by simpa using hi
    subst this
    refine ⟨nd, fun a m => .inr m, fun j u' hj ej a m => ?_⟩
    cases j with
    | zero => exact absurd rfl hj
    | succ j =>
     simp at ej
     obtain ⟨w, h1, h2, h3⟩ := hΦ j u' ej
     exact fun q => dj a m (h3 a q)
  obtain ⟨ρ', H', Φ', h1, h2, h3⟩ := h _ _ _ _ _ _ st e1
  have hv : (v :: vs).length = n := by rw [← hl]; simp [rs.length]
  have go : ∀ (o : Option V) (O2 : List Nat), 0 ∈ O2 → g (fun i => (v :: vs)[i]?) H = some (o, ρ', H') → St ⟨H, F0, fun a => a ∈ F0 ∨ a ∈ F1⟩ O2 ρ' r1.2 H' Φ' → ∃ w H' F', Z6 n g (v :: vs) H = some (w, H') ∧ H.length ≤ H'.length ∧ (∀ a, a < H.length → a ∉ F0 → H'[a]? = H[a]?) ∧ RF H' v t' F' ∧ F'.Nodup ∧ ∀ a ∈ F', H.length ≤ a ∨ a ∈ F0 := by
   intro o O2 hO eg s2
   obtain ⟨v', ev, rv⟩ := s2.slot 0 t' e2
   have kk := hk _ _ _ eg
   have : v' = v := by
    have k2 : ρ' 0 = some v := kk
    rw [ev] at k2
    cases k2
    rfl
   subst this
   obtain ⟨o1, o2, _⟩ := s2.own 0 hO t' e2
   exact ⟨o.getD .none, H', Φ' 0, by simp only [Z6, hv, if_true, eg, Option.map_some], h1, s2.keep, rv, o1, o2⟩
  rcases h3 with ⟨k1, k2, k3, k4⟩ | ⟨u, v', F', k1, k2, k3, k4, k5, k6⟩
  ·exact go none O' h0 k2 k3
  ·exact go (some v') [0] List.mem_cons_self k2 k4
 ·cases e
noncomputable def Zdv (x : Nat) (p : List T → Option T) (ps : PEs) : PS := fun σ => (ps σ).bind fun ts => (σ x).bind fun t => (p (t :: ts)).map fun t' => (none, Z7 σ x t')
section
variable {O O' R N : List Nat} {fr u : Bool}
theorem Zft {x n : Nat} {f : List V → Hp → Option (V × Hp)} {p : List T → Option T} {es : Exs} {ps : PEs} (hx : x ∈ O) (k : SimM f p) (y : Es O N u n es ps) (hN : x ∉ N) (hO : ∀ j ∈ O', j ∈ O) : S O O' R fr (Zcd (Zt f (Zf (Zb x) es))) (Zdv x p ps) := fun c ρ σ H Φ r s q => by
 obtain ⟨ts, h1, q⟩ := Zz0.mp q
 obtain ⟨t, h2, q⟩ := Zz0.mp q
 obtain ⟨t', h3, q⟩ := Zz1.mp q
 subst q
 obtain ⟨v, ev, rv⟩ := s.slot x t h2
 obtain ⟨o1, o2, o3⟩ := s.own x hx t h2
 have hlow : ∀ k t, σ k = some t → ∀ a ∈ Φ k, a < H.length := fun k t e a m => by
  obtain ⟨_, _, r⟩ := s.slot k t e
  exact r.lt a m
 obtain ⟨_, vs, X, F, a1, a2, a3, _⟩ := y c ρ σ H Φ ts s h1
 have hp : 0 < (H ++ X).length := by have := s.pos; have := s.len; rw [List.length_append]; omega
 have hlen : (H ++ X).length = H.length + X.length := List.length_append
 have dj : ∀ a ∈ Φ x, a ∉ F := fun a m q => by
  rcases a3 a q with h | ⟨j, hj, ⟨tj, ej⟩, mj⟩
  ·have := hlow x t h2 a m; omega
  ·exact o3 j tj (fun e => hN (e ▸ hj)) ej a m mj
 obtain ⟨w, H', F', b1, b2, b3, b4, b5, b6⟩ := k (H ++ X) v vs t ts t' (Φ x) F hp (rv.ext X) o1 (fun m => ZmE s hx h2 m rfl) a2 dj h3
 have same : ∀ a, a < H.length → a ∉ Φ x → H'[a]? = H[a]? := fun a ha hn => by
  rw [b3 a (by omega) hn, List.getElem?_append_left ha]
 have eg : Zcd (Zt f (Zf (Zb x) es)) ρ H = some (none, ρ, H') := by
  simp only [Zcd, Zt, Zf, Zb, ev, Option.map_some, Option.bind_some, a1, b1]
 refine ⟨ρ, H', Zal Φ x F', by omega, fun a ha hn => same a ha fun m => hn ⟨x, hx, ⟨t, h2⟩, m⟩, .inl ⟨rfl, eg, ⟨fun i u' e => ?_, fun i u' e a m => ?_, fun i hi u' e => ?_, by have := s.len; omega, fun a ha hn => ?_, s.pos, s.f0⟩, fun a hh => ?_⟩⟩
 ·by_cases c1 : i = x
  ·subst c1
   simp only [Z7, if_true, Option.some.injEq] at e
   subst e
   exact ⟨v, ev, by simpa [Zal] using b4⟩
  ·simp only [Z7, c1, if_false] at e
   obtain ⟨v2, e2, r2⟩ := s.slot i u' e
   refine ⟨v2, e2, ?_⟩
   simp only [Zal, c1, if_false]
   exact r2.frame fun a m => same a (hlow i u' e a m) fun q => o3 i u' c1 e a q m
 ·by_cases c1 : i = x
  ·subst c1
   simp only [Zal, if_true] at m
   rcases b6 a m with h | h
   ·exact .inl (by have := s.len; omega)
   ·exact s.src i t h2 a h
  ·simp only [Z7, c1, if_false] at e
   simp only [Zal, c1, if_false] at m
   exact s.src i u' e a m
 ·by_cases c1 : i = x
  ·subst c1
   refine ⟨by simpa [Zal] using b5, fun a m => ?_, fun j u2 hj ej a m => ?_⟩
   ·simp only [Zal, if_true] at m
    rcases b6 a m with h | h
    ·exact .inl (by have := s.len; omega)
    ·exact o2 a h
   ·simp only [Zal, if_true] at m
    simp only [Z7, hj, if_false] at ej
    simp only [Zal, hj, if_false]
    intro q
    have hq := hlow j u2 ej a q
    rcases b6 a m with h | h
    ·omega
    ·exact o3 j u2 hj ej a h q
  ·simp only [Z7, c1, if_false] at e
   obtain ⟨q1, q2, q3⟩ := s.own i (hO i hi) u' e
   refine ⟨by simpa [Zal, c1] using q1, fun a m => ?_, fun j u2 hj ej a m => ?_⟩
   ·simp only [Zal, c1, if_false] at m
    exact q2 a m
   ·simp only [Zal, c1, if_false] at m
    by_cases c2 : j = x
    ·subst c2
     simp only [Zal, if_true]
     intro q
     have hm := hlow i u' e a m
     rcases b6 a q with h | h
     ·omega
     ·exact q3 j t hj h2 a m h
    ·simp only [Z7, c2, if_false] at ej
     simp only [Zal, c2, if_false]
     exact q3 j u2 hj ej a m
 ·have hs := s.keep a ha hn
  rw [same a (by have := s.len; omega) fun m => ?_]
  ·exact hs
  ·rcases o2 a m with h | h
   ·omega
   ·exact hn h
 ·obtain ⟨j, hj, ⟨u', e⟩, m⟩ := hh
  by_cases c1 : j = x
  ·subst c1
   simp only [Zal, if_true] at m
   rcases b6 a m with h | h
   ·exact .inl (by omega)
   ·exact .inr ⟨j, hx, ⟨t, h2⟩, h⟩
  ·simp only [Z7, c1, if_false] at e
   simp only [Zal, c1, if_false] at m
   exact .inr ⟨j, hO j hj, ⟨u', e⟩, m⟩
end
section
variable {σ : TL} {R : T → Prop} {N : TL → Prop}
theorem Zfu {x : Nat} {p : List T → Option T} {ps : PEs} {t : T} (e : σ x = some t) (h : Pl (ps σ) fun ts => Pk (p (t :: ts)) fun t' => N (Z7 σ x t')) : Psk (Zdv x p ps σ) R N := by
 obtain ⟨ts, e1, t', e2, q⟩ := h
 exact ⟨none, Z7 σ x t', by simp only [Zdv, e1, e, Option.bind_some, e2, Option.map_some], by simp, fun _ => q⟩
theorem Zh9 {n : Nat} {q : PS} {ts : List T} {Q : T → Prop} (hn : ts.length = n) (h : Psk (q fun i => ts[i]?) (fun _ => False) fun σ => ∃ t, σ 0 = some t ∧ Q t) : Pk (Zec n q ts) Q := by
 obtain ⟨o, s, e, h1, h2⟩ := h
 cases o with
 | none =>
  obtain ⟨t, e2, q2⟩ := h2 rfl
  exact ⟨t, by simp only [Zec, hn, if_true, e, Option.bind_some, e2], q2⟩
 | some u => exact absurd (h1 u rfl) (by simp)
end
end TM
end
section
set_option maxRecDepth 100000
set_option linter.all false
set_option autoImplicit false
namespace PM
open PySem PySem.W PySem.Calls PyProof.Rows PyProof PyProof.Rows.LCg PyProof.Rows.LCp
section
variable {prog : Program} {w : World} {Γ : Cx}
theorem Zr5 {elt iter : Expr} {x x₂ y : Str} {px px₂ tp py pos spos : Pos} {kt : Nat} {scope : Scope} {cl : List (Str × Addr)} {t t₂ i : Nat} {g : Src} {f : Ex} (hy : Sto prog w Γ y i) (hg : JI2 prog w Γ iter g) (hel : ∀ C ρ, J prog w (Zbk Γ scope cl C [(x, t), (x₂, t₂)] ρ) elt f)
  (hsw : swapsWith (.ListComp elt [⟨.Tuple [.Name x px, .Name x₂ px₂] kt tp, iter, [], 0⟩] scope pos) (some (.Name y py)) spos.line Γ.env = pure true)
  (hclos : closureFor scope Γ.env = pure cl) (hcell : ∀ y ∈ scope.names, y.2 ≠ .cell) (hkind : scope.kind = .function) (hnames : ∀ y ∈ scope.names, y.2 = .local → scope.names.lookup y.1 = some .local) (hx : scope.names.lookup x = some .local) (hx₂ : scope.names.lookup x₂ = some .local) (hxx : x ≠ x₂) (htt : t ≠ t₂) (hs : ∀ x, foldedSetIterable iter Γ.env x = pure x := by intro _; rfl) :
  S1 prog w Γ (.Assign [.Name y py] (.ListComp elt [⟨.Tuple [.Name x px, .Name x₂ px₂] kt tp, iter, [], 0⟩] scope pos) spos) (ZN i (ZaA g (Zcu t t₂) Zao f)) := by
 intro W ρ H fr s Q E r rp hf post
 obtain ⟨p, e0, e9⟩ := Zz1.mp hf
 cases e9
 obtain ⟨z, e1, hf⟩ := Zz0.mp e0
 obtain ⟨q, e2, e3⟩ := Zz1.mp hf
 cases e3
 rw [exec_Assign_Name_used _ _ _ _ hsw]
 refine wpAny_bind (wpAny_standAt (wpAny_bind ?_))
 show wpAny _ Γ.A (do let _ ← comprehension (.ListComp elt [⟨.Tuple [.Name x px, .Name x₂ px₂] kt tp, iter, [], 0⟩] scope pos) scope Γ.env _ (newList []) false (eval iter Γ.env) (some (assign (.Name y py) Γ.env))) _ _ s
 refine wpAny_bind (wpAny_mono (wpAny_comprehension_free (use := some (assign (.Name y py) Γ.env)) (Q := fun _ s' => Q .next s') rfl hs hclos hkind hnames ?_) (fun _ s' h' => wpAny_pure (wpAny_pure h')) fun _ _ e => e)
 refine Zop (RR := fun acc C => compPost (model prog w) Γ.A E (some (assign (.Name y py) Γ.env)) (fun _ s' => Q .next s') acc C) hg hel hcell hkind hx hx₂ hxx htt rp (q := q) (by rw [e1]; exact e2) fun W2 h' tk' C D oC m₂ ys l2 hC hv hl aD aC cd r3 => ?_
 have r4 : Rep Γ W2 ρ q.2 ((D, lst ys) :: (C, oC) :: fr) h' := r3.less fun t ht => by
  rcases List.mem_cons.mp ht with e | ht
  ·exact e ▸ List.mem_cons_of_mem _ Zz5
  ·rcases List.mem_cons.mp ht with e | ht
   ·exact e ▸ List.mem_cons_self
   ·exact Zz2 _ (Zz2 _ ht)
 obtain ⟨W5, l5, r5, v5⟩ := Zf9 r4 (fun t ht => by
  rcases List.mem_cons.mp ht with e | ht
  ·rw [e]
   exact cd.symm
  ·exact aD t ht) hv hl
 refine wpAny_assign_Name (hy W5 ρ _ _ _ _ _ _ _ r5 v5 fun h6 t6 r6 => ?_)
 refine ⟨m₂, hC.ns (r6.frAt (q := (C, oC)) Zz5), fun h'' sb => ?_⟩
 have r7 : Rep Γ W5 (upd ρ i (.ref q.2.length)) (q.2 ++ [q.1]) ([] ++ fr) h'' :=
  Rep.swap (fs := [(C, oC)]) (fs' := []) r6 (fun q hq t ht => by rw [List.mem_singleton.mp hq]; exact aC t ht) (fun b o hb e => sb.extBut b o (fun z => hb (by simp [z])) e) fun q hq => nomatch hq
 exact post W5 h'' t6 (l2.trans l5) r7
end
end PM
end
section
set_option maxRecDepth 100000
set_option linter.all false
set_option autoImplicit false
namespace PM
open PySem PySem.W PySem.Calls PyProof.Rows PyProof
noncomputable def Zdl (ns : List Int) : List Int := ns.mergeSort fun a b => decide (a ≤ b)
theorem Zpa {ns ms : List Int} (h1 : ms.Perm ns) (h2 : ms.Pairwise (· ≤ ·)) : ms = Zdl ns := by
 refine List.Perm.eq_of_pairwise (le := fun a b : Int => a ≤ b) (fun a b _ _ h h' => Int.le_antisymm h h') h2 ?_ (h1.trans (List.mergeSort_perm ns _).symm)
 have := List.pairwise_mergeSort (le := fun a b : Int => decide (a ≤ b)) (fun a b c h h' => by simp at *; omega) (fun a b => by simp; omega) ns
 unfold Zdl
 simpa using this
theorem Ztb {ns : List Int} : (Zdl ns).length = ns.length := (List.mergeSort_perm ns _).length_eq
theorem ZmK {W : Wd} : ∀ {vs : List V} {xs : List Value} {ks : List Int}, VRs W vs xs → Zds vs = some ks → IntsAre xs ks := by
 intro vs
 induction vs with
 | nil => intro xs ks h e; cases h; cases e; exact .nil
 | cons v vs ih =>
  intro xs ks h e
  cases h with
  | cons a b =>
   cases v with
   | int i =>
    obtain ⟨js, e1, e2⟩ := Zz1.mp e
    subst e2
    cases a with
    | int _ t => exact .cons i t (ih b e1)
   | none => cases e
   | bool => cases e
   | str => cases e
   | tup => cases e
   | ref => cases e
theorem ZpM {W : Wd} : ∀ {xs : List Value} {ks : List Int}, IntsAre xs ks → VRs W (ks.map V.int) xs
 | _, _, .nil => .nil
 | _, _, .cons n t r => .cons (.int n t) (ZpM r)
noncomputable def Zgn : List V → Hp → Option (V × Hp)
 | [.ref a], H => H[a]?.bind fun vs => (Zds vs).bind fun ns => if vs.length < 64 then some (.ref H.length, H ++ [(Zdl ns).map V.int]) else none
 | _, _ => none
section
variable {prog : Program} {w : World}
theorem Ztc : OpN prog w (fun xs => call (.builtin "sorted") xs) Zgn := by
 intro Γ W ρ H fr s Q E as xs v H' r hx ho post
 unfold Zgn at ho
 split at ho
 ·obtain ⟨vs, e1, ho⟩ := Zz0.mp ho
  obtain ⟨ks, e3, ho⟩ := Zz0.mp ho
  split at ho
  ·rename_i h64
   cases ho
   obtain ⟨x, ex, rx⟩ := hx.one
   subst ex
   cases rx with
   | @ref _ a ea =>
    obtain ⟨hl, ys, k, hg, hv⟩ := r.at e1 ea
    have isl : s.heap.IsList a ys.toArray := ⟨_, hg, rfl, k, rfl⟩
    refine sorted_ints isl (ZmK hv e3) (by rw [hv.length]; exact h64) fun out ms a1 a2 a3 => ?_
    have em := Zpa a2 a3
    subst em
    obtain ⟨q, hq⟩ := sortedAll_at s.heap ys out
    have hlen : ks.length = vs.length := by rw [← hv.length]; exact (ZmK hv e3).length.symm
    obtain ⟨r2, ap⟩ := r.more (h' := sortedAll s.heap ys out) (fs := [(s.heap.objs.size + 1, Zb0 out.toList q)]) (fun b o hb => sortedAll_old hb) (fun u hu => by
     rw [List.mem_singleton.mp hu]
     refine ⟨?_, Nat.le_succ _⟩
     rw [hq])
    obtain ⟨W2, l2, r3, v3⟩ := Zf9 r2 (fun t ht => ap _ Zz5 t ht) (ZpM a1) (by rw [List.length_map, Ztb, hlen]; exact hl)
    exact post W2 _ s.toks _ l2 r3 v3
  ·cases ho
 ·cases ho
end
end PM
namespace PM
open PySem PySem.W PySem.Calls PyProof.Rows PyProof PySem.SeqAt
open SeqRoads2 MeetsSeq3 MeetsSeq2 MeetsSeq AutoSeq1
theorem Zsr (l : Addr) (its : Array Value) (n : Nat) (dd : Option Addr) (sl : Array (Option Value)) (x : Value) (tk : Tok) (e : Value → Bool) (j : Nat) (hj : j < its.size) (h1 : 1 ≤ j) (small : (j : Int) < 2 ^ 63 - 1)
  (hit : e its[j] = true) (no : ∀ m (hm : m < its.size), 1 ≤ m → m < j → e its[m] = false) :
  Meets (Builtin.«list.index» ⟨[.ref l, x, .int 1 tk], []⟩) fun A R s => s.heap.get? l = some { cls := .type "list", dict := dd, data := .seq its n, slots := sl } ∧ (∀ y, y ∈ its → EqAt A.in1 s y x (e y)) ∧ R (.ok (.ret (.int j s.toks))) { s with toks := s.toks + 1 } := by
 intro prog w A R s h
 obtain ⟨hp, g, d, tk', os⟩ := s
 obtain ⟨hq0, he, h⟩ := h
 wp_walk using wpAny_loadPart' hq0
 have b1 : ((fun i : Int => if i < 0 then max 0 (i + (its.size : Int)) else i) ((some (1 : Int)).getD 0)) = ((1 : Nat) : Int) := by simp
 have b2 : ((fun i : Int => if i < 0 then max 0 (i + (its.size : Int)) else i) ((Option.none : Option Int).getD (2 ^ 63 - 1))) = 2 ^ 63 - 1 := by simp
 rw [b1, b2]
 refine ⟨plainId_quiet plain_index_loop _, codeAny_builtin entry_index_loop ?_⟩
 rw [Around.under_plainId plain_index_loop _]; exact index_loopAt l its n dd sl x e (2 ^ 63 - 1) j hj small hit _ 1 rfl h1 no prog w A R _ ⟨hq0, he, h⟩
section
variable {prog : Program} {w : World} {A : Around} {E : Value → Shared → Prop} {s : Shared}
theorem Zr6 {l : Addr} {vs : List Value} {ns : List Int} {k : Int} {t t' : Tok} {Q : Value → Shared → Prop} (hl : s.heap.IsList l vs.toArray) (hi : IntsAre vs ns) (hn : ns.length ≤ 100000) (hk : k ∈ ns.drop 1)
  (h : Q (.int ((1 + (ns.drop 1).idxOf k : Nat)) s.toks) { s with toks := s.toks + 1 }) : wpAny (model prog w) A (call (.builtin "list.index") [.ref l, .int k t, .int 1 t']) Q E s := by
 obtain ⟨⟨c0, dd, da, sl⟩, ho, ec, n, ed⟩ := id hl
 simp only at ec ed
 subst ec ed
 have hlen := hi.length
 have hj : (ns.drop 1).idxOf k < (ns.drop 1).length := List.idxOf_lt_length_iff.mpr hk
 have hj' : 1 + (ns.drop 1).idxOf k < ns.length := by rw [List.length_drop] at hj; omega
 refine call_meets PySem.F.slot_list_index ⟨_, ho, rfl⟩ PySem.F.entry_list_index (PySem.F.args_list_index_3 _ _ _) (Zsr l vs.toArray n dd sl (.int k t) t' (isInt k) (1 + (ns.drop 1).idxOf k) (by simpa [hlen] using hj') (by omega) (by omega) ?_ ?_) ⟨ho, fun y hy => (eq_isInt k t hi y (by simpa using hy)).at _ _, h⟩
 ·show isInt k vs[1 + (ns.drop 1).idxOf k] = true
  rw [isInt_at k hi _ (by omega) hj']
  have := List.getElem_idxOf hj
  rw [List.getElem_drop] at this
  simpa using this
 ·intro m hm h1 h2
  show isInt k vs[m] = false
  rw [isInt_at k hi m (by simpa using hm) (by have := hm; simp [hlen] at this; omega)]
  have hm' : m - 1 < (ns.drop 1).length := by rw [List.length_drop]; omega
  have := ne_of_lt_idxOf (k := k) (ns := ns.drop 1) (j := m - 1) (by omega) hm'
  rw [List.getElem_drop] at this
  simpa [show 1 + (m - 1) = m by omega] using this
end
noncomputable def Zio : V → V → V → Hp → Option (V × Hp)
 | .ref a, .int k, .int b, H => H[a]?.bind fun vs => (Zds vs).bind fun ns => if b = 1 ∧ k ∈ ns.drop 1 then some (.int ((1 + (ns.drop 1).idxOf k : Nat) : Int), H) else none
 | _, _, _, _ => none
noncomputable def Zgy (f g h : Ex) : Ex := fun ρ H => (f ρ H).bind fun p => (g ρ p.2).bind fun q => (h ρ q.2).bind fun u => Zio p.1 q.1 u.1 u.2
section
variable {prog : Program} {w : World} {Γ : Cx}
theorem Zr7 {a b c : V} {H : Hp} {r : V × Hp} (h : Zio a b c H = some r) : ∃ i k vs ns, a = .ref i ∧ b = .int k ∧ c = .int 1 ∧ H[i]? = some vs ∧ Zds vs = some ns ∧ k ∈ ns.drop 1 ∧ r = (.int ((1 + (ns.drop 1).idxOf k : Nat) : Int), H) := by
 unfold Zio at h
 split at h
 ·obtain ⟨vs, e1, h⟩ := Zz0.mp h
  obtain ⟨ns, e2, h⟩ := Zz0.mp h
  split at h
  ·rename_i q
   cases h
   obtain ⟨rfl, q⟩ := q
   exact ⟨_, _, vs, ns, rfl, rfl, rfl, e1, e2, q, rfl⟩
  ·cases h
 ·cases h
theorem J.index {o e1 e2 : Expr} {apos pos : Pos} {f g k : Ex} (ho : J prog w Γ o f) (h1 : J prog w Γ e1 g) (h2 : J prog w Γ e2 k) (hbase : attributeBase o "index" Γ.env (eval o Γ.env) = eval o Γ.env := by rfl)
  (hline : (apos.endLine == pos.line) = true := by rfl) (htrees : backTo pos (starEach [e1, e2] Γ.env) = [(false, eval e1 Γ.env), (false, eval e2 Γ.env)] := by rfl) (hstay : ∀ ρ H p, f ρ H = some p → ∀ q, g ρ p.2 = some q → p.2 = q.2 := by intro _ _ _ _ _ h; cases h; rfl) (hstay2 : ∀ ρ H p, g ρ H = some p → ∀ q, k ρ p.2 = some q → p.2 = q.2 := by intro _ _ _ _ _ h; cases h; rfl) : J prog w Γ (.Call (.Attribute o "index" apos) [e1, e2] [] pos) (Zgy f g k) := by
 intro W ρ H fr s Q E v H' r hx post
 obtain ⟨p, x1, hx⟩ := Zz0.mp hx
 obtain ⟨q, x2, hx⟩ := Zz0.mp hx
 obtain ⟨u, x3, x4⟩ := Zz0.mp hx
 obtain ⟨i, kk, vs, ns, ea, eb, ec, hvs, hns, hmem, er⟩ := Zr7 x4
 refine wpAny_Call_method2_late hbase hline htrees (ho W ρ H fr s _ E _ _ r x1 fun W1 k1 t1 x l1 r1 y1 => ?_)
 rw [ea] at y1
 have s1 := hstay ρ H p x1 q x2
 have s2 := hstay2 ρ p.2 q x2 u x3
 cases y1 with
 | @ref _ a aa =>
 obtain ⟨hl, xs, n, hg, hv⟩ := r1.at (by rw [s1, s2]; exact hvs) aa
 refine ⟨"list", "list.index", PySem.F.plainAttrs_list, PySem.F.slot_list_index, PySem.F.type_list_index, (show k1.IsList a xs.toArray from ⟨_, hg, rfl, n, rfl⟩).typeIs, fun b eb => by cases eb; exact ⟨_, hg, rfl⟩, ?_⟩
 refine Calls.callWith_builtin rfl (Calls.evalArgs_plain (Calls.spliced_cons ?_))
 refine h1 W1 ρ _ fr _ _ E _ _ r1 x2 fun W2 k2 t2 y l2 r2 y2 => Calls.spliced_cons ?_
 refine h2 W2 ρ _ fr _ _ E _ _ r2 x3 fun W3 k3 t3 z l3 r3 z3 => Calls.spliced_nil ?_
 rw [eb] at y2
 rw [ec] at z3
 cases y2 with
 | int _ ty =>
 cases z3 with
 | int _ tz =>
 obtain ⟨hl3, xs3, n3, hg3, hv3⟩ := r3.at hvs (l3.at (l2.at aa))
 rw [Za7] at hl3
 have hI := ZmK hv3 hns
 refine Zr6 ⟨_, hg3, rfl, n3, rfl⟩ hI (by rw [← hI.length, hv3.length]; omega) hmem ?_
 have := post W3 k3 (t3 + 1) (.int ((1 + (ns.drop 1).idxOf kk : Nat) : Int) t3) ((l1.trans l2).trans l3)
 cases er
 exact this r3 (.int _ _)
end
end PM
end
section
set_option maxRecDepth 100000
set_option linter.all false
set_option autoImplicit false
namespace TM
open PySem PM
theorem Zpb {H : Hp} : ∀ ks : List Int, RFs H (ks.map V.int) (ks.map T.int) []
 | [] => .nil
 | k :: ks => .cons (.int k) (Zpb ks)
noncomputable def Zia : List T → Option T
 | [.lst ts] => (Zdk ts).bind fun ns => if ts.length < 64 then some (.lst ((Zdl ns).map T.int)) else none
 | _ => none
theorem Zt9 : OCn Zgn Zia := fun H vs ts t F hp r h => by
 unfold Zia at h
 split at h
 ·obtain ⟨v, rfl, r'⟩ := r.one_inv
  cases r' with
  | ref e hs =>
   obtain ⟨ks, h1, h⟩ := Zz0.mp h
   split at h
   ·rename_i h64
    cases h
    refine ⟨_, [(Zdl ks).map V.int], _, ?_, ZeF (Zpb (Zdl ks)), fun a m => ?_, fun _ => ?_⟩
    ·simp only [Zgn, e, Option.bind_some, Zh1 hs h1]
     rw [if_pos (by rw [hs.length]; exact h64)]
    ·rcases List.mem_cons.mp m with rfl | m
     ·exact .inl (Nat.le_refl _)
     ·cases m
    ·simp
   ·cases h
 ·cases h
noncomputable def Zgz (p q r : PE) : PE := fun σ => (p σ).bind fun t => (q σ).bind fun k => (r σ).bind fun b => match t, k, b with
 | .lst ts, .int k, .int b => (Zdk ts).bind fun ns => if b = 1 ∧ k ∈ ns.drop 1 then some (.int ((1 + (ns.drop 1).idxOf k : Nat) : Int)) else none
 | _, _, _ => none
section
variable {O N M K : List Nat} {u u' u'' : Bool}
theorem E.index {e1 e2 e3 : Ex} {p1 p2 p3 : PE} (x : E O N u e1 p1) (y : E O M u' e2 p2) (z : E O K u'' e3 p3) : E O [] true (Zgy e1 e2 e3) (Zgz p1 p2 p3) := fun c ρ σ H Φ t s h => by
 obtain ⟨t1, h1, h⟩ := Zz0.mp h
 obtain ⟨t2, h2, h⟩ := Zz0.mp h
 obtain ⟨t3, h3, h⟩ := Zz0.mp h
 obtain ⟨v1, X, F1, a1, a2, _, _⟩ := x c ρ σ H Φ t1 s h1
 obtain ⟨v2, Y, F2, b1, b2, _, _⟩ := y c ρ σ (H ++ X) Φ t2 (s.ext X) h2
 obtain ⟨v3, Z, F3, c1, c2, _, _⟩ := z c ρ σ (H ++ X ++ Y) Φ t3 ((s.ext X).ext Y) h3
 have a3 := (a2.ext Y).ext Z
 split at h
 ·obtain ⟨ns, e1, h⟩ := Zz0.mp h
  split at h
  ·rename_i hc
   cases h
   cases b2
   cases c2
   cases a3 with
   | ref e hs =>
    refine ⟨_, X ++ Y ++ Z, [], ?_, .int _, by simp, by simp⟩
    have e' := e
    simp only [Zgy, a1, b1, c1, Option.bind_some, Zio, e', Zh1 hs e1]
    rw [if_pos hc]
    simp
  ·cases h
 ·cases h
end
section
variable {σ : TL} {Q : T → Prop}
end
end TM
end
section
set_option maxRecDepth 100000
set_option linter.all false
set_option autoImplicit false
namespace TM
open PySem PM
theorem Zot {nx : Nx} {put : V → Lc → Option Lc} {b : Sm} (hp : ∀ v ρ ρ', put v ρ = some ρ' → ρ' 0 = ρ 0) (hb : Keep0 b) : ∀ n i, Keep0 (Zdi nx put b n i)
 | 0, _ => fun _ _ _ h => by cases h
 | n + 1, i => fun ρ H r h => by
  obtain ⟨o, _, h⟩ := Zz0.mp h
  split at h
  ·cases h; rfl
  ·obtain ⟨ρ1, e1, h⟩ := Zz0.mp h
   obtain ⟨q, e2, h⟩ := Zz0.mp h
   have k := (hb _ _ _ e2).trans (hp _ _ _ e1)
   split at h
   ·cases h; exact k
   ·exact (Zot hp hb n (i + 1) _ _ _ h).trans k
theorem ZoM {g : Src} {put : V → Lc → Option Lc} {b : Sm} (hp : ∀ v ρ ρ', put v ρ = some ρ' → ρ' 0 = ρ 0) (hb : Keep0 b) : Keep0 (ZaO g put b) := fun ρ H r h => by
 obtain ⟨z, _, h⟩ := Zz0.mp h
 exact Zot hp hb _ _ _ _ _ h
theorem Zou {i : Nat} (hi : 0 ≠ i) : ∀ v ρ ρ', PM.put1 i v ρ = some ρ' → ρ' 0 = ρ 0 := fun v ρ ρ' h => by
 cases h
 simp [upd, hi]
end TM
end
section
set_option maxRecDepth 100000
set_option linter.all false
set_option autoImplicit false
namespace PM
open PySem PySem.W PySem.Calls PyProof.Rows PyProof PySem.Spec
section
variable {prog : Program} {w : World} {Γ : Cx}
theorem ln1 {α : Type _} : ∀ {xs : List α}, xs.length = 1 → ∃ x0, xs = [x0]
 | [x0], _ => ⟨x0, rfl⟩
theorem ln2 {α : Type _} : ∀ {xs : List α}, xs.length = 2 → ∃ x0 x1, xs = [x0, x1]
 | [x0, x1], _ => ⟨x0, x1, rfl⟩
theorem ln3 {α : Type _} : ∀ {xs : List α}, xs.length = 3 → ∃ x0 x1 x2, xs = [x0, x1, x2]
 | [x0, x1, x2], _ => ⟨x0, x1, x2, rfl⟩
theorem ln4 {α : Type _} : ∀ {xs : List α}, xs.length = 4 → ∃ x0 x1 x2 x3, xs = [x0, x1, x2, x3]
 | [x0, x1, x2, x3], _ => ⟨x0, x1, x2, x3, rfl⟩
theorem ln5 {α : Type _} : ∀ {xs : List α}, xs.length = 5 → ∃ x0 x1 x2 x3 x4, xs = [x0, x1, x2, x3, x4]
 | [x0, x1, x2, x3, x4], _ => ⟨x0, x1, x2, x3, x4, rfl⟩
theorem ln6 {α : Type _} : ∀ {xs : List α}, xs.length = 6 → ∃ x0 x1 x2 x3 x4 x5, xs = [x0, x1, x2, x3, x4, x5]
 | [x0, x1, x2, x3, x4, x5], _ => ⟨x0, x1, x2, x3, x4, x5, rfl⟩
theorem ln7 {α : Type _} : ∀ {xs : List α}, xs.length = 7 → ∃ x0 x1 x2 x3 x4 x5 x6, xs = [x0, x1, x2, x3, x4, x5, x6]
 | [x0, x1, x2, x3, x4, x5, x6], _ => ⟨x0, x1, x2, x3, x4, x5, x6, rfl⟩
theorem jI {k : Int} {n : Nat} {pos : Pos} : J prog w Γ (.Constant (.int k) n pos) (Zl k) := J.int _ _ _
theorem jN {n : Nat} {pos : Pos} : J prog w Γ (.Constant .none n pos) ZY := J.none _ _
theorem jB {b : Bool} {n : Nat} {pos : Pos} : J prog w Γ (.Constant (.bool b) n pos) (ZbZ b) := J.bool _ _ _
theorem jS {x : Str} {n : Nat} {pos : Pos} : J prog w Γ (.Constant (.str x) n pos) (Zd8 x) := J.str _ _ _
theorem cO {elt iter : Expr} {x : Str} {px : Pos} {ifs : List Expr} {scope : Scope} {pos : Pos} {cl : List (Str × Addr)} {t : Nat} {g : Src} {c : Ts} {f : Ex} (hg : JI prog w Γ iter g) (hel : ∀ C ρ, J prog w (Zbk Γ scope cl C [(x, t)] ρ) elt f) (hif : ∀ C ρ, JF prog w (Zbk Γ scope cl C [(x, t)] ρ) ifs c)
  (hclos : closureFor scope Γ.env = pure cl := by with_unfolding_all rfl) (hcell : ∀ y ∈ scope.names, y.2 ≠ .cell := by decide) (hkind : scope.kind = .function := by exact rfl) (hnames : ∀ y ∈ scope.names, y.2 = .local → scope.names.lookup y.1 = some .local := by decide) (hx : scope.names.lookup x = some .local := by exact rfl) (hs : ∀ x, foldedSetIterable iter Γ.env x = pure x := by intro _; rfl) :
  J prog w Γ (.ListComp elt [⟨.Name x px, iter, ifs, 0⟩] scope pos) (ZaA g (put1 t) c f) := ZvD hg hel hif hclos hcell hkind hnames hx hs
theorem cT {elt iter : Expr} {x x₂ : Str} {px px₂ tp : Pos} {kt : Nat} {scope : Scope} {pos : Pos} {cl : List (Str × Addr)} {t t₂ : Nat} {g : Src} {f : Ex} (hg : JI2 prog w Γ iter g) (hel : ∀ C ρ, J prog w (Zbk Γ scope cl C [(x, t), (x₂, t₂)] ρ) elt f)
  (hclos : closureFor scope Γ.env = pure cl := by with_unfolding_all rfl) (hcell : ∀ y ∈ scope.names, y.2 ≠ .cell := by decide) (hkind : scope.kind = .function := by exact rfl) (hnames : ∀ y ∈ scope.names, y.2 = .local → scope.names.lookup y.1 = some .local := by decide) (hx : scope.names.lookup x = some .local := by exact rfl) (hx₂ : scope.names.lookup x₂ = some .local := by exact rfl) (hxx : x ≠ x₂ := by decide) (htt : t ≠ t₂ := by decide) (hs : ∀ x, foldedSetIterable iter Γ.env x = pure x := by intro _; rfl) :
  J prog w Γ (.ListComp elt [⟨.Tuple [.Name x px, .Name x₂ px₂] kt tp, iter, [], 0⟩] scope pos) (ZaA g (Zcu t t₂) Zao f) := Zuy hg hel hclos hcell hkind hnames hx hx₂ hxx htt hs
theorem sO {elt iter : Expr} {x y : Str} {px py pos spos : Pos} {ifs : List Expr} {scope : Scope} {cl : List (Str × Addr)} {t i : Nat} {g : Src} {c : Ts} {f : Ex} (hy : Sto prog w Γ y i) (hg : JI prog w Γ iter g) (hel : ∀ C ρ, J prog w (Zbk Γ scope cl C [(x, t)] ρ) elt f) (hif : ∀ C ρ, JF prog w (Zbk Γ scope cl C [(x, t)] ρ) ifs c)
  (hsw : swapsWith (.ListComp elt [⟨.Name x px, iter, ifs, 0⟩] scope pos) (some (.Name y py)) spos.line Γ.env = pure true := by rfl)
  (hclos : closureFor scope Γ.env = pure cl := by with_unfolding_all rfl) (hcell : ∀ y ∈ scope.names, y.2 ≠ .cell := by decide) (hkind : scope.kind = .function := by exact rfl) (hnames : ∀ y ∈ scope.names, y.2 = .local → scope.names.lookup y.1 = some .local := by decide) (hx : scope.names.lookup x = some .local := by exact rfl) (hs : ∀ x, foldedSetIterable iter Γ.env x = pure x := by intro _; rfl) :
  S1 prog w Γ (.Assign [.Name y py] (.ListComp elt [⟨.Name x px, iter, ifs, 0⟩] scope pos) spos) (ZN i (ZaA g (put1 t) c f)) := Zsp hy hg hel hif hsw hclos hcell hkind hnames hx hs
theorem sT {elt iter : Expr} {x x₂ y : Str} {px px₂ tp py pos spos : Pos} {kt : Nat} {scope : Scope} {cl : List (Str × Addr)} {t t₂ i : Nat} {g : Src} {f : Ex} (hy : Sto prog w Γ y i) (hg : JI2 prog w Γ iter g) (hel : ∀ C ρ, J prog w (Zbk Γ scope cl C [(x, t), (x₂, t₂)] ρ) elt f)
  (hsw : swapsWith (.ListComp elt [⟨.Tuple [.Name x px, .Name x₂ px₂] kt tp, iter, [], 0⟩] scope pos) (some (.Name y py)) spos.line Γ.env = pure true := by rfl)
  (hclos : closureFor scope Γ.env = pure cl := by with_unfolding_all rfl) (hcell : ∀ y ∈ scope.names, y.2 ≠ .cell := by decide) (hkind : scope.kind = .function := by exact rfl) (hnames : ∀ y ∈ scope.names, y.2 = .local → scope.names.lookup y.1 = some .local := by decide) (hx : scope.names.lookup x = some .local := by exact rfl) (hx₂ : scope.names.lookup x₂ = some .local := by exact rfl) (hxx : x ≠ x₂ := by decide) (htt : t ≠ t₂ := by decide) (hs : ∀ x, foldedSetIterable iter Γ.env x = pure x := by intro _; rfl) :
  S1 prog w Γ (.Assign [.Name y py] (.ListComp elt [⟨.Tuple [.Name x px, .Name x₂ px₂] kt tp, iter, [], 0⟩] scope pos) spos) (ZN i (ZaA g (Zcu t t₂) Zao f)) := Zr5 hy hg hel hsw hclos hcell hkind hnames hx hx₂ hxx htt hs
end
section
variable {prog : Program} {w : World} {dp un : Nat} {gd : Option (List Code)} {cn : Str} {cs : Scope} {L a : Addr} {ccd : Value} {cl : List (Str × Addr)} {outer : List Env} {h₀ : Heap} {hu : un + 200 < cLine} {names : List Str}
theorem vL {x : Str} {i : Nat} {pos : Pos} (hi : names[i]? = some x := by rfl) (hx : cs.names.lookup x = some .local := by exact rfl) (hk : cs.kind = .function := by exact rfl) (hd : (x == ("__debug__" : Str)) = false := by exact rfl) : J prog w (ZbP dp un gd cn cs L a ccd cl outer h₀ hu names) (.Name x pos) (Zb i) := Ziz (ZvB hi hx hk hd)
theorem vC {x : Str} {i : Nat} {pos : Pos} (hi : names[i]? = some x := by rfl) (hx : cs.names.lookup x = some .cell := by exact rfl) (hk : cs.kind = .function := by exact rfl) (hd : (x == ("__debug__" : Str)) = false := by exact rfl) : J prog w (ZbP dp un gd cn cs L a ccd cl outer h₀ hu names) (.Name x pos) (Zb i) := Ziz (ZvC hi hx hk hd)
theorem sL {x : Str} {i : Nat} (nd : names.Nodup := by decide) (hi : names[i]? = some x := by rfl) (hx : cs.names.lookup x = some .local := by exact rfl) (hk : cs.kind = .function := by exact rfl) : Sto prog w (ZbP dp un gd cn cs L a ccd cl outer h₀ hu names) x i := Zuv nd hi hx hk
theorem sC {x : Str} {i : Nat} (nd : names.Nodup := by decide) (hi : names[i]? = some x := by rfl) (hx : cs.names.lookup x = some .cell := by exact rfl) (hk : cs.kind = .function := by exact rfl) (hcl : (cl.lookup x).isSome = true := by exact rfl) : Sto prog w (ZbP dp un gd cn cs L a ccd cl outer h₀ hu names) x i := Zuw nd hi hx hk hcl
end
section
variable {prog : Program} {w : World} {K : Frag} {p : Program} {loose : List Str} {mean : ExcName → Option Value} {mg mb : Str → Option Value} {Γ : Cx} {dp un : Nat}
theorem nB {x : Str} {v : Value} (clr : Clr K p loose mean mg mb Γ dp un) (e : nsIn K mainGlobals x = some Option.none := by k_is) (hv : bootBuiltins x = some v := by boot_by_name) (hn : x ≠ "__name__" := by decide) (hg : Γ.env.globals = mainGlobals := by exact rfl) (hb : Γ.env.builtins = builtinsNs := by exact rfl) (hk : Γ.env.scope.kind = .function := by exact rfl) (hx : Γ.env.kindOf x = some .globalImplicit := by exact rfl) (hd : (x == ("__debug__" : Str)) = false := by exact rfl) : Nm prog w Γ x v := ZtN clr e hv hn hg hb hk hx hd
theorem cF {x : Str} {np pos : Pos} {f : Addr} {room : Nat} {e : Expr} {es : List Expr} {g : Exs} {o : List V → Hp → Option (V × Hp)} (clr : Clr K p loose mean mg mb Γ dp un) (D : Def prog w K p loose mean mg mb f room o) (h : Js prog w Γ (e :: es) g)
  (en : nsIn K mainGlobals x = some (some (.ref f)) := by k_is) (hg : Γ.env.globals = mainGlobals := by exact rfl) (hk : Γ.env.scope.kind = .function := by exact rfl) (hx : Γ.env.kindOf x = some .globalImplicit := by exact rfl) (hd0 : (x == ("__debug__" : Str)) = false := by exact rfl)
  (hkeep : keepIn K (.ref f) = true := by k_is) (hd : dp + room < recursionLimit := by omega) (hu : un + 10 * room + 300 < cLine := by omega)
  (he : starEach (e :: es) Γ.env = (false, eval e Γ.env) :: starEach es Γ.env := by rfl) (hp : ∀ pos, (backTo pos (starEach es Γ.env)).any (·.1) = false := by intro _; rfl) : J prog w Γ (.Call (.Name x np) (e :: es) [] pos) (Zt o g) := Zuz clr (ZvH clr en hg hk hx hd0) hkeep D hd hu h he hp
theorem Dof {name qual : Str} {params : Arguments} {body : List Stmt} {scope : Scope} {dV kV doc pm cdv ct oc : Value} {an od : Option Addr} {osl : Array (Option Value)} {f : Addr} {names : List Str} {n room : Nat} {g : Sm}
  (hbody : ∀ (dp un : Nat) (gd : Option (List Code)) (L : Addr) (outer : List Env) (h₀ : Heap) (hu : un + 200 < cLine), Clr K p loose mean mg mb (ZbP dp un gd qual scope L f cdv (cellsFrom (L + 1) scope.names []) outer h₀ hu names) dp un → dp + room < recursionLimit → un + 10 * room + 300 < cLine →
   Ss prog w (ZbP dp un gd qual scope L f cdv (cellsFrom (L + 1) scope.names []) outer h₀ hu names) body g)
  (ho : K.lookup f = some ⟨oc, od, .func (fnOf name qual params body scope dV kV doc pm an cdv ct), osl⟩ := by k_is) (hcd : codeIn K cdv qual = true := by k_is) (nd : names.Nodup := by decide) (hn : n ≤ names.length := by decide)
  (hbind : ∀ s xs, xs.length = n → BindsTo s (fnOf name qual params body scope dV kV doc pm an cdv ct) ⟨xs, []⟩ ((names.take n).zip xs) := by
   intro s xs hx
   first
   | (obtain ⟨x0, rfl⟩ := ln1 hx; exact BindsTo.of_eq rfl)
   | (obtain ⟨x0, x1, rfl⟩ := ln2 hx; exact BindsTo.of_eq rfl)
   | (obtain ⟨x0, x1, x2, rfl⟩ := ln3 hx; exact BindsTo.of_eq rfl)
   | (obtain ⟨x0, x1, x2, x3, rfl⟩ := ln4 hx; exact BindsTo.of_eq rfl)
   | (obtain ⟨x0, x1, x2, x3, x4, rfl⟩ := ln5 hx; exact BindsTo.of_eq rfl)
   | (obtain ⟨x0, x1, x2, x3, x4, x5, rfl⟩ := ln6 hx; exact BindsTo.of_eq rfl)
   | (obtain ⟨x0, x1, x2, x3, x4, x5, x6, rfl⟩ := ln7 hx; exact BindsTo.of_eq rfl)) (hkinds : ∀ x ∈ names.take n, scope.names.lookup x = some .local ∨ scope.names.lookup x = some .cell := by decide) (hone : ((cellsFrom 0 scope.names []).map (·.1)).Nodup := by decide +kernel)
  (hco : scope.isCoroutine = false := by exact rfl) (hgen : scope.isGenerator = false := by exact rfl) (hk : scope.kind = .function := by exact rfl) :
  Def prog w K p loose mean mg mb f (room + 1) (Z6 n g) := Zqd ho hcd nd hn hbind hkinds hone hco hgen hk hbody
end
section
variable {prog : Program} {w : World} {Γ : Cx} {scope : Scope} {cl : List (Str × Addr)} {C : Addr} {ts : List (Str × Nat)} {ρ0 : Lc}
theorem vO {x : Str} {t : Nat} {pos : Pos} (hm : (x, t) ∈ ts := by first | exact Zz5 | exact Zz2 _ Zz5) (hk : scope.kind = .function := by exact rfl) (hl : (compEnvC scope cl C Γ.env).kindOf x = some .local := by exact rfl) (hd : (x == ("__debug__" : Str)) = false := by exact rfl) : J prog w (Zbk Γ scope cl C ts ρ0) (.Name x pos) (Zb t) := Ziz (ZuB hm hk hl hd)
end
section
variable {prog : Program} {w : World} {dp un : Nat} {gd : Option (List Code)} {cn : Str} {cs : Scope} {L a : Addr} {ccd : Value} {clf : List (Str × Addr)} {outer : List Env} {h₀ : Heap} {hu : un + 200 < cLine} {names : List Str} {scope : Scope} {cl : List (Str × Addr)} {C : Addr} {ts : List (Str × Nat)} {ρ0 : Lc}
theorem vD {x : Str} {i : Nat} {pos : Pos} (hi : names[i]? = some x := by rfl) (hx : cs.names.lookup x = some .cell := by exact rfl) (hne : ∀ p ∈ ts, p.2 ≠ i := by decide) (hcl : cl.lookup x = clf.lookup x := by exact rfl) (hk : scope.kind = .function := by exact rfl) (hl : (compEnvC scope cl C (envX cn cs L a ccd clf)).kindOf x = some .cell := by exact rfl) (hd : (x == ("__debug__" : Str)) = false := by exact rfl) :
  J prog w (Zbk (ZbP dp un gd cn cs L a ccd clf outer h₀ hu names) scope cl C ts ρ0) (.Name x pos) (Zb i) := Ziz (ZuC hi hx hne hcl hk hl hd)
end
end PM
end
section
set_option linter.all false
set_option maxRecDepth 100000
set_option maxHeartbeats 2000000
open PySem PM TM
namespace L
noncomputable def Zkg : Sm := Zw (ZN 2 (Zj Zah (Zj ZaV (Zj ZaV (Zb 1) (Zb 1)) (Zl 7919)) (Zl 11))) (Zw (ZT (ZH (Zj oGt (Zt ZaE (Zf (Zb 0) Zo)) (Zl 0))) (ZN 2 (Zj Zah (Zb 2) (Zj Zv (Zb 0) (Zj oMod (Zb 1) (Zt ZaE (Zf (Zb 0) Zo)))))) Z0) (ZG (Zb 2)))
noncomputable def Zhi : List V → Hp → Option (V × Hp) := Z6 2 Zkg
noncomputable def Zkh : PS := (Zu (ZM 2 (Ze Zae (Ze ZaG (Ze ZaG (Za 1) (Za 1)) (Zk 7919)) (Zk 11))) (Zu (ZU (ZE (Ze qGt (Zs Zaq (Zd (Za 0) Zn)) (Zk 0))) (ZM 2 (Ze Zae (Za 2) (Ze Zr (Za 0) (Ze Za0 (Za 1) (Zs Zaq (Zd (Za 0) Zn)))))) ZX) (ZF (Za 2))))
noncomputable def ZfS : List T → Option T := Zaa 2 Zkh
theorem Zn5 : SimF false Zhi ZfS := Zaf (show S [] [] [] false Zkg Zkh from (Zz (ZW (O' := []) (Zac Zak (Zac Zbb (Zac Zbb (Zc 1) (Zc 1)) (Zm _)) (Zm _)) (by decide) (by decide) (by decide)) (Zz (Z2 (ZJ (ZD Zdn (Zat ZaR (Zh (Zc 0) Zp)) (Zm _))) (ZW (O' := []) (Zac Zak (Zc 2) (ZB ZA (Zc 0) (ZD Zbf (Zc 1) (Zat ZaR (Zh (Zc 0) Zp))))) (by decide) (by decide) (by decide)) Z4) (ZR (O' := []) (Zc 2) (by decide)))))
noncomputable def ZkX : Sm := ZG (Zj oMod (Zj oMod (Zj ZaV (Zt Zhi (Zf (Zb 0) (Zf (Zb 1) Zo))) (Zl 48271)) (Zl 2147483647)) (Zb 2))
noncomputable def ZbT : List V → Hp → Option (V × Hp) := Z6 3 ZkX
noncomputable def ZkY : PS := (ZF (Ze Za0 (Ze Za0 (Ze ZaG (Zs ZfS (Zd (Za 0) (Zd (Za 1) Zn))) (Zk 48271)) (Zk 2147483647)) (Za 2)))
noncomputable def Zbt : List T → Option T := Zaa 3 ZkY
theorem Zb9 : SimF false ZbT Zbt := Zaf (show S [] [] [] false ZkX ZkY from (ZR (O' := []) (ZD Zbf (ZD Zbf (Zac Zbb (ZK Zn5 (Zh (Zc 0) (Zh (Zc 1) Zp))) (Zm _)) (Zm _)) (Zc 2)) (by decide)))
noncomputable def ZjO : Sm := Zw (ZN 2 (Zt Zhi (Zf (Zb 0) (Zf (Zb 1) Zo)))) (Zw (ZN 3 (Zj Zv (Zb7 (Zf (Zl 3) (Zf (Zl 9) (Zf (Zj oPow (Zl 10) (Zl 9)) (Zf (Zj oPow (Zl 10) (Zl 40)) Zo))))) (Zj oMod (Zj oMod (Zj ZaV (Zb 2) (Zl 69621)) (Zl 2147483629)) (Zl 4)))) (ZG (Zj Zbj (Zj oMod (Zj ZaV (Zb 2) (Zj oPow (Zl 48271) (Zl 9))) (Zj Zah (Zj ZaV (Zl 2) (Zb 3)) (Zl 1))) (Zb 3))))
noncomputable def ZdT : List V → Hp → Option (V × Hp) := Z6 2 ZjO
noncomputable def ZjP : PS := (Zu (ZM 2 (Zs ZfS (Zd (Za 0) (Zd (Za 1) Zn)))) (Zu (ZM 3 (Ze Zr (ZbF (Zd (Zk 3) (Zd (Zk 9) (Zd (Ze Zdm (Zk 10) (Zk 9)) (Zd (Ze Zdm (Zk 10) (Zk 40)) Zn))))) (Ze Za0 (Ze Za0 (Ze ZaG (Za 2) (Zk 69621)) (Zk 2147483629)) (Zk 4)))) (ZF (Ze ZaX (Ze Za0 (Ze ZaG (Za 2) (Ze Zdm (Zk 48271) (Zk 9))) (Ze Zae (Ze ZaG (Zk 2) (Za 3)) (Zk 1))) (Za 3)))))
noncomputable def Zdy : List T → Option T := Zaa 2 ZjP
theorem ZeM : SimF false ZdT Zdy := Zaf (show S [] [] [] false ZjO ZjP from (Zz (ZW (O' := []) (ZK Zn5 (Zh (Zc 0) (Zh (Zc 1) Zp))) (by decide) (by decide) (by decide)) (Zz (ZW (O' := []) (ZB ZA (E.list (Zh (Zm _) (Zh (Zm _) (Zh (ZD Znl (Zm _) (Zm _)) (Zh (ZD Znl (Zm _) (Zm _)) Zp)))) (by decide)) (ZD Zbf (ZD Zbf (Zac Zbb (Zc 2) (Zm _)) (Zm _)) (Zm _))) (by decide) (by decide) (by decide)) (ZR (O' := []) (ZD Zbr (ZD Zbf (Zac Zbb (Zc 2) (ZD Znl (Zm _) (Zm _))) (Zac Zak (Zac Zbb (Zm _) (Zc 3)) (Zm _))) (Zc 3)) (by decide)))))
noncomputable def Zki : Sm := Zw (ZN 2 (Zt ZbT (Zf (Zb 0) (Zf (Zb 1) (Zf (Zl 42) Zo))))) (Zw (ZT (ZH (Zj oLt (Zj oMod (Zb 2) (Zl 6)) (Zl 2))) (ZG (ZY)) Z0) (Zw (ZT (ZH (Zj oLt (Zj oMod (Zb 2) (Zl 6)) (Zl 4))) (ZG (Zl 0)) Z0) (Zw (ZT (ZH (Zj oEq (Zj oMod (Zb 2) (Zl 6)) (Zl 4))) (ZG (Zj oDiv (Zb 2) (Zl 6))) Z0) (ZG (Zt Zc3 (Zf (Zt ZdT (Zf (Zb 0) (Zf (Zb 1) Zo))) Zo))))))
noncomputable def Zkj : List V → Hp → Option (V × Hp) := Z6 2 Zki
noncomputable def Zkk : PS := (Zu (ZM 2 (Zs Zbt (Zd (Za 0) (Zd (Za 1) (Zd (Zk 42) Zn))))) (Zu (ZU (ZE (Ze qLt (Ze Za0 (Za 2) (Zk 6)) (Zk 2))) (ZF (ZZ)) ZX) (Zu (ZU (ZE (Ze qLt (Ze Za0 (Za 2) (Zk 6)) (Zk 4))) (ZF (Zk 0)) ZX) (Zu (ZU (ZE (Ze qEq (Ze Za0 (Za 2) (Zk 6)) (Zk 4))) (ZF (Ze Zcv (Za 2) (Zk 6))) ZX) (ZF (Zs Zc5 (Zd (Zs Zdy (Zd (Za 0) (Zd (Za 1) Zn))) Zn)))))))
noncomputable def Zhj : List T → Option T := Zaa 2 Zkk
theorem Zr8 : SimF false Zkj Zhj := Zaf (show S [] [] [] false Zki Zkk from (Zz (ZW (O' := []) (ZK Zb9 (Zh (Zc 0) (Zh (Zc 1) (Zh (Zm _) Zp)))) (by decide) (by decide) (by decide)) (Zz (Z2 (ZJ (ZD Zcm (ZD Zbf (Zc 2) (Zm _)) (Zm _))) (ZR (O' := []) (Z9) (by decide)) Z4) (Zz (Z2 (ZJ (ZD Zcm (ZD Zbf (Zc 2) (Zm _)) (Zm _))) (ZR (O' := []) (Zm _) (by decide)) Z4) (Zz (Z2 (ZJ (ZD ZaF (ZD Zbf (Zc 2) (Zm _)) (Zm _))) (ZR (O' := []) (ZD Zc0 (Zc 2) (Zm _)) (by decide)) Z4) (ZR (O' := []) (Zat ZdK (Zh (ZK ZeM (Zh (Zc 0) (Zh (Zc 1) Zp))) Zp)) (by decide)))))))
noncomputable def Zjp : Sm := Zw (ZT (ZH (Zj oEq (Zb 0) (Zl 0))) (ZG (ZaK (Zf (Zl 0) (Zf (Zb 1) Zo)))) Z0) (ZG (ZaK (Zf (Zb 0) (Zf (Zj oMod (Zb 1) (Zb 0)) Zo))))
noncomputable def Zef : List V → Hp → Option (V × Hp) := Z6 2 Zjp
noncomputable def Zjq : PS := (Zu (ZU (ZE (Ze qEq (Za 0) (Zk 0))) (ZF (ZaL (Zd (Zk 0) (Zd (Za 1) Zn)))) ZX) (ZF (ZaL (Zd (Za 0) (Zd (Ze Za0 (Za 1) (Za 0)) Zn)))))
noncomputable def ZdR : List T → Option T := Zaa 2 Zjq
theorem ZfH : SimF false Zef ZdR := Zaf (show S [] [] [] false Zjp Zjq from (Zz (Z2 (ZJ (ZD ZaF (Zc 0) (Zm _))) (ZR (O' := []) (E.tup (Zh (Zm _) (Zh (Zc 1) Zp)) (by decide)) (by decide)) Z4) (ZR (O' := []) (E.tup (Zh (Zc 0) (Zh (ZD Zbf (Zc 1) (Zc 0)) Zp)) (by decide)) (by decide))))
noncomputable def ZkZ : Sm := Zw (ZN 3 (Zt ZbT (Zf (Zb 0) (Zf (Zb 1) (Zf (Zl 60) Zo))))) (Zw (ZT (ZH (Zj oLt (Zj oMod (Zb 3) (Zl 5)) (Zl 2))) (ZG (ZaK (Zf (Zl 1) (Zf (Zl 0) Zo)))) Z0) (Zw (ZT (ZH (Zj oEq (Zj oMod (Zb 3) (Zl 5)) (Zl 2))) (ZG (ZaK (Zf (Zl 0) (Zf (Zb 2) Zo)))) Z0) (Zw (ZT (ZH (Zj oEq (Zj oMod (Zb 3) (Zl 5)) (Zl 3))) (ZG (Zt Zef (Zf (Zj Zah (Zj oDiv (Zb 3) (Zl 5)) (Zl 1)) (Zf (Zb 2) Zo)))) Z0) (ZG (Zt Zef (Zf (Zt Zc3 (Zf (Zt ZdT (Zf (Zb 0) (Zf (Zb 1) Zo))) Zo)) (Zf (Zb 2) Zo)))))))
noncomputable def Zk0 : List V → Hp → Option (V × Hp) := Z6 3 ZkZ
noncomputable def Zk1 : PS := (Zu (ZM 3 (Zs Zbt (Zd (Za 0) (Zd (Za 1) (Zd (Zk 60) Zn))))) (Zu (ZU (ZE (Ze qLt (Ze Za0 (Za 3) (Zk 5)) (Zk 2))) (ZF (ZaL (Zd (Zk 1) (Zd (Zk 0) Zn)))) ZX) (Zu (ZU (ZE (Ze qEq (Ze Za0 (Za 3) (Zk 5)) (Zk 2))) (ZF (ZaL (Zd (Zk 0) (Zd (Za 2) Zn)))) ZX) (Zu (ZU (ZE (Ze qEq (Ze Za0 (Za 3) (Zk 5)) (Zk 3))) (ZF (Zs ZdR (Zd (Ze Zae (Ze Zcv (Za 3) (Zk 5)) (Zk 1)) (Zd (Za 2) Zn)))) ZX) (ZF (Zs ZdR (Zd (Zs Zc5 (Zd (Zs Zdy (Zd (Za 0) (Zd (Za 1) Zn))) Zn)) (Zd (Za 2) Zn))))))))
noncomputable def Zht : List T → Option T := Zaa 3 Zk1
theorem Zss : SimF false Zk0 Zht := Zaf (show S [] [] [] false ZkZ Zk1 from (Zz (ZW (O' := []) (ZK Zb9 (Zh (Zc 0) (Zh (Zc 1) (Zh (Zm _) Zp)))) (by decide) (by decide) (by decide)) (Zz (Z2 (ZJ (ZD Zcm (ZD Zbf (Zc 3) (Zm _)) (Zm _))) (ZR (O' := []) (E.tup (Zh (Zm _) (Zh (Zm _) Zp)) (by decide)) (by decide)) Z4) (Zz (Z2 (ZJ (ZD ZaF (ZD Zbf (Zc 3) (Zm _)) (Zm _))) (ZR (O' := []) (E.tup (Zh (Zm _) (Zh (Zc 2) Zp)) (by decide)) (by decide)) Z4) (Zz (Z2 (ZJ (ZD ZaF (ZD Zbf (Zc 3) (Zm _)) (Zm _))) (ZR (O' := []) (ZK ZfH (Zh (Zac Zak (ZD Zc0 (Zc 3) (Zm _)) (Zm _)) (Zh (Zc 2) Zp))) (by decide)) Z4) (ZR (O' := []) (ZK ZfH (Zh (Zat ZdK (Zh (ZK ZeM (Zh (Zc 0) (Zh (Zc 1) Zp))) Zp)) (Zh (Zc 2) Zp))) (by decide)))))))
noncomputable def Zk2 : Sm := Zw (ZN 3 (Zj Zah (Zb7 (Zf (Zl 0) Zo)) (Zb 2))) (Zw (ZN 4 (Zt ZaE (Zf (Zb 3) Zo))) (Zw (ZN 5 (Zb7 Zo)) (Zw (ZaO (ZaM (Zf (Zb 4) Zo)) (put1 6) (Zw (ZN 7 (Zb7 Zo)) (Zw (ZaO (ZaM (Zf (Zb 4) Zo)) (put1 8) (Zw (ZN 9 (Zt Zkj (Zf (Zb 0) (Zf (Zj Zah (Zj Zah (Zb 1) (Zj ZaV (Zb 6) (Zb 4))) (Zb 8)) Zo)))) (Zw (ZT (ZH (Zj ZbC (Zb 9) (ZY))) (ZN 9 (Zj Zah (Zj Zbj (Zj Zv (Zb 3) (Zb 6)) (Zj Zv (Zb 3) (Zb 8))) (Zb 9))) Z0) (Zcd (Zd0 (Zb 7) (Zb 9)))))) (Zw (Zby (Zl 0) (Zb 7) (Zb 6)) (Zcd (Zd0 (Zb 5) (Zb 7))))))) (ZG (ZaK (Zf (Zb 5) (Zf (ZaA (ZaM (Zf (Zj Zbj (Zb 4) (Zl 1)) Zo)) (put1 100) Zao (Zt Zk0 (Zf (Zb 0) (Zf (Zj Zah (Zj Zah (Zb 1) (Zj ZaV (Zb 4) (Zb 4))) (Zb 100)) (Zf (Zj Zv (Zb 2) (Zb 100)) Zo))))) Zo)))))))
noncomputable def Zk3 : List V → Hp → Option (V × Hp) := Z6 3 Zk2
noncomputable def Zk4 : PS := (Zu (ZM 3 (Ze Zae (ZbF (Zd (Zk 0) Zn)) (Za 2))) (Zu (ZM 4 (Zs Zaq (Zd (Za 3) Zn))) (Zu (ZM 5 (ZbF Zn)) (Zu (ZaI (Zaz (Zd (Za 4) Zn)) (Zab 6) (Zu (ZM 7 (ZbF Zn)) (Zu (ZaI (Zaz (Zd (Za 4) Zn)) (Zab 8) (Zu (ZM 9 (Zs Zhj (Zd (Za 0) (Zd (Ze Zae (Ze Zae (Za 1) (Ze ZaG (Za 6) (Za 4))) (Za 8)) Zn)))) (Zu (ZU (ZE (Ze Zbm (Za 9) (ZZ))) (ZM 9 (Ze Zae (Ze ZaX (Ze Zr (Za 3) (Za 6)) (Ze Zr (Za 3) (Za 8))) (Za 9))) ZX) (Zdo 7 [] ZaN (ZbE (Za 9)))))) (Zu (Zbc 7 [] (Zk 0) ZaN (Za 6)) (Zdo 5 [7] ZaN (Za 7)))))) (ZF (ZaL (Zd (Za 5) (Zd (Zam (Zaz (Zd (Ze ZaX (Za 4) (Zk 1)) Zn)) (Zab 100) Zag (ZbE (Zs Zht (Zd (Za 0) (Zd (Ze Zae (Ze Zae (Za 1) (Ze ZaG (Za 4) (Za 4))) (Za 100)) (Zd (Ze Zr (Za 2) (Za 100)) Zn)))))) Zn))))))))
noncomputable def Zhu : List T → Option T := Zaa 3 Zk4
theorem Zst : SimF true Zk3 Zhu := Zaf (show S [] [5] [] true Zk2 Zk4 from (Zz (ZW (O' := []) (Zac Zak (E.list (Zh (Zm _) Zp) (by decide)) (Zc 2)) (by decide) (by decide) (by decide)) (Zz (ZW (O' := []) (Zat ZaR (Zh (Zc 3) Zp)) (by decide) (by decide) (by decide)) (Zz (ZcC (O' := [5]) (E.list Zp (by decide)) (by decide)) (Zz (Zbg (Gs.range (Zh (Zc 4) Zp)) (PutOk.one (by decide)) (by decide) (by decide) (Zz (ZcC (O' := [5, 7]) (Za3 (O' := []) (E.list Zp (by decide)) (by decide)) (by decide)) (Zz (Zbg (Gs.range (Zh (Zc 4) Zp)) (PutOk.one (by decide)) (by decide) (by decide) (Zz (ZW (O' := [5, 7]) (ZK Zr8 (Zh (Zc 0) (Zh (Zac Zak (Zac Zak (Zc 1) (Zac Zbb (Zc 6) (Zc 4))) (Zc 8)) Zp))) (by decide) (by decide) (by decide)) (Zz (Z2 (ZJ (ZD ZbV (Zc 9) (Z9))) (ZW (O' := [5, 7]) (Zac Zak (ZD Zbr (ZB ZA (Zc 3) (Zc 6)) (ZB ZA (Zc 3) (Zc 8))) (Zc 9)) (by decide) (by decide) (by decide)) Z4) (ZgF (O' := [5, 7]) (by decide) Zbq (Za3 (O' := [5]) (E.flat (Zc 9)) (by decide)) (by decide) (by decide))))) (Zz (S.put (O' := [5, 7]) (by decide) (Za3 (O' := [5]) (Zm _) (by decide)) Zbq (Zc 6) (by decide) (by decide)) (ZgF (O' := [5]) (by decide) Zbq (Za3 (O' := [7]) (E.own (by decide)) (by decide)) (by decide) (by decide)))))) (Za4 (O' := [5]) (E.tup (Zfe (E.own (by decide)) (Zfe (Zdc (Gs.range (Zh (ZD Zbr (Zc 4) (Zm _)) Zp)) (PutOk.one (by decide)) (by decide) Zaw (Za3 (O' := []) (E.flat (ZK Zss (Zh (Zc 0) (Zh (Zac Zak (Zac Zak (Zc 1) (Zac Zbb (Zc 4) (Zc 4))) (Zc 100)) (Zh (ZB ZA (Zc 2) (Zc 100)) Zp))))) (by decide))) Zp (by decide) (by decide)) (by decide) (by decide)) (by decide)) (by decide) (by decide)))))))
noncomputable def Zk5 : Sm := Zw (ZT (ZH (Zj oIs (Zb 0) (ZY))) (ZG (ZY)) Z0) (ZG (ZaK (Zf (ZaA (Zbz (Zj Zv (Zb 0) (Zl 0))) (put1 100) Zao (Zt Zco (Zf (Zb 100) Zo))) (Zf (Zt Zco (Zf (Zj Zv (Zb 0) (Zl 1)) Zo)) Zo))))
noncomputable def Zk6 : List V → Hp → Option (V × Hp) := Z6 1 Zk5
noncomputable def Zhv : PS := (Zu (ZU (ZE (Ze qIs (Za 0) (ZZ))) (ZF (ZZ)) ZX) (ZF (ZaL (Zd (Zam (ZaH (Ze Zr (Za 0) (Zk 0))) (Zab 100) Zag (Zs ZbX (Zd (Za 100) Zn))) (Zd (Zs ZbX (Zd (Ze Zr (Za 0) (Zk 1)) Zn)) Zn)))))
noncomputable def ZdU : List T → Option T := Zaa 1 Zhv
theorem Zsu : SimF false Zk6 ZdU := Zaf (show S [] [] [] false Zk5 Zhv from (Zz (Z2 (ZJ (ZD Zbl (Zc 0) (Z9))) (ZR (O' := []) (Z9) (by decide)) Z4) (ZR (O' := []) (E.tup (Zh (Zcb (Gs.seq (ZB ZA (Zc 0) (Zm _))) (PutOk.one (by decide)) (by decide) Zaw (Zgl Zdb (Zh (Zc 100) Zp))) (Zh (Zgl Zdb (Zh (ZB ZA (Zc 0) (Zm _)) Zp)) Zp)) (by decide)) (by decide))))
noncomputable def Zkl : Sm := ZG (eOr (Zj oIs (Zb 1) (ZY)) (Zc2 (Zj ZbC (Zb 0) (ZY)) (Zj oLe (Zb 0) (Zb 1))))
noncomputable def Zhk : List V → Hp → Option (V × Hp) := Z6 2 Zkl
noncomputable def Zkm : PS := (ZF ((pOr (Ze qIs (Za 1) (ZZ)) ((Zc4 (Ze Zbm (Za 0) (ZZ)) (Ze qLe (Za 0) (Za 1)))))))
noncomputable def ZfT : List T → Option T := Zaa 2 Zkm
theorem Zn6 : SimF false Zhk ZfT := Zaf (show S [] [] [] false Zkl Zkm from (ZR (O' := []) ((ZwR (E.sh (ZD Zbl (Zc 1) (Z9))) (E.sh ((Zez (E.sh (ZD ZbV (Zc 0) (Z9))) (E.sh (ZD Znv (Zc 0) (Zc 1)))))))) (by decide)))
noncomputable def Zk7 : Sm := Zw (ZT (ZH (Zj oEq (Zj Zv (Zb 0) (Zl 0)) (Zl 0))) (ZG (Zj oEq (Zb 1) (Zj Zv (Zb 0) (Zl 1)))) Z0) (ZG (Zj oEq (Zj oMod (Zb 1) (Zj Zv (Zb 0) (Zl 0))) (Zj Zv (Zb 0) (Zl 1))))
noncomputable def Zel : List V → Hp → Option (V × Hp) := Z6 2 Zk7
noncomputable def Zk8 : PS := (Zu (ZU (ZE (Ze qEq (Ze Zr (Za 0) (Zk 0)) (Zk 0))) (ZF (Ze qEq (Za 1) (Ze Zr (Za 0) (Zk 1)))) ZX) (ZF (Ze qEq (Ze Za0 (Za 1) (Ze Zr (Za 0) (Zk 0))) (Ze Zr (Za 0) (Zk 1)))))
noncomputable def ZdV : List T → Option T := Zaa 2 Zk8
theorem ZfX : SimF false Zel ZdV := Zaf (show S [] [] [] false Zk7 Zk8 from (Zz (Z2 (ZJ (ZD ZaF (ZB ZA (Zc 0) (Zm _)) (Zm _))) (ZR (O' := []) (ZD ZaF (Zc 1) (ZB ZA (Zc 0) (Zm _))) (by decide)) Z4) (ZR (O' := []) (ZD ZaF (ZD Zbf (Zc 1) (ZB ZA (Zc 0) (Zm _))) (ZB ZA (Zc 0) (Zm _))) (by decide))))
noncomputable def Zjr : Sm := Zw (ZT (ZH (Zj oEq (Zj Zv (Zb 1) (Zl 0)) (Zl 0))) (ZG (Zj oEq (Zb 0) (Zb 1))) Z0) (ZG (Zc2 (Zj oEq (Zj oMod (Zj Zv (Zb 0) (Zl 0)) (Zj Zv (Zb 1) (Zl 0))) (Zl 0)) (Zt Zel (Zf (Zb 1) (Zf (Zj Zv (Zb 0) (Zl 1)) Zo)))))
noncomputable def Zjs : List V → Hp → Option (V × Hp) := Z6 2 Zjr
noncomputable def ZnN : PS := (Zu (ZU (ZE (Ze qEq (Ze Zr (Za 1) (Zk 0)) (Zk 0))) (ZF (Ze qEq (Za 0) (Za 1))) ZX) (ZF ((Zc4 (Ze qEq (Ze Za0 (Ze Zr (Za 0) (Zk 0)) (Ze Zr (Za 1) (Zk 0))) (Zk 0)) (Zs ZdV (Zd (Za 1) (Zd (Ze Zr (Za 0) (Zk 1)) Zn)))))))
noncomputable def ZnO : List T → Option T := Zaa 2 ZnN
theorem Zro : SimF false Zjs ZnO := Zaf (show S [] [] [] false Zjr ZnN from (Zz (Z2 (ZJ (ZD ZaF (ZB ZA (Zc 1) (Zm _)) (Zm _))) (ZR (O' := []) (ZD ZaF (Zc 0) (Zc 1)) (by decide)) Z4) (ZR (O' := []) ((Zez (E.sh (ZD ZaF (ZD Zbf (ZB ZA (Zc 0) (Zm _)) (ZB ZA (Zc 1) (Zm _))) (Zm _))) (E.sh (ZK ZfX (Zh (Zc 1) (Zh (ZB ZA (Zc 0) (Zm _)) Zp)))))) (by decide))))
noncomputable def ZlK : Sm := Zw (ZN 0 (Zt Zc3 (Zf (Zb 0) Zo))) (Zw (ZN 1 (Zt Zc3 (Zf (Zb 1) Zo))) (Zw (ZcW (ZH (Zj oNe (Zb 1) (Zl 0))) (Zw (ZN 2 (Zj oMod (Zb 0) (Zb 1))) (Zw (ZN 0 (Zb 1)) (ZN 1 (Zb 2)))) 1000000) (ZG (Zb 0))))
noncomputable def ZlL : List V → Hp → Option (V × Hp) := Z6 2 ZlK
noncomputable def ZlM : PS := (Zu (ZM 0 (Zs Zc5 (Zd (Za 0) Zn))) (Zu (ZM 1 (Zs Zc5 (Zd (Za 1) Zn))) (Zu (Zde (ZE (Ze qNe (Za 1) (Zk 0))) (Zu (ZM 2 (Ze Za0 (Za 0) (Za 1))) (Zu (ZM 0 (Za 1)) (ZM 1 (Za 2)))) 1000000) (ZF (Za 0)))))
noncomputable def ZhJ : List T → Option T := Zaa 2 ZlM
theorem Ztd : SimF false ZlL ZhJ := Zaf (show S [] [] [] false ZlK ZlM from (Zz (ZW (O' := []) (Zat ZdK (Zh (Zc 0) Zp)) (by decide) (by decide) (by decide)) (Zz (ZW (O' := []) (Zat ZdK (Zh (Zc 1) Zp)) (by decide) (by decide) (by decide)) (Zz (Zfm (ZJ (ZD ZbA (Zc 1) (Zm _))) (Zz (ZW (O' := []) (ZD Zbf (Zc 0) (Zc 1)) (by decide) (by decide) (by decide)) (Zz (ZW (O' := []) (Zc 1) (by decide) (by decide) (by decide)) (ZW (O' := []) (Zc 2) (by decide) (by decide) (by decide)))) 1000000) (ZR (O' := []) (Zc 0) (by decide))))))
noncomputable def ZjQ : Sm := Zw (ZN 3 (ZaA (Zbz (Zj Zv (Zb 2) (Zl 0))) (put1 100) Zao (Zt Zco (Zf (Zb 100) Zo)))) (Zw (ZN 4 (Zt Zco (Zf (Zj Zv (Zb 2) (Zl 1)) Zo))) (Zw (ZN 5 (Zt ZbT (Zf (Zb 0) (Zf (Zb 1) (Zf (Zt ZaE (Zf (Zb 3) Zo)) Zo))))) (Zw (ZN 6 (Zt ZbT (Zf (Zb 0) (Zf (Zj Zah (Zb 1) (Zl 1)) (Zf (Zt ZaE (Zf (Zb 3) Zo)) Zo))))) (Zw (ZN 7 (Zt ZbT (Zf (Zb 0) (Zf (Zj Zah (Zb 1) (Zl 2)) (Zf (Zl 5) Zo))))) (Zw (ZT (Zav (ZH (Zj oLt (Zb 7) (Zl 3))) (Zav (ZH (Zj oNe (Zb 5) (Zb 6))) (Zav (ZH (Zj oIs (Zj Zv (Zj Zv (Zb 3) (Zb 5)) (Zb 6)) (ZY))) Zao))) (Zby (Zt ZdT (Zf (Zb 0) (Zf (Zj Zah (Zb 1) (Zl 3)) Zo))) (Zj Zv (Zb 3) (Zb 5)) (Zb 6)) (ZT (Zav (ZH (Zj oLt (Zb 7) (Zl 3))) (Zav (ZH (Zj oNe (Zb 5) (Zb 6))) Zao)) (Zby (Zj Zbj (Zj Zbj (Zj Zv (Zj Zv (Zb 3) (Zb 5)) (Zb 6)) (Zl 1)) (Zt ZbT (Zf (Zb 0) (Zf (Zj Zah (Zb 1) (Zl 3)) (Zf (Zl 4) Zo))))) (Zj Zv (Zb 3) (Zb 5)) (Zb 6)) (ZT (ZH (Zj oGt (Zt ZaE (Zf (Zb 4) Zo)) (Zl 0))) (Zw (ZN 8 (Zt ZbT (Zf (Zb 0) (Zf (Zb 1) (Zf (Zt ZaE (Zf (Zb 4) Zo)) Zo))))) (Zw (ZN 9 (Zj Zv (Zb 4) (Zb 8))) (Zby (Zt Zef (Zf (Zj ZaV (Zj Zv (Zb 9) (Zl 0)) (Zj Zah (Zl 1) (Zj oMod (Zb 7) (Zl 2)))) (Zf (Zj Zah (Zj Zv (Zb 9) (Zl 1)) (Zt ZbT (Zf (Zb 0) (Zf (Zj Zah (Zb 1) (Zl 3)) (Zf (Zl 3) Zo))))) Zo))) (Zb 4) (Zb 8)))) Z0))) (ZG (ZaK (Zf (Zb 3) (Zf (Zb 4) Zo)))))))))
noncomputable def ZjR : List V → Hp → Option (V × Hp) := Z6 3 ZjQ
noncomputable def ZjS : PS := (Zu (ZM 3 (Zam (ZaH (Ze Zr (Za 2) (Zk 0))) (Zab 100) Zag (pFl (Zs ZbX (Zd (Za 100) Zn))))) (Zu (ZM 4 (pFl (Zs ZbX (Zd (Ze Zr (Za 2) (Zk 1)) Zn)))) (Zu (ZM 5 (Zs Zbt (Zd (Za 0) (Zd (Za 1) (Zd (Zs Zaq (Zd (Za 3) Zn)) Zn))))) (Zu (ZM 6 (Zs Zbt (Zd (Za 0) (Zd (Ze Zae (Za 1) (Zk 1)) (Zd (Zs Zaq (Zd (Za 3) Zn)) Zn))))) (Zu (ZM 7 (Zs Zbt (Zd (Za 0) (Zd (Ze Zae (Za 1) (Zk 2)) (Zd (Zk 5) Zn))))) (Zu (ZU (Zap (ZE (Ze qLt (Za 7) (Zk 3))) (Zap (ZE (Ze qNe (Za 5) (Za 6))) (Zap (ZE (Ze qIs (Ze Zr (Ze Zr (Za 3) (Za 5)) (Za 6)) (ZZ))) Zag))) (Zbc 3 [] (ZbE (Zs Zdy (Zd (Za 0) (Zd (Ze Zae (Za 1) (Zk 3)) Zn)))) (Zck ZaN (Za 5)) (Za 6)) (ZU (Zap (ZE (Ze qLt (Za 7) (Zk 3))) (Zap (ZE (Ze qNe (Za 5) (Za 6))) Zag)) (Zbc 3 [] (Ze ZaX (Ze ZaX (Ze Zr (Ze Zr (Za 3) (Za 5)) (Za 6)) (Zk 1)) (Zs Zbt (Zd (Za 0) (Zd (Ze Zae (Za 1) (Zk 3)) (Zd (Zk 4) Zn))))) (Zck ZaN (Za 5)) (Za 6)) (ZU (ZE (Ze qGt (Zs Zaq (Zd (Za 4) Zn)) (Zk 0))) (Zu (ZM 8 (Zs Zbt (Zd (Za 0) (Zd (Za 1) (Zd (Zs Zaq (Zd (Za 4) Zn)) Zn))))) (Zu (ZM 9 (ZbE (Ze Zr (Za 4) (Za 8)))) (Zbc 4 [] (ZbE (Zs ZdR (Zd (Ze ZaG (Ze Zr (Za 9) (Zk 0)) (Ze Zae (Zk 1) (Ze Za0 (Za 7) (Zk 2)))) (Zd (Ze Zae (Ze Zr (Za 9) (Zk 1)) (Zs Zbt (Zd (Za 0) (Zd (Ze Zae (Za 1) (Zk 3)) (Zd (Zk 3) Zn))))) Zn)))) ZaN (Za 8)))) ZX))) (ZF (ZaL (Zd (Za 3) (Zd (Za 4) Zn))))))))))
noncomputable def Zg8 : List T → Option T := Zaa 3 ZjS
theorem ZrN : SimF false ZjR Zg8 := Zaf (show S [] [3, 4] [] false ZjQ ZjS from (Zz (ZcC (O' := [3]) (Zdc (Gs.seq (ZB ZA (Zc 2) (Zm _))) (PutOk.one (by decide)) (by decide) Zaw (Zeo Zdb (Zh (Zc 100) Zp))) (by decide)) (Zz (ZcC (O' := [3, 4]) (Za3 (O' := []) (Zeo Zdb (Zh (ZB ZA (Zc 2) (Zm _)) Zp)) (by decide)) (by decide)) (Zz (ZW (O' := [3, 4]) (ZK Zb9 (Zh (Zc 0) (Zh (Zc 1) (Zh (Zat ZaR (Zh (Zc 3) Zp)) Zp)))) (by decide) (by decide) (by decide)) (Zz (ZW (O' := [3, 4]) (ZK Zb9 (Zh (Zc 0) (Zh (Zac Zak (Zc 1) (Zm _)) (Zh (Zat ZaR (Zh (Zc 3) Zp)) Zp)))) (by decide) (by decide) (by decide)) (Zz (ZW (O' := [3, 4]) (ZK Zb9 (Zh (Zc 0) (Zh (Zac Zak (Zc 1) (Zm _)) (Zh (Zm _) Zp)))) (by decide) (by decide) (by decide)) (Zz (Z2 (ZaC (ZJ (ZD Zcm (Zc 7) (Zm _))) (ZaC (ZJ (ZD ZbA (Zc 5) (Zc 6))) (ZaC (ZJ (ZD Zbl (ZB ZA (ZB ZA (Zc 3) (Zc 5)) (Zc 6)) (Z9))) Zaw))) (S.put (O' := [3, 4]) (by decide) (Za3 (O' := [4]) (E.flat (ZK ZeM (Zh (Zc 0) (Zh (Zac Zak (Zc 1) (Zm _)) Zp)))) (by decide)) (ZcM Zbq (Zc 5)) (Zc 6) (by decide) (by decide)) (Z2 (ZaC (ZJ (ZD Zcm (Zc 7) (Zm _))) (ZaC (ZJ (ZD ZbA (Zc 5) (Zc 6))) Zaw)) (S.put (O' := [3, 4]) (by decide) (Za3 (O' := [4]) (ZD Zbr (ZD Zbr (ZB ZA (ZB ZA (Zc 3) (Zc 5)) (Zc 6)) (Zm _)) (ZK Zb9 (Zh (Zc 0) (Zh (Zac Zak (Zc 1) (Zm _)) (Zh (Zm _) Zp))))) (by decide)) (ZcM Zbq (Zc 5)) (Zc 6) (by decide) (by decide)) (Z2 (ZJ (ZD Zdn (Zat ZaR (Zh (Zc 4) Zp)) (Zm _))) (Zz (ZW (O' := [3, 4]) (ZK Zb9 (Zh (Zc 0) (Zh (Zc 1) (Zh (Zat ZaR (Zh (Zc 4) Zp)) Zp)))) (by decide) (by decide) (by decide)) (Zz (ZW (O' := [3, 4]) (Za3 (O' := []) (E.flat (ZB ZA (Zc 4) (Zc 8))) (by decide)) (by decide) (by decide) (by decide)) (S.put (O' := [3, 4]) (by decide) (Za3 (O' := [3]) (E.flat (ZK ZfH (Zh (Zac Zbb (ZB ZA (Zc 9) (Zm _)) (Zac Zak (Zm _) (ZD Zbf (Zc 7) (Zm _)))) (Zh (Zac Zak (ZB ZA (Zc 9) (Zm _)) (ZK Zb9 (Zh (Zc 0) (Zh (Zac Zak (Zc 1) (Zm _)) (Zh (Zm _) Zp))))) Zp)))) (by decide)) Zbq (Zc 8) (by decide) (by decide)))) Z4))) (ZR (O' := [3, 4]) (E.tup (Zh (Zc 3) (Zh (Zc 4) Zp)) (by decide)) (by decide)))))))))
noncomputable def ZlN : Sm := Zw (ZN 2 (Zt Zc3 (Zf (Zb 0) Zo))) (Zw (ZN 3 (Zt Zc3 (Zf (Zb 1) Zo))) (Zw (ZcW (ZH (Zj oNe (Zb 3) (Zl 0))) (Zw (ZN 4 (Zj oMod (Zb 2) (Zb 3))) (Zw (ZN 2 (Zb 3)) (ZN 3 (Zb 4)))) 1000000) (ZG (Zb 2))))
noncomputable def Zgb : List V → Hp → Option (V × Hp) := Z6 2 ZlN
noncomputable def ZlO : PS := (Zu (ZM 2 (Zs Zc5 (Zd (Za 0) Zn))) (Zu (ZM 3 (Zs Zc5 (Zd (Za 1) Zn))) (Zu (Zde (ZE (Ze qNe (Za 3) (Zk 0))) (Zu (ZM 4 (Ze Za0 (Za 2) (Za 3))) (Zu (ZM 2 (Za 3)) (ZM 3 (Za 4)))) 1000000) (ZF (Za 2)))))
noncomputable def Ze5 : List T → Option T := Zaa 2 ZlO
theorem ZlP : SimF false Zgb Ze5 := Zaf (show S [] [] [] false ZlN ZlO from (Zz (ZW (O' := []) (Zat ZdK (Zh (Zc 0) Zp)) (by decide) (by decide) (by decide)) (Zz (ZW (O' := []) (Zat ZdK (Zh (Zc 1) Zp)) (by decide) (by decide) (by decide)) (Zz (Zfm (ZJ (ZD ZbA (Zc 3) (Zm _))) (Zz (ZW (O' := []) (ZD Zbf (Zc 2) (Zc 3)) (by decide) (by decide) (by decide)) (Zz (ZW (O' := []) (Zc 3) (by decide) (by decide) (by decide)) (ZW (O' := []) (Zc 4) (by decide) (by decide) (by decide)))) 1000000) (ZR (O' := []) (Zc 2) (by decide))))))
noncomputable def Zm8 : Sm := Zw (ZT (ZH (Zj oLt (Zb 0) (Zl 0))) (PM.sNo) Z0) (Zw (ZT (ZH (Zj oEq (Zb 0) (Zl 0))) (ZG (ZaK (Zf (Zl 0) (Zf (Zb 1) Zo)))) Z0) (ZG (ZaK (Zf (Zb 0) (Zf (Zj oMod (Zb 1) (Zb 0)) Zo)))))
noncomputable def Zfv : List V → Hp → Option (V × Hp) := Z6 2 Zm8
noncomputable def Zm9 : PS := (Zu (ZU (ZE (Ze qLt (Za 0) (Zk 0))) (qNo) ZX) (Zu (ZU (ZE (Ze qEq (Za 0) (Zk 0))) (ZF (ZaL (Zd (Zk 0) (Zd (Za 1) Zn)))) ZX) (ZF (ZaL (Zd (Za 0) (Zd (Ze Za0 (Za 1) (Za 0)) Zn))))))
noncomputable def Zeu : List T → Option T := Zaa 2 Zm9
theorem Zip : SimF false Zfv Zeu := Zaf (show S [] [] [] false Zm8 Zm9 from (Zz (Z2 (ZJ (ZD Zcm (Zc 0) (Zm _))) (ZwS (O' := [])) Z4) (Zz (Z2 (ZJ (ZD ZaF (Zc 0) (Zm _))) (ZR (O' := []) (E.tup (Zh (Zm _) (Zh (Zc 1) Zp)) (by decide)) (by decide)) Z4) (ZR (O' := []) (E.tup (Zh (Zc 0) (Zh (ZD Zbf (Zc 1) (Zc 0)) Zp)) (by decide)) (by decide)))))
noncomputable def ZlQ : Sm := Zw (ZN 2 (Zj oMod (Zb 0) (Zb 1))) (Zw (ZN 3 (Zb 1)) (Zw (ZN 4 (Zl 1)) (Zw (ZN 5 (Zl 0)) (Zw (ZcW (ZH (Zj oNe (Zb 3) (Zl 0))) (Zw (ZN 6 (Zj oDiv (Zb 2) (Zb 3))) (Zw (ZN 7 (Zj Zbj (Zb 2) (Zj ZaV (Zb 6) (Zb 3)))) (Zw (ZN 8 (Zj Zbj (Zb 4) (Zj ZaV (Zb 6) (Zb 5)))) (Zw (ZN 2 (Zb 3)) (Zw (ZN 4 (Zb 5)) (Zw (ZN 3 (Zb 7)) (ZN 5 (Zb 8)))))))) 1000000) (ZG (Zj oMod (Zb 4) (Zb 1)))))))
noncomputable def ZlR : List V → Hp → Option (V × Hp) := Z6 2 ZlQ
noncomputable def ZlS : PS := (Zu (ZM 2 (Ze Za0 (Za 0) (Za 1))) (Zu (ZM 3 (Za 1)) (Zu (ZM 4 (Zk 1)) (Zu (ZM 5 (Zk 0)) (Zu (Zde (ZE (Ze qNe (Za 3) (Zk 0))) (Zu (ZM 6 (Ze Zcv (Za 2) (Za 3))) (Zu (ZM 7 (Ze ZaX (Za 2) (Ze ZaG (Za 6) (Za 3)))) (Zu (ZM 8 (Ze ZaX (Za 4) (Ze ZaG (Za 6) (Za 5)))) (Zu (ZM 2 (Za 3)) (Zu (ZM 4 (Za 5)) (Zu (ZM 3 (Za 7)) (ZM 5 (Za 8)))))))) 1000000) (ZF (Ze Za0 (Za 4) (Za 1))))))))
noncomputable def ZhK : List T → Option T := Zaa 2 ZlS
theorem Zte : SimF false ZlR ZhK := Zaf (show S [] [] [] false ZlQ ZlS from (Zz (ZW (O' := []) (ZD Zbf (Zc 0) (Zc 1)) (by decide) (by decide) (by decide)) (Zz (ZW (O' := []) (Zc 1) (by decide) (by decide) (by decide)) (Zz (ZW (O' := []) (Zm _) (by decide) (by decide) (by decide)) (Zz (ZW (O' := []) (Zm _) (by decide) (by decide) (by decide)) (Zz (Zfm (ZJ (ZD ZbA (Zc 3) (Zm _))) (Zz (ZW (O' := []) (ZD Zc0 (Zc 2) (Zc 3)) (by decide) (by decide) (by decide)) (Zz (ZW (O' := []) (ZD Zbr (Zc 2) (Zac Zbb (Zc 6) (Zc 3))) (by decide) (by decide) (by decide)) (Zz (ZW (O' := []) (ZD Zbr (Zc 4) (Zac Zbb (Zc 6) (Zc 5))) (by decide) (by decide) (by decide)) (Zz (ZW (O' := []) (Zc 3) (by decide) (by decide) (by decide)) (Zz (ZW (O' := []) (Zc 5) (by decide) (by decide) (by decide)) (Zz (ZW (O' := []) (Zc 7) (by decide) (by decide) (by decide)) (ZW (O' := []) (Zc 8) (by decide) (by decide) (by decide)))))))) 1000000) (ZR (O' := []) (ZD Zbf (Zc 4) (Zc 1)) (by decide))))))))
noncomputable def Zk9 : Sm := Zw (ZT (ZH (Zj oEq (Zj Zv (Zb 0) (Zl 0)) (Zl 0))) (ZG (eIf (ZH (Zt Zel (Zf (Zb 1) (Zf (Zj Zv (Zb 0) (Zl 1)) Zo)))) (Zb 0) (ZY))) Z0) (Zw (ZT (ZH (Zj oEq (Zj Zv (Zb 1) (Zl 0)) (Zl 0))) (ZG (eIf (ZH (Zt Zel (Zf (Zb 0) (Zf (Zj Zv (Zb 1) (Zl 1)) Zo)))) (Zb 1) (ZY))) Z0) (Zw (ZN 2 (Zt Zgb (Zf (Zj Zv (Zb 0) (Zl 0)) (Zf (Zj Zv (Zb 1) (Zl 0)) Zo)))) (Zw (ZN 3 (Zj Zbj (Zj Zv (Zb 1) (Zl 1)) (Zj Zv (Zb 0) (Zl 1)))) (Zw (ZT (ZH (Zj oNe (Zj oMod (Zb 3) (Zb 2)) (Zl 0))) (ZG (ZY)) Z0) (Zw (ZN 4 (Zj oDiv (Zj Zv (Zb 1) (Zl 0)) (Zb 2))) (Zw (ZN 5 (Zj ZaV (Zj oDiv (Zb 3) (Zb 2)) (Zt ZlR (Zf (Zj oDiv (Zj Zv (Zb 0) (Zl 0)) (Zb 2)) (Zf (Zb 4) Zo))))) (ZG (Zt Zfv (Zf (Zj ZaV (Zj Zv (Zb 0) (Zl 0)) (Zb 4)) (Zf (Zj Zah (Zj Zv (Zb 0) (Zl 1)) (Zj ZaV (Zj Zv (Zb 0) (Zl 0)) (Zb 5))) Zo))))))))))
noncomputable def Zhw : List V → Hp → Option (V × Hp) := Z6 2 Zk9
noncomputable def Zla : PS := (Zu (ZU (ZE (Ze qEq (Ze Zr (Za 0) (Zk 0)) (Zk 0))) (ZF (pIf (ZE (Zs ZdV (Zd (Za 1) (Zd (Ze Zr (Za 0) (Zk 1)) Zn)))) (Za 0) (ZZ))) ZX) (Zu (ZU (ZE (Ze qEq (Ze Zr (Za 1) (Zk 0)) (Zk 0))) (ZF (pIf (ZE (Zs ZdV (Zd (Za 0) (Zd (Ze Zr (Za 1) (Zk 1)) Zn)))) (Za 1) (ZZ))) ZX) (Zu (ZM 2 (Zs Ze5 (Zd (Ze Zr (Za 0) (Zk 0)) (Zd (Ze Zr (Za 1) (Zk 0)) Zn)))) (Zu (ZM 3 (Ze ZaX (Ze Zr (Za 1) (Zk 1)) (Ze Zr (Za 0) (Zk 1)))) (Zu (ZU (ZE (Ze qNe (Ze Za0 (Za 3) (Za 2)) (Zk 0))) (ZF (ZZ)) ZX) (Zu (ZM 4 (Ze Zcv (Ze Zr (Za 1) (Zk 0)) (Za 2))) (Zu (ZM 5 (Ze ZaG (Ze Zcv (Za 3) (Za 2)) (Zs ZhK (Zd (Ze Zcv (Ze Zr (Za 0) (Zk 0)) (Za 2)) (Zd (Za 4) Zn))))) (ZF (Zs Zeu (Zd (Ze ZaG (Ze Zr (Za 0) (Zk 0)) (Za 4)) (Zd (Ze Zae (Ze Zr (Za 0) (Zk 1)) (Ze ZaG (Ze Zr (Za 0) (Zk 0)) (Za 5))) Zn)))))))))))
noncomputable def ZfY : List T → Option T := Zaa 2 Zla
theorem Zov : SimF false Zhw ZfY := Zaf (show S [] [] [] false Zk9 Zla from (Zz (Z2 (ZJ (ZD ZaF (ZB ZA (Zc 0) (Zm _)) (Zm _))) (ZR (O' := []) (Zey (ZJ (ZK ZfX (Zh (Zc 1) (Zh (ZB ZA (Zc 0) (Zm _)) Zp)))) (E.sh (Zc 0)) (E.sh (Z9))) (by decide)) Z4) (Zz (Z2 (ZJ (ZD ZaF (ZB ZA (Zc 1) (Zm _)) (Zm _))) (ZR (O' := []) (Zey (ZJ (ZK ZfX (Zh (Zc 0) (Zh (ZB ZA (Zc 1) (Zm _)) Zp)))) (E.sh (Zc 1)) (E.sh (Z9))) (by decide)) Z4) (Zz (ZW (O' := []) (ZK ZlP (Zh (ZB ZA (Zc 0) (Zm _)) (Zh (ZB ZA (Zc 1) (Zm _)) Zp))) (by decide) (by decide) (by decide)) (Zz (ZW (O' := []) (ZD Zbr (ZB ZA (Zc 1) (Zm _)) (ZB ZA (Zc 0) (Zm _))) (by decide) (by decide) (by decide)) (Zz (Z2 (ZJ (ZD ZbA (ZD Zbf (Zc 3) (Zc 2)) (Zm _))) (ZR (O' := []) (Z9) (by decide)) Z4) (Zz (ZW (O' := []) (ZD Zc0 (ZB ZA (Zc 1) (Zm _)) (Zc 2)) (by decide) (by decide) (by decide)) (Zz (ZW (O' := []) (Zac Zbb (ZD Zc0 (Zc 3) (Zc 2)) (ZK Zte (Zh (ZD Zc0 (ZB ZA (Zc 0) (Zm _)) (Zc 2)) (Zh (Zc 4) Zp)))) (by decide) (by decide) (by decide)) (ZR (O' := []) (ZK Zip (Zh (Zac Zbb (ZB ZA (Zc 0) (Zm _)) (Zc 4)) (Zh (Zac Zak (ZB ZA (Zc 0) (Zm _)) (Zac Zbb (ZB ZA (Zc 0) (Zm _)) (Zc 5))) Zp))) (by decide))))))))))
noncomputable def Zkn : Sm := ZG (Zt Zfv (Zf (Zt Zgb (Zf (Zj Zv (Zb 0) (Zl 0)) (Zf (Zj Zv (Zb 1) (Zl 0)) Zo))) (Zf (Zj Zah (Zj Zv (Zb 0) (Zl 1)) (Zj Zv (Zb 1) (Zl 1))) Zo)))
noncomputable def ZfU : List V → Hp → Option (V × Hp) := Z6 2 Zkn
noncomputable def Zko : PS := (ZF (Zs Zeu (Zd (Zs Ze5 (Zd (Ze Zr (Za 0) (Zk 0)) (Zd (Ze Zr (Za 1) (Zk 0)) Zn))) (Zd (Ze Zae (Ze Zr (Za 0) (Zk 1)) (Ze Zr (Za 1) (Zk 1))) Zn))))
noncomputable def ZeQ : List T → Option T := Zaa 2 Zko
theorem Zkp : SimF false ZfU ZeQ := Zaf (show S [] [] [] false Zkn Zko from (ZR (O' := []) (ZK Zip (Zh (ZK ZlP (Zh (ZB ZA (Zc 0) (Zm _)) (Zh (ZB ZA (Zc 1) (Zm _)) Zp))) (Zh (Zac Zak (ZB ZA (Zc 0) (Zm _)) (ZB ZA (Zc 1) (Zm _))) Zp))) (by decide)))
noncomputable def ZjT : Sm := ZG (Zt Zfv (Zf (Zj ZaV (Zj Zv (Zb 0) (Zl 0)) (Zt Zc3 (Zf (Zb 1) Zo))) (Zf (Zj ZaV (Zj Zv (Zb 0) (Zl 1)) (Zb 1)) Zo)))
noncomputable def ZfN : List V → Hp → Option (V × Hp) := Z6 2 ZjT
noncomputable def ZjU : PS := (ZF (Zs Zeu (Zd (Ze ZaG (Ze Zr (Za 0) (Zk 0)) (Zs Zc5 (Zd (Za 1) Zn))) (Zd (Ze ZaG (Ze Zr (Za 0) (Zk 1)) (Za 1)) Zn))))
noncomputable def ZeN : List T → Option T := Zaa 2 ZjU
theorem ZjV : SimF false ZfN ZeN := Zaf (show S [] [] [] false ZjT ZjU from (ZR (O' := []) (ZK Zip (Zh (Zac Zbb (ZB ZA (Zc 0) (Zm _)) (Zat ZdK (Zh (Zc 1) Zp))) (Zh (Zac Zbb (ZB ZA (Zc 0) (Zm _)) (Zc 1)) Zp))) (by decide)))
noncomputable def ZjW : Sm := Zw (ZT (ZH (Zj oEq (Zj Zv (Zb 0) (Zl 0)) (Zl 0))) (ZG (eIf (ZH (Zj oLe (Zj Zv (Zb 0) (Zl 1)) (Zb 1))) (Zj Zv (Zb 0) (Zl 1)) (ZY))) Z0) (ZG (Zj Zbj (Zb 1) (Zj oMod (Zj Zbj (Zb 1) (Zj Zv (Zb 0) (Zl 1))) (Zj Zv (Zb 0) (Zl 0)))))
noncomputable def ZjX : List V → Hp → Option (V × Hp) := Z6 2 ZjW
noncomputable def ZjY : PS := (Zu (ZU (ZE (Ze qEq (Ze Zr (Za 0) (Zk 0)) (Zk 0))) (ZF (pIf (ZE (Ze qLe (Ze Zr (Za 0) (Zk 1)) (Za 1))) (Ze Zr (Za 0) (Zk 1)) (ZZ))) ZX) (ZF (Ze ZaX (Za 1) (Ze Za0 (Ze ZaX (Za 1) (Ze Zr (Za 0) (Zk 1))) (Ze Zr (Za 0) (Zk 0))))))
noncomputable def Zg9 : List T → Option T := Zaa 2 ZjY
theorem ZrO : SimF false ZjX Zg9 := Zaf (show S [] [] [] false ZjW ZjY from (Zz (Z2 (ZJ (ZD ZaF (ZB ZA (Zc 0) (Zm _)) (Zm _))) (ZR (O' := []) (Zey (ZJ (ZD Znv (ZB ZA (Zc 0) (Zm _)) (Zc 1))) (E.sh (ZB ZA (Zc 0) (Zm _))) (E.sh (Z9))) (by decide)) Z4) (ZR (O' := []) (ZD Zbr (Zc 1) (ZD Zbf (ZD Zbr (Zc 1) (ZB ZA (Zc 0) (Zm _))) (ZB ZA (Zc 0) (Zm _)))) (by decide))))
noncomputable def Zmr : Sm := ZG (eIf (ZH (Zt Zhk (Zf (Zb 0) (Zf (Zb 1) Zo)))) (Zb 0) (Zb 1))
noncomputable def ZhT : List V → Hp → Option (V × Hp) := Z6 2 Zmr
noncomputable def Zms : PS := (ZF (pIf (ZE (Zs ZfT (Zd (Za 0) (Zd (Za 1) Zn)))) (Za 0) (Za 1)))
noncomputable def Zgf : List T → Option T := Zaa 2 Zms
theorem Zpc : SimF false ZhT Zgf := Zaf (show S [] [] [] false Zmr Zms from (ZR (O' := []) (Zey (ZJ (ZK Zn6 (Zh (Zc 0) (Zh (Zc 1) Zp)))) (E.sh (Zc 0)) (E.sh (Zc 1))) (by decide)))
noncomputable def Zlb : Sm := Zw (ZT (tOr (ZH (Zj oIs (Zb 0) (ZY))) (tOr (ZH (Zj oIs (Zb 1) (ZY))) Zcn)) (ZG (ZY)) Z0) (ZG (Zj Zah (Zb 0) (Zb 1)))
noncomputable def ZdW : List V → Hp → Option (V × Hp) := Z6 2 Zlb
noncomputable def Zlc : PS := (Zu (ZU (bOr (ZE (Ze qIs (Za 0) (ZZ))) (bOr (ZE (Ze qIs (Za 1) (ZZ))) Zcp)) (ZF (ZZ)) ZX) (ZF (Ze Zae (Za 0) (Za 1))))
noncomputable def ZdB : List T → Option T := Zaa 2 Zlc
theorem ZeV : SimF false ZdW ZdB := Zaf (show S [] [] [] false Zlb Zlc from (Zz (Z2 (Zba (ZJ (ZD Zbl (Zc 0) (Z9))) (Zba (ZJ (ZD Zbl (Zc 1) (Z9))) ZcJ)) (ZR (O' := []) (Z9) (by decide)) Z4) (ZR (O' := []) (Zac Zak (Zc 0) (Zc 1)) (by decide))))
noncomputable def ZiR : Sm := ZG (ZaA (ZdN (Zb 0) (Zb 2)) (Zcu 100 101) Zao (Zt ZhT (Zf (Zb 100) (Zf (Zt ZdW (Zf (Zb 1) (Zf (Zb 101) Zo))) Zo))))
noncomputable def ZiS : List V → Hp → Option (V × Hp) := Z6 3 ZiR
noncomputable def ZiT : PS := (ZF (Zam (ZdP (Za 0) (Za 2)) (ZcO 100 101) Zag (ZbE (Zs Zgf (Zd (Za 100) (Zd (Zs ZdB (Zd (Za 1) (Zd (Za 101) Zn))) Zn))))))
noncomputable def ZgR : List T → Option T := Zaa 3 ZiT
theorem ZqU : SimF true ZiS ZgR := Zaf (show S [] [] [] true ZiR ZiT from (Za4 (O' := []) (Zdc (Gs.zip (Zc 0) (Zc 2)) (PutOk.two (by decide) (by decide) (by decide)) (by decide) Zaw (E.flat (ZK Zpc (Zh (Zc 100) (Zh (ZK ZeV (Zh (Zc 1) (Zh (Zc 101) Zp))) Zp))))) (by decide) (by decide)))
noncomputable def Zkq : Sm := ZG (ZaA (Zbz (Zb 0)) (put1 100) Zao (Zt ZiS (Zf (Zb 100) (Zf (Zj Zv (Zb 100) (Zb 1)) (Zf (Zj Zv (Zb 0) (Zb 1)) Zo)))))
noncomputable def Zkr : List V → Hp → Option (V × Hp) := Z6 2 Zkq
noncomputable def Zks : PS := (ZF (Zam (ZaH (Za 0)) (Zab 100) Zag (Zs ZgR (Zd (Za 100) (Zd (Ze Zr (Za 100) (Za 1)) (Zd (Ze Zr (Za 0) (Za 1)) Zn))))))
noncomputable def Zhl : List T → Option T := Zaa 2 Zks
theorem Zn7 : SimF true Zkr Zhl := Zaf (show S [] [] [] true Zkq Zks from (Za4 (O' := []) (Zdc (Gs.seq (Zc 0)) (PutOk.one (by decide)) (by decide) Zaw (Zbw ZqU (Zh (Zc 100) (Zh (ZB ZA (Zc 100) (Zc 1)) (Zh (ZB ZA (Zc 0) (Zc 1)) Zp))))) (by decide) (by decide)))
noncomputable def Zi9 : Sm := ZG (Zt ZgM (Zf (ZaA (ZaM (Zf (Zt ZaE (Zf (Zb 0) Zo)) Zo)) (put1 100) Zao (Zj oLt (Zj Zv (Zj Zv (Zb 0) (Zb 100)) (Zb 100)) (Zl 0))) Zo))
noncomputable def Zja : List V → Hp → Option (V × Hp) := Z6 1 Zi9
noncomputable def Zjb : PS := (ZF (Zs ZgN (Zd (Zam (Zaz (Zd (Zs Zaq (Zd (Za 0) Zn)) Zn)) (Zab 100) Zag (Ze qLt (Ze Zr (Ze Zr (Za 0) (Za 100)) (Za 100)) (Zk 0))) Zn)))
noncomputable def ZgX : List T → Option T := Zaa 1 Zjb
theorem ZnK : SimF false Zja ZgX := Zaf (show S [] [] [] false Zi9 Zjb from (ZR (O' := []) (Zat Zwu (Zh (Zcb (Gs.range (Zh (Zat ZaR (Zh (Zc 0) Zp)) Zp)) (PutOk.one (by decide)) (by decide) Zaw (ZD Zcm (ZB ZA (ZB ZA (Zc 0) (Zc 100)) (Zc 100)) (Zm _))) Zp)) (by decide)))
noncomputable def Zmt : Sm := Zw (ZN 1 (Zb 0)) (Zw (ZaO (ZaM (Zf (Zt ZaE (Zf (Zb 0) Zo)) Zo)) (put1 2) (Zw (ZN 1 (Zt Zkr (Zf (Zb 1) (Zf (Zb 2) Zo)))) (ZT (ZH (Zt Zja (Zf (Zb 1) Zo))) (ZG (ZY)) Z0))) (ZG (Zb 1)))
noncomputable def Zfg : List V → Hp → Option (V × Hp) := Z6 1 Zmt
noncomputable def Zmu : PS := (Zu (ZM 1 (Za 0)) (Zu (ZiF (Zaz (Zd (Zs Zaq (Zd (Za 0) Zn)) Zn)) (Zab 2) (Zu (ZM 1 (Zs Zhl (Zd (Za 1) (Zd (Za 2) Zn)))) (ZU (ZE (Zs ZgX (Zd (Za 1) Zn))) (ZF (ZZ)) ZX))) (ZF (Za 1))))
noncomputable def Zgg : List T → Option T := Zaa 1 Zmu
theorem Zua : SimF true Zfg Zgg := Zaf (show S [] [1] [] true Zmt Zmu from (Zz (ZW (O' := []) (Zc 0) (by decide) (by decide) (by decide)) (Zz (Zwj (Gs.range (Zh (Zat ZaR (Zh (Zc 0) Zp)) Zp)) (PutOk.one (by decide)) (PutOk.one (by decide)) (by decide) (by decide) (by decide) (Zz (ZcC (O' := [1]) (Zbw Zn7 (Zh (Zc 1) (Zh (Zc 2) Zp))) (by decide)) (Z2 (ZJ (ZK ZnK (Zh (Zc 1) Zp))) (Za4 (O' := [1]) (Z9) (by decide) (by decide)) Z4)) (Zz (ZcC (O' := [1]) (Za3 (O' := []) (Zbw Zn7 (Zh (Zc 1) (Zh (Zc 2) Zp))) (by decide)) (by decide)) (Z2 (ZJ (ZK ZnK (Zh (Zc 1) Zp))) (Za4 (O' := [1]) (Z9) (by decide) (by decide)) Z4))) (Za4 (O' := [1]) (E.own (by decide)) (by decide) (by decide)))))
noncomputable def Zkt : Sm := ZG (Zc2 (eIs "int" (Zb 0)) (ZiG (eIs "bool" (Zb 0))))
noncomputable def ZfV : List V → Hp → Option (V × Hp) := Z6 1 Zkt
noncomputable def Zku : PS := (ZF ((Zc4 (pIs "int" (Za 0)) (ZiJ (pIs "bool" (Za 0))))))
noncomputable def ZeR : List T → Option T := Zaa 1 Zku
theorem Zkv : SimF false ZfV ZeR := Zaf (show S [] [] [] false Zkt Zku from (ZR (O' := []) ((Zez (E.sh (ZdO (Zc 0))) (E.sh (Zws (ZdO (Zc 0)))))) (by decide)))
noncomputable def Zld : Sm := Zw (ZT (tOr (Zcc (ZH (eIs "list" (Zb 0)))) (tOr (ZH (Zj oNe (Zt ZaE (Zf (Zb 0) Zo)) (Zb 1))) Zcn)) (ZG (ZbZ false)) Z0) (Zw (ZaO (ZaM (Zf (Zb 1) Zo)) (put1 2) (Zw (ZT (tOr (Zcc (ZH (eIs "list" (Zj Zv (Zb 0) (Zb 2))))) (tOr (ZH (Zj oNe (Zt ZaE (Zf (Zj Zv (Zb 0) (Zb 2)) Zo)) (Zb 1))) Zcn)) (ZG (ZbZ false)) Z0) (Zw (ZaO (Zbz (Zj Zv (Zb 0) (Zb 2))) (put1 3) (ZT (Zav (ZH (Zj ZbC (Zb 3) (ZY))) (Zav (Zcc (ZH (Zt ZfV (Zf (Zb 3) Zo)))) Zao)) (ZG (ZbZ false)) Z0)) (ZT (ZH (Zj oNe (Zj Zv (Zj Zv (Zb 0) (Zb 2)) (Zb 2)) (Zl 0))) (ZG (ZbZ false)) Z0)))) (ZG (ZbZ true)))
noncomputable def Zle : List V → Hp → Option (V × Hp) := Z6 2 Zld
noncomputable def Zlf : PS := (Zu (ZU (bOr (ZbQ (ZE (pIs "list" (Za 0)))) (bOr (ZE (Ze qNe (Zs Zaq (Zd (Za 0) Zn)) (Za 1))) Zcp)) (ZF (Zbv false)) ZX) (Zu (ZaI (Zaz (Zd (Za 1) Zn)) (Zab 2) (Zu (ZU (bOr (ZbQ (ZE (pIs "list" (Ze Zr (Za 0) (Za 2))))) (bOr (ZE (Ze qNe (Zs Zaq (Zd (Ze Zr (Za 0) (Za 2)) Zn)) (Za 1))) Zcp)) (ZF (Zbv false)) ZX) (Zu (ZaI (ZaH (Ze Zr (Za 0) (Za 2))) (Zab 3) (ZU (Zap (ZE (Ze Zbm (Za 3) (ZZ))) (Zap (ZbQ (ZE (Zs ZeR (Zd (Za 3) Zn)))) Zag)) (ZF (Zbv false)) ZX)) (ZU (ZE (Ze qNe (Ze Zr (Ze Zr (Za 0) (Za 2)) (Za 2)) (Zk 0))) (ZF (Zbv false)) ZX)))) (ZF (Zbv true))))
noncomputable def Zhx : List T → Option T := Zaa 2 Zlf
theorem Zsv : SimF false Zle Zhx := Zaf (show S [] [] [] false Zld Zlf from (Zz (Z2 (Zba (ZcB (ZJ (ZdO (Zc 0)))) (Zba (ZJ (ZD ZbA (Zat ZaR (Zh (Zc 0) Zp)) (Zc 1))) ZcJ)) (ZR (O' := []) (E.bool _) (by decide)) Z4) (Zz (Zbg (Gs.range (Zh (Zc 1) Zp)) (PutOk.one (by decide)) (by decide) (by decide) (Zz (Z2 (Zba (ZcB (ZJ (ZdO (ZB ZA (Zc 0) (Zc 2))))) (Zba (ZJ (ZD ZbA (Zat ZaR (Zh (ZB ZA (Zc 0) (Zc 2)) Zp)) (Zc 1))) ZcJ)) (ZR (O' := []) (E.bool _) (by decide)) Z4) (Zz (Zbg (Gs.seq (ZB ZA (Zc 0) (Zc 2))) (PutOk.one (by decide)) (by decide) (by decide) (Z2 (ZaC (ZJ (ZD ZbV (Zc 3) (Z9))) (ZaC (ZcB (ZJ (ZK Zkv (Zh (Zc 3) Zp)))) Zaw)) (ZR (O' := []) (E.bool _) (by decide)) Z4)) (Z2 (ZJ (ZD ZbA (ZB ZA (ZB ZA (Zc 0) (Zc 2)) (Zc 2)) (Zm _))) (ZR (O' := []) (E.bool _) (by decide)) Z4)))) (ZR (O' := []) (E.bool _) (by decide)))))
noncomputable def Zjc : Sm := ZG (ZaK (Zf (Zt ZdW (Zf (Zj Zv (Zb 0) (Zl 0)) (Zf (Zj Zv (Zb 1) (Zl 0)) Zo))) (Zf (Zt ZdW (Zf (Zj Zv (Zb 0) (Zl 1)) (Zf (Zj Zv (Zb 1) (Zl 1)) Zo))) Zo)))
noncomputable def Zjd : List V → Hp → Option (V × Hp) := Z6 2 Zjc
noncomputable def Zje : PS := (ZF (ZaL (Zd (Zs ZdB (Zd (Ze Zr (Za 0) (Zk 0)) (Zd (Ze Zr (Za 1) (Zk 0)) Zn))) (Zd (Zs ZdB (Zd (Ze Zr (Za 0) (Zk 1)) (Zd (Ze Zr (Za 1) (Zk 1)) Zn))) Zn))))
noncomputable def ZgY : List T → Option T := Zaa 2 Zje
theorem Zq9 : SimF false Zjd ZgY := Zaf (show S [] [] [] false Zjc Zje from (ZR (O' := []) (E.tup (Zh (ZK ZeV (Zh (ZB ZA (Zc 0) (Zm _)) (Zh (ZB ZA (Zc 1) (Zm _)) Zp))) (Zh (ZK ZeV (Zh (ZB ZA (Zc 0) (Zm _)) (Zh (ZB ZA (Zc 1) (Zm _)) Zp))) Zp)) (by decide)) (by decide)))
noncomputable def Zkw : Sm := Zw (ZT (ZH (Zj oIs (Zb 0) (ZY))) (ZG (ZY)) Z0) (ZG (Zj ZaV (Zb 0) (Zb 1)))
noncomputable def ZeS : List V → Hp → Option (V × Hp) := Z6 2 Zkw
noncomputable def Zkx : PS := (Zu (ZU (ZE (Ze qIs (Za 0) (ZZ))) (ZF (ZZ)) ZX) (ZF (Ze ZaG (Za 0) (Za 1))))
noncomputable def Zei : List T → Option T := Zaa 2 Zkx
theorem Zhm : SimF false ZeS Zei := Zaf (show S [] [] [] false Zkw Zkx from (Zz (Z2 (ZJ (ZD Zbl (Zc 0) (Z9))) (ZR (O' := []) (Z9) (by decide)) Z4) (ZR (O' := []) (Zac Zbb (Zc 0) (Zc 1)) (by decide))))
noncomputable def ZiU : Sm := Zw (ZT (ZH (Zj oEq (Zb 1) (Zl 0))) (ZG (ZaK (Zf (Zl 0) (Zf (Zl 0) Zo)))) Z0) (Zw (ZN 2 (Zt ZeS (Zf (Zj Zv (Zb 0) (Zl 0)) (Zf (Zb 1) Zo)))) (Zw (ZN 3 (Zt ZeS (Zf (Zj Zv (Zb 0) (Zl 1)) (Zf (Zb 1) Zo)))) (Zw (ZT (ZH (Zj oLt (Zb 1) (Zl 0))) (ZG (ZaK (Zf (Zb 3) (Zf (Zb 2) Zo)))) Z0) (ZG (ZaK (Zf (Zb 2) (Zf (Zb 3) Zo)))))))
noncomputable def ZiV : List V → Hp → Option (V × Hp) := Z6 2 ZiU
noncomputable def ZiW : PS := (Zu (ZU (ZE (Ze qEq (Za 1) (Zk 0))) (ZF (ZaL (Zd (Zk 0) (Zd (Zk 0) Zn)))) ZX) (Zu (ZM 2 (Zs Zei (Zd (Ze Zr (Za 0) (Zk 0)) (Zd (Za 1) Zn)))) (Zu (ZM 3 (Zs Zei (Zd (Ze Zr (Za 0) (Zk 1)) (Zd (Za 1) Zn)))) (Zu (ZU (ZE (Ze qLt (Za 1) (Zk 0))) (ZF (ZaL (Zd (Za 3) (Zd (Za 2) Zn)))) ZX) (ZF (ZaL (Zd (Za 2) (Zd (Za 3) Zn))))))))
noncomputable def ZgS : List T → Option T := Zaa 2 ZiW
theorem ZqV : SimF false ZiV ZgS := Zaf (show S [] [] [] false ZiU ZiW from (Zz (Z2 (ZJ (ZD ZaF (Zc 1) (Zm _))) (ZR (O' := []) (E.tup (Zh (Zm _) (Zh (Zm _) Zp)) (by decide)) (by decide)) Z4) (Zz (ZW (O' := []) (ZK Zhm (Zh (ZB ZA (Zc 0) (Zm _)) (Zh (Zc 1) Zp))) (by decide) (by decide) (by decide)) (Zz (ZW (O' := []) (ZK Zhm (Zh (ZB ZA (Zc 0) (Zm _)) (Zh (Zc 1) Zp))) (by decide) (by decide) (by decide)) (Zz (Z2 (ZJ (ZD Zcm (Zc 1) (Zm _))) (ZR (O' := []) (E.tup (Zh (Zc 3) (Zh (Zc 2) Zp)) (by decide)) (by decide)) Z4) (ZR (O' := []) (E.tup (Zh (Zc 2) (Zh (Zc 3) Zp)) (by decide)) (by decide)))))))
noncomputable def Zjt : Sm := Zw (ZN 2 (ZaK (Zf (Zj Zv (Zb 0) (Zl 0)) (Zf (Zj Zv (Zb 0) (Zl 0)) Zo)))) (Zw (ZaO (ZdN (Zdj (Zb 0) 1) (Zb 1)) (Zcu 3 4) (ZN 2 (Zt Zjd (Zf (Zb 2) (Zf (Zt ZiV (Zf (Zb 4) (Zf (Zb 3) Zo))) Zo))))) (ZG (Zb 2)))
noncomputable def Zju : List V → Hp → Option (V × Hp) := Z6 2 Zjt
noncomputable def Zjv : PS := (Zu (ZM 2 (ZaL (Zd (Ze Zr (Za 0) (Zk 0)) (Zd (Ze Zr (Za 0) (Zk 0)) Zn)))) (Zu (ZaI (ZdP (ZcG (Za 0) 1) (Za 1)) (ZcO 3 4) (ZM 2 (Zs ZgY (Zd (Za 2) (Zd (Zs ZgS (Zd (Za 4) (Zd (Za 3) Zn))) Zn))))) (ZF (Za 2))))
noncomputable def Zg0 : List T → Option T := Zaa 2 Zjv
theorem Zrp : SimF false Zju Zg0 := Zaf (show S [] [] [] false Zjt Zjv from (Zz (ZW (O' := []) (E.tup (Zh (ZB ZA (Zc 0) (Zm _)) (Zh (ZB ZA (Zc 0) (Zm _)) Zp)) (by decide)) (by decide) (by decide) (by decide)) (Zz (Zbg (Gs.zip (Zfr (Zc 0)) (Zc 1)) (PutOk.two (by decide) (by decide) (by decide)) (by decide) (by decide) (ZW (O' := []) (ZK Zq9 (Zh (Zc 2) (Zh (ZK ZqV (Zh (Zc 4) (Zh (Zc 3) Zp))) Zp))) (by decide) (by decide) (by decide))) (ZR (O' := []) (Zc 2) (by decide)))))
noncomputable def Zlg : Sm := Zw (ZN 2 (ZaK (Zf (Zl 0) (Zf (Zj Zv (Zb 0) (Zl 0)) Zo)))) (Zw (ZaO (ZdN (Zdj (Zb 0) 1) (Zb 1)) (Zcu 3 4) (ZN 2 (Zt ZfU (Zf (Zb 2) (Zf (Zt ZfN (Zf (Zb 4) (Zf (Zb 3) Zo))) Zo))))) (ZG (Zb 2)))
noncomputable def ZeW : List V → Hp → Option (V × Hp) := Z6 2 Zlg
noncomputable def Zow : PS := (Zu (ZM 2 (ZaL (Zd (Zk 0) (Zd (Ze Zr (Za 0) (Zk 0)) Zn)))) (Zu (ZaI (ZdP (ZcG (Za 0) 1) (Za 1)) (ZcO 3 4) (ZM 2 (Zs ZeQ (Zd (Za 2) (Zd (Zs ZeN (Zd (Za 4) (Zd (Za 3) Zn))) Zn))))) (ZF (Za 2))))
noncomputable def ZfZ : List T → Option T := Zaa 2 Zow
theorem Zhy : SimF false ZeW ZfZ := Zaf (show S [] [] [] false Zlg Zow from (Zz (ZW (O' := []) (E.tup (Zh (Zm _) (Zh (ZB ZA (Zc 0) (Zm _)) Zp)) (by decide)) (by decide) (by decide) (by decide)) (Zz (Zbg (Gs.zip (Zfr (Zc 0)) (Zc 1)) (PutOk.two (by decide) (by decide) (by decide)) (by decide) (by decide) (ZW (O' := []) (ZK Zkp (Zh (Zc 2) (Zh (ZK ZjV (Zh (Zc 4) (Zh (Zc 3) Zp))) Zp))) (by decide) (by decide) (by decide))) (ZR (O' := []) (Zc 2) (by decide)))))
noncomputable def ZlT : Sm := ZG (Zc2 (Zj ZbC (Zb 0) (ZY)) (Zc2 (Zj ZbC (Zb 1) (ZY)) (Zj oGt (Zb 0) (Zb 1))))
noncomputable def ZlU : List V → Hp → Option (V × Hp) := Z6 2 ZlT
noncomputable def ZlV : PS := (ZF ((Zc4 (Ze Zbm (Za 0) (ZZ)) (Zc4 (Ze Zbm (Za 1) (ZZ)) (Ze qGt (Za 0) (Za 1))))))
noncomputable def Ze6 : List T → Option T := Zaa 2 ZlV
theorem Ztf : SimF false ZlU Ze6 := Zaf (show S [] [] [] false ZlT ZlV from (ZR (O' := []) ((Zez (E.sh (ZD ZbV (Zc 0) (Z9))) (Zez (E.sh (ZD ZbV (Zc 1) (Z9))) (E.sh (ZD Zdn (Zc 0) (Zc 1)))))) (by decide)))
noncomputable def Zjw : Sm := ZG (Zj Zah (Zb7 (Zf (ZaK (Zf (Zl 0) (Zf (Zl 0) Zo))) Zo)) (Zb 0))
noncomputable def ZeK : List V → Hp → Option (V × Hp) := Z6 1 Zjw
noncomputable def Zjx : PS := (ZF (Ze Zae (ZbF (Zd (ZaL (Zd (Zk 0) (Zd (Zk 0) Zn))) Zn)) (Za 0)))
noncomputable def ZeL : List T → Option T := Zaa 1 Zjx
theorem Zjy : SimF false ZeK ZeL := Zaf (show S [] [] [] false Zjw Zjx from (ZR (O' := []) (Zac Zak (E.list (Zh (E.tup (Zh (Zm _) (Zh (Zm _) Zp)) (by decide)) Zp) (by decide)) (Zc 0)) (by decide)))
noncomputable def Zjf : Sm := Zw (ZN 3 (Zj Zv (Zb 1) (Zb 2))) (Zw (ZaO (ZiC (Zb 1)) (Zcu 4 5) (ZT (Zav (ZH (Zj ZbC (Zb 3) (ZY))) (Zav (ZH (Zj oEq (Zt ZdW (Zf (Zj Zv (Zj Zv (Zb 0) (Zb 2)) (Zb 4)) (Zf (Zj Zv (Zj Zv (Zb 0) (Zb 4)) (Zb 2)) Zo))) (Zl 0))) Zao)) (ZN 3 (Zt Zhw (Zf (Zb 3) (Zf (Zt ZfU (Zf (Zb 5) (Zf (ZaK (Zf (Zl 0) (Zf (Zj Zv (Zj Zv (Zb 0) (Zb 2)) (Zb 4)) Zo))) Zo))) Zo)))) Z0)) (ZG (Zb 3)))
noncomputable def ZfF : List V → Hp → Option (V × Hp) := Z6 3 Zjf
noncomputable def Zjg : PS := (Zu (ZM 3 (Ze Zr (Za 1) (Za 2))) (Zu (ZaI (ZiE (Za 1)) (ZcO 4 5) (ZU (Zap (ZE (Ze Zbm (Za 3) (ZZ))) (Zap (ZE (Ze qEq (Zs ZdB (Zd (Ze Zr (Ze Zr (Za 0) (Za 2)) (Za 4)) (Zd (Ze Zr (Ze Zr (Za 0) (Za 4)) (Za 2)) Zn))) (Zk 0))) Zag)) (ZM 3 (Zs ZfY (Zd (Za 3) (Zd (Zs ZeQ (Zd (Za 5) (Zd (ZaL (Zd (Zk 0) (Zd (Ze Zr (Ze Zr (Za 0) (Za 2)) (Za 4)) Zn))) Zn))) Zn)))) ZX)) (ZF (Za 3))))
noncomputable def Zee : List T → Option T := Zaa 3 Zjg
theorem ZnL : SimF false ZfF Zee := Zaf (show S [] [] [] false Zjf Zjg from (Zz (ZW (O' := []) (ZB ZA (Zc 1) (Zc 2)) (by decide) (by decide) (by decide)) (Zz (Zbg (Zu6 (Zc 1)) (PutOk.two (by decide) (by decide) (by decide)) (by decide) (by decide) (Z2 (ZaC (ZJ (ZD ZbV (Zc 3) (Z9))) (ZaC (ZJ (ZD ZaF (ZK ZeV (Zh (ZB ZA (ZB ZA (Zc 0) (Zc 2)) (Zc 4)) (Zh (ZB ZA (ZB ZA (Zc 0) (Zc 4)) (Zc 2)) Zp))) (Zm _))) Zaw)) (ZW (O' := []) (ZK Zov (Zh (Zc 3) (Zh (ZK Zkp (Zh (Zc 5) (Zh (E.tup (Zh (Zm _) (Zh (ZB ZA (ZB ZA (Zc 0) (Zc 2)) (Zc 4)) Zp)) (by decide)) Zp))) Zp))) (by decide) (by decide) (by decide)) Z4)) (ZR (O' := []) (Zc 3) (by decide)))))
noncomputable def ZfI : Sm := Zw (ZT (ZH (Zj oIs (Zb 0) (ZY))) (ZG (ZY)) Z0) (Zw (ZN 1 (Zt ZeK (Zf (Zj Zv (Zb 0) (Zl 1)) Zo))) (Zw (ZN 2 (ZaA (ZaM (Zf (Zl 1) (Zf (Zt ZaE (Zf (Zb 1) Zo)) Zo))) (put1 100) Zao (Zt ZfF (Zf (Zj Zv (Zb 0) (Zl 0)) (Zf (Zb 1) (Zf (Zb 100) Zo)))))) (Zw (ZT (ZH (Zj oIn (ZY) (Zb 2))) (ZG (ZY)) Z0) (ZG (ZaK (Zf (Zj Zv (Zb 0) (Zl 0)) (Zf (Zb 2) Zo)))))))
noncomputable def ZdS : List V → Hp → Option (V × Hp) := Z6 1 ZfI
noncomputable def ZfJ : PS := (Zu (ZU (ZE (Ze qIs (Za 0) (ZZ))) (ZF (ZZ)) ZX) (Zu (ZM 1 (Zs ZeL (Zd (Ze Zr (Za 0) (Zk 1)) Zn))) (Zu (ZM 2 (Zam (Zaz (Zd (Zk 1) (Zd (Zs Zaq (Zd (Za 1) Zn)) Zn))) (Zab 100) Zag (Zs Zee (Zd (Ze Zr (Za 0) (Zk 0)) (Zd (Za 1) (Zd (Za 100) Zn)))))) (Zu (ZU (ZE (Ze qIn (ZZ) (Za 2))) (ZF (ZZ)) ZX) (ZF (ZaL (Zd (Ze Zr (Za 0) (Zk 0)) (Zd (Za 2) Zn))))))))
noncomputable def Zdx : List T → Option T := Zaa 1 ZfJ
theorem Zrq : SimF false ZdS Zdx := Zaf (show S [] [] [] false ZfI ZfJ from (Zz (Z2 (ZJ (ZD Zbl (Zc 0) (Z9))) (ZR (O' := []) (Z9) (by decide)) Z4) (Zz (ZW (O' := []) (ZK Zjy (Zh (ZB ZA (Zc 0) (Zm _)) Zp)) (by decide) (by decide) (by decide)) (Zz (ZW (O' := []) (Zcb (Gs.range (Zh (Zm _) (Zh (Zat ZaR (Zh (Zc 1) Zp)) Zp))) (PutOk.one (by decide)) (by decide) Zaw (ZK ZnL (Zh (ZB ZA (Zc 0) (Zm _)) (Zh (Zc 1) (Zh (Zc 100) Zp))))) (by decide) (by decide) (by decide)) (Zz (Z2 (ZJ (ZD ZfD (Z9) (Zc 2))) (ZR (O' := []) (Z9) (by decide)) Z4) (ZR (O' := []) (E.tup (Zh (ZB ZA (Zc 0) (Zm _)) (Zh (Zc 2) Zp)) (by decide)) (by decide)))))))
noncomputable def Ziq : Sm := Zw (ZT (ZH (Zj oIs (Zb 0) (ZY))) (ZG (ZY)) Z0) (Zw (ZN 1 (Zt Zfg (Zf (Zj Zv (Zb 0) (Zl 0)) Zo))) (Zw (ZT (ZH (Zj oIs (Zb 1) (ZY))) (ZG (ZY)) Z0) (ZG (ZaK (Zf (Zb 1) (Zf (Zj Zv (Zb 0) (Zl 1)) Zo))))))
noncomputable def Zd3 : List V → Hp → Option (V × Hp) := Z6 1 Ziq
noncomputable def Zir : PS := (Zu (ZU (ZE (Ze qIs (Za 0) (ZZ))) (ZF (ZZ)) ZX) (Zu (ZM 1 (Zs Zgg (Zd (Ze Zr (Za 0) (Zk 0)) Zn))) (Zu (ZU (ZE (Ze qIs (Za 1) (ZZ))) (ZF (ZZ)) ZX) (ZF (ZaL (Zd (Za 1) (Zd (Ze Zr (Za 0) (Zk 1)) Zn)))))))
noncomputable def Zd4 : List T → Option T := Zaa 1 Zir
noncomputable def Zna : Sm := ZG (Zt ZdS (Zf (Zt Zd3 (Zf (Zb 0) Zo)) Zo))
noncomputable def Zfw : List V → Hp → Option (V × Hp) := Z6 1 Zna
noncomputable def Zis : PS := (ZF (Zs Zdx (Zd (Zs Zd4 (Zd (Za 0) Zn)) Zn)))
noncomputable def Zgo : T → Bool
 | .none => true
 | .tup [_, .lst ts] => T.flats ts
 | _ => false
noncomputable def Zev : List T → Option T := fun ts => (Zaa 1 Zis ts).bind fun t => if Zgo t then some t else none
theorem Zqp {H : Hp} {a : V} {t : T} {F : List Nat} (hp : 0 < H.length) (r : RF H a t F) : St ⟨H, [], fun x => x ∈ F⟩ [] (fun i => [a][i]?) (fun i => [t][i]?) H (fun _ => F) := by
 refine ⟨fun i u e => ?_, fun i u e x m => .inr m, fun i hi => (nomatch hi), Nat.le_refl _, fun x _ _ => rfl, hp, by simp⟩
 cases i with
 | zero => cases e; exact ⟨a, rfl, r⟩
 | succ i => simp at e
theorem ZpN {ρ : Lc} {H : Hp} {a : V} {t : T} {F : List Nat} (e : ρ 0 = some a) (r : RF H a t F) (ht : t ≠ .none) : ZT (ZH (Zj oIs (Zb 0) (ZY))) (ZG (ZY)) Z0 ρ H = some (none, ρ, H) := by
 cases r <;> first | exact absurd rfl ht | simp [ZT, ZH, Zj, Zb, e, ZY, oIs, ZcL, Z0]
theorem ZpO {σ : TL} {t : T} (e : σ 0 = some t) (ht : t ≠ .none) : ZU (ZE (Ze qIs (Za 0) (ZZ))) (ZF (ZZ)) ZX σ = some (none, σ) := by
 cases t <;> first | exact absurd rfl ht | simp [ZU, ZE, Ze, Za, e, ZZ, qIs, ZbW, ZX]
theorem ZpP {σ : TL} (e : σ 0 = some .none) : ZU (ZE (Ze qIs (Za 0) (ZZ))) (ZF (ZZ)) ZX σ = some (some .none, σ) := by
 simp [ZU, ZE, Ze, Za, e, ZZ, qIs, ZbW, ZF]
theorem Znx {a b : PS} {σ σ1 : TL} (h : a σ = some (none, σ1)) : Zu a b σ = b σ1 := by simp only [Zu, h, Option.bind_some]
theorem ZqO {a b : PS} {σ σ1 : TL} {t : T} (h : a σ = some (some t, σ1)) : Zu a b σ = some (some t, σ1) := by simp only [Zu, h, Option.bind_some]
theorem ZeC {a b : Sm} {ρ ρ1 : Lc} {H H1 : Hp} (h : a ρ H = some (none, ρ1, H1)) : Zw a b ρ H = b ρ1 H1 := by simp only [Zw, h, Option.bind_some]
theorem ZwG {a b : Sm} {ρ ρ1 : Lc} {H H1 : Hp} {v : V} (h : a ρ H = some (some v, ρ1, H1)) : Zw a b ρ H = some (some v, ρ1, H1) := by simp only [Zw, h, Option.bind_some]
theorem Zsw {H : Hp} {a : V} {t u : T} {F : List Nat} (hp : 0 < H.length) (r : RF H a t F) (h : Zd4 [t] = some u) :
  (u = .none ∧ ∃ X, Zd3 [a] H = some (.none, H ++ X)) ∨ ∃ w0 v1 u0 u1 X F0 F1, u = .tup [u0, u1] ∧ Zd3 [a] H = some (.tup [w0, v1], H ++ X) ∧ RF (H ++ X) w0 u0 F0 ∧ F0.Nodup ∧ (∀ x ∈ F0, H.length ≤ x) ∧ RF (H ++ X) v1 u1 F1 := by
 have st := Zqp hp r
 unfold Zd4 Zaa at h
 simp only [List.length_cons, List.length_nil, Nat.zero_add, if_true] at h
 obtain ⟨r1, h, h0⟩ := Zz1.mp h
 unfold Zir at h
 by_cases hn : t = .none
 ·subst hn
  rw [ZqO (ZpP rfl)] at h
  cases h
  cases h0
  cases r
  exact .inl ⟨rfl, [], by simp [Zd3, Z6, Ziq, Zw, ZT, ZH, Zj, Zb, ZY, oIs, ZcL, ZG]⟩
 ·rw [Znx (ZpO (σ := fun i => [t][i]?) rfl hn)] at h
  have ev : ∀ b : Sm, Zw (ZT (ZH (Zj oIs (Zb 0) (ZY))) (ZG (ZY)) Z0) b (fun i => [a][i]?) H = b (fun i => [a][i]?) H := fun b => ZeC (ZpN rfl r hn)
  obtain ⟨r2, h1', h⟩ := Zz0.mp h
  obtain ⟨u0, h1, e1⟩ := Zz1.mp h1'
  subst e1
  have x1 : E [] [] true (Zt Zfg (Zf (Zj Zv (Zb 0) (Zl 0)) Zo)) (Zs Zgg (Zd (Ze Zr (Za 0) (Zk 0)) Zn)) := Zbw Zua (Zh (ZB ZA (Zc 0) (Zm _)) Zp)
  obtain ⟨w0, X, F0, a1, a2, a3, a4⟩ := x1 _ _ _ _ _ _ st h1
  have new : ∀ x ∈ F0, H.length ≤ x := fun x m => (a3 x m).nil
  have e2 : ZN 1 (Zt Zfg (Zf (Zj Zv (Zb 0) (Zl 0)) Zo)) (fun i => [a][i]?) H = some (none, upd (fun i => [a][i]?) 1 w0, H ++ X) := by simp only [ZN, a1, Option.map_some]
  simp only at h
  have ev2 : ∀ b : Sm, Zw (ZN 1 (Zt Zfg (Zf (Zj Zv (Zb 0) (Zl 0)) Zo))) b (fun i => [a][i]?) H = b (upd (fun i => [a][i]?) 1 w0) (H ++ X) := fun b => ZeC e2
  have fin : ∀ o, Zw (ZT (ZH (Zj oIs (Zb 1) (ZY))) (ZG (ZY)) Z0) (ZG (ZaK (Zf (Zb 1) (Zf (Zj Zv (Zb 0) (Zl 1)) Zo)))) (upd (fun i => [a][i]?) 1 w0) (H ++ X) = some o → Zd3 [a] H = some (o.1.getD .none, o.2.2) := fun o ho => by
   unfold Zd3 Z6 Ziq
   simp only [List.length_cons, List.length_nil, Nat.zero_add, if_true]
   rw [ev, ev2, ho]
   rfl
  by_cases hu : u0 = .none
  ·subst hu
   cases a2
   obtain ⟨r3, h2, h⟩ := Zz0.mp h
   have : r3 = (some .none, Z7 (fun i => [t][i]?) 1 .none) := by
    have := h2
    simp [ZU, ZE, Ze, Za, Z7, ZZ, qIs, ZbW, ZF] at this
    exact this.symm
   subst this
   cases h
   cases h0
   refine .inl ⟨rfl, X, fin (some .none, upd (fun i => [a][i]?) 1 .none, H ++ X) ?_⟩
   exact ZwG (by simp [ZT, ZH, Zj, Zb, upd, ZY, oIs, ZcL, ZG])
  ·have e3 : ZT (ZH (Zj oIs (Zb 1) (ZY))) (ZG (ZY)) Z0 (upd (fun i => [a][i]?) 1 w0) (H ++ X) = some (none, upd (fun i => [a][i]?) 1 w0, H ++ X) := by
    cases a2 <;> first | exact (hu rfl).elim | simp [ZT, ZH, Zj, Zb, upd, ZY, oIs, ZcL, Z0]
   have e4 : ZU (ZE (Ze qIs (Za 1) (ZZ))) (ZF (ZZ)) ZX (Z7 (fun i => [t][i]?) 1 u0) = some (none, Z7 (fun i => [t][i]?) 1 u0) := by
    cases u0 <;> first | exact (hu rfl).elim | simp [ZU, ZE, Ze, Za, Z7, ZZ, qIs, ZbW, ZX]
   rw [Znx e4] at h
   obtain ⟨u', h5, h6⟩ := Zz1.mp h
   subst h6
   obtain ⟨us, h7, h8⟩ := Zz1.mp h5
   subst h8
   obtain ⟨q0, g1, h9⟩ := Zz0.mp h7
   obtain ⟨qs, g2, h10⟩ := Zz0.mp h9
   cases h10
   obtain ⟨q1, g3, g6⟩ := Zz0.mp g2
   obtain ⟨qs', g4, g7⟩ := Zz0.mp g6
   cases g7
   cases g4
   have eq0 : q0 = u0 := by
    have : Z7 (fun i => [t][i]?) 1 u0 1 = some q0 := g1
    simp [Z7] at this
    exact this.symm
   subst eq0
   have g5 : Zr t (.int 1) = some q1 := by
    have := g3
    simpa [Ze, Za, Z7, Zk] using this
   obtain ⟨v1, F1, b1, b2, b3⟩ := ZA _ _ _ _ _ _ _ _ (r.ext X) (RF.int (H := H ++ X) 1) g5
   cases h0
   refine .inr ⟨w0, v1, q0, q1, X, F0, F1, rfl, fin (some (.tup [w0, v1]), upd (fun i => [a][i]?) 1 w0, H ++ X) ?_, a2, a4 rfl, new, b2⟩
   rw [ZeC e3]
   simp [ZG, ZaK, Zf, Zb, upd, Zj, Zl, b1, Zo, Za7]
theorem ZoN {put : T → TL → Option TL} {f : PE} {σ : TL} : ∀ {ts us : List T}, Zcs put Zag f σ ts = some us → T.flats us = true → Zcs put Zag (ZbE f) σ ts = some us
 | [], _, h, _ => h
 | t :: ts, us, h, hf => by
  obtain ⟨σ1, h1, h⟩ := Zz0.mp h
  simp only [Zag, Option.bind_some, if_true] at h
  obtain ⟨x, h2, h⟩ := Zz0.mp h
  obtain ⟨xs, h3, h⟩ := Zz1.mp h
  subst h
  simp only [T.flats, Bool.and_eq_true] at hf
  simp only [Zcs, h1, Option.bind_some, Zag, if_true, ZbE, h2, hf.1, ZoN h3 hf.2, Option.map_some]
theorem Zox {H : Hp} {a : V} {t u : T} {F : List Nat} (hp : 0 < H.length) (r : RF H a t F) (h : Zdx [t] = some u) (ok : Zgo u = true) :
  (u = .none ∧ ∃ X, ZdS [a] H = some (.none, H ++ X)) ∨ ∃ w0 w1 u0 u1 X F1, u = .tup [u0, u1] ∧ Zv a (.int 0) H = some (w0, H) ∧ Zr t (.int 0) = some u0 ∧ ZdS [a] H = some (.tup [w0, w1], H ++ X) ∧ RF (H ++ X) w1 u1 F1 ∧ F1.Nodup ∧ (∀ x ∈ F1, H.length ≤ x) := by
 have st := Zqp hp r
 have hfull := h
 unfold Zdx Zaa at h
 simp only [List.length_cons, List.length_nil, Nat.zero_add, if_true] at h
 obtain ⟨r1, h, h0⟩ := Zz1.mp h
 unfold ZfJ at h
 by_cases hn : t = .none
 ·subst hn
  rw [ZqO (ZpP rfl)] at h
  cases h
  cases h0
  cases r
  exact .inl ⟨rfl, [], by simp [ZdS, Z6, ZfI, Zw, ZT, ZH, Zj, Zb, ZY, oIs, ZcL, ZG]⟩
 ·rw [Znx (ZpO (σ := fun i => [t][i]?) rfl hn)] at h
  have ev : ∀ b : Sm, Zw (ZT (ZH (Zj oIs (Zb 0) (ZY))) (ZG (ZY)) Z0) b (fun i => [a][i]?) H = b (fun i => [a][i]?) H := fun b => ZeC (ZpN rfl r hn)
  obtain ⟨r2, h1', h⟩ := Zz0.mp h
  obtain ⟨t1, h1, e1⟩ := Zz1.mp h1'
  subst e1
  have x1 : E [] ([0] ++ []) false (Zt ZeK (Zf (Zj Zv (Zb 0) (Zl 1)) Zo)) (Zs ZeL (Zd (Ze Zr (Za 0) (Zk 1)) Zn)) := ZK Zjy (Zh (ZB ZA (Zc 0) (Zm _)) Zp)
  obtain ⟨v1, X1, Fr, a1, a2, a3, _⟩ := x1 _ _ _ _ _ _ st h1
  have st1 := (st.ext X1).put (j := 1) (by simp) a2 (fun x m => st.from_src (a3 x m)) (fun i hi => (nomatch hi))
  have ev1 : ∀ b : Sm, Zw (ZN 1 (Zt ZeK (Zf (Zj Zv (Zb 0) (Zl 1)) Zo))) b (fun i => [a][i]?) H = b (upd (fun i => [a][i]?) 1 v1) (H ++ X1) := fun b => ZeC (by simp only [ZN, a1, Option.map_some])
  simp only at h
  obtain ⟨r3, h2', h⟩ := Zz0.mp h
  obtain ⟨t2, h2, e2⟩ := Zz1.mp h2'
  subst e2
  simp only at h
  generalize hσ : Z7 (fun i => [t][i]?) 1 t1 = σ1 at *
  generalize hρ : upd (fun i => [a][i]?) 1 v1 = ρ1 at *
  have hρ0 : ρ1 0 = some a := by rw [← hρ]; simp [upd]
  have hσ0 : σ1 0 = some t := by rw [← hσ]; simp [Z7]
  have x2 : ∀ ts, T.flats ts = true → Zam (Zaz (Zd (Zk 1) (Zd (Zs Zaq (Zd (Za 1) Zn)) Zn))) (Zab 100) Zag (Zs Zee (Zd (Ze Zr (Za 0) (Zk 0)) (Zd (Za 1) (Zd (Za 100) Zn)))) σ1 = some (.lst ts) → ∃ w X G, ZaA (ZaM (Zf (Zl 1) (Zf (Zt ZaE (Zf (Zb 1) Zo)) Zo))) (put1 100) Zao (Zt ZfF (Zf (Zj Zv (Zb 0) (Zl 0)) (Zf (Zb 1) (Zf (Zb 100) Zo)))) ρ1 (H ++ X1) = some (w, H ++ X1 ++ X) ∧ RF (H ++ X1 ++ X) w (.lst ts) G ∧ G.Nodup ∧ ∀ x ∈ G, (H ++ X1).length ≤ x := fun ts hf he => by
   have y : E [] [] true (ZaA (ZaM (Zf (Zl 1) (Zf (Zt ZaE (Zf (Zb 1) Zo)) Zo))) (put1 100) Zao (Zt ZfF (Zf (Zj Zv (Zb 0) (Zl 0)) (Zf (Zb 1) (Zf (Zb 100) Zo))))) (Zam (Zaz (Zd (Zk 1) (Zd (Zs Zaq (Zd (Za 1) Zn)) Zn))) (Zab 100) Zag (ZbE (Zs Zee (Zd (Ze Zr (Za 0) (Zk 0)) (Zd (Za 1) (Zd (Za 100) Zn)))))) := Zdc (Gs.range (Zh (Zm _) (Zh (Zat ZaR (Zh (Zc 1) Zp)) Zp))) (PutOk.one (by decide)) (by decide) Zaw (E.flat (ZK ZnL (Zh (ZB ZA (Zc 0) (Zm _)) (Zh (Zc 1) (Zh (Zc 100) Zp)))))
   have he2 : Zam (Zaz (Zd (Zk 1) (Zd (Zs Zaq (Zd (Za 1) Zn)) Zn))) (Zab 100) Zag (ZbE (Zs Zee (Zd (Ze Zr (Za 0) (Zk 0)) (Zd (Za 1) (Zd (Za 100) Zn))))) σ1 = some (.lst ts) := by
    obtain ⟨zs, g1, g2⟩ := Zz0.mp he
    split at g2
    ·rename_i hl
     obtain ⟨us, g3, g4⟩ := Zz1.mp g2
     cases g4
     simp only [Zam, g1, Option.bind_some]
     rw [if_pos hl, ZoN g3 hf]
     rfl
    ·cases g2
   obtain ⟨w, X, G, b1, b2, b3, b4⟩ := y _ _ _ _ _ _ st1 he2
   exact ⟨w, X, G, b1, b2, b4 rfl, fun x m => (b3 x m).nil⟩
  obtain ⟨ts, rfl⟩ : ∃ ts, t2 = .lst ts := by
   obtain ⟨zs, g1, g2⟩ := Zz0.mp h2
   split at g2
   ·obtain ⟨us, g3, g4⟩ := Zz1.mp g2
    exact ⟨us, g4.symm⟩
   ·cases g2
  by_cases hu : u = .none
  ·subst hu
   obtain ⟨v, X, G, c1, c2, _⟩ := Zrq H [a] [t] .none F hp (RFs.one r) hfull
   cases c2
   exact .inl ⟨rfl, X, c1⟩
  ·obtain ⟨r4, h3, h⟩ := Zz0.mp h
   obtain ⟨b, h4, h5⟩ := Zz0.mp h3
   cases b with
   | true =>
    simp only [if_true] at h5
    cases h5
    cases h
    cases h0
    exact absurd rfl hu
   | false =>
    cases h5
    simp only at h
    obtain ⟨u', h6, h7⟩ := Zz1.mp h
    subst h7
    obtain ⟨us, h8, h9⟩ := Zz1.mp h6
    subst h9
    obtain ⟨q0, g1, h10⟩ := Zz0.mp h8
    obtain ⟨qs, g2, h11⟩ := Zz0.mp h10
    cases h11
    obtain ⟨q1, g3, g6⟩ := Zz0.mp g2
    obtain ⟨qs', g4, g7⟩ := Zz0.mp g6
    cases g7
    cases g4
    have eq1 : q1 = .lst ts := by
     have : Z7 σ1 2 (.lst ts) 2 = some q1 := g3
     simp [Z7] at this
     exact this.symm
    subst eq1
    have g5 : Zr t (.int 0) = some q0 := by
     have := g1
     simpa [Ze, Za, Z7, Zk, hσ0] using this
    cases h0
    obtain ⟨w, X, G, b1, b2, b3, b4⟩ := x2 ts ok h2
    obtain ⟨w0, F0, i1, i2, i3⟩ := ZA _ _ _ _ _ _ _ _ r (RF.int (H := H) 0) g5
    have st2 := (st1.ext X).put (j := 2) (by simp) b2 (fun x m => .inl (by have := b4 x m; simp at this; show H.length ≤ x; omega)) (fun i hi => (nomatch hi))
    have bt : Bt [] (ZH (Zj oIn (ZY) (Zb 2))) (ZE (Ze qIn (ZZ) (Za 2))) := ZJ (ZD ZfD Z9 (Zc 2))
    obtain ⟨Y, k1⟩ := bt _ _ _ _ _ _ st2 h4
    refine .inr ⟨w0, w, q0, .lst ts, X1 ++ X ++ Y, G, rfl, i1, g5, ?_, by rw [← List.append_assoc, ← List.append_assoc]; exact b2.ext Y, b3, fun x m => by have := b4 x m; simp at this; omega⟩
    unfold ZdS Z6 ZfI
    simp only [List.length_cons, List.length_nil, Nat.zero_add, if_true]
    rw [ev, ev1, ZeC (ρ1 := upd ρ1 2 w) (H1 := H ++ X1 ++ X) (by simp only [ZN, b1, Option.map_some]), ZeC (ρ1 := upd ρ1 2 w) (H1 := H ++ X1 ++ X ++ Y) (by simp only [ZT, k1, Option.bind_some]; rfl)]
    have hidx := (ZlI i1 (X1 ++ X ++ Y)).2
    have hr : (upd ρ1 2 w) 0 = some a := by simp [upd, hρ0]
    have h2w : (upd ρ1 2 w) 2 = some w := by simp [upd]
    simp only [← List.append_assoc] at hidx ⊢
    generalize H ++ X1 ++ X ++ Y = K at *
    have e5 : ZaK (Zf (Zj Zv (Zb 0) (Zl 0)) (Zf (Zb 2) Zo)) (upd ρ1 2 w) K = some (.tup [w0, w], K) := by
     simp only [ZaK, Zf, Zj, Zb, hr, h2w, Zl, Zo, Option.map_some, Option.bind_some, hidx]
     rw [if_pos (by rw [Za7]; simp)]
    simp only [ZG, e5, Option.map_some]
    rfl
theorem Zqq : SimF true Zfw Zev := fun H vs ts t F1 hp r h => by
 obtain ⟨t', h1, h2⟩ := Zz0.mp h
 by_cases ok : Zgo t' = true
 ·rw [if_pos ok] at h2
  cases h2
  unfold Zaa at h1
  split at h1
  ·rename_i hl
   obtain ⟨t0, rfl⟩ : ∃ t0, ts = [t0] := List.length_eq_one_iff.mp hl
   obtain ⟨a, rfl, r0⟩ := r.one_inv
   obtain ⟨r1, h3, h4⟩ := Zz1.mp h1
   obtain ⟨u, h5, h6⟩ := Zz1.mp h3
   subst h6
   cases h4
   obtain ⟨us, h7, h8⟩ := Zz0.mp h5
   obtain ⟨q0, g1, h9⟩ := Zz0.mp h7
   obtain ⟨qs, g2, h10⟩ := Zz0.mp h9
   cases h10
   cases g2
   have g3 : Zd4 [t0] = some q0 := by
    have := g1
    simpa [Zs, Zd, Za, Zn] using this
   have g4 : Zdx [q0] = some u := h8
   have run : ∀ v1 X1 v2 X2, Zd3 [a] H = some (v1, H ++ X1) → ZdS [v1] (H ++ X1) = some (v2, H ++ X1 ++ X2) → Zfw [a] H = some (v2, H ++ (X1 ++ X2)) := fun v1 X1 v2 X2 e1 e2 => by
    simp [Zfw, Z6, Zna, ZG, Zt, Zf, Zb, Zo, e1, e2]
   rcases Zsw hp r0 g3 with ⟨rfl, X, e1⟩ | ⟨w0, v1, u0, u1, X, F0, F2, rfl, e1, a1, a2, a3, a4⟩
   ·have hp2 : 0 < (H ++ X).length := by rw [List.length_append]; omega
    rcases Zox hp2 (.none (H := H ++ X)) g4 ok with ⟨rfl, Y, e2⟩ | ⟨_, _, _, _, _, _, _, e2, _⟩
    ·exact ⟨.none, X ++ Y, [], run _ _ _ _ e1 e2, .none, by simp, by simp⟩
    ·cases e2
   ·have hp2 : 0 < (H ++ X).length := by rw [List.length_append]; omega
    rcases Zox hp2 (.tup (.cons a1 (.one a4))) g4 ok with ⟨rfl, Y, e2⟩ | ⟨x0, w1, y0, y1, Y, F1', rfl, e3, e4, e2, b1, b2, b3⟩
    ·exact ⟨.none, X ++ Y, [], run _ _ _ _ e1 e2, .none, by simp, by simp⟩
    ·have ex : x0 = w0 := by
      have : Zv (.tup [w0, v1]) (.int 0) (H ++ X) = some (w0, H ++ X) := by simp [Zv, seqIndex?]
      rw [this] at e3
      cases e3
      rfl
     have ey : y0 = u0 := by
      have : Zr (.tup [u0, u1]) (.int 0) = some u0 := by simp [Zr, seqIndex?]
      rw [this] at e4
      cases e4
      rfl
     subst ex ey
     have nd : (F0 ++ F1').Nodup := by
      rw [List.nodup_append]
      refine ⟨a2, b2, fun x hx y hy e => ?_⟩
      have := a1.lt x hx
      have := b3 y hy
      omega
     have nw : ∀ x ∈ F0 ++ F1', H.length ≤ x := fun x m => by
      rcases List.mem_append.mp m with m | m
      ·exact a3 x m
      ·have := b3 x m; rw [List.length_append] at this; omega
     exact ⟨.tup [x0, w1], X ++ Y, F0 ++ F1', run _ _ _ _ e1 e2, by rw [← List.append_assoc]; exact .tup (.cons (a1.ext Y) (.one b1)), fun x m => .inl (nw x m), fun _ => ⟨nd, nw⟩⟩
  ·cases h1
 ·rw [if_neg ok] at h2
  cases h2
noncomputable def ZiX : Sm := Zw (ZT (ZH (Zj ZbC (Zb 0) (ZY))) (ZG (Zt ZjX (Zf (Zb 1) (Zf (Zb 0) Zo)))) Z0) (Zw (ZT (ZH (Zj oEq (Zj Zv (Zb 1) (Zl 0)) (Zl 0))) (ZG (Zj Zv (Zb 1) (Zl 1))) Z0) (ZG (ZY)))
noncomputable def ZiY : List V → Hp → Option (V × Hp) := Z6 2 ZiX
noncomputable def ZiZ : PS := (Zu (ZU (ZE (Ze Zbm (Za 0) (ZZ))) (ZF (Zs Zg9 (Zd (Za 1) (Zd (Za 0) Zn)))) ZX) (Zu (ZU (ZE (Ze qEq (Ze Zr (Za 1) (Zk 0)) (Zk 0))) (ZF (Ze Zr (Za 1) (Zk 1))) ZX) (ZF (ZZ))))
noncomputable def ZgT : List T → Option T := Zaa 2 ZiZ
theorem ZqW : SimF false ZiY ZgT := Zaf (show S [] [] [] false ZiX ZiZ from (Zz (Z2 (ZJ (ZD ZbV (Zc 0) (Z9))) (ZR (O' := []) (ZK ZrO (Zh (Zc 1) (Zh (Zc 0) Zp))) (by decide)) Z4) (Zz (Z2 (ZJ (ZD ZaF (ZB ZA (Zc 1) (Zm _)) (Zm _))) (ZR (O' := []) (ZB ZA (Zc 1) (Zm _)) (by decide)) Z4) (ZR (O' := []) (Z9) (by decide)))))
noncomputable def Zjz : Sm := Zw (ZN 3 (Zb7 Zo)) (Zw (ZaO (ZdN (Zb 0) (Zb 2)) (Zcu 4 5) (Zw (ZN 6 (Zt ZiY (Zf (Zb 4) (Zf (Zt ZfU (Zf (Zb 1) (Zf (Zt ZfN (Zf (Zb 5) (Zf (eUn Zbx (Zl 1)) Zo))) Zo))) Zo)))) (Zw (ZT (Zav (ZH (Zj oIs (Zb 6) (ZY))) (Zav (ZH (Zj ZbC (Zb 4) (ZY))) Zao)) (ZG (ZY)) Z0) (Zcd (Zd0 (Zb 3) (Zb 6)))))) (ZG (Zb 3)))
noncomputable def ZjA : List V → Hp → Option (V × Hp) := Z6 3 Zjz
noncomputable def ZjB : PS := (Zu (ZM 3 (ZbF Zn)) (Zu (ZaI (ZdP (Za 0) (Za 2)) (ZcO 4 5) (Zu (ZM 6 (Zs ZgT (Zd (Za 4) (Zd (Zs ZeQ (Zd (Za 1) (Zd (Zs ZeN (Zd (Za 5) (Zd (pUn Zbh (Zk 1)) Zn))) Zn))) Zn)))) (Zu (ZU (Zap (ZE (Ze qIs (Za 6) (ZZ))) (Zap (ZE (Ze Zbm (Za 4) (ZZ))) Zag)) (ZF (ZZ)) ZX) (Zdo 3 [] ZaN (ZbE (Za 6)))))) (ZF (Za 3))))
noncomputable def Zg1 : List T → Option T := Zaa 3 ZjB
theorem Zrr : SimF false ZjA Zg1 := Zaf (show S [] [3] [] false Zjz ZjB from (Zz (ZcC (O' := [3]) (E.list Zp (by decide)) (by decide)) (Zz (Zbg (Gs.zip (Zc 0) (Zc 2)) (PutOk.two (by decide) (by decide) (by decide)) (by decide) (by decide) (Zz (ZW (O' := [3]) (ZK ZqW (Zh (Zc 4) (Zh (ZK Zkp (Zh (Zc 1) (Zh (ZK ZjV (Zh (Zc 5) (Zh (ZbL ZbM (Zm _)) Zp))) Zp))) Zp))) (by decide) (by decide) (by decide)) (Zz (Z2 (ZaC (ZJ (ZD Zbl (Zc 6) (Z9))) (ZaC (ZJ (ZD ZbV (Zc 4) (Z9))) Zaw)) (ZR (O' := [3]) (Z9) (by decide)) Z4) (ZgF (O' := [3]) (by decide) Zbq (Za3 (O' := []) (E.flat (Zc 6)) (by decide)) (by decide) (by decide))))) (ZR (O' := [3]) (Zc 3) (by decide)))))
noncomputable def ZlW : Sm := Zw (ZT (ZH (Zj oIs (Zb 0) (ZY))) (ZG (ZY)) Z0) (Zw (ZN 1 (Zt ZeK (Zf (Zj Zv (Zb 0) (Zl 1)) Zo))) (Zw (ZN 2 (ZaA (ZdN (Zj Zv (Zb 0) (Zl 0)) (Zb 1)) (Zcu 100 101) Zao (Zt ZjA (Zf (Zb 100) (Zf (Zb 101) (Zf (Zb 1) Zo)))))) (Zw (ZT (ZH (Zj oIn (ZY) (Zb 2))) (ZG (ZY)) Z0) (ZG (ZaK (Zf (Zb 2) (Zf (Zj Zv (Zb 0) (Zl 1)) Zo)))))))
noncomputable def ZlX : List V → Hp → Option (V × Hp) := Z6 1 ZlW
noncomputable def ZhL : PS := (Zu (ZU (ZE (Ze qIs (Za 0) (ZZ))) (ZF (ZZ)) ZX) (Zu (ZM 1 (Zs ZeL (Zd (Ze Zr (Za 0) (Zk 1)) Zn))) (Zu (ZM 2 (Zam (ZdP (Ze Zr (Za 0) (Zk 0)) (Za 1)) (ZcO 100 101) Zag (Zs Zg1 (Zd (Za 100) (Zd (Za 101) (Zd (Za 1) Zn)))))) (Zu (ZU (ZE (Ze qIn (ZZ) (Za 2))) (ZF (ZZ)) ZX) (ZF (ZaL (Zd (Za 2) (Zd (Ze Zr (Za 0) (Zk 1)) Zn))))))))
noncomputable def Ze7 : List T → Option T := Zaa 1 ZhL
theorem Ztg : SimF false ZlX Ze7 := Zaf (show S [] [] [] false ZlW ZhL from (Zz (Z2 (ZJ (ZD Zbl (Zc 0) (Z9))) (ZR (O' := []) (Z9) (by decide)) Z4) (Zz (ZW (O' := []) (ZK Zjy (Zh (ZB ZA (Zc 0) (Zm _)) Zp)) (by decide) (by decide) (by decide)) (Zz (ZW (O' := []) (Zcb (Gs.zip (ZB ZA (Zc 0) (Zm _)) (Zc 1)) (PutOk.two (by decide) (by decide) (by decide)) (by decide) Zaw (ZK Zrr (Zh (Zc 100) (Zh (Zc 101) (Zh (Zc 1) Zp))))) (by decide) (by decide) (by decide)) (Zz (Z2 (ZJ (ZD ZfD (Z9) (Zc 2))) (ZR (O' := []) (Z9) (by decide)) Z4) (ZR (O' := []) (E.tup (Zh (Zc 2) (Zh (ZB ZA (Zc 0) (Zm _)) Zp)) (by decide)) (by decide)))))))
noncomputable def ZmL : Sm := ZG (Zt Zfw (Zf (Zt ZlX (Zf (Zt Zfw (Zf (Zb 0) Zo)) Zo)) Zo))
noncomputable def Zib : List V → Hp → Option (V × Hp) := Z6 1 ZmL
noncomputable def ZmM : PS := (ZF (Zs Zev (Zd (Zs Ze7 (Zd (Zs Zev (Zd (Za 0) Zn)) Zn)) Zn)))
noncomputable def Zeq : List T → Option T := Zaa 1 ZmM
theorem ZpQ : SimF true Zib Zeq := Zaf (show S [] [] [] true ZmL ZmM from (Za4 (O' := []) (Zbw Zqq (Zh (ZK Ztg (Zh (ZK Zqq (Zh (Zc 0) Zp)) Zp)) Zp)) (by decide) (by decide)))
noncomputable def ZiN : Sm := Zw (ZN 1 (Zt ZaE (Zf (Zb 0) Zo))) (Zw (ZN 2 (ZaA (Zbz (Zb 0)) (put1 100) Zao (Zt Zco (Zf (Zb 100) Zo)))) (Zw (ZN 3 (Zl 1)) (Zw (ZcW (ZH (Zj oLt (Zb 3) (Zb 1))) (Zw (ZN 4 (ZaA (Zbz (Zb 2)) (put1 102) Zao (Zt Zco (Zf (Zb 102) Zo)))) (Zw (ZaO (ZaM (Zf (Zb 1) Zo)) (put1 5) (ZaO (ZaM (Zf (Zb 1) Zo)) (put1 6) (ZaO (ZaM (Zf (Zb 1) Zo)) (put1 7) (ZT (Zav (ZH (Zj ZbC (Zj Zv (Zj Zv (Zb 4) (Zb 5)) (Zb 7)) (ZY))) (Zav (ZH (Zj ZbC (Zj Zv (Zj Zv (Zb 4) (Zb 7)) (Zb 6)) (ZY))) Zao)) (Zw (ZN 8 (Zj Zah (Zj Zv (Zj Zv (Zb 4) (Zb 5)) (Zb 7)) (Zj Zv (Zj Zv (Zb 4) (Zb 7)) (Zb 6)))) (ZT (tOr (ZH (Zj oIs (Zj Zv (Zj Zv (Zb 2) (Zb 5)) (Zb 6)) (ZY))) (tOr (ZH (Zj oLt (Zb 8) (Zj Zv (Zj Zv (Zb 2) (Zb 5)) (Zb 6)))) Zcn)) (Zby (Zb 8) (Zj Zv (Zb 2) (Zb 5)) (Zb 6)) Z0)) Z0)))) (ZN 3 (Zj ZaV (Zl 2) (Zb 3))))) 1000000) (Zw (ZaO (ZaM (Zf (Zb 1) Zo)) (put1 5) (ZT (ZH (Zj oLt (Zj Zv (Zj Zv (Zb 2) (Zb 5)) (Zb 5)) (Zl 0))) (ZG (ZY)) Z0)) (ZG (Zb 2))))))
noncomputable def ZgQ : List V → Hp → Option (V × Hp) := Z6 1 ZiN
noncomputable def ZiO : PS := (Zu (ZM 1 (Zs Zaq (Zd (Za 0) Zn))) (Zu (ZM 2 (Zam (ZaH (Za 0)) (Zab 100) Zag (pFl (Zs ZbX (Zd (Za 100) Zn))))) (Zu (ZM 3 (Zk 1)) (Zu (Zde (ZE (Ze qLt (Za 3) (Za 1))) (Zu (ZM 4 (Zam (ZaH (Za 2)) (Zab 102) Zag (pFl (Zs ZbX (Zd (Za 102) Zn))))) (Zu (ZaI (Zaz (Zd (Za 1) Zn)) (Zab 5) (ZaI (Zaz (Zd (Za 1) Zn)) (Zab 6) (ZaI (Zaz (Zd (Za 1) Zn)) (Zab 7) (ZU (Zap (ZE (Ze Zbm (Ze Zr (Ze Zr (Za 4) (Za 5)) (Za 7)) (ZZ))) (Zap (ZE (Ze Zbm (Ze Zr (Ze Zr (Za 4) (Za 7)) (Za 6)) (ZZ))) Zag)) (Zu (ZM 8 (Ze Zae (Ze Zr (Ze Zr (Za 4) (Za 5)) (Za 7)) (Ze Zr (Ze Zr (Za 4) (Za 7)) (Za 6)))) (ZU (bOr (ZE (Ze qIs (Ze Zr (Ze Zr (Za 2) (Za 5)) (Za 6)) (ZZ))) (bOr (ZE (Ze qLt (Za 8) (Ze Zr (Ze Zr (Za 2) (Za 5)) (Za 6)))) Zcp)) (Zbc 2 [] (ZbE (Za 8)) (Zck ZaN (Za 5)) (Za 6)) ZX)) ZX)))) (ZM 3 (Ze ZaG (Zk 2) (Za 3))))) 1000000) (Zu (ZaI (Zaz (Zd (Za 1) Zn)) (Zab 5) (ZU (ZE (Ze qLt (Ze Zr (Ze Zr (Za 2) (Za 5)) (Za 5)) (Zk 0))) (ZF (ZZ)) ZX)) (ZF (Za 2)))))))
noncomputable def ZeI : List T → Option T := Zaa 1 ZiO
theorem ZnA : SimF false ZgQ ZeI := Zaf (show S [] [2] [] false ZiN ZiO from (Zz (ZW (O' := []) (Zat ZaR (Zh (Zc 0) Zp)) (by decide) (by decide) (by decide)) (Zz (ZcC (O' := [2]) (Zdc (Gs.seq (Zc 0)) (PutOk.one (by decide)) (by decide) Zaw (Zeo Zdb (Zh (Zc 100) Zp))) (by decide)) (Zz (ZW (O' := [2]) (Zm _) (by decide) (by decide) (by decide)) (Zz (Zfm (ZJ (ZD Zcm (Zc 3) (Zc 1))) (Zz (ZW (O' := [2]) (Za3 (O' := []) (Zdc (Gs.seq (Zc 2)) (PutOk.one (by decide)) (by decide) Zaw (Zeo Zdb (Zh (Zc 102) Zp))) (by decide)) (by decide) (by decide) (by decide)) (Zz (Zbg (Gs.range (Zh (Zc 1) Zp)) (PutOk.one (by decide)) (by decide) (by decide) (Zbg (Gs.range (Zh (Zc 1) Zp)) (PutOk.one (by decide)) (by decide) (by decide) (Zbg (Gs.range (Zh (Zc 1) Zp)) (PutOk.one (by decide)) (by decide) (by decide) (Z2 (ZaC (ZJ (ZD ZbV (ZB ZA (ZB ZA (Zc 4) (Zc 5)) (Zc 7)) (Z9))) (ZaC (ZJ (ZD ZbV (ZB ZA (ZB ZA (Zc 4) (Zc 7)) (Zc 6)) (Z9))) Zaw)) (Zz (ZW (O' := [2]) (Zac Zak (ZB ZA (ZB ZA (Zc 4) (Zc 5)) (Zc 7)) (ZB ZA (ZB ZA (Zc 4) (Zc 7)) (Zc 6))) (by decide) (by decide) (by decide)) (Z2 (Zba (ZJ (ZD Zbl (ZB ZA (ZB ZA (Zc 2) (Zc 5)) (Zc 6)) (Z9))) (Zba (ZJ (ZD Zcm (Zc 8) (ZB ZA (ZB ZA (Zc 2) (Zc 5)) (Zc 6)))) ZcJ)) (S.put (O' := [2]) (by decide) (Za3 (O' := []) (E.flat (Zc 8)) (by decide)) (ZcM Zbq (Zc 5)) (Zc 6) (by decide) (by decide)) Z4)) Z4)))) (ZW (O' := [2]) (Zac Zbb (Zm _) (Zc 3)) (by decide) (by decide) (by decide)))) 1000000) (Zz (Zbg (Gs.range (Zh (Zc 1) Zp)) (PutOk.one (by decide)) (by decide) (by decide) (Z2 (ZJ (ZD Zcm (ZB ZA (ZB ZA (Zc 2) (Zc 5)) (Zc 5)) (Zm _))) (ZR (O' := [2]) (Z9) (by decide)) Z4)) (ZR (O' := [2]) (Zc 2) (by decide))))))))
noncomputable def ZlY : Sm := Zw (ZN 2 (Zj Zv (Zb 0) (Zl 0))) (Zw (ZN 3 (Zj Zv (Zb 1) (Zl 0))) (Zw (ZN 4 (Zl 1)) (Zw (ZN 5 (Zl 0)) (Zw (ZcW (ZH (Zj oNe (Zb 3) (Zl 0))) (Zw (ZN 6 (Zj oDiv (Zb 2) (Zb 3))) (Zw (ZN 7 (Zj Zbj (Zb 2) (Zj ZaV (Zb 6) (Zb 3)))) (Zw (ZN 2 (Zb 3)) (Zw (ZN 3 (Zb 7)) (Zw (ZN 7 (Zj Zbj (Zb 4) (Zj ZaV (Zb 6) (Zb 5)))) (Zw (ZN 4 (Zb 5)) (ZN 5 (Zb 7)))))))) 1000000) (Zw (ZN 8 (Zj Zbj (Zj Zv (Zb 1) (Zl 1)) (Zj Zv (Zb 0) (Zl 1)))) (Zw (ZT (ZH (Zj oEq (Zb 2) (Zl 0))) (Zw (ZT (ZH (Zj oNe (Zb 8) (Zl 0))) (ZG (ZY)) Z0) (ZG (Zb 0))) Z0) (Zw (ZT (ZH (Zj oNe (Zj oMod (Zb 8) (Zb 2)) (Zl 0))) (ZG (ZY)) Z0) (ZG (Zt Zef (Zf (Zj ZaV (Zj oDiv (Zj Zv (Zb 0) (Zl 0)) (Zb 2)) (Zj Zv (Zb 1) (Zl 0))) (Zf (Zj Zah (Zj Zv (Zb 0) (Zl 1)) (Zj ZaV (Zj ZaV (Zj Zv (Zb 0) (Zl 0)) (Zb 4)) (Zj oDiv (Zb 8) (Zb 2)))) Zo)))))))))))
noncomputable def ZlZ : List V → Hp → Option (V × Hp) := Z6 2 ZlY
noncomputable def Zl0 : PS := (Zu (ZM 2 (Ze Zr (Za 0) (Zk 0))) (Zu (ZM 3 (Ze Zr (Za 1) (Zk 0))) (Zu (ZM 4 (Zk 1)) (Zu (ZM 5 (Zk 0)) (Zu (Zde (ZE (Ze qNe (Za 3) (Zk 0))) (Zu (ZM 6 (Ze Zcv (Za 2) (Za 3))) (Zu (ZM 7 (Ze ZaX (Za 2) (Ze ZaG (Za 6) (Za 3)))) (Zu (ZM 2 (Za 3)) (Zu (ZM 3 (Za 7)) (Zu (ZM 7 (Ze ZaX (Za 4) (Ze ZaG (Za 6) (Za 5)))) (Zu (ZM 4 (Za 5)) (ZM 5 (Za 7)))))))) 1000000) (Zu (ZM 8 (Ze ZaX (Ze Zr (Za 1) (Zk 1)) (Ze Zr (Za 0) (Zk 1)))) (Zu (ZU (ZE (Ze qEq (Za 2) (Zk 0))) (Zu (ZU (ZE (Ze qNe (Za 8) (Zk 0))) (ZF (ZZ)) ZX) (ZF (Za 0))) ZX) (Zu (ZU (ZE (Ze qNe (Ze Za0 (Za 8) (Za 2)) (Zk 0))) (ZF (ZZ)) ZX) (ZF (Zs ZdR (Zd (Ze ZaG (Ze Zcv (Ze Zr (Za 0) (Zk 0)) (Za 2)) (Ze Zr (Za 1) (Zk 0))) (Zd (Ze Zae (Ze Zr (Za 0) (Zk 1)) (Ze ZaG (Ze ZaG (Ze Zr (Za 0) (Zk 0)) (Za 4)) (Ze Zcv (Za 8) (Za 2)))) Zn))))))))))))
noncomputable def ZhM : List T → Option T := Zaa 2 Zl0
theorem Zth : SimF false ZlZ ZhM := Zaf (show S [] [] [] false ZlY Zl0 from (Zz (ZW (O' := []) (ZB ZA (Zc 0) (Zm _)) (by decide) (by decide) (by decide)) (Zz (ZW (O' := []) (ZB ZA (Zc 1) (Zm _)) (by decide) (by decide) (by decide)) (Zz (ZW (O' := []) (Zm _) (by decide) (by decide) (by decide)) (Zz (ZW (O' := []) (Zm _) (by decide) (by decide) (by decide)) (Zz (Zfm (ZJ (ZD ZbA (Zc 3) (Zm _))) (Zz (ZW (O' := []) (ZD Zc0 (Zc 2) (Zc 3)) (by decide) (by decide) (by decide)) (Zz (ZW (O' := []) (ZD Zbr (Zc 2) (Zac Zbb (Zc 6) (Zc 3))) (by decide) (by decide) (by decide)) (Zz (ZW (O' := []) (Zc 3) (by decide) (by decide) (by decide)) (Zz (ZW (O' := []) (Zc 7) (by decide) (by decide) (by decide)) (Zz (ZW (O' := []) (ZD Zbr (Zc 4) (Zac Zbb (Zc 6) (Zc 5))) (by decide) (by decide) (by decide)) (Zz (ZW (O' := []) (Zc 5) (by decide) (by decide) (by decide)) (ZW (O' := []) (Zc 7) (by decide) (by decide) (by decide)))))))) 1000000) (Zz (ZW (O' := []) (ZD Zbr (ZB ZA (Zc 1) (Zm _)) (ZB ZA (Zc 0) (Zm _))) (by decide) (by decide) (by decide)) (Zz (Z2 (ZJ (ZD ZaF (Zc 2) (Zm _))) (Zz (Z2 (ZJ (ZD ZbA (Zc 8) (Zm _))) (ZR (O' := []) (Z9) (by decide)) Z4) (ZR (O' := []) (Zc 0) (by decide))) Z4) (Zz (Z2 (ZJ (ZD ZbA (ZD Zbf (Zc 8) (Zc 2)) (Zm _))) (ZR (O' := []) (Z9) (by decide)) Z4) (ZR (O' := []) (ZK ZfH (Zh (Zac Zbb (ZD Zc0 (ZB ZA (Zc 0) (Zm _)) (Zc 2)) (ZB ZA (Zc 1) (Zm _))) (Zh (Zac Zak (ZB ZA (Zc 0) (Zm _)) (Zac Zbb (Zac Zbb (ZB ZA (Zc 0) (Zm _)) (Zc 4)) (ZD Zc0 (Zc 8) (Zc 2)))) Zp))) (by decide)))))))))))
noncomputable def ZjZ : Sm := Zw (ZN 2 (Zj Zah (Zb7 (Zf (ZaK (Zf (Zl 0) (Zf (Zl 0) Zo))) Zo)) (Zb 1))) (Zw (ZN 3 (Zj Zah (Zb7 (Zf (ZaK (Zf (Zl 0) (Zf (Zl 0) Zo))) Zo)) (Zb 1))) (Zw (ZaO (ZaM (Zf (Zl 1) (Zf (Zt ZaE (Zf (Zb 2) Zo)) Zo))) (put1 4) (ZaO (ZaM (Zf (Zt ZaE (Zf (Zb 2) Zo)) Zo)) (put1 5) (Zw (ZN 6 (Zj Zv (Zj Zv (Zb 0) (Zb 4)) (Zb 5))) (ZT (Zav (ZH (Zj oNe (Zb 4) (Zb 5))) (Zav (ZH (Zj ZbC (Zb 6) (ZY))) (Zav (ZH (Zj oEq (Zj Zv (Zj Zv (Zb 0) (Zb 5)) (Zb 4)) (eUn Zbx (Zb 6)))) (Zav (ZH (Zj ZbC (Zj Zv (Zb 3) (Zb 4)) (ZY))) Zao)))) (Zby (Zt ZlZ (Zf (Zj Zv (Zb 3) (Zb 4)) (Zf (Zt Zef (Zf (Zj Zv (Zj Zv (Zb 2) (Zb 5)) (Zl 0)) (Zf (Zj Zah (Zj Zv (Zj Zv (Zb 2) (Zb 5)) (Zl 1)) (Zb 6)) Zo))) Zo))) (Zb 3) (Zb 4)) Z0)))) (Zw (ZT (ZH (Zj oIn (ZY) (Zb 3))) (ZG (ZY)) Z0) (ZG (Zdj (Zb 3) 1)))))
noncomputable def Zha : List V → Hp → Option (V × Hp) := Z6 2 ZjZ
noncomputable def Zj0 : PS := (Zu (ZM 2 (Ze Zae (ZbF (Zd (ZaL (Zd (Zk 0) (Zd (Zk 0) Zn))) Zn)) (Za 1))) (Zu (ZM 3 (pFl (Ze Zae (ZbF (Zd (ZaL (Zd (Zk 0) (Zd (Zk 0) Zn))) Zn)) (Za 1)))) (Zu (ZaI (Zaz (Zd (Zk 1) (Zd (Zs Zaq (Zd (Za 2) Zn)) Zn))) (Zab 4) (ZaI (Zaz (Zd (Zs Zaq (Zd (Za 2) Zn)) Zn)) (Zab 5) (Zu (ZM 6 (Ze Zr (Ze Zr (Za 0) (Za 4)) (Za 5))) (ZU (Zap (ZE (Ze qNe (Za 4) (Za 5))) (Zap (ZE (Ze Zbm (Za 6) (ZZ))) (Zap (ZE (Ze qEq (Ze Zr (Ze Zr (Za 0) (Za 5)) (Za 4)) (pUn Zbh (Za 6)))) (Zap (ZE (Ze Zbm (Ze Zr (Za 3) (Za 4)) (ZZ))) Zag)))) (Zbc 3 [] (ZbE (Zs ZhM (Zd (Ze Zr (Za 3) (Za 4)) (Zd (Zs ZdR (Zd (Ze Zr (Ze Zr (Za 2) (Za 5)) (Zk 0)) (Zd (Ze Zae (Ze Zr (Ze Zr (Za 2) (Za 5)) (Zk 1)) (Za 6)) Zn))) Zn)))) ZaN (Za 4)) ZX)))) (Zu (ZU (ZE (Ze qIn (ZZ) (Za 3))) (ZF (ZZ)) ZX) (ZF (ZcG (Za 3) 1))))))
noncomputable def ZfO : List T → Option T := Zaa 2 Zj0
theorem ZnV : SimF false Zha ZfO := Zaf (show S [] [3] [] false ZjZ Zj0 from (Zz (ZW (O' := []) (Zac Zak (E.list (Zh (E.tup (Zh (Zm _) (Zh (Zm _) Zp)) (by decide)) Zp) (by decide)) (Zc 1)) (by decide) (by decide) (by decide)) (Zz (ZcC (O' := [3]) (Zm4 Zak (E.list (Zh (E.tup (Zh (Zm _) (Zh (Zm _) Zp)) (by decide)) Zp) (by decide)) (Zc 1)) (by decide)) (Zz (Zbg (Gs.range (Zh (Zm _) (Zh (Zat ZaR (Zh (Zc 2) Zp)) Zp))) (PutOk.one (by decide)) (by decide) (by decide) (Zbg (Gs.range (Zh (Zat ZaR (Zh (Zc 2) Zp)) Zp)) (PutOk.one (by decide)) (by decide) (by decide) (Zz (ZW (O' := [3]) (ZB ZA (ZB ZA (Zc 0) (Zc 4)) (Zc 5)) (by decide) (by decide) (by decide)) (Z2 (ZaC (ZJ (ZD ZbA (Zc 4) (Zc 5))) (ZaC (ZJ (ZD ZbV (Zc 6) (Z9))) (ZaC (ZJ (ZD ZaF (ZB ZA (ZB ZA (Zc 0) (Zc 5)) (Zc 4)) (ZbL ZbM (Zc 6)))) (ZaC (ZJ (ZD ZbV (ZB ZA (Zc 3) (Zc 4)) (Z9))) Zaw)))) (S.put (O' := [3]) (by decide) (Za3 (O' := []) (E.flat (ZK Zth (Zh (ZB ZA (Zc 3) (Zc 4)) (Zh (ZK ZfH (Zh (ZB ZA (ZB ZA (Zc 2) (Zc 5)) (Zm _)) (Zh (Zac Zak (ZB ZA (ZB ZA (Zc 2) (Zc 5)) (Zm _)) (Zc 6)) Zp))) Zp)))) (by decide)) Zbq (Zc 4) (by decide) (by decide)) Z4)))) (Zz (Z2 (ZJ (ZD ZfD (Z9) (Zc 3))) (ZR (O' := [3]) (Z9) (by decide)) Z4) (ZR (O' := [3]) (Zfr (Zc 3)) (by decide)))))))
noncomputable def ZjC : Sm := Zw (ZN 2 (Zj Zah (Zb7 (Zf (ZaK (Zf (Zl 0) (Zf (Zl 0) Zo))) Zo)) (Zb 1))) (Zw (ZN 3 (ZaA (Zbz (Zb 0)) (put1 100) Zao (Zt Zco (Zf (Zb 100) Zo)))) (Zw (ZaO (ZaM (Zf (Zt ZaE (Zf (Zb 2) Zo)) Zo)) (put1 4) (ZaO (ZaM (Zf (Zt ZaE (Zf (Zb 2) Zo)) Zo)) (put1 5) (Zw (ZN 6 (Zt ZlL (Zf (Zj Zv (Zj Zv (Zb 2) (Zb 4)) (Zl 0)) (Zf (Zj Zv (Zj Zv (Zb 2) (Zb 5)) (Zl 0)) Zo)))) (Zw (ZN 7 (Zj Zbj (Zj Zv (Zj Zv (Zb 2) (Zb 4)) (Zl 1)) (Zj Zv (Zj Zv (Zb 2) (Zb 5)) (Zl 1)))) (Zw (ZN 8 (Zj Zv (Zj Zv (Zb 0) (Zb 4)) (Zb 5))) (ZT (Zav (ZH (Zj oNe (Zb 4) (Zb 5))) (Zav (ZH (Zj oEq (Zb 6) (Zl 0))) Zao)) (Zw (ZT (Zav (ZH (Zj ZbC (Zb 8) (ZY))) (Zav (ZH (Zj oLt (Zb 8) (Zb 7))) Zao)) (ZG (ZY)) Z0) (Zby (Zb 7) (Zj Zv (Zb 3) (Zb 4)) (Zb 5))) (ZT (Zav (ZH (Zj oNe (Zb 4) (Zb 5))) (Zav (ZH (Zj ZbC (Zb 8) (ZY))) Zao)) (Zby (Zj Zbj (Zb 8) (Zj oMod (Zj Zbj (Zb 8) (Zb 7)) (Zb 6))) (Zj Zv (Zb 3) (Zb 4)) (Zb 5)) Z0))))))) (ZG (Zb 3))))
noncomputable def ZjD : List V → Hp → Option (V × Hp) := Z6 2 ZjC
noncomputable def ZjE : PS := (Zu (ZM 2 (Ze Zae (ZbF (Zd (ZaL (Zd (Zk 0) (Zd (Zk 0) Zn))) Zn)) (Za 1))) (Zu (ZM 3 (Zam (ZaH (Za 0)) (Zab 100) Zag (pFl (Zs ZbX (Zd (Za 100) Zn))))) (Zu (ZaI (Zaz (Zd (Zs Zaq (Zd (Za 2) Zn)) Zn)) (Zab 4) (ZaI (Zaz (Zd (Zs Zaq (Zd (Za 2) Zn)) Zn)) (Zab 5) (Zu (ZM 6 (Zs ZhJ (Zd (Ze Zr (Ze Zr (Za 2) (Za 4)) (Zk 0)) (Zd (Ze Zr (Ze Zr (Za 2) (Za 5)) (Zk 0)) Zn)))) (Zu (ZM 7 (Ze ZaX (Ze Zr (Ze Zr (Za 2) (Za 4)) (Zk 1)) (Ze Zr (Ze Zr (Za 2) (Za 5)) (Zk 1)))) (Zu (ZM 8 (Ze Zr (Ze Zr (Za 0) (Za 4)) (Za 5))) (ZU (Zap (ZE (Ze qNe (Za 4) (Za 5))) (Zap (ZE (Ze qEq (Za 6) (Zk 0))) Zag)) (Zu (ZU (Zap (ZE (Ze Zbm (Za 8) (ZZ))) (Zap (ZE (Ze qLt (Za 8) (Za 7))) Zag)) (ZF (ZZ)) ZX) (Zbc 3 [] (ZbE (Za 7)) (Zck ZaN (Za 4)) (Za 5))) (ZU (Zap (ZE (Ze qNe (Za 4) (Za 5))) (Zap (ZE (Ze Zbm (Za 8) (ZZ))) Zag)) (Zbc 3 [] (Ze ZaX (Za 8) (Ze Za0 (Ze ZaX (Za 8) (Za 7)) (Za 6))) (Zck ZaN (Za 4)) (Za 5)) ZX))))))) (ZF (Za 3)))))
noncomputable def Zg2 : List T → Option T := Zaa 2 ZjE
theorem Zrs : SimF false ZjD Zg2 := Zaf (show S [] [3] [] false ZjC ZjE from (Zz (ZW (O' := []) (Zac Zak (E.list (Zh (E.tup (Zh (Zm _) (Zh (Zm _) Zp)) (by decide)) Zp) (by decide)) (Zc 1)) (by decide) (by decide) (by decide)) (Zz (ZcC (O' := [3]) (Zdc (Gs.seq (Zc 0)) (PutOk.one (by decide)) (by decide) Zaw (Zeo Zdb (Zh (Zc 100) Zp))) (by decide)) (Zz (Zbg (Gs.range (Zh (Zat ZaR (Zh (Zc 2) Zp)) Zp)) (PutOk.one (by decide)) (by decide) (by decide) (Zbg (Gs.range (Zh (Zat ZaR (Zh (Zc 2) Zp)) Zp)) (PutOk.one (by decide)) (by decide) (by decide) (Zz (ZW (O' := [3]) (ZK Ztd (Zh (ZB ZA (ZB ZA (Zc 2) (Zc 4)) (Zm _)) (Zh (ZB ZA (ZB ZA (Zc 2) (Zc 5)) (Zm _)) Zp))) (by decide) (by decide) (by decide)) (Zz (ZW (O' := [3]) (ZD Zbr (ZB ZA (ZB ZA (Zc 2) (Zc 4)) (Zm _)) (ZB ZA (ZB ZA (Zc 2) (Zc 5)) (Zm _))) (by decide) (by decide) (by decide)) (Zz (ZW (O' := [3]) (ZB ZA (ZB ZA (Zc 0) (Zc 4)) (Zc 5)) (by decide) (by decide) (by decide)) (Z2 (ZaC (ZJ (ZD ZbA (Zc 4) (Zc 5))) (ZaC (ZJ (ZD ZaF (Zc 6) (Zm _))) Zaw)) (Zz (Z2 (ZaC (ZJ (ZD ZbV (Zc 8) (Z9))) (ZaC (ZJ (ZD Zcm (Zc 8) (Zc 7))) Zaw)) (ZR (O' := [3]) (Z9) (by decide)) Z4) (S.put (O' := [3]) (by decide) (Za3 (O' := []) (E.flat (Zc 7)) (by decide)) (ZcM Zbq (Zc 4)) (Zc 5) (by decide) (by decide))) (Z2 (ZaC (ZJ (ZD ZbA (Zc 4) (Zc 5))) (ZaC (ZJ (ZD ZbV (Zc 8) (Z9))) Zaw)) (S.put (O' := [3]) (by decide) (Za3 (O' := []) (ZD Zbr (Zc 8) (ZD Zbf (ZD Zbr (Zc 8) (Zc 7)) (Zc 6))) (by decide)) (ZcM Zbq (Zc 4)) (Zc 5) (by decide) (by decide)) Z4))))))) (ZR (O' := [3]) (Zc 3) (by decide))))))
noncomputable def Zky : Sm := Zw (ZT (ZH (Zj oIs (Zb 0) (ZY))) (ZG (ZY)) Z0) (Zw (ZN 1 (Zt ZgQ (Zf (Zj Zv (Zb 0) (Zl 0)) Zo))) (Zw (ZT (ZH (Zj oIs (Zb 1) (ZY))) (ZG (ZY)) Z0) (Zw (ZN 2 (Zt Zha (Zf (Zb 1) (Zf (Zj Zv (Zb 0) (Zl 1)) Zo)))) (Zw (ZT (ZH (Zj oIs (Zb 2) (ZY))) (ZG (ZY)) Z0) (Zw (ZN 1 (Zt ZjD (Zf (Zb 1) (Zf (Zb 2) Zo)))) (Zw (ZT (ZH (Zj oIs (Zb 1) (ZY))) (ZG (ZY)) Z0) (Zw (ZN 1 (Zt ZgQ (Zf (Zb 1) Zo))) (Zw (ZT (ZH (Zj oIs (Zb 1) (ZY))) (ZG (ZY)) Z0) (Zw (ZN 2 (Zt Zha (Zf (Zb 1) (Zf (Zb 2) Zo)))) (Zw (ZT (ZH (Zj oIs (Zb 2) (ZY))) (ZG (ZY)) Z0) (ZG (ZaK (Zf (Zb 1) (Zf (Zb 2) Zo))))))))))))))
noncomputable def Zkz : List V → Hp → Option (V × Hp) := Z6 1 Zky
noncomputable def ZkA : PS := (Zu (ZU (ZE (Ze qIs (Za 0) (ZZ))) (ZF (ZZ)) ZX) (Zu (ZM 1 (Zs ZeI (Zd (Ze Zr (Za 0) (Zk 0)) Zn))) (Zu (ZU (ZE (Ze qIs (Za 1) (ZZ))) (ZF (ZZ)) ZX) (Zu (ZM 2 (Zs ZfO (Zd (Za 1) (Zd (Ze Zr (Za 0) (Zk 1)) Zn)))) (Zu (ZU (ZE (Ze qIs (Za 2) (ZZ))) (ZF (ZZ)) ZX) (Zu (ZM 1 (Zs Zg2 (Zd (Za 1) (Zd (Za 2) Zn)))) (Zu (ZU (ZE (Ze qIs (Za 1) (ZZ))) (ZF (ZZ)) ZX) (Zu (ZM 1 (Zs ZeI (Zd (Za 1) Zn))) (Zu (ZU (ZE (Ze qIs (Za 1) (ZZ))) (ZF (ZZ)) ZX) (Zu (ZM 2 (Zs ZfO (Zd (Za 1) (Zd (Za 2) Zn)))) (Zu (ZU (ZE (Ze qIs (Za 2) (ZZ))) (ZF (ZZ)) ZX) (ZF (ZaL (Zd (Za 1) (Zd (Za 2) Zn)))))))))))))))
noncomputable def ZeT : List T → Option T := Zaa 1 ZkA
theorem Zr9 : SimF false Zkz ZeT := Zaf (show S [] [] [] false Zky ZkA from (Zz (Z2 (ZJ (ZD Zbl (Zc 0) (Z9))) (ZR (O' := []) (Z9) (by decide)) Z4) (Zz (ZW (O' := []) (ZK ZnA (Zh (ZB ZA (Zc 0) (Zm _)) Zp)) (by decide) (by decide) (by decide)) (Zz (Z2 (ZJ (ZD Zbl (Zc 1) (Z9))) (ZR (O' := []) (Z9) (by decide)) Z4) (Zz (ZW (O' := []) (ZK ZnV (Zh (Zc 1) (Zh (ZB ZA (Zc 0) (Zm _)) Zp))) (by decide) (by decide) (by decide)) (Zz (Z2 (ZJ (ZD Zbl (Zc 2) (Z9))) (ZR (O' := []) (Z9) (by decide)) Z4) (Zz (ZW (O' := []) (ZK Zrs (Zh (Zc 1) (Zh (Zc 2) Zp))) (by decide) (by decide) (by decide)) (Zz (Z2 (ZJ (ZD Zbl (Zc 1) (Z9))) (ZR (O' := []) (Z9) (by decide)) Z4) (Zz (ZW (O' := []) (ZK ZnA (Zh (Zc 1) Zp)) (by decide) (by decide) (by decide)) (Zz (Z2 (ZJ (ZD Zbl (Zc 1) (Z9))) (ZR (O' := []) (Z9) (by decide)) Z4) (Zz (ZW (O' := []) (ZK ZnV (Zh (Zc 1) (Zh (Zc 2) Zp))) (by decide) (by decide) (by decide)) (Zz (Z2 (ZJ (ZD Zbl (Zc 2) (Z9))) (ZR (O' := []) (Z9) (by decide)) Z4) (ZR (O' := []) (E.tup (Zh (Zc 1) (Zh (Zc 2) Zp)) (by decide)) (by decide))))))))))))))
noncomputable def ZkB : Sm := Zw (ZT (tOr (Zcc (ZH (eIs "tuple" (Zb 0)))) (tOr (ZH (Zj oNe (Zt ZaE (Zf (Zb 0) Zo)) (Zl 2))) (tOr (Zcc (ZH (Zt Zle (Zf (Zj Zv (Zb 0) (Zl 0)) (Zf (Zj Zah (Zb 1) (Zl 1)) Zo))))) Zcn))) (ZG (ZbZ false)) Z0) (Zw (ZT (tOr (Zcc (ZH (eIs "list" (Zj Zv (Zb 0) (Zl 1))))) (tOr (ZH (Zj oNe (Zt ZaE (Zf (Zj Zv (Zb 0) (Zl 1)) Zo)) (Zb 1))) Zcn)) (ZG (ZbZ false)) Z0) (Zw (ZaO (Zbz (Zj Zv (Zb 0) (Zl 1))) (put1 2) (Zw (ZT (tOr (Zcc (ZH (eIs "tuple" (Zb 2)))) (tOr (ZH (Zj oNe (Zt ZaE (Zf (Zb 2) Zo)) (Zl 2))) Zcn)) (ZG (ZbZ false)) Z0) (Zw (ZT (tOr (Zcc (ZH (Zt ZfV (Zf (Zj Zv (Zb 2) (Zl 0)) Zo)))) (tOr (Zcc (ZH (Zt ZfV (Zf (Zj Zv (Zb 2) (Zl 1)) Zo)))) Zcn)) (ZG (ZbZ false)) Z0) (ZT (tOr (ZH (Zj oLt (Zj Zv (Zb 2) (Zl 0)) (Zl 0))) (tOr (Zav (ZH (Zj oGt (Zj Zv (Zb 2) (Zl 0)) (Zl 0))) (Zav (Zcc (Zgw oLe oLt (Zl 0) (Zj Zv (Zb 2) (Zl 1)) (Zj Zv (Zb 2) (Zl 0)))) Zao)) Zcn)) (ZG (ZbZ false)) Z0)))) (ZG (ZbZ true))))
noncomputable def ZkC : List V → Hp → Option (V × Hp) := Z6 2 ZkB
noncomputable def ZkD : PS := (Zu (ZU (bOr (ZbQ (ZE (pIs "tuple" (Za 0)))) (bOr (ZE (Ze qNe (Zs Zaq (Zd (Za 0) Zn)) (Zk 2))) (bOr (ZbQ (ZE (Zs Zhx (Zd (Ze Zr (Za 0) (Zk 0)) (Zd (Ze Zae (Za 1) (Zk 1)) Zn))))) Zcp))) (ZF (Zbv false)) ZX) (Zu (ZU (bOr (ZbQ (ZE (pIs "list" (Ze Zr (Za 0) (Zk 1))))) (bOr (ZE (Ze qNe (Zs Zaq (Zd (Ze Zr (Za 0) (Zk 1)) Zn)) (Za 1))) Zcp)) (ZF (Zbv false)) ZX) (Zu (ZaI (ZaH (Ze Zr (Za 0) (Zk 1))) (Zab 2) (Zu (ZU (bOr (ZbQ (ZE (pIs "tuple" (Za 2)))) (bOr (ZE (Ze qNe (Zs Zaq (Zd (Za 2) Zn)) (Zk 2))) Zcp)) (ZF (Zbv false)) ZX) (Zu (ZU (bOr (ZbQ (ZE (Zs ZeR (Zd (Ze Zr (Za 2) (Zk 0)) Zn)))) (bOr (ZbQ (ZE (Zs ZeR (Zd (Ze Zr (Za 2) (Zk 1)) Zn)))) Zcp)) (ZF (Zbv false)) ZX) (ZU (bOr (ZE (Ze qLt (Ze Zr (Za 2) (Zk 0)) (Zk 0))) (bOr (Zap (ZE (Ze qGt (Ze Zr (Za 2) (Zk 0)) (Zk 0))) (Zap (ZbQ (Zgx qLe qLt (Zk 0) (Ze Zr (Za 2) (Zk 1)) (Ze Zr (Za 2) (Zk 0)))) Zag)) Zcp)) (ZF (Zbv false)) ZX)))) (ZF (Zbv true)))))
noncomputable def Zhn : List T → Option T := Zaa 2 ZkD
theorem Zsa : SimF false ZkC Zhn := Zaf (show S [] [] [] false ZkB ZkD from (Zz (Z2 (Zba (ZcB (ZJ (ZdO (Zc 0)))) (Zba (ZJ (ZD ZbA (Zat ZaR (Zh (Zc 0) Zp)) (Zm _))) (Zba (ZcB (ZJ (ZK Zsv (Zh (ZB ZA (Zc 0) (Zm _)) (Zh (Zac Zak (Zc 1) (Zm _)) Zp))))) ZcJ))) (ZR (O' := []) (E.bool _) (by decide)) Z4) (Zz (Z2 (Zba (ZcB (ZJ (ZdO (ZB ZA (Zc 0) (Zm _))))) (Zba (ZJ (ZD ZbA (Zat ZaR (Zh (ZB ZA (Zc 0) (Zm _)) Zp)) (Zc 1))) ZcJ)) (ZR (O' := []) (E.bool _) (by decide)) Z4) (Zz (Zbg (Gs.seq (ZB ZA (Zc 0) (Zm _))) (PutOk.one (by decide)) (by decide) (by decide) (Zz (Z2 (Zba (ZcB (ZJ (ZdO (Zc 2)))) (Zba (ZJ (ZD ZbA (Zat ZaR (Zh (Zc 2) Zp)) (Zm _))) ZcJ)) (ZR (O' := []) (E.bool _) (by decide)) Z4) (Zz (Z2 (Zba (ZcB (ZJ (ZK Zkv (Zh (ZB ZA (Zc 2) (Zm _)) Zp)))) (Zba (ZcB (ZJ (ZK Zkv (Zh (ZB ZA (Zc 2) (Zm _)) Zp)))) ZcJ)) (ZR (O' := []) (E.bool _) (by decide)) Z4) (Z2 (Zba (ZJ (ZD Zcm (ZB ZA (Zc 2) (Zm _)) (Zm _))) (Zba (ZaC (ZJ (ZD Zdn (ZB ZA (Zc 2) (Zm _)) (Zm _))) (ZaC (ZcB (Zt6 Znv Zcm (Zm _) (ZB ZA (Zc 2) (Zm _)) (ZB ZA (Zc 2) (Zm _)))) Zaw)) ZcJ)) (ZR (O' := []) (E.bool _) (by decide)) Z4)))) (ZR (O' := []) (E.bool _) (by decide))))))
noncomputable def Zlh : Sm := Zw (ZT (ZH (Zj oIs (Zb 1) (ZY))) (ZG (Zj oIs (Zb 0) (ZY))) Z0) (ZG (Zc2 (Zt ZkC (Zf (Zb 0) (Zf (Zt ZaE (Zf (Zj Zv (Zb 1) (Zl 1)) Zo)) Zo))) (Zj oEq (Zb 0) (Zb 1))))
noncomputable def Zf0 : List V → Hp → Option (V × Hp) := Z6 2 Zlh
noncomputable def Zhz : PS := (Zu (ZU (ZE (Ze qIs (Za 1) (ZZ))) (ZF (Ze qIs (Za 0) (ZZ))) ZX) (ZF ((Zc4 (Zs Zhn (Zd (Za 0) (Zd (Zs Zaq (Zd (Ze Zr (Za 1) (Zk 1)) Zn)) Zn))) (Ze qEq (Za 0) (Za 1))))))
noncomputable def ZcR : List T → Option T := Zaa 2 Zhz
theorem Zli : SimF false Zf0 ZcR := Zaf (show S [] [] [] false Zlh Zhz from (Zz (Z2 (ZJ (ZD Zbl (Zc 1) (Z9))) (ZR (O' := []) (ZD Zbl (Zc 0) (Z9)) (by decide)) Z4) (ZR (O' := []) ((Zez (E.sh (ZK Zsa (Zh (Zc 0) (Zh (Zat ZaR (Zh (ZB ZA (Zc 1) (Zm _)) Zp)) Zp)))) (E.sh (ZD ZaF (Zc 0) (Zc 1))))) (by decide))))
noncomputable def ZmN (F : List V → Hp → Option (V × Hp)) : Sm := Zw (ZT (ZH (eIs "list" (Zb 0))) (ZG (ZaA (Zbz (Zb 0)) (put1 100) Zao (Zt F (Zf (Zb 100) Zo)))) Z0) (Zw (ZT (ZH (eIs "tuple" (Zb 0))) (ZG (Zt Zfk (Zf (ZaA (Zbz (Zb 0)) (put1 102) Zao (Zt F (Zf (Zb 102) Zo))) Zo))) Z0) (ZG (Zb 0)))
noncomputable def Zfh : Nat → List V → Hp → Option (V × Hp)
 | 0 => fun _ _ => none
 | n + 1 => Z6 1 (ZmN (Zfh n))
noncomputable def Zgp : List V → Hp → Option (V × Hp) := Zfh 9
noncomputable def Zfn (F : List T → Option T) : PS := (Zu (ZU (ZE (pIs "list" (Za 0))) (ZF (Zam (ZaH (Za 0)) (Zab 100) Zag (Zs F (Zd (Za 100) Zn)))) ZX) (Zu (ZU (ZE (pIs "tuple" (Za 0))) (ZF (Zs Zh2 (Zd (Zam (ZaH (Za 0)) (Zab 102) Zag (Zs F (Zd (Za 102) Zn))) Zn))) ZX) (ZF (ZbE (Za 0)))))
noncomputable def Zen : Nat → List T → Option T
 | 0 => fun _ => none
 | n + 1 => Zaa 1 (Zfn (Zen n))
noncomputable def Zgq : List T → Option T := Zen 9
theorem Zmv : ∀ n : Nat, SimF true (Zfh n) (Zen n)
 | 0 => Zta
 | n + 1 => Zaf (show S [] [] [] true (ZmN (Zfh n)) (Zfn (Zen n)) from (Zz (Z2 (ZJ (ZdO (Zc 0))) (Za4 (O' := []) (Zdc (Gs.seq (Zc 0)) (PutOk.one (by decide)) (by decide) Zaw (Zbw (Zmv n) (Zh (Zc 100) Zp))) (by decide) (by decide)) Z4) (Zz (Z2 (ZJ (ZdO (Zc 0))) (Za4 (O' := []) (Zu9 Zt7 (Zfe (Zdc (Gs.seq (Zc 0)) (PutOk.one (by decide)) (by decide) Zaw (Zbw (Zmv n) (Zh (Zc 102) Zp))) Zp (by decide) (by decide))) (by decide) (by decide)) Z4) (Za4 (O' := []) (E.flat (Zc 0)) (by decide) (by decide)))))
theorem ZmO : SimF true Zgp Zgq := Zmv 9
noncomputable def Zhb : Sm := ZT (ZH (Zj ZbC (Zb 0) (ZY))) (Zw (Zby (Zl 7) (Zj Zv (Zj Zv (Zb 0) (Zl 0)) (Zl 0)) (Zl 0)) (Zw (Zcd (Zd0 (Zj Zv (Zb 0) (Zl 0)) (Zb7 (Zf (Zl 7) Zo)))) (Zcd (Zd0 (Zj Zv (Zb 0) (Zl 1)) (ZaK (Zf (Zl 7) (Zf (Zl 7) Zo))))))) Z0
noncomputable def Zj1 : List V → Hp → Option (V × Hp) := Z6 1 Zhb
noncomputable def Zj2 : PS := (ZU (ZE (Ze Zbm (Za 0) (ZZ))) (Zu (Zbc 0 [] (Zk 7) (Zck (Zck ZaN (Zk 0)) (Zk 0)) (Zk 0)) (Zu (Zdo 0 [] (Zck ZaN (Zk 0)) (ZbF (Zd (Zk 7) Zn))) (Zdo 0 [] (Zck ZaN (Zk 1)) (ZaL (Zd (Zk 7) (Zd (Zk 7) Zn)))))) ZX)
noncomputable def ZeO : List T → Option T := Zec 1 Zj2
theorem ZrP : SimM Zj1 ZeO := Zh8 (show S [0] [0] [0] false Zhb Zj2 from (Z2 (ZJ (ZD ZbV (Zc 0) (Z9))) (Zz (S.put (O' := [0]) (by decide) (Za3 (O' := []) (Zm _) (by decide)) (ZcM (ZcM Zbq (Zm _)) (Zm _)) (Zm _) (by decide) (by decide)) (Zz (ZgF (O' := [0]) (by decide) (ZcM Zbq (Zm _)) (Za3 (O' := []) (E.list (Zfe (Zm _) Zp (by decide) (by decide)) (by decide)) (by decide)) (by decide) (by decide)) (ZgF (O' := [0]) (by decide) (ZcM Zbq (Zm _)) (Za3 (O' := []) (E.tup (Zfe (Zm _) (Zfe (Zm _) Zp (by decide) (by decide)) (by decide) (by decide)) (by decide)) (by decide)) (by decide) (by decide)))) Z4)) (by decide) (by unfold Zhb; repeat' first | exact Keep0.next | exact ZhH | exact Keep0.ret | exact Keep0.put | apply Keep0.seq | apply ZhI | exact Keep0.set (by decide))
noncomputable def ZhA : Sm := Zby (Zt ZhT (Zf (Zj Zv (Zj Zv (Zb 0) (Zb 1)) (Zb 2)) (Zf (Zb 3) Zo))) (Zj Zv (Zb 0) (Zb 1)) (Zb 2)
noncomputable def Zf1 : List V → Hp → Option (V × Hp) := Z6 4 ZhA
noncomputable def Zlj : PS := (Zbc 0 [] (ZbE (Zs Zgf (Zd (Ze Zr (Ze Zr (Za 0) (Za 1)) (Za 2)) (Zd (Za 3) Zn)))) (Zck ZaN (Za 1)) (Za 2))
noncomputable def ZeX : List T → Option T := Zec 4 Zlj
theorem Zlk : SimM Zf1 ZeX := Zh8 (show S [0] [0] [0] false ZhA Zlj from (S.put (O' := [0]) (by decide) (Za3 (O' := []) (E.flat (ZK Zpc (Zh (ZB ZA (ZB ZA (Zc 0) (Zc 1)) (Zc 2)) (Zh (Zc 3) Zp)))) (by decide)) (ZcM Zbq (Zc 1)) (Zc 2) (by decide) (by decide))) (by decide) (by unfold ZhA; repeat' first | exact Keep0.next | exact ZhH | exact Keep0.ret | exact Keep0.put | apply Keep0.seq | apply ZhI | exact Keep0.set (by decide))
noncomputable def Zl1 : Sm := Zw (ZN 3 (Zj Zah (Zb7 (Zf (Zt ZdT (Zf (Zb 0) (Zf (Zb 1) Zo))) Zo)) (Zj ZaV (Zb7 (Zf (Zl 0) Zo)) (Zb 2)))) (Zw (ZN 4 (Zt ZbT (Zf (Zb 0) (Zf (Zb 1) (Zf (Zl 6) Zo))))) (Zw (ZT (tOr (ZH (Zj oEq (Zb 4) (Zl 0))) (tOr (ZH (Zj oEq (Zb 2) (Zl 0))) Zcn)) (ZG (Zb 3)) Z0) (Zw (ZN 5 (Zj Zah (Zl 1) (Zt ZbT (Zf (Zb 0) (Zf (Zj Zah (Zb 1) (Zl 1)) (Zf (Zb 2) Zo)))))) (Zw (ZT (ZH (Zj oEq (Zb 4) (Zl 1))) (Zby (Zj Zbj (Zt ZbT (Zf (Zb 0) (Zf (Zj Zah (Zb 1) (Zl 2)) (Zf (Zl 13) Zo)))) (Zl 6)) (Zb 3) (Zb 5)) Z0) (Zw (ZT (tOr (ZH (Zj oEq (Zb 4) (Zl 2))) (tOr (ZH (Zj oEq (Zb 4) (Zl 3))) Zcn)) (Zw (ZN 6 (Zj Zah (Zl 1) (Zt ZbT (Zf (Zb 0) (Zf (Zj Zah (Zb 1) (Zl 2)) (Zf (Zb 2) Zo)))))) (Zw (Zby (Zl 1) (Zb 3) (Zb 5)) (Zby (Zj Zbj (Zj Zv (Zb 3) (Zb 6)) (Zl 1)) (Zb 3) (Zb 6)))) Z0) (Zw (ZT (ZH (Zj oEq (Zb 4) (Zl 4))) (ZaO (ZaM (Zf (Zb 2) Zo)) (put1 7) (Zby (Zj Zbj (Zt ZbT (Zf (Zb 0) (Zf (Zj Zah (Zj Zah (Zb 1) (Zl 1)) (Zb 7)) (Zf (Zl 7) Zo)))) (Zl 3)) (Zb 3) (Zj Zah (Zb 7) (Zl 1)))) Z0) (Zw (ZT (ZH (Zj oEq (Zb 4) (Zl 5))) (ZaO (ZaM (Zf (Zb 2) Zo)) (put1 7) (Zby (Zj Zbj (Zt ZbT (Zf (Zb 0) (Zf (Zj Zah (Zj Zah (Zb 1) (Zl 1)) (Zb 7)) (Zf (Zl 2000000001) Zo)))) (Zl 1000000000)) (Zb 3) (Zj Zah (Zb 7) (Zl 1)))) Z0) (ZG (Zb 3)))))))))
noncomputable def Zl2 : List V → Hp → Option (V × Hp) := Z6 3 Zl1
noncomputable def Zl3 : PS := (Zu (ZM 3 (pFl (Ze Zae (ZbF (Zd (Zs Zdy (Zd (Za 0) (Zd (Za 1) Zn))) Zn)) (Ze ZaG (ZbF (Zd (Zk 0) Zn)) (Za 2))))) (Zu (ZM 4 (Zs Zbt (Zd (Za 0) (Zd (Za 1) (Zd (Zk 6) Zn))))) (Zu (ZU (bOr (ZE (Ze qEq (Za 4) (Zk 0))) (bOr (ZE (Ze qEq (Za 2) (Zk 0))) Zcp)) (ZF (Za 3)) ZX) (Zu (ZM 5 (Ze Zae (Zk 1) (Zs Zbt (Zd (Za 0) (Zd (Ze Zae (Za 1) (Zk 1)) (Zd (Za 2) Zn)))))) (Zu (ZU (ZE (Ze qEq (Za 4) (Zk 1))) (Zbc 3 [] (Ze ZaX (Zs Zbt (Zd (Za 0) (Zd (Ze Zae (Za 1) (Zk 2)) (Zd (Zk 13) Zn)))) (Zk 6)) ZaN (Za 5)) ZX) (Zu (ZU (bOr (ZE (Ze qEq (Za 4) (Zk 2))) (bOr (ZE (Ze qEq (Za 4) (Zk 3))) Zcp)) (Zu (ZM 6 (Ze Zae (Zk 1) (Zs Zbt (Zd (Za 0) (Zd (Ze Zae (Za 1) (Zk 2)) (Zd (Za 2) Zn)))))) (Zu (Zbc 3 [] (Zk 1) ZaN (Za 5)) (Zbc 3 [] (Ze ZaX (Ze Zr (Za 3) (Za 6)) (Zk 1)) ZaN (Za 6)))) ZX) (Zu (ZU (ZE (Ze qEq (Za 4) (Zk 4))) (ZaI (Zaz (Zd (Za 2) Zn)) (Zab 7) (Zbc 3 [] (Ze ZaX (Zs Zbt (Zd (Za 0) (Zd (Ze Zae (Ze Zae (Za 1) (Zk 1)) (Za 7)) (Zd (Zk 7) Zn)))) (Zk 3)) ZaN (Ze Zae (Za 7) (Zk 1)))) ZX) (Zu (ZU (ZE (Ze qEq (Za 4) (Zk 5))) (ZaI (Zaz (Zd (Za 2) Zn)) (Zab 7) (Zbc 3 [] (Ze ZaX (Zs Zbt (Zd (Za 0) (Zd (Ze Zae (Ze Zae (Za 1) (Zk 1)) (Za 7)) (Zd (Zk 2000000001) Zn)))) (Zk 1000000000)) ZaN (Ze Zae (Za 7) (Zk 1)))) ZX) (ZF (Za 3))))))))))
noncomputable def ZhN : List T → Option T := Zaa 3 Zl3
theorem Zti : SimF false Zl2 ZhN := Zaf (show S [] [3] [] false Zl1 Zl3 from (Zz (ZcC (O' := [3]) (Zm4 Zak (E.list (Zh (ZK ZeM (Zh (Zc 0) (Zh (Zc 1) Zp))) Zp) (by decide)) (Zac Zbb (E.list (Zh (Zm _) Zp) (by decide)) (Zc 2))) (by decide)) (Zz (ZW (O' := [3]) (ZK Zb9 (Zh (Zc 0) (Zh (Zc 1) (Zh (Zm _) Zp)))) (by decide) (by decide) (by decide)) (Zz (Z2 (Zba (ZJ (ZD ZaF (Zc 4) (Zm _))) (Zba (ZJ (ZD ZaF (Zc 2) (Zm _))) ZcJ)) (ZR (O' := [3]) (Zc 3) (by decide)) Z4) (Zz (ZW (O' := [3]) (Zac Zak (Zm _) (ZK Zb9 (Zh (Zc 0) (Zh (Zac Zak (Zc 1) (Zm _)) (Zh (Zc 2) Zp))))) (by decide) (by decide) (by decide)) (Zz (Z2 (ZJ (ZD ZaF (Zc 4) (Zm _))) (S.put (O' := [3]) (by decide) (Za3 (O' := []) (ZD Zbr (ZK Zb9 (Zh (Zc 0) (Zh (Zac Zak (Zc 1) (Zm _)) (Zh (Zm _) Zp)))) (Zm _)) (by decide)) Zbq (Zc 5) (by decide) (by decide)) Z4) (Zz (Z2 (Zba (ZJ (ZD ZaF (Zc 4) (Zm _))) (Zba (ZJ (ZD ZaF (Zc 4) (Zm _))) ZcJ)) (Zz (ZW (O' := [3]) (Zac Zak (Zm _) (ZK Zb9 (Zh (Zc 0) (Zh (Zac Zak (Zc 1) (Zm _)) (Zh (Zc 2) Zp))))) (by decide) (by decide) (by decide)) (Zz (S.put (O' := [3]) (by decide) (Za3 (O' := []) (Zm _) (by decide)) Zbq (Zc 5) (by decide) (by decide)) (S.put (O' := [3]) (by decide) (Za3 (O' := []) (ZD Zbr (ZB ZA (Zc 3) (Zc 6)) (Zm _)) (by decide)) Zbq (Zc 6) (by decide) (by decide)))) Z4) (Zz (Z2 (ZJ (ZD ZaF (Zc 4) (Zm _))) (Zbg (Gs.range (Zh (Zc 2) Zp)) (PutOk.one (by decide)) (by decide) (by decide) (S.put (O' := [3]) (by decide) (Za3 (O' := []) (ZD Zbr (ZK Zb9 (Zh (Zc 0) (Zh (Zac Zak (Zac Zak (Zc 1) (Zm _)) (Zc 7)) (Zh (Zm _) Zp)))) (Zm _)) (by decide)) Zbq (Zac Zak (Zc 7) (Zm _)) (by decide) (by decide))) Z4) (Zz (Z2 (ZJ (ZD ZaF (Zc 4) (Zm _))) (Zbg (Gs.range (Zh (Zc 2) Zp)) (PutOk.one (by decide)) (by decide) (by decide) (S.put (O' := [3]) (by decide) (Za3 (O' := []) (ZD Zbr (ZK Zb9 (Zh (Zc 0) (Zh (Zac Zak (Zac Zak (Zc 1) (Zm _)) (Zc 7)) (Zh (Zm _) Zp)))) (Zm _)) (by decide)) Zbq (Zac Zak (Zc 7) (Zm _)) (by decide) (by decide))) Z4) (ZR (O' := [3]) (Zc 3) (by decide)))))))))))
noncomputable def Zjh : Sm := Zw (ZN 2 (ZaA (ZaM (Zf (Zl 1) (Zf (Zt ZaE (Zf (Zb 1) Zo)) Zo))) (put1 100) (ZH (Zj oGt (Zj Zv (Zb 1) (Zb 100)) (Zl 0))) (Zb 100))) (Zw (ZN 3 (ZaA (ZaM (Zf (Zl 1) (Zf (Zt ZaE (Zf (Zb 1) Zo)) Zo))) (put1 102) (ZH (Zj oLt (Zj Zv (Zb 1) (Zb 102)) (Zl 0))) (Zb 102))) (Zw (ZT (Zav (ZH (Zj oEq (Zt ZaE (Zf (Zb 2) Zo)) (Zl 1))) (Zav (ZH (Zj oEq (Zt ZaE (Zf (Zb 3) Zo)) (Zl 1))) (Zav (ZH (Zj oEq (Zj Zv (Zb 1) (Zj Zv (Zb 2) (Zl 0))) (Zl 1))) (Zav (ZH (Zj oEq (Zj Zv (Zb 1) (Zj Zv (Zb 3) (Zl 0))) (eUn Zbx (Zl 1)))) Zao)))) (Zw (ZT (ZH (Zj oIs (Zj Zv (Zj Zv (Zj Zv (Zb 0) (Zl 0)) (Zj Zv (Zb 2) (Zl 0))) (Zj Zv (Zb 3) (Zl 0))) (ZY))) (ZG (ZY)) Z0) (ZG (Zj Zah (Zj Zv (Zj Zv (Zj Zv (Zb 0) (Zl 0)) (Zj Zv (Zb 2) (Zl 0))) (Zj Zv (Zb 3) (Zl 0))) (Zj Zv (Zb 1) (Zl 0))))) Z0) (Zw (ZN 4 (Zj Zah (ZaA (Zbz (Zb 2)) (put1 104) Zao (Zj Zv (Zj Zv (Zj Zv (Zb 0) (Zl 0)) (Zb 104)) (Zl 0))) (ZaA (Zbz (Zb 3)) (put1 106) Zao (Zj Zv (Zj Zv (Zj Zv (Zb 0) (Zl 0)) (Zl 0)) (Zb 106))))) (Zw (ZT (ZH (Zj oIn (ZY) (Zb 4))) (ZG (ZY)) Z0) (Zw (ZN 5 (Zj Zv (Zb 1) (Zl 0))) (Zw (ZaO (Zbz (Zb 2)) (put1 6) (ZN 5 (Zj Zah (Zb 5) (Zj ZaV (Zj Zv (Zb 1) (Zb 6)) (Zj Zv (Zj Zv (Zj Zv (Zb 0) (Zl 0)) (Zb 6)) (Zl 0)))))) (Zw (ZaO (Zbz (Zb 3)) (put1 6) (ZN 5 (Zj Zbj (Zb 5) (Zj ZaV (Zj Zv (Zb 1) (Zb 6)) (Zj Zv (Zj Zv (Zj Zv (Zb 0) (Zl 0)) (Zl 0)) (Zb 6)))))) (ZG (Zb 5)))))))))
noncomputable def ZfG : List V → Hp → Option (V × Hp) := Z6 2 Zjh
noncomputable def Zji : PS := (Zu (ZM 2 (Zam (Zaz (Zd (Zk 1) (Zd (Zs Zaq (Zd (Za 1) Zn)) Zn))) (Zab 100) (ZE (Ze qGt (Ze Zr (Za 1) (Za 100)) (Zk 0))) (Za 100))) (Zu (ZM 3 (Zam (Zaz (Zd (Zk 1) (Zd (Zs Zaq (Zd (Za 1) Zn)) Zn))) (Zab 102) (ZE (Ze qLt (Ze Zr (Za 1) (Za 102)) (Zk 0))) (Za 102))) (Zu (ZU (Zap (ZE (Ze qEq (Zs Zaq (Zd (Za 2) Zn)) (Zk 1))) (Zap (ZE (Ze qEq (Zs Zaq (Zd (Za 3) Zn)) (Zk 1))) (Zap (ZE (Ze qEq (Ze Zr (Za 1) (Ze Zr (Za 2) (Zk 0))) (Zk 1))) (Zap (ZE (Ze qEq (Ze Zr (Za 1) (Ze Zr (Za 3) (Zk 0))) (pUn Zbh (Zk 1)))) Zag)))) (Zu (ZU (ZE (Ze qIs (Ze Zr (Ze Zr (Ze Zr (Za 0) (Zk 0)) (Ze Zr (Za 2) (Zk 0))) (Ze Zr (Za 3) (Zk 0))) (ZZ))) (ZF (ZZ)) ZX) (ZF (Ze Zae (Ze Zr (Ze Zr (Ze Zr (Za 0) (Zk 0)) (Ze Zr (Za 2) (Zk 0))) (Ze Zr (Za 3) (Zk 0))) (Ze Zr (Za 1) (Zk 0))))) ZX) (Zu (ZM 4 (Ze Zae (Zam (ZaH (Za 2)) (Zab 104) Zag (Ze Zr (Ze Zr (Ze Zr (Za 0) (Zk 0)) (Za 104)) (Zk 0))) (Zam (ZaH (Za 3)) (Zab 106) Zag (Ze Zr (Ze Zr (Ze Zr (Za 0) (Zk 0)) (Zk 0)) (Za 106))))) (Zu (ZU (ZE (Ze qIn (ZZ) (Za 4))) (ZF (ZZ)) ZX) (Zu (ZM 5 (Ze Zr (Za 1) (Zk 0))) (Zu (ZaI (ZaH (Za 2)) (Zab 6) (ZM 5 (Ze Zae (Za 5) (Ze ZaG (Ze Zr (Za 1) (Za 6)) (Ze Zr (Ze Zr (Ze Zr (Za 0) (Zk 0)) (Za 6)) (Zk 0)))))) (Zu (ZaI (ZaH (Za 3)) (Zab 6) (ZM 5 (Ze ZaX (Za 5) (Ze ZaG (Ze Zr (Za 1) (Za 6)) (Ze Zr (Ze Zr (Ze Zr (Za 0) (Zk 0)) (Zk 0)) (Za 6)))))) (ZF (Za 5))))))))))
noncomputable def ZeJ : List T → Option T := Zaa 2 Zji
theorem Zjj : SimF false ZfG ZeJ := Zaf (show S [] [] [] false Zjh Zji from (Zz (ZW (O' := []) (Zcb (Gs.range (Zh (Zm _) (Zh (Zat ZaR (Zh (Zc 1) Zp)) Zp))) (PutOk.one (by decide)) (by decide) (ZJ (ZD Zdn (ZB ZA (Zc 1) (Zc 100)) (Zm _))) (Zc 100)) (by decide) (by decide) (by decide)) (Zz (ZW (O' := []) (Zcb (Gs.range (Zh (Zm _) (Zh (Zat ZaR (Zh (Zc 1) Zp)) Zp))) (PutOk.one (by decide)) (by decide) (ZJ (ZD Zcm (ZB ZA (Zc 1) (Zc 102)) (Zm _))) (Zc 102)) (by decide) (by decide) (by decide)) (Zz (Z2 (ZaC (ZJ (ZD ZaF (Zat ZaR (Zh (Zc 2) Zp)) (Zm _))) (ZaC (ZJ (ZD ZaF (Zat ZaR (Zh (Zc 3) Zp)) (Zm _))) (ZaC (ZJ (ZD ZaF (ZB ZA (Zc 1) (ZB ZA (Zc 2) (Zm _))) (Zm _))) (ZaC (ZJ (ZD ZaF (ZB ZA (Zc 1) (ZB ZA (Zc 3) (Zm _))) (ZbL ZbM (Zm _)))) Zaw)))) (Zz (Z2 (ZJ (ZD Zbl (ZB ZA (ZB ZA (ZB ZA (Zc 0) (Zm _)) (ZB ZA (Zc 2) (Zm _))) (ZB ZA (Zc 3) (Zm _))) (Z9))) (ZR (O' := []) (Z9) (by decide)) Z4) (ZR (O' := []) (Zac Zak (ZB ZA (ZB ZA (ZB ZA (Zc 0) (Zm _)) (ZB ZA (Zc 2) (Zm _))) (ZB ZA (Zc 3) (Zm _))) (ZB ZA (Zc 1) (Zm _))) (by decide))) Z4) (Zz (ZW (O' := []) (Zac Zak (Zcb (Gs.seq (Zc 2)) (PutOk.one (by decide)) (by decide) Zaw (ZB ZA (ZB ZA (ZB ZA (Zc 0) (Zm _)) (Zc 104)) (Zm _))) (Zcb (Gs.seq (Zc 3)) (PutOk.one (by decide)) (by decide) Zaw (ZB ZA (ZB ZA (ZB ZA (Zc 0) (Zm _)) (Zm _)) (Zc 106)))) (by decide) (by decide) (by decide)) (Zz (Z2 (ZJ (ZD ZfD (Z9) (Zc 4))) (ZR (O' := []) (Z9) (by decide)) Z4) (Zz (ZW (O' := []) (ZB ZA (Zc 1) (Zm _)) (by decide) (by decide) (by decide)) (Zz (Zbg (Gs.seq (Zc 2)) (PutOk.one (by decide)) (by decide) (by decide) (ZW (O' := []) (Zac Zak (Zc 5) (Zac Zbb (ZB ZA (Zc 1) (Zc 6)) (ZB ZA (ZB ZA (ZB ZA (Zc 0) (Zm _)) (Zc 6)) (Zm _)))) (by decide) (by decide) (by decide))) (Zz (Zbg (Gs.seq (Zc 3)) (PutOk.one (by decide)) (by decide) (by decide) (ZW (O' := []) (ZD Zbr (Zc 5) (Zac Zbb (ZB ZA (Zc 1) (Zc 6)) (ZB ZA (ZB ZA (ZB ZA (Zc 0) (Zm _)) (Zm _)) (Zc 6)))) (by decide) (by decide) (by decide))) (ZR (O' := []) (Zc 5) (by decide)))))))))))
noncomputable def Zi0 : Sm := ZG (Zj oEq (Zt Zgn (Zf (ZaA (Zbz (Zdj (Zb 0) 1)) (put1 100) (ZH (Zj oNe (Zb 100) (Zl 0))) (Zb 100)) Zo)) (Zb7 (Zf (eUn Zbx (Zl 1)) (Zf (Zl 1) Zo))))
noncomputable def Zi1 : List V → Hp → Option (V × Hp) := Z6 1 Zi0
noncomputable def Zi2 : PS := (ZF (Ze qEq (Zs Zia (Zd (Zam (ZaH (ZcG (Za 0) 1)) (Zab 100) (ZE (Ze qNe (Za 100) (Zk 0))) (Za 100)) Zn)) (ZbF (Zd (pUn Zbh (Zk 1)) (Zd (Zk 1) Zn)))))
noncomputable def ZgU : List T → Option T := Zaa 1 Zi2
theorem ZqX : SimF false Zi1 ZgU := Zaf (show S [] [] [] false Zi0 Zi2 from (ZR (O' := []) (ZD ZaF (Zgl Zt9 (Zh (Zcb (Gs.seq (Zfr (Zc 0))) (PutOk.one (by decide)) (by decide) (ZJ (ZD ZbA (Zc 100) (Zm _))) (Zc 100)) Zp)) (E.list (Zh (ZbL ZbM (Zm _)) (Zh (Zm _) Zp)) (by decide))) (by decide)))
noncomputable def Zjk : Sm := Zw (ZN 1 (Zj Zv (Zb 0) (Zl 0))) (ZG (ZaA (ZaM (Zf (Zl 1) (Zf (Zt ZaE (Zf (Zb 1) Zo)) Zo))) (put1 100) Zao (ZaK (Zf (Zt ZeS (Zf (Zj Zv (Zj Zv (Zb 1) (Zl 0)) (Zb 100)) (Zf (eUn Zbx (Zl 1)) Zo))) (Zf (Zj Zv (Zj Zv (Zb 1) (Zb 100)) (Zl 0)) Zo)))))
noncomputable def Zjl : List V → Hp → Option (V × Hp) := Z6 1 Zjk
noncomputable def Zjm : PS := (Zu (ZM 1 (Ze Zr (Za 0) (Zk 0))) (ZF (Zam (Zaz (Zd (Zk 1) (Zd (Zs Zaq (Zd (Za 1) Zn)) Zn))) (Zab 100) Zag (ZaL (Zd (Zs Zei (Zd (Ze Zr (Ze Zr (Za 1) (Zk 0)) (Za 100)) (Zd (pUn Zbh (Zk 1)) Zn))) (Zd (Ze Zr (Ze Zr (Za 1) (Za 100)) (Zk 0)) Zn))))))
noncomputable def ZgZ : List T → Option T := Zaa 1 Zjm
theorem Zra : SimF false Zjl ZgZ := Zaf (show S [] [] [] false Zjk Zjm from (Zz (ZW (O' := []) (ZB ZA (Zc 0) (Zm _)) (by decide) (by decide) (by decide)) (ZR (O' := []) (Zcb (Gs.range (Zh (Zm _) (Zh (Zat ZaR (Zh (Zc 1) Zp)) Zp))) (PutOk.one (by decide)) (by decide) Zaw (E.tup (Zh (ZK Zhm (Zh (ZB ZA (ZB ZA (Zc 1) (Zm _)) (Zc 100)) (Zh (ZbL ZbM (Zm _)) Zp))) (Zh (ZB ZA (ZB ZA (Zc 1) (Zc 100)) (Zm _)) Zp)) (by decide))) (by decide))))
noncomputable def Zll : Sm := Zw (ZT (ZH (Zt Zi1 (Zf (Zb 1) Zo))) (ZG (Zt ZdW (Zf (Zj Zv (Zj Zv (Zj Zv (Zb 0) (Zl 0)) (Zgy (Zb 1) (Zl 1) (Zl 1))) (Zgy (Zb 1) (eUn Zbx (Zl 1)) (Zl 1))) (Zf (Zj Zv (Zb 1) (Zl 0)) Zo)))) Z0) (ZG (Zj Zv (Zt Zju (Zf (Zb 1) (Zf (Zt Zjl (Zf (Zb 0) Zo)) Zo))) (Zl 1)))
noncomputable def Zf2 : List V → Hp → Option (V × Hp) := Z6 2 Zll
noncomputable def Zlm : PS := (Zu (ZU (ZE (Zs ZgU (Zd (Za 1) Zn))) (ZF (Zs ZdB (Zd (Ze Zr (Ze Zr (Ze Zr (Za 0) (Zk 0)) (Zgz (Za 1) (Zk 1) (Zk 1))) (Zgz (Za 1) (pUn Zbh (Zk 1)) (Zk 1))) (Zd (Ze Zr (Za 1) (Zk 0)) Zn)))) ZX) (ZF (Ze Zr (Zs Zg0 (Zd (Za 1) (Zd (Zs ZgZ (Zd (Za 0) Zn)) Zn))) (Zk 1))))
noncomputable def ZeY : List T → Option T := Zaa 2 Zlm
theorem Zln : SimF false Zf2 ZeY := Zaf (show S [] [] [] false Zll Zlm from (Zz (Z2 (ZJ (ZK ZqX (Zh (Zc 1) Zp))) (ZR (O' := []) (ZK ZeV (Zh (ZB ZA (ZB ZA (ZB ZA (Zc 0) (Zm _)) (E.index (Zc 1) (Zm _) (Zm _))) (E.index (Zc 1) (ZbL ZbM (Zm _)) (Zm _))) (Zh (ZB ZA (Zc 1) (Zm _)) Zp))) (by decide)) Z4) (ZR (O' := []) (ZB ZA (ZK Zrp (Zh (Zc 1) (Zh (ZK Zra (Zh (Zc 0) Zp)) Zp))) (Zm _)) (by decide))))
noncomputable def ZkE : Sm := ZG (ZaA (Zbz (Zb 0)) (put1 100) Zao (Zj ZaV (Zb 100) (Zb 1)))
noncomputable def Zdz : List V → Hp → Option (V × Hp) := Z6 2 ZkE
noncomputable def ZkF : PS := (ZF (Zam (ZaH (Za 0)) (Zab 100) Zag (Ze ZaG (Za 100) (Za 1))))
noncomputable def Zdp : List T → Option T := Zaa 2 ZkF
theorem Zej : SimF false Zdz Zdp := Zaf (show S [] [] [] false ZkE ZkF from (ZR (O' := []) (Zcb (Gs.seq (Zc 0)) (PutOk.one (by decide)) (by decide) Zaw (Zac Zbb (Zc 100) (Zc 1))) (by decide)))
noncomputable def ZmP : Sm := ZG (Zt ZeS (Zf (Zt Zf2 (Zf (Zb 0) (Zf (Zt Zdz (Zf (Zb 1) (Zf (eUn Zbx (Zl 1)) Zo))) Zo))) (Zf (eUn Zbx (Zl 1)) Zo)))
noncomputable def ZmQ : List V → Hp → Option (V × Hp) := Z6 2 ZmP
noncomputable def ZmR : PS := (ZF (Zs Zei (Zd (Zs ZeY (Zd (Za 0) (Zd (Zs Zdp (Zd (Za 1) (Zd (pUn Zbh (Zk 1)) Zn))) Zn))) (Zd (pUn Zbh (Zk 1)) Zn))))
noncomputable def Zgr : List T → Option T := Zaa 2 ZmR
theorem Zvb : SimF false ZmQ Zgr := Zaf (show S [] [] [] false ZmP ZmR from (ZR (O' := []) (ZK Zhm (Zh (ZK Zln (Zh (Zc 0) (Zh (ZK Zej (Zh (Zc 1) (Zh (ZbL ZbM (Zm _)) Zp))) Zp))) (Zh (ZbL ZbM (Zm _)) Zp))) (by decide)))
noncomputable def ZkG : Sm := ZG (Zj Zah (Zj Zv (Zb 0) (Zl 0)) (Zt ZgK (Zf (ZaA (ZaM (Zf (Zt ZaE (Zf (Zb 1) Zo)) Zo)) (put1 100) Zao (Zj ZaV (Zj Zv (Zb 0) (Zj Zah (Zb 100) (Zl 1))) (Zj Zv (Zb 1) (Zb 100)))) Zo)))
noncomputable def ZkH : List V → Hp → Option (V × Hp) := Z6 2 ZkG
noncomputable def ZkI : PS := (ZF (Ze Zae (Ze Zr (Za 0) (Zk 0)) (Zs ZiL (Zd (Zam (Zaz (Zd (Zs Zaq (Zd (Za 1) Zn)) Zn)) (Zab 100) Zag (Ze ZaG (Ze Zr (Za 0) (Ze Zae (Za 100) (Zk 1))) (Ze Zr (Za 1) (Za 100)))) Zn))))
noncomputable def Zho : List T → Option T := Zaa 2 ZkI
theorem Zsb : SimF false ZkH Zho := Zaf (show S [] [] [] false ZkG ZkI from (ZR (O' := []) (Zac Zak (ZB ZA (Zc 0) (Zm _)) (Zat Zwt (Zh (Zcb (Gs.range (Zh (Zat ZaR (Zh (Zc 1) Zp)) Zp)) (PutOk.one (by decide)) (by decide) Zaw (Zac Zbb (ZB ZA (Zc 0) (Zac Zak (Zc 100) (Zm _))) (ZB ZA (Zc 1) (Zc 100)))) Zp))) (by decide)))
noncomputable def Zlo : Sm := ZG (ZaA (ZdN (Zb 0) (Zb 1)) (Zcu 100 101) Zao (Zj Zah (Zb 100) (Zb 101)))
noncomputable def Zlp : List V → Hp → Option (V × Hp) := Z6 2 Zlo
noncomputable def Zlq : PS := (ZF (Zam (ZdP (Za 0) (Za 1)) (ZcO 100 101) Zag (Ze Zae (Za 100) (Za 101))))
noncomputable def ZhB : List T → Option T := Zaa 2 Zlq
theorem Zsx : SimF false Zlp ZhB := Zaf (show S [] [] [] false Zlo Zlq from (ZR (O' := []) (Zcb (Gs.zip (Zc 0) (Zc 1)) (PutOk.two (by decide) (by decide) (by decide)) (by decide) Zaw (Zac Zak (Zc 100) (Zc 101))) (by decide)))
noncomputable def Zlr : Sm := ZG (Zt Zlp (Zf (Zb 0) (Zf (Zt Zdz (Zf (Zb 1) (Zf (eUn Zbx (Zl 1)) Zo))) Zo)))
noncomputable def Zf3 : List V → Hp → Option (V × Hp) := Z6 2 Zlr
noncomputable def Zls : PS := (ZF (Zs ZhB (Zd (Za 0) (Zd (Zs Zdp (Zd (Za 1) (Zd (pUn Zbh (Zk 1)) Zn))) Zn))))
noncomputable def ZeZ : List T → Option T := Zaa 2 Zls
theorem Zlt : SimF false Zf3 ZeZ := Zaf (show S [] [] [] false Zlr Zls from (ZR (O' := []) (ZK Zsx (Zh (Zc 0) (Zh (ZK Zej (Zh (Zc 1) (Zh (ZbL ZbM (Zm _)) Zp))) Zp))) (by decide)))
noncomputable def Zl4 : Sm := ZG (ZaA (ZaM (Zf (Zj Zah (Zb 1) (Zl 1)) Zo)) (put1 100) Zao (eIf (Zav (ZH (Zj oGt (Zb 0) (Zl 0))) (Zav (ZH (Zj oEq (Zb 100) (Zb 0))) Zao)) (Zl 1) (Zl 0)))
noncomputable def Ze8 : List V → Hp → Option (V × Hp) := Z6 2 Zl4
noncomputable def Zl5 : PS := (ZF (Zam (Zaz (Zd (Ze Zae (Za 1) (Zk 1)) Zn)) (Zab 100) Zag (pIf (Zap (ZE (Ze qGt (Za 0) (Zk 0))) (Zap (ZE (Ze qEq (Za 100) (Za 0))) Zag)) (Zk 1) (Zk 0))))
noncomputable def Zem : List T → Option T := Zaa 2 Zl5
theorem ZhO : SimF false Ze8 Zem := Zaf (show S [] [] [] false Zl4 Zl5 from (ZR (O' := []) (Zcb (Gs.range (Zh (Zac Zak (Zc 1) (Zm _)) Zp)) (PutOk.one (by decide)) (by decide) Zaw (Zey (ZaC (ZJ (ZD Zdn (Zc 0) (Zm _))) (ZaC (ZJ (ZD ZaF (Zc 100) (Zc 0))) Zaw)) (E.sh (Zm _)) (E.sh (Zm _)))) (by decide)))
noncomputable def Zj3 : Sm := ZG (Zt ZdW (Zf (Zt Zf2 (Zf (Zb 0) (Zf (Zt Zf3 (Zf (Zb 1) (Zf (Zb 2) Zo))) Zo))) (Zf (Zb 3) Zo)))
noncomputable def Zhc : List V → Hp → Option (V × Hp) := Z6 4 Zj3
noncomputable def Zj4 : PS := (ZF (Zs ZdB (Zd (Zs ZeY (Zd (Za 0) (Zd (Zs ZeZ (Zd (Za 1) (Zd (Za 2) Zn))) Zn))) (Zd (Za 3) Zn))))
noncomputable def ZfP : List T → Option T := Zaa 4 Zj4
theorem ZnW : SimF false Zhc ZfP := Zaf (show S [] [] [] false Zj3 Zj4 from (ZR (O' := []) (ZK ZeV (Zh (ZK Zln (Zh (Zc 0) (Zh (ZK Zlt (Zh (Zc 1) (Zh (Zc 2) Zp))) Zp))) (Zh (Zc 3) Zp))) (by decide)))
noncomputable def Zg3 : Sm := Zw (ZN 4 (Zt ZaE (Zf (Zj Zv (Zb 1) (Zl 1)) Zo))) (ZaO (ZaM (Zf (Zj Zah (Zb 4) (Zl 1)) Zo)) (put1 5) (ZaO (ZaM (Zf (Zj Zah (Zb 4) (Zl 1)) Zo)) (put1 6) (Zw (ZN 7 (Zt Zf3 (Zf (Zt Ze8 (Zf (Zb 5) (Zf (Zb 4) Zo))) (Zf (Zt Ze8 (Zf (Zb 6) (Zf (Zb 4) Zo))) Zo)))) (Zcd (Zt Zf1 (Zf (Zb 0) (Zf (Zb 5) (Zf (Zb 6) (Zf (Zt Zhc (Zf (Zb 1) (Zf (Zb 7) (Zf (Zb 2) (Zf (Zb 3) Zo))))) Zo)))))))))
noncomputable def ZjF : List V → Hp → Option (V × Hp) := Z6 4 Zg3
noncomputable def ZjG : PS := (Zu (ZM 4 (Zs Zaq (Zd (Ze Zr (Za 1) (Zk 1)) Zn))) (ZaI (Zaz (Zd (Ze Zae (Za 4) (Zk 1)) Zn)) (Zab 5) (ZaI (Zaz (Zd (Ze Zae (Za 4) (Zk 1)) Zn)) (Zab 6) (Zu (ZM 7 (Zs ZeZ (Zd (Zs Zem (Zd (Za 5) (Zd (Za 4) Zn))) (Zd (Zs Zem (Zd (Za 6) (Zd (Za 4) Zn))) Zn)))) (Zdv 0 ZeX (Zd (Za 5) (Zd (Za 6) (Zd (Zs ZfP (Zd (Za 1) (Zd (Za 7) (Zd (Za 2) (Zd (Za 3) Zn))))) Zn))))))))
noncomputable def Zg4 : List T → Option T := Zec 4 ZjG
theorem Zrt : SimM ZjF Zg4 := Zh8 (show S [0] [0] [0] false Zg3 ZjG from (Zz (ZW (O' := [0]) (Zat ZaR (Zh (ZB ZA (Zc 1) (Zm _)) Zp)) (by decide) (by decide) (by decide)) (Zbg (Gs.range (Zh (Zac Zak (Zc 4) (Zm _)) Zp)) (PutOk.one (by decide)) (by decide) (by decide) (Zbg (Gs.range (Zh (Zac Zak (Zc 4) (Zm _)) Zp)) (PutOk.one (by decide)) (by decide) (by decide) (Zz (ZW (O' := [0]) (ZK Zlt (Zh (ZK ZhO (Zh (Zc 5) (Zh (Zc 4) Zp))) (Zh (ZK ZhO (Zh (Zc 6) (Zh (Zc 4) Zp))) Zp))) (by decide) (by decide) (by decide)) (Zft (O' := [0]) (by decide) Zlk (Zh (Zc 5) (Zh (Zc 6) (Zh (ZK ZnW (Zh (Zc 1) (Zh (Zc 7) (Zh (Zc 2) (Zh (Zc 3) Zp))))) Zp))) (by decide) (by decide))))))) (by decide) (by unfold Zg3; repeat' first | exact Keep0.next | exact ZhH | exact Keep0.ret | exact Keep0.put | apply Keep0.seq | apply ZhI | exact Keep0.set (by decide) | apply ZoM (Zou (by decide)))
noncomputable def Zj5 : Sm := Zw (ZT (ZH (Zj oIs (Zb 0) (ZY))) (ZG (ZY)) Z0) (ZG (Zj oDiv (Zb 0) (Zb 1)))
noncomputable def Zhd : List V → Hp → Option (V × Hp) := Z6 2 Zj5
noncomputable def Zj6 : PS := (Zu (ZU (ZE (Ze qIs (Za 0) (ZZ))) (ZF (ZZ)) ZX) (ZF (Ze Zcv (Za 0) (Za 1))))
noncomputable def ZfQ : List T → Option T := Zaa 2 Zj6
theorem ZnX : SimF false Zhd ZfQ := Zaf (show S [] [] [] false Zj5 Zj6 from (Zz (Z2 (ZJ (ZD Zbl (Zc 0) (Z9))) (ZR (O' := []) (Z9) (by decide)) Z4) (ZR (O' := []) (ZD Zc0 (Zc 0) (Zc 1)) (by decide))))
noncomputable def Zg5 : Sm := Zw (ZN 4 (Zt ZaE (Zf (Zj Zv (Zb 1) (Zl 1)) Zo))) (ZaO (ZaM (Zf (Zl 1) (Zf (Zj Zah (Zb 4) (Zl 1)) Zo))) (put1 5) (Zw (ZN 6 (Zj Zv (Zb 2) (Zb 5))) (Zw (ZN 7 (Zt Zhc (Zf (Zb 1) (Zf (Zt Zdz (Zf (Zt Ze8 (Zf (Zb 5) (Zf (Zb 4) Zo))) (Zf (Zb 6) Zo))) (Zf (Zb 2) (Zf (Zb 3) Zo)))))) (Zw (ZT (ZH (Zj oGt (Zb 6) (Zl 0))) (Zcd (Zt Zf1 (Zf (Zb 0) (Zf (Zb 5) (Zf (Zl 0) (Zf (Zt Zhd (Zf (Zb 7) (Zf (Zb 6) Zo))) Zo)))))) Z0) (ZT (ZH (Zj oLt (Zb 6) (Zl 0))) (Zcd (Zt Zf1 (Zf (Zb 0) (Zf (Zl 0) (Zf (Zb 5) (Zf (Zt Zhd (Zf (Zb 7) (Zf (eUn Zbx (Zb 6)) Zo))) Zo)))))) Z0)))))
noncomputable def ZjH : List V → Hp → Option (V × Hp) := Z6 4 Zg5
noncomputable def ZjI : PS := (Zu (ZM 4 (Zs Zaq (Zd (Ze Zr (Za 1) (Zk 1)) Zn))) (ZaI (Zaz (Zd (Zk 1) (Zd (Ze Zae (Za 4) (Zk 1)) Zn))) (Zab 5) (Zu (ZM 6 (Ze Zr (Za 2) (Za 5))) (Zu (ZM 7 (Zs ZfP (Zd (Za 1) (Zd (Zs Zdp (Zd (Zs Zem (Zd (Za 5) (Zd (Za 4) Zn))) (Zd (Za 6) Zn))) (Zd (Za 2) (Zd (Za 3) Zn)))))) (Zu (ZU (ZE (Ze qGt (Za 6) (Zk 0))) (Zdv 0 ZeX (Zd (Za 5) (Zd (Zk 0) (Zd (Zs ZfQ (Zd (Za 7) (Zd (Za 6) Zn))) Zn)))) ZX) (ZU (ZE (Ze qLt (Za 6) (Zk 0))) (Zdv 0 ZeX (Zd (Zk 0) (Zd (Za 5) (Zd (Zs ZfQ (Zd (Za 7) (Zd (pUn Zbh (Za 6)) Zn))) Zn)))) ZX))))))
noncomputable def Zg6 : List T → Option T := Zec 4 ZjI
theorem Zru : SimM ZjH Zg6 := Zh8 (show S [0] [0] [0] false Zg5 ZjI from (Zz (ZW (O' := [0]) (Zat ZaR (Zh (ZB ZA (Zc 1) (Zm _)) Zp)) (by decide) (by decide) (by decide)) (Zbg (Gs.range (Zh (Zm _) (Zh (Zac Zak (Zc 4) (Zm _)) Zp))) (PutOk.one (by decide)) (by decide) (by decide) (Zz (ZW (O' := [0]) (ZB ZA (Zc 2) (Zc 5)) (by decide) (by decide) (by decide)) (Zz (ZW (O' := [0]) (ZK ZnW (Zh (Zc 1) (Zh (ZK Zej (Zh (ZK ZhO (Zh (Zc 5) (Zh (Zc 4) Zp))) (Zh (Zc 6) Zp))) (Zh (Zc 2) (Zh (Zc 3) Zp))))) (by decide) (by decide) (by decide)) (Zz (Z2 (ZJ (ZD Zdn (Zc 6) (Zm _))) (Zft (O' := [0]) (by decide) Zlk (Zh (Zc 5) (Zh (Zm _) (Zh (ZK ZnX (Zh (Zc 7) (Zh (Zc 6) Zp))) Zp))) (by decide) (by decide)) Z4) (Z2 (ZJ (ZD Zcm (Zc 6) (Zm _))) (Zft (O' := [0]) (by decide) Zlk (Zh (Zm _) (Zh (Zc 5) (Zh (ZK ZnX (Zh (Zc 7) (Zh (ZbL ZbM (Zc 6)) Zp))) Zp))) (by decide) (by decide)) Z4))))))) (by decide) (by unfold Zg5; repeat' first | exact Keep0.next | exact ZhH | exact Keep0.ret | exact Keep0.put | apply Keep0.seq | apply ZhI | exact Keep0.set (by decide) | apply ZoM (Zou (by decide)))
noncomputable def Zl6 : Sm := Zw (ZT (tOr (ZH (Zj oIs (Zb 0) (ZY))) (tOr (ZH (Zt ZlU (Zf (Zt ZmQ (Zf (Zb 0) (Zf (Zb 1) Zo))) (Zf (Zb 2) Zo)))) Zcn)) (ZG (ZY)) Z0) (Zw (ZN 3 (Zt Zgp (Zf (Zj Zv (Zb 0) (Zl 0)) Zo))) (Zw (Zcd (Zt ZjF (Zf (Zb 3) (Zf (Zb 0) (Zf (Zb 1) (Zf (Zb 2) Zo)))))) (Zw (Zcd (Zt ZjH (Zf (Zb 3) (Zf (Zb 0) (Zf (Zb 1) (Zf (Zb 2) Zo)))))) (ZG (Zt Zib (Zf (ZaK (Zf (Zb 3) (Zf (Zj Zv (Zb 0) (Zl 1)) Zo))) Zo))))))
noncomputable def ZdX : List V → Hp → Option (V × Hp) := Z6 3 Zl6
noncomputable def Zgc : PS := (Zu (ZU (bOr (ZE (Ze qIs (Za 0) (ZZ))) (bOr (ZE (Zs Ze6 (Zd (Zs Zgr (Zd (Za 0) (Zd (Za 1) Zn))) (Zd (Za 2) Zn)))) Zcp)) (ZF (ZZ)) ZX) (Zu (ZM 3 (Zs Zgq (Zd (Ze Zr (Za 0) (Zk 0)) Zn))) (Zu (Zdv 3 Zg4 (Zd (Za 0) (Zd (Za 1) (Zd (Za 2) Zn)))) (Zu (Zdv 3 Zg6 (Zd (Za 0) (Zd (Za 1) (Zd (Za 2) Zn)))) (ZF (Zs Zeq (Zd (ZaL (Zd (Za 3) (Zd (Ze Zr (Za 0) (Zk 1)) Zn))) Zn)))))))
noncomputable def Zb6 : List T → Option T := Zaa 3 Zgc
theorem Ze9 : SimF true ZdX Zb6 := Zaf (show S [] [3] [] true Zl6 Zgc from (Zz (Z2 (Zba (ZJ (ZD Zbl (Zc 0) (Z9))) (Zba (ZJ (ZK Ztf (Zh (ZK Zvb (Zh (Zc 0) (Zh (Zc 1) Zp))) (Zh (Zc 2) Zp)))) ZcJ)) (Za4 (O' := []) (Z9) (by decide) (by decide)) Z4) (Zz (ZcC (O' := [3]) (Zbw ZmO (Zh (ZB ZA (Zc 0) (Zm _)) Zp)) (by decide)) (Zz (Zft (O' := [3]) (by decide) Zrt (Zh (Zc 0) (Zh (Zc 1) (Zh (Zc 2) Zp))) (by decide) (by decide)) (Zz (Zft (O' := [3]) (by decide) Zru (Zh (Zc 0) (Zh (Zc 1) (Zh (Zc 2) Zp))) (by decide) (by decide)) (Za4 (O' := [3]) (Zbw ZpQ (Zh (E.tup (Zh (Zc 3) (Zh (ZB ZA (Zc 0) (Zm _)) Zp)) (by decide)) Zp)) (by decide) (by decide)))))))
noncomputable def Zj7 : Sm := Zw (ZT (ZH (Zb 2)) (ZG (Zt ZdX (Zf (Zb 0) (Zf (Zb 1) (Zf (eUn Zbx (Zl 1)) Zo))))) Z0) (ZG (Zt ZdX (Zf (Zb 0) (Zf (Zt Zdz (Zf (Zb 1) (Zf (eUn Zbx (Zl 1)) Zo))) (Zf (Zl 0) Zo)))))
noncomputable def Zj8 : List V → Hp → Option (V × Hp) := Z6 3 Zj7
noncomputable def Zhe : PS := (Zu (ZU (ZE (Za 2)) (ZF (Zs Zb6 (Zd (Za 0) (Zd (Za 1) (Zd (pUn Zbh (Zk 1)) Zn))))) ZX) (ZF (Zs Zb6 (Zd (Za 0) (Zd (Zs Zdp (Zd (Za 1) (Zd (pUn Zbh (Zk 1)) Zn))) (Zd (Zk 0) Zn))))))
noncomputable def Zeg : List T → Option T := Zaa 3 Zhe
theorem ZrQ : SimF true Zj8 Zeg := Zaf (show S [] [] [] true Zj7 Zhe from (Zz (Z2 (ZJ (Zc 2)) (Za4 (O' := []) (Zbw Ze9 (Zh (Zc 0) (Zh (Zc 1) (Zh (ZbL ZbM (Zm _)) Zp)))) (by decide) (by decide)) Z4) (Za4 (O' := []) (Zbw Ze9 (Zh (Zc 0) (Zh (ZK Zej (Zh (Zc 1) (Zh (ZbL ZbM (Zm _)) Zp))) (Zh (Zm _) Zp)))) (by decide) (by decide))))
noncomputable def Zi3 : Sm := ZG (Zt Zfv (Zf (Zt Zgb (Zf (Zj Zv (Zb 0) (Zl 0)) (Zf (Zb 1) Zo))) (Zf (Zj Zv (Zb 0) (Zl 1)) Zo)))
noncomputable def ZgV : List V → Hp → Option (V × Hp) := Z6 2 Zi3
noncomputable def ZnD : PS := (ZF (Zs Zeu (Zd (Zs Ze5 (Zd (Ze Zr (Za 0) (Zk 0)) (Zd (Za 1) Zn))) (Zd (Ze Zr (Za 0) (Zk 1)) Zn))))
noncomputable def Zi4 : List T → Option T := Zaa 2 ZnD
theorem ZnE : SimF false ZgV Zi4 := Zaf (show S [] [] [] false Zi3 ZnD from (ZR (O' := []) (ZK Zip (Zh (ZK ZlP (Zh (ZB ZA (Zc 0) (Zm _)) (Zh (Zc 1) Zp))) (Zh (ZB ZA (Zc 0) (Zm _)) Zp))) (by decide)))
noncomputable def ZjJ : Sm := Zw (ZN 4 (Zj Zv (Zb 1) (Zb 3))) (Zw (ZN 5 (Zj Zv (Zb 0) (Zj Zbj (Zb 3) (Zl 1)))) (Zw (ZT (ZH (Zj oNe (Zt Zc3 (Zf (Zb 4) Zo)) (Zl 1))) (ZG (Zb 5)) Z0) (Zw (ZN 6 (Zt Zf3 (Zf (Zb 1) (Zf (Zt Zdz (Zf (Zt Ze8 (Zf (Zb 3) (Zf (Zt ZaE (Zf (Zb 0) Zo)) Zo))) (Zf (Zb 4) Zo))) Zo)))) (ZG (Zt Zhw (Zf (Zb 5) (Zf (Zt ZgV (Zf (Zt ZfN (Zf (Zt ZeW (Zf (Zb 6) (Zf (Zb 0) Zo))) (Zf (eUn Zbx (Zb 4)) Zo))) (Zf (Zb 2) Zo))) Zo)))))))
noncomputable def ZjK : List V → Hp → Option (V × Hp) := Z6 4 ZjJ
noncomputable def ZnP : PS := (Zu (ZM 4 (Ze Zr (Za 1) (Za 3))) (Zu (ZM 5 (Ze Zr (Za 0) (Ze ZaX (Za 3) (Zk 1)))) (Zu (ZU (ZE (Ze qNe (Zs Zc5 (Zd (Za 4) Zn)) (Zk 1))) (ZF (Za 5)) ZX) (Zu (ZM 6 (Zs ZeZ (Zd (Za 1) (Zd (Zs Zdp (Zd (Zs Zem (Zd (Za 3) (Zd (Zs Zaq (Zd (Za 0) Zn)) Zn))) (Zd (Za 4) Zn))) Zn)))) (ZF (Zs ZfY (Zd (Za 5) (Zd (Zs Zi4 (Zd (Zs ZeN (Zd (Zs ZfZ (Zd (Za 6) (Zd (Za 0) Zn))) (Zd (pUn Zbh (Za 4)) Zn))) (Zd (Za 2) Zn))) Zn))))))))
noncomputable def ZnQ : List T → Option T := Zaa 4 ZnP
theorem Zrv : SimF false ZjK ZnQ := Zaf (show S [] [] [] false ZjJ ZnP from (Zz (ZW (O' := []) (ZB ZA (Zc 1) (Zc 3)) (by decide) (by decide) (by decide)) (Zz (ZW (O' := []) (ZB ZA (Zc 0) (ZD Zbr (Zc 3) (Zm _))) (by decide) (by decide) (by decide)) (Zz (Z2 (ZJ (ZD ZbA (Zat ZdK (Zh (Zc 4) Zp)) (Zm _))) (ZR (O' := []) (Zc 5) (by decide)) Z4) (Zz (ZW (O' := []) (ZK Zlt (Zh (Zc 1) (Zh (ZK Zej (Zh (ZK ZhO (Zh (Zc 3) (Zh (Zat ZaR (Zh (Zc 0) Zp)) Zp))) (Zh (Zc 4) Zp))) Zp))) (by decide) (by decide) (by decide)) (ZR (O' := []) (ZK Zov (Zh (Zc 5) (Zh (ZK ZnE (Zh (ZK ZjV (Zh (ZK Zhy (Zh (Zc 6) (Zh (Zc 0) Zp))) (Zh (ZbL ZbM (Zc 4)) Zp))) (Zh (Zc 2) Zp))) Zp))) (by decide)))))))
noncomputable def ZkJ : Sm := Zw (ZT (ZH (Zj oIs (Zb 0) (ZY))) (ZG (ZY)) Z0) (Zw (ZN 3 (ZaA (ZaM (Zf (Zl 1) (Zf (Zt ZaE (Zf (Zb 1) Zo)) Zo))) (put1 100) Zao (Zt ZjK (Zf (Zj Zv (Zb 0) (Zl 1)) (Zf (Zb 1) (Zf (Zb 2) (Zf (Zb 100) Zo))))))) (Zw (ZT (ZH (Zj oIn (ZY) (Zb 3))) (ZG (ZY)) Z0) (ZG (Zt Zib (Zf (ZaK (Zf (Zj Zv (Zb 0) (Zl 0)) (Zf (Zb 3) Zo))) Zo)))))
noncomputable def Zhp : List V → Hp → Option (V × Hp) := Z6 3 ZkJ
noncomputable def Zn8 : PS := (Zu (ZU (ZE (Ze qIs (Za 0) (ZZ))) (ZF (ZZ)) ZX) (Zu (ZM 3 (Zam (Zaz (Zd (Zk 1) (Zd (Zs Zaq (Zd (Za 1) Zn)) Zn))) (Zab 100) Zag (Zs ZnQ (Zd (Ze Zr (Za 0) (Zk 1)) (Zd (Za 1) (Zd (Za 2) (Zd (Za 100) Zn))))))) (Zu (ZU (ZE (Ze qIn (ZZ) (Za 3))) (ZF (ZZ)) ZX) (ZF (Zs Zeq (Zd (ZaL (Zd (Ze Zr (Za 0) (Zk 0)) (Zd (Za 3) Zn))) Zn))))))
noncomputable def ZkK : List T → Option T := Zaa 3 Zn8
theorem Zn9 : SimF true Zhp ZkK := Zaf (show S [] [] [] true ZkJ Zn8 from (Zz (Z2 (ZJ (ZD Zbl (Zc 0) (Z9))) (Za4 (O' := []) (Z9) (by decide) (by decide)) Z4) (Zz (ZW (O' := []) (Zcb (Gs.range (Zh (Zm _) (Zh (Zat ZaR (Zh (Zc 1) Zp)) Zp))) (PutOk.one (by decide)) (by decide) Zaw (ZK Zrv (Zh (ZB ZA (Zc 0) (Zm _)) (Zh (Zc 1) (Zh (Zc 2) (Zh (Zc 100) Zp)))))) (by decide) (by decide) (by decide)) (Zz (Z2 (ZJ (ZD ZfD (Z9) (Zc 3))) (Za4 (O' := []) (Z9) (by decide) (by decide)) Z4) (Za4 (O' := []) (Zbw ZpQ (Zh (E.tup (Zh (ZB ZA (Zc 0) (Zm _)) (Zh (Zc 3) Zp)) (by decide)) Zp)) (by decide) (by decide))))))
noncomputable def ZkL : Sm := Zw (ZT (Zcc (ZH (Zt Zel (Zf (Zt ZgV (Zf (Zt ZeW (Zf (Zb 1) (Zf (Zj Zv (Zb 0) (Zl 1)) Zo))) (Zf (Zb 2) Zo))) (Zf (Zl 0) Zo))))) (ZG (ZY)) Z0) (ZG (Zt Zhp (Zf (Zb 0) (Zf (Zb 1) (Zf (Zb 2) Zo)))))
noncomputable def Zhq : List V → Hp → Option (V × Hp) := Z6 3 ZkL
noncomputable def Zoa : PS := (Zu (ZU (ZbQ (ZE (Zs ZdV (Zd (Zs Zi4 (Zd (Zs ZfZ (Zd (Za 1) (Zd (Ze Zr (Za 0) (Zk 1)) Zn))) (Zd (Za 2) Zn))) (Zd (Zk 0) Zn))))) (ZF (ZZ)) ZX) (ZF (Zs ZkK (Zd (Za 0) (Zd (Za 1) (Zd (Za 2) Zn))))))
noncomputable def ZkM : List T → Option T := Zaa 3 Zoa
theorem Zob : SimF true Zhq ZkM := Zaf (show S [] [] [] true ZkL Zoa from (Zz (Z2 (ZcB (ZJ (ZK ZfX (Zh (ZK ZnE (Zh (ZK Zhy (Zh (Zc 1) (Zh (ZB ZA (Zc 0) (Zm _)) Zp))) (Zh (Zc 2) Zp))) (Zh (Zm _) Zp))))) (Za4 (O' := []) (Z9) (by decide) (by decide)) Z4) (Za4 (O' := []) (Zbw Zn9 (Zh (Zc 0) (Zh (Zc 1) (Zh (Zc 2) Zp)))) (by decide) (by decide))))
noncomputable def Zi5 : Sm := Zw (ZT (ZH (Zt Zjs (Zf (Zt ZeW (Zf (Zb 1) (Zf (Zj Zv (Zb 0) (Zl 1)) Zo))) (Zf (ZaK (Zf (Zb 2) (Zf (Zl 0) Zo))) Zo)))) (ZG (ZY)) Z0) (Zw (ZT (ZH (Zj oEq (Zb 2) (Zl 2))) (ZG (Zt Zhq (Zf (Zb 0) (Zf (Zj Zah (Zb7 (Zf (Zj Zah (Zj Zv (Zb 1) (Zl 0)) (Zl 1)) Zo)) (Zdj (Zb 1) 1)) (Zf (Zl 2) Zo))))) Z0) (ZG (Zt Zgp (Zf (Zb 0) Zo))))
noncomputable def Zi6 : List V → Hp → Option (V × Hp) := Z6 3 Zi5
noncomputable def ZnF : PS := (Zu (ZU (ZE (Zs ZnO (Zd (Zs ZfZ (Zd (Za 1) (Zd (Ze Zr (Za 0) (Zk 1)) Zn))) (Zd (ZaL (Zd (Za 2) (Zd (Zk 0) Zn))) Zn)))) (ZF (ZZ)) ZX) (Zu (ZU (ZE (Ze qEq (Za 2) (Zk 2))) (ZF (Zs ZkM (Zd (Za 0) (Zd (Ze Zae (ZbF (Zd (Ze Zae (Ze Zr (Za 1) (Zk 0)) (Zk 1)) Zn)) (ZcG (Za 1) 1)) (Zd (Zk 2) Zn))))) ZX) (ZF (Zs Zgq (Zd (Za 0) Zn)))))
noncomputable def ZnG : List T → Option T := Zaa 3 ZnF
theorem ZqY : SimF true Zi6 ZnG := Zaf (show S [] [] [] true Zi5 ZnF from (Zz (Z2 (ZJ (ZK Zro (Zh (ZK Zhy (Zh (Zc 1) (Zh (ZB ZA (Zc 0) (Zm _)) Zp))) (Zh (E.tup (Zh (Zc 2) (Zh (Zm _) Zp)) (by decide)) Zp)))) (Za4 (O' := []) (Z9) (by decide) (by decide)) Z4) (Zz (Z2 (ZJ (ZD ZaF (Zc 2) (Zm _))) (Za4 (O' := []) (Zbw Zob (Zh (Zc 0) (Zh (Zac Zak (E.list (Zh (Zac Zak (ZB ZA (Zc 1) (Zm _)) (Zm _)) Zp) (by decide)) (Zfr (Zc 1))) (Zh (Zm _) Zp)))) (by decide) (by decide)) Z4) (Za4 (O' := []) (Zbw ZmO (Zh (Zc 0) Zp)) (by decide) (by decide)))))
noncomputable def ZkN : Sm := Zw (ZT (Zcc (ZH (Zt Zel (Zf (Zt ZeW (Zf (Zb 1) (Zf (Zj Zv (Zb 0) (Zl 1)) Zo))) (Zf (Zl 0) Zo))))) (ZG (ZY)) Z0) (Zw (ZN 2 (Zt ZdX (Zf (Zt ZdX (Zf (Zb 0) (Zf (Zb 1) (Zf (Zl 0) Zo)))) (Zf (Zt Zdz (Zf (Zb 1) (Zf (eUn Zbx (Zl 1)) Zo))) (Zf (Zl 0) Zo))))) (ZG (Zt Zhp (Zf (Zb 2) (Zf (Zb 1) (Zf (Zl 0) Zo))))))
noncomputable def ZkO : List V → Hp → Option (V × Hp) := Z6 2 ZkN
noncomputable def Zoc : PS := (Zu (ZU (ZbQ (ZE (Zs ZdV (Zd (Zs ZfZ (Zd (Za 1) (Zd (Ze Zr (Za 0) (Zk 1)) Zn))) (Zd (Zk 0) Zn))))) (ZF (ZZ)) ZX) (Zu (ZM 2 (Zs Zb6 (Zd (Zs Zb6 (Zd (Za 0) (Zd (Za 1) (Zd (Zk 0) Zn)))) (Zd (Zs Zdp (Zd (Za 1) (Zd (pUn Zbh (Zk 1)) Zn))) (Zd (Zk 0) Zn))))) (ZF (Zs ZkK (Zd (Za 2) (Zd (Za 1) (Zd (Zk 0) Zn)))))))
noncomputable def Zod : List T → Option T := Zaa 2 Zoc
theorem Zsc : SimF true ZkO Zod := Zaf (show S [] [] [] true ZkN Zoc from (Zz (Z2 (ZcB (ZJ (ZK ZfX (Zh (ZK Zhy (Zh (Zc 1) (Zh (ZB ZA (Zc 0) (Zm _)) Zp))) (Zh (Zm _) Zp))))) (Za4 (O' := []) (Z9) (by decide) (by decide)) Z4) (Zz (ZW (O' := []) (ZK Ze9 (Zh (ZK Ze9 (Zh (Zc 0) (Zh (Zc 1) (Zh (Zm _) Zp)))) (Zh (ZK Zej (Zh (Zc 1) (Zh (ZbL ZbM (Zm _)) Zp))) (Zh (Zm _) Zp)))) (by decide) (by decide) (by decide)) (Za4 (O' := []) (Zbw Zn9 (Zh (Zc 2) (Zh (Zc 1) (Zh (Zm _) Zp)))) (by decide) (by decide)))))
noncomputable def Zlu : Sm := Zw (ZT (Zav (ZH (Zj ZbC (Zb 0) (ZY))) (Zav (ZH (Zt Zhk (Zf (Zt Zf2 (Zf (Zb 0) (Zf (Zb 1) Zo))) (Zf (Zl 0) Zo)))) Zao)) (ZG (Zt ZdX (Zf (Zb 0) (Zf (Zb 1) (Zf (eUn Zbx (Zl 1)) Zo))))) Z0) (ZG (Zb 0))
noncomputable def ZhC : List V → Hp → Option (V × Hp) := Z6 2 Zlu
noncomputable def Zoy : PS := (Zu (ZU (Zap (ZE (Ze Zbm (Za 0) (ZZ))) (Zap (ZE (Zs ZfT (Zd (Zs ZeY (Zd (Za 0) (Zd (Za 1) Zn))) (Zd (Zk 0) Zn)))) Zag)) (ZF (Zs Zb6 (Zd (Za 0) (Zd (Za 1) (Zd (pUn Zbh (Zk 1)) Zn))))) ZX) (ZF (Za 0)))
noncomputable def Zlv : List T → Option T := Zaa 2 Zoy
theorem Zoz : SimF false ZhC Zlv := Zaf (show S [] [] [] false Zlu Zoy from (Zz (Z2 (ZaC (ZJ (ZD ZbV (Zc 0) (Z9))) (ZaC (ZJ (ZK Zn6 (Zh (ZK Zln (Zh (Zc 0) (Zh (Zc 1) Zp))) (Zh (Zm _) Zp)))) Zaw)) (ZR (O' := []) (ZK Ze9 (Zh (Zc 0) (Zh (Zc 1) (Zh (ZbL ZbM (Zm _)) Zp)))) (by decide)) Z4) (ZR (O' := []) (Zc 0) (by decide))))
noncomputable def Zi7 : Sm := ZG (Zt Zgp (Zf (Zt ZhC (Zf (Zt ZhC (Zf (Zb 0) (Zf (Zb 1) Zo))) (Zf (Zt Zdz (Zf (Zb 1) (Zf (eUn Zbx (Zl 1)) Zo))) Zo))) Zo))
noncomputable def Zi8 : List V → Hp → Option (V × Hp) := Z6 2 Zi7
noncomputable def ZnH : PS := (ZF (Zs Zgq (Zd (Zs Zlv (Zd (Zs Zlv (Zd (Za 0) (Zd (Za 1) Zn))) (Zd (Zs Zdp (Zd (Za 1) (Zd (pUn Zbh (Zk 1)) Zn))) Zn))) Zn)))
noncomputable def ZnI : List T → Option T := Zaa 2 ZnH
theorem ZqZ : SimF true Zi8 ZnI := Zaf (show S [] [] [] true Zi7 ZnH from (Za4 (O' := []) (Zbw ZmO (Zh (ZK Zoz (Zh (ZK Zoz (Zh (Zc 0) (Zh (Zc 1) Zp))) (Zh (ZK Zej (Zh (Zc 1) (Zh (ZbL ZbM (Zm _)) Zp))) Zp))) Zp)) (by decide) (by decide)))
noncomputable def Znb : Sm := Zw (ZT (ZH (Zj oIs (Zb 0) (ZY))) (ZG (ZY)) Z0) (Zw (ZT (ZH (Zj oEq (Zj Zv (Zb 1) (Zl 0)) (Zd8 (Str.ofString "under")))) (ZG (Zt Zj8 (Zf (Zb 0) (Zf (Zj Zv (Zb 1) (Zl 1)) (Zf (Zb 2) Zo))))) Z0) (Zw (ZT (ZH (Zj oEq (Zj Zv (Zb 1) (Zl 0)) (Zd8 (Str.ofString "same")))) (ZG (eIf (ZH (Zb 2)) (Zt ZkO (Zf (Zb 0) (Zf (Zj Zv (Zb 1) (Zl 1)) Zo))) (Zt Zi8 (Zf (Zb 0) (Zf (Zj Zv (Zb 1) (Zl 1)) Zo))))) Z0) (ZG (eIf (ZH (Zb 2)) (Zt Zhq (Zf (Zb 0) (Zf (Zj Zv (Zb 1) (Zl 1)) (Zf (Zj Zv (Zb 1) (Zl 2)) Zo)))) (Zt Zi6 (Zf (Zb 0) (Zf (Zj Zv (Zb 1) (Zl 1)) (Zf (Zj Zv (Zb 1) (Zl 2)) Zo))))))))
noncomputable def Zit : List V → Hp → Option (V × Hp) := Z6 3 Znb
noncomputable def Ziu : PS := (Zu (ZU (ZE (Ze qIs (Za 0) (ZZ))) (ZF (ZZ)) ZX) (Zu (ZU (ZE (Ze qEq (Ze Zr (Za 1) (Zk 0)) (Zd9 (Str.ofString "under")))) (ZF (Zs Zeg (Zd (Za 0) (Zd (Ze Zr (Za 1) (Zk 1)) (Zd (Za 2) Zn))))) ZX) (Zu (ZU (ZE (Ze qEq (Ze Zr (Za 1) (Zk 0)) (Zd9 (Str.ofString "same")))) (ZF (pIf (ZE (Za 2)) (Zs Zod (Zd (Za 0) (Zd (Ze Zr (Za 1) (Zk 1)) Zn))) (Zs ZnI (Zd (Za 0) (Zd (Ze Zr (Za 1) (Zk 1)) Zn))))) ZX) (ZF (pIf (ZE (Za 2)) (Zs ZkM (Zd (Za 0) (Zd (Ze Zr (Za 1) (Zk 1)) (Zd (Ze Zr (Za 1) (Zk 2)) Zn)))) (Zs ZnG (Zd (Za 0) (Zd (Ze Zr (Za 1) (Zk 1)) (Zd (Ze Zr (Za 1) (Zk 2)) Zn)))))))))
noncomputable def Zdf : List T → Option T := Zaa 3 Ziu
theorem Zqr : SimF true Zit Zdf := Zaf (show S [] [] [] true Znb Ziu from (Zz (Z2 (ZJ (ZD Zbl (Zc 0) (Z9))) (Za4 (O' := []) (Z9) (by decide) (by decide)) Z4) (Zz (Z2 (ZJ (ZD ZaF (ZB ZA (Zc 1) (Zm _)) (E.str _))) (Za4 (O' := []) (Zbw ZrQ (Zh (Zc 0) (Zh (ZB ZA (Zc 1) (Zm _)) (Zh (Zc 2) Zp)))) (by decide) (by decide)) Z4) (Zz (Z2 (ZJ (ZD ZaF (ZB ZA (Zc 1) (Zm _)) (E.str _))) (Za4 (O' := []) (Zey (ZJ (Zc 2)) (Zbw Zsc (Zh (Zc 0) (Zh (ZB ZA (Zc 1) (Zm _)) Zp))) (Zbw ZqZ (Zh (Zc 0) (Zh (ZB ZA (Zc 1) (Zm _)) Zp)))) (by decide) (by decide)) Z4) (Za4 (O' := []) (Zey (ZJ (Zc 2)) (Zbw Zob (Zh (Zc 0) (Zh (ZB ZA (Zc 1) (Zm _)) (Zh (ZB ZA (Zc 1) (Zm _)) Zp)))) (Zbw ZqY (Zh (Zc 0) (Zh (ZB ZA (Zc 1) (Zm _)) (Zh (ZB ZA (Zc 1) (Zm _)) Zp))))) (by decide) (by decide))))))
noncomputable def Zlw : Sm := Zw (ZN 3 (Zt Zco (Zf (Zb 0) Zo))) (Zw (ZT (ZH (Zj oGt (Zb 1) (Zl 0))) (Zby (Zj Zah (Zj Zv (Zb 3) (Zb 1)) (Zb 2)) (Zb 3) (Zb 1)) Z0) (ZG (Zb 3)))
noncomputable def Zf4 : List V → Hp → Option (V × Hp) := Z6 3 Zlw
noncomputable def Zlx : PS := (Zu (ZM 3 (pFl (Zs ZbX (Zd (Za 0) Zn)))) (Zu (ZU (ZE (Ze qGt (Za 1) (Zk 0))) (Zbc 3 [] (pFl (Ze Zae (Ze Zr (Za 3) (Za 1)) (Za 2))) ZaN (Za 1)) ZX) (ZF (Za 3))))
noncomputable def Ze0 : List T → Option T := Zaa 3 Zlx
theorem Zly : SimF false Zf4 Ze0 := Zaf (show S [] [3] [] false Zlw Zlx from (Zz (ZcC (O' := [3]) (Zeo Zdb (Zh (Zc 0) Zp)) (by decide)) (Zz (Z2 (ZJ (ZD Zdn (Zc 1) (Zm _))) (S.put (O' := [3]) (by decide) (Za3 (O' := []) (Zm4 Zak (ZB ZA (Zc 3) (Zc 1)) (Zc 2)) (by decide)) Zbq (Zc 1) (by decide) (by decide)) Z4) (ZR (O' := [3]) (Zc 3) (by decide)))))
noncomputable def Zj9 : Sm := Zw (ZT (ZH (Zj oIs (Zb 0) (ZY))) (ZG (Zb 1)) Z0) (Zw (ZT (ZH (Zj oIs (Zb 1) (ZY))) (ZG (Zb 0)) Z0) (ZG (Zt Ziy (Zf (Zb 0) (Zf (Zb 1) Zo)))))
noncomputable def ZfR : List V → Hp → Option (V × Hp) := Z6 2 Zj9
noncomputable def Zka : PS := (Zu (ZU (ZE (Ze qIs (Za 0) (ZZ))) (ZF (Za 1)) ZX) (Zu (ZU (ZE (Ze qIs (Za 1) (ZZ))) (ZF (Za 0)) ZX) (ZF (Zs ZiA (Zd (Za 0) (Zd (Za 1) Zn))))))
noncomputable def Zeh : List T → Option T := Zaa 2 Zka
theorem Zkb : SimF false ZfR Zeh := Zaf (show S [] [] [] false Zj9 Zka from (Zz (Z2 (ZJ (ZD Zbl (Zc 0) (Z9))) (ZR (O' := []) (Zc 1) (by decide)) Z4) (Zz (Z2 (ZJ (ZD Zbl (Zc 1) (Z9))) (ZR (O' := []) (Zc 0) (by decide)) Z4) (ZR (O' := []) (Zat ZvN (Zh (Zc 0) (Zh (Zc 1) Zp))) (by decide)))))
noncomputable def ZjL : Sm := Zw (ZT (ZH (Zj oIs (Zb 0) (ZY))) (ZG (ZY)) Z0) (Zw (ZN 3 (ZaA (Zbz (Zb 1)) (put1 100) Zao (eUn Zbx (Zb 100)))) (Zw (ZN 4 (Zt ZfG (Zf (Zb 0) (Zf (Zb 3) Zo)))) (Zw (ZT (Zav (ZH (Zj ZbC (Zb 4) (ZY))) (Zav (ZH (Zj oGt (eUn Zbx (Zb 4)) (Zb 2))) Zao)) (ZG (ZY)) Z0) (Zw (ZN 5 (ZaA (Zbz (Zj Zv (Zb 0) (Zl 0))) (put1 102) Zao (Zt Zco (Zf (Zb 102) Zo)))) (Zw (ZaO (ZaM (Zf (Zt ZaE (Zf (Zb 5) Zo)) Zo)) (put1 6) (ZaO (ZaM (Zf (Zt ZaE (Zf (Zb 5) Zo)) Zo)) (put1 7) (Zw (ZN 4 (Zt ZfG (Zf (Zb 0) (Zf (Zt Zf4 (Zf (Zt Zf4 (Zf (Zb 3) (Zf (Zb 6) (Zf (Zl 1) Zo)))) (Zf (Zb 7) (Zf (eUn Zbx (Zl 1)) Zo)))) Zo)))) (ZT (Zav (ZH (Zj oNe (Zb 6) (Zb 7))) (Zav (ZH (Zj ZbC (Zb 4) (ZY))) Zao)) (Zby (Zt ZfR (Zf (Zj Zv (Zj Zv (Zb 5) (Zb 6)) (Zb 7)) (Zf (Zj Zah (Zb 4) (Zb 2)) Zo))) (Zj Zv (Zb 5) (Zb 6)) (Zb 7)) Z0)))) (Zw (ZaO (ZaM (Zf (Zl 1) (Zf (Zt ZaE (Zf (Zb 5) Zo)) Zo))) (put1 6) (Zw (ZN 4 (Zt ZfG (Zf (Zb 0) (Zf (Zt Zf4 (Zf (Zb 3) (Zf (Zb 6) (Zf (Zj Zv (Zb 1) (Zb 6)) Zo)))) Zo)))) (Zw (ZT (Zav (ZH (Zj oGt (Zj Zv (Zb 1) (Zb 6)) (Zl 0))) (Zav (ZH (Zj ZbC (Zb 4) (ZY))) Zao)) (Zby (Zt ZfR (Zf (Zj Zv (Zj Zv (Zb 5) (Zb 6)) (Zl 0)) (Zf (Zj oDiv (Zj Zah (Zb 4) (Zb 2)) (Zj Zv (Zb 1) (Zb 6))) Zo))) (Zj Zv (Zb 5) (Zb 6)) (Zl 0)) Z0) (ZT (Zav (ZH (Zj oLt (Zj Zv (Zb 1) (Zb 6)) (Zl 0))) (Zav (ZH (Zj ZbC (Zb 4) (ZY))) Zao)) (Zby (Zt ZfR (Zf (Zj Zv (Zj Zv (Zb 5) (Zl 0)) (Zb 6)) (Zf (Zj oDiv (Zj Zah (Zb 4) (Zb 2)) (Zt Zc3 (Zf (Zj Zv (Zb 1) (Zb 6)) Zo))) Zo))) (Zj Zv (Zb 5) (Zl 0)) (Zb 6)) Z0)))) (ZG (Zt Zkz (Zf (ZaK (Zf (Zb 5) (Zf (Zj Zv (Zb 0) (Zl 1)) Zo))) Zo)))))))))
noncomputable def ZfK : List V → Hp → Option (V × Hp) := Z6 3 ZjL
noncomputable def ZfL : PS := (Zu (ZU (ZE (Ze qIs (Za 0) (ZZ))) (ZF (ZZ)) ZX) (Zu (ZM 3 (Zam (ZaH (Za 1)) (Zab 100) Zag (pUn Zbh (Za 100)))) (Zu (ZM 4 (Zs ZeJ (Zd (Za 0) (Zd (Za 3) Zn)))) (Zu (ZU (Zap (ZE (Ze Zbm (Za 4) (ZZ))) (Zap (ZE (Ze qGt (pUn Zbh (Za 4)) (Za 2))) Zag)) (ZF (ZZ)) ZX) (Zu (ZM 5 (Zam (ZaH (Ze Zr (Za 0) (Zk 0))) (Zab 102) Zag (pFl (Zs ZbX (Zd (Za 102) Zn))))) (Zu (ZaI (Zaz (Zd (Zs Zaq (Zd (Za 5) Zn)) Zn)) (Zab 6) (ZaI (Zaz (Zd (Zs Zaq (Zd (Za 5) Zn)) Zn)) (Zab 7) (Zu (ZM 4 (Zs ZeJ (Zd (Za 0) (Zd (Zs Ze0 (Zd (Zs Ze0 (Zd (Za 3) (Zd (Za 6) (Zd (Zk 1) Zn)))) (Zd (Za 7) (Zd (pUn Zbh (Zk 1)) Zn)))) Zn)))) (ZU (Zap (ZE (Ze qNe (Za 6) (Za 7))) (Zap (ZE (Ze Zbm (Za 4) (ZZ))) Zag)) (Zbc 5 [] (ZbE (Zs Zeh (Zd (Ze Zr (Ze Zr (Za 5) (Za 6)) (Za 7)) (Zd (Ze Zae (Za 4) (Za 2)) Zn)))) (Zck ZaN (Za 6)) (Za 7)) ZX)))) (Zu (ZaI (Zaz (Zd (Zk 1) (Zd (Zs Zaq (Zd (Za 5) Zn)) Zn))) (Zab 6) (Zu (ZM 4 (Zs ZeJ (Zd (Za 0) (Zd (Zs Ze0 (Zd (Za 3) (Zd (Za 6) (Zd (Ze Zr (Za 1) (Za 6)) Zn)))) Zn)))) (Zu (ZU (Zap (ZE (Ze qGt (Ze Zr (Za 1) (Za 6)) (Zk 0))) (Zap (ZE (Ze Zbm (Za 4) (ZZ))) Zag)) (Zbc 5 [] (ZbE (Zs Zeh (Zd (Ze Zr (Ze Zr (Za 5) (Za 6)) (Zk 0)) (Zd (Ze Zcv (Ze Zae (Za 4) (Za 2)) (Ze Zr (Za 1) (Za 6))) Zn)))) (Zck ZaN (Za 6)) (Zk 0)) ZX) (ZU (Zap (ZE (Ze qLt (Ze Zr (Za 1) (Za 6)) (Zk 0))) (Zap (ZE (Ze Zbm (Za 4) (ZZ))) Zag)) (Zbc 5 [] (ZbE (Zs Zeh (Zd (Ze Zr (Ze Zr (Za 5) (Zk 0)) (Za 6)) (Zd (Ze Zcv (Ze Zae (Za 4) (Za 2)) (Zs Zc5 (Zd (Ze Zr (Za 1) (Za 6)) Zn))) Zn)))) (Zck ZaN (Zk 0)) (Za 6)) ZX)))) (ZF (Zs ZeT (Zd (ZaL (Zd (Za 5) (Zd (Ze Zr (Za 0) (Zk 1)) Zn))) Zn))))))))))
noncomputable def Zb8 : List T → Option T := Zaa 3 ZfL
theorem ZjM : SimF false ZfK Zb8 := Zaf (show S [] [5] [] false ZjL ZfL from (Zz (Z2 (ZJ (ZD Zbl (Zc 0) (Z9))) (ZR (O' := []) (Z9) (by decide)) Z4) (Zz (ZW (O' := []) (Zcb (Gs.seq (Zc 1)) (PutOk.one (by decide)) (by decide) Zaw (ZbL ZbM (Zc 100))) (by decide) (by decide) (by decide)) (Zz (ZW (O' := []) (ZK Zjj (Zh (Zc 0) (Zh (Zc 3) Zp))) (by decide) (by decide) (by decide)) (Zz (Z2 (ZaC (ZJ (ZD ZbV (Zc 4) (Z9))) (ZaC (ZJ (ZD Zdn (ZbL ZbM (Zc 4)) (Zc 2))) Zaw)) (ZR (O' := []) (Z9) (by decide)) Z4) (Zz (ZcC (O' := [5]) (Zdc (Gs.seq (ZB ZA (Zc 0) (Zm _))) (PutOk.one (by decide)) (by decide) Zaw (Zeo Zdb (Zh (Zc 102) Zp))) (by decide)) (Zz (Zbg (Gs.range (Zh (Zat ZaR (Zh (Zc 5) Zp)) Zp)) (PutOk.one (by decide)) (by decide) (by decide) (Zbg (Gs.range (Zh (Zat ZaR (Zh (Zc 5) Zp)) Zp)) (PutOk.one (by decide)) (by decide) (by decide) (Zz (ZW (O' := [5]) (ZK Zjj (Zh (Zc 0) (Zh (ZK Zly (Zh (ZK Zly (Zh (Zc 3) (Zh (Zc 6) (Zh (Zm _) Zp)))) (Zh (Zc 7) (Zh (ZbL ZbM (Zm _)) Zp)))) Zp))) (by decide) (by decide) (by decide)) (Z2 (ZaC (ZJ (ZD ZbA (Zc 6) (Zc 7))) (ZaC (ZJ (ZD ZbV (Zc 4) (Z9))) Zaw)) (S.put (O' := [5]) (by decide) (Za3 (O' := []) (E.flat (ZK Zkb (Zh (ZB ZA (ZB ZA (Zc 5) (Zc 6)) (Zc 7)) (Zh (Zac Zak (Zc 4) (Zc 2)) Zp)))) (by decide)) (ZcM Zbq (Zc 6)) (Zc 7) (by decide) (by decide)) Z4)))) (Zz (Zbg (Gs.range (Zh (Zm _) (Zh (Zat ZaR (Zh (Zc 5) Zp)) Zp))) (PutOk.one (by decide)) (by decide) (by decide) (Zz (ZW (O' := [5]) (ZK Zjj (Zh (Zc 0) (Zh (ZK Zly (Zh (Zc 3) (Zh (Zc 6) (Zh (ZB ZA (Zc 1) (Zc 6)) Zp)))) Zp))) (by decide) (by decide) (by decide)) (Zz (Z2 (ZaC (ZJ (ZD Zdn (ZB ZA (Zc 1) (Zc 6)) (Zm _))) (ZaC (ZJ (ZD ZbV (Zc 4) (Z9))) Zaw)) (S.put (O' := [5]) (by decide) (Za3 (O' := []) (E.flat (ZK Zkb (Zh (ZB ZA (ZB ZA (Zc 5) (Zc 6)) (Zm _)) (Zh (ZD Zc0 (Zac Zak (Zc 4) (Zc 2)) (ZB ZA (Zc 1) (Zc 6))) Zp)))) (by decide)) (ZcM Zbq (Zc 6)) (Zm _) (by decide) (by decide)) Z4) (Z2 (ZaC (ZJ (ZD Zcm (ZB ZA (Zc 1) (Zc 6)) (Zm _))) (ZaC (ZJ (ZD ZbV (Zc 4) (Z9))) Zaw)) (S.put (O' := [5]) (by decide) (Za3 (O' := []) (E.flat (ZK Zkb (Zh (ZB ZA (ZB ZA (Zc 5) (Zm _)) (Zc 6)) (Zh (ZD Zc0 (Zac Zak (Zc 4) (Zc 2)) (Zat ZdK (Zh (ZB ZA (Zc 1) (Zc 6)) Zp))) Zp)))) (by decide)) (ZcM Zbq (Zm _)) (Zc 6) (by decide) (by decide)) Z4)))) (ZR (O' := [5]) (ZK Zr9 (Zh (E.tup (Zh (Zc 5) (Zh (ZB ZA (Zc 0) (Zm _)) Zp)) (by decide)) Zp)) (by decide))))))))))
noncomputable def Zmw : Sm := Zw (ZN 1 (Zj Zv (Zb7 (Zf (Zl 0) (Zf (Zl 1) (Zf (Zl 2) (Zf (Zl 1) (Zf (Zl 2) (Zf (Zl 1) (Zf (Zl 2) (Zf (Zl 3) (Zf (Zl 4) Zo)))))))))) (Zt ZbT (Zf (Zb 0) (Zf (Zl 0) (Zf (Zl 9) Zo)))))) (Zw (ZN 2 (ZaA (ZaM (Zf (Zb 1) Zo)) (put1 100) Zao (Zt ZdT (Zf (Zb 0) (Zf (Zj Zah (Zl 2) (Zb 100)) Zo))))) (Zw (ZN 3 (Zt Zk3 (Zf (Zb 0) (Zf (Zl 14) (Zf (Zb 2) Zo))))) (Zw (ZN 4 (Zt Zl2 (Zf (Zb 0) (Zf (Zl 8) (Zf (Zb 1) Zo))))) (Zw (ZN 5 (Zt ZdT (Zf (Zb 0) (Zf (Zl 6) Zo)))) (Zw (ZT (ZH (Zj oGt (Zt ZbT (Zf (Zb 0) (Zf (Zl 7) (Zf (Zl 3) Zo)))) (Zl 0))) (ZN 5 (Zj Zbj (Zj Zah (Zt ZkH (Zf (Zb 4) (Zf (Zb 2) Zo))) (Zt ZbT (Zf (Zb 0) (Zf (Zl 6) (Zf (Zl 7) Zo))))) (Zl 3))) Z0) (Zw (ZN 6 (Zt ZbT (Zf (Zb 0) (Zf (Zl 1) (Zf (Zl 55) Zo))))) (Zw (ZT (ZH (Zj oEq (Zj oMod (Zb 6) (Zl 5)) (Zl 1))) (ZN 3 (Zt ZjR (Zf (Zb 0) (Zf (Zl 40) (Zf (Zb 3) Zo))))) Z0) (Zw (ZT (ZH (Zj oEq (Zj oMod (Zb 6) (Zl 11)) (Zl 4))) (ZN 3 (ZY)) Z0) (Zw (ZN 7 (Zt Zk6 (Zf (Zb 3) Zo))) (Zw (ZN 8 (Zt Zco (Zf (Zb 4) Zo))) (Zw (ZN 9 (Zt ZdX (Zf (Zb 3) (Zf (Zb 8) (Zf (Zb 5) Zo))))) (Zw (ZT (tOr (ZH (Zj oNe (Zb 3) (Zb 7))) (tOr (ZH (Zj oNe (Zb 8) (Zb 4))) (tOr (Zcc (ZH (Zt Zf0 (Zf (Zb 9) (Zf (Zt ZfK (Zf (Zb 7) (Zf (Zb 4) (Zf (Zb 5) Zo)))) Zo))))) Zcn))) (ZG (ZbZ false)) Z0) (Zw (Zcd (Zt Zj1 (Zf (Zb 9) Zo))) (Zw (ZN 10 (Zj Zah (Zb7 (Zf (Zj Zbj (Zj Zv (Zb 4) (Zl 0)) (Zb 5)) Zo)) (Zdj (Zb 4) 1))) (Zw (ZN 8 (ZaK (Zf (Zd8 (Str.ofString "under")) (Zf (Zt Zco (Zf (Zb 10) Zo)) Zo)))) (Zw (ZT (Zcc (ZH (Zt Zf0 (Zf (Zt Zit (Zf (Zb 3) (Zf (Zb 8) (Zf (ZbZ true) Zo)))) (Zf (Zt ZfK (Zf (Zb 7) (Zf (Zb 10) (Zf (eUn Zbx (Zl 1)) Zo)))) Zo))))) (ZG (ZbZ false)) Z0) (Zw (ZT (Zcc (ZH (Zt Zf0 (Zf (Zt Zit (Zf (Zb 3) (Zf (Zb 8) (Zf (ZbZ false) Zo)))) (Zf (Zt ZfK (Zf (Zb 7) (Zf (ZaA (Zbz (Zb 10)) (put1 102) Zao (eUn Zbx (Zb 102))) (Zf (Zl 0) Zo)))) Zo))))) (ZG (ZbZ false)) Z0) (ZG (Zc2 (Zj oEq (Zb 3) (Zb 7)) (Zj oEq (Zb 8) (ZaK (Zf (Zd8 (Str.ofString "under")) (Zf (Zb 10) Zo)))))))))))))))))))))))
noncomputable def Zpd : List V → Hp → Option (V × Hp) := Z6 1 Zmw
noncomputable def Zmx : PS := (Zu (ZM 1 (Ze Zr (ZbF (Zd (Zk 0) (Zd (Zk 1) (Zd (Zk 2) (Zd (Zk 1) (Zd (Zk 2) (Zd (Zk 1) (Zd (Zk 2) (Zd (Zk 3) (Zd (Zk 4) Zn)))))))))) (Zs Zbt (Zd (Za 0) (Zd (Zk 0) (Zd (Zk 9) Zn)))))) (Zu (ZM 2 (Zam (Zaz (Zd (Za 1) Zn)) (Zab 100) Zag (Zs Zdy (Zd (Za 0) (Zd (Ze Zae (Zk 2) (Za 100)) Zn))))) (Zu (ZM 3 (Zs Zhu (Zd (Za 0) (Zd (Zk 14) (Zd (Za 2) Zn))))) (Zu (ZM 4 (Zs ZhN (Zd (Za 0) (Zd (Zk 8) (Zd (Za 1) Zn))))) (Zu (ZM 5 (Zs Zdy (Zd (Za 0) (Zd (Zk 6) Zn)))) (Zu (ZU (ZE (Ze qGt (Zs Zbt (Zd (Za 0) (Zd (Zk 7) (Zd (Zk 3) Zn)))) (Zk 0))) (ZM 5 (Ze ZaX (Ze Zae (Zs Zho (Zd (Za 4) (Zd (Za 2) Zn))) (Zs Zbt (Zd (Za 0) (Zd (Zk 6) (Zd (Zk 7) Zn))))) (Zk 3))) ZX) (Zu (ZM 6 (Zs Zbt (Zd (Za 0) (Zd (Zk 1) (Zd (Zk 55) Zn))))) (Zu (ZU (ZE (Ze qEq (Ze Za0 (Za 6) (Zk 5)) (Zk 1))) (ZM 3 (Zs Zg8 (Zd (Za 0) (Zd (Zk 40) (Zd (Za 3) Zn))))) ZX) (Zu (ZU (ZE (Ze qEq (Ze Za0 (Za 6) (Zk 11)) (Zk 4))) (ZM 3 (ZZ)) ZX) (Zu (ZM 7 (Zs ZdU (Zd (Za 3) Zn))) (Zu (ZM 8 (Zs ZbX (Zd (Za 4) Zn))) (Zu (ZM 9 (Zs Zb6 (Zd (Za 3) (Zd (Za 8) (Zd (Za 5) Zn))))) (Zu (ZU (bOr (ZE (Ze qNe (Za 3) (Za 7))) (bOr (ZE (Ze qNe (Za 8) (Za 4))) (bOr (ZbQ (ZE (Zs ZcR (Zd (Za 9) (Zd (Zs Zb8 (Zd (Za 7) (Zd (Za 4) (Zd (Za 5) Zn)))) Zn))))) Zcp))) (ZF (Zbv false)) ZX) (Zu (Zdv 9 ZeO Zn) (Zu (ZM 10 (Ze Zae (ZbF (Zd (Ze ZaX (Ze Zr (Za 4) (Zk 0)) (Za 5)) Zn)) (ZcG (Za 4) 1))) (Zu (ZM 8 (ZaL (Zd (Zd9 (Str.ofString "under")) (Zd (Zs ZbX (Zd (Za 10) Zn)) Zn)))) (Zu (ZU (ZbQ (ZE (Zs ZcR (Zd (Zs Zdf (Zd (Za 3) (Zd (Za 8) (Zd (Zbv true) Zn)))) (Zd (Zs Zb8 (Zd (Za 7) (Zd (Za 10) (Zd (pUn Zbh (Zk 1)) Zn)))) Zn))))) (ZF (Zbv false)) ZX) (Zu (ZU (ZbQ (ZE (Zs ZcR (Zd (Zs Zdf (Zd (Za 3) (Zd (Za 8) (Zd (Zbv false) Zn)))) (Zd (Zs Zb8 (Zd (Za 7) (Zd (Zam (ZaH (Za 10)) (Zab 102) Zag (pUn Zbh (Za 102))) (Zd (Zk 0) Zn)))) Zn))))) (ZF (Zbv false)) ZX) (ZF ((Zc4 (Ze qEq (Za 3) (Za 7)) (Ze qEq (Za 8) (ZaL (Zd (Zd9 (Str.ofString "under")) (Zd (Za 10) Zn)))))))))))))))))))))))))
noncomputable def Zmy : List T → Option T := Zaa 1 Zmx
theorem Zub : SimF false Zpd Zmy := Zaf (show S [] [9] [] false Zmw Zmx from (Zz (ZW (O' := []) (ZB ZA (E.list (Zh (Zm _) (Zh (Zm _) (Zh (Zm _) (Zh (Zm _) (Zh (Zm _) (Zh (Zm _) (Zh (Zm _) (Zh (Zm _) (Zh (Zm _) Zp))))))))) (by decide)) (ZK Zb9 (Zh (Zc 0) (Zh (Zm _) (Zh (Zm _) Zp))))) (by decide) (by decide) (by decide)) (Zz (ZW (O' := []) (Zcb (Gs.range (Zh (Zc 1) Zp)) (PutOk.one (by decide)) (by decide) Zaw (ZK ZeM (Zh (Zc 0) (Zh (Zac Zak (Zm _) (Zc 100)) Zp)))) (by decide) (by decide) (by decide)) (Zz (ZW (O' := []) (ZK Zst (Zh (Zc 0) (Zh (Zm _) (Zh (Zc 2) Zp)))) (by decide) (by decide) (by decide)) (Zz (ZW (O' := []) (ZK Zti (Zh (Zc 0) (Zh (Zm _) (Zh (Zc 1) Zp)))) (by decide) (by decide) (by decide)) (Zz (ZW (O' := []) (ZK ZeM (Zh (Zc 0) (Zh (Zm _) Zp))) (by decide) (by decide) (by decide)) (Zz (Z2 (ZJ (ZD Zdn (ZK Zb9 (Zh (Zc 0) (Zh (Zm _) (Zh (Zm _) Zp)))) (Zm _))) (ZW (O' := []) (ZD Zbr (Zac Zak (ZK Zsb (Zh (Zc 4) (Zh (Zc 2) Zp))) (ZK Zb9 (Zh (Zc 0) (Zh (Zm _) (Zh (Zm _) Zp))))) (Zm _)) (by decide) (by decide) (by decide)) Z4) (Zz (ZW (O' := []) (ZK Zb9 (Zh (Zc 0) (Zh (Zm _) (Zh (Zm _) Zp)))) (by decide) (by decide) (by decide)) (Zz (Z2 (ZJ (ZD ZaF (ZD Zbf (Zc 6) (Zm _)) (Zm _))) (ZW (O' := []) (ZK ZrN (Zh (Zc 0) (Zh (Zm _) (Zh (Zc 3) Zp)))) (by decide) (by decide) (by decide)) Z4) (Zz (Z2 (ZJ (ZD ZaF (ZD Zbf (Zc 6) (Zm _)) (Zm _))) (ZW (O' := []) (Z9) (by decide) (by decide) (by decide)) Z4) (Zz (ZW (O' := []) (ZK Zsu (Zh (Zc 3) Zp)) (by decide) (by decide) (by decide)) (Zz (ZW (O' := []) (Zgl Zdb (Zh (Zc 4) Zp)) (by decide) (by decide) (by decide)) (Zz (ZcC (O' := [9]) (Zbw Ze9 (Zh (Zc 3) (Zh (Zc 8) (Zh (Zc 5) Zp)))) (by decide)) (Zz (Z2 (Zba (ZJ (ZD ZbA (Zc 3) (Zc 7))) (Zba (ZJ (ZD ZbA (Zc 8) (Zc 4))) (Zba (ZcB (ZJ (ZK Zli (Zh (Zc 9) (Zh (ZK ZjM (Zh (Zc 7) (Zh (Zc 4) (Zh (Zc 5) Zp)))) Zp))))) ZcJ))) (ZR (O' := [9]) (E.bool _) (by decide)) Z4) (Zz (Zft (O' := [9]) (by decide) ZrP Zp (by decide) (by decide)) (Zz (ZW (O' := [9]) (Zac Zak (E.list (Zh (ZD Zbr (ZB ZA (Zc 4) (Zm _)) (Zc 5)) Zp) (by decide)) (Zfr (Zc 4))) (by decide) (by decide) (by decide)) (Zz (ZW (O' := [9]) (E.tup (Zh (E.str _) (Zh (Zgl Zdb (Zh (Zc 10) Zp)) Zp)) (by decide)) (by decide) (by decide) (by decide)) (Zz (Z2 (ZcB (ZJ (ZK Zli (Zh (ZK Zqr (Zh (Zc 3) (Zh (Zc 8) (Zh (E.bool _) Zp)))) (Zh (ZK ZjM (Zh (Zc 7) (Zh (Zc 10) (Zh (ZbL ZbM (Zm _)) Zp)))) Zp))))) (ZR (O' := [9]) (E.bool _) (by decide)) Z4) (Zz (Z2 (ZcB (ZJ (ZK Zli (Zh (ZK Zqr (Zh (Zc 3) (Zh (Zc 8) (Zh (E.bool _) Zp)))) (Zh (ZK ZjM (Zh (Zc 7) (Zh (Zcb (Gs.seq (Zc 10)) (PutOk.one (by decide)) (by decide) Zaw (ZbL ZbM (Zc 102))) (Zh (Zm _) Zp)))) Zp))))) (ZR (O' := [9]) (E.bool _) (by decide)) Z4) (ZR (O' := [9]) ((Zez (E.sh (ZD ZaF (Zc 3) (Zc 7))) (E.sh (ZD ZaF (Zc 8) (E.tup (Zh (E.str _) (Zh (Zc 10) Zp)) (by decide)))))) (by decide)))))))))))))))))))))
end L
end
section
set_option maxRecDepth 100000
set_option maxHeartbeats 4000000
set_option linter.all false
set_option autoImplicit false
open PySem PySem.W PyProof.Rows PM TM My
local macro_rules | `(tactic| walk_at "tkrd") => `(tactic| first | with_reducible assumption | with_reducible exact Zbn | ((with_reducible apply Zu4); decide; walk_at "tkrd") | ((with_reducible apply ZtZ); decide; walk_at "tkrd") | exact rfl | assumption)
local macro_rules | `(tactic| walk_at "tkyes") => `(tactic| first | rfl | (with_reducible assumption) | (simp only [Bool.not_eq_true', Bool.not_eq_false', decide_eq_true_eq, decide_eq_false_iff_not, beq_iff_eq, beq_eq_false_iff_ne, ne_eq, Bool.not_true, Bool.not_false, not_false_eq_true, not_true_eq_false, bne_iff_ne, Decidable.not_not, List.length_map] <;> first | done | omega | assumption))
local macro_rules | `(tactic| walk_at "tkflat") => `(tactic| first | rfl | exact Zep | exact ZhS | exact Zos fun i hi => by first | rfl | exact Zep | exact ZhS)
local macro_rules | `(tactic| walk_at "tkop") => `(tactic| first | with_reducible refine Zqj ?_ | with_reducible refine Zv3 ?_ | with_reducible refine Zv4 ?_ | with_reducible refine ZwA ?_ | with_reducible refine ZwB ?_ | with_reducible refine ZwC ?_ | with_reducible refine tk_ge ?_ | with_reducible refine Zv6 ?_ | with_reducible refine tk_max ?_ | with_reducible refine Zv7 ?_ | with_reducible refine ZwD ?_ | with_reducible refine ZwE ?_ | with_reducible refine tk_eqb ?_ | with_reducible refine tk_neb ?_ | with_reducible refine Zv8 ?_ | with_reducible refine Zv9 ?_ | with_reducible refine Zwa ?_ | with_reducible refine Zwb ?_ | with_reducible refine ZuP ?_ | with_reducible refine ZuQ ?_ | with_reducible refine tk_notl ?_ | with_reducible refine ZuR ?_ | with_reducible refine ZuS ?_ | with_reducible refine Zwc ?_ | with_reducible refine ZuT ?_ | ((with_reducible apply ZuU); (first | assumption | omega)) | ((with_reducible apply ZuV); (first | decide | omega); (first | decide | omega)) | ((with_reducible apply ZuW); (first | decide | omega); rfl) | ((with_reducible apply Zh6); (first | decide | omega); rfl) | ((with_reducible apply ZpH); omega) | with_reducible refine ZtU ?_ | with_reducible refine tk_list1t ?_ | with_reducible refine ZuX ?_ | with_reducible refine tk_all ?_ | with_reducible refine Zwd ?_ | ((with_reducible apply Zv5); (first | decide | omega)))
local macro_rules | `(tactic| walk_at "tk1") => `(tactic| first | with_reducible refine ZvU ?_ | with_reducible refine Zwv ?_ | with_reducible refine ZuI ?_ | with_reducible refine ZvV ?_ | with_reducible refine ZvW ?_ | with_reducible refine ZuJ ?_ | with_reducible refine ZuH ?_ | with_reducible refine ZuK ?_ | with_reducible refine Zww ?_ | with_reducible refine Zwx ?_ | with_reducible refine ZvX ?_ | with_reducible refine ZvY ?_ | with_reducible refine Zwy ?_ | with_reducible refine Zwz ?_ | with_reducible refine ZvZ ?_ | with_reducible refine ZuL ?_ | with_reducible refine ZuM ?_ | with_reducible refine ZtT ?_ | with_reducible refine ZuN ?_ | with_reducible refine Zv0 ?_ | with_reducible refine Zor ?_ | with_reducible refine tk_truth_n ?_ | with_reducible refine ZuO ?_ | with_reducible refine Zv1 ?_ | with_reducible refine Zim ?_ | with_reducible refine tk_exp ?_ | with_reducible refine Zgu ?_ | with_reducible refine Zm6 ?_ | with_reducible refine ZvQ ?_ | with_reducible refine ZvR ?_ | with_reducible refine ZuG ?_ | with_reducible refine ZvS ?_ | ((with_reducible apply ZvT); walk_at "tkrd") | ((with_reducible apply Zqi); walk_at "tkyes") | ((with_reducible apply Zv2); walk_at "tkyes") | ((with_reducible apply Zm7); rfl) | (refine And.intro (show T.flat _ = true by walk_at "tkflat") ?_) | (refine And.intro (show T.flatIn _ = true by walk_at "tkflat") ?_) | with_reducible refine Zh7 ?_ | with_reducible refine Sq.lst ?_ | with_reducible refine Sq.tup ?_ | with_reducible refine ZtX ?_ | ((with_reducible apply Rn.one); omega) | with_reducible refine Zql ?_ | with_reducible refine Zu7 ?_ | with_reducible refine Zu8 ?_ | with_reducible refine Zt8 ?_ | with_reducible refine Zi.eq ?_ | with_reducible refine Zi.mn ?_ | with_reducible refine Zwe ?_ | with_reducible refine Zu2 ?_ | with_reducible refine Zwf ?_ | with_reducible refine Zu3 ?_ | ((with_reducible apply Zu0); walk_at "tkrd"; (first | (rw [Zau]; omega) | (simp; done))) | ((with_reducible apply Zu1); walk_at "tkrd"; (first | (rw [Zau]; omega) | (simp; done))) | ((with_reducible apply ZtY); walk_at "tkrd"; (first | assumption | omega)) | ((with_reducible apply Zo8); walk_at "tkrd"; (first | assumption | omega); (first | assumption | omega)) | walk_at "tkop")
local macro_rules | `(tactic| walk_at "zz") => `(tactic| repeat' walk_at "tk1")
local macro_rules | `(tactic| walk_at "zr") => `(tactic| walk_at "tkrd")
namespace L
open PySem PySem.W PyProof.Rows PM TM My
section
variable {Q : T → Prop}
theorem ZwT (h : Q (.int T9)) : Pk (Zdm (.int 10) (.int 9)) Q := by
 have := Zwr []
 simp only [oPow] at this
 split at this
 ·rename_i hc
  refine ⟨_, by simp only [Zdm]; rw [if_pos hc], ?_⟩
  simp only [Option.some.injEq, Prod.mk.injEq, V.int.injEq, and_true] at this
  rw [this]; exact h
 ·cases this
theorem ZwH (h : Q (.int T40)) : Pk (Zdm (.int 10) (.int 40)) Q := by
 have := ZvM []
 simp only [oPow] at this
 split at this
 ·rename_i hc
  refine ⟨_, by simp only [Zdm]; rw [if_pos hc], ?_⟩
  simp only [Option.some.injEq, Prod.mk.injEq, V.int.injEq, and_true] at this
  rw [this]; exact h
 ·cases this
theorem ZwI (h : Q (.int M9)) : Pk (Zdm (.int 48271) (.int 9)) Q := by
 have := ZvL []
 simp only [oPow] at this
 split at this
 ·rename_i hc
  refine ⟨_, by simp only [Zdm]; rw [if_pos hc], ?_⟩
  simp only [Option.some.injEq, Prod.mk.injEq, V.int.injEq, and_true] at this
  rw [this]; exact h
 ·cases this
theorem ZdF {a b : Int} (h1 : -(2 ^ 64) < b) (h2 : b < 2 ^ 64) (h : Q (.int (a * b))) : Pk (ZaG (.int a) (.int b)) Q := ZbY (Zs5 h1 h2) h
theorem ZpR {a b : Int} (h1 : -(2 ^ 64) < a) (h2 : a < 2 ^ 64) (h : Q (.int (a * b))) : Pk (ZaG (.int a) (.int b)) Q := ZbY (Zsq h1 h2) h
end
noncomputable def scr (ns : List Int) : T := .lst (ns.map T.int)
noncomputable def Lay (ns : List Int) : Prop := PyData.layable0 (.list (ns.map .int)) = true
noncomputable def Zcq (ns : List Int) (k : Int) : Int := k * k * 7919 + 11 + (if 0 < ns.length then cellAt ns (k.fmod ns.length) 0 else 0)
theorem Zpe {ns : List Int} {k : Int} (h0 : 0 ≤ k) (h9 : k ≤ 10000) : ZfS [scr ns, .int k] = some (.int (Zcq ns k)) := by
 apply Pk.eq
 unfold ZfS Zkh Zcq scr
 by_cases hl : 0 < ns.length
 ·have a := Int.fmod_nonneg_of_pos k (show (0 : Int) < ns.length by omega)
  have b := Int.fmod_lt_of_pos k (show (0 : Int) < ns.length by omega)
  have e : (ns.map T.int).length = ns.length := by simp
  walk_at "zz"
  refine ZdF (by omega) (by omega) ?_
  walk_at "zz"
  refine ZdF (by omega) (by omega) ?_
  walk_at "zz"
  refine Zh6 (t := .int (cellAt ns (k.fmod ns.length) 0)) (by rw [e]; omega) ?_ ?_
  ·rw [e, List.getElem?_map, List.getElem?_eq_getElem (by omega), cellAt_def]
   simp only [Option.map_some, T.int.injEq, Option.some.injEq]
   rw [List.getD_eq_getElem?_getD, List.getElem?_eq_getElem (by omega)]
   rfl
  walk_at "zz"
  rw [if_pos hl]
 ·walk_at "zz"
  refine ZdF (by omega) (by omega) ?_
  walk_at "zz"
  refine ZdF (by omega) (by omega) ?_
  walk_at "zz"
  rw [if_neg hl]
  simp
theorem Zsy {ns : List Int} {k : Int} (hL : Lay ns) (h0 : 0 ≤ k) (h9 : k ≤ 10000) : Builtin.Int.intBits (Zcq ns k) ≤ 2 ^ 21 := by
 unfold Zcq
 have h1 : 0 ≤ k * k := Int.mul_nonneg h0 h0
 have h2 : k * k ≤ 10000 * 10000 := Int.mul_le_mul h9 h9 h0 (by decide)
 have hb : Builtin.Int.intBits (k * k * 7919 + 11) ≤ 2 ^ 20 := Nat.le_trans (intBits_le_64 (by omega) (by omega)) (by decide)
 have hc : Builtin.Int.intBits (if 0 < ns.length then cellAt ns (k.fmod ns.length) 0 else 0) ≤ 2 ^ 20 := by
  split
  ·exact (cell_at hL _).bits
  ·exact bits_zero
 exact Nat.le_trans (PM.ZtQ hb hc) (by decide)
noncomputable def Zbi (ns : List Int) (k many : Int) : Int := ((Zcq ns k * 48271).fmod 2147483647).fmod many
theorem Zci (ns : List Int) (k : Int) {many : Int} (h : 0 < many) : 0 ≤ Zbi ns k many ∧ Zbi ns k many < many := ⟨Int.fmod_nonneg_of_pos _ h, Int.fmod_lt_of_pos _ h⟩
theorem Zcj {ns : List Int} {k many : Int} (h0 : 0 ≤ k) (h9 : k ≤ 10000) (hm : 0 < many) : Zbt [scr ns, .int k, .int many] = some (.int (Zbi ns k many)) := by
 apply Pk.eq
 unfold Zbt ZkY
 walk_at "zz"
 refine ZO (Zpe h0 h9) ?_
 walk_at "zz"
 refine ZdF (by decide) (by decide) ?_
 walk_at "zz"
 rfl
noncomputable def ZdI (ns : List Int) (k : Int) : Int := [3, 9, T9, T40].getD (((Zcq ns k * 69621).fmod 2147483629).fmod 4).toNat 0
theorem Zpf (ns : List Int) (k : Int) : 0 < ZdI ns k ∧ ZdI ns k ≤ T40 := by
 unfold ZdI
 have a := Int.fmod_nonneg_of_pos ((Zcq ns k * 69621).fmod 2147483629) (show (0 : Int) < 4 by decide)
 have b := Int.fmod_lt_of_pos ((Zcq ns k * 69621).fmod 2147483629) (show (0 : Int) < 4 by decide)
 generalize ((Zcq ns k * 69621).fmod 2147483629).fmod 4 = i at a b
 have h9 := T9_eq
 have h40 := Zik
 have : i = 0 ∨ i = 1 ∨ i = 2 ∨ i = 3 := by omega
 obtain rfl | rfl | rfl | rfl := this
 ·show 0 < 3 ∧ 3 ≤ T40; omega
 ·show 0 < 9 ∧ 9 ≤ T40; omega
 ·show 0 < T9 ∧ T9 ≤ T40; omega
 ·show 0 < T40 ∧ T40 ≤ T40; omega
noncomputable def Zb2 (ns : List Int) (k : Int) : Int := (Zcq ns k * M9).fmod (2 * ZdI ns k + 1) - ZdI ns k
theorem Zqs (ns : List Int) (k : Int) : -T40 ≤ Zb2 ns k ∧ Zb2 ns k ≤ T40 := by
 obtain ⟨a, b⟩ := Zpf ns k
 have h1 := Int.fmod_nonneg_of_pos (Zcq ns k * M9) (show 0 < 2 * ZdI ns k + 1 by omega)
 have h2 := Int.fmod_lt_of_pos (Zcq ns k * M9) (show 0 < 2 * ZdI ns k + 1 by omega)
 unfold Zb2
 omega
theorem Zfa {ns : List Int} {k : Int} (hL : Lay ns) (h0 : 0 ≤ k) (h9 : k ≤ 10000) : Zdy [scr ns, .int k] = some (.int (Zb2 ns k)) := by
 apply Pk.eq
 unfold Zdy ZjP
 have hb := Zo4 (Zsy hL h0 h9) ZuE
 obtain ⟨r0, r1⟩ := Zpf ns k
 have a := Int.fmod_nonneg_of_pos ((Zcq ns k * 69621).fmod 2147483629) (show (0 : Int) < 4 by decide)
 have b := Int.fmod_lt_of_pos ((Zcq ns k * 69621).fmod 2147483629) (show (0 : Int) < 4 by decide)
 walk_at "zz"
 refine ZO (Zpe h0 h9) ?_
 walk_at "zz"
 refine ZwT ?_
 walk_at "zz"
 refine ZwH ?_
 walk_at "zz"
 refine ZdF (by decide) (by decide) ?_
 walk_at "zz"
 refine Zh6 (t := .int (ZdI ns k)) (by omega) ?_ ?_
 ·unfold ZdI
  have : (((Zcq ns k * 69621).fmod 2147483629).fmod 4).toNat < 4 := by omega
  generalize (((Zcq ns k * 69621).fmod 2147483629).fmod 4).toNat = i at this
  match i, this with
  | 0, _ => rfl
  | 1, _ => rfl
  | 2, _ => rfl
  | 3, _ => rfl
 walk_at "zz"
 refine ZwI ?_
 walk_at "zz"
 refine ZbY hb ?_
 walk_at "zz"
 refine ZpR (by decide) (by decide) ?_
 walk_at "zz"
 rfl
noncomputable def Zb3 (a : Int) : Int := if a < 0 then -a else a
theorem ZdG (a : Int) : 0 ≤ Zb3 a := by unfold Zb3; split <;> omega
noncomputable def Zdg (ns : List Int) (k : Int) : Option Int :=
 if (Zbi ns k 42).fmod 6 < 2 then none else if (Zbi ns k 42).fmod 6 < 4 then some 0 else if (Zbi ns k 42).fmod 6 = 4 then some ((Zbi ns k 42).fdiv 6) else some (Zb3 (Zb2 ns k))
theorem Zuc (ns : List Int) (k : Int) {c : Int} (h : Zdg ns k = some c) : 0 ≤ c ∧ c ≤ T40 := by
 have h40 := Zik
 unfold Zdg at h
 split at h
 ·cases h
 ·split at h
  ·cases h; omega
  ·split at h
   ·cases h
    obtain ⟨p0, p1⟩ := Zci ns k (show (0 : Int) < 42 by decide)
    rw [Int.fdiv_eq_ediv_of_nonneg _ (by decide)]
    omega
   ·cases h
    have := Zqs ns k
    have := ZdG (Zb2 ns k)
    unfold Zb3 at *
    split at * <;> omega
theorem ZoO {a b : Int} (h0 : 0 ≤ b) (h1 : b < 2 ^ 30) : Builtin.divisionGoesByPylong a b = false := PyProof.noPylong_small (by omega)
theorem Zud {ns : List Int} {k : Int} (hL : Lay ns) (h0 : 0 ≤ k) (h9 : k ≤ 10000) : Zhj [scr ns, .int k] = some (oT (Zdg ns k)) := by
 apply Pk.eq
 unfold Zhj Zkk Zdg
 obtain ⟨p0, p1⟩ := Zci ns k (show (0 : Int) < 42 by decide)
 walk_at "zz"
 refine ZO (Zcj h0 h9 (by decide)) ?_
 walk_at "zz"
 refine ⟨fun c => ?_, fun c => ?_⟩
 ·walk_at "zz"
  rw [if_pos (by simpa using c)]; rfl
 rw [if_neg (by simpa using c)]
 walk_at "zz"
 refine ⟨fun c => ?_, fun c => ?_⟩
 ·walk_at "zz"
  rw [if_pos (by simpa using c)]; rfl
 rw [if_neg (by simpa using c)]
 walk_at "zz"
 refine ⟨fun c => ?_, fun c => ?_⟩
 ·walk_at "zz"
  refine ZcX (by decide) (ZoO (by decide) (by decide)) ?_
  rw [if_pos (by simpa using c)]; rfl
 rw [if_neg (by simpa using c)]
 walk_at "zz"
 refine ZO (Zfa hL h0 h9) ?_
 walk_at "zz"
 rfl
noncomputable def RestOk (q : Int × Int) : Prop := q.1 = 0 ∨ (0 < q.1 ∧ 0 ≤ q.2 ∧ q.2 < q.1)
noncomputable def Za2 (m r : Int) : Int × Int := if m = 0 then (0, r) else (m, r.fmod m)
theorem ZdY {m : Int} (h : 0 ≤ m) (r : Int) : RestOk (Za2 m r) := by
 unfold RestOk Za2
 split
 ·exact .inl rfl
 ·exact .inr ⟨by show 0 < m; omega, Int.fmod_nonneg_of_pos _ (by omega), Int.fmod_lt_of_pos _ (by omega)⟩
theorem Zf5 {m r : Int} : ZdR [.int m, .int r] = some (prT (Za2 m r)) := by
 apply Pk.eq
 unfold ZdR Zjq Za2
 by_cases c : m = 0
 ·walk_at "zz"
  rw [if_pos c]; rfl
 ·walk_at "zz"
  rw [if_neg c]; rfl
noncomputable def Zd5 (ns : List Int) (k x : Int) : Int × Int :=
 if (Zbi ns k 60).fmod 5 < 2 then (1, 0) else if (Zbi ns k 60).fmod 5 = 2 then (0, x) else if (Zbi ns k 60).fmod 5 = 3 then Za2 ((Zbi ns k 60).fdiv 5 + 1) x else Za2 (Zb3 (Zb2 ns k)) x
noncomputable def ZaP (q : Int × Int) (x : Int) : Prop := (q.1 = 0 → x = q.2) ∧ (0 < q.1 → (x - q.2).emod q.1 = 0)
theorem Zpg (ns : List Int) (k : Int) : 0 ≤ (Zbi ns k 60).fdiv 5 ∧ (Zbi ns k 60).fdiv 5 < 12 := by
 obtain ⟨p0, p1⟩ := Zci ns k (show (0 : Int) < 60 by decide)
 rw [Int.fdiv_eq_ediv_of_nonneg _ (by decide)]
 omega
theorem Zue (ns : List Int) (k x : Int) : RestOk (Zd5 ns k x) := by
 have := Zpg ns k
 unfold Zd5
 split
 ·exact .inr ⟨by decide, by decide, by decide⟩
 ·split
  ·exact .inl rfl
  ·split
   ·exact ZdY (by omega) x
   ·exact ZdY (ZdG _) x
theorem Zvc {ns : List Int} {k x : Int} (hL : Lay ns) (h0 : 0 ≤ k) (h9 : k ≤ 10000) : Zht [scr ns, .int k, .int x] = some (prT (Zd5 ns k x)) := by
 apply Pk.eq
 unfold Zht Zk1 Zd5
 obtain ⟨p0, p1⟩ := Zci ns k (show (0 : Int) < 60 by decide)
 walk_at "zz"
 refine ZO (Zcj h0 h9 (by decide)) ?_
 walk_at "zz"
 refine ⟨fun c => ?_, fun c => ?_⟩
 ·walk_at "zz"
  rw [if_pos (by simpa using c)]; rfl
 rw [if_neg (by simpa using c)]
 walk_at "zz"
 refine ⟨fun c => ?_, fun c => ?_⟩
 ·walk_at "zz"
  rw [if_pos (by simpa using c)]; rfl
 rw [if_neg (by simpa using c)]
 walk_at "zz"
 refine ⟨fun c => ?_, fun c => ?_⟩
 ·walk_at "zz"
  refine ZcX (by decide) (ZoO (by decide) (by decide)) ?_
  walk_at "zz"
  refine ZO Zf5 ?_
  rw [if_pos (by simpa using c)]
 rw [if_neg (by simpa using c)]
 walk_at "zz"
 refine ZO (Zfa hL h0 h9) ?_
 walk_at "zz"
 exact ZO Zf5 rfl
noncomputable def ZaJ (x : Nat → Int) : Nat → Int := cn 0 x
theorem Zwk (x : Nat → Int) : cn (T.int 0) (fun i => T.int (x i)) = fun i => T.int (ZaJ x i) := by
 funext i; cases i <;> rfl
noncomputable def Zct (ns : List Int) (k : Int) (n : Nat) (x : Nat → Int) (i j : Nat) : Option Int := if j = i then some 0 else (Zdg ns (k + i * (n + 1 : Nat) + j)).map fun c => ZaJ x i - ZaJ x j + c
noncomputable def Zfz (ns : List Int) (k : Int) (n : Nat) (x : Nat → Int) (t : Nat) : Int × Int := Zd5 ns (k + (n + 1 : Nat) * (n + 1 : Nat) + t) (x t)
theorem Zsz (ns : List Int) (k : Int) (n : Nat) (x : Nat → Int) (i : Nat) : Zct ns k n x i i = some 0 := by simp [Zct]
theorem Zuf (ns : List Int) (k : Int) (n : Nat) (x : Nat → Int) (i : Nat) : (fun j => if j = i then T.int 0 else oT ((Zdg ns (k + i * (n + 1 : Nat) + j)).map fun c => ZaJ x i - ZaJ x j + c)) = fun j => oT (Zct ns k n x i j) := by
 funext j
 unfold Zct
 split <;> rfl
theorem Zvd {ns : List Int} {k : Int} {n : Nat} {x : Nat → Int} (hL : Lay ns) (h0 : 0 ≤ k) (h9 : k ≤ 1000) (hn : n ≤ 9) : Zhu [scr ns, .int k, ZiM n x] = some (Z5 n (Zct ns k n x) (Zfz ns k n x)) := by
 apply Pk.eq
 unfold Zhu Zk4 ZiM
 have hq : ((n + 1 : Nat) : Int) * ((n + 1 : Nat) : Int) ≤ 10 * 10 := Int.mul_le_mul (by omega) (by omega) (by omega) (by decide)
 have hq0 : (0 : Int) ≤ ((n + 1 : Nat) : Int) * ((n + 1 : Nat) : Int) := Int.mul_nonneg (by omega) (by omega)
 walk_at "zz"
 rw [Zwk]
 refine ZbK (n := n + 1) (a := fun i => .int i) (P := fun i σ => σ 0 = some (scr ns) ∧ σ 1 = some (.int k) ∧ σ 2 = some (.lst (tab n fun i => .int (x i))) ∧ σ 3 = some (.lst (tab (n + 1) fun i => .int (ZaJ x i))) ∧ σ 4 = some (.int (n + 1 : Nat)) ∧ σ 5 = some (.lst (tab i fun i => Zar (n + 1) (Zct ns k n x i)))) ?_ ⟨rfl, rfl, rfl, rfl, rfl, rfl⟩ ?_ ?_
 ·walk_at "zz"
  rfl
 ·rintro i σ hi ⟨e0, e1, e2, e3, e4, e5⟩
  walk_at "zz"
  refine ZbK (n := n + 1) (a := fun i => .int i) (P := fun j σ => σ 0 = some (scr ns) ∧ σ 1 = some (.int k) ∧ σ 2 = some (.lst (tab n fun i => .int (x i))) ∧ σ 3 = some (.lst (tab (n + 1) fun i => .int (ZaJ x i))) ∧ σ 4 = some (.int (n + 1 : Nat)) ∧ σ 5 = some (.lst (tab i fun i => Zar (n + 1) (Zct ns k n x i))) ∧ σ 6 = some (.int i) ∧ σ 7 = some (.lst (tab j fun j => oT ((Zdg ns (k + i * (n + 1 : Nat) + j)).map fun c => ZaJ x i - ZaJ x j + c)))) ?_ ⟨?_, ?_, ?_, ?_, ?_, ?_, ?_, ?_⟩ ?_ ?_
  ·walk_at "zz"
   rfl
  all_goals first | walk_at "zr" | skip
  ·rintro j σ hj ⟨e0, e1, e2, e3, e4, e5, e6, e7⟩
   have hb1 : (0 : Int) ≤ i * ((n + 1 : Nat) : Int) := Int.mul_nonneg (by omega) (by omega)
   have hb2 : (i : Int) * ((n + 1 : Nat) : Int) ≤ 10 * 10 := Int.mul_le_mul (by omega) (by omega) (by omega) (by decide)
   walk_at "zz"
   refine ZdF (by omega) (by omega) ?_
   walk_at "zz"
   refine ZO (Zud hL (by omega) (by omega)) ?_
   have key : ∀ w, w = oT ((Zdg ns (k + i * (n + 1 : Nat) + j)).map fun c => ZaJ x i - ZaJ x j + c) → tab j (fun j => oT ((Zdg ns (k + i * (n + 1 : Nat) + j)).map fun c => ZaJ x i - ZaJ x j + c)) ++ [w] = tab (j + 1) fun j => oT ((Zdg ns (k + i * (n + 1 : Nat) + j)).map fun c => ZaJ x i - ZaJ x j + c) := fun w e => by
    rw [e]; exact ZdD
   cases hs : Zdg ns (k + ↑i * ↑(n + 1) + ↑j) with
   | none =>
    simp only [Za6, Zan]
    walk_at "zz"
    rw [key _ (by rw [hs]; rfl)]
    refine ⟨?_, ?_, ?_, ?_, ?_, ?_, ?_, ?_⟩ <;> walk_at "zr"
   | some c =>
    simp only [Za6, Zan]
    walk_at "zz"
    rw [key _ (by rw [hs]; rfl)]
    refine ⟨?_, ?_, ?_, ?_, ?_, ?_, ?_, ?_⟩ <;> walk_at "zr"
  ·rintro σ ⟨e0, e1, e2, e3, e4, e5, e6, e7⟩
   walk_at "zz"
   rw [Zuf, show tab i (fun i => Zar (n + 1) (Zct ns k n x i)) ++ [T.lst (tab (n + 1) fun j => oT (Zct ns k n x i j))] = tab (i + 1) fun i => Zar (n + 1) (Zct ns k n x i) from ZdD (f := fun i => Zar (n + 1) (Zct ns k n x i))]
   refine ⟨?_, ?_, ?_, ?_, ?_, ?_⟩ <;> walk_at "zr"
 ·rintro σ ⟨e0, e1, e2, e3, e4, e5⟩
  walk_at "zz"
  refine Zcz (n := n) (a := fun i => .int i) (b := fun t => prT (Zfz ns k n x t)) (by omega) ?_ (fun t ht => ?_) ?_
  ·walk_at "zz"
   refine ZiB n (by omega) (by omega) rfl
  ·walk_at "zz"
   refine ZdF (by omega) (by omega) ?_
   walk_at "zz"
   exact ZO (Zvc hL (by omega) (by omega)) ⟨ZhS, rfl⟩
  walk_at "zz"
  rfl
noncomputable def ZbH (n : Nat) (G : Nat → Nat → Option Int) (R : Nat → Int × Int) (x : Nat → Int) : Prop := (∀ i j, i < n + 1 → j < n + 1 → ∀ b, G i j = some b → ZaJ x i - ZaJ x j ≤ b) ∧ ∀ t, t < n → ZaP (R t) (x t)
noncomputable def ZwU (n : Nat) (G : Nat → Nat → Option Int) (R : Nat → Int × Int) : Prop := (∀ i, i < n + 1 → G i i = some 0) ∧ ∀ t, t < n → RestOk (R t)
theorem Ztj (ns : List Int) (k : Int) (n : Nat) (x : Nat → Int) : ZwU n (Zct ns k n x) (Zfz ns k n x) := ⟨fun i _ => Zsz ns k n x i, fun t _ => Zue ns _ _⟩
theorem Ztk {n : Nat} {G : Nat → Nat → Option Int} {σ : TL} {j : Nat} {g : PE} {Q : T → Prop} (hn : n < 10000) (e : Pk (g σ) fun t => t = Z8 n G) (h : Q (Z8 n G)) : Pk (Zam (ZaH g) (Zab j) Zag (Zs ZbX (Zd (Za j) Zn)) σ) Q := by
 refine Zcz (n := n) (a := fun i => Zar n (G i)) (b := fun i => Zar n (G i)) hn ?_ (fun i hi => ?_) h
 ·refine Zh7 (e.mono ?_)
  rintro _ rfl
  exact Sq.lst rfl
 ·unfold Zar
  walk_at "zz"
  rfl
theorem Zve {n : Nat} {G : Nat → Nat → Option Int} {R : Nat → Int × Int} (hn : n ≤ 100) : ZdU [Z5 n G R] = some (Z5 n G R) := by
 apply Pk.eq
 unfold ZdU Zhv Z5 ZaU
 walk_at "zz"
 refine Ztk (n := n + 1) (G := G) (by omega) ?_ ?_
 ·walk_at "zz"
  rfl
 walk_at "zz"
 rfl
theorem Ztl : ZdU [.none] = some .none := by
 apply Pk.eq
 unfold ZdU Zhv
 walk_at "zz"
 rfl
end L
namespace L
open PySem PySem.W PyProof.Rows PM TM My
noncomputable def leO (a b : Option Int) : Prop := ∀ y, b = some y → ∃ x, a = some x ∧ x ≤ y
theorem Zc9 {a : Option Int} : leO a none := fun _ e => by cases e
theorem leO_some {x y : Int} : leO (some x) (some y) ↔ x ≤ y := ⟨fun h => by obtain ⟨z, e, q⟩ := h y rfl; cases e; exact q, fun h z e => by cases e; exact ⟨x, rfl, h⟩⟩
theorem Zic {y : Int} : ¬ leO none (some y) := fun h => by obtain ⟨z, e, _⟩ := h y rfl; cases e
theorem ZrR {a b : Option Int} : ZfT [oT a, oT b] = some (.bool (dec (leO a b))) := by
 apply Pk.eq
 unfold ZfT Zkm
 cases b with
 | none =>
  simp only [Za6]
  walk_at "zz"
  rw [ZaZ Zc9]
 | some y =>
  cases a with
  | none =>
   simp only [Za6, Zan]
   walk_at "zz"
   rw [ZbN Zic]
  | some x =>
   simp only [Zan]
   walk_at "zz"
   rw [ZlJ leO_some, Zhs]
theorem Zvf {q : Int × Int} (h : 0 < q.1 ∧ 0 ≤ q.2 ∧ q.2 < q.1) (x : Int) : x.fmod q.1 = q.2 ↔ (x - q.2) % q.1 = 0 := by
 rw [Int.fmod_eq_emod_of_nonneg _ (by omega)]
 constructor
 ·intro e
  rw [← e, Int.sub_emod, Int.emod_emod, Int.sub_self]
  simp
 ·intro e
  have : x % q.1 = q.2 % q.1 := Int.emod_eq_emod_iff_emod_sub_eq_zero.mpr e
  rw [this, Int.emod_eq_of_lt h.2.1 h.2.2]
theorem Zvg {q : Int × Int} (h : RestOk q) (x : Int) : (if q.1 = 0 then x = q.2 else x.fmod q.1 = q.2) ↔ ZaP q x := by
 unfold ZaP
 rcases h with h | h
 ·rw [if_pos h]; simp [h]
 ·rw [if_neg (by omega), Zvf h]
  have h1 : ¬ q.1 = 0 := by omega
  simp only [h1, false_implies, true_and, h.1, true_implies]
  rfl
theorem Zoe {q : Int × Int} {x : Int} (h : RestOk q) : ZdV [prT q, .int x] = some (.bool (dec (ZaP q x))) := by
 apply Pk.eq
 unfold ZdV Zk8 prT
 rw [← ZlJ (Zvg h x)]
 by_cases c : q.1 = 0
 ·walk_at "zz"
  rw [if_pos c, Zhs]
 ·walk_at "zz"
  rw [if_neg c, Zhs]
end L
namespace L
open PySem PySem.W PyProof.Rows PM TM My
noncomputable def Eu (m : Nat) (a b : Int) : Prop := 0 ≤ a ∧ 0 ≤ b ∧ ∃ k : Nat, a * b < 2 ^ k ∧ m = 2 * k + if a < b then 1 else 0
theorem Eu.step {m : Nat} {a b : Int} (h : Eu m a b) (hb : b ≠ 0) : ∃ m', m' < m ∧ Eu m' b (a % b) := by
 obtain ⟨h0, h1, k, h2, h3⟩ := h
 have hb' : 0 < b := by omega
 have r0 := Int.emod_nonneg a hb
 have r1 := Int.emod_lt_of_pos a hb'
 by_cases q : a < b
 ·rw [if_pos q] at h3
  have e : a % b = a := Int.emod_eq_of_lt h0 q
  rw [e]
  exact ⟨2 * k, by omega, h1, h0, k, by rw [Int.mul_comm]; exact h2, by rw [if_neg (by omega)]; omega⟩
 ·rw [if_neg q] at h3
  have hd := Int.emod_add_mul_ediv a b
  have hq : 1 ≤ a / b := Int.le_ediv_of_mul_le hb' (by omega)
  have hm : b * 1 ≤ b * (a / b) := Int.mul_le_mul_of_nonneg_left hq h1
  have h2r : 2 * (a % b) < a := by omega
  have hp : b * (2 * (a % b)) < b * a := Int.mul_lt_mul_of_pos_left h2r hb'
  have hk : k ≠ 0 := by
   rintro rfl
   have : 0 < a * b := Int.mul_pos (by omega) hb'
   simp at h2
   omega
  obtain ⟨k', rfl⟩ : ∃ k', k = k' + 1 := ⟨k - 1, by omega⟩
  refine ⟨2 * k', by omega, h1, r0, k', ?_, by rw [if_neg (by omega)]; omega⟩
  have e1 : b * (2 * (a % b)) = 2 * (b * (a % b)) := by rw [← Int.mul_assoc, Int.mul_comm b 2, Int.mul_assoc]
  have e2 : a * b = b * a := Int.mul_comm _ _
  rw [Int.pow_succ] at h2
  omega
theorem ZhU {a b : Int} (ha : 0 ≤ a) (hb : 0 ≤ b) (ha2 : a < 2 ^ 200000) (hb2 : b < 2 ^ 200000) : ∃ m, m < 1000000 ∧ Eu m a b := by
 refine ⟨_, ?_, ha, hb, 400000, ?_, rfl⟩
 ·split <;> omega
 ·have h1 : a * b ≤ a * 2 ^ 200000 := Int.mul_le_mul_of_nonneg_left (by omega) ha
  have h2 : a * 2 ^ 200000 < 2 ^ 200000 * 2 ^ 200000 := Int.mul_lt_mul_of_pos_right ha2 (Int.pow_pos (by decide))
  have h3 : (2 : Int) ^ 200000 * 2 ^ 200000 = 2 ^ 400000 := by rw [← Int.pow_add]
  omega
theorem Zgh {a b : Int} (hb : 0 < b) : Int.gcd b (a % b) = Int.gcd a b := by
 rw [Int.gcd_comm a b, Int.emod_def, Int.gcd_sub_mul_left_right]
theorem ZpS {a b : Int} : Int.gcd (Zb3 a) (Zb3 b) = Int.gcd a b := by
 unfold Zb3 Int.gcd
 split <;> split <;> simp
theorem Zid {a : Int} {k : Nat} (h : a.natAbs < 2 ^ k) : Zb3 a < 2 ^ k := by
 have : ((a.natAbs : Nat) : Int) < 2 ^ k := by exact_mod_cast h
 unfold Zb3
 split <;> omega
theorem ZsA {a b : Int} (ha : a.natAbs < 2 ^ 200000) (hb : b.natAbs < 2 ^ 200000) : ZhJ [.int a, .int b] = some (.int (Int.gcd a b)) := by
 apply Pk.eq
 unfold ZhJ ZlM
 walk_at "zz"
 obtain ⟨m, hm, eu⟩ := ZhU (ZdG a) (ZdG b) (Zid ha) (Zid hb)
 refine Zff (fun m σ => ∃ c d : Int, σ 0 = some (.int c) ∧ σ 1 = some (.int d) ∧ Eu m c d ∧ Int.gcd c d = Int.gcd a b) _ _ ?_ 1000000 (m := m) ⟨Zb3 a, Zb3 b, by walk_at "zr", by walk_at "zr", eu, ZpS⟩ hm
 rintro m σ ⟨c, d, e0, e1, eu, eg⟩
 walk_at "zz"
 refine ⟨fun h => ?_, fun h => ?_⟩
 ·have hd : d ≠ 0 := by simpa using h
  have hd0 : 0 ≤ d := eu.2.1
  walk_at "zz"
  rw [Int.fmod_eq_emod_of_nonneg _ hd0]
  obtain ⟨m', h1, h2⟩ := eu.step hd
  exact ⟨m', h1, d, c % d, by walk_at "zr", by walk_at "zr", h2, by rw [Zgh (by omega)]; exact eg⟩
 ·have hd : d = 0 := by simpa using h
  subst hd
  walk_at "zz"
  rw [← eg, Int.gcd_zero_right]
  have := eu.1
  congr 1
  omega
theorem Zgs (ns : List Int) (k : Int) : (Zb2 ns k).natAbs < 2 ^ 134 := by
 have h := Zqs ns k
 have h2 := Zik
 have : (2 : Nat) ^ 134 = 21778071482940061661655974875633165533184 := by decide
 omega
theorem ZaW {a : Nat} {i j : Nat} (h : a < 2 ^ i) (hij : i ≤ j) : a < 2 ^ j := Nat.lt_of_lt_of_le h (Nat.pow_le_pow_right (by decide) hij)
noncomputable def SmG (k n : Nat) (G : Nat → Nat → Option Int) : Prop := ∀ i j, i < n + 1 → j < n + 1 → ∀ b, G i j = some b → b.natAbs < 2 ^ k
noncomputable def SmR (k n : Nat) (R : Nat → Int × Int) : Prop := ∀ t, t < n → (R t).1.natAbs < 2 ^ k ∧ (R t).2.natAbs < 2 ^ k
theorem Zhf {m r : Int} {k : Nat} (h0 : 0 ≤ m) (hm : m.natAbs < 2 ^ k) (hr : r.natAbs < 2 ^ k) : (Za2 m r).1.natAbs < 2 ^ k ∧ (Za2 m r).2.natAbs < 2 ^ k := by
 unfold Za2
 split
 ·exact ⟨Nat.two_pow_pos k, hr⟩
 ·have h1 := Int.fmod_nonneg_of_pos r (show 0 < m by omega)
  have h2 := Int.fmod_lt_of_pos r (show 0 < m by omega)
  exact ⟨hm, by show (r.fmod m).natAbs < _; omega⟩
theorem Zph (a : Int) : (Zb3 a).natAbs = a.natAbs := by unfold Zb3; split <;> omega
theorem Zsd {ns : List Int} {k x : Int} (hx : x.natAbs < 2 ^ 134) : (Zd5 ns k x).1.natAbs < 2 ^ 134 ∧ (Zd5 ns k x).2.natAbs < 2 ^ 134 := by
 have h := Zpg ns k
 have h2 := Zgs ns k
 have e : (2 : Nat) ^ 134 = 21778071482940061661655974875633165533184 := by decide
 unfold Zd5
 split
 ·exact ⟨by show (1 : Nat) < _; omega, by show (0 : Nat) < _; omega⟩
 ·split
  ·exact ⟨by show (0 : Nat) < _; omega, hx⟩
  ·split
   ·exact Zhf (by omega) (by omega) hx
   ·exact Zhf (ZdG _) (by rw [Zph]; exact h2) hx
theorem ZoA {n k : Nat} {x : Nat → Int} (hx : ∀ i, i < n → (x i).natAbs < 2 ^ k) (i : Nat) (hi : i < n + 1) : (ZaJ x i).natAbs < 2 ^ k := by
 cases i with
 | zero => exact Nat.two_pow_pos k
 | succ i => exact hx i (by omega)
theorem Zug {ns : List Int} {k : Int} {n : Nat} {x : Nat → Int} (hx : ∀ i, i < n → (x i).natAbs < 2 ^ 134) : SmG 136 n (Zct ns k n x) := by
 intro i j hi hj b h
 have e : (2 : Nat) ^ 134 = 21778071482940061661655974875633165533184 := by decide
 have e2 : (2 : Nat) ^ 136 = 4 * 21778071482940061661655974875633165533184 := by decide
 have h40 := Zik
 have h1 := ZoA hx i hi
 have h2 := ZoA hx j hj
 unfold Zct at h
 split at h
 ·cases h; exact Nat.two_pow_pos _
 ·obtain ⟨c, h3, h4⟩ := Zz1.mp h
  have := Zuc ns _ h3
  subst h4
  omega
theorem Zpi {ns : List Int} {k : Int} {n : Nat} {x : Nat → Int} (hx : ∀ i, i < n → (x i).natAbs < 2 ^ 134) : SmR 134 n (Zfz ns k n x) := fun t ht => Zsd (hx t ht)
theorem Ztm {σ : TL} {Q : T → Prop} {g : PG} {j n : Nat} {a : Nat → T} {f : PE} {β : Type} (e : β → T) (P : Nat → β → Prop) (hn : n < 10000) (hg : Pl (g σ) fun ts => ts = tab n a) (hf : ∀ i, i < n → Pk (f (Z7 σ j (a i))) fun t => ∃ y, t = e y ∧ P i y) (d : β) (h : ∀ y : Nat → β, (∀ i, i < n → P i (y i)) → Q (.lst (tab n fun i => e (y i)))) : Pk (Zam g (Zab j) Zag f σ) Q := by
 have hc : ∃ y : Nat → β, ∀ i, i < n → Pk (f (Z7 σ j (a i))) (fun t => t = e (y i)) ∧ P i (y i) := by
  have hx : ∀ i, ∃ y : β, i < n → Pk (f (Z7 σ j (a i))) (fun t => t = e y) ∧ P i y := fun i => by
   by_cases q : i < n
   ·obtain ⟨t, e1, y, e2, p⟩ := hf i q
    exact ⟨y, fun _ => ⟨⟨t, e1, e2⟩, p⟩⟩
   ·exact ⟨d, fun h => absurd h q⟩
  exact ⟨fun i => Classical.choose (hx i), fun i => Classical.choose_spec (hx i)⟩
 obtain ⟨y, hy⟩ := hc
 exact Zcz hn hg (fun i hi => (hy i hi).1) (h y fun i hi => (hy i hi).2)
theorem ZhD {n : Nat} {G : Nat → Nat → Option Int} {σ : TL} {j : Nat} {g : PE} {Q : T → Prop} (hn : n < 10000) (e : Pk (g σ) fun t => t = Z8 n G) (h : Q (Z8 n G)) : Pk (Zam (ZaH g) (Zab j) Zag (pFl (Zs ZbX (Zd (Za j) Zn))) σ) Q := by
 refine Zcz (n := n) (a := fun i => Zar n (G i)) (b := fun i => Zar n (G i)) hn ?_ (fun i hi => ?_) h
 ·refine Zh7 (e.mono ?_)
  rintro _ rfl
  exact Sq.lst rfl
 ·unfold Zar
  walk_at "zz"
  rfl
noncomputable def ZbR (G : Nat → Nat → Option Int) (i j : Nat) (v : Option Int) : Nat → Nat → Option Int := fun a b => if a = i ∧ b = j then v else G a b
theorem ZdJ {n : Nat} {G : Nat → Nat → Option Int} {i j : Nat} {v : Option Int} : T.lst (tab n fun a => T.lst (tab n fun b => if a = i ∧ b = j then oT v else oT (G a b))) = Z8 n (ZbR G i j v) := by
 unfold Z8 Zar ZbR
 congr 2
 funext a
 congr 2
 funext b
 split <;> rfl
theorem Zie {G : Nat → Nat → Option Int} {i j : Nat} {v : Option Int} : ZbR G i j v i j = v := by simp [ZbR]
theorem Zgt {G : Nat → Nat → Option Int} {i j a b : Nat} {v : Option Int} (h : ¬ (a = i ∧ b = j)) : ZbR G i j v a b = G a b := by simp [ZbR, h]
theorem ZcS {a : Option Int} : leO a a := fun y e => ⟨y, e, Int.le_refl y⟩
theorem Zdq {a b c : Option Int} (h : leO a b) (k : leO b c) : leO a c := fun y e => by
 obtain ⟨x, e1, l1⟩ := k y e
 obtain ⟨w, e2, l2⟩ := h x e1
 exact ⟨w, e2, by omega⟩
theorem Ziv {k : Int} {n : Nat} (h0 : 0 ≤ k) (h1 : k < n) : ∃ i : Nat, k = i ∧ i < n := ⟨k.toNat, by omega, by omega⟩
end L
namespace L
open PySem PySem.W PyProof.Rows PM TM My
theorem ZoB {a b : Int} (ha : a.natAbs < 2 ^ 200000) (hb : b.natAbs < 2 ^ 200000) : Ze5 [.int a, .int b] = some (.int (Int.gcd a b)) := by
 apply Pk.eq
 unfold Ze5 ZlO
 walk_at "zz"
 obtain ⟨m, hm, eu⟩ := ZhU (ZdG a) (ZdG b) (Zid ha) (Zid hb)
 refine Zff (fun m σ => ∃ c d : Int, σ 2 = some (.int c) ∧ σ 3 = some (.int d) ∧ Eu m c d ∧ Int.gcd c d = Int.gcd a b) _ _ ?_ 1000000 (m := m) ⟨Zb3 a, Zb3 b, by walk_at "zr", by walk_at "zr", eu, ZpS⟩ hm
 rintro m σ ⟨c, d, e0, e1, eu, eg⟩
 walk_at "zz"
 refine ⟨fun h => ?_, fun h => ?_⟩
 ·have hd : d ≠ 0 := by simpa using h
  have hd0 : 0 ≤ d := eu.2.1
  walk_at "zz"
  rw [Int.fmod_eq_emod_of_nonneg _ hd0]
  obtain ⟨m', h1, h2⟩ := eu.step hd
  exact ⟨m', h1, d, c % d, by walk_at "zr", by walk_at "zr", h2, by rw [Zgh (by omega)]; exact eg⟩
 ·have hd : d = 0 := by simpa using h
  subst hd
  walk_at "zz"
  rw [← eg, Int.gcd_zero_right]
  have := eu.1
  congr 1
  omega
noncomputable def Bd (k : Nat) (x : Int) : Prop := x.natAbs < 2 ^ k
theorem Bd.mono {i j : Nat} {x : Int} (h : Bd i x) (hij : i ≤ j) : Bd j x := ZaW h hij
theorem Zch {i j : Nat} {x y : Int} (h : Bd i x) (k : Bd j y) (hi : i ≤ 1000000) (hj : j ≤ 1000000) : mulOk x y = true := Zo4 (Nat.le_trans (PyProof.Rows.intBits_le h) (Nat.le_trans hi (by decide))) (Nat.le_trans (PyProof.Rows.intBits_le k) (Nat.le_trans hj (by decide)))
theorem Bd.mul {i j : Nat} {x y : Int} (h : Bd i x) (k : Bd j y) : Bd (i + j) (x * y) := by
 unfold Bd at *
 rw [Int.natAbs_mul, Nat.pow_add]
 exact Nat.mul_lt_mul'' h k
theorem Bd.add {i : Nat} {x y : Int} (h : Bd i x) (k : Bd i y) : Bd (i + 1) (x + y) := by
 unfold Bd at *
 rw [Nat.pow_succ]
 omega
theorem Bd.sub {i : Nat} {x y : Int} (h : Bd i x) (k : Bd i y) : Bd (i + 1) (x - y) := by
 unfold Bd at *
 rw [Nat.pow_succ]
 omega
theorem Zdt {i : Nat} {y x : Int} (h : Bd i y) (hi : i ≤ 9000) : Builtin.divisionGoesByPylong x y = false := by
 refine PyProof.noPylong_of_log2 ?_
 by_cases h0 : y.natAbs = 0
 ·rw [h0]; decide +kernel
 ·exact Nat.lt_of_lt_of_le ((Nat.log2_lt h0).mpr h) hi
theorem Zc1 {i : Nat} {x y : Int} (h : Bd i y) (h0 : 0 ≤ x) (h1 : x ≤ y) : Bd i x := by unfold Bd at *; omega
theorem ZdQ {i : Nat} (h : 1 ≤ i) : Bd i 1 := ZaW (i := 1) (by decide) h
theorem Zed {i : Nat} : Bd i 0 := Nat.two_pow_pos i
theorem ZsB {a b : Int} {k : Nat} (hb : 0 < b) (kb : Bd k b) (hk : k ≤ 8000) (ha : 0 ≤ a) (hg : Int.gcd a b = 1) : Pk (ZhK [.int a, .int b]) fun t => ∃ x : Int, t = .int x ∧ 0 ≤ x ∧ x < b ∧ ∃ q, a * x = 1 + b * q := by
 unfold ZhK ZlS
 walk_at "zz"
 rw [Int.fmod_eq_emod_of_nonneg _ (by omega)]
 have r0 := Int.emod_nonneg a (show b ≠ 0 by omega)
 have r1 := Int.emod_lt_of_pos a hb
 have hlt : ∀ x : Int, 0 ≤ x → x ≤ b → x < 2 ^ 200000 := fun x h0 h1 => by
  have h2 : b.natAbs < 2 ^ 200000 := ZaW kb (by omega)
  have h3 : ((b.natAbs : Nat) : Int) < 2 ^ 200000 := by exact_mod_cast h2
  omega
 obtain ⟨m, hm, eu⟩ := ZhU r0 (show 0 ≤ b by omega) (hlt _ r0 (by omega)) (hlt b (by omega) (by omega))
 have hg0 : Int.gcd (a % b) b = 1 := by
  rw [Int.gcd_comm, Zgh hb]; exact hg
 refine Zff (fun m σ => ∃ l r s t : Int, σ 1 = some (.int b) ∧ σ 2 = some (.int l) ∧ σ 3 = some (.int r) ∧ σ 4 = some (.int s) ∧ σ 5 = some (.int t) ∧ Eu m l r ∧ Int.gcd l r = 1 ∧ l ≤ b ∧ r ≤ b ∧ (∃ q, s * a = l + b * q) ∧ (∃ q, t * a = r + b * q) ∧ (s.natAbs : Int) * r + (t.natAbs : Int) * l ≤ b ∧ (1 ≤ l ∨ t = 0)) _ _ ?_ 1000000 (m := m) ⟨a % b, b, 1, 0, by walk_at "zr", by walk_at "zr", by walk_at "zr", by walk_at "zr", by walk_at "zr", eu, hg0, by omega, by omega, ⟨a / b, ?_⟩, ⟨-1, by omega⟩, by simp, .inr rfl⟩ hm
 ·rintro m σ ⟨l, r, s, t, e1, e2, e3, e4, e5, eu, gl, lb, rb, ⟨q1, h1⟩, ⟨q2, h2⟩, hb1, hl⟩
  walk_at "zz"
  refine ⟨fun h => ?_, fun h => ?_⟩
  ·have hr : r ≠ 0 := by simpa using h
   have hr0 : 0 ≤ r := eu.2.1
   have hl0 : 0 ≤ l := eu.1
   have hrp : 0 < r := by omega
   have kr : Bd k r := Zc1 kb hr0 rb
   have kl : Bd k l := Zc1 kb hl0 lb
   have hdiv0 : 0 ≤ l / r := Int.ediv_nonneg hl0 hr0
   have hdiv1 : l / r ≤ l := Int.ediv_le_self _ hl0
   have ks : (s.natAbs : Int) ≤ b := by
    have : (s.natAbs : Int) * 1 ≤ (s.natAbs : Int) * r := Int.mul_le_mul_of_nonneg_left (by omega) (by omega)
    have : 0 ≤ (t.natAbs : Int) * l := Int.mul_nonneg (by omega) hl0
    omega
   have kt : (t.natAbs : Int) ≤ b := by
    rcases hl with hl | hl
    ·have : (t.natAbs : Int) * 1 ≤ (t.natAbs : Int) * l := Int.mul_le_mul_of_nonneg_left (by omega) (by omega)
     have : 0 ≤ (s.natAbs : Int) * r := Int.mul_nonneg (by omega) hr0
     omega
    ·rw [hl]; simp; omega
   have kt' : Bd k t := by unfold Bd at *; omega
   have kd : Bd k (l / r) := Zc1 kl hdiv0 hdiv1
   walk_at "zz"
   refine ZcX hr (Zdt kr (by omega)) ?_
   rw [Int.fdiv_eq_ediv_of_nonneg _ hr0]
   walk_at "zz"
   refine ZbY (Zch kd kr (by omega) (by omega)) ?_
   walk_at "zz"
   refine ZbY (Zch kd kt' (by omega) (by omega)) ?_
   walk_at "zz"
   have hover : l - l / r * r = l % r := by
    have := Int.emod_add_mul_ediv l r
    rw [Int.mul_comm r (l / r)] at this
    omega
   rw [hover]
   obtain ⟨m', hm1, hm2⟩ := eu.step hr
   have o0 := Int.emod_nonneg l hr
   have o1 := Int.emod_lt_of_pos l hrp
   refine ⟨m', hm1, r, l % r, t, s - l / r * t, by walk_at "zr", by walk_at "zr", by walk_at "zr", by walk_at "zr", by walk_at "zr", hm2, by rw [Zgh hrp]; exact gl, rb, by omega, ⟨q2, h2⟩, ⟨q1 - l / r * q2, ?_⟩, ?_, .inl (by omega)⟩
   ·rw [Int.sub_mul, h1, Int.mul_assoc, h2, Int.mul_add, Int.mul_sub, ← hover]
    have e1 : b * (l / r * q2) = l / r * (b * q2) := by rw [← Int.mul_assoc, Int.mul_comm b, Int.mul_assoc]
    rw [e1]
    omega
   ·have ht : ((s - l / r * t).natAbs : Int) ≤ (s.natAbs : Int) + l / r * (t.natAbs : Int) := by
     have h3 : (s - l / r * t).natAbs ≤ s.natAbs + (l / r * t).natAbs := by omega
     have h4 : (l / r * t).natAbs = (l / r).natAbs * t.natAbs := Int.natAbs_mul ..
     have h5 : (((l / r).natAbs * t.natAbs : Nat) : Int) = l / r * (t.natAbs : Int) := by
      rw [Int.natCast_mul, Int.natAbs_of_nonneg hdiv0]
     rw [h4] at h3
     omega
    have h6 : ((s - l / r * t).natAbs : Int) * r ≤ ((s.natAbs : Int) + l / r * (t.natAbs : Int)) * r := Int.mul_le_mul_of_nonneg_right ht hr0
    have h7 : ((s.natAbs : Int) + l / r * (t.natAbs : Int)) * r = (s.natAbs : Int) * r + (t.natAbs : Int) * (l / r * r) := by
     rw [Int.add_mul, Int.mul_comm (l / r) (t.natAbs : Int), Int.mul_assoc]
    have h8 : (t.natAbs : Int) * (l % r) + (t.natAbs : Int) * (l / r * r) = (t.natAbs : Int) * l := by
     rw [← Int.mul_add, ← hover]
     congr 1
     omega
    omega
  ·have hr : r = 0 := by simpa using h
   subst hr
   rw [Int.gcd_zero_right] at gl
   have hl1 : l = 1 := by have := eu.1; omega
   subst hl1
   walk_at "zz"
   rw [Int.fmod_eq_emod_of_nonneg _ (by omega)]
   refine ⟨s % b, rfl, Int.emod_nonneg _ (by omega), Int.emod_lt_of_pos _ hb, q1 - s / b * a, ?_⟩
   have h3 := Int.emod_add_mul_ediv s b
   have h4 : s % b = s - b * (s / b) := by omega
   rw [h4, Int.mul_sub, Int.mul_comm a s, h1, Int.mul_sub]
   have e1 : a * (b * (s / b)) = b * (s / b * a) := by rw [Int.mul_comm a, Int.mul_assoc]
   rw [e1]
   omega
 ·have h3 := Int.emod_add_mul_ediv a b
  rw [Int.one_mul]
  omega
end L
namespace L
open PySem PySem.W PyProof.Rows PM TM My
theorem Zkc {m r : Int} (h : 0 ≤ m) : Zeu [.int m, .int r] = some (prT (Za2 m r)) := by
 apply Pk.eq
 unfold Zeu Zm9 Za2
 by_cases c : m = 0
 ·walk_at "zz"
  rw [if_pos c]; rfl
 ·walk_at "zz"
  rw [if_neg c]; rfl
theorem ZbB {q : Int × Int} (h : 0 ≤ q.1) (x : Int) : ZaP q x ↔ q.1 ∣ x - q.2 := by
 unfold ZaP
 by_cases c : q.1 = 0
 ·rw [c]
  simp
  omega
 ·have : 0 < q.1 := by omega
  simp only [c, false_implies, true_and, this, true_implies]
  exact (Int.dvd_iff_emod_eq_zero).symm
theorem Ztn {m r : Int} (h : 0 ≤ m) : 0 ≤ (Za2 m r).1 := by unfold Za2; split <;> simp [h]
theorem Ze1 {m r : Int} (h : 0 ≤ m) (x : Int) : ZaP (Za2 m r) x ↔ m ∣ x - r := by
 rw [ZbB (Ztn h)]
 unfold Za2
 split
 ·rename_i c; subst c; rfl
 ·show m ∣ x - r.fmod m ↔ _
  rw [Int.fmod_eq_emod_of_nonneg _ h]
  have h1 : x - r % m = (x - r) + m * (r / m) := by have := Int.emod_add_mul_ediv r m; omega
  rw [h1]
  constructor
  ·intro q
   have := Int.dvd_sub q (Int.dvd_mul_right m (r / m))
   rwa [Int.add_sub_cancel] at this
  ·intro q
   exact Int.dvd_add q (Int.dvd_mul_right m (r / m))
theorem RestOk.nn {q : Int × Int} (h : RestOk q) : 0 ≤ q.1 := by rcases h with h | h <;> omega
theorem RestOk.self {q : Int × Int} (h : RestOk q) : ZaP q q.2 := by rw [ZbB h.nn]; simp
theorem ZkP {p q : Int × Int} (hp : RestOk p) (hq : RestOk q) (h : ∀ x, ZaP p x ↔ ZaP q x) : p = q := by
 have e1 : ∀ x, p.1 ∣ x - p.2 ↔ q.1 ∣ x - q.2 := fun x => by rw [← ZbB hp.nn, ← ZbB hq.nn]; exact h x
 have a1 : q.1 ∣ p.2 - q.2 := (e1 p.2).mp (by simp)
 have a2 : q.1 ∣ p.2 + p.1 - q.2 := (e1 (p.2 + p.1)).mp (by rw [show p.2 + p.1 - p.2 = p.1 by omega]; exact Int.dvd_refl _)
 have b1 : p.1 ∣ q.2 - p.2 := (e1 q.2).mpr (by simp)
 have b2 : p.1 ∣ q.2 + q.1 - p.2 := (e1 (q.2 + q.1)).mpr (by rw [show q.2 + q.1 - q.2 = q.1 by omega]; exact Int.dvd_refl _)
 have c1 : q.1 ∣ p.1 := by have := Int.dvd_sub a2 a1; rwa [show p.2 + p.1 - q.2 - (p.2 - q.2) = p.1 by omega] at this
 have c2 : p.1 ∣ q.1 := by have := Int.dvd_sub b2 b1; rwa [show q.2 + q.1 - p.2 - (q.2 - p.2) = q.1 by omega] at this
 have em : p.1 = q.1 := Int.dvd_antisymm hp.nn hq.nn c2 c1
 have er : p.2 = q.2 := by
  rcases hp with hp | hp
  ·rw [hp] at em
   rw [← em] at a1
   have := Int.zero_dvd.mp a1
   omega
  ·rcases hq with hq | hq
   ·omega
   ·rw [← em] at a1 hq
    obtain ⟨k, hk⟩ := a1
    have : k = 0 := by
     rcases Int.lt_trichotomy k 0 with h | h | h
     ·have : p.1 * k ≤ p.1 * (-1) := Int.mul_le_mul_of_nonneg_left (by omega) (by omega)
      omega
     ·exact h
     ·have : p.1 * 1 ≤ p.1 * k := Int.mul_le_mul_of_nonneg_left (by omega) (by omega)
      omega
    subst this
    simp at hk
    omega
 exact Prod.ext em er
noncomputable def RBd (k : Nat) (q : Int × Int) : Prop := Bd k q.1 ∧ Bd k q.2
theorem Zl7 {m r : Int} {k : Nat} (h0 : 0 ≤ m) (hm : Bd k m) (hr : Bd k r) : RBd k (Za2 m r) := Zhf h0 hm hr
noncomputable def ZbG (p q : Int × Int) : Int × Int := Za2 (Int.gcd p.1 q.1) (p.2 + q.2)
theorem ZhV (p q : Int × Int) : RestOk (ZbG p q) := ZdY (by omega) _
theorem ZnY {p q : Int × Int} {k : Nat} (hk : k ≤ 200000) (hp : Bd k p.1) (hq : Bd k q.1) : ZeQ [prT p, prT q] = some (prT (ZbG p q)) := by
 apply Pk.eq
 unfold ZeQ Zko prT ZbG
 walk_at "zz"
 refine ZO (ZoB (ZaW hp hk) (ZaW hq hk)) ?_
 walk_at "zz"
 exact ZO (Zkc (by omega)) rfl
noncomputable def Zew (p : Int × Int) (k : Int) : Int × Int := Za2 (p.1 * Zb3 k) (p.2 * k)
theorem Zrw {p : Int × Int} {c : Int} {k : Nat} (hk : k ≤ 200000) (hp0 : 0 ≤ p.1) (hp : RBd k p) (hc : Bd k c) : ZeN [prT p, .int c] = some (prT (Zew p c)) := by
 apply Pk.eq
 unfold ZeN ZjU prT Zew
 have ha : Bd k (Zb3 c) := by unfold Bd at *; rw [Zph]; exact hc
 walk_at "zz"
 refine ZbY (Zch hp.1 ha (by omega) (by omega)) ?_
 walk_at "zz"
 refine ZbY (Zch hp.2 hc (by omega) (by omega)) ?_
 walk_at "zz"
 exact ZO (Zkc (Int.mul_nonneg hp0 (ZdG c))) rfl
noncomputable def Zdu (p : Int × Int) (top : Int) : Option Int := if p.1 = 0 then (if p.2 ≤ top then some p.2 else none) else some (top - (top - p.2) % p.1)
theorem Zrx {p : Int × Int} {top : Int} (hp : 0 ≤ p.1) : Zg9 [prT p, .int top] = some (oT (Zdu p top)) := by
 apply Pk.eq
 unfold Zg9 ZjY prT Zdu
 by_cases c : p.1 = 0
 ·rw [if_pos c]
  by_cases d : p.2 ≤ top
  ·walk_at "zz"
   rw [if_pos d]; rfl
  ·walk_at "zz"
   rw [if_neg d]; rfl
 ·rw [if_neg c]
  walk_at "zz"
  rw [Int.fmod_eq_emod_of_nonneg _ hp]
  rfl
noncomputable def oR : Option (Int × Int) → T
 | none => .none
 | some q => prT q
noncomputable def Met (p q : Int × Int) (o : Option (Int × Int)) : Prop := match o with
 | none => ∀ x, ¬ (ZaP p x ∧ ZaP q x)
 | some r => RestOk r ∧ (∀ x, ZaP r x ↔ ZaP p x ∧ ZaP q x)
theorem ZsC {p q : Int × Int} {a b : Option (Int × Int)} (ha : Met p q a) (hb : Met p q b) : a = b := by
 cases a with
 | none =>
  cases b with
  | none => rfl
  | some r => exact absurd ((hb.2 r.2).mp hb.1.self) (ha r.2)
 | some s =>
  cases b with
  | none => exact absurd ((ha.2 s.2).mp ha.1.self) (hb s.2)
  | some r => rw [ZkP ha.1 hb.1 fun x => (ha.2 x).trans (hb.2 x).symm]
theorem Zof {p q : Int × Int} {k : Nat} (hk : k ≤ 8000) (op : RestOk p) (oq : RestOk q) (bp : RBd k p) (bq : RBd k q) : Pk (ZfY [prT p, prT q]) fun t => ∃ o, t = oR o ∧ Met p q o ∧ ∀ r, o = some r → (r = p ∨ r = q ∨ (p.1 ≠ 0 ∧ q.1 ≠ 0 ∧ r.1 = Int.lcm p.1 q.1)) := by
 unfold ZfY Zla
 have ep : prT p = .tup [.int p.1, .int p.2] := rfl
 have eq : prT q = .tup [.int q.1, .int q.2] := rfl
 have np := op.nn
 have nq := oq.nn
 by_cases c1 : p.1 = 0
 ·rw [ep]
  walk_at "zz"
  refine ZO (Zoe oq) ?_
  walk_at "zz"
  have hone : ∀ x, ZaP p x ↔ x = p.2 := fun x => by rw [ZbB np, c1, Int.zero_dvd]; omega
  refine ⟨fun e => ?_, fun e => ?_⟩
  ·walk_at "zz"
   refine ⟨some p, rfl, ⟨op, fun x => ⟨fun h => ⟨h, ?_⟩, fun h => h.1⟩⟩, fun r e => by cases e; exact .inl rfl⟩
   rw [(hone x).mp h]; exact dec_iff.mp e
  ·walk_at "zz"
   refine ⟨none, rfl, fun x h => ?_, by simp⟩
   have := (hone x).mp h.1
   subst this
   have h2 := ZaZ h.2
   rw [h2] at e
   cases e
 by_cases c2 : q.1 = 0
 ·have hone : ∀ x, ZaP q x ↔ x = q.2 := fun x => by rw [ZbB nq, c2, Int.zero_dvd]; omega
  rw [ep, eq]
  walk_at "zz"
  rw [← ep]
  refine ZO (Zoe op) ?_
  walk_at "zz"
  refine ⟨fun e => ?_, fun e => ?_⟩
  ·walk_at "zz"
   refine ⟨some q, rfl, ⟨oq, fun x => ⟨fun h => ⟨?_, h⟩, fun h => h.2⟩⟩, fun r e => by cases e; exact .inr (.inl rfl)⟩
   rw [(hone x).mp h]; exact dec_iff.mp e
  ·walk_at "zz"
   refine ⟨none, rfl, fun x h => ?_, by simp⟩
   have := (hone x).mp h.2
   subst this
   have h2 := ZaZ h.1
   rw [h2] at e
   cases e
 ·have pp : 0 < p.1 := by omega
  have pq : 0 < q.1 := by omega
  obtain ⟨g, hg⟩ : ∃ g : Nat, Int.gcd p.1 q.1 = g := ⟨_, rfl⟩
  have hg0 : 0 < (g : Int) := by
   have : Int.gcd p.1 q.1 ≠ 0 := fun h => c1 (Int.gcd_eq_zero_iff.mp h).1
   omega
  have gp : (g : Int) ∣ p.1 := by rw [← hg]; exact Int.gcd_dvd_left ..
  have gq : (g : Int) ∣ q.1 := by rw [← hg]; exact Int.gcd_dvd_right ..
  obtain ⟨a, ea⟩ := gp
  obtain ⟨b, eb⟩ := gq
  have ha : 0 < a := by
   rcases Int.lt_trichotomy a 0 with h | h | h
   ·have := Int.mul_neg_of_pos_of_neg hg0 h; omega
   ·subst h; simp at ea; omega
   ·exact h
  have hb : 0 < b := by
   rcases Int.lt_trichotomy b 0 with h | h | h
   ·have := Int.mul_neg_of_pos_of_neg hg0 h; omega
   ·subst h; simp at eb; omega
   ·exact h
  have da : p.1 / g = a := by rw [ea]; exact Int.mul_ediv_cancel_left _ (by omega)
  have db : q.1 / g = b := by rw [eb]; exact Int.mul_ediv_cancel_left _ (by omega)
  have kg : Bd k (g : Int) := Zc1 bp.1 (by omega) (by
   rw [ea]
   have : (g : Int) * 1 ≤ g * a := Int.mul_le_mul_of_nonneg_left (by omega) (by omega)
   omega)
  have kb : Bd k b := Zc1 bq.1 (by omega) (by
   rw [eb]
   have : 1 * b ≤ g * b := Int.mul_le_mul_of_nonneg_right (by omega) (by omega)
   omega)
  have cop : Int.gcd a b = 1 := by
   have h1 := Int.gcd_mul_left (g : Int) a b
   rw [← ea, ← eb, hg, Int.natAbs_natCast] at h1
   have h2 : g * 1 = g * Int.gcd a b := by omega
   exact (Nat.eq_of_mul_eq_mul_left (by omega) h2).symm
  rw [ep, eq]
  walk_at "zz"
  refine ZO (ZoB (ZaW bp.1 (by omega)) (ZaW bq.1 (by omega))) ?_
  rw [hg]
  walk_at "zz"
  rw [Int.fmod_eq_emod_of_nonneg _ (by omega)]
  by_cases c3 : (q.2 - p.2) % (g : Int) = 0
  ·obtain ⟨d, ed⟩ := Int.dvd_of_emod_eq_zero c3
   have dd : (q.2 - p.2) / g = d := by rw [ed]; exact Int.mul_ediv_cancel_left _ (by omega)
   have kd : Bd (k + 1) d := by
    have h1 : Bd (k + 1) (q.2 - p.2) := Bd.sub bq.2 bp.2
    unfold Bd at *
    rw [ed, Int.natAbs_mul] at h1
    have : 1 * d.natAbs ≤ (g : Int).natAbs * d.natAbs := Nat.mul_le_mul_right _ (by omega)
    omega
   walk_at "zz"
   refine ZcX (by omega) (Zdt kg (by omega)) ?_
   rw [Int.fdiv_eq_ediv_of_nonneg _ (by omega), db]
   walk_at "zz"
   refine ZcX (by omega) (Zdt kg (by omega)) ?_
   rw [Int.fdiv_eq_ediv_of_nonneg _ (by omega), dd]
   walk_at "zz"
   refine ZcX (by omega) (Zdt kg (by omega)) ?_
   rw [Int.fdiv_eq_ediv_of_nonneg _ (by omega), da]
   walk_at "zz"
   refine (ZsB hb kb hk (by omega) cop).mono ?_
   rintro _ ⟨y, rfl, y0, y1, z, hz⟩
   have ky : Bd k y := Zc1 kb y0 (by omega)
   walk_at "zz"
   refine ZbY (Zch kd ky (by omega) (by omega)) ?_
   walk_at "zz"
   refine ZbY (Zch bp.1 kb (by omega) (by omega)) ?_
   walk_at "zz"
   refine ZbY (Zch bp.1 (Bd.mul kd ky) (by omega) (by omega)) ?_
   walk_at "zz"
   have hL : (p.1 * b).natAbs = Int.lcm p.1 q.1 := by
    have h1 := Int.gcd_mul_lcm p.1 q.1
    rw [hg] at h1
    have h2 : p.1.natAbs * q.1.natAbs = g * (p.1 * b).natAbs := by
     rw [Int.natAbs_mul]
     conv => lhs; rw [show q.1.natAbs = g * b.natAbs by rw [eb, Int.natAbs_mul, Int.natAbs_natCast]]
     rw [← Nat.mul_assoc, Nat.mul_comm p.1.natAbs g, Nat.mul_assoc]
    have h3 : g * Int.lcm p.1 q.1 = g * (p.1 * b).natAbs := by omega
    exact (Nat.eq_of_mul_eq_mul_left (by omega) h3).symm
   have hpb : 0 < p.1 * b := Int.mul_pos pp hb
   refine ZO (Zkc (by omega)) ⟨some _, rfl, ⟨ZdY (by omega) _, fun x => ?_⟩, fun r e => ?_⟩
   ·rw [Ze1 (by omega), ZbB np, ZbB nq]
    have hx0 : p.1 * (d * y) = (q.2 - p.2) + q.1 * (d * z) := by
     rw [ed, ea, eb]
     have : (g : Int) * a * (d * y) = g * d * (a * y) := by
      rw [Int.mul_assoc, Int.mul_assoc, Int.mul_left_comm a d y]
     rw [this, hz, Int.mul_add, Int.mul_one]
     congr 1
     rw [Int.mul_assoc, Int.mul_assoc, Int.mul_left_comm d b z]
    constructor
    ·intro h
     have h1 : p.1 ∣ x - (p.2 + p.1 * (d * y)) := Int.dvd_trans (Int.dvd_mul_right _ _) h
     have h2 : q.1 ∣ x - (p.2 + p.1 * (d * y)) := Int.dvd_trans ⟨a, by rw [ea, eb]; rw [Int.mul_assoc, Int.mul_assoc, Int.mul_comm a b]⟩ h
     refine ⟨?_, ?_⟩
     ·have := Int.dvd_add h1 (Int.dvd_mul_right p.1 (d * y))
      rwa [show x - (p.2 + p.1 * (d * y)) + p.1 * (d * y) = x - p.2 by omega] at this
     ·have := Int.dvd_add h2 (Int.dvd_mul_right q.1 (d * z))
      rwa [show x - (p.2 + p.1 * (d * y)) + q.1 * (d * z) = x - q.2 by omega] at this
    ·rintro ⟨h1, h2⟩
     have h3 : p.1 ∣ x - (p.2 + p.1 * (d * y)) := by
      have := Int.dvd_sub h1 (Int.dvd_mul_right p.1 (d * y))
      rwa [show x - p.2 - p.1 * (d * y) = x - (p.2 + p.1 * (d * y)) by omega] at this
     have h4 : q.1 ∣ x - (p.2 + p.1 * (d * y)) := by
      have := Int.dvd_sub h2 (Int.dvd_mul_right q.1 (d * z))
      rwa [show x - q.2 - q.1 * (d * z) = x - (p.2 + p.1 * (d * y)) by omega] at this
     have h5 := Int.lcm_dvd (Int.dvd_natAbs.mpr h3) (Int.dvd_natAbs.mpr h4)
     rw [← hL] at h5
     have h6 : (((p.1 * b).natAbs : Nat) : Int) ∣ (((x - (p.2 + p.1 * (d * y))).natAbs : Nat) : Int) := Int.natCast_dvd_natCast.mpr h5
     exact Int.natAbs_dvd.mp (Int.dvd_natAbs.mp h6)
   ·cases e
    refine .inr (.inr ⟨c1, c2, ?_⟩)
    unfold Za2
    rw [if_neg (by omega)]
    show p.1 * b = _
    rw [← hL]
    omega
  ·walk_at "zz"
   refine ⟨none, rfl, fun x h => c3 ?_, by simp⟩
   rw [ZbB np, ZbB nq] at h
   have h1 : (g : Int) ∣ x - p.2 := Int.dvd_trans ⟨a, ea⟩ h.1
   have h2 : (g : Int) ∣ x - q.2 := Int.dvd_trans ⟨b, eb⟩ h.2
   have h3 := Int.dvd_sub h1 h2
   rw [show x - p.2 - (x - q.2) = q.2 - p.2 by omega] at h3
   exact Int.emod_eq_zero_of_dvd h3
end L
namespace L
open PySem PySem.W PyProof.Rows PM TM My
end L
namespace L
open PySem PySem.W PyProof.Rows PM TM My
noncomputable def ZaT (a b : Option Int) : Option Int := if dec (leO a b) then a else b
noncomputable def Zai : Option Int → Option Int → Option Int
 | some a, some b => some (a + b)
 | _, _ => none
theorem addO_some {a b : Option Int} {c : Int} : Zai a b = some c ↔ ∃ x y, a = some x ∧ b = some y ∧ x + y = c := by
 cases a <;> cases b <;> simp [Zai]
theorem leO_total {a b : Option Int} (h : ¬ leO a b) : leO b a := by
 cases a with
 | none => exact Zc9
 | some x =>
  cases b with
  | none => exact absurd Zc9 h
  | some y => rw [leO_some] at h ⊢; omega
theorem Znc {a b : Option Int} : leO (ZaT a b) a := by
 unfold ZaT
 split
 ·exact ZcS
 ·rename_i h; exact leO_total fun q => h (ZaZ q)
theorem Zqt {a b : Option Int} : leO (ZaT a b) b := by
 unfold ZaT
 split
 ·rename_i h; exact dec_iff.mp h
 ·exact ZcS
theorem Zer (a b : Option Int) : ZaT a b = a ∨ ZaT a b = b := by
 unfold ZaT; split <;> simp
theorem ZrS {a b : Option Int} (h : leO a b) (k : leO b a) : a = b := by
 cases a with
 | none =>
  cases b with
  | none => rfl
  | some y => exact absurd h Zic
 | some x =>
  cases b with
  | none => exact absurd k Zic
  | some y => rw [leO_some] at h k; rw [show x = y by omega]
theorem Zd1 {a b : Option Int} (h : leO a b) : ZaT a b = a := by unfold ZaT; rw [ZaZ h]; rfl
theorem Zfb {a b c d : Option Int} (h : leO a c) (k : leO b d) : leO (Zai a b) (Zai c d) := by
 intro y e
 obtain ⟨p, q, rfl, rfl, rfl⟩ := addO_some.mp e
 obtain ⟨p', rfl, l1⟩ := h p rfl
 obtain ⟨q', rfl, l2⟩ := k q rfl
 exact ⟨p' + q', rfl, by omega⟩
theorem Zqu {a : Option Int} : Zai a (some 0) = a := by cases a <;> simp [Zai]
theorem Zqv {a : Option Int} : Zai (some 0) a = a := by cases a <;> simp [Zai]
theorem Zf6 {a b c : Option Int} : Zai (Zai a b) c = Zai a (Zai b c) := by cases a <;> cases b <;> cases c <;> simp [Zai, Int.add_assoc]
theorem ZeU {a b : Option Int} : ZdB [oT a, oT b] = some (oT (Zai a b)) := by
 apply Pk.eq
 unfold ZdB Zlc
 cases a with
 | none =>
  rw [Za6]
  walk_at "zz"
  rfl
 | some x =>
  cases b with
  | none =>
   rw [Za6, Zan]
   walk_at "zz"
   rfl
  | some y =>
   rw [Zan, Zan]
   walk_at "zz"
   rfl
theorem ZoP {a b : Option Int} : Zgf [oT a, oT b] = some (oT (ZaT a b)) := by
 apply Pk.eq
 unfold Zgf Zms ZaT
 walk_at "zz"
 refine ZO ZrR ?_
 walk_at "zz"
 refine ⟨fun e => ?_, fun e => ?_⟩
 ·walk_at "zz"
  rw [e]; rfl
 ·walk_at "zz"
  rw [e]; rfl
noncomputable def ZbS (G : Nat → Nat → Option Int) (m : Nat) : Nat → Nat → Option Int := fun i j => ZaT (G i j) (Zai (G i m) (G m j))
theorem ZqQ {n : Nat} {a b : Nat → Option Int} {c : Option Int} (hn : n < 10000) : ZgR [Zar n a, oT c, Zar n b] = some (Zar n fun j => ZaT (a j) (Zai c (b j))) := by
 apply Pk.eq
 unfold ZgR ZiT Zar
 walk_at "zz"
 refine Zmo (n := n) (a := fun j => oT (a j)) (b := fun j => oT (b j)) (c := fun j => oT (ZaT (a j) (Zai c (b j)))) hn ?_ (fun j hj => ?_) ?_
 ·walk_at "zz"
  rfl
 ·walk_at "zz"
  refine ZO ZeU ?_
  walk_at "zz"
  exact ZO ZoP ⟨Zep, rfl⟩
 rfl
theorem ZrT {n m : Nat} {G : Nat → Nat → Option Int} (hn : n < 10000) (hm : m < n) : Zhl [Z8 n G, .int m] = some (Z8 n (ZbS G m)) := by
 apply Pk.eq
 unfold Zhl Zks Z8
 walk_at "zz"
 refine Zcz (n := n) (a := fun i => Zar n (G i)) (b := fun i => Zar n (ZbS G m i)) hn ?_ (fun i hi => ?_) ?_
 ·walk_at "zz"
  rfl
 ·have h : Zar n (G i) = .lst (tab n fun j => oT (G i j)) := rfl
  rw [h]
  walk_at "zz"
  rw [← h]
  exact ZO (ZqQ hn) rfl
 rfl
noncomputable def Neg (n : Nat) (G : Nat → Nat → Option Int) : Prop := ∃ i, i < n ∧ ∃ b, G i i = some b ∧ b < 0
theorem Zuh {n : Nat} {G : Nat → Nat → Option Int} (hn : n ≤ 1000) (hd : ∀ i, i < n → ∃ b, G i i = some b) : ZgX [Z8 n G] = some (.bool (dec (Neg n G))) := by
 apply Pk.eq
 unfold ZgX Zjb Z8 Zar
 walk_at "zz"
 refine Zcz (n := n) (a := fun i => .int i) (b := fun i => .bool (dec (∃ b, G i i = some b ∧ b < 0))) (by omega) ?_ (fun i hi => ?_) ?_
 ·walk_at "zz"
  rfl
 ·walk_at "zz"
  obtain ⟨b, e⟩ := hd i hi
  rw [e, Zan]
  walk_at "zz"
  rw [Zhs]
  congr 1
  refine ZlJ ⟨fun h => ⟨b, rfl, h⟩, ?_⟩
  rintro ⟨c, e, h⟩
  cases e
  exact h
 walk_at "zz"
 rfl
noncomputable def clG (G : Nat → Nat → Option Int) : Nat → Nat → Nat → Option Int
 | 0 => G
 | m + 1 => ZbS (clG G m) m
theorem Zpj {G : Nat → Nat → Option Int} {m i : Nat} (h : ∃ b, G i i = some b) : ∃ b, ZbS G m i i = some b := by
 obtain ⟨b, e⟩ := h
 have := Znc (a := G i i) (b := Zai (G i m) (G m i))
 rw [e] at this
 obtain ⟨c, e2, _⟩ := this b rfl
 exact ⟨c, by unfold ZbS; rw [e]; exact e2⟩
theorem ZmS {n : Nat} {G : Nat → Nat → Option Int} (hd : ∀ i, i < n → ∃ b, G i i = some b) : ∀ m i, i < n → ∃ b, clG G m i i = some b
 | 0 => hd
 | m + 1 => fun i hi => Zpj (ZmS hd m i hi)
theorem Zto {n : Nat} {G : Nat → Nat → Option Int} (h0 : 0 < n) (hn : n ≤ 1000) (hd : ∀ i, i < n → ∃ b, G i i = some b) : Pk (Zgg [Z8 n G]) fun t => (t = Z8 n (clG G n) ∧ ∀ m, m < n → ¬ Neg n (clG G (m + 1))) ∨ (t = .none ∧ ∃ m, m < n ∧ Neg n (clG G (m + 1))) := by
 unfold Zgg Zmu
 have hg : Z8 n G = .lst (tab n fun i => Zar n (G i)) := rfl
 walk_at "zz"
 refine Zva (n := n) (a := fun i => .int i) h0 ?_ (P := fun i σ => σ 1 = some (Z8 n (clG G i)) ∧ ∀ m, m < i → ¬ Neg n (clG G (m + 1))) ⟨rfl, by omega⟩ ?_ ?_
 ·walk_at "zz"
  rw [hg]
  walk_at "zz"
  rfl
 ·rintro i σ hi ⟨e1, e2⟩
  walk_at "zz"
  refine ZO (ZrT (by omega) hi) ?_
  walk_at "zz"
  refine ZO (Zuh hn fun a ha => Zpj (ZmS hd i a ha)) ?_
  walk_at "zz"
  refine ⟨fun e => ?_, fun e => ?_⟩
  ·walk_at "zz"
   exact .inr ⟨rfl, i, hi, dec_iff.mp e⟩
  ·walk_at "zz"
   refine ⟨by walk_at "zr", fun m hm => ?_⟩
   by_cases q : m = i
   ·subst q
    intro h
    have h2 : dec (Neg n (ZbS (clG G m) m)) = true := ZaZ h
    rw [h2] at e
    cases e
   ·exact e2 m (by omega)
 ·rintro σ ⟨e1, e2⟩
  walk_at "zz"
  exact .inl ⟨rfl, e2⟩
theorem Znn {G : Nat → Nat → Option Int} : ∀ m i j, leO (clG G m i j) (G i j)
 | 0 => fun _ _ => ZcS
 | m + 1 => fun i j => Zdq Znc (Znn m i j)
theorem Zes {n : Nat} {G : Nat → Nat → Option Int} (hd : ∀ i, i < n → G i i = some 0) {m : Nat} (hn : ∀ k, k < m → ¬ Neg n (clG G (k + 1))) : ∀ i, i < n → clG G m i i = some 0 := by
 intro i hi
 obtain ⟨b, e⟩ := ZmS (fun i hi => ⟨0, hd i hi⟩) m i hi
 have h := Znn m i i (G := G)
 rw [hd i hi, e] at h
 have h1 := leO_some.mp h
 have h2 : ¬ b < 0 := fun q => by
  cases m with
  | zero => have := hd i hi; rw [show clG G 0 i i = G i i from rfl, this] at e; cases e; omega
  | succ m => exact hn m (by omega) ⟨i, hi, b, e, q⟩
 rw [e, show b = 0 by omega]
theorem Znd {n : Nat} {G : Nat → Nat → Option Int} (hd : ∀ i, i < n → G i i = some 0) : ∀ m, m ≤ n → (∀ k, k < m → ¬ Neg n (clG G (k + 1))) → ∀ k, k < m → ∀ i j, i < n → j < n → leO (clG G m i j) (Zai (clG G m i k) (clG G m k j))
 | 0, _, _, k, hk => by omega
 | m + 1, hm, hn, k, hk => by
  intro i j hi hj
  have z := Zes hd (fun k hk => hn k (by omega) : ∀ k, k < m → _)
  have ih := Znd hd m (by omega) (fun k hk => hn k (by omega))
  generalize hD : clG G m = D at z ih
  have hs : clG G (m + 1) = ZbS D m := by rw [← hD]; rfl
  rw [hs]
  have zm := z m (by omega)
  have cm : ∀ a, ZbS D m a m = D a m := fun a => by unfold ZbS; rw [zm, Zqu]; exact Zd1 ZcS
  have rm : ∀ b, ZbS D m m b = D m b := fun b => by unfold ZbS; rw [zm, Zqv]; exact Zd1 ZcS
  by_cases q : k = m
  ·subst q
   rw [cm, rm]
   exact Zqt
  ·have hk' : k < m := by omega
   have t1 := ih k hk' i j hi hj
   have t2 := ih k hk' i m hi (by omega)
   have t3 := ih k hk' m j (by omega) hj
   have t4 := ih k hk' m m (by omega) (by omega)
   rw [zm] at t4
   have dn : leO (ZbS D m i j) (Zai (D i m) (D m j)) := Zqt
   have d0 : leO (ZbS D m i j) (D i j) := Znc
   rcases Zer (D i k) (Zai (D i m) (D m k)) with e1 | e1 <;> rcases Zer (D k j) (Zai (D k m) (D m j)) with e2 | e2
   ·rw [show ZbS D m i k = _ from e1, show ZbS D m k j = _ from e2]
    exact Zdq d0 t1
   ·rw [show ZbS D m i k = _ from e1, show ZbS D m k j = _ from e2, ← Zf6]
    exact Zdq dn (Zfb t2 ZcS)
   ·rw [show ZbS D m i k = _ from e1, show ZbS D m k j = _ from e2, Zf6]
    exact Zdq dn (Zfb ZcS t3)
   ·rw [show ZbS D m i k = _ from e1, show ZbS D m k j = _ from e2, Zf6, ← Zf6 (a := D m k)]
    refine Zdq dn (Zfb ZcS ?_)
    have := Zfb t4 (ZcS (a := D m j))
    rwa [Zqv] at this
noncomputable def ZgI (n : Nat) (G : Nat → Nat → Option Int) (y : Nat → Int) : Prop := ∀ i j, i < n → j < n → ∀ b, G i j = some b → y i - y j ≤ b
theorem Zmz {n : Nat} {G : Nat → Nat → Option Int} {y : Nat → Int} (h : ZgI n G y) : ∀ m, m ≤ n → ZgI n (clG G m) y
 | 0, _ => h
 | m + 1, hm => by
  have ih := Zmz h m (by omega)
  intro i j hi hj b e
  rcases Zer (clG G m i j) (Zai (clG G m i m) (clG G m m j)) with e1 | e1
  ·rw [show clG G (m + 1) i j = _ from e1] at e; exact ih i j hi hj b e
  ·rw [show clG G (m + 1) i j = _ from e1] at e
   obtain ⟨p, q, h1, h2, h3⟩ := addO_some.mp e
   have := ih i m hi (by omega) p h1
   have := ih m j (by omega) hj q h2
   omega
theorem Ztp {n : Nat} {G : Nat → Nat → Option Int} {y : Nat → Int} (h : ZgI n G y) : ¬ Neg n G := by
 rintro ⟨i, hi, b, e, hb⟩
 have := h i i hi hi b e
 omega
theorem ZoC {n : Nat} {G : Nat → Nat → Option Int} {R : Nat → Int × Int} {x : Nat → Int} (h : ZbH n G R x) : ZgI (n + 1) G (ZaJ x) := fun i j hi hj b e => h.1 i j hi hj b e
theorem Zl8 {k : Int} : ZeR [.int k] = some (.bool true) := by
 apply Pk.eq
 unfold ZeR Zku
 walk_at "zz"
 rfl
theorem Zvh {n : Nat} {G : Nat → Nat → Option Int} (hn : n ≤ 1000) (hd : ∀ i, i < n → G i i = some 0) : Zhx [Z8 n G, .int n] = some (.bool true) := by
 apply Pk.eq
 unfold Zhx Zlf Z8 Zar
 walk_at "zz"
 refine ZbK (n := n) (a := fun i => .int i) (P := fun i σ => σ 0 = some (Z8 n G) ∧ σ 1 = some (.int n)) ?_ ⟨rfl, rfl⟩ ?_ ?_
 ·walk_at "zz"
  rfl
 ·rintro i σ hi ⟨e0, e1⟩
  unfold Z8 Zar at e0
  walk_at "zz"
  refine ZbK (n := n) (a := fun j => oT (G i j)) (P := fun j σ => σ 0 = some (Z8 n G) ∧ σ 1 = some (.int n) ∧ σ 2 = some (.int i)) ?_ ⟨by walk_at "zr", by walk_at "zr", by walk_at "zr"⟩ ?_ ?_
  ·walk_at "zz"
   rfl
  ·rintro j σ hj ⟨f0, f1, f2⟩
   cases G i j with
   | none =>
    rw [Za6]
    walk_at "zz"
    exact ⟨by walk_at "zr", by walk_at "zr", by walk_at "zr"⟩
   | some b =>
    rw [Zan]
    walk_at "zz"
    refine ZO Zl8 ?_
    walk_at "zz"
    exact ⟨by walk_at "zr", by walk_at "zr", by walk_at "zr"⟩
  ·rintro σ ⟨f0, f1, f2⟩
   unfold Z8 Zar at f0
   walk_at "zz"
   rw [hd i hi, Zan]
   walk_at "zz"
   exact ⟨by walk_at "zr", by walk_at "zr"⟩
 ·rintro σ ⟨e0, e1⟩
  walk_at "zz"
  rfl
end L
namespace L
open PySem PySem.W PyProof.Rows PM TM My
section
variable {Q : T → Prop}
theorem Zl9 {p : PE} {σ : TL} {k : Nat} (h : Pk (p σ) fun t => ∃ ts, t = .lst ts ∧ Q (.lst (ts.drop k))) : Pk (ZcG p k σ) Q := by
 obtain ⟨_, e, ts, rfl, q⟩ := h
 exact ⟨_, by simp only [ZcG, e, Option.bind_some], q⟩
end
noncomputable abbrev Sp := Option Int × Option Int
noncomputable def spT (s : Sp) : T := .tup [oT s.1, oT s.2]
noncomputable def SBd (k : Nat) (s : Sp) : Prop := (∀ x, s.1 = some x → Bd k x) ∧ ∀ x, s.2 = some x → Bd k x
noncomputable def InS (s : Sp) (x : Int) : Prop := (∀ l, s.1 = some l → l ≤ x) ∧ ∀ h, s.2 = some h → x ≤ h
theorem Zhg {a : Option Int} {k : Int} {i : Nat} (hi : i ≤ 100000) (ha : ∀ x, a = some x → Bd i x) (hk : Bd i k) : Zei [oT a, .int k] = some (oT (a.map fun x => x * k)) := by
 apply Pk.eq
 unfold Zei Zkx
 cases a with
 | none =>
  simp only [Za6, Option.map_none]
  walk_at "zz"
  rfl
 | some x =>
  simp only [Zan, Option.map_some]
  walk_at "zz"
  refine ZbY (Zch (ha x rfl) hk (by omega) (by omega)) ?_
  rfl
noncomputable def ZcF (s : Sp) (k : Int) : Sp := if k = 0 then (some 0, some 0) else if k < 0 then (s.2.map fun x => x * k, s.1.map fun x => x * k) else (s.1.map fun x => x * k, s.2.map fun x => x * k)
theorem ZqR {s : Sp} {k : Int} {i : Nat} (hi : i ≤ 100000) (hs : SBd i s) (hk : Bd i k) : ZgS [spT s, .int k] = some (spT (ZcF s k)) := by
 apply Pk.eq
 unfold ZgS ZiW ZcF spT
 by_cases c : k = 0
 ·walk_at "zz"
  rw [if_pos c]
  rfl
 ·rw [if_neg c]
  walk_at "zz"
  refine ZO (Zhg hi hs.1 hk) ?_
  walk_at "zz"
  refine ZO (Zhg hi hs.2 hk) ?_
  by_cases d : k < 0
  ·walk_at "zz"
   rw [if_pos d]
  ·walk_at "zz"
   rw [if_neg d]
noncomputable def Zno (s u : Sp) : Sp := (Zai s.1 u.1, Zai s.2 u.2)
theorem Zq0 {s u : Sp} : ZgY [spT s, spT u] = some (spT (Zno s u)) := by
 apply Pk.eq
 unfold ZgY Zje spT
 walk_at "zz"
 refine ZO ZeU ?_
 walk_at "zz"
 refine ZO ZeU ?_
 walk_at "zz"
 rfl
noncomputable def Zcx (c : Nat → Int) (S : Nat → Sp) : Nat → Sp
 | 0 => (some (c 0), some (c 0))
 | j + 1 => Zno (Zcx c S j) (ZcF (S j) (c (j + 1)))
theorem Zpk {n : Nat} {f : Nat → T} : (tab (n + 1) f).drop 1 = tab n fun i => f (i + 1) := by
 apply List.ext_getElem
 ·simp [tab]
 ·intro i h1 h2
  simp [tab]
theorem Zrb {n i : Nat} {c : Nat → Int} {S : Nat → Sp} (hn : n ≤ 100) (hi : i ≤ 100000) (bc : ∀ j, j < n + 1 → Bd i (c j)) (bS : ∀ j, j < n → SBd i (S j)) : Zg0 [.lst (tab (n + 1) fun j => .int (c j)), .lst (tab n fun j => spT (S j))] = some (spT (Zcx c S n)) := by
 apply Pk.eq
 unfold Zg0 Zjv
 walk_at "zz"
 refine ZmG (n := n) (a := fun j => .int (c (j + 1))) (c := fun j => spT (S j)) (P := fun j σ => σ 2 = some (spT (Zcx c S j))) ?_ rfl ?_ ?_
 ·refine Zql ?_
  refine Zl9 ?_
  walk_at "zz"
  refine ⟨_, rfl, ?_⟩
  rw [Zpk]
  walk_at "zz"
  rfl
 ·rintro j σ hj e2
  walk_at "zz"
  refine ZO (ZqR hi (bS j hj) (bc (j + 1) (by omega))) ?_
  walk_at "zz"
  refine ZO Zq0 ?_
  walk_at "zz"
  exact Zbn
 ·rintro σ e2
  walk_at "zz"
  rfl
end L
namespace L
open PySem PySem.W PyProof.Rows PM TM My
end L
namespace L
open PySem PySem.W PyProof.Rows PM TM My
theorem ZoD {a b : Option Int} : Ze6 [oT a, oT b] = some (.bool (dec (∃ x y, a = some x ∧ b = some y ∧ y < x))) := by
 apply Pk.eq
 unfold Ze6 ZlV
 cases a with
 | none =>
  rw [Za6]
  walk_at "zz"
  rw [ZbN (by rintro ⟨x, y, h, _⟩; cases h)]
 | some x =>
  cases b with
  | none =>
   rw [Za6, Zan]
   walk_at "zz"
   rw [ZbN (by rintro ⟨x, y, _, h, _⟩; cases h)]
  | some y =>
   rw [Zan, Zan]
   walk_at "zz"
   congr 1
   by_cases h : y < x
   ·rw [ZaZ ⟨x, y, rfl, rfl, h⟩]; simp [h]
   ·rw [ZbN (by rintro ⟨x', y', h1, h2, h3⟩; cases h1; cases h2; exact h h3)]; simp [h]
theorem Ztq {s : Sp} {x k : Int} (h : InS s x) : InS (ZcF s k) (k * x) := by
 unfold ZcF
 obtain ⟨a, b⟩ := s
 by_cases c : k = 0
 ·rw [if_pos c, c, Int.zero_mul]
  exact ⟨fun l e => by cases e; omega, fun l e => by cases e; omega⟩
 ·rw [if_neg c]
  by_cases d : k < 0
  ·rw [if_pos d]
   refine ⟨fun l e => ?_, fun l e => ?_⟩
   ·cases b with
    | none => cases e
    | some y =>
     cases e
     have := h.2 y rfl
     show y * k ≤ k * x
     rw [Int.mul_comm]
     exact Int.mul_le_mul_of_nonpos_left (a := k) (by omega) this
   ·cases a with
    | none => cases e
    | some y =>
     cases e
     have := h.1 y rfl
     show k * x ≤ y * k
     rw [Int.mul_comm y]
     exact Int.mul_le_mul_of_nonpos_left (a := k) (by omega) this
  ·rw [if_neg d]
   refine ⟨fun l e => ?_, fun l e => ?_⟩
   ·cases a with
    | none => cases e
    | some y =>
     cases e
     have := h.1 y rfl
     show y * k ≤ k * x
     rw [Int.mul_comm]
     exact Int.mul_le_mul_of_nonneg_left this (show 0 ≤ k by omega)
   ·cases b with
    | none => cases e
    | some y =>
     cases e
     have := h.2 y rfl
     show k * x ≤ y * k
     rw [Int.mul_comm y]
     exact Int.mul_le_mul_of_nonneg_left this (show 0 ≤ k by omega)
theorem Zui {s u : Sp} {x y : Int} (h : InS s x) (k : InS u y) : InS (Zno s u) (x + y) := by
 refine ⟨fun l e => ?_, fun l e => ?_⟩
 ·obtain ⟨a, b, h1, h2, rfl⟩ := addO_some.mp e
  have := h.1 a h1
  have := k.1 b h2
  omega
 ·obtain ⟨a, b, h1, h2, rfl⟩ := addO_some.mp e
  have := h.2 a h1
  have := k.2 b h2
  omega
end L
namespace L
open PySem PySem.W PyProof.Rows PM TM My
noncomputable def ZQ (R : Nat → Int × Int) : Nat → Int × Int := cn (0, 0) R
theorem Znp (R : Nat → Int × Int) : cn (T.tup [.int 0, .int 0]) (fun i => prT (R i)) = fun i => prT (ZQ R i) := by
 funext i; cases i <;> rfl
theorem ZnM {n : Nat} {R : Nat → Int × Int} (hn : n < 9000) : ZeL [ZaU n R] = some (ZaU (n + 1) (ZQ R)) := by
 apply Pk.eq
 unfold ZeL Zjx ZaU
 walk_at "zz"
 rw [Znp]
noncomputable def RB (M : Int) (k : Nat) (q : Int × Int) : Prop := RestOk q ∧ (q.1 = 0 ∨ q.1 ∣ M) ∧ Bd k q.2
theorem RB.mono {M : Int} {i j : Nat} {q : Int × Int} (h : RB M i q) (hij : i ≤ j) : RB M j q := ⟨h.1, h.2.1, h.2.2.mono hij⟩
theorem RB.bd {M : Int} {k : Nat} {q : Int × Int} (hM : 0 < M) (bM : Bd k M) (h : RB M k q) : RBd k q := by
 refine ⟨?_, h.2.2⟩
 rcases h.2.1 with e | e
 ·rw [e]; exact Zed
 ·exact Zc1 bM h.1.nn (Int.le_of_dvd hM e)
theorem Zda {M : Int} {k n : Nat} {R : Nat → Int × Int} (h : ∀ t, t < n → RB M k (R t)) : ∀ i, i < n + 1 → RB M k (ZQ R i)
 | 0, _ => ⟨.inl rfl, .inl rfl, Zed⟩
 | i + 1, hi => h i (by omega)
noncomputable def ZcK (n : Nat) (G : Nat → Nat → Option Int) (R : Nat → Int × Int) (i : Nat) (m : Nat) (x : Int) : Prop := ZaP (ZQ R i) x ∧ ∀ j, j < m → ∀ a b, G i j = some a → G j i = some b → a + b = 0 → ZaP (ZQ R j) (x - a)
noncomputable def ZcY (n : Nat) (G : Nat → Nat → Option Int) (R : Nat → Int × Int) (M : Int) (k : Nat) (i m : Nat) (o : Option (Int × Int)) : Prop := match o with
 | none => ∀ x, ¬ ZcK n G R i m x
 | some q => RB M k q ∧ ∀ x, ZaP q x ↔ ZcK n G R i m x
theorem Zog {q : Int × Int} (h : RestOk q) (a x : Int) : ZaP (ZbG q (0, a)) x ↔ ZaP q (x - a) := by
 unfold ZbG
 rw [Ze1 (by omega), ZbB h.nn]
 simp only [Int.gcd_zero_right]
 rw [Int.natAbs_of_nonneg h.nn, show x - (q.2 + a) = x - a - q.2 by omega]
theorem Zq1 {n i k : Nat} {G : Nat → Nat → Option Int} {R : Nat → Int × Int} {M : Int} (hn : n ≤ 100) (hi : i < n + 1) (hk : k ≤ 7000) (hM : 0 < M) (bM : Bd k M) (bG : ∀ a b c, a < n + 1 → b < n + 1 → G a b = some c → Bd k c) (hR : ∀ t, t < n → RB M k (R t)) : Pk (Zee [Z8 (n + 1) G, ZaU (n + 1) (ZQ R), .int i]) fun t => ∃ o, t = oR o ∧ ZcY n G R M (k + 1) i (n + 1) o := by
 unfold Zee Zjg
 have hF := Zda hR
 have bM1 : Bd (k + 1) M := bM.mono (by omega)
 have hr : ZaU (n + 1) (ZQ R) = .lst (tab (n + 1) fun i => prT (ZQ R i)) := rfl
 rw [hr]
 walk_at "zz"
 refine ZmG (n := n + 1) (a := fun j => .int j) (c := fun j => prT (ZQ R j)) (P := fun m σ => ∃ o, σ 0 = some (Z8 (n + 1) G) ∧ σ 1 = some (.lst (tab (n + 1) fun i => prT (ZQ R i))) ∧ σ 2 = some (.int i) ∧ σ 3 = some (oR o) ∧ ZcY n G R M (k + 1) i m o) ?_ ⟨some (ZQ R i), by walk_at "zr", by walk_at "zr", by walk_at "zr", by walk_at "zr", (hF i hi).mono (by omega), fun x => ⟨fun h => ⟨h, by omega⟩, fun h => h.1⟩⟩ ?_ ?_
 ·walk_at "zz"
  rfl
 ·rintro j σ hj ⟨o, e0, e1, e2, e3, ho⟩
  unfold Z8 Zar at e0
  cases o with
  | none =>
   have e3' : σ 3 = some .none := e3
   clear e3
   walk_at "zz"
   refine ⟨none, by walk_at "zr", by walk_at "zr", by walk_at "zr", by walk_at "zr", fun x h => ho x ⟨h.1, fun j' hj' => h.2 j' (by omega)⟩⟩
  | some q =>
   have e3' : σ 3 = some (.tup [.int q.1, .int q.2]) := e3
   clear e3
   walk_at "zz"
   refine ZO ZeU ?_
   walk_at "zz"
   refine Zet (ZgG (n := 0)) (.int (n := 0)) ?_
   walk_at "zz"
   have stay : (∀ a b, G i j = some a → G j i = some b → ¬ a + b = 0) → ZcY n G R M (k + 1) i (j + 1) (some q) := fun h => ⟨ho.1, fun x => (ho.2 x).trans ⟨fun hx => ⟨hx.1, fun j' hj' a b ha hb hab => by
     by_cases q' : j' = j
     ·subst q'; exact absurd hab (h a b ha hb)
     ·exact hx.2 j' (by omega) a b ha hb hab⟩, fun hx => ⟨hx.1, fun j' hj' => hx.2 j' (by omega)⟩⟩⟩
   refine ⟨fun e => ?_, fun e => ?_⟩
   ·have e' := dec_iff.mp e
    rw [← Zan, oT_inj] at e'
    obtain ⟨a, b, ha, hb, hab⟩ := addO_some.mp e'
    walk_at "zz"
    rw [ha, Zan]
    have hj2 := hF j hj
    have ba := bG i j a hi hj ha
    refine ZO (ZnY (p := ZQ R j) (q := (0, a)) (k := k) (by omega) (hj2.bd hM bM).1 Zed) ?_
    have hpl : RB M (k + 1) (ZbG (ZQ R j) (0, a)) := by
     refine ⟨ZhV _ _, ?_, ?_⟩
     ·unfold ZbG Za2
      simp only [Int.gcd_zero_right]
      rw [Int.natAbs_of_nonneg hj2.1.nn]
      split
      ·exact .inl rfl
      ·exact hj2.2.1
     ·have hm := (hj2.bd hM bM).1
      refine (Zl7 (k := k + 1) (by omega) ?_ (Bd.add hj2.2.2 ba)).2
      simp only [Int.gcd_zero_right]
      rw [Int.natAbs_of_nonneg hj2.1.nn]
      exact hm.mono (by omega)
    walk_at "zz"
    refine (Zof (p := q) (q := ZbG (ZQ R j) (0, a)) (k := k + 1) (by omega) ho.1.1 hpl.1 (ho.1.bd hM bM1) (hpl.bd hM bM1)).mono ?_
    rintro _ ⟨o', rfl, mt, wh⟩
    refine ⟨o', by walk_at "zr", by walk_at "zr", by walk_at "zr", by walk_at "zr", ?_⟩
    have hset : ∀ x, (ZaP q x ∧ ZaP (ZbG (ZQ R j) (0, a)) x) ↔ ZcK n G R i (j + 1) x := fun x => by
     rw [ho.2 x, Zog hj2.1]
     constructor
     ·rintro ⟨h1, h2⟩
      refine ⟨h1.1, fun j' hj' c d hc hd hcd => ?_⟩
      by_cases q' : j' = j
      ·subst q'; rw [ha] at hc; cases hc; exact h2
      ·exact h1.2 j' (by omega) c d hc hd hcd
     ·intro h
      exact ⟨⟨h.1, fun j' hj' => h.2 j' (by omega)⟩, h.2 j (by omega) a b ha hb hab⟩
    cases o' with
    | none => exact fun x hx => mt x ((hset x).mpr hx)
    | some r =>
     refine ⟨⟨mt.1, ?_, ?_⟩, fun x => (mt.2 x).trans (hset x)⟩
     ·rcases wh r rfl with h | h | ⟨h1, h2, h3⟩
      ·rw [h]; exact ho.1.2.1
      ·rw [h]; exact hpl.2.1
      ·right
       rw [h3]
       exact Int.coe_lcm_dvd (ho.1.2.1.resolve_left h1) (hpl.2.1.resolve_left h2)
     ·rcases wh r rfl with h | h | ⟨h1, h2, h3⟩
      ·rw [h]; exact ho.1.2.2
      ·rw [h]; exact hpl.2.2
      ·rcases mt.1 with z | z
       ·have : (Int.lcm q.1 (ZbG (ZQ R j) (0, a)).1) ≠ 0 := Int.lcm_ne_zero h1 h2
        omega
       ·have hd : r.1 ∣ M := by
         rw [h3]
         exact Int.coe_lcm_dvd (ho.1.2.1.resolve_left h1) (hpl.2.1.resolve_left h2)
        exact Zc1 bM1 z.2.1 (by have := Int.le_of_dvd hM hd; omega)
   ·walk_at "zz"
    refine ⟨some q, by walk_at "zr", by walk_at "zr", by walk_at "zr", by walk_at "zr", stay fun a b ha hb hab => ?_⟩
    have : dec (oT (Zai (G i j) (G j i)) = .int 0) = true := ZaZ (by rw [ha, hb]; simp [Zai, oT, hab])
    rw [this] at e
    cases e
 ·rintro σ ⟨o, e0, e1, e2, e3, ho⟩
  walk_at "zz"
  exact ⟨o, rfl, ho⟩
theorem Zqw : Zcw 1 1 1 = some [] := by
 unfold Zcw
 rw [if_pos (by decide +kernel)]
 rfl
theorem ZqJ {o : Option (Int × Int)} : Pln 1 (oR o) := by
 cases o with
 | none => exact .none
 | some q => exact Zqn
theorem oR_none {o : Option (Int × Int)} : oR o = .none ↔ o = none := by cases o <;> simp [oR, prT]
noncomputable def Hand (n : Nat) (G : Nat → Nat → Option Int) (R R' : Nat → Int × Int) (M : Int) (k : Nat) : Prop := ∀ t, t < n → RB M k (R' t) ∧ ∀ x, ZaP (R' t) x ↔ ZcK n G R (t + 1) (n + 1) x
theorem Zrc {n k : Nat} {G : Nat → Nat → Option Int} {R : Nat → Int × Int} {M : Int} (hn : n ≤ 100) (hk : k ≤ 7000) (hM : 0 < M) (bM : Bd k M) (bG : ∀ a b c, a < n + 1 → b < n + 1 → G a b = some c → Bd k c) (hR : ∀ t, t < n → RB M k (R t)) : Pk (Zdx [Z5 n G R]) fun t => (∃ R', t = Z5 n G R' ∧ Hand n G R R' M (k + 1)) ∨ (t = .none ∧ ∃ i, i < n ∧ ∀ x, ¬ ZcK n G R (i + 1) (n + 1) x) := by
 unfold Zdx ZfJ
 have ht : Z5 n G R = .tup [Z8 (n + 1) G, ZaU n R] := rfl
 rw [ht]
 walk_at "zz"
 refine ZO (ZnM (by omega)) ?_
 have hr : ZaU (n + 1) (ZQ R) = .lst (tab (n + 1) fun i => prT (ZQ R i)) := rfl
 walk_at "zz"
 refine Ztm oR (fun t o => ZcY n G R M (k + 1) (t + 1) (n + 1) o) (n := n) (a := fun i => .int (i + 1)) (by omega) ?_ (fun t ht => ?_) none (fun y hy => ?_)
 ·by_cases h0 : n = 0
  ·subst h0
   exact ⟨[], Zgm (a := 1) (b := 1) rfl Zqw, rfl⟩
  ·rw [hr]
   walk_at "zz"
   refine Rn.two 1 n (by decide) (by omega) (by omega) (by omega) ?_
   refine ZbI fun i _ => ?_
   congr 1
   omega
 ·walk_at "zz"
  refine (Zq1 (i := t + 1) hn (by omega) hk hM bM bG hR).mono ?_
  rintro _ ⟨o, rfl, ho⟩
  exact ⟨o, rfl, ho⟩
 ·walk_at "zz"
  refine ZiD (.none (n := 0)) (Zfs (n := 1) fun i _ => ZqJ) ?_
  by_cases hc : ∃ i, i < n ∧ y i = none
  ·obtain ⟨i, hi, ei⟩ := hc
   rw [ZaZ (show T.none ∈ tab n fun i => oR (y i) from List.mem_of_getElem? (i := i) (by rw [ZbD hi, ei]; rfl))]
   walk_at "zz"
   refine .inr ⟨rfl, i, hi, ?_⟩
   have := hy i hi
   rw [ei] at this
   exact this
  ·rw [ZbN (show ¬ T.none ∈ tab n fun i => oR (y i) from fun h => by
    obtain ⟨i, hi, e⟩ := ZdE h
    exact hc ⟨i, hi, oR_none.mp e.symm⟩)]
   walk_at "zz"
   have hs : ∀ i, i < n → y i = some ((y i).getD (1, 0)) := fun i hi => by
    cases e : y i with
    | none => exact absurd ⟨i, hi, e⟩ hc
    | some q => rfl
   refine .inl ⟨fun i => (y i).getD (1, 0), ?_, fun t ht => ?_⟩
   ·unfold Z5 ZaU
    congr 4
    refine ZbI fun i hi => ?_
    conv => lhs; rw [hs i hi]
    rfl
   ·have := hy t ht
    rw [hs t ht] at this
    exact this
theorem ZnB : Zdx [.none] = some .none := by
 apply Pk.eq
 unfold Zdx ZfJ
 walk_at "zz"
 rfl
noncomputable def Zbs (R : Nat → Int × Int) (i j : Nat) : Int × Int := ZbG (ZQ R i) (Zew (ZQ R j) (-1))
noncomputable def Zb4 (b : Option Int) (q : Int × Int) : Option Int := match b with
 | some b => Zdu q b
 | none => if q.1 = 0 then some q.2 else none
noncomputable def ZaQ (G : Nat → Nat → Option Int) (R : Nat → Int × Int) : Nat → Nat → Option Int := fun i j => Zb4 (G i j) (Zbs R i j)
noncomputable def Zdr (n : Nat) (G : Nat → Nat → Option Int) (R : Nat → Int × Int) : Prop := ∃ i j, i < n + 1 ∧ j < n + 1 ∧ ∃ b, G i j = some b ∧ ZaQ G R i j = none
theorem ZqS {b : Option Int} {q : Int × Int} (hq : 0 ≤ q.1) : ZgT [oT b, prT q] = some (oT (Zb4 b q)) := by
 apply Pk.eq
 unfold ZgT ZiZ Zb4
 cases b with
 | none =>
  have ep : prT q = .tup [.int q.1, .int q.2] := rfl
  rw [Za6, ep]
  by_cases c : q.1 = 0
  ·walk_at "zz"
   simp [c, oT]
  ·walk_at "zz"
   simp [c, oT]
 | some b =>
  rw [Zan]
  walk_at "zz"
  exact ZO (Zrx hq) rfl
theorem Zrd {n i k : Nat} {b : Nat → Option Int} {R : Nat → Int × Int} {M : Int} (hn : n ≤ 100) (hi : i < n + 1) (hk : k ≤ 7000) (hM : 0 < M) (bM : Bd k M) (hR : ∀ t, t < n → RB M k (R t)) : Pk (Zg1 [Zar (n + 1) b, prT (ZQ R i), ZaU (n + 1) (ZQ R)]) fun t => (t = Zar (n + 1) (fun j => Zb4 (b j) (Zbs R i j)) ∧ ∀ j, j < n + 1 → ∀ c, b j = some c → Zb4 (b j) (Zbs R i j) ≠ none) ∨ (t = .none ∧ ∃ j, j < n + 1 ∧ ∃ c, b j = some c ∧ Zb4 (b j) (Zbs R i j) = none) := by
 unfold Zg1 ZjB
 have hF := Zda hR
 have hb : Zar (n + 1) b = .lst (tab (n + 1) fun j => oT (b j)) := rfl
 have hr : ZaU (n + 1) (ZQ R) = .lst (tab (n + 1) fun i => prT (ZQ R i)) := rfl
 rw [hb, hr]
 walk_at "zz"
 refine ZmG (n := n + 1) (a := fun j => oT (b j)) (c := fun j => prT (ZQ R j)) (P := fun m σ => σ 1 = some (prT (ZQ R i)) ∧ σ 3 = some (.lst (tab m fun j => oT (Zb4 (b j) (Zbs R i j)))) ∧ ∀ j, j < m → ∀ c, b j = some c → Zb4 (b j) (Zbs R i j) ≠ none) ?_ ⟨by walk_at "zr", by walk_at "zr", by omega⟩ ?_ ?_
 ·walk_at "zz"
  rfl
 ·rintro j σ hj ⟨e1, e3, st⟩
  have h1 := hF i hi
  have h2 := hF j hj
  have b1 := h1.bd hM bM
  have b2 := h2.bd hM bM
  have bt : Bd (k + 1) (Zew (ZQ R j) (-1)).1 := by
   refine (Zl7 (k := k + 1) (Int.mul_nonneg h2.1.nn (ZdG _)) ?_ ?_).1
   ·have := Bd.mul b2.1 (show Bd 1 (Zb3 (-1)) by unfold Bd; decide); exact this
   ·have := Bd.mul b2.2 (show Bd 1 (-1) by unfold Bd; decide); exact this
  walk_at "zz"
  refine ZO (Zrw (p := ZQ R j) (c := -1) (k := k + 1) (by omega) h2.1.nn ⟨b2.1.mono (by omega), b2.2.mono (by omega)⟩ (show Bd (k + 1) (-1) from (show Bd 1 (-1) by unfold Bd; decide).mono (by omega))) ?_
  walk_at "zz"
  refine ZO (ZnY (k := k + 1) (by omega) (b1.1.mono (by omega)) bt) ?_
  walk_at "zz"
  refine ZO (ZqS (ZhV _ _).nn) ?_
  have hd : ZbG (ZQ R i) (Zew (ZQ R j) (-1)) = Zbs R i j := rfl
  rw [hd]
  walk_at "zz"
  have app : ∀ w, w = oT (Zb4 (b j) (Zbs R i j)) → tab j (fun j => oT (Zb4 (b j) (Zbs R i j))) ++ [w] = tab (j + 1) fun j => oT (Zb4 (b j) (Zbs R i j)) := fun w e => by rw [e]; exact ZdD
  cases hl : Zb4 (b j) (Zbs R i j) with
  | none =>
   rw [Za6]
   walk_at "zz"
   cases hbj : b j with
   | none =>
    rw [Za6]
    walk_at "zz"
    rw [app _ (by rw [hl]; rfl)]
    refine ⟨by walk_at "zr", by walk_at "zr", fun j' hj' c hc => ?_⟩
    by_cases q : j' = j
    ·subst q; rw [hbj] at hc; cases hc
    ·exact st j' (by omega) c hc
   | some c =>
    rw [Zan]
    walk_at "zz"
    exact .inr ⟨rfl, j, hj, c, hbj, hl⟩
  | some v =>
   rw [Zan]
   walk_at "zz"
   rw [app _ (by rw [hl]; rfl)]
   refine ⟨by walk_at "zr", by walk_at "zr", fun j' hj' c hc => ?_⟩
   by_cases q : j' = j
   ·subst q; rw [hl]; simp
   ·exact st j' (by omega) c hc
 ·rintro σ ⟨e1, e3, st⟩
  walk_at "zz"
  exact .inl ⟨rfl, st⟩
noncomputable def ZfE (n : Nat) : Option (Nat → Option Int) → T
 | none => .none
 | some b => Zar n b
theorem Zvi {n : Nat} {o : Option (Nat → Option Int)} : Pln 1 (ZfE n o) := by
 cases o with
 | none => exact .none
 | some q => exact ZpK
end L
namespace L
open PySem PySem.W PyProof.Rows PM TM My
theorem ZsD {σ : TL} {Q : T → Prop} {g : PG} {j k n : Nat} {a b : Nat → T} {f : PE} {β : Type} (e : β → T) (P : Nat → β → Prop) (hn : n < 10000) (hg : Pl (g σ) fun ts => ts = tab n fun i => .tup [a i, b i]) (hf : ∀ i, i < n → Pk (f (Z7 (Z7 σ j (a i)) k (b i))) fun t => ∃ y, t = e y ∧ P i y) (d : β) (h : ∀ y : Nat → β, (∀ i, i < n → P i (y i)) → Q (.lst (tab n fun i => e (y i)))) : Pk (Zam g (ZcO j k) Zag f σ) Q := by
 have hc : ∃ y : Nat → β, ∀ i, i < n → Pk (f (Z7 (Z7 σ j (a i)) k (b i))) (fun t => t = e (y i)) ∧ P i (y i) := by
  have hx : ∀ i, ∃ y : β, i < n → Pk (f (Z7 (Z7 σ j (a i)) k (b i))) (fun t => t = e y) ∧ P i y := fun i => by
   by_cases q : i < n
   ·obtain ⟨t, e1, y, e2, p⟩ := hf i q
    exact ⟨y, fun _ => ⟨⟨t, e1, e2⟩, p⟩⟩
   ·exact ⟨d, fun h => absurd h q⟩
  exact ⟨fun i => Classical.choose (hx i), fun i => Classical.choose_spec (hx i)⟩
 obtain ⟨y, hy⟩ := hc
 exact Zmo hn hg (fun i hi => (hy i hi).1) (h y fun i hi => (hy i hi).2)
theorem oRow_none {n : Nat} {o : Option (Nat → Option Int)} : ZfE n o = .none ↔ o = none := by cases o <;> simp [ZfE, Zar]
theorem ZsE {n k : Nat} {G : Nat → Nat → Option Int} {R : Nat → Int × Int} {M : Int} (hn : n ≤ 100) (hk : k ≤ 7000) (hM : 0 < M) (bM : Bd k M) (hR : ∀ t, t < n → RB M k (R t)) : Pk (Ze7 [Z5 n G R]) fun t => (t = Z5 n (ZaQ G R) R ∧ ¬ Zdr n G R) ∨ (t = .none ∧ Zdr n G R) := by
 unfold Ze7 ZhL
 have ht : Z5 n G R = .tup [.lst (tab (n + 1) fun i => Zar (n + 1) (G i)), ZaU n R] := rfl
 rw [ht]
 walk_at "zz"
 refine ZO (ZnM (by omega)) ?_
 have hr : ZaU (n + 1) (ZQ R) = .lst (tab (n + 1) fun i => prT (ZQ R i)) := rfl
 walk_at "zz"
 refine ZsD (ZfE (n + 1)) (fun i o => match o with
  | none => ∃ j, j < n + 1 ∧ ∃ c, G i j = some c ∧ ZaQ G R i j = none
  | some b => b = ZaQ G R i ∧ ∀ j, j < n + 1 → ∀ c, G i j = some c → ZaQ G R i j ≠ none) (n := n + 1) (a := fun i => Zar (n + 1) (G i)) (b := fun i => prT (ZQ R i)) (by omega) ?_ (fun i hi => ?_) none (fun y hy => ?_)
 ·rw [hr]
  walk_at "zz"
  rfl
 ·walk_at "zz"
  refine (Zrd hn hi hk hM bM hR).mono ?_
  rintro t (⟨rfl, h⟩ | ⟨rfl, h⟩)
  ·exact ⟨some (ZaQ G R i), rfl, rfl, h⟩
  ·exact ⟨none, rfl, h⟩
 ·walk_at "zz"
  refine ZiD (.none (n := 0)) (Zfs (n := 1) fun i _ => Zvi) ?_
  by_cases hc : ∃ i, i < n + 1 ∧ y i = none
  ·obtain ⟨i, hi, ei⟩ := hc
   rw [ZaZ (show T.none ∈ tab (n + 1) fun i => ZfE (n + 1) (y i) from List.mem_of_getElem? (i := i) (by rw [ZbD hi, ei]; rfl))]
   walk_at "zz"
   have := hy i hi
   rw [ei] at this
   obtain ⟨j, hj, c, h1, h2⟩ := this
   exact .inr ⟨rfl, i, j, hi, hj, c, h1, h2⟩
  ·rw [ZbN (show ¬ T.none ∈ tab (n + 1) fun i => ZfE (n + 1) (y i) from fun h => by
    obtain ⟨i, hi, e⟩ := ZdE h
    exact hc ⟨i, hi, oRow_none.mp e.symm⟩)]
   walk_at "zz"
   have hs : ∀ i, i < n + 1 → y i = some (ZaQ G R i) ∧ ∀ j, j < n + 1 → ∀ c, G i j = some c → ZaQ G R i j ≠ none := fun i hi => by
    have := hy i hi
    cases e : y i with
    | none => exact absurd ⟨i, hi, e⟩ hc
    | some b => rw [e] at this; exact ⟨by rw [this.1], this.2⟩
   refine .inl ⟨?_, ?_⟩
   ·unfold Z5 Z8
    congr 3
    refine ZbI fun i hi => ?_
    rw [(hs i hi).1]
    rfl
   ·rintro ⟨i, j, hi, hj, c, h1, h2⟩
    exact (hs i hi).2 j hj c h1 h2
theorem ZrU : Ze7 [.none] = some .none := by
 apply Pk.eq
 unfold Ze7 ZhL
 walk_at "zz"
 rfl
theorem Ztr : Zd4 [.none] = some .none := by
 apply Pk.eq
 unfold Zd4 Zir
 walk_at "zz"
 rfl
noncomputable def Zce (n : Nat) (G : Nat → Nat → Option Int) : Prop := ∃ m, m < n ∧ Neg n (clG G (m + 1))
theorem Zvj {n : Nat} {G : Nat → Nat → Option Int} {R : Nat → Int × Int} (hn : n ≤ 100) (hd : ∀ i, i < n + 1 → G i i = some 0) : Pk (Zd4 [Z5 n G R]) fun t => (t = Z5 n (clG G (n + 1)) R ∧ ¬ Zce (n + 1) G) ∨ (t = .none ∧ Zce (n + 1) G) := by
 unfold Zd4 Zir
 have ht : Z5 n G R = .tup [Z8 (n + 1) G, ZaU n R] := rfl
 rw [ht]
 walk_at "zz"
 refine (Zto (n := n + 1) (by omega) (by omega) fun i hi => ⟨0, hd i hi⟩).mono ?_
 rintro t (⟨rfl, h⟩ | ⟨rfl, h⟩)
 ·have hg : Z8 (n + 1) (clG G (n + 1)) = .lst (tab (n + 1) fun i => Zar (n + 1) (clG G (n + 1) i)) := rfl
  rw [hg]
  walk_at "zz"
  exact .inl ⟨rfl, fun ⟨m, hm, q⟩ => h m hm q⟩
 ·walk_at "zz"
  exact .inr ⟨rfl, h⟩
noncomputable def BdG (n k : Nat) (G : Nat → Nat → Option Int) : Prop := ∀ a b c, a < n → b < n → G a b = some c → Bd k c
theorem Zd6 {n k : Nat} {G : Nat → Nat → Option Int} (h : BdG n k G) : ∀ m, m ≤ n → BdG n (k + m) (clG G m)
 | 0, _ => h
 | m + 1, hm => fun a b c ha hb e => by
  have ih := Zd6 h m (by omega)
  rcases Zer (clG G m a b) (Zai (clG G m a m) (clG G m m b)) with e1 | e1
  ·rw [show clG G (m + 1) a b = _ from e1] at e
   exact (ih a b c ha hb e).mono (by omega)
  ·rw [show clG G (m + 1) a b = _ from e1] at e
   obtain ⟨p, q, h1, h2, rfl⟩ := addO_some.mp e
   exact Bd.add (ih a m p ha (by omega) h1) (ih m b q (by omega) hb h2)
theorem ZoE {q : Int × Int} (h : RestOk q) : Zew q (-1) = Za2 q.1 (-q.2) := by
 unfold Zew
 rw [show Zb3 (-1) = 1 from rfl, Int.mul_one, Int.mul_neg, Int.mul_one]
theorem Zlz {m r : Int} : (Za2 m r).1 = m := by
 unfold Za2; split
 ·rename_i c; exact c.symm
 ·rfl
theorem Zgi {R : Nat → Int × Int} {i j : Nat} (hi : RestOk (ZQ R i)) (hj : RestOk (ZQ R j)) (x : Int) : ZaP (Zbs R i j) x ↔ ((Int.gcd (ZQ R i).1 (ZQ R j).1 : Nat) : Int) ∣ x - ((ZQ R i).2 - (ZQ R j).2) := by
 unfold Zbs ZbG
 rw [Ze1 (by omega), ZoE hj, Zlz]
 have hr := Ze1 hj.nn (r := -(ZQ R j).2) (Za2 (ZQ R j).1 (-(ZQ R j).2)).2
 have hs := (hr.mp (ZdY hj.nn _).self)
 generalize (Za2 (ZQ R j).1 (-(ZQ R j).2)).2 = s at *
 have hg : ((Int.gcd (ZQ R i).1 (ZQ R j).1 : Nat) : Int) ∣ s - -(ZQ R j).2 := Int.dvd_trans (Int.gcd_dvd_right ..) hs
 constructor
 ·intro h
  have := Int.dvd_add h hg
  rwa [show x - ((ZQ R i).2 + s) + (s - -(ZQ R j).2) = x - ((ZQ R i).2 - (ZQ R j).2) by omega] at this
 ·intro h
  have := Int.dvd_sub h hg
  rwa [show x - ((ZQ R i).2 - (ZQ R j).2) - (s - -(ZQ R j).2) = x - ((ZQ R i).2 + s) by omega] at this
theorem ZoQ {q : Int × Int} {b c : Int} (h0 : RestOk q) (h : Zdu q b = some c) : c ≤ b ∧ ZaP q c ∧ (q.1 = 0 ∨ b - c < q.1) := by
 unfold Zdu at h
 split at h
 ·rename_i z
  split at h
  ·cases h
   exact ⟨by assumption, h0.self, .inl z⟩
  ·cases h
 ·rename_i z
  cases h
  have hp : 0 < q.1 := by have := h0.nn; omega
  have h1 := Int.emod_nonneg (b - q.2) z
  have h2 := Int.emod_lt_of_pos (b - q.2) hp
  refine ⟨by omega, ?_, .inr (by omega)⟩
  rw [ZbB h0.nn]
  have h3 := Int.emod_add_mul_ediv (b - q.2) q.1
  exact ⟨(b - q.2) / q.1, by omega⟩
theorem ZlA {q : Int × Int} {b x : Int} (h0 : RestOk q) (hx : ZaP q x) (hb : x ≤ b) : ∃ c, Zdu q b = some c ∧ x ≤ c := by
 unfold Zdu
 rw [ZbB h0.nn] at hx
 split
 ·rename_i z
  rw [z, Int.zero_dvd] at hx
  rw [if_pos (by omega)]
  exact ⟨_, rfl, by omega⟩
 ·rename_i z
  have hp : 0 < q.1 := by have := h0.nn; omega
  refine ⟨_, rfl, ?_⟩
  obtain ⟨t, ht⟩ := hx
  have h3 := Int.emod_add_mul_ediv (b - q.2) q.1
  have h2 := Int.emod_lt_of_pos (b - q.2) hp
  have h4 : t ≤ (b - q.2) / q.1 := Int.le_ediv_of_mul_le hp (by rw [Int.mul_comm]; omega)
  have h5 : q.1 * t ≤ q.1 * ((b - q.2) / q.1) := Int.mul_le_mul_of_nonneg_left h4 (by omega)
  omega
theorem Zd2 (R : Nat → Int × Int) (i j : Nat) : RestOk (Zbs R i j) := ZhV _ _
theorem Zne {n k : Nat} {G : Nat → Nat → Option Int} {R : Nat → Int × Int} {M : Int} (hM : 0 < M) (bM : Bd k M) (hG : BdG (n + 1) k G) (hR : ∀ t, t < n → RB M k (R t)) : BdG (n + 1) (k + 1) (ZaQ G R) := by
 intro i j c hi hj e
 have h1 := Zda hR i hi
 have h2 := Zda hR j hj
 have hd1 : (Zbs R i j).1 = ((Int.gcd (ZQ R i).1 (ZQ R j).1 : Nat) : Int) := by
  unfold Zbs ZbG
  rw [Zlz, ZoE h2.1, Zlz]
 have hb1 := (h1.bd hM bM).1
 have hb2 := (h2.bd hM bM).1
 have hm : Bd k (Zbs R i j).1 := by
  rw [hd1]
  by_cases z : (ZQ R i).1 = 0
  ·rw [z, Int.gcd_zero_left]
   unfold Bd at *
   simpa using hb2
  ·have := Int.gcd_le_natAbs_left (b := (ZQ R j).1) z
   unfold Bd at *
   simp only [Int.natAbs_natCast]
   omega
 unfold ZaQ Zb4 at e
 cases hg : G i j with
 | some b =>
  rw [hg] at e
  obtain ⟨u1, u2, u3⟩ := ZoQ (Zd2 R i j) e
  have hbb := hG i j b hi hj hg
  rcases u3 with z | z
  ·have hx := (Zgi h1.1 h2.1 c).mp u2
   rw [hd1] at z
   rw [z, Int.zero_dvd] at hx
   have : c = (ZQ R i).2 - (ZQ R j).2 := by omega
   rw [this]
   exact Bd.sub h1.2.2 h2.2.2
  ·unfold Bd at *
   rw [Nat.pow_succ]
   omega
 | none =>
  rw [hg] at e
  simp only at e
  split at e
  ·rename_i z
   cases e
   have hx := (Zgi h1.1 h2.1 (Zbs R i j).2).mp (Zd2 R i j).self
   rw [hd1] at z
   rw [z, Int.zero_dvd] at hx
   have : (Zbs R i j).2 = (ZQ R i).2 - (ZQ R j).2 := by omega
   rw [this]
   exact Bd.sub h1.2.2 h2.2.2
  ·cases e
end L
namespace L
open PySem PySem.W PyProof.Rows PM TM My
noncomputable def Zfi (n : Nat) (C : Nat → Nat → Option Int) (R : Nat → Int × Int) : Prop := ∃ i, i < n ∧ ∀ x, ¬ ZcK n C R (i + 1) (n + 1) x
theorem ZpT {ts : List T} {Q : T → Prop} (h : Pk (Zaa 1 Zis ts) fun t => Zgo t = true ∧ Q t) : Pk (Zev ts) Q := by
 obtain ⟨t, e, o, q⟩ := h
 exact ⟨t, by simp only [Zev, e, Option.bind_some, o, if_true], q⟩
theorem Zvk {n : Nat} {G : Nat → Nat → Option Int} {R : Nat → Int × Int} : Zgo (Z5 n G R) = true := ZoL fun _ _ => ZhS
theorem ZpU {n k : Nat} {G : Nat → Nat → Option Int} {R : Nat → Int × Int} {M : Int} (hn : n ≤ 100) (hk : k + n + 1 ≤ 7000) (hM : 0 < M) (bM : Bd k M) (hd : ∀ i, i < n + 1 → G i i = some 0) (bG : BdG (n + 1) k G) (hR : ∀ t, t < n → RB M k (R t)) : Pk (Zev [Z5 n G R]) fun t => (∃ R', t = Z5 n (clG G (n + 1)) R' ∧ ¬ Zce (n + 1) G ∧ Hand n (clG G (n + 1)) R R' M (k + n + 2)) ∨ (t = .none ∧ (Zce (n + 1) G ∨ (¬ Zce (n + 1) G ∧ Zfi n (clG G (n + 1)) R))) := by
 refine ZpT ?_
 unfold Zis
 walk_at "zz"
 refine (Zvj hn hd).mono ?_
 rintro t (⟨rfl, h⟩ | ⟨rfl, h⟩)
 ·walk_at "zz"
  refine (Zrc (k := k + n + 1) hn hk hM (bM.mono (by omega)) (Zd6 bG (n + 1) (by omega)) (fun t ht => (hR t ht).mono (by omega))).mono ?_
  rintro t (⟨R', rfl, h2⟩ | ⟨rfl, h2⟩)
  ·exact ⟨Zvk, .inl ⟨R', rfl, h, h2⟩⟩
  ·exact ⟨rfl, .inr ⟨rfl, .inr ⟨h, h2⟩⟩⟩
 ·walk_at "zz"
  exact ZO ZnB ⟨rfl, .inr ⟨rfl, .inl h⟩⟩
theorem ZoR : Zev [.none] = some .none := by
 apply Pk.eq
 refine ZpT ?_
 unfold Zis
 walk_at "zz"
 refine ZO Ztr ?_
 walk_at "zz"
 exact ZO ZnB ⟨rfl, rfl⟩
theorem ZhW {n : Nat} {G : Nat → Nat → Option Int} {R : Nat → Int × Int} (hR : ∀ i, i < n + 1 → RestOk (ZQ R i)) (hd : ∀ i, i < n + 1 → G i i = some 0) : ∀ i, i < n + 1 → ZaQ G R i i = some 0 := by
 intro i hi
 unfold ZaQ Zb4
 rw [hd i hi]
 have h0 : ZaP (Zbs R i i) 0 := (Zgi (hR i hi) (hR i hi) 0).mpr (by simp)
 obtain ⟨c, e, hc⟩ := ZlA (Zd2 R i i) h0 (Int.le_refl 0)
 have := (ZoQ (Zd2 R i i) e).1
 show Zdu (Zbs R i i) 0 = some 0
 rw [e, show c = 0 by omega]
structure Sharp (n : Nat) (G : Nat → Nat → Option Int) (R : Nat → Int × Int) (G2 : Nat → Nat → Option Int) (R2 : Nat → Int × Int) (M : Int) (k : Nat) : Prop where
 go : ∃ R1, ¬ Zce (n + 1) G ∧ Hand n (clG G (n + 1)) R R1 M k ∧ ¬ Zdr n (clG G (n + 1)) R1 ∧ ¬ Zce (n + 1) (ZaQ (clG G (n + 1)) R1) ∧ G2 = clG (ZaQ (clG G (n + 1)) R1) (n + 1) ∧ Hand n G2 R1 R2 M k
noncomputable def Zfc (n : Nat) (G : Nat → Nat → Option Int) (R : Nat → Int × Int) (M : Int) (k : Nat) : Prop := Zce (n + 1) G ∨ (¬ Zce (n + 1) G ∧ Zfi n (clG G (n + 1)) R) ∨ ∃ R1, ¬ Zce (n + 1) G ∧ Hand n (clG G (n + 1)) R R1 M k ∧ (Zdr n (clG G (n + 1)) R1 ∨ (¬ Zdr n (clG G (n + 1)) R1 ∧ (Zce (n + 1) (ZaQ (clG G (n + 1)) R1) ∨ (¬ Zce (n + 1) (ZaQ (clG G (n + 1)) R1) ∧ Zfi n (clG (ZaQ (clG G (n + 1)) R1) (n + 1)) R1))))
theorem Hand.mono {n : Nat} {G : Nat → Nat → Option Int} {R R' : Nat → Int × Int} {M : Int} {i j : Nat} (h : Hand n G R R' M i) (hij : i ≤ j) : Hand n G R R' M j := fun t ht => ⟨(h t ht).1.mono hij, (h t ht).2⟩
theorem Zuj {n k : Nat} {G : Nat → Nat → Option Int} {R : Nat → Int × Int} {M : Int} (hn : n ≤ 100) (hk : k + 2 * n + 4 ≤ 7000) (hM : 0 < M) (bM : Bd k M) (hd : ∀ i, i < n + 1 → G i i = some 0) (bG : BdG (n + 1) k G) (hR : ∀ t, t < n → RB M k (R t)) : Pk (Zeq [Z5 n G R]) fun t => (∃ G2 R2, t = Z5 n G2 R2 ∧ Sharp n G R G2 R2 M (k + 2 * n + 5)) ∨ (t = .none ∧ Zfc n G R M (k + n + 2)) := by
 unfold Zeq ZmM
 walk_at "zz"
 refine (ZpU hn (by omega) hM bM hd bG hR).mono ?_
 rintro t (⟨R1, rfl, nr, h1⟩ | ⟨rfl, h⟩)
 ·have hR1 : ∀ t, t < n → RB M (k + n + 2) (R1 t) := fun t ht => (h1 t ht).1
  have hF1 := Zda hR1
  have z1 := Zes hd (m := n + 1) fun m hm q => nr ⟨m, hm, q⟩
  walk_at "zz"
  refine (ZsE hn (by omega) hM (bM.mono (by omega)) hR1).mono ?_
  rintro t (⟨rfl, nl⟩ | ⟨rfl, fl⟩)
  ·walk_at "zz"
   have bG1 : BdG (n + 1) (k + n + 3) (ZaQ (clG G (n + 1)) R1) := Zne hM (bM.mono (by omega)) (fun a b c ha hb e => (Zd6 bG (n + 1) (by omega) a b c ha hb e).mono (by omega)) hR1
   refine (ZpU (k := k + n + 3) hn (by omega) hM (bM.mono (by omega)) (ZhW (fun i hi => (hF1 i hi).1) z1) bG1 (fun t ht => (hR1 t ht).mono (by omega))).mono ?_
   rintro t (⟨R2, rfl, nr2, h2⟩ | ⟨rfl, h2⟩)
   ·exact .inl ⟨_, R2, rfl, ⟨R1, nr, h1.mono (by omega), nl, nr2, rfl, h2.mono (by omega)⟩⟩
   ·exact .inr ⟨rfl, .inr (.inr ⟨R1, nr, h1, .inr ⟨nl, h2⟩⟩)⟩
  ·walk_at "zz"
   exact ZO ZoR (.inr ⟨rfl, .inr (.inr ⟨R1, nr, h1, .inl fl⟩)⟩)
 ·walk_at "zz"
  refine ZO ZrU ?_
  walk_at "zz"
  refine ZO ZoR (.inr ⟨rfl, ?_⟩)
  rcases h with h | h
  ·exact .inl h
  ·exact .inr (.inl h)
theorem Zf7 {n : Nat} {G : Nat → Nat → Option Int} {R : Nat → Int × Int} {x : Nat → Int} (h : ZbH n G R x) : ZbH n (clG G (n + 1)) R x := ⟨fun i j hi hj b e => Zmz (ZoC h) (n + 1) (by omega) i j hi hj b e, h.2⟩
theorem Zoh {n : Nat} {G : Nat → Nat → Option Int} {R : Nat → Int × Int} {x : Nat → Int} (h : ZbH n G R x) : ¬ Zce (n + 1) G := fun ⟨m, hm, q⟩ => Ztp (Zmz (ZoC h) (m + 1) (by omega)) q
theorem Zma {n : Nat} {G : Nat → Nat → Option Int} {R : Nat → Int × Int} {x : Nat → Int} (h : ZbH n G R x) : ∀ i, i < n + 1 → ZaP (ZQ R i) (ZaJ x i)
 | 0, _ => ⟨fun _ => rfl, fun q => absurd q (show ¬ (0 : Int) < 0 by decide)⟩
 | i + 1, hi => h.2 i (by omega)
theorem ZoS {n : Nat} {G : Nat → Nat → Option Int} {R : Nat → Int × Int} {x : Nat → Int} (h : ZbH n G R x) {t : Nat} (ht : t < n) : ZcK n G R (t + 1) (n + 1) (x t) := by
 refine ⟨h.2 t ht, fun j hj a b ha hb hab => ?_⟩
 have h1 := h.1 (t + 1) j (by omega) hj a ha
 have h2 := h.1 j (t + 1) hj (by omega) b hb
 have h3 : ZaJ x (t + 1) = x t := rfl
 rw [h3] at h1 h2
 rw [show x t - a = ZaJ x j by omega]
 exact Zma h j hj
theorem ZkQ {n : Nat} {G : Nat → Nat → Option Int} {R R' : Nat → Int × Int} {x : Nat → Int} {M : Int} {k : Nat} (h : ZbH n G R x) (q : Hand n G R R' M k) : ZbH n G R' x := ⟨h.1, fun t ht => ((q t ht).2 _).mpr (ZoS h ht)⟩
theorem Zpl {n : Nat} {G : Nat → Nat → Option Int} {R : Nat → Int × Int} {x : Nat → Int} (hR : ∀ i, i < n + 1 → RestOk (ZQ R i)) (h : ZbH n G R x) {i j : Nat} (hi : i < n + 1) (hj : j < n + 1) : ZaP (Zbs R i j) (ZaJ x i - ZaJ x j) := by
 rw [Zgi (hR i hi) (hR j hj)]
 have h1 := (ZbB (hR i hi).nn _).mp (Zma h i hi)
 have h2 := (ZbB (hR j hj).nn _).mp (Zma h j hj)
 have h3 := Int.dvd_sub (Int.dvd_trans (Int.gcd_dvd_left (b := (ZQ R j).1) ..) h1) (Int.dvd_trans (Int.gcd_dvd_right (a := (ZQ R i).1) ..) h2)
 rwa [show ZaJ x i - (ZQ R i).2 - (ZaJ x j - (ZQ R j).2) = ZaJ x i - ZaJ x j - ((ZQ R i).2 - (ZQ R j).2) by omega] at h3
theorem ZsF {n : Nat} {G : Nat → Nat → Option Int} {R : Nat → Int × Int} {x : Nat → Int} (hR : ∀ i, i < n + 1 → RestOk (ZQ R i)) (h : ZbH n G R x) : ¬ Zdr n G R := by
 rintro ⟨i, j, hi, hj, b, e, hn⟩
 obtain ⟨c, e2, _⟩ := ZlA (Zd2 R i j) (Zpl hR h hi hj) (h.1 i j hi hj b e)
 unfold ZaQ Zb4 at hn
 rw [e] at hn
 simp only at hn
 rw [e2] at hn
 cases hn
theorem Zpm {n : Nat} {G : Nat → Nat → Option Int} {R : Nat → Int × Int} {x : Nat → Int} (hR : ∀ i, i < n + 1 → RestOk (ZQ R i)) (h : ZbH n G R x) : ZbH n (ZaQ G R) R x := by
 refine ⟨fun i j hi hj b e => ?_, h.2⟩
 have hd := Zpl hR h hi hj
 unfold ZaQ Zb4 at e
 cases hg : G i j with
 | some c =>
  rw [hg] at e
  simp only at e
  obtain ⟨d, e2, hle⟩ := ZlA (Zd2 R i j) hd (h.1 i j hi hj c hg)
  rw [e2] at e
  cases e
  exact hle
 | none =>
  rw [hg] at e
  simp only at e
  split at e
  ·rename_i z
   cases e
   rw [ZbB (Zd2 R i j).nn, z, Int.zero_dvd] at hd
   omega
  ·cases e
theorem ZsG {n k : Nat} {G G2 : Nat → Nat → Option Int} {R R2 : Nat → Int × Int} {M : Int} {x : Nat → Int} (h : ZbH n G R x) (s : Sharp n G R G2 R2 M k) : ZbH n G2 R2 x := by
 obtain ⟨R1, h1, h2, h3, h4, rfl, h6⟩ := s.go
 have l1 := ZkQ (Zf7 h) h2
 have hF := Zda fun t ht => (h2 t ht).1
 exact ZkQ (Zf7 (Zpm (fun i hi => (hF i hi).1) l1)) h6
theorem Zse {n k : Nat} {G : Nat → Nat → Option Int} {R : Nat → Int × Int} {M : Int} {x : Nat → Int} (h : ZbH n G R x) : ¬ Zfc n G R M k := by
 have hf : ∀ {G : Nat → Nat → Option Int} {R : Nat → Int × Int}, ZbH n G R x → ¬ Zfi n G R := fun h ⟨i, hi, q⟩ => q _ (ZoS h hi)
 rintro (q | ⟨_, q⟩ | ⟨R1, _, h2, q⟩)
 ·exact Zoh h q
 ·exact hf (Zf7 h) q
 ·have l1 := ZkQ (Zf7 h) h2
  have hF := Zda fun t ht => (h2 t ht).1
  have l2 := Zpm (fun i hi => (hF i hi).1) l1
  rcases q with q | ⟨_, q | ⟨_, q⟩⟩
  ·exact ZsF (fun i hi => (hF i hi).1) l1 q
  ·exact Zoh l2 q
  ·exact hf (Zf7 l2) q
end L
namespace L
open PySem PySem.W PyProof.Rows PM TM My
theorem ZsH {p q : Int × Int} {k : Nat} (hk : k ≤ 8000) (op : RestOk p) (oq : RestOk q) (bp : RBd k p) (bq : RBd k q) : Pk (ZhM [prT p, prT q]) fun t => ∃ o, t = oR o ∧ Met p q o := by
 unfold ZhM Zl0
 have ep : prT p = .tup [.int p.1, .int p.2] := rfl
 have eq : prT q = .tup [.int q.1, .int q.2] := rfl
 have np := op.nn
 have nq := oq.nn
 rw [ep, eq]
 walk_at "zz"
 have hlt : ∀ x : Int, 0 ≤ x → Bd k x → x < 2 ^ 200000 := fun x h0 h1 => by
  have h2 : x.natAbs < 2 ^ 200000 := ZaW h1 (by omega)
  have h3 : ((x.natAbs : Nat) : Int) < 2 ^ 200000 := by exact_mod_cast h2
  omega
 obtain ⟨m, hm, eu⟩ := ZhU np nq (hlt _ np bp.1) (hlt _ nq bq.1)
 refine Zff (fun m σ => ∃ l r s t : Int, σ 0 = some (.tup [.int p.1, .int p.2]) ∧ σ 1 = some (.tup [.int q.1, .int q.2]) ∧ σ 2 = some (.int l) ∧ σ 3 = some (.int r) ∧ σ 4 = some (.int s) ∧ σ 5 = some (.int t) ∧ Eu m l r ∧ Int.gcd l r = Int.gcd p.1 q.1 ∧ Bd k l ∧ Bd k r ∧ (∃ z, s * p.1 = l + q.1 * z) ∧ (∃ z, t * p.1 = r + q.1 * z) ∧ Bd (k + 1) s ∧ Bd (k + 1) t ∧ (s.natAbs : Int) * r + (t.natAbs : Int) * l ≤ q.1 ∧ (1 ≤ l ∨ t = 0)) _ _ ?_ 1000000 (m := m) ⟨p.1, q.1, 1, 0, by walk_at "zr", by walk_at "zr", by walk_at "zr", by walk_at "zr", by walk_at "zr", by walk_at "zr", eu, rfl, bp.1, bq.1, ⟨0, by omega⟩, ⟨-1, by omega⟩, ZdQ (by omega), Zed, by simp, .inr rfl⟩ hm
 rintro m σ ⟨l, r, s, t, e0, e1, e2, e3, e4, e5, eu, gl, kl, kr, ⟨z1, h1⟩, ⟨z2, h2⟩, ks, kt, hb1, hl⟩
 walk_at "zz"
 refine ⟨fun h => ?_, fun h => ?_⟩
 ·have hr : r ≠ 0 := by simpa using h
  have hr0 : 0 ≤ r := eu.2.1
  have hl0 : 0 ≤ l := eu.1
  have hrp : 0 < r := by omega
  have hdiv0 : 0 ≤ l / r := Int.ediv_nonneg hl0 hr0
  have hdiv1 : l / r ≤ l := Int.ediv_le_self _ hl0
  have kd : Bd k (l / r) := Zc1 kl hdiv0 hdiv1
  walk_at "zz"
  refine ZcX hr (Zdt kr (by omega)) ?_
  rw [Int.fdiv_eq_ediv_of_nonneg _ hr0]
  walk_at "zz"
  refine ZbY (Zch kd kr (by omega) (by omega)) ?_
  walk_at "zz"
  refine ZbY (Zch kd kt (by omega) (by omega)) ?_
  walk_at "zz"
  have hover : l - l / r * r = l % r := by
   have := Int.emod_add_mul_ediv l r
   rw [Int.mul_comm r (l / r)] at this
   omega
  rw [hover]
  obtain ⟨m', hm1, hm2⟩ := eu.step hr
  have o0 := Int.emod_nonneg l hr
  have o1 := Int.emod_lt_of_pos l hrp
  have ht : ((s - l / r * t).natAbs : Int) ≤ (s.natAbs : Int) + l / r * (t.natAbs : Int) := by
   have h3 : (s - l / r * t).natAbs ≤ s.natAbs + (l / r * t).natAbs := by omega
   have h4 : (l / r * t).natAbs = (l / r).natAbs * t.natAbs := Int.natAbs_mul ..
   have h5 : (((l / r).natAbs * t.natAbs : Nat) : Int) = l / r * (t.natAbs : Int) := by
    rw [Int.natCast_mul, Int.natAbs_of_nonneg hdiv0]
   rw [h4] at h3
   omega
  have h6 : ((s - l / r * t).natAbs : Int) * r ≤ ((s.natAbs : Int) + l / r * (t.natAbs : Int)) * r := Int.mul_le_mul_of_nonneg_right ht hr0
  have h7 : ((s.natAbs : Int) + l / r * (t.natAbs : Int)) * r = (s.natAbs : Int) * r + (t.natAbs : Int) * (l / r * r) := by
   rw [Int.add_mul, Int.mul_comm (l / r) (t.natAbs : Int), Int.mul_assoc]
  have h8 : (t.natAbs : Int) * (l % r) + (t.natAbs : Int) * (l / r * r) = (t.natAbs : Int) * l := by
   rw [← Int.mul_add, ← hover]
   congr 1
   omega
  have h9 : (t.natAbs : Int) * (l % r) + ((s - l / r * t).natAbs : Int) * r ≤ q.1 := by omega
  have hpos : 0 ≤ (t.natAbs : Int) * (l % r) := Int.mul_nonneg (by omega) o0
  have kn : Bd (k + 1) (s - l / r * t) := by
   have h10 : ((s - l / r * t).natAbs : Int) * 1 ≤ ((s - l / r * t).natAbs : Int) * r := Int.mul_le_mul_of_nonneg_left (by omega) (by omega)
   have h11 : ((s - l / r * t).natAbs : Int) ≤ q.1 := by omega
   have h12 := bq.1
   unfold Bd at *
   rw [Nat.pow_succ]
   omega
  refine ⟨m', hm1, r, l % r, t, s - l / r * t, by walk_at "zr", by walk_at "zr", by walk_at "zr", by walk_at "zr", by walk_at "zr", by walk_at "zr", hm2, by rw [Zgh hrp]; exact gl, kr, Zc1 kr o0 (by omega), ⟨z2, h2⟩, ⟨z1 - l / r * z2, ?_⟩, kt, kn, h9, .inl (by omega)⟩
  rw [Int.sub_mul, h1, Int.mul_assoc, h2, Int.mul_add, Int.mul_sub, ← hover]
  have e1 : q.1 * (l / r * z2) = l / r * (q.1 * z2) := by rw [← Int.mul_assoc, Int.mul_comm q.1, Int.mul_assoc]
  rw [e1]
  omega
 ·have hr : r = 0 := by simpa using h
  subst hr
  rw [Int.gcd_zero_right] at gl
  have hl0 := eu.1
  have hlg : l = (Int.gcd p.1 q.1 : Nat) := by omega
  walk_at "zz"
  by_cases c : l = 0
  ·have hz : p.1 = 0 ∧ q.1 = 0 := Int.gcd_eq_zero_iff.mp (by omega)
   have hp1 : ∀ x, ZaP p x ↔ x = p.2 := fun x => by rw [ZbB np, hz.1, Int.zero_dvd]; omega
   have hq1 : ∀ x, ZaP q x ↔ x = q.2 := fun x => by rw [ZbB nq, hz.2, Int.zero_dvd]; omega
   walk_at "zz"
   by_cases d : q.2 - p.2 = 0
   ·walk_at "zz"
    refine ⟨some p, rfl, op, fun x => ?_⟩
    rw [hp1, hq1]
    omega
   ·walk_at "zz"
    refine ⟨none, rfl, fun x hx => ?_⟩
    rw [hp1, hq1] at hx
    omega
  ·have hlp : 0 < l := by omega
   obtain ⟨a, ea⟩ : l ∣ p.1 := by rw [hlg]; exact Int.gcd_dvd_left ..
   obtain ⟨b, eb⟩ : l ∣ q.1 := by rw [hlg]; exact Int.gcd_dvd_right ..
   walk_at "zz"
   rw [Int.fmod_eq_emod_of_nonneg _ (by omega)]
   by_cases c3 : (q.2 - p.2) % l = 0
   ·obtain ⟨d, ed⟩ := Int.dvd_of_emod_eq_zero c3
    have da : p.1 / l = a := by rw [ea]; exact Int.mul_ediv_cancel_left _ (by omega)
    have dd : (q.2 - p.2) / l = d := by rw [ed]; exact Int.mul_ediv_cancel_left _ (by omega)
    have ha0 : 0 ≤ a := by rw [← da]; exact Int.ediv_nonneg np (by omega)
    have ka : Bd k a := Zc1 bp.1 ha0 (by rw [← da]; exact Int.ediv_le_self _ np)
    have kdd : Bd (k + 1) d := by
     have h1 : Bd (k + 1) (q.2 - p.2) := Bd.sub bq.2 bp.2
     unfold Bd at *
     rw [ed, Int.natAbs_mul] at h1
     have : 1 * d.natAbs ≤ l.natAbs * d.natAbs := Nat.mul_le_mul_right _ (by omega)
     omega
    walk_at "zz"
    refine ZcX (by omega) (Zdt kl (by omega)) ?_
    rw [Int.fdiv_eq_ediv_of_nonneg _ (by omega), da]
    walk_at "zz"
    refine ZbY (Zch ka bq.1 (by omega) (by omega)) ?_
    walk_at "zz"
    refine ZbY (Zch bp.1 ks (by omega) (by omega)) ?_
    walk_at "zz"
    refine ZcX (by omega) (Zdt kl (by omega)) ?_
    rw [Int.fdiv_eq_ediv_of_nonneg _ (by omega), dd]
    walk_at "zz"
    refine ZbY (Zch (Bd.mul bp.1 ks) kdd (by omega) (by omega)) ?_
    walk_at "zz"
    have hm0 : 0 ≤ a * q.1 := Int.mul_nonneg ha0 nq
    refine ZO Zf5 ⟨some _, rfl, ZdY hm0 _, fun x => ?_⟩
    rw [Ze1 hm0, ZbB np, ZbB nq]
    have hx0 : p.1 * s * d = (q.2 - p.2) + q.1 * (z1 * d) := by
     rw [Int.mul_comm p.1 s, h1, Int.add_mul, ed, Int.mul_assoc]
    have hpm : p.1 ∣ a * q.1 := ⟨b, by rw [ea, eb]; rw [Int.mul_left_comm, Int.mul_assoc]⟩
    have hqm : q.1 ∣ a * q.1 := Int.dvd_mul_left _ _
    constructor
    ·intro hx
     have g1 := Int.dvd_trans hpm hx
     have g2 := Int.dvd_trans hqm hx
     refine ⟨?_, ?_⟩
     ·have := Int.dvd_add g1 (show p.1 ∣ p.1 * s * d from ⟨s * d, by rw [Int.mul_assoc]⟩)
      rwa [show x - (p.2 + p.1 * s * d) + p.1 * s * d = x - p.2 by omega] at this
     ·have := Int.dvd_add g2 (Int.dvd_mul_right q.1 (z1 * d))
      rwa [show x - (p.2 + p.1 * s * d) + q.1 * (z1 * d) = x - q.2 by omega] at this
    ·rintro ⟨g1, g2⟩
     have g3 : p.1 ∣ x - (p.2 + p.1 * s * d) := by
      have := Int.dvd_sub g1 (show p.1 ∣ p.1 * s * d from ⟨s * d, by rw [Int.mul_assoc]⟩)
      rwa [show x - p.2 - p.1 * s * d = x - (p.2 + p.1 * s * d) by omega] at this
     have g4 : q.1 ∣ x - (p.2 + p.1 * s * d) := by
      have := Int.dvd_sub g2 (Int.dvd_mul_right q.1 (z1 * d))
      rwa [show x - q.2 - q.1 * (z1 * d) = x - (p.2 + p.1 * s * d) by omega] at this
     have g5 := Int.coe_lcm_dvd g3 g4
     have g6 : (a * q.1).natAbs = Int.lcm p.1 q.1 := by
      have k1 := Int.gcd_mul_lcm p.1 q.1
      have k2 : (l.natAbs) * (a * q.1).natAbs = p.1.natAbs * q.1.natAbs := by
       rw [Int.natAbs_mul, ← Nat.mul_assoc]
       congr 1
       rw [← Int.natAbs_mul, ← ea]
      have k3 : Int.gcd p.1 q.1 = l.natAbs := by omega
      rw [k3] at k1
      exact Nat.eq_of_mul_eq_mul_left (show 0 < l.natAbs by omega) (by omega)
     rw [← g6] at g5
     exact Int.natAbs_dvd.mp g5
   ·walk_at "zz"
    refine ⟨none, rfl, fun x hx => c3 ?_⟩
    rw [ZbB np, ZbB nq] at hx
    have g1 : l ∣ x - p.2 := Int.dvd_trans ⟨a, ea⟩ hx.1
    have g2 : l ∣ x - q.2 := Int.dvd_trans ⟨b, eb⟩ hx.2
    have g3 := Int.dvd_sub g1 g2
    rw [show x - p.2 - (x - q.2) = q.2 - p.2 by omega] at g3
    exact Int.emod_eq_zero_of_dvd g3
end L
namespace L
open PySem PySem.W PyProof.Rows PM TM My
theorem Zwl {p q : Int × Int} {k : Nat} (hk : k ≤ 8000) (op : RestOk p) (oq : RestOk q) (bp : RBd k p) (bq : RBd k q) {o : Option (Int × Int)} (h : Met p q o) : ∀ r, o = some r → (r = p ∨ r = q ∨ (p.1 ≠ 0 ∧ q.1 ≠ 0 ∧ r.1 = Int.lcm p.1 q.1)) := by
 obtain ⟨t, _, o', rfl, h', wh⟩ := Zof hk op oq bp bq
 rw [ZsC h h']
 exact wh
theorem Zts (q : Int × Int) (h : 0 ≤ q.1) (a : Int) : Za2 q.1 (q.2 + a) = ZbG q (0, a) := by
 unfold ZbG
 simp only [Int.gcd_zero_right]
 rw [Int.natAbs_of_nonneg h]
theorem Zmb {n i j k : Nat} {G : Nat → Nat → Option Int} {R : Nat → Int × Int} {M : Int} {o : Option (Int × Int)} (ho : ZcY n G R M k i j o) (h : ∀ a b x, G i j = some a → G j i = some b → a + b = 0 → ZcK n G R i j x → ZaP (ZQ R j) (x - a)) : ZcY n G R M k i (j + 1) o := by
 have hs : ∀ x, ZcK n G R i j x ↔ ZcK n G R i (j + 1) x := fun x => ⟨fun hx => ⟨hx.1, fun j' hj' a b ha hb hab => by
     by_cases q' : j' = j
     ·subst q'; exact h a b x ha hb hab hx
     ·exact hx.2 j' (by omega) a b ha hb hab⟩, fun hx => ⟨hx.1, fun j' hj' => hx.2 j' (by omega)⟩⟩
 cases o with
 | none => exact fun x hx => ho x ((hs x).mpr hx)
 | some q => exact ⟨ho.1, fun x => (ho.2 x).trans (hs x)⟩
theorem ZpV {M : Int} {k : Nat} {q : Int × Int} {a : Int} (hM : 0 < M) (bM : Bd k M) (h : RB M k q) (ba : Bd k a) : RB M (k + 1) (ZbG q (0, a)) := by
 refine ⟨ZhV _ _, ?_, ?_⟩
 ·unfold ZbG Za2
  simp only [Int.gcd_zero_right]
  rw [Int.natAbs_of_nonneg h.1.nn]
  split
  ·exact .inl rfl
  ·exact h.2.1
 ·have hm := (h.bd hM bM).1
  refine (Zl7 (k := k + 1) (by omega) ?_ (Bd.add h.2.2 ba)).2
  simp only [Int.gcd_zero_right]
  rw [Int.natAbs_of_nonneg h.1.nn]
  exact hm.mono (by omega)
theorem Ztt {n i j k : Nat} {G : Nat → Nat → Option Int} {R : Nat → Int × Int} {M : Int} {q : Int × Int} {o' : Option (Int × Int)} {a b : Int} (hk : k ≤ 7000) (hM : 0 < M) (bM : Bd k M) (ha : G i j = some a) (hb : G j i = some b) (hab : a + b = 0) (ba : Bd k a) (hj2 : RB M k (ZQ R j)) (ho : ZcY n G R M (k + 1) i j (some q)) (mt : Met q (ZbG (ZQ R j) (0, a)) o') : ZcY n G R M (k + 1) i (j + 1) o' := by
 have bM1 : Bd (k + 1) M := bM.mono (by omega)
 have hpl := ZpV hM bM hj2 ba
 have wh := Zwl (k := k + 1) (by omega) ho.1.1 hpl.1 (ho.1.bd hM bM1) (hpl.bd hM bM1) mt
 have hset : ∀ x, (ZaP q x ∧ ZaP (ZbG (ZQ R j) (0, a)) x) ↔ ZcK n G R i (j + 1) x := fun x => by
  rw [ho.2 x, Zog hj2.1]
  constructor
  ·rintro ⟨h1, h2⟩
   refine ⟨h1.1, fun j' hj' c d hc hd hcd => ?_⟩
   by_cases q' : j' = j
   ·subst q'; rw [ha] at hc; cases hc; exact h2
   ·exact h1.2 j' (by omega) c d hc hd hcd
  ·intro h
   exact ⟨⟨h.1, fun j' hj' => h.2 j' (by omega)⟩, h.2 j (by omega) a b ha hb hab⟩
 cases o' with
 | none => exact fun x hx => mt x ((hset x).mpr hx)
 | some r =>
  refine ⟨⟨mt.1, ?_, ?_⟩, fun x => (mt.2 x).trans (hset x)⟩
  ·rcases wh r rfl with h | h | ⟨h1, h2, h3⟩
   ·rw [h]; exact ho.1.2.1
   ·rw [h]; exact hpl.2.1
   ·right
    rw [h3]
    exact Int.coe_lcm_dvd (ho.1.2.1.resolve_left h1) (hpl.2.1.resolve_left h2)
  ·rcases wh r rfl with h | h | ⟨h1, h2, h3⟩
   ·rw [h]; exact ho.1.2.2
   ·rw [h]; exact hpl.2.2
   ·rcases mt.1 with z | z
    ·have : (Int.lcm q.1 (ZbG (ZQ R j) (0, a)).1) ≠ 0 := Int.lcm_ne_zero h1 h2
     omega
    ·have hd : r.1 ∣ M := by
      rw [h3]
      exact Int.coe_lcm_dvd (ho.1.2.1.resolve_left h1) (hpl.2.1.resolve_left h2)
     exact Zc1 bM1 z.2.1 (by have := Int.le_of_dvd hM hd; omega)
theorem Zvl {p : PE} {σ : TL} {k : Nat} {Q : T → Prop} (h : Pk (p σ) fun t => ∃ ts, t = .lst ts ∧ Q (.lst (ts.drop k))) : Pk (ZcG p k σ) Q := by
 obtain ⟨t, e, ts, rfl, q⟩ := h
 exact ⟨_, by simp only [ZcG, e, Option.bind_some], q⟩
theorem Ztu {n : Nat} {f : Nat → T} : (tab (n + 1) f).drop 1 = tab n fun i => f (i + 1) := by
 apply List.ext_getElem?
 intro i
 rw [List.getElem?_drop]
 by_cases h : i < n
 ·rw [ZbD h, Nat.add_comm 1 i, ZbD (by omega)]
 ·rw [List.getElem?_eq_none (by rw [Zau]; omega), List.getElem?_eq_none (by rw [Zau]; omega)]
theorem ZnR {n k : Nat} {G : Nat → Nat → Option Int} {R : Nat → Int × Int} {M : Int} (hn : n ≤ 100) (hk : k ≤ 7000) (hM : 0 < M) (bM : Bd k M) (bG : ∀ a b c, a < n + 1 → b < n + 1 → G a b = some c → Bd k c) (hR : ∀ t, t < n → RB M k (R t)) : Pk (ZfO [Z8 (n + 1) G, ZaU n R]) fun t => (∃ R', t = ZaU n R' ∧ Hand n G R R' M (k + 1)) ∨ (t = .none ∧ Zfi n G R) := by
 unfold ZfO Zj0
 have hF := Zda hR
 have bM1 : Bd (k + 1) M := bM.mono (by omega)
 have hr : ZaU n R = .lst (tab n fun i => prT (R i)) := rfl
 rw [hr]
 walk_at "zz"
 rw [Znp]
 walk_at "zz"
 refine ZbK (n := n) (a := fun i => .int ((i + 1 : Nat) : Int)) (P := fun m σ => ∃ F : Nat → Option (Int × Int), σ 0 = some (Z8 (n + 1) G) ∧ σ 2 = some (.lst (tab (n + 1) fun i => prT (ZQ R i))) ∧ σ 3 = some (.lst (tab (n + 1) fun i => oR (F i))) ∧ F 0 = some (0, 0) ∧ (∀ a, a < m → ZcY n G R M (k + 1) (a + 1) (n + 1) (F (a + 1))) ∧ ∀ a, m ≤ a → a < n → F (a + 1) = some (R a)) ?_ ⟨fun i => some (ZQ R i), by walk_at "zr", by walk_at "zr", by walk_at "zr", rfl, by omega, fun _ _ _ => rfl⟩ ?_ ?_
 ·by_cases h0 : n = 0
  ·subst h0
   exact ⟨[], Zgm (a := 1) (b := 1) rfl Zqw, rfl⟩
  ·walk_at "zz"
   refine Rn.two 1 n (by decide) (by omega) (by omega) (by omega) ?_
   refine ZbI fun i _ => ?_
   congr 1
   omega
 ·rintro i σ hi ⟨F, e0, e2, e3, z0, h1, h2⟩
  have hself : (fun a => oR (F a)) = fun a => oR (if a = i + 1 then F (i + 1) else F a) := funext fun a => by split <;> simp_all
  rw [hself] at e3
  refine ZbK (n := n + 1) (a := fun j => .int j) (P := fun j σ => ∃ o, σ 0 = some (Z8 (n + 1) G) ∧ σ 2 = some (.lst (tab (n + 1) fun i => prT (ZQ R i))) ∧ σ 3 = some (.lst (tab (n + 1) fun a => oR (if a = i + 1 then o else F a))) ∧ σ 4 = some (.int ((i + 1 : Nat) : Int)) ∧ ZcY n G R M (k + 1) (i + 1) j o) ?_ ⟨F (i + 1), by walk_at "zr", by walk_at "zr", by walk_at "zr", by walk_at "zr", ?_⟩ ?_ ?_
  ·walk_at "zz"
   rfl
  ·rw [h2 i (by omega) hi]
   exact ⟨(hF (i + 1) (by omega)).mono (by omega), fun x => ⟨fun h => ⟨h, by omega⟩, fun h => h.1⟩⟩
  ·rintro j σ hj ⟨o, f0, f2, f3, f4, ho⟩
   unfold Z8 Zar at f0
   walk_at "zz"
   have fin : ∀ σ' : TL, σ' 0 = σ 0 → σ' 2 = σ 2 → σ' 3 = σ 3 → σ' 4 = σ 4 → ZcY n G R M (k + 1) (i + 1) (j + 1) o → ∃ o, σ' 0 = some (Z8 (n + 1) G) ∧ σ' 2 = some (.lst (tab (n + 1) fun i => prT (ZQ R i))) ∧ σ' 3 = some (.lst (tab (n + 1) fun a => oR (if a = i + 1 then o else F a))) ∧ σ' 4 = some (.int ((i + 1 : Nat) : Int)) ∧ ZcY n G R M (k + 1) (i + 1) (j + 1) o := fun σ' g0 g2 g3 g4 h => ⟨o, g0.trans f0, g2.trans f2, g3.trans f3, g4.trans f4, h⟩
   refine ⟨fun c => ?_, fun c => ⟨fun h => (nomatch h), fun _ => ?_⟩⟩
   ·have cne : i + 1 ≠ j := fun q => of_decide_eq_true c (by omega)
    cases hg : G (i + 1) j with
    | none =>
     rw [Za6]
     walk_at "zz"
     exact fin _ rfl rfl rfl rfl (Zmb ho fun a b x ha => by rw [hg] at ha; cases ha)
    | some a =>
     rw [Zan]
     walk_at "zz"
     refine Zet (ZgG (n := 0)) (.int (n := 0)) ?_
     walk_at "zz"
     refine ⟨fun e => ?_, fun e => ?_⟩
     ·have e' := dec_iff.mp e
      rw [← Zan, oT_inj] at e'
      cases o with
      | none =>
       walk_at "zz"
       rw [if_pos rfl, show oR none = T.none from rfl]
       walk_at "zz"
       exact fin _ rfl rfl rfl rfl fun x hx => ho x ⟨hx.1, fun j' hj' => hx.2 j' (by omega)⟩
      | some q =>
       walk_at "zz"
       rw [if_pos rfl, show oR (some q) = T.tup [.int q.1, .int q.2] from rfl]
       walk_at "zz"
       rw [if_pos rfl]
       have hj2 := hF j hj
       have ba := bG (i + 1) j a (by omega) hj hg
       have hpl := ZpV hM bM hj2 ba
       have eq : prT (ZQ R j) = .tup [.int (ZQ R j).1, .int (ZQ R j).2] := rfl
       rw [eq]
       walk_at "zz"
       rw [eq]
       walk_at "zz"
       refine ZO Zf5 ?_
       rw [Zts _ hj2.1.nn]
       walk_at "zz"
       refine (ZsH (p := q) (q := ZbG (ZQ R j) (0, a)) (k := k + 1) (by omega) ho.1.1 hpl.1 (ho.1.bd hM bM1) (hpl.bd hM bM1)).mono ?_
       rintro _ ⟨o', rfl, mt⟩
       refine ⟨by cases o' <;> rfl, ?_⟩
       walk_at "zz"
       refine ⟨o', by walk_at "zr", by walk_at "zr", ?_, by walk_at "zr", Ztt hk hM bM hg e' (by omega) ba hj2 ho mt⟩
       refine (show _ = _ from Zbn).trans ?_
       congr 2
       refine ZbI fun a _ => ?_
       split <;> rfl
     ·walk_at "zz"
      refine fin _ rfl rfl rfl rfl (Zmb ho fun a' b x ha hb hab hx => ?_)
      rw [hg] at ha
      cases ha
      have : dec (oT (G j (i + 1)) = .int (-a)) = true := ZaZ (by rw [hb, Zan]; congr 1; omega)
      rw [this] at e
      cases e
   ·walk_at "zz"
    refine fin _ rfl rfl rfl rfl (Zmb ho fun a b x ha hb hab hx => ?_)
    have cj : i + 1 = j := by
     have := of_decide_eq_false c
     omega
    subst cj
    rw [ha] at hb
    cases hb
    rw [show x - a = x by omega]
    exact hx.1
  ·rintro σ ⟨o, f0, f2, f3, f4, ho⟩
   refine ⟨fun a => if a = i + 1 then o else F a, f0, f2, f3, by simp [z0], fun a ha => ?_, fun a ha hb => ?_⟩
   ·by_cases q : a = i
    ·subst q; simpa using ho
    ·simpa [q] using h1 a (by omega)
   ·simpa [show a ≠ i by omega] using h2 a (by omega) hb
 ·rintro σ ⟨F, e0, e2, e3, z0, h1, -⟩
  walk_at "zz"
  refine ZiD (.none (n := 0)) (Zfs (n := 1) fun i _ => ZqJ) ?_
  by_cases hc : ∃ i, i < n ∧ F (i + 1) = none
  ·obtain ⟨i, hi, ei⟩ := hc
   rw [ZaZ (show T.none ∈ tab (n + 1) fun i => oR (F i) from List.mem_of_getElem? (i := i + 1) (by rw [ZbD (by omega), ei]; rfl))]
   walk_at "zz"
   refine .inr ⟨rfl, i, hi, ?_⟩
   have := h1 i hi
   rw [ei] at this
   exact this
  ·rw [ZbN (show ¬ T.none ∈ tab (n + 1) fun i => oR (F i) from fun h => by
    obtain ⟨i, hi, e⟩ := ZdE h
    have e' := oR_none.mp e.symm
    cases i with
    | zero => rw [z0] at e'; cases e'
    | succ i => exact hc ⟨i, by omega, e'⟩)]
   walk_at "zz"
   refine Zvl ?_
   walk_at "zz"
   refine ⟨_, rfl, ?_⟩
   rw [Ztu]
   have hs : ∀ i, i < n → F (i + 1) = some ((F (i + 1)).getD (1, 0)) := fun i hi => by
    cases e : F (i + 1) with
    | none => exact absurd ⟨i, hi, e⟩ hc
    | some q => rfl
   refine .inl ⟨fun i => (F (i + 1)).getD (1, 0), ?_, fun t ht => ?_⟩
   ·unfold ZaU
    congr 1
    refine ZbI fun i hi => ?_
    conv => lhs; rw [hs i hi]
    rfl
   ·have := h1 t ht
    rw [hs t ht] at this
    exact this
end L
namespace L
open PySem PySem.W PyProof.Rows PM TM My
theorem Zvm {R : Nat → Int × Int} {i j : Nat} (hi : RestOk (ZQ R i)) (hj : RestOk (ZQ R j)) : Zbs R i j = Za2 (Int.gcd (ZQ R i).1 (ZQ R j).1 : Nat) ((ZQ R i).2 - (ZQ R j).2) :=
 ZkP (Zd2 R i j) (ZdY (by omega) _) fun x => (Zgi hi hj x).trans (Ze1 (by omega) x).symm
theorem Zvn {G : Nat → Nat → Option Int} {R : Nat → Int × Int} {i j : Nat} (hi : RestOk (ZQ R i)) (hj : RestOk (ZQ R j)) : ZaQ G R i j = if ((Int.gcd (ZQ R i).1 (ZQ R j).1 : Nat) : Int) = 0 then (match G i j with | none => some ((ZQ R i).2 - (ZQ R j).2) | some b => if (ZQ R i).2 - (ZQ R j).2 ≤ b then some ((ZQ R i).2 - (ZQ R j).2) else none) else (match G i j with | none => none | some b => some (b - (b - ((ZQ R i).2 - (ZQ R j).2)) % (Int.gcd (ZQ R i).1 (ZQ R j).1 : Nat))) := by
 unfold ZaQ
 rw [Zvm hi hj]
 generalize ((Int.gcd (ZQ R i).1 (ZQ R j).1 : Nat) : Int) = m at *
 generalize (ZQ R i).2 - (ZQ R j).2 = r
 unfold Za2
 by_cases c : m = 0
 ·rw [if_pos c, if_pos c]
  cases G i j with
  | none => simp [Zb4]
  | some b => simp [Zb4, Zdu]
 ·rw [if_neg c, if_neg c]
  cases G i j with
  | none => simp [Zb4, c]
  | some b =>
   have : (b - r.fmod m) % m = (b - r) % m := by
    have h1 : m ∣ (b - r.fmod m) - (b - r) := by
     have := Int.mul_fdiv_add_fmod r m
     exact ⟨r.fdiv m, by omega⟩
    exact Int.emod_eq_emod_iff_emod_sub_eq_zero.mpr (Int.emod_eq_zero_of_dvd h1)
   simp [Zb4, Zdu, c, this]
noncomputable def ZfA (n : Nat) (G : Nat → Nat → Option Int) (R : Nat → Int × Int) (F : Nat → Nat → Option Int) (i j : Nat) : Prop := ∀ a b, a < n + 1 → b < n + 1 → ((a < i ∨ (a = i ∧ b < j)) → F a b = ZaQ G R a b ∧ ∀ c, G a b = some c → ZaQ G R a b ≠ none) ∧ (¬ (a < i ∨ (a = i ∧ b < j)) → F a b = G a b)
theorem ZoF {n i j : Nat} {G F : Nat → Nat → Option Int} {R : Nat → Int × Int} (h : ZfA n G R F i j) (e : G i j = ZaQ G R i j) : ZfA n G R F i (j + 1) := fun a b ha hb => by
 obtain ⟨h1, h2⟩ := h a b ha hb
 refine ⟨fun q => ?_, fun q => h2 (by omega)⟩
 by_cases q' : a = i ∧ b = j
 ·obtain ⟨rfl, rfl⟩ := q'
  rw [h2 (by omega)]
  exact ⟨e, fun c hc => by rw [← e, hc]; simp⟩
 ·exact h1 (by omega)
theorem Zmc {n i j : Nat} {G F : Nat → Nat → Option Int} {R : Nat → Int × Int} {v : Int} (h : ZfA n G R F i j) (e : ZaQ G R i j = some v) : ZfA n G R (ZbR F i j (some v)) i (j + 1) := fun a b ha hb => by
 obtain ⟨h1, h2⟩ := h a b ha hb
 by_cases q' : a = i ∧ b = j
 ·obtain ⟨rfl, rfl⟩ := q'
  rw [Zie]
  exact ⟨fun _ => ⟨e.symm, fun c _ => by rw [e]; simp⟩, fun q => by omega⟩
 ·rw [Zgt q']
  exact ⟨fun q => h1 (by omega), fun q => h2 (by omega)⟩
theorem Zre {n k : Nat} {G : Nat → Nat → Option Int} {R : Nat → Int × Int} {M : Int} (hn : n ≤ 100) (hk : k ≤ 7000) (hM : 0 < M) (bM : Bd k M) (hR : ∀ t, t < n → RB M k (R t)) (hd : ∀ i, i < n + 1 → G i i = some 0) : Pk (Zg2 [Z8 (n + 1) G, ZaU n R]) fun t => (t = Z8 (n + 1) (ZaQ G R) ∧ ¬ Zdr n G R) ∨ (t = .none ∧ Zdr n G R) := by
 unfold Zg2 ZjE
 have hF := Zda hR
 have hlz := ZhW (fun i hi => (hF i hi).1) hd
 have hr : ZaU n R = .lst (tab n fun i => prT (R i)) := rfl
 rw [hr]
 walk_at "zz"
 rw [Znp]
 refine ZhD (n := n + 1) (G := G) (by omega) ?_ ?_
 ·walk_at "zz"
  rfl
 walk_at "zz"
 refine ZbK (n := n + 1) (a := fun i => .int i) (P := fun i σ => ∃ F, σ 0 = some (Z8 (n + 1) G) ∧ σ 2 = some (.lst (tab (n + 1) fun i => prT (ZQ R i))) ∧ σ 3 = some (Z8 (n + 1) F) ∧ ZfA n G R F i 0) ?_ ⟨G, by walk_at "zr", by walk_at "zr", by walk_at "zr", fun a b _ _ => ⟨fun q => by omega, fun _ => rfl⟩⟩ ?_ ?_
 ·walk_at "zz"
  rfl
 ·rintro i σ hi ⟨F, e0, e2, e3, lt⟩
  refine ZbK (n := n + 1) (a := fun i => .int i) (P := fun j σ => ∃ F, σ 0 = some (Z8 (n + 1) G) ∧ σ 2 = some (.lst (tab (n + 1) fun i => prT (ZQ R i))) ∧ σ 3 = some (Z8 (n + 1) F) ∧ σ 4 = some (.int i) ∧ ZfA n G R F i j) ?_ ⟨F, by walk_at "zr", by walk_at "zr", by walk_at "zr", by walk_at "zr", lt⟩ ?_ ?_
  ·walk_at "zz"
   rfl
  ·rintro j σ hj ⟨F, e0, e2, e3, e4, lt⟩
   have hi1 := hF i hi
   have hj1 := hF j hj
   have lw := Zvn (G := G) hi1.1 hj1.1
   have f0 : σ 0 = some (.lst (tab (n + 1) fun i => .lst (tab (n + 1) fun j => oT (G i j)))) := e0
   have f3 : σ 3 = some (.lst (tab (n + 1) fun i => .lst (tab (n + 1) fun j => oT (F i j)))) := e3
   have eqi : prT (ZQ R i) = .tup [.int (ZQ R i).1, .int (ZQ R i).2] := rfl
   have eqj : prT (ZQ R j) = .tup [.int (ZQ R j).1, .int (ZQ R j).2] := rfl
   clear e0 e3
   walk_at "zz"
   rw [eqi]
   walk_at "zz"
   rw [eqj]
   walk_at "zz"
   refine ZO (ZsA (ZaW (hi1.bd hM bM).1 (by omega)) (ZaW (hj1.bd hM bM).1 (by omega))) ?_
   walk_at "zz"
   rw [eqi]
   walk_at "zz"
   rw [eqj]
   walk_at "zz"
   have hm0 : (0 : Int) ≤ ((Int.gcd (ZQ R i).1 (ZQ R j).1 : Nat) : Int) := by omega
   generalize ((Int.gcd (ZQ R i).1 (ZQ R j).1 : Nat) : Int) = m at *
   generalize (ZQ R i).2 - (ZQ R j).2 = r at *
   refine ⟨fun c => ?_, fun c => ⟨fun h => (nomatch h), fun _ => ?_⟩⟩
   ·have cne : (i : Int) ≠ j := of_decide_eq_true c
    by_cases cm : m = 0
    ·rw [if_pos cm] at lw
     walk_at "zz"
     cases hg : G i j with
     | none =>
      rw [hg] at lw
      rw [Za6]
      walk_at "zz"
      rw [← Zan (c := r), ZdJ]
      exact ⟨_, by walk_at "zr", by walk_at "zr", by walk_at "zr", by walk_at "zr", Zmc lt lw⟩
     | some b =>
      rw [hg] at lw
      rw [Zan]
      walk_at "zz"
      by_cases cb : b < r
      ·walk_at "zz"
       refine .inr ⟨rfl, i, j, hi, hj, b, hg, ?_⟩
       rw [lw]
       exact if_neg (by omega)
      ·walk_at "zz"
       rw [← Zan (c := r), ZdJ]
       exact ⟨_, by walk_at "zr", by walk_at "zr", by walk_at "zr", by walk_at "zr", Zmc lt (by rw [lw]; exact if_pos (by omega))⟩
    ·rw [if_neg cm] at lw
     walk_at "zz"
     cases hg : G i j with
     | none =>
      rw [hg] at lw
      rw [Za6]
      walk_at "zz"
      exact ⟨F, by walk_at "zr", by walk_at "zr", by walk_at "zr", by walk_at "zr", ZoF lt (by rw [hg, lw])⟩
     | some b =>
      rw [hg] at lw
      rw [Zan]
      walk_at "zz"
      rw [Int.fmod_eq_emod_of_nonneg _ hm0]
      walk_at "zz"
      rw [← Zan (c := b - (b - r) % m), ZdJ]
      exact ⟨_, by walk_at "zr", by walk_at "zr", by walk_at "zr", by walk_at "zr", Zmc lt lw⟩
   ·have ceq : i = j := by
     have := of_decide_eq_false c
     omega
    walk_at "zz"
    subst ceq
    exact ⟨F, by walk_at "zr", by walk_at "zr", by walk_at "zr", by walk_at "zr", ZoF lt (by rw [hd _ hi, hlz _ hi])⟩
  ·rintro σ ⟨F, e0, e2, e3, e4, lt⟩
   exact ⟨F, e0, e2, e3, fun a b ha hb => ⟨fun q => (lt a b ha hb).1 (by omega), fun q => (lt a b ha hb).2 (by omega)⟩⟩
 ·rintro σ ⟨F, e0, e2, e3, lt⟩
  walk_at "zz"
  refine .inl ⟨?_, ?_⟩
  ·unfold Z8 Zar
   congr 1
   refine ZbI fun a ha => ?_
   congr 1
   refine ZbI fun b hb => ?_
   rw [((lt a b ha hb).1 (by omega)).1]
  ·rintro ⟨a, b, ha, hb, c, hc, e⟩
   exact ((lt a b ha hb).1 (by omega)).2 c hc e
end L
namespace L
open PySem PySem.W PyProof.Rows PM TM My
noncomputable def Zb5 (G : Nat → Nat → Option Int) : Nat → List Nat → Nat → Option Int
 | i, [], j => G i j
 | i, k :: l, j => Zai (G i k) (Zb5 G k l j)
theorem ZcT (G : Nat → Nat → Option Int) : ∀ (i : Nat) (l1 : List Nat) (k : Nat) (l2 : List Nat) (j : Nat), Zb5 G i (l1 ++ k :: l2) j = Zai (Zb5 G i l1 k) (Zb5 G k l2 j)
 | i, [], k, l2, j => rfl
 | i, a :: l1, k, l2, j => by
  show Zai (G i a) (Zb5 G a (l1 ++ k :: l2) j) = Zai (Zai (G i a) (Zb5 G a l1 k)) (Zb5 G k l2 j)
  rw [ZcT G a l1 k l2 j, Zf6]
theorem Zpn {n : Nat} {G C : Nat → Nat → Option Int} (hle : ∀ i j, i < n → j < n → leO (C i j) (G i j)) (tri : ∀ k i j, k < n → i < n → j < n → leO (C i j) (Zai (C i k) (C k j))) : ∀ (l : List Nat) (i j : Nat), (∀ a ∈ l, a < n) → i < n → j < n → leO (C i j) (Zb5 G i l j)
 | [], i, j, _, hi, hj => hle i j hi hj
 | k :: l, i, j, hl, hi, hj => by
  have hk := hl k Zz5
  exact Zdq (tri k i j hk hi hj) (Zfb (hle i k hi hk) (Zpn hle tri l k j (fun a m => hl a (Zz2 _ m)) hk hj))
theorem ZgA {n : Nat} {G : Nat → Nat → Option Int} : ∀ (m : Nat), m ≤ n → ∀ i j c, clG G m i j = some c → ∃ l : List Nat, (∀ a ∈ l, a < n) ∧ Zb5 G i l j = some c
 | 0, _, i, j, c, h => ⟨[], by simp, h⟩
 | m + 1, hm, i, j, c, h => by
  rcases Zer (clG G m i j) (Zai (clG G m i m) (clG G m m j)) with e | e
  ·rw [show clG G (m + 1) i j = _ from e] at h
   exact ZgA (n := n) m (by omega) i j c h
  ·rw [show clG G (m + 1) i j = _ from e] at h
   obtain ⟨p, q, h1, h2, h3⟩ := addO_some.mp h
   obtain ⟨l1, a1, b1⟩ := ZgA (n := n) m (by omega) i m p h1
   obtain ⟨l2, a2, b2⟩ := ZgA (n := n) m (by omega) m j q h2
   refine ⟨l1 ++ m :: l2, fun a ha => ?_, by rw [ZcT, b1, b2]; simp [Zai, h3]⟩
   rcases List.mem_append.mp ha with ha | ha
   ·exact a1 a ha
   ·rcases List.mem_cons.mp ha with rfl | ha
    ·omega
    ·exact a2 a ha
theorem Zmd : ∀ (n : Nat) (l : List Nat), l.Nodup → (∀ a ∈ l, a < n) → l.length ≤ n
 | 0, l, _, h => by
  cases l with
  | nil => simp
  | cons a l => exact absurd (h a Zz5) (by omega)
 | n + 1, l, hn, h => by
  have h1 := Zmd n (l.erase n) (hn.erase n) fun a ha => by
   have ha' := List.mem_of_mem_erase ha
   have := h a ha'
   have hne : a ≠ n := fun q => by
    subst q
    exact (List.Nodup.not_mem_erase hn) ha
   omega
  have h2 := List.length_erase_of_mem (a := n) (l := l)
  by_cases q : n ∈ l
  ·have := h2 q; have : 0 < l.length := List.length_pos_of_mem q; omega
  ·rw [List.erase_of_not_mem q] at h1; omega
theorem Zme : ∀ (l : List Nat), ¬ l.Nodup → ∃ k l1 l2 l3, l = l1 ++ k :: (l2 ++ k :: l3)
 | [], h => absurd List.nodup_nil h
 | a :: l, h => by
  by_cases q : a ∈ l
  ·obtain ⟨l2, l3, e⟩ := List.append_of_mem q
   exact ⟨a, [], l2, l3, by rw [e]; rfl⟩
  ·have : ¬ l.Nodup := fun n => h (List.nodup_cons.mpr ⟨q, n⟩)
   obtain ⟨k, l1, l2, l3, e⟩ := Zme l this
   exact ⟨k, a :: l1, l2, l3, by rw [e]; rfl⟩
theorem Zvo {n : Nat} {G : Nat → Nat → Option Int} (pos : ∀ k l s, k < n → (∀ a ∈ l, a < n) → Zb5 G k l k = some s → 0 ≤ s) {i j : Nat} (hi : i < n) (hj : j < n) : ∀ (L : Nat) (l : List Nat) (s : Int), l.length = L → (∀ a ∈ l, a < n) → Zb5 G i l j = some s → ∃ l' s', l'.length + 1 ≤ n ∧ (∀ a ∈ l', a < n) ∧ Zb5 G i l' j = some s' ∧ s' ≤ s := by
 intro L
 induction L using Nat.strongRecOn with
 | _ L ih =>
  intro l s hL hl h
  by_cases q : i ∈ l
  ·obtain ⟨l1, l2, e⟩ := List.append_of_mem q
   subst e
   rw [ZcT] at h
   obtain ⟨p, r, h1, h2, h3⟩ := addO_some.mp h
   have hp := pos i l1 p hi (fun a ha => hl a (Zz4 _ ha)) h1
   obtain ⟨l', s', k1, k2, k3, k4⟩ := ih l2.length (by rw [← hL]; simp; omega) l2 r rfl (fun a ha => hl a (Zz3 _ (Zz2 _ ha))) h2
   exact ⟨l', s', k1, k2, k3, by omega⟩
  ·by_cases nd : l.Nodup
   ·have := Zmd n (i :: l) (List.nodup_cons.mpr ⟨q, nd⟩) (fun a ha => by
     rcases List.mem_cons.mp ha with rfl | ha
     ·exact hi
     ·exact hl a ha)
    exact ⟨l, s, by simpa using this, hl, h, by omega⟩
   ·obtain ⟨k, l1, l2, l3, e⟩ := Zme l nd
    subst e
    rw [ZcT] at h
    obtain ⟨p, r, h1, h2, h3⟩ := addO_some.mp h
    rw [ZcT] at h2
    obtain ⟨p2, r2, h4, h5, h6⟩ := addO_some.mp h2
    have hk : k < n := hl k (by simp)
    have hp := pos k l2 p2 hk (fun a ha => hl a (by simp [ha])) h4
    have h7 : Zb5 G i (l1 ++ k :: l3) j = some (p + r2) := by rw [ZcT, h1, h5]; rfl
    obtain ⟨l', s', k1, k2, k3, k4⟩ := ih (l1 ++ k :: l3).length (by rw [← hL]; simp; omega) (l1 ++ k :: l3) (p + r2) rfl (fun a ha => hl a (by simp at ha ⊢; rcases ha with h | h | h <;> simp [h])) h7
    exact ⟨l', s', k1, k2, k3, by omega⟩
theorem ZsI {n : Nat} {G : Nat → Nat → Option Int} : ∀ (L : Nat) (i : Nat) (l : List Nat) (s : Int), l.length = L → i < n → (∀ a ∈ l, a < n) → Zb5 G i l i = some s → s < 0 → ∃ i' l' s', l'.length + 1 ≤ n ∧ i' < n ∧ (∀ a ∈ l', a < n) ∧ Zb5 G i' l' i' = some s' ∧ s' < 0 := by
 intro L
 induction L using Nat.strongRecOn with
 | _ L ih =>
  intro i l s hL hi hl h hs
  by_cases q : i ∈ l
  ·obtain ⟨l1, l2, e⟩ := List.append_of_mem q
   subst e
   rw [ZcT] at h
   obtain ⟨p, r, h1, h2, h3⟩ := addO_some.mp h
   by_cases hp : p < 0
   ·exact ih l1.length (by rw [← hL]; simp) i l1 p rfl hi (fun a ha => hl a (Zz4 _ ha)) h1 hp
   ·exact ih l2.length (by rw [← hL]; simp; omega) i l2 r rfl hi (fun a ha => hl a (Zz3 _ (Zz2 _ ha))) h2 (by omega)
  ·by_cases nd : l.Nodup
   ·have := Zmd n (i :: l) (List.nodup_cons.mpr ⟨q, nd⟩) (fun a ha => by
     rcases List.mem_cons.mp ha with rfl | ha
     ·exact hi
     ·exact hl a ha)
    exact ⟨i, l, s, by simpa using this, hi, hl, h, hs⟩
   ·obtain ⟨k, l1, l2, l3, e⟩ := Zme l nd
    subst e
    rw [ZcT] at h
    obtain ⟨p, r, h1, h2, h3⟩ := addO_some.mp h
    rw [ZcT] at h2
    obtain ⟨p2, r2, h4, h5, h6⟩ := addO_some.mp h2
    have hk : k < n := hl k (by simp)
    by_cases hp : p2 < 0
    ·exact ih l2.length (by rw [← hL]; simp; omega) k l2 p2 rfl hk (fun a ha => hl a (by simp [ha])) h4 hp
    ·have h7 : Zb5 G i (l1 ++ k :: l3) i = some (p + r2) := by rw [ZcT, h1, h5]; rfl
     exact ih (l1 ++ k :: l3).length (by rw [← hL]; simp; omega) i (l1 ++ k :: l3) (p + r2) rfl hi (fun a ha => hl a (by simp at ha ⊢; rcases ha with h | h | h <;> simp [h])) h7 (by omega)
noncomputable def ZeH (n r : Nat) (G D : Nat → Nat → Option Int) : Prop := (∀ i j, i < n → j < n → ∀ c, D i j = some c → ∃ l : List Nat, (∀ a ∈ l, a < n) ∧ Zb5 G i l j = some c) ∧ ∀ (l : List Nat) i j, l.length + 1 ≤ r → (∀ a ∈ l, a < n) → i < n → j < n → leO (D i j) (Zb5 G i l j)
theorem Zuk {n : Nat} {G : Nat → Nat → Option Int} : ZeH n 1 G G := ⟨fun i j _ _ c h => ⟨[], by simp, h⟩, fun l i j h _ _ _ => by
 have : l = [] := List.length_eq_zero_iff.mp (by omega)
 subst this
 exact ZcS⟩
noncomputable def ZqK (n : Nat) (D D' : Nat → Nat → Option Int) : Prop := ∀ i j, i < n → j < n → leO (D' i j) (D i j) ∧ (∀ k, k < n → leO (D' i j) (Zai (D i k) (D k j))) ∧ (D' i j = D i j ∨ ∃ k, k < n ∧ D' i j = Zai (D i k) (D k j))
theorem ZsJ {n r : Nat} {G D D' : Nat → Nat → Option Int} (h : ZeH n r G D) (t : ZqK n D D') : ZeH n (2 * r) G D' := by
 refine ⟨fun i j hi hj c e => ?_, fun l i j hl ha hi hj => ?_⟩
 ·obtain ⟨_, _, e1 | ⟨k, hk, e1⟩⟩ := t i j hi hj
  ·rw [e1] at e; exact h.1 i j hi hj c e
  ·rw [e1] at e
   obtain ⟨p, q, h1, h2, h3⟩ := addO_some.mp e
   obtain ⟨l1, a1, b1⟩ := h.1 i k hi hk p h1
   obtain ⟨l2, a2, b2⟩ := h.1 k j hk hj q h2
   refine ⟨l1 ++ k :: l2, fun a ha => ?_, by rw [ZcT, b1, b2]; simp [Zai, h3]⟩
   rcases List.mem_append.mp ha with ha | ha
   ·exact a1 a ha
   ·rcases List.mem_cons.mp ha with rfl | ha
    ·exact hk
    ·exact a2 a ha
 ·obtain ⟨t1, t2, _⟩ := t i j hi hj
  by_cases q : l.length + 1 ≤ r
  ·exact Zdq t1 (h.2 l i j q ha hi hj)
  ·have hr : 1 ≤ r := by omega
   have hlt : r - 1 < l.length := by omega
   obtain ⟨k, l1, l2, e, hl1⟩ : ∃ k l1 l2, l = l1 ++ k :: l2 ∧ l1.length = r - 1 := ⟨l[r - 1], l.take (r - 1), l.drop r, by
    have e1 := (List.take_append_drop (r - 1) l).symm
    rw [List.drop_eq_getElem_cons hlt, show r - 1 + 1 = r by omega] at e1
    exact e1, by simp; omega⟩
   subst e
   have hk : k < n := ha k (by simp)
   rw [ZcT]
   refine Zdq (t2 k hk) (Zfb (h.2 l1 i k (by omega) (fun a m => ha a (Zz4 _ m)) hi hk) (h.2 l2 k j ?_ (fun a m => ha a (Zz3 _ (Zz2 _ m))) hk hj))
   simp at hl
   omega
theorem ZsK {n r : Nat} {G D : Nat → Nat → Option Int} (hd : ∀ i, i < n → G i i = some 0) (hr : n ≤ r) (b : ZeH n r G D) (nn : ∀ m, m < n → ¬ Neg n (clG G (m + 1))) : ∀ i j, i < n → j < n → D i j = clG G n i j := by
 intro i j hi hj
 have low := Zpn (n := n) (G := G) (C := clG G n) (fun i j _ _ => Znn n i j) (fun k i j hk hi hj => Znd hd n (by omega) nn k hk i j hi hj)
 have zero := Zes hd (m := n) nn
 have pos : ∀ k l s, k < n → (∀ a ∈ l, a < n) → Zb5 G k l k = some s → 0 ≤ s := fun k l s hk hl e => by
  have := low l k k hl hk hk
  rw [zero k hk, e] at this
  exact leO_some.mp this
 refine ZrS ?_ ?_
 ·intro c e
  obtain ⟨l, h1, h2⟩ := ZgA n (Nat.le_refl n) i j c e
  obtain ⟨l', s', k1, k2, k3, k4⟩ := Zvo pos hi hj _ l c rfl h1 h2
  have := b.2 l' i j (by omega) k2 hi hj
  rw [k3] at this
  obtain ⟨x, e1, e2⟩ := this s' rfl
  exact ⟨x, e1, by omega⟩
 ·intro c e
  obtain ⟨l, h1, h2⟩ := b.1 i j hi hj c e
  have := low l i j h1 hi hj
  rw [h2] at this
  exact this c rfl
theorem Ztv {n r m : Nat} {G D : Nat → Nat → Option Int} (hr : n ≤ r) (b : ZeH n r G D) (hm : m < n) (ng : Neg n (clG G (m + 1))) : Neg n D := by
 obtain ⟨i, hi, c, e, hc⟩ := ng
 obtain ⟨l, h1, h2⟩ := ZgA (n := n) (m + 1) (by omega) i i c e
 obtain ⟨i', l', s', k1, k2, k3, k4, k5⟩ := ZsI _ i l c rfl hi h1 h2 hc
 have := b.2 l' i' i' (by omega) k3 k2 k2
 rw [k4] at this
 obtain ⟨x, e1, e2⟩ := this s' rfl
 exact ⟨i', k2, x, e1, by omega⟩
end L
namespace L
open PySem PySem.W PyProof.Rows PM TM My
noncomputable def Zdw (n : Nat) (D F : Nat → Nat → Option Int) (done : Nat → Nat → Nat → Prop) : Prop := ∀ a b, a < n → b < n → leO (F a b) (D a b) ∧ (F a b = D a b ∨ ∃ k, k < n ∧ F a b = Zai (D a k) (D k b)) ∧ ∀ k, k < n → done a b k → leO (F a b) (Zai (D a k) (D k b))
theorem Zmf {n i j k : Nat} {D F : Nat → Nat → Option Int} {done done' : Nat → Nat → Nat → Prop} (h : Zdw n D F done) (hd : ∀ a b c, c < n → done' a b c → done a b c ∨ (a = i ∧ b = j ∧ c = k)) (hl : leO (F i j) (Zai (D i k) (D k j))) : Zdw n D F done' := fun a b ha hb => by
 obtain ⟨h1, h2, h3⟩ := h a b ha hb
 refine ⟨h1, h2, fun c hc q => ?_⟩
 rcases hd a b c hc q with q | ⟨rfl, rfl, rfl⟩
 ·exact h3 c hc q
 ·exact hl
theorem Zul {n i j k : Nat} {D F : Nat → Nat → Option Int} {done done' : Nat → Nat → Nat → Prop} (h : Zdw n D F done) (hi : i < n) (hj : j < n) (hk : k < n) (hd : ∀ a b c, c < n → done' a b c → done a b c ∨ (a = i ∧ b = j ∧ c = k)) (hl : leO (Zai (D i k) (D k j)) (F i j)) : Zdw n D (ZbR F i j (Zai (D i k) (D k j))) done' := fun a b ha hb => by
 by_cases q : a = i ∧ b = j
 ·obtain ⟨rfl, rfl⟩ := q
  obtain ⟨h1, h2, h3⟩ := h a b ha hb
  rw [Zie]
  refine ⟨Zdq hl h1, .inr ⟨k, hk, rfl⟩, fun c hc q => ?_⟩
  rcases hd a b c hc q with q | ⟨_, _, rfl⟩
  ·exact Zdq hl (h3 c hc q)
  ·exact ZcS
 ·rw [Zgt q]
  obtain ⟨h1, h2, h3⟩ := h a b ha hb
  refine ⟨h1, h2, fun c hc q' => ?_⟩
  rcases hd a b c hc q' with q' | ⟨rfl, rfl, _⟩
  ·exact h3 c hc q'
  ·exact absurd ⟨rfl, rfl⟩ q
theorem Zgd {n : Nat} {D F : Nat → Nat → Option Int} {done done' : Nat → Nat → Nat → Prop} (h : Zdw n D F done) (hd : ∀ a b c, a < n → b < n → c < n → done' a b c → done a b c) : Zdw n D F done' := fun a b ha hb => by
 obtain ⟨h1, h2, h3⟩ := h a b ha hb
 exact ⟨h1, h2, fun c hc q => h3 c hc (hd a b c ha hb hc q)⟩
theorem ZsL {n : Nat} {D F : Nat → Nat → Option Int} (h : Zdw n D F fun _ _ _ => True) : ZqK n D F := fun a b ha hb => by
 obtain ⟨h1, h2, h3⟩ := h a b ha hb
 exact ⟨h1, fun k hk => h3 k hk trivial, h2⟩
theorem Zry {n : Nat} {G : Nat → Nat → Option Int} (h0 : 0 < n) (hn : n ≤ 100) (hd : ∀ i, i < n → G i i = some 0) : Pk (ZeI [Z8 n G]) fun t => ∃ r D, n ≤ r ∧ ZeH n r G D ∧ ((t = Z8 n D ∧ ¬ Neg n D) ∨ (t = .none ∧ Neg n D)) := by
 unfold ZeI ZiO
 have hg : Z8 n G = .lst (tab n fun i => Zar n (G i)) := rfl
 walk_at "zz"
 rw [hg]
 walk_at "zz"
 refine ZhD (n := n) (G := G) (by omega) ?_ ?_
 ·walk_at "zz"
  rfl
 walk_at "zz"
 refine Zff (fun m σ => ∃ (r : Nat) (D : Nat → Nat → Option Int), σ 1 = some (.int n) ∧ σ 2 = some (Z8 n D) ∧ σ 3 = some (.int r) ∧ ZeH n r G D ∧ 1 ≤ r ∧ r ≤ 2 * n ∧ m = 2 * n - r) _ _ ?_ 1000000 (m := 2 * n - 1) ⟨1, G, by walk_at "zr", by walk_at "zr", by walk_at "zr", Zuk, by omega, by omega, rfl⟩ (by omega)
 rintro m σ ⟨r, D, e1, e2, e3, bs, r1, r2, rfl⟩
 have hdD : ∀ i, i < n → ∃ b, D i i = some b := fun i hi => by
  have := bs.2 [] i i (by simpa using r1) (by simp) hi hi
  rw [show Zb5 G i [] i = some 0 from hd i hi] at this
  obtain ⟨x, e, _⟩ := this 0 rfl
  exact ⟨x, e⟩
 walk_at "zz"
 refine ⟨fun c => ?_, fun c => ?_⟩
 ·have hrn : r < n := by simpa using c
  walk_at "zz"
  refine ZhD (n := n) (G := D) (by omega) ?_ ?_
  ·walk_at "zz"
   rfl
  walk_at "zz"
  refine ZbK (n := n) (a := fun i => .int i) (P := fun i σ => ∃ F, σ 1 = some (.int n) ∧ σ 2 = some (Z8 n F) ∧ σ 3 = some (.int r) ∧ σ 4 = some (Z8 n D) ∧ Zdw n D F fun a _ _ => a < i) ?_ ⟨D, by walk_at "zr", by walk_at "zr", by walk_at "zr", by walk_at "zr", fun a b _ _ => ⟨ZcS, .inl rfl, fun k _ q => by omega⟩⟩ ?_ ?_
  ·walk_at "zz"
   rfl
  ·rintro i σ hi ⟨F0, f1, f2, f3, f4, pt⟩
   refine ZbK (n := n) (a := fun i => .int i) (P := fun j σ => ∃ F, σ 1 = some (.int n) ∧ σ 2 = some (Z8 n F) ∧ σ 3 = some (.int r) ∧ σ 4 = some (Z8 n D) ∧ σ 5 = some (.int i) ∧ Zdw n D F fun a b _ => a < i ∨ (a = i ∧ b < j)) ?_ ⟨F0, by walk_at "zr", by walk_at "zr", by walk_at "zr", by walk_at "zr", by walk_at "zr", Zgd pt fun a b c _ _ _ q => by omega⟩ ?_ ?_
   ·walk_at "zz"
    rfl
   ·rintro j σ hj ⟨F1, f1, f2, f3, f4, f5, pt⟩
    refine ZbK (n := n) (a := fun i => .int i) (P := fun k σ => ∃ F, σ 1 = some (.int n) ∧ σ 2 = some (Z8 n F) ∧ σ 3 = some (.int r) ∧ σ 4 = some (Z8 n D) ∧ σ 5 = some (.int i) ∧ σ 6 = some (.int j) ∧ Zdw n D F fun a b c => a < i ∨ (a = i ∧ (b < j ∨ (b = j ∧ c < k)))) ?_ ⟨F1, by walk_at "zr", by walk_at "zr", by walk_at "zr", by walk_at "zr", by walk_at "zr", by walk_at "zr", Zgd pt fun a b c _ _ _ q => by omega⟩ ?_ ?_
    ·walk_at "zz"
     rfl
    ·rintro k σ hk ⟨F, f1, f2, f3, f4, f5, f6, pt⟩
     have hdn : ∀ a b c, c < n → (a < i ∨ (a = i ∧ (b < j ∨ (b = j ∧ c < k + 1)))) → (a < i ∨ (a = i ∧ (b < j ∨ (b = j ∧ c < k)))) ∨ (a = i ∧ b = j ∧ c = k) := fun a b c _ q => by omega
     have f2' := f2
     unfold Z8 Zar at f2 f4
     walk_at "zz"
     cases hik : D i k with
     | none =>
      rw [Za6]
      walk_at "zz"
      exact ⟨F, by walk_at "zr", by walk_at "zr", by walk_at "zr", by walk_at "zr", by walk_at "zr", by walk_at "zr", Zmf pt hdn (by rw [hik]; exact Zc9)⟩
     | some p =>
      rw [Zan]
      walk_at "zz"
      cases hkj : D k j with
      | none =>
       rw [Za6]
       walk_at "zz"
       exact ⟨F, by walk_at "zr", by walk_at "zr", by walk_at "zr", by walk_at "zr", by walk_at "zr", by walk_at "zr", Zmf pt hdn (by rw [hik, hkj]; exact Zc9)⟩
      | some q =>
       rw [Zan]
       walk_at "zz"
       rw [hik, hkj, Zan, Zan]
       have hs : Zai (D i k) (D k j) = some (p + q) := by rw [hik, hkj]; rfl
       have hset := Zul pt hi hj hk hdn
       have hkeep := Zmf pt hdn
       rw [hs] at hset hkeep
       clear f2'
       walk_at "zz"
       cases hij : F i j with
       | none =>
        rw [Za6]
        walk_at "zz"
        rw [← Zan (c := p + q), ZdJ]
        exact ⟨_, by walk_at "zr", by walk_at "zr", by walk_at "zr", by walk_at "zr", by walk_at "zr", by walk_at "zr", hset (by rw [hij]; exact Zc9)⟩
       | some g =>
        rw [Zan]
        walk_at "zz"
        rw [hij, Zan]
        walk_at "zz"
        by_cases hlt : p + q < g
        ·walk_at "zz"
         rw [← Zan (c := p + q), ZdJ]
         exact ⟨_, by walk_at "zr", by walk_at "zr", by walk_at "zr", by walk_at "zr", by walk_at "zr", by walk_at "zr", hset (by rw [hij]; exact leO_some.mpr (by omega))⟩
        ·walk_at "zz"
         exact ⟨F, by walk_at "zr", by walk_at "zr", by walk_at "zr", by walk_at "zr", by walk_at "zr", by walk_at "zr", hkeep (by rw [hij]; exact leO_some.mpr (by omega))⟩
    ·rintro σ ⟨F, f1, f2, f3, f4, f5, f6, pt⟩
     exact ⟨F, f1, f2, f3, f4, f5, Zgd pt fun a b c _ _ hc q => by omega⟩
   ·rintro σ ⟨F, f1, f2, f3, f4, f5, pt⟩
    exact ⟨F, f1, f2, f3, f4, Zgd pt fun a b c _ hb _ q => by omega⟩
  ·rintro σ ⟨F, f1, f2, f3, f4, pt⟩
   walk_at "zz"
   refine ZpR (by decide) (by decide) ?_
   walk_at "zz"
   exact ⟨2 * n - 2 * r, by omega, 2 * r, F, by walk_at "zr", by walk_at "zr", by rw [show ((2 * r : Nat) : Int) = 2 * (r : Int) by omega]; walk_at "zr", ZsJ bs (ZsL (Zgd pt fun a b c ha _ _ _ => ha)), by omega, by omega, rfl⟩
 ·have hrn : n ≤ r := by simp at c; omega
  refine Zgu ?_
  refine ZbK (n := n) (a := fun i => .int i) (P := fun i σ => σ 2 = some (Z8 n D) ∧ ∀ a, a < i → ∀ b, D a a = some b → 0 ≤ b) ?_ ⟨e2, by omega⟩ ?_ ?_
  ·walk_at "zz"
   rfl
  ·rintro i σ hi ⟨f2, f3⟩
   unfold Z8 Zar at f2
   obtain ⟨b, eb⟩ := hdD i hi
   walk_at "zz"
   rw [eb, Zan]
   walk_at "zz"
   by_cases hb : b < 0
   ·walk_at "zz"
    exact ⟨r, D, hrn, bs, .inr ⟨rfl, i, hi, b, eb, hb⟩⟩
   ·walk_at "zz"
    refine ⟨by walk_at "zr", fun a ha c hc => ?_⟩
    by_cases q : a = i
    ·subst q; rw [eb] at hc; cases hc; omega
    ·exact f3 a (by omega) c hc
  ·rintro σ ⟨f2, f3⟩
   walk_at "zz"
   refine ⟨r, D, hrn, bs, .inl ⟨rfl, ?_⟩⟩
   rintro ⟨i, hi, b, eb, hb⟩
   have := f3 i hi b eb
   omega
end L
namespace L
open PySem PySem.W PyProof.Rows PM TM My
theorem ZpW {n : Nat} {G : Nat → Nat → Option Int} (hn : n ≤ 99) (hd : ∀ i, i < n + 1 → G i i = some 0) : Pk (ZeI [Z8 (n + 1) G]) fun t => (t = Z8 (n + 1) (clG G (n + 1)) ∧ ¬ Zce (n + 1) G) ∨ (t = .none ∧ Zce (n + 1) G) := by
 refine (Zry (by omega) (by omega) hd).mono ?_
 rintro t ⟨r, D, hr, bs, h⟩
 by_cases hc : Zce (n + 1) G
 ·obtain ⟨m, hm, ng⟩ := hc
  have ng2 := Ztv hr bs hm ng
  rcases h with ⟨_, h⟩ | ⟨h, _⟩
  ·exact absurd ng2 h
  ·exact .inr ⟨h, m, hm, ng⟩
 ·have nn : ∀ m, m < n + 1 → ¬ Neg (n + 1) (clG G (m + 1)) := fun m hm q => hc ⟨m, hm, q⟩
  have same := ZsK hd hr bs nn
  have hz := Zes hd nn
  rcases h with ⟨h, _⟩ | ⟨_, i, hi, b, e, hb⟩
  ·refine .inl ⟨?_, hc⟩
   rw [h]
   unfold Z8 Zar
   congr 1
   refine ZbI fun i hi => ?_
   congr 1
   refine ZbI fun j hj => ?_
   rw [same i j hi hj]
  ·rw [same i i hi hi, hz i hi] at e
   cases e
   omega
theorem ZrV {n k : Nat} {G : Nat → Nat → Option Int} {R : Nat → Int × Int} {M : Int} (hn : n ≤ 99) (hk : k + 2 * n + 4 ≤ 7000) (hM : 0 < M) (bM : Bd k M) (hd : ∀ i, i < n + 1 → G i i = some 0) (bG : BdG (n + 1) k G) (hR : ∀ t, t < n → RB M k (R t)) : Pk (ZeT [Z5 n G R]) fun t => (∃ G2 R2, t = Z5 n G2 R2 ∧ Sharp n G R G2 R2 M (k + 2 * n + 5)) ∨ (t = .none ∧ Zfc n G R M (k + n + 2)) := by
 unfold ZeT ZkA
 have ht : Z5 n G R = .tup [Z8 (n + 1) G, ZaU n R] := rfl
 have hg : ∀ G, Z8 (n + 1) G = .lst (tab (n + 1) fun i => Zar (n + 1) (G i)) := fun _ => rfl
 have hr : ∀ R, ZaU n R = .lst (tab n fun i => prT (R i)) := fun _ => rfl
 rw [ht]
 walk_at "zz"
 refine (ZpW hn hd).mono ?_
 rintro t (⟨rfl, nr⟩ | ⟨rfl, h⟩)
 ·rw [hg (clG G (n + 1))]
  walk_at "zz"
  rw [← hg (clG G (n + 1))]
  refine (ZnR (k := k + n + 1) (by omega) (by omega) hM (bM.mono (by omega)) (Zd6 bG (n + 1) (by omega)) (fun t ht => (hR t ht).mono (by omega))).mono ?_
  rintro t (⟨R1, rfl, h1⟩ | ⟨rfl, h⟩)
  ·have hR1 : ∀ t, t < n → RB M (k + n + 2) (R1 t) := fun t ht => (h1 t ht).1
   have hF1 := Zda hR1
   have z1 := Zes hd (m := n + 1) fun m hm q => nr ⟨m, hm, q⟩
   rw [hr R1]
   walk_at "zz"
   rw [← hr R1]
   refine (Zre (k := k + n + 2) (by omega) (by omega) hM (bM.mono (by omega)) hR1 z1).mono ?_
   rintro t (⟨rfl, nl⟩ | ⟨rfl, fl⟩)
   ·have bG1 : BdG (n + 1) (k + n + 3) (ZaQ (clG G (n + 1)) R1) := Zne hM (bM.mono (by omega)) (fun a b c ha hb e => (Zd6 bG (n + 1) (by omega) a b c ha hb e).mono (by omega)) hR1
    have z2 := ZhW (fun i hi => (hF1 i hi).1) z1
    rw [hg (ZaQ (clG G (n + 1)) R1)]
    walk_at "zz"
    rw [← hg (ZaQ (clG G (n + 1)) R1)]
    refine (ZpW hn z2).mono ?_
    rintro t (⟨rfl, nr2⟩ | ⟨rfl, h2⟩)
    ·rw [hg (clG (ZaQ (clG G (n + 1)) R1) (n + 1))]
     walk_at "zz"
     rw [← hg (clG (ZaQ (clG G (n + 1)) R1) (n + 1))]
     refine (ZnR (k := k + n + 3 + n + 1) (by omega) (by omega) hM (bM.mono (by omega)) (fun a b c ha hb e => Zd6 bG1 (n + 1) (by omega) a b c ha hb e) (fun t ht => (hR1 t ht).mono (by omega))).mono ?_
     rintro t (⟨R2, rfl, h2⟩ | ⟨rfl, h2⟩)
     ·rw [hr R2]
      walk_at "zz"
      exact .inl ⟨_, R2, rfl, ⟨R1, nr, h1.mono (by omega), nl, nr2, rfl, h2.mono (by omega)⟩⟩
     ·walk_at "zz"
      exact .inr ⟨rfl, .inr (.inr ⟨R1, nr, h1, .inr ⟨nl, .inr ⟨nr2, h2⟩⟩⟩)⟩
    ·walk_at "zz"
     exact .inr ⟨rfl, .inr (.inr ⟨R1, nr, h1, .inr ⟨nl, .inl h2⟩⟩)⟩
   ·walk_at "zz"
    exact .inr ⟨rfl, .inr (.inr ⟨R1, nr, h1, .inl fl⟩)⟩
  ·walk_at "zz"
   exact .inr ⟨rfl, .inr (.inl ⟨nr, h⟩)⟩
 ·walk_at "zz"
  exact .inr ⟨rfl, .inl h⟩
end L
namespace L
open PySem PySem.W PyProof.Rows PM TM My
noncomputable def SameG (n : Nat) (A B : Nat → Nat → Option Int) : Prop := ∀ i j, i < n → j < n → A i j = B i j
theorem Zif {n : Nat} {A B : Nat → Nat → Option Int} (h : SameG n A B) : ∀ m, m ≤ n → SameG n (clG A m) (clG B m)
 | 0, _ => h
 | m + 1, hm => fun i j hi hj => by
  have ih := Zif h m (by omega)
  show ZaT (clG A m i j) (Zai (clG A m i m) (clG A m m j)) = ZaT (clG B m i j) (Zai (clG B m i m) (clG B m m j))
  rw [ih i j hi hj, ih i m hi (by omega), ih m j (by omega) hj]
theorem Ztw {n : Nat} {A B : Nat → Nat → Option Int} (h : SameG n A B) (r : Zce n A) : Zce n B := by
 obtain ⟨m, hm, i, hi, b, e, hb⟩ := r
 exact ⟨m, hm, i, hi, b, by rw [← Zif h (m + 1) (by omega) i i hi hi]; exact e, hb⟩
noncomputable def SameR (n : Nat) (R S : Nat → Int × Int) : Prop := ∀ t, t < n → R t = S t
theorem ZhP {n : Nat} {R S : Nat → Int × Int} (h : SameR n R S) : ∀ i, i < n + 1 → ZQ R i = ZQ S i
 | 0, _ => rfl
 | i + 1, hi => h i (by omega)
theorem ZmA {n : Nat} {A B : Nat → Nat → Option Int} {R S : Nat → Int × Int} (h : SameG (n + 1) A B) (hr : SameR n R S) : SameG (n + 1) (ZaQ A R) (ZaQ B S) := fun i j hi hj => by
 unfold ZaQ Zbs
 rw [h i j hi hj, ZhP hr i hi, ZhP hr j hj]
theorem ZrW {n : Nat} {A B : Nat → Nat → Option Int} {R S : Nat → Int × Int} (h : SameG (n + 1) A B) (hr : SameR n R S) (q : Zdr n A R) : Zdr n B S := by
 obtain ⟨i, j, hi, hj, b, e, l⟩ := q
 exact ⟨i, j, hi, hj, b, by rw [← h i j hi hj]; exact e, by rw [← ZmA h hr i j hi hj]; exact l⟩
theorem Zkd {n i : Nat} {A B : Nat → Nat → Option Int} {R S : Nat → Int × Int} (h : SameG (n + 1) A B) (hr : SameR n R S) (hi : i < n + 1) {x : Int} (q : ZcK n A R i (n + 1) x) : ZcK n B S i (n + 1) x := by
 refine ⟨by rw [← ZhP hr i hi]; exact q.1, fun j hj a b ha hb hab => ?_⟩
 rw [← ZhP hr j hj]
 exact q.2 j hj a b (by rw [h i j hi hj]; exact ha) (by rw [h j i hj hi]; exact hb) hab
theorem SameG.symm {n : Nat} {A B : Nat → Nat → Option Int} (h : SameG n A B) : SameG n B A := fun i j hi hj => (h i j hi hj).symm
theorem SameR.symm {n : Nat} {A B : Nat → Int × Int} (h : SameR n A B) : SameR n B A := fun i hi => (h i hi).symm
theorem Zmg {n : Nat} {A B : Nat → Nat → Option Int} {R S R' S' : Nat → Int × Int} {M M' : Int} {k k' : Nat} (h : SameG (n + 1) A B) (hr : SameR n R S) (a : Hand n A R R' M k) (b : Hand n B S S' M' k') : SameR n R' S' := fun t ht =>
 ZkP (a t ht).1.1 (b t ht).1.1 fun x => ((a t ht).2 x).trans (Iff.trans ⟨Zkd h hr (by omega), Zkd h.symm hr.symm (by omega)⟩ ((b t ht).2 x).symm)
theorem ZoT {n : Nat} {A B : Nat → Nat → Option Int} {R S R' : Nat → Int × Int} {M : Int} {k : Nat} (h : SameG (n + 1) A B) (hr : SameR n R S) (a : Hand n A R R' M k) : ¬ Zfi n B S := by
 rintro ⟨i, hi, q⟩
 exact q _ (Zkd h hr (by omega) (((a i hi).2 _).mp (a i hi).1.1.self))
theorem Ze2 {n : Nat} {A : Nat → Nat → Option Int} : SameG n A A := fun _ _ _ _ => rfl
theorem ZlB {n : Nat} {A : Nat → Int × Int} : SameR n A A := fun _ _ => rfl
theorem Ztx {n : Nat} {A B : Nat → Nat → Option Int} {R S : Nat → Int × Int} (h : SameG (n + 1) A B) (hr : SameR n R S) : Z5 n A R = Z5 n B S := by
 unfold Z5 Z8 ZaU Zar
 have e1 : (tab (n + 1) fun i => T.lst (tab (n + 1) fun j => oT (A i j))) = tab (n + 1) fun i => T.lst (tab (n + 1) fun j => oT (B i j)) := ZbI fun i hi => by
  congr 1
  exact ZbI fun j hj => by rw [h i j hi hj]
 have e2 : (tab n fun i => prT (R i)) = tab n fun i => prT (S i) := ZbI fun i hi => by rw [hr i hi]
 rw [e1, e2]
theorem ZsM {n : Nat} {G G2 G2' : Nat → Nat → Option Int} {R R2 R2' : Nat → Int × Int} {M M' : Int} {k k' : Nat} (a : Sharp n G R G2 R2 M k) (b : Sharp n G R G2' R2' M' k') : Z5 n G2 R2 = Z5 n G2' R2' := by
 obtain ⟨R1, a1, a2, a3, a4, rfl, a6⟩ := a.go
 obtain ⟨S1, b1, b2, b3, b4, rfl, b6⟩ := b.go
 have r1 := Zmg Ze2 ZlB a2 b2
 have g2 := Zif (ZmA (A := clG G (n + 1)) Ze2 r1) (n + 1) (by omega)
 exact Ztx g2 (Zmg g2 r1 a6 b6)
theorem ZoU {n : Nat} {G G2 : Nat → Nat → Option Int} {R R2 : Nat → Int × Int} {M M' : Int} {k k' : Nat} (a : Sharp n G R G2 R2 M k) (b : Zfc n G R M' k') : False := by
 obtain ⟨R1, a1, a2, a3, a4, rfl, a6⟩ := a.go
 rcases b with b | ⟨_, b⟩ | ⟨S1, b1, b2, b⟩
 ·exact a1 b
 ·exact ZoT Ze2 ZlB a2 b
 ·have r1 := Zmg Ze2 ZlB a2 b2
  have g1 := ZmA (A := clG G (n + 1)) Ze2 r1
  rcases b with b | ⟨_, b | ⟨_, b⟩⟩
  ·exact a3 (ZrW Ze2 r1.symm b)
  ·exact a4 (Ztw g1.symm b)
  ·exact ZoT (Zif g1 (n + 1) (by omega)) r1 a6 b
theorem ZsN {n k : Nat} {G : Nat → Nat → Option Int} {R : Nat → Int × Int} {M : Int} {t u : T} (h : (∃ G2 R2, t = Z5 n G2 R2 ∧ Sharp n G R G2 R2 M (k + 2 * n + 5)) ∨ (t = .none ∧ Zfc n G R M (k + n + 2))) (h' : (∃ G2 R2, u = Z5 n G2 R2 ∧ Sharp n G R G2 R2 M (k + 2 * n + 5)) ∨ (u = .none ∧ Zfc n G R M (k + n + 2))) : t = u := by
 rcases h with ⟨A, B, rfl, h⟩ | ⟨rfl, h⟩
 ·rcases h' with ⟨C, D, rfl, h'⟩ | ⟨rfl, h'⟩
  ·exact ZsM h h'
  ·exact absurd h' fun q => ZoU h q
 ·rcases h' with ⟨C, D, rfl, h'⟩ | ⟨rfl, h'⟩
  ·exact absurd h fun q => ZoU h' q
  ·rfl
end L
namespace L
open PySem PySem.W PyProof.Rows PM TM My
theorem ZsO {n : Nat} {G : Nat → Nat → Option Int} {R : Nat → Int × Int} (hn : n ≤ 100) (hd : ∀ i, i < n + 1 → G i i = some 0) (ok : ∀ t, t < n → RestOk (R t)) : Zhn [Z5 n G R, .int n] = some (.bool true) := by
 apply Pk.eq
 unfold Zhn ZkD Z5 ZaU
 walk_at "zz"
 rw [show (n : Int) + 1 = ((n + 1 : Nat) : Int) by omega]
 refine ZO (Zvh (by omega) hd) ?_
 walk_at "zz"
 refine ZbK (n := n) (a := fun i => prT (R i)) (P := fun _ _ => True) ?_ trivial ?_ ?_
 ·walk_at "zz"
  rfl
 ·rintro t σ ht _
  have ho := ok t ht
  unfold prT
  walk_at "zz"
  refine ZO Zl8 ?_
  walk_at "zz"
  refine ZO Zl8 ?_
  walk_at "zz"
  have h0 := ho.nn
  walk_at "zz"
  rcases ho with h | h
  ·walk_at "zz"
   trivial
  ·walk_at "zz"
   trivial
 ·rintro σ _
  walk_at "zz"
  rfl
theorem ZsP {n k : Nat} {G G2 : Nat → Nat → Option Int} {R R2 : Nat → Int × Int} {M : Int} (hd : ∀ i, i < n + 1 → G i i = some 0) (s : Sharp n G R G2 R2 M k) : (∀ i, i < n + 1 → G2 i i = some 0) ∧ ∀ k, k < n + 1 → ∀ i j, i < n + 1 → j < n + 1 → leO (G2 i j) (Zai (G2 i k) (G2 k j)) := by
 obtain ⟨R1, h1, h2, h3, h4, rfl, h6⟩ := s.go
 have hF := Zda fun t ht => (h2 t ht).1
 have z1 := Zes hd (m := n + 1) fun m hm q => h1 ⟨m, hm, q⟩
 have z2 := ZhW (fun i hi => (hF i hi).1) z1
 exact ⟨Zes z2 fun m hm q => h4 ⟨m, hm, q⟩, Znd z2 (n + 1) (by omega) fun m hm q => h4 ⟨m, hm, q⟩⟩
noncomputable def ZdM (R : Nat → Int × Int) : Nat → Int
 | 0 => 1
 | t + 1 => ZdM R t * (if (R t).1 = 0 then 1 else (R t).1)
theorem ZoV {n : Nat} {R : Nat → Int × Int} (h : ∀ t, t < n → RestOk (R t)) : ∀ m, m ≤ n → 0 < ZdM R m
 | 0, _ => by show (0 : Int) < 1; decide
 | m + 1, hm => by
  have ih := ZoV h m (by omega)
  have := (h m (by omega)).nn
  unfold ZdM
  refine Int.mul_pos ih ?_
  split
  ·decide
  ·omega
theorem ZoW {R : Nat → Int × Int} : ∀ m t, t < m → (R t).1 = 0 ∨ (R t).1 ∣ ZdM R m
 | m + 1, t, ht => by
  by_cases z : (R t).1 = 0
  ·exact .inl z
  ·right
   unfold ZdM
   by_cases q : t = m
   ·subst q
    rw [if_neg z]
    exact Int.dvd_mul_left _ _
   ·exact Int.dvd_trans ((ZoW m t (by omega)).resolve_left z) (Int.dvd_mul_right _ _)
theorem Zpo {n k : Nat} {R : Nat → Int × Int} (hk : 1 ≤ k) (h : ∀ t, t < n → Bd k (R t).1) : ∀ m, m ≤ n → Bd (k * m + 1) (ZdM R m)
 | 0, _ => by rw [Nat.mul_zero]; exact ZdQ (by omega)
 | m + 1, hm => by
  have ih := Zpo hk h m (by omega)
  unfold ZdM
  have h2 : Bd k (if (R m).1 = 0 then 1 else (R m).1) := by
   split
   ·exact ZdQ hk
   ·exact h m (by omega)
  have := Bd.mul ih h2
  rw [Nat.mul_succ]
  exact this.mono (by omega)
end L
namespace L
open PySem PySem.W PyProof.Rows PM TM My
theorem Zty {ns : List Int} {k : Int} {n B : Nat} {G : Nat → Nat → Option Int} {R : Nat → Int × Int} (hL : Lay ns) (h0 : 0 ≤ k) (h9 : k ≤ 1000) (hn : n ≤ 9) (hB2 : 134 ≤ B) (hR : ∀ t, t < n → RestOk (R t)) (sR : SmR B n R) (sG : SmG B n G) : Pk (Zg8 [scr ns, .int k, Z5 n G R]) fun t => ∃ G' R', t = Z5 n G' R' ∧ (∀ i, i < n + 1 → G' i i = G i i) ∧ (∀ t, t < n → RestOk (R' t)) ∧ SmG (B + 1) n G' ∧ SmR (B + 1) n R' := by
 unfold Zg8 ZjS
 have ht : Z5 n G R = .tup [.lst (tab (n + 1) fun i => Zar (n + 1) (G i)), .lst (tab n fun i => prT (R i))] := rfl
 have e134 : (2 : Nat) ^ 134 = 21778071482940061661655974875633165533184 := by decide
 have hpB : (2 : Nat) ^ 134 ≤ 2 ^ B := Nat.pow_le_pow_right (by decide) hB2
 have hpB1 : (2 : Nat) ^ (B + 1) = 2 ^ B * 2 := Nat.pow_succ ..
 have sG1 : SmG (B + 1) n G := fun i j hi hj b h => ZaW (sG i j hi hj b h) (by omega)
 have sR1 : SmR (B + 1) n R := fun t ht => ⟨ZaW (sR t ht).1 (by omega), ZaW (sR t ht).2 (by omega)⟩
 rw [ht]
 walk_at "zz"
 refine ZhD (n := n + 1) (G := G) (by omega) ?_ ?_
 ·walk_at "zz"
  rfl
 unfold Z8 Zar
 walk_at "zz"
 obtain ⟨p0, p1⟩ := Zci ns k (show (0 : Int) < ((n + 1 : Nat) : Int) by omega)
 obtain ⟨i, ei, hi⟩ := Ziv p0 p1
 obtain ⟨p2, p3⟩ := Zci ns (k + 1) (show (0 : Int) < ((n + 1 : Nat) : Int) by omega)
 obtain ⟨j, ej, hj⟩ := Ziv p2 p3
 obtain ⟨w0, w1⟩ := Zci ns (k + 2) (show (0 : Int) < 5 by decide)
 obtain ⟨u0, u1⟩ := Zci ns (k + 3) (show (0 : Int) < 4 by decide)
 obtain ⟨u2, u3⟩ := Zci ns (k + 3) (show (0 : Int) < 3 by decide)
 refine ZO (Zcj h0 (by omega) (by omega)) ?_
 rw [ei]
 walk_at "zz"
 refine ZO (Zcj (by omega) (by omega) (by omega)) ?_
 rw [ej]
 walk_at "zz"
 refine ZO (Zcj (by omega) (by omega) (by omega)) ?_
 walk_at "zz"
 generalize Zbi ns (k + 2) 5 = w at w0 w1
 by_cases hw : w < 3 ∧ i ≠ j
 ·have hij : (i : Int) ≠ (j : Int) := by omega
  have hw3 := hw.1
  have fin : ∀ v, (∀ b, v = some b → b.natAbs < 2 ^ (B + 1)) → (∀ a, a < n + 1 → ZbR G i j v a a = G a a) ∧ SmG (B + 1) n (ZbR G i j v) := fun v hv => by
   refine ⟨fun a ha => by rw [Zgt (by omega)], fun a b ha hb c hc => ?_⟩
   by_cases q : a = i ∧ b = j
   ·obtain ⟨rfl, rfl⟩ := q; rw [Zie] at hc; exact hv c hc
   ·rw [Zgt q] at hc; exact sG1 a b ha hb c hc
  cases hg : G i j with
  | none =>
   walk_at "zz"
   rw [hg, Za6]
   walk_at "zz"
   refine ZO (Zfa hL (by omega) (by omega)) ?_
   walk_at "zz"
   rw [← Zan (c := Zb2 ns (k + 3)), ZdJ]
   walk_at "zz"
   have := Zgs ns (k + 3)
   obtain ⟨f1, f2⟩ := fin (some (Zb2 ns (k + 3))) (fun b e => by cases e; omega)
   exact ⟨ZbR G i j (some (Zb2 ns (k + 3))), R, rfl, f1, hR, f2, sR1⟩
  | some g =>
   walk_at "zz"
   rw [hg, Zan]
   walk_at "zz"
   rw [hg, Zan]
   walk_at "zz"
   refine ZO (Zcj (by omega) (by omega) (by omega)) ?_
   walk_at "zz"
   rw [← Zan (c := g - 1 - Zbi ns (k + 3) 4), ZdJ]
   walk_at "zz"
   have := sG i j (by omega) (by omega) g hg
   obtain ⟨f1, f2⟩ := fin (some (g - 1 - Zbi ns (k + 3) 4)) (fun b e => by cases e; omega)
   exact ⟨ZbR G i j _, R, rfl, f1, hR, f2, sR1⟩
 ·have hcase : (¬ w < 3) ∨ (w < 3 ∧ (i : Int) = (j : Int)) := by
   by_cases q : w < 3
   ·exact .inr ⟨q, by
     have : i = j := Classical.byContradiction fun h => hw ⟨q, h⟩
     rw [this]⟩
   ·exact .inl q
  clear hw
  rcases hcase with hw | ⟨hw, hij⟩
  all_goals
   by_cases hn0 : n = 0
   ·subst hn0
    walk_at "zz"
    exact ⟨G, R, rfl, fun _ _ => rfl, hR, sG1, sR1⟩
   ·have hnp : (0 : Int) < (n : Int) := by omega
    walk_at "zz"
    obtain ⟨q0, q1⟩ := Zci ns k hnp
    obtain ⟨t, et, ht⟩ := Ziv q0 q1
    refine ZO (Zcj h0 (by omega) hnp) ?_
    rw [et]
    walk_at "zz"
    have hp : prT (R t) = .tup [.int (R t).1, .int (R t).2] := rfl
    rw [hp]
    walk_at "zz"
    obtain ⟨m0, m1⟩ : 0 ≤ w.fmod 2 ∧ w.fmod 2 < 2 := ⟨Int.fmod_nonneg_of_pos _ (by decide), Int.fmod_lt_of_pos _ (by decide)⟩
    refine ZdF (by omega) (by omega) ?_
    walk_at "zz"
    refine ZO (Zcj (by omega) (by omega) (by omega)) ?_
    walk_at "zz"
    refine ZO Zf5 ?_
    walk_at "zz"
    have hRt := hR t ht
    have hm0 : 0 ≤ (R t).1 := by rcases hRt with h | h <;> omega
    have sRt := sR t ht
    obtain ⟨c, hc, hc1⟩ : ∃ c, (R t).1 * (1 + w.fmod 2) = c ∧ 0 ≤ c ∧ c ≤ (R t).1 * 2 := ⟨_, rfl, Int.mul_nonneg hm0 (by omega), Int.mul_le_mul_of_nonneg_left (by omega) hm0⟩
    rw [hc]
    generalize hpp : Za2 c ((R t).2 + Zbi ns (k + 3) 3) = pp
    have p1 : RestOk pp := by rw [← hpp]; exact ZdY hc1.1 _
    have p2 : pp.1.natAbs < 2 ^ (B + 1) ∧ pp.2.natAbs < 2 ^ (B + 1) := by rw [← hpp]; exact Zhf hc1.1 (by omega) (by omega)
    refine ⟨G, fun s => if s = t then pp else R s, ?_, fun _ _ => rfl, fun s hs => ?_, sG1, fun s hs => ?_⟩
    ·unfold Z5 Z8 Zar ZaU
     congr 5
     funext s
     show (if s = t then prT pp else prT (R s)) = prT (if s = t then pp else R s)
     split <;> rfl
    ·show RestOk (if s = t then pp else R s)
     split
     ·exact p1
     ·exact hR s hs
    ·show (if s = t then pp else R s).1.natAbs < _ ∧ (if s = t then pp else R s).2.natAbs < _
     split
     ·exact p2
     ·exact sR1 s hs
end L
namespace L
open PySem PySem.W PyProof.Rows PM TM My
theorem Zrz : ZcR [.none, .none] = some (.bool true) := by
 apply Pk.eq
 unfold ZcR Zhz
 walk_at "zz"
 rfl
theorem ZrA {n : Nat} {G : Nat → Nat → Option Int} {R : Nat → Int × Int} (hn : n ≤ 100) (hd : ∀ i, i < n + 1 → G i i = some 0) (ok : ∀ t, t < n → RestOk (R t)) : ZcR [Z5 n G R, Z5 n G R] = some (.bool true) := by
 apply Pk.eq
 unfold ZcR Zhz
 have ht : Z5 n G R = .tup [Z8 (n + 1) G, .lst (tab n fun i => prT (R i))] := rfl
 rw [ht]
 walk_at "zz"
 rw [← ht]
 refine ZO (ZsO hn hd ok) ?_
 walk_at "zz"
 refine Zet Zmq Zmq ?_
 rw [ZaZ rfl]
end L
namespace L
open PySem PySem.W PyProof.Rows PM TM My
inductive Dp : Nat → T → Prop where
 | none {n : Nat} : Dp n .none
 | int {n : Nat} {i : Int} : Dp n (.int i)
 | tup {n : Nat} {ts : List T} : (∀ t ∈ ts, Dp n t) → ts.length ≤ 10000 → Dp (n + 1) (.tup ts)
 | lst {n : Nat} {ts : List T} : (∀ t ∈ ts, Dp n t) → ts.length ≤ 10000 → Dp (n + 1) (.lst ts)
theorem ZpX {σ : TL} {j : Nat} {F : List T → Option T} {g : PE} {ts : List T} {Q : T → Prop} (hg : ZaH g σ = some ts) (hl : ts.length ≤ 10000) (h : ∀ t ∈ ts, F [t] = some t) (q : Q (.lst ts)) : Pk (Zam (ZaH g) (Zab j) Zag (Zs F (Zd (Za j) Zn)) σ) Q := by
 refine ⟨.lst ts, ?_, q⟩
 have := ZoK (σ := σ) (j := j) (f := Zs F (Zd (Za j) Zn)) (h := fun t => t) (ts := ts) fun t m => by
  simp only [Zs, Zd, Za, Zn, Zbn, Option.bind_some, Option.map_some]
  exact h t m
 simp only [Zam, hg, Option.bind_some, this]
 rw [if_pos (by rw [Za7]; omega)]
 simp
theorem Zum {n : Nat} {t : T} (h : Dp n t) : Zen (n + 1) [t] = some t := by
 induction h with
 | none => rfl
 | int => rfl
 | @tup n ts hs hl ih =>
  apply Pk.eq
  show Pk (Zaa 1 (Zfn (Zen (n + 1))) [.tup ts]) _
  unfold Zfn
  walk_at "zz"
  refine ZpX (ts := ts) rfl hl ih ?_
  walk_at "zz"
  rfl
 | @lst n ts hs hl ih =>
  apply Pk.eq
  show Pk (Zaa 1 (Zfn (Zen (n + 1))) [.lst ts]) _
  unfold Zfn
  walk_at "zz"
  exact ZpX (ts := ts) rfl hl ih rfl
theorem Zun {t : T} (h : Dp 8 t) : Zgq [t] = some t := Zum h
theorem ZwJ {n : Nat} {a : Option Int} : Dp n (oT a) := by cases a; exact .none; exact .int
end L
namespace L
open PySem PySem.W PyProof.Rows PM TM My
end L
namespace L
open PySem PySem.W PyProof.Rows PM TM My
theorem ZwK {n : Nat} {G : Nat → Nat → Option Int} {R : Nat → Int × Int} : ∃ l, ZcD (ZfC 0 (.int 7)) [0, 0] (Z5 n G R) = some (.tup [.lst l, ZaU n R]) ∧ l.length = n + 1 := by
 refine ⟨((tab (n + 1) fun i => T.lst (tab (n + 1) fun j => oT (G i j))).set 0 (.lst ((tab (n + 1) fun j => oT (G 0 j)).set 0 (.int 7)))), ?_, by rw [List.length_set, Zau]⟩
 unfold Z5 Z8 Zar
 simp only [ZcD, List.length_cons, List.length_nil, Zau, ZdL (show (0 : Int) ≤ 0 by decide) (show (0 : Int) < ((0 + 1 + 1 : Nat) : Int) by decide), ZdL (show (0 : Int) ≤ 0 by decide) (show (0 : Int) < ((n + 1 : Nat) : Int) by omega), Option.bind_some, Int.toNat_zero, List.getElem?_cons_zero, ZbD (show 0 < n + 1 by omega), ZfC]
 rw [if_pos ⟨by omega, by omega⟩]
 rfl
theorem ZwL {l : List T} {w r : T} (hl : l.length ≤ 1000) : ZcD (Zeb w) [0] (.tup [.lst l, r]) = some (.tup [.lst (l ++ [w]), r]) := by
 simp only [ZcD, List.length_cons, List.length_nil, ZdL (show (0 : Int) ≤ 0 by decide) (show (0 : Int) < ((0 + 1 + 1 : Nat) : Int) by decide), Option.bind_some, Zeb, show (0 : Int).toNat = 0 from rfl, List.getElem?_cons_zero]
 rw [if_pos (by rw [Za7]; omega)]
 rfl
theorem ZwM {n : Nat} {g w : T} {R : Nat → Int × Int} (hn : n ≤ 100) : ∃ u, ZcD (Zeb w) [1] (.tup [g, ZaU n R]) = some u := by
 refine ⟨.tup [g, .lst ((tab n fun i => prT (R i)) ++ [w])], ?_⟩
 unfold ZaU
 simp only [ZcD, List.length_cons, List.length_nil, ZdL (show (0 : Int) ≤ 1 by decide) (show (1 : Int) < ((0 + 1 + 1 : Nat) : Int) by decide), Option.bind_some, Zeb, Zau, show (1 : Int).toNat = 1 from rfl, List.getElem?_cons_succ, List.getElem?_cons_zero]
 rw [if_pos (by rw [Za7]; omega)]
 rfl
end L
namespace L
open PySem PySem.W PyProof.Rows PM TM My
section
variable {σ : TL} {Q : T → Prop}
theorem ZpY {a b : List T} (hl : a.length + b.length ≤ 10000) (h : Q (.lst (a ++ b))) : Pk (Zae (.lst a) (.lst b)) Q := by
 refine ⟨_, ?_, h⟩
 simp only [Zae]
 rw [if_pos (by rw [Za7, List.length_append]; omega)]
theorem Zvp {a : T} {n : Nat} (hn : n ≤ 1000) (h : Q (.lst (tab n fun _ => a))) : Pk (ZaG (.lst [a]) (.int n)) Q := by
 have e : ∀ n, ZgO [a] n = tab n fun _ => a := fun n => by
  induction n with
  | zero => rfl
  | succ n ih => show ZgO [a] n ++ [a] = _; rw [ih]; exact ZdD (f := fun _ => a)
 refine ⟨_, ?_, h⟩
 simp only [ZaG, List.length_cons, List.length_nil, Int.toNat_natCast, e]
 rw [if_pos ⟨by rw [Za7]; omega, by omega, by omega⟩]
end
theorem ZpZ {σ : TL} {x n m i j : Nat} {k l : Int} {w : T} {f : Nat → Nat → T} {N : TL → Prop} (e : σ x = some (.lst (tab n fun a => .lst (tab m (f a))))) (hk : k = i) (hl : l = j) (hi : i < n) (hj : j < m) (h : N (Z7 σ x (.lst (tab n fun a => .lst (tab m fun b => if a = i ∧ b = j then w else f a b))))) : Put2 σ x w (.int k) (.int l) N := by
 subst hk hl
 exact Zo8 e hi hj h
theorem Zmh {n i j : Nat} {G : Nat → Nat → Option Int} {v : Option Int} {w : T} (hw : w = oT v) : T.lst (tab n fun a => T.lst (tab n fun b => if a = i ∧ b = j then w else oT (G a b))) = T.lst (tab n fun a => T.lst (tab n fun b => oT (ZbR G i j v a b))) := by
 subst hw
 exact ZdJ
theorem ZcE {a b : PS} {σ : TL} {R : T → Prop} {N : TL → Prop} (M : TL → Prop) (h1 : Psk (a σ) R M) (h2 : ∀ σ, M σ → Psk (b σ) R N) : Psk (Zu a b σ) R N := by
 obtain ⟨o, s, e, p, q⟩ := h1
 exact Zgu ⟨o, s, e, p, fun h => h2 s (q h)⟩
end L
namespace L
open PySem PySem.W PyProof.Rows PM TM My
theorem Zvq {a : Nat} (h : a ≤ 4) : Zcw a a 1 = some [] := by
 have : a = 0 ∨ a = 1 ∨ a = 2 ∨ a = 3 ∨ a = 4 := by omega
 obtain rfl | rfl | rfl | rfl | rfl := this <;> (unfold Zcw; rw [if_pos (by decide +kernel)]; rfl)
theorem ZhX {σ : TL} {g : PEs} {a m : Nat} {L : List T → Prop} (ha : a ≤ 4) (hm : m ≤ 100) (e : g σ = some [.int a, .int (a + m)]) (h : L (tab m fun i => .int ((a + i : Nat) : Int))) : Pl (Zaz g σ) L := by
 cases m with
 | zero =>
  have e2 : Zcw (a : Int) ((a : Int) + ((0 : Nat) : Int)) 1 = some [] := by simpa using Zvq ha
  exact ⟨[], Zgm e e2, h⟩
 | succ m =>
  refine ⟨_, Zgm e (by have := ZpI (a := a) (n := m + 1) (by omega) (by omega); simpa using this), ?_⟩
  rw [show (tab (m + 1) fun i => T.int ((a : Int) + i)) = tab (m + 1) fun i => .int ((a + i : Nat) : Int) from ZbI fun i _ => by congr 1]
  exact h
theorem ZkR {N a b : Nat} {Γ : Nat → Nat → Option Int} {v : Option Int} (ha : a < N) (hb : b < N) : ZeX [Z8 N Γ, .int a, .int b, oT v] = some (Z8 N (ZbR Γ a b (ZaT (Γ a b) v))) := by
 apply Pk.eq
 unfold ZeX Zlj
 refine Zh9 rfl ?_
 unfold Z8 Zar
 walk_at "zz"
 refine ZO ZoP ?_
 refine ⟨Zep, ?_⟩
 walk_at "zz"
 refine ⟨_, Zbn, ?_⟩
 exact ZdJ
end L
namespace L
open PySem PySem.W PyProof.Rows PM TM My
noncomputable def Zad (n : Nat) (c : Nat → Int) : T := .lst (tab (n + 1) fun i => .int (c i))
theorem Zhh {n b : Nat} {c : Nat → Int} {k : Int} (hn : n ≤ 1000) (hb : b ≤ 100000) (bc : ∀ i, i < n + 1 → Bd b (c i)) (bk : Bd b k) : Zdp [Zad n c, .int k] = some (Zad n fun i => c i * k) := by
 apply Pk.eq
 unfold Zdp ZkF Zad
 walk_at "zz"
 refine Zcz (n := n + 1) (a := fun i => .int (c i)) (b := fun i => .int (c i * k)) (by omega) ?_ (fun i hi => ?_) rfl
 ·walk_at "zz"
  rfl
 ·walk_at "zz"
  exact ZbY (Zch (bc i hi) bk (by omega) (by omega)) rfl
noncomputable def S40 (G : Nat → Nat → Option Int) (i : Nat) : Sp := ((G 0 (i + 1)).map fun y => y * (-1), G (i + 1) 0)
theorem Zq2 {n b : Nat} {G : Nat → Nat → Option Int} {R : Nat → Int × Int} (hn : n ≤ 90) (hb : b ≤ 100000) (hb1 : 1 ≤ b) (bG : ∀ i j, i < n + 1 → j < n + 1 → ∀ y, G i j = some y → Bd b y) : ZgZ [Z5 n G R] = some (.lst (tab n fun i => spT (S40 G i))) := by
 apply Pk.eq
 unfold ZgZ Zjm
 have ht : Z5 n G R = .tup [.lst (tab (n + 1) fun i => .lst (tab (n + 1) fun j => oT (G i j))), .lst (tab n fun i => prT (R i))] := rfl
 rw [ht]
 walk_at "zz"
 refine Zcz (n := n) (a := fun i => .int ((1 + i : Nat) : Int)) (b := fun i => spT (S40 G i)) (by omega) ?_ (fun i hi => ?_) rfl
 ·refine ZhX (a := 1) (m := n) (by omega) (by omega) ?_ rfl
  simp only [Zd, Zk, Zn, Zs, Za, Z7, Option.bind_some, if_true, Zaq, Zau]
  congr 3
  congr 1
  omega
 ·have h1 : 1 + i < n + 1 := by omega
  have h0 : 0 < n + 1 := by omega
  walk_at "zz"
  refine ZO (Zhg hb (fun y e => bG 0 (1 + i) h0 h1 y e) (show Bd b (-1) by unfold Bd; have := ZdQ hb1; unfold Bd at this; simpa using this)) ?_
  walk_at "zz"
  unfold spT S40
  rw [show 1 + i = i + 1 by omega]
  rfl
theorem Zoi {σ : TL} {j : Nat} {cnd : PB} {P : T → Bool} : ∀ {ts : List T}, (∀ t ∈ ts, cnd (Z7 σ j t) = some (P t)) → Zcs (Zab j) cnd (Za j) σ ts = some (ts.filter P)
 | [], _ => rfl
 | t :: ts, h => by
  have ih := Zoi fun t m => h t (Zz2 _ m)
  have h0 := h t Zz5
  simp only [Zcs, Zab, Option.bind_some, h0, Za, Zbn, ih, Option.map_some, List.filter_cons]
  cases P t <;> rfl
theorem Zmi {σ : TL} {j : Nat} {g : PG} {cnd : PB} {P : T → Bool} {ts : List T} {Q : T → Prop} (hl : ts.length ≤ 10000) (hg : Pl (g σ) fun us => us = ts) (hc : ∀ t ∈ ts, Pb (cnd (Z7 σ j t)) fun b => b = P t) (h : Q (.lst (ts.filter P))) : Pk (Zam g (Zab j) cnd (Za j) σ) Q := by
 obtain ⟨us, e, rfl⟩ := hg
 refine ⟨_, ?_, h⟩
 have := Zoi (σ := σ) (j := j) (cnd := cnd) (P := P) (ts := us) fun t m => by
  obtain ⟨b, e1, rfl⟩ := hc t m
  exact e1
 simp only [Zam, e, Option.bind_some, this, Option.map_some]
 rw [if_pos (by rw [Za7]; omega)]
noncomputable def xsI (n : Nat) (c : Nat → Int) : List Int := tab n fun i => c (i + 1)
noncomputable def nzI (n : Nat) (c : Nat → Int) : List Int := (xsI n c).filter fun x => decide (x ≠ 0)
noncomputable def Df (n : Nat) (c : Nat → Int) : Prop := PM.Zdl (nzI n c) = [-1, 1]
theorem ZhY (ks : List Int) : Zdk (ks.map T.int) = some ks := by
 induction ks with
 | nil => rfl
 | cons k ks ih => simp [Zdk, ih]
theorem Zsf {a b : List Int} (h : a.map T.int = b.map T.int) : a = b := by
 have := congrArg Zdk h
 rw [ZhY, ZhY] at this
 simpa using this
theorem ZmT (ks : List Int) : Pln 1 (.lst (ks.map T.int)) := .lst fun t m => by
 obtain ⟨k, _, rfl⟩ := List.mem_map.mp m
 exact .int
theorem tab_map {α β : Type} {n : Nat} {f : Nat → α} {g : α → β} : (tab n f).map g = tab n fun i => g (f i) := by simp [tab]
theorem ZqT {n : Nat} {c : Nat → Int} (hn : n ≤ 60) : ZgU [Zad n c] = some (.bool (dec (Df n c))) := by
 apply Pk.eq
 unfold ZgU Zi2 Zad
 walk_at "zz"
 refine Zmi (ts := (xsI n c).map T.int) (P := fun t => match t with | .int x => decide (x ≠ 0) | _ => false) (by simp [xsI, Zau]; omega) ?_ (fun t m => ?_) ?_
 ·refine Zh7 ?_
  refine Zl9 ?_
  walk_at "zz"
  refine ⟨_, rfl, ?_⟩
  rw [Zpk]
  refine Sq.lst ?_
  unfold xsI
  rw [tab_map]
 ·obtain ⟨x, _, rfl⟩ := List.mem_map.mp m
  walk_at "zz"
  rfl
 have ef : ((xsI n c).map T.int).filter (fun t => match t with | .int x => decide (x ≠ 0) | _ => false) = (nzI n c).map T.int := by
  unfold nzI
  rw [List.filter_map]
  rfl
 rw [ef]
 have hl : (nzI n c).length ≤ n := by
  unfold nzI
  refine Nat.le_trans (List.length_filter_le _ _) ?_
  simp [xsI, Zau]
 walk_at "zz"
 refine ⟨.lst ((PM.Zdl (nzI n c)).map T.int), ?_, ?_⟩
 ·simp only [Zia, ZhY, Option.bind_some, List.length_map]
  rw [if_pos (by omega)]
 walk_at "zz"
 refine Zet (n := 1) (m := 1) (ZmT _) (ZmT [-1, 1]) ?_
 by_cases h : Df n c
 ·rw [ZaZ h, ZaZ]
  show T.lst ((PM.Zdl (nzI n c)).map T.int) = _
  rw [show PM.Zdl (nzI n c) = [-1, 1] from h]
  rfl
 ·rw [ZbN h, ZbN]
  intro q
  refine h (Zsf ?_)
  simpa using q
noncomputable def Zax (c : Nat → Int) : Nat → List Nat
 | 0 => []
 | n + 1 => Zax c n ++ (if 0 < c (n + 1) then [n + 1] else [])
noncomputable def Zay (c : Nat → Int) : Nat → List Nat
 | 0 => []
 | n + 1 => Zay c n ++ (if c (n + 1) < 0 then [n + 1] else [])
theorem ups_mem {c : Nat → Int} : ∀ {n i : Nat}, i ∈ Zax c n ↔ 1 ≤ i ∧ i ≤ n ∧ 0 < c i
 | 0, i => by simp [Zax]; omega
 | n + 1, i => by
  simp only [Zax, List.mem_append, ups_mem (n := n)]
  by_cases h : 0 < c (n + 1)
  ·simp only [h, if_true, List.mem_singleton]
   constructor
   ·rintro (⟨a, b, d⟩ | rfl)
    ·exact ⟨a, by omega, d⟩
    ·exact ⟨by omega, by omega, h⟩
   ·rintro ⟨a, b, d⟩
    by_cases q : i = n + 1
    ·exact .inr q
    ·exact .inl ⟨a, by omega, d⟩
  ·simp only [h, if_false, List.not_mem_nil, or_false]
   constructor
   ·rintro ⟨a, b, d⟩; exact ⟨a, by omega, d⟩
   ·rintro ⟨a, b, d⟩
    have : i ≠ n + 1 := fun q => h (q ▸ d)
    exact ⟨a, by omega, d⟩
theorem dns_mem {c : Nat → Int} : ∀ {n i : Nat}, i ∈ Zay c n ↔ 1 ≤ i ∧ i ≤ n ∧ c i < 0
 | 0, i => by simp [Zay]; omega
 | n + 1, i => by
  simp only [Zay, List.mem_append, dns_mem (n := n)]
  by_cases h : c (n + 1) < 0
  ·simp only [h, if_true, List.mem_singleton]
   constructor
   ·rintro (⟨a, b, d⟩ | rfl)
    ·exact ⟨a, by omega, d⟩
    ·exact ⟨by omega, by omega, h⟩
   ·rintro ⟨a, b, d⟩
    by_cases q : i = n + 1
    ·exact .inr q
    ·exact .inl ⟨a, by omega, d⟩
  ·simp only [h, if_false, List.not_mem_nil, or_false]
   constructor
   ·rintro ⟨a, b, d⟩; exact ⟨a, by omega, d⟩
   ·rintro ⟨a, b, d⟩
    have : i ≠ n + 1 := fun q => h (q ▸ d)
    exact ⟨a, by omega, d⟩
theorem Zp0 {c : Nat → Int} : ∀ n, (Zax c n).length ≤ n
 | 0 => Nat.le_refl 0
 | n + 1 => by
  have := Zp0 (c := c) n
  simp only [Zax, List.length_append]
  split <;> simp <;> omega
theorem Zp1 {c : Nat → Int} : ∀ n, (Zay c n).length ≤ n
 | 0 => Nat.le_refl 0
 | n + 1 => by
  have := Zp1 (c := c) n
  simp only [Zay, List.length_append]
  split <;> simp <;> omega
theorem Zpp {c : Nat → Int} : ∀ n, (Zax c n).map c = (xsI n c).filter fun x => decide (0 < x)
 | 0 => rfl
 | n + 1 => by
  have e : xsI (n + 1) c = xsI n c ++ [c (n + 1)] := (ZdD (n := n) (f := fun i => c (i + 1))).symm
  rw [e, List.filter_append, ← Zpp n]
  simp only [Zax, List.map_append]
  by_cases h : 0 < c (n + 1) <;> simp [h]
theorem Zpq {c : Nat → Int} : ∀ n, (Zay c n).map c = (xsI n c).filter fun x => decide (x < 0)
 | 0 => rfl
 | n + 1 => by
  have e : xsI (n + 1) c = xsI n c ++ [c (n + 1)] := (ZdD (n := n) (f := fun i => c (i + 1))).symm
  rw [e, List.filter_append, ← Zpq n]
  simp only [Zay, List.map_append]
  by_cases h : c (n + 1) < 0 <;> simp [h]
theorem df_iff {n : Nat} {c : Nat → Int} : Df n c ↔ (Zax c n).map c = [1] ∧ (Zay c n).map c = [-1] := by
 rw [Zpp, Zpq]
 have hp : (nzI n c).Perm ((xsI n c).filter (fun x => decide (0 < x)) ++ (xsI n c).filter (fun x => decide (x < 0))) := by
  unfold nzI
  generalize xsI n c = xs
  induction xs with
  | nil => exact List.Perm.refl _
  | cons x xs ih =>
   by_cases h1 : 0 < x
   ·have : x ≠ 0 := by omega
    have h2 : ¬ x < 0 := by omega
    simp only [List.filter_cons, h1, h2, this, decide_true, decide_false, ne_eq, not_false_eq_true, if_true, Bool.false_eq_true, if_false, List.cons_append]
    exact List.Perm.cons _ ih
   ·by_cases h2 : x < 0
    ·have : x ≠ 0 := by omega
     simp only [List.filter_cons, h1, h2, this, decide_true, decide_false, ne_eq, not_false_eq_true, if_true, Bool.false_eq_true, if_false]
     exact (List.Perm.cons _ ih).trans List.perm_middle.symm
    ·have : x = 0 := by omega
     subst this
     simpa using ih
 constructor
 ·intro h
  have hq : (nzI n c).Perm [-1, 1] := by
   have := List.mergeSort_perm (nzI n c) fun a b => decide (a ≤ b)
   rw [show (nzI n c).mergeSort (fun a b => decide (a ≤ b)) = [-1, 1] from h] at this
   exact this.symm
  have hf : ∀ q : Int → Bool, (∀ x, q x = true → x ≠ 0) → (xsI n c).filter q = (nzI n c).filter q := fun q hq => by
   unfold nzI
   rw [List.filter_filter]
   refine List.filter_congr fun x _ => ?_
   cases e : q x with
   | false => simp
   | true => simp [hq x e]
  rw [hf _ (fun x h => by simp at h; omega), hf _ (fun x h => by simp at h; omega)]
  have p1 := hq.filter fun x => decide (0 < x)
  have p2 := hq.filter fun x => decide (x < 0)
  exact ⟨List.perm_singleton.mp (by simpa using p1), List.perm_singleton.mp (by simpa using p2)⟩
 ·rintro ⟨h1, h2⟩
  rw [h1, h2] at hp
  unfold Df
  refine (PM.Zpa ?_ ?_).symm
  ·exact (hp.trans (List.Perm.swap (-1) 1 [])).symm
  ·simp
end L
namespace L
open PySem PySem.W PyProof.Rows PM TM My
theorem Zpr {σ : TL} {p q r : PE} {Q : T → Prop} (h : Pk (p σ) fun t => ∃ ks : List Int, t = .lst (ks.map T.int) ∧ Pk (q σ) fun u => ∃ k, u = .int k ∧ Pk (r σ) fun v => v = .int 1 ∧ k ∈ ks.drop 1 ∧ Q (.int ((1 + (ks.drop 1).idxOf k : Nat) : Int))) : Pk (Zgz p q r σ) Q := by
 obtain ⟨_, e1, ks, rfl, _, e2, k, rfl, _, e3, rfl, hm, h⟩ := h
 refine ⟨_, ?_, h⟩
 simp only [Zgz, e1, e2, e3, Option.bind_some, ZhY]
 rw [if_pos ⟨trivial, hm⟩]
theorem Zig {n : Nat} {c : Nat → Int} : (tab (n + 1) c).drop 1 = xsI n c := by
 unfold xsI
 apply List.ext_getElem
 ·simp [tab]
 ·intro i h1 h2
  simp [tab]
theorem Zqx {l : List Nat} {c : Nat → Int} {k : Int} (h : l.map c = [k]) : ∃ u, l = [u] ∧ c u = k := by
 cases l with
 | nil => simp at h
 | cons a l =>
  cases l with
  | nil => exact ⟨a, rfl, by simpa using h⟩
  | cons b l => simp at h
theorem ZqL {n i : Nat} {c : Nat → Int} (hi : i < n) : (xsI n c)[i]? = some (c (i + 1)) := ZbD (f := fun i => c (i + 1)) hi
theorem Zqy {n u : Nat} {c : Nat → Int} {k : Int} (h1 : 1 ≤ u) (h2 : u ≤ n) (hu : c u = k) (ho : ∀ i, 1 ≤ i → i ≤ n → c i = k → i = u) : 1 + (xsI n c).idxOf k = u ∧ k ∈ xsI n c := by
 have hm : k ∈ xsI n c := List.mem_of_getElem? (i := u - 1) (by rw [ZqL (by omega), show u - 1 + 1 = u by omega, hu])
 have hl : (xsI n c).idxOf k < (xsI n c).length := List.idxOf_lt_length_iff.mpr hm
 have hn : (xsI n c).length = n := Zau
 have hk := List.getElem_idxOf hl
 have hx : (xsI n c)[(xsI n c).idxOf k]? = some k := by rw [List.getElem?_eq_getElem hl, hk]
 rw [ZqL (by omega)] at hx
 have := ho ((xsI n c).idxOf k + 1) (by omega) (by omega) (by simpa using hx)
 exact ⟨by omega, hm⟩
theorem ZhQ {n : Nat} {c : Nat → Int} (h : Df n c) : ∃ u d, Zax c n = [u] ∧ Zay c n = [d] ∧ c u = 1 ∧ c d = -1 ∧ u < n + 1 ∧ d < n + 1 ∧ 1 ≤ u ∧ 1 ≤ d ∧ 1 + (xsI n c).idxOf 1 = u ∧ 1 + (xsI n c).idxOf (-1) = d ∧ 1 ∈ xsI n c ∧ -1 ∈ xsI n c := by
 obtain ⟨h1, h2⟩ := df_iff.mp h
 obtain ⟨u, eu, hu⟩ := Zqx h1
 obtain ⟨d, ed, hd⟩ := Zqx h2
 have mu := ups_mem.mp (show u ∈ Zax c n by rw [eu]; simp)
 have md := dns_mem.mp (show d ∈ Zay c n by rw [ed]; simp)
 have a1 := Zqy mu.1 mu.2.1 hu fun i q1 q2 q3 => by
  have : i ∈ Zax c n := ups_mem.mpr ⟨q1, q2, by omega⟩
  rw [eu] at this
  simpa using this
 have a2 := Zqy md.1 md.2.1 hd fun i q1 q2 q3 => by
  have : i ∈ Zay c n := dns_mem.mpr ⟨q1, q2, by omega⟩
  rw [ed] at this
  simpa using this
 exact ⟨u, d, eu, ed, hu, hd, by omega, by omega, mu.1, md.1, a1.1, a2.1, a1.2, a2.2⟩
noncomputable def grt (n : Nat) (G : Nat → Nat → Option Int) (c : Nat → Int) : Option Int := if dec (Df n c) then Zai (G (1 + (xsI n c).idxOf 1) (1 + (xsI n c).idxOf (-1))) (some (c 0)) else (Zcx c (S40 G) n).2
noncomputable def GB (b n : Nat) (G : Nat → Nat → Option Int) : Prop := ∀ i j, i < n + 1 → j < n + 1 → ∀ y, G i j = some y → Bd b y
theorem Zqz {b n : Nat} {G : Nat → Nat → Option Int} (hG : GB b n G) : ∀ i, i < n → SBd b (S40 G i) := fun i hi => ⟨fun x e => by
 obtain ⟨y, e1, e2⟩ := Zz1.mp e
 have := hG 0 (i + 1) (by omega) (by omega) y e1
 subst e2
 unfold Bd at *
 omega, fun x e => hG (i + 1) 0 (by omega) (by omega) x e⟩
theorem Zoj {n b : Nat} {G : Nat → Nat → Option Int} {R : Nat → Int × Int} {c : Nat → Int} (hn : n ≤ 60) (hb : b ≤ 100000) (hb1 : 1 ≤ b) (hG : GB b n G) (bc : ∀ i, i < n + 1 → Bd b (c i)) : ZeY [Z5 n G R, Zad n c] = some (oT (grt n G c)) := by
 apply Pk.eq
 unfold ZeY Zlm grt
 have ht : Z5 n G R = .tup [.lst (tab (n + 1) fun i => .lst (tab (n + 1) fun j => oT (G i j))), .lst (tab n fun i => prT (R i))] := rfl
 have hs : Zad n c = .lst ((tab (n + 1) c).map T.int) := by unfold Zad; rw [tab_map]
 walk_at "zz"
 refine ZO (ZqT hn) ?_
 by_cases h : Df n c
 ·obtain ⟨u, d, _, _, _, _, hu, hd, _, _, eu, ed, mu, md⟩ := ZhQ h
  rw [ZaZ h]
  rw [ht]
  walk_at "zz"
  refine Zpr ?_
  walk_at "zz"
  refine ⟨tab (n + 1) c, hs, ?_⟩
  walk_at "zz"
  refine ⟨1, rfl, ?_⟩
  walk_at "zz"
  refine ⟨rfl, by rw [Zig]; exact mu, ?_⟩
  rw [Zig, eu]
  walk_at "zz"
  refine Zpr ?_
  walk_at "zz"
  refine ⟨tab (n + 1) c, hs, ?_⟩
  walk_at "zz"
  refine ⟨-1, rfl, ?_⟩
  walk_at "zz"
  refine ⟨rfl, by rw [Zig]; exact md, ?_⟩
  rw [Zig, ed]
  unfold Zad
  walk_at "zz"
  exact ZO (ZeU (b := some (c (Int.toNat 0)))) rfl
 ·rw [ZbN h]
  walk_at "zz"
  refine ZO (Zq2 (by omega) hb hb1 hG) ?_
  walk_at "zz"
  refine ZO (Zrb (by omega) hb bc (Zqz hG)) ?_
  unfold spT
  walk_at "zz"
  rfl
theorem Zvr {n : Nat} {c : Nat → Int} : Zad n (fun i => c i * -1) = Zad n fun i => -(c i) := by
 unfold Zad
 congr 1
 exact ZbI fun i _ => by show T.int (c i * -1) = T.int (-(c i)); congr 1; omega
theorem Zuo {n b : Nat} {G : Nat → Nat → Option Int} {R : Nat → Int × Int} {c : Nat → Int} (hn : n ≤ 60) (hb : b ≤ 1000) (hb1 : 1 ≤ b) (hG : GB b n G) (bc : ∀ i, i < n + 1 → Bd b (c i)) (bg : ∀ y, grt n G (fun i => -(c i)) = some y → Bd 100000 y) : Zgr [Z5 n G R, Zad n c] = some (oT ((grt n G fun i => -(c i)).map fun y => y * -1)) := by
 apply Pk.eq
 unfold Zgr ZmR
 have b1 : Bd b (-1) := by have := ZdQ hb1; unfold Bd at *; simpa using this
 walk_at "zz"
 refine ZO (Zhh (by omega) (by omega) bc b1) ?_
 rw [Zvr]
 walk_at "zz"
 refine ZO (Zoj hn (by omega) hb1 hG fun i hi => by have := bc i hi; show Bd b (-(c i)); unfold Bd at *; omega) ?_
 walk_at "zz"
 exact ZO (Zhg (i := 100000) (by decide) bg (b1.mono (by omega))) rfl
noncomputable def Zny (c : Nat → Int) : T → Bool
 | .int i => decide (0 < c i.toNat)
 | _ => false
noncomputable def Znz (c : Nat → Int) : T → Bool
 | .int i => decide (c i.toNat < 0)
 | _ => false
theorem Zps {c : Nat → Int} : ∀ n, ((tab n fun i => T.int ((1 + i : Nat) : Int)).filter (Zny c)) = (Zax c n).map fun i => T.int (i : Nat)
 | 0 => rfl
 | n + 1 => by
  rw [← ZdD (n := n) (f := fun i => T.int ((1 + i : Nat) : Int)), List.filter_append, Zps n]
  simp only [Zax, List.map_append]
  congr 1
  rw [show 1 + n = n + 1 by omega]
  by_cases h : 0 < c (n + 1) <;> simp [Zny, h]
theorem Zpt {c : Nat → Int} : ∀ n, ((tab n fun i => T.int ((1 + i : Nat) : Int)).filter (Znz c)) = (Zay c n).map fun i => T.int (i : Nat)
 | 0 => rfl
 | n + 1 => by
  rw [← ZdD (n := n) (f := fun i => T.int ((1 + i : Nat) : Int)), List.filter_append, Zpt n]
  simp only [Zay, List.map_append]
  congr 1
  rw [show 1 + n = n + 1 by omega]
  by_cases h : c (n + 1) < 0 <;> simp [Znz, h]
theorem Zpu {σ : TL} {j : Nat} {g f : PE} {us : List Nat} {h : Nat → T} {Q : T → Prop} (hl : us.length ≤ 1000) (hg : Pk (g σ) fun t => t = .lst (us.map fun i => T.int (i : Nat))) (hf : ∀ i ∈ us, Pk (f (Z7 σ j (.int (i : Nat)))) fun t => t = h i) (q : Q (.lst (us.map h))) : Pk (Zam (ZaH g) (Zab j) Zag f σ) Q := by
 obtain ⟨_, e, rfl⟩ := hg
 refine ⟨_, ?_, q⟩
 have hc : Zcs (Zab j) Zag f σ (us.map fun i => T.int (i : Nat)) = some (us.map h) := by
  have key : ∀ l : List Nat, (∀ i ∈ l, i ∈ us) → Zcs (Zab j) Zag f σ (l.map fun i => T.int (i : Nat)) = some (l.map h) := by
   intro l
   induction l with
   | nil => intro _; rfl
   | cons a l ih =>
    intro hm
    obtain ⟨_, e1, rfl⟩ := hf a (hm a Zz5)
    simp only [List.map_cons, Zcs, Zab, Option.bind_some, Zag, if_true, e1, ih fun i m => hm i (Zz2 _ m), Option.map_some]
  exact key us fun i m => m
 simp only [Zam, ZaH, e, Option.bind_some, hc, Option.map_some, List.length_map]
 rw [if_pos (by rw [Za7]; omega)]
theorem Zp2 {σ : TL} {j : Nat} {g : PE} {b : PS} {us : List Nat} {R : T → Prop} {N : TL → Prop} (hg : Pk (g σ) fun t => t = .lst (us.map fun i => T.int (i : Nat))) (P : List Nat → TL → Prop) (h0 : P [] σ) (h1 : ∀ pre i σ, i ∈ us → P pre σ → Psk (b (Z7 σ j (.int (i : Nat)))) R (P (pre ++ [i]))) (h2 : ∀ σ, P us σ → N σ) : Psk (ZaI (ZaH g) (Zab j) b σ) R N := by
 refine ZuZ (ts := us.map fun i => T.int (i : Nat)) (P := fun k σ => P (us.take k) σ) ?_ (by simpa using h0) (fun k t σ hk hP => ?_) (fun σ h => h2 σ (by simpa using h))
 ·obtain ⟨_, e, rfl⟩ := hg
  exact ⟨_, by simp only [ZaH, e, Option.bind_some], rfl⟩
 ·rw [List.getElem?_map] at hk
  obtain ⟨i, ei, rfl⟩ := Zz1.mp hk
  rw [List.take_add_one, ei]
  exact h1 _ i σ (List.mem_of_getElem? ei) hP
noncomputable def sU (G : Nat → Nat → Option Int) (c : Nat → Int) (l : List Nat) : Int := (l.map fun i => c i * (G i 0).getD 0).sum
noncomputable def sD (G : Nat → Nat → Option Int) (c : Nat → Int) (l : List Nat) : Int := (l.map fun i => c i * (G 0 i).getD 0).sum
noncomputable def Zc6 (G : Nat → Nat → Option Int) (c : Nat → Int) (n : Nat) : Prop := (∃ i ∈ Zax c n, G i 0 = none) ∨ ∃ i ∈ Zay c n, G 0 i = none
theorem Zp3 {G : Nat → Nat → Option Int} {c : Nat → Int} {l : List Nat} {i : Nat} : sU G c (l ++ [i]) = sU G c l + c i * (G i 0).getD 0 := by simp [sU]
theorem Zp4 {G : Nat → Nat → Option Int} {c : Nat → Int} {l : List Nat} {i : Nat} : sD G c (l ++ [i]) = sD G c l + c i * (G 0 i).getD 0 := by simp [sD]
theorem tot {G : Nat → Nat → Option Int} {c : Nat → Int} : ∀ n, (Zc6 G c n → (Zcx c (S40 G) n).2 = none) ∧ (¬ Zc6 G c n → (Zcx c (S40 G) n).2 = some (c 0 + sU G c (Zax c n) - sD G c (Zay c n)))
 | 0 => ⟨fun h => (by rcases h with ⟨i, m, _⟩ | ⟨i, m, _⟩ <;> cases m), fun _ => by simp [Zcx, sU, sD, Zax, Zay]⟩
 | n + 1 => by
  obtain ⟨ih1, ih2⟩ := tot (G := G) (c := c) n
  have step : (Zcx c (S40 G) (n + 1)).2 = Zai (Zcx c (S40 G) n).2 (ZcF (S40 G n) (c (n + 1))).2 := rfl
  rw [step]
  have mono : Zc6 G c n → Zc6 G c (n + 1) := fun h => h.imp (fun ⟨i, m, e⟩ => ⟨i, by simp only [Zax, List.mem_append]; exact .inl m, e⟩) fun ⟨i, m, e⟩ => ⟨i, by simp only [Zay, List.mem_append]; exact .inl m, e⟩
  rcases Int.lt_trichotomy (c (n + 1)) 0 with h | h | h
  ·have h0 : ¬ 0 < c (n + 1) := by omega
   have hz : ¬ c (n + 1) = 0 := by omega
   have eu : Zax c (n + 1) = Zax c n := by simp [Zax, h0]
   have ed : Zay c (n + 1) = Zay c n ++ [n + 1] := by simp [Zay, h]
   have et : (ZcF (S40 G n) (c (n + 1))).2 = (G 0 (n + 1)).map fun y => y * (-1) * c (n + 1) := by
    unfold ZcF S40
    rw [if_neg hz, if_pos h]
    cases G 0 (n + 1) <;> rfl
   rw [et]
   cases hg : G 0 (n + 1) with
   | none =>
    refine ⟨fun _ => ?_, fun q => absurd (.inr ⟨n + 1, by rw [ed]; simp, hg⟩) q⟩
    cases (Zcx c (S40 G) n).2 <;> rfl
   | some y =>
    have hl : Zc6 G c (n + 1) → Zc6 G c n := by
     rintro (⟨i, m, e⟩ | ⟨i, m, e⟩)
     ·rw [eu] at m; exact .inl ⟨i, m, e⟩
     ·rw [ed] at m
      rcases List.mem_append.mp m with m | m
      ·exact .inr ⟨i, m, e⟩
      ·rw [List.mem_singleton.mp m, hg] at e; cases e
    refine ⟨fun q => by rw [ih1 (hl q)]; rfl, fun q => ?_⟩
    rw [ih2 fun r => q (mono r), eu, ed, Zp4, hg]
    simp only [Zai, Option.map_some, Option.getD_some]
    congr 1
    have : y * (-1) * c (n + 1) = -(c (n + 1) * y) := by rw [Int.mul_neg, Int.mul_one, Int.neg_mul, Int.mul_comm]
    omega
  ·have h0 : ¬ 0 < c (n + 1) := by omega
   have h1 : ¬ c (n + 1) < 0 := by omega
   have eu : Zax c (n + 1) = Zax c n := by simp [Zax, h0]
   have ed : Zay c (n + 1) = Zay c n := by simp [Zay, h1]
   have et : (ZcF (S40 G n) (c (n + 1))).2 = some 0 := by unfold ZcF; rw [if_pos h]
   have el : Zc6 G c (n + 1) ↔ Zc6 G c n := by unfold Zc6; rw [eu, ed]
   rw [et, Zqu, el, eu, ed]
   exact ⟨ih1, ih2⟩
  ·have h1 : ¬ c (n + 1) < 0 := by omega
   have hz : ¬ c (n + 1) = 0 := by omega
   have eu : Zax c (n + 1) = Zax c n ++ [n + 1] := by simp [Zax, h]
   have ed : Zay c (n + 1) = Zay c n := by simp [Zay, h1]
   have et : (ZcF (S40 G n) (c (n + 1))).2 = (G (n + 1) 0).map fun y => y * c (n + 1) := by
    unfold ZcF S40
    rw [if_neg hz, if_neg h1]
   rw [et]
   cases hg : G (n + 1) 0 with
   | none =>
    refine ⟨fun _ => ?_, fun q => absurd (.inl ⟨n + 1, by rw [eu]; simp, hg⟩) q⟩
    cases (Zcx c (S40 G) n).2 <;> rfl
   | some y =>
    have hl : Zc6 G c (n + 1) → Zc6 G c n := by
     rintro (⟨i, m, e⟩ | ⟨i, m, e⟩)
     ·rw [eu] at m
      rcases List.mem_append.mp m with m | m
      ·exact .inl ⟨i, m, e⟩
      ·rw [List.mem_singleton.mp m, hg] at e; cases e
     ·rw [ed] at m; exact .inr ⟨i, m, e⟩
    refine ⟨fun q => by rw [ih1 (hl q)]; rfl, fun q => ?_⟩
    rw [ih2 fun r => q (mono r), eu, ed, Zp3, hg]
    simp only [Zai, Option.map_some, Option.getD_some]
    congr 1
    have : y * c (n + 1) = c (n + 1) * y := Int.mul_comm _ _
    omega
end L
namespace L
open PySem PySem.W PyProof.Rows PM TM My
theorem Zrf {n b : Nat} {G : Nat → Nat → Option Int} {R : Nat → Int × Int} {c : Nat → Int} {σ : TL} {N : TL → Prop} (hn : n ≤ 60) (hb : b ≤ 100000) (hG : GB b n G) (bc : ∀ i, i < n + 1 → Bd b (c i)) (e0 : σ 0 = some (.tup [.lst (tab (n + 1) fun i => .lst (tab (n + 1) fun j => oT (G i j))), .lst (tab n fun i => prT (R i))])) (e1 : σ 1 = some (.lst (tab (n + 1) fun i => .int (c i)))) (e2 : σ 2 = some (.lst ((Zax c n).map fun i => T.int (i : Nat)))) (e3 : σ 3 = some (.lst ((Zay c n).map fun i => T.int (i : Nat)))) : Psk ((Zu (ZM 4 (Ze Zae (Zam (ZaH (Za 2)) (Zab 104) Zag (Ze Zr (Ze Zr (Ze Zr (Za 0) (Zk 0)) (Za 104)) (Zk 0))) (Zam (ZaH (Za 3)) (Zab 106) Zag (Ze Zr (Ze Zr (Ze Zr (Za 0) (Zk 0)) (Zk 0)) (Za 106))))) (Zu (ZU (ZE (Ze qIn (ZZ) (Za 4))) (ZF (ZZ)) ZX) (Zu (ZM 5 (Ze Zr (Za 1) (Zk 0))) (Zu (ZaI (ZaH (Za 2)) (Zab 6) (ZM 5 (Ze Zae (Za 5) (Ze ZaG (Ze Zr (Za 1) (Za 6)) (Ze Zr (Ze Zr (Ze Zr (Za 0) (Zk 0)) (Za 6)) (Zk 0)))))) (Zu (ZaI (ZaH (Za 3)) (Zab 6) (ZM 5 (Ze ZaX (Za 5) (Ze ZaG (Ze Zr (Za 1) (Za 6)) (Ze Zr (Ze Zr (Ze Zr (Za 0) (Zk 0)) (Zk 0)) (Za 6)))))) (ZF (Za 5))))))) σ) (fun t => t = oT (Zcx c (S40 G) n).2) N := by
 have lu := Zp0 (c := c) n
 have ld := Zp1 (c := c) n
 have hu : ∀ i ∈ Zax c n, i < n + 1 := fun i m => by have := ups_mem.mp m; omega
 have hd : ∀ i ∈ Zay c n, i < n + 1 := fun i m => by have := dns_mem.mp m; omega
 have h0 : 0 < n + 1 := by omega
 walk_at "zz"
 refine Zpu (us := Zax c n) (h := fun i => oT (G i 0)) (by omega) ?_ (fun i m => ?_) ?_
 ·walk_at "zz"
  rfl
 ·have := hu i m
  walk_at "zz"
  rfl
 refine Zpu (us := Zay c n) (h := fun i => oT (G 0 i)) (by omega) ?_ (fun i m => ?_) ?_
 ·walk_at "zz"
  rfl
 ·have := hd i m
  walk_at "zz"
  rfl
 refine ZpY (by simp; omega) ?_
 walk_at "zz"
 refine ZiD (n := 0) (m := 1) .none (.lst fun t m => ?_) ?_
 ·rcases List.mem_append.mp m with m | m
  ·obtain ⟨i, _, rfl⟩ := List.mem_map.mp m; exact ZgG
  ·obtain ⟨i, _, rfl⟩ := List.mem_map.mp m; exact ZgG
 by_cases hl : Zc6 G c n
 ·have hm : T.none ∈ (Zax c n).map (fun i => oT (G i 0)) ++ (Zay c n).map fun i => oT (G 0 i) := by
   rcases hl with ⟨i, m, e⟩ | ⟨i, m, e⟩
   ·exact Zz4 _ (List.mem_map.mpr ⟨i, m, by rw [e]; rfl⟩)
   ·exact Zz3 _ (List.mem_map.mpr ⟨i, m, by rw [e]; rfl⟩)
  rw [ZaZ hm]
  walk_at "zz"
  rw [(tot n).1 hl]
  rfl
 ·have hm : ¬ T.none ∈ (Zax c n).map (fun i => oT (G i 0)) ++ (Zay c n).map fun i => oT (G 0 i) := fun m => hl (by
   rcases List.mem_append.mp m with m | m
   ·obtain ⟨i, m, e⟩ := List.mem_map.mp m
    exact .inl ⟨i, m, oT_inj.mp (by rw [e]; rfl)⟩
   ·obtain ⟨i, m, e⟩ := List.mem_map.mp m
    exact .inr ⟨i, m, oT_inj.mp (by rw [e]; rfl)⟩)
  have gu : ∀ i ∈ Zax c n, ∃ y, G i 0 = some y := fun i m => by
   cases e : G i 0 with
   | none => exact absurd (.inl ⟨i, m, e⟩) hl
   | some y => exact ⟨y, rfl⟩
  have gd : ∀ i ∈ Zay c n, ∃ y, G 0 i = some y := fun i m => by
   cases e : G 0 i with
   | none => exact absurd (.inr ⟨i, m, e⟩) hl
   | some y => exact ⟨y, rfl⟩
  rw [ZbN hm]
  walk_at "zz"
  refine Zp2 (us := Zax c n) (P := fun pre σ' => σ' 0 = some (.tup [.lst (tab (n + 1) fun i => .lst (tab (n + 1) fun j => oT (G i j))), .lst (tab n fun i => prT (R i))]) ∧ σ' 1 = some (.lst (tab (n + 1) fun i => .int (c i))) ∧ σ' 3 = some (.lst ((Zay c n).map fun i => T.int (i : Nat))) ∧ σ' 5 = some (.int (c 0 + sU G c pre))) ?_ ⟨by walk_at "zr", by walk_at "zr", by walk_at "zr", by simp [sU, Z7]⟩ ?_ ?_
  ·walk_at "zz"
   rfl
  ·rintro pre i σ' m ⟨f0, f1, f3, f5⟩
   have hi := hu i m
   obtain ⟨y, ey⟩ := gu i m
   have by_ : Bd b y := hG i 0 hi h0 y ey
   walk_at "zz"
   rw [show (Int.toNat 0) = 0 from rfl, ey, Zan]
   refine ZbY (Zch (bc i hi) by_ (by omega) (by omega)) ?_
   walk_at "zz"
   refine ⟨by walk_at "zr", by walk_at "zr", by walk_at "zr", ?_⟩
   rw [Zbn, Zp3, ey]
   simp only [Option.getD_some]
   congr 2
   omega
  rintro σ1 ⟨f0, f1, f3, f5⟩
  walk_at "zz"
  refine Zp2 (us := Zay c n) (P := fun pre σ' => σ' 0 = some (.tup [.lst (tab (n + 1) fun i => .lst (tab (n + 1) fun j => oT (G i j))), .lst (tab n fun i => prT (R i))]) ∧ σ' 1 = some (.lst (tab (n + 1) fun i => .int (c i))) ∧ σ' 5 = some (.int (c 0 + sU G c (Zax c n) - sD G c pre))) ?_ ⟨by walk_at "zr", by walk_at "zr", by simpa [sD] using f5⟩ ?_ ?_
  ·walk_at "zz"
   rfl
  ·rintro pre i σ' m ⟨g0, g1, g5⟩
   have hi := hd i m
   obtain ⟨y, ey⟩ := gd i m
   have by_ : Bd b y := hG 0 i h0 hi y ey
   walk_at "zz"
   rw [show (Int.toNat 0) = 0 from rfl, ey, Zan]
   refine ZbY (Zch (bc i hi) by_ (by omega) (by omega)) ?_
   walk_at "zz"
   refine ⟨by walk_at "zr", by walk_at "zr", ?_⟩
   rw [Zbn, Zp4, ey]
   simp only [Option.getD_some]
   congr 2
   omega
  rintro σ2 ⟨g0, g1, g5⟩
  walk_at "zz"
  rw [(tot n).2 hl]
  rfl
theorem ZrX {n b : Nat} {G : Nat → Nat → Option Int} {R : Nat → Int × Int} {c : Nat → Int} {σ : TL} {N : TL → Prop} (hn : n ≤ 60) (hb : b ≤ 100000) (hG : GB b n G) (bc : ∀ i, i < n + 1 → Bd b (c i)) (e0 : σ 0 = some (.tup [.lst (tab (n + 1) fun i => .lst (tab (n + 1) fun j => oT (G i j))), .lst (tab n fun i => prT (R i))])) (e1 : σ 1 = some (.lst (tab (n + 1) fun i => .int (c i)))) (e2 : σ 2 = some (.lst ((Zax c n).map fun i => T.int (i : Nat)))) (e3 : σ 3 = some (.lst ((Zay c n).map fun i => T.int (i : Nat)))) : Psk ((Zu (ZU (Zap (ZE (Ze qEq (Zs Zaq (Zd (Za 2) Zn)) (Zk 1))) (Zap (ZE (Ze qEq (Zs Zaq (Zd (Za 3) Zn)) (Zk 1))) (Zap (ZE (Ze qEq (Ze Zr (Za 1) (Ze Zr (Za 2) (Zk 0))) (Zk 1))) (Zap (ZE (Ze qEq (Ze Zr (Za 1) (Ze Zr (Za 3) (Zk 0))) (pUn Zbh (Zk 1)))) Zag)))) (Zu (ZU (ZE (Ze qIs (Ze Zr (Ze Zr (Ze Zr (Za 0) (Zk 0)) (Ze Zr (Za 2) (Zk 0))) (Ze Zr (Za 3) (Zk 0))) (ZZ))) (ZF (ZZ)) ZX) (ZF (Ze Zae (Ze Zr (Ze Zr (Ze Zr (Za 0) (Zk 0)) (Ze Zr (Za 2) (Zk 0))) (Ze Zr (Za 3) (Zk 0))) (Ze Zr (Za 1) (Zk 0))))) ZX) (Zu (ZM 4 (Ze Zae (Zam (ZaH (Za 2)) (Zab 104) Zag (Ze Zr (Ze Zr (Ze Zr (Za 0) (Zk 0)) (Za 104)) (Zk 0))) (Zam (ZaH (Za 3)) (Zab 106) Zag (Ze Zr (Ze Zr (Ze Zr (Za 0) (Zk 0)) (Zk 0)) (Za 106))))) (Zu (ZU (ZE (Ze qIn (ZZ) (Za 4))) (ZF (ZZ)) ZX) (Zu (ZM 5 (Ze Zr (Za 1) (Zk 0))) (Zu (ZaI (ZaH (Za 2)) (Zab 6) (ZM 5 (Ze Zae (Za 5) (Ze ZaG (Ze Zr (Za 1) (Za 6)) (Ze Zr (Ze Zr (Ze Zr (Za 0) (Zk 0)) (Za 6)) (Zk 0)))))) (Zu (ZaI (ZaH (Za 3)) (Zab 6) (ZM 5 (Ze ZaX (Za 5) (Ze ZaG (Ze Zr (Za 1) (Za 6)) (Ze Zr (Ze Zr (Ze Zr (Za 0) (Zk 0)) (Zk 0)) (Za 6)))))) (ZF (Za 5)))))))) σ) (fun t => t = oT (grt n G c)) N := by
 by_cases h : Df n c
 ·obtain ⟨u, d, eu, ed, hcu, hcd, hu, hd, _, _, iu, id_, _, _⟩ := ZhQ h
  have hg : grt n G c = Zai (G u d) (some (c 0)) := by unfold grt; rw [ZaZ h, iu, id_]; rfl
  rw [hg]
  rw [eu] at e2
  rw [ed] at e3
  simp only [List.map_cons, List.map_nil] at e2 e3
  walk_at "zz"
  cases hx : G u d with
  | none =>
   rw [Za6]
   walk_at "zz"
   rfl
  | some y =>
   rw [Zan]
   walk_at "zz"
   rw [hx, Zan]
   walk_at "zz"
   rfl
 ·have hg : grt n G c = (Zcx c (S40 G) n).2 := by unfold grt; rw [ZbN h]; rfl
  rw [hg]
  refine ZcE (fun σ' => σ' = σ) ?_ ?_
  ·by_cases l1 : (Zax c n).length = 1
   ·obtain ⟨u, eu⟩ := List.length_eq_one_iff.mp l1
    have hu : u < n + 1 := by have := ups_mem.mp (show u ∈ Zax c n by rw [eu]; simp); omega
    by_cases l2 : (Zay c n).length = 1
    ·obtain ⟨d, ed⟩ := List.length_eq_one_iff.mp l2
     have hd : d < n + 1 := by have := dns_mem.mp (show d ∈ Zay c n by rw [ed]; simp); omega
     have hno : ¬ (c u = 1 ∧ c d = -1) := fun q => h (df_iff.mpr ⟨by rw [eu]; simp [q.1], by rw [ed]; simp [q.2]⟩)
     rw [eu] at e2
     rw [ed] at e3
     simp only [List.map_cons, List.map_nil] at e2 e3
     by_cases q1 : c u = 1
     ·have q2 : c d ≠ -1 := fun q => hno ⟨q1, q⟩
      walk_at "zz"
      rfl
     ·walk_at "zz"
      rfl
    ·rw [eu] at e2
     simp only [List.map_cons, List.map_nil] at e2
     have l3 : ((((Zay c n).map fun i => T.int (i : Nat)).length : Nat) : Int) ≠ 1 := by rw [List.length_map]; omega
     walk_at "zz"
     rfl
   ·have l3 : ((((Zax c n).map fun i => T.int (i : Nat)).length : Nat) : Int) ≠ 1 := by rw [List.length_map]; omega
    walk_at "zz"
    rfl
  ·rintro _ rfl
   exact Zrf hn hb hG bc e0 e1 e2 e3
theorem ZgW {n b : Nat} {G : Nat → Nat → Option Int} {R : Nat → Int × Int} {c : Nat → Int} (hn : n ≤ 60) (hb : b ≤ 100000) (hG : GB b n G) (bc : ∀ i, i < n + 1 → Bd b (c i)) : ZeJ [Z5 n G R, Zad n c] = some (oT (grt n G c)) := by
 apply Pk.eq
 unfold ZeJ Zji
 have ht : Z5 n G R = .tup [.lst (tab (n + 1) fun i => .lst (tab (n + 1) fun j => oT (G i j))), .lst (tab n fun i => prT (R i))] := rfl
 rw [ht]
 unfold Zad
 refine Zm7 rfl ?_
 have rg : ∀ {σ : TL} {j : Nat}, σ 1 = some (.lst (tab (n + 1) fun i => .int (c i))) → Pl (Zaz (Zd (Zk 1) (Zd (Zs Zaq (Zd (Za 1) Zn)) Zn)) σ) fun us => us = tab n fun i => T.int ((1 + i : Nat) : Int) := fun {σ} {j} e => by
  refine ZhX (a := 1) (m := n) (by omega) (by omega) ?_ rfl
  simp only [Zd, Zk, Zn, Zs, Za, e, Option.bind_some, Zaq, Zau]
  congr 3
  congr 1
  omega
 refine ZcE (fun σ' => σ' 0 = some (.tup [.lst (tab (n + 1) fun i => .lst (tab (n + 1) fun j => oT (G i j))), .lst (tab n fun i => prT (R i))]) ∧ σ' 1 = some (.lst (tab (n + 1) fun i => .int (c i))) ∧ σ' 2 = some (.lst ((Zax c n).map fun i => T.int (i : Nat)))) ?_ ?_
 ·refine Zim ?_
  refine Zmi (ts := tab n fun i => T.int ((1 + i : Nat) : Int)) (P := Zny c) (by rw [Zau]; omega) (rg (j := 0) rfl) (fun t m => ?_) ?_
  ·obtain ⟨i, hi, rfl⟩ := ZdE m
   have h1 : 1 + i < n + 1 := by omega
   walk_at "zz"
   show decide (0 < c (1 + i)) = decide (0 < c ((1 + i : Nat) : Int).toNat)
   rw [Int.toNat_natCast]
  ·rw [Zps]
   exact ⟨rfl, rfl, Zbn⟩
 rintro σ1 ⟨f0, f1, f2⟩
 refine ZcE (fun σ' => σ' 0 = some (.tup [.lst (tab (n + 1) fun i => .lst (tab (n + 1) fun j => oT (G i j))), .lst (tab n fun i => prT (R i))]) ∧ σ' 1 = some (.lst (tab (n + 1) fun i => .int (c i))) ∧ σ' 2 = some (.lst ((Zax c n).map fun i => T.int (i : Nat))) ∧ σ' 3 = some (.lst ((Zay c n).map fun i => T.int (i : Nat)))) ?_ ?_
 ·refine Zim ?_
  refine Zmi (ts := tab n fun i => T.int ((1 + i : Nat) : Int)) (P := Znz c) (by rw [Zau]; omega) (rg (j := 0) f1) (fun t m => ?_) ?_
  ·obtain ⟨i, hi, rfl⟩ := ZdE m
   have h1 : 1 + i < n + 1 := by omega
   walk_at "zz"
   show decide (c (1 + i) < 0) = decide (c ((1 + i : Nat) : Int).toNat < 0)
   rw [Int.toNat_natCast]
  ·rw [Zpt]
   exact ⟨by walk_at "zr", by walk_at "zr", by walk_at "zr", Zbn⟩
 rintro σ2 ⟨g0, g1, g2, g3⟩
 exact ZrX hn hb hG bc g0 g1 g2 g3
end L
namespace L
open PySem PySem.W PyProof.Rows PM TM My
theorem Zp5 {b n : Nat} {c : Nat → Int} {S : Nat → Sp} (bc : ∀ i, i < n + 1 → Bd b (c i)) (bS : ∀ i, i < n → SBd b (S i)) : ∀ j, j ≤ n → ∀ y, (Zcx c S j).2 = some y → Bd (b + b + j + 1) y
 | 0, _, y, e => by cases e; exact (bc 0 (by omega)).mono (by omega)
 | j + 1, h, y, e => by
  obtain ⟨p, q, h1, h2, rfl⟩ := addO_some.mp (show Zai (Zcx c S j).2 (ZcF (S j) (c (j + 1))).2 = some y from e)
  have ih := Zp5 bc bS j (by omega) p h1
  have hq : Bd (b + b) q := by
   unfold ZcF at h2
   split at h2
   ·cases h2; exact Zed
   ·split at h2
    ·obtain ⟨z, e1, rfl⟩ := Zz1.mp h2
     exact ((bS j (by omega)).1 z e1).mul (bc (j + 1) (by omega))
    ·obtain ⟨z, e1, rfl⟩ := Zz1.mp h2
     exact ((bS j (by omega)).2 z e1).mul (bc (j + 1) (by omega))
  exact (ih.add (hq.mono (by omega))).mono (by omega)
theorem Zih {b n : Nat} {c : Nat → Int} (bc : ∀ i, i < n + 1 → Bd b (c i)) : ∀ i, i < n + 1 → Bd b (-(c i)) := fun i hi => by
 have := bc i hi
 unfold Bd at *
 omega
noncomputable def Za1 (c : Nat → Int) (x : Nat → Int) : Nat → Int
 | 0 => c 0
 | j + 1 => Za1 c x j + c (j + 1) * x j
theorem Zp6 {c x : Nat → Int} : ∀ n, c 0 + (tab n fun i => c (i + 1) * x i).sum = Za1 c x n
 | 0 => by simp [tab, Za1]
 | n + 1 => by
  rw [← ZdD (n := n) (f := fun i => c (i + 1) * x i), List.sum_append]
  have := Zp6 (c := c) (x := x) n
  simp only [List.sum_cons, List.sum_nil, Za1]
  omega
theorem ZqA {c x : Nat → Int} {S : Nat → Sp} {n : Nat} (h : ∀ i, i < n → InS (S i) (x i)) : ∀ j, j ≤ n → InS (Zcx c S j) (Za1 c x j)
 | 0, _ => ⟨fun l e => by cases e; exact Int.le_refl _, fun l e => by cases e; exact Int.le_refl _⟩
 | j + 1, hj => Zui (ZqA h j (by omega)) (Ztq (h j (by omega)))
theorem Zp7 {c x : Nat → Int} : ∀ n, Za1 (fun i => -(c i)) x n = -(Za1 c x n)
 | 0 => rfl
 | n + 1 => by
  simp only [Za1, Zp7 n, Int.neg_mul]
  omega
noncomputable def sV (c x : Nat → Int) (l : List Nat) : Int := (l.map fun i => c i * x (i - 1)).sum
theorem ZoX {c x : Nat → Int} : ∀ n, Za1 c x n = c 0 + sV c x (Zax c n) + sV c x (Zay c n)
 | 0 => by simp [Za1, sV, Zax, Zay]
 | n + 1 => by
  have ih := ZoX (c := c) (x := x) n
  have sn : ∀ l, sV c x (l ++ [n + 1]) = sV c x l + c (n + 1) * x n := fun l => by simp [sV]
  simp only [Za1, Zax, Zay, ih]
  rcases Int.lt_trichotomy (c (n + 1)) 0 with h | h | h
  ·rw [if_neg (by omega), if_pos h, List.append_nil, sn]
   omega
  ·rw [if_neg (by omega), if_neg (by omega), List.append_nil, List.append_nil, h]
   omega
  ·rw [if_pos h, if_neg (by omega), List.append_nil, sn]
   omega
theorem Znf {n : Nat} {G : Nat → Nat → Option Int} {R : Nat → Int × Int} {c x : Nat → Int} (h : ZbH n G R x) {y : Int} (e : grt n G c = some y) : Za1 c x n ≤ y := by
 unfold grt at e
 by_cases hd : Df n c
 ·rw [ZaZ hd] at e
  obtain ⟨u, d, eu, ed, hcu, hcd, hu, hdn, hu1, hd1, iu, id_, _, _⟩ := ZhQ hd
  rw [iu, id_] at e
  obtain ⟨p, q, h1, h2, rfl⟩ := addO_some.mp (show Zai (G u d) (some (c 0)) = some y from e)
  cases h2
  have hb := h.1 u d hu hdn p h1
  rw [ZoX, eu, ed]
  have f : ∀ i, 1 ≤ i → ZaJ x i = x (i - 1) := fun i hi => by
   cases i with
   | zero => omega
   | succ i => rfl
  rw [f u hu1, f d hd1] at hb
  simp only [sV, List.map_cons, List.map_nil, List.sum_cons, List.sum_nil, hcu, hcd]
  omega
 ·rw [ZbN hd] at e
  refine (ZqA (S := S40 G) (n := n) (fun i hi => ⟨fun l el => ?_, fun r er => ?_⟩) n (Nat.le_refl n)).2 y e
  ·obtain ⟨z, e1, rfl⟩ := Zz1.mp el
   have := h.1 0 (i + 1) (by omega) (by omega) z e1
   have f0 : ZaJ x 0 = 0 := rfl
   have f1 : ZaJ x (i + 1) = x i := rfl
   show z * (-1) ≤ x i
   omega
  ·have := h.1 (i + 1) 0 (by omega) (by omega) r er
   have f0 : ZaJ x 0 = 0 := rfl
   have f1 : ZaJ x (i + 1) = x i := rfl
   omega
theorem Zup {n b : Nat} {c x : Nat → Int} (hn : n ≤ 60) (hb : b ≤ 100000) (bc : ∀ i, i < n + 1 → Bd b (c i)) (bx : ∀ i, i < n → Bd b (x i)) : Zho [Zad n c, ZiM n x] = some (.int (Za1 c x n)) := by
 apply Pk.eq
 unfold Zho ZkI Zad ZiM
 have h0 : 0 < n + 1 := by omega
 walk_at "zz"
 refine Zcz (n := n) (a := fun i => .int i) (b := fun i => .int (c (i + 1) * x i)) (by omega) ?_ (fun i hi => ?_) ?_
 ·walk_at "zz"
  rfl
 ·walk_at "zz"
  rw [show ((i : Int) + 1).toNat = i + 1 by omega]
  exact ZbY (Zch (bc (i + 1) (by omega)) (bx i hi) (by omega) (by omega)) rfl
 walk_at "zz"
 refine ⟨.int (tab n fun i => c (i + 1) * x i).sum, by simp only [ZiL, ZtV, Option.map_some], ?_⟩
 walk_at "zz"
 rw [show (Int.toNat 0) = 0 from rfl, Zp6]
end L
namespace L
open PySem PySem.W PyProof.Rows PM TM My
noncomputable def SumB (n : Nat) (c : Nat → Int) (K : Int) : Prop := Bd 140 (c 0) ∧ ∀ i, 1 ≤ i → i < n + 1 → -K ≤ c i ∧ c i ≤ K
theorem SumB.bd {n : Nat} {c : Nat → Int} {K : Int} (h : SumB n c K) (hK : K ≤ 4000000000) : ∀ i, i < n + 1 → Bd 140 (c i) := fun i hi => by
 by_cases q : i = 0
 ·subst q; exact h.1
 ·have := h.2 i (by omega) hi
  exact ZaW (i := 33) (by omega) (by decide)
theorem SumB.mono {n : Nat} {c : Nat → Int} {K K' : Int} (h : SumB n c K) (hK : K ≤ K') : SumB n c K' := ⟨h.1, fun i h1 h2 => by have := h.2 i h1 h2; omega⟩
theorem Zii {σ : TL} {x n : Nat} {c : Nat → Int} {v k K K' : Int} {N : TL → Prop} (e : σ x = some (.lst (tab (n + 1) fun i => .int (c i)))) (h0 : 1 ≤ k) (h1 : k < (n + 1 : Nat)) (bc : SumB n c K) (hK : K ≤ K') (v0 : -K' ≤ v) (v1 : v ≤ K') (h : ∀ c', SumB n c' K' → N (Z7 σ x (.lst (tab (n + 1) fun i => .int (c' i))))) : PutP σ x (.int v) (.int k) N := by
 refine Zs9 (n := n + 1) (f := fun i => .int (c i)) e (by omega) h1 ?_
 have := h (fun i => if i = k.toNat then v else c i) ⟨by show Bd 140 (if 0 = k.toNat then v else c 0); rw [if_neg (by omega)]; exact bc.1, fun i hi1 hi2 => by
  by_cases q : i = k.toNat
  ·simp only [q, if_true]; exact ⟨v0, v1⟩
  ·simp only [q, if_false]; have := bc.2 i hi1 hi2; omega⟩
 rw [show (tab (n + 1) fun i => if i = k.toNat then T.int v else T.int (c i)) = tab (n + 1) fun i => T.int (if i = k.toNat then v else c i) from ZbI fun i _ => by split <;> rfl]
 exact this
end L
namespace L
open PySem PySem.W PyProof.Rows PM TM My
end L
namespace L
open PySem PySem.W PyProof.Rows PM TM My
noncomputable def unC (i : Nat) : Nat → Int := fun k => if 0 < i ∧ k = i then 1 else 0
theorem ZlC {i n : Nat} (hn : n ≤ 900) : Zem [.int i, .int n] = some (Zad n (unC i)) := by
 apply Pk.eq
 unfold Zem Zl5 Zad
 walk_at "zz"
 refine Zcz (n := n + 1) (a := fun k => .int (k : Nat)) (b := fun k => .int (unC i k)) (by omega) ?_ (fun k hk => ?_) rfl
 ·walk_at "zz"
  exact ZiB (n + 1) (by omega) (by omega) rfl
 ·walk_at "zz"
  by_cases h : 0 < i
  ·refine ⟨fun _ => ?_, fun c => absurd c (by simp; omega)⟩
   walk_at "zz"
   by_cases q : k = i
   ·refine ⟨fun _ => ?_, fun c => absurd c (by simp [q])⟩
    walk_at "zz"
    show _ = T.int (unC i k)
    unfold unC
    rw [if_pos ⟨h, q⟩]
   ·refine ⟨fun c => absurd c (by simp; omega), fun _ => ?_⟩
    walk_at "zz"
    show _ = T.int (unC i k)
    unfold unC
    rw [if_neg (fun c => q c.2)]
  ·refine ⟨fun c => absurd c (by simp; omega), fun _ => ⟨fun c => absurd c (by decide), fun _ => ?_⟩⟩
   walk_at "zz"
   show _ = T.int (unC i k)
   unfold unC
   rw [if_neg (fun c => h c.1)]
theorem Zsg {n : Nat} {c d : Nat → Int} (hn : n ≤ 900) : ZhB [Zad n c, Zad n d] = some (Zad n fun k => c k + d k) := by
 apply Pk.eq
 unfold ZhB Zlq Zad
 walk_at "zz"
 refine Zmo (n := n + 1) (a := fun i => .int (c i)) (b := fun i => .int (d i)) (c := fun i => .int (c i + d i)) (by omega) ?_ (fun i hi => ?_) rfl
 ·walk_at "zz"
  rfl
 ·walk_at "zz"
  rfl
theorem Zok {n b : Nat} {c d : Nat → Int} (hn : n ≤ 900) (hb1 : 1 ≤ b) (hb : b ≤ 100000) (bd : ∀ i, i < n + 1 → Bd b (d i)) : ZeZ [Zad n c, Zad n d] = some (Zad n fun k => c k - d k) := by
 apply Pk.eq
 unfold ZeZ Zls
 walk_at "zz"
 refine ZO (Zhh (by omega) hb bd (show Bd b (-1) by unfold Bd; have := ZdQ hb1; unfold Bd at this; simpa using this)) ?_
 walk_at "zz"
 refine ZO (Zsg hn) ?_
 walk_at "zz"
 have : (fun k => c k + d k * -1) = fun k => c k - d k := by funext k; omega
 rw [this]
theorem ZqM : unC 0 = fun _ => 0 := by funext k; unfold unC; rw [if_neg (by omega)]
theorem Zp8 {b n : Nat} {G : Nat → Nat → Option Int} {c : Nat → Int} (hG : GB b n G) (bc : ∀ i, i < n + 1 → Bd b (c i)) : ∀ y, grt n G c = some y → Bd (b + b + n + 1) y := fun y e => by
 unfold grt at e
 by_cases h : Df n c
 ·rw [ZaZ h] at e
  obtain ⟨u, d, _, _, _, _, hu, hd, _, _, iu, id_, _, _⟩ := ZhQ h
  rw [iu, id_] at e
  obtain ⟨p, q, h1, h2, rfl⟩ := addO_some.mp (show Zai (G u d) (some (c 0)) = some y from e)
  cases h2
  exact ((hG u d hu hd p h1).add (bc 0 (by omega))).mono (by omega)
 ·rw [ZbN h] at e
  exact (Zp5 bc (Zqz hG) n (Nat.le_refl n) y e).mono (by omega)
theorem Zij {c d x : Nat → Int} : ∀ n, Za1 (fun k => c k - d k) x n = Za1 c x n - Za1 d x n
 | 0 => rfl
 | n + 1 => by
  simp only [Za1, Zij n, Int.sub_mul]
  omega
theorem Zpv {x : Nat → Int} : ∀ n, Za1 (fun _ => 0) x n = 0
 | 0 => rfl
 | n + 1 => by simp only [Za1, Zpv n, Int.zero_mul]; omega
end L
namespace L
open PySem PySem.W PyProof.Rows PM TM My
theorem ZoY {ns : List Int} {n : Nat} {kk : Int} {w at_ m K lo K' : Int} {c : Nat → Int} {σ : TL} {Q : T → Prop} {N : TL → Prop} (hk0 : 0 ≤ kk) (hk9 : kk ≤ 1000) (hm : 0 < m) (hn : n ≤ 9) (hK : K ≤ K') (hlo : -K' ≤ -lo) (hhi : m - 1 - lo ≤ K') (e0 : σ 0 = some (scr ns)) (e1 : σ 1 = some (.int kk)) (e2 : σ 2 = some (.int n)) (e4 : σ 4 = some (.int w)) (e5 : σ 5 = some (.int (1 + at_))) (e3 : σ 3 = some (.lst (tab (n + 1) fun i => .int (c i)))) (bc : SumB n c K) (h : ∀ σ' c', σ' 0 = some (scr ns) → σ' 1 = some (.int kk) → σ' 2 = some (.int n) → σ' 4 = some (.int w) → σ' 5 = some (.int (1 + at_)) → σ' 3 = some (.lst (tab (n + 1) fun i => .int (c' i))) → SumB n c' K' → N σ') (pm plo : PE) (epm : ∀ σ, pm σ = some (.int m)) (eplo : ∀ σ, plo σ = some (.int lo)) : Psk (ZaI (Zaz (Zd (Za 2) Zn)) (Zab 7) (Zbc 3 [] (Ze ZaX (Zs Zbt (Zd (Za 0) (Zd (Ze Zae (Ze Zae (Za 1) (Zk 1)) (Za 7)) (Zd pm Zn)))) plo) ZaN (Ze Zae (Za 7) (Zk 1))) σ) Q N := by
 refine ZbK (n := n) (a := fun i => .int i) (P := fun _ σ' => σ' 0 = some (scr ns) ∧ σ' 1 = some (.int kk) ∧ σ' 2 = some (.int n) ∧ σ' 4 = some (.int w) ∧ σ' 5 = some (.int (1 + at_)) ∧ ∃ c', σ' 3 = some (.lst (tab (n + 1) fun i => .int (c' i))) ∧ SumB n c' K') ?_ ⟨e0, e1, e2, e4, e5, c, e3, bc.mono hK⟩ ?_ ?_
 ·walk_at "zz"
  rfl
 ·rintro i σ' hi ⟨f0, f1, f2, f4, f5, c', f3, bc'⟩
  obtain ⟨k0, k1⟩ := Zci ns (kk + 1 + (i : Int)) hm
  walk_at "zz"
  refine ⟨_, epm _, ?_⟩
  walk_at "zz"
  refine ZO (Zcj (by omega) (by omega) hm) ?_
  refine ⟨_, eplo _, ?_⟩
  walk_at "zz"
  refine Zii (n := n) (c := c') (K := K') (K' := K') (by walk_at "zr") (by omega) (by omega) bc' (Int.le_refl _) (by omega) (by omega) fun c2 bc2 => ?_
  exact ⟨by walk_at "zr", by walk_at "zr", by walk_at "zr", by walk_at "zr", by walk_at "zr", c2, Zbn, bc2⟩
 ·rintro σ' ⟨f0, f1, f2, f4, f5, c', f3, bc'⟩
  exact h σ' c' f0 f1 f2 f4 f5 f3 bc'
theorem ZwN {ns : List Int} {n : Nat} {kk : Int} (hk0 : 0 ≤ kk) (hk9 : kk ≤ 1000) (hL : Lay ns) (hn : n ≤ 9) : Pk (ZhN [scr ns, .int kk, .int n]) fun t => ∃ c, t = Zad n c ∧ SumB n c 1000000000 := by
 unfold ZhN Zl3
 have bn : Bd 140 (Zb2 ns kk) := ZaW (Zgs ns kk) (by decide)
 obtain ⟨p0, p1⟩ := Zci ns kk (show (0 : Int) < 6 by decide)
 refine Zm7 rfl ?_
 refine ZcE (fun σ' => σ' 0 = some (scr ns) ∧ σ' 1 = some (.int kk) ∧ σ' 2 = some (.int n) ∧ ∃ c, σ' 3 = some (.lst (tab (n + 1) fun i => .int (c i))) ∧ SumB n c 0) ?_ ?_
 ·walk_at "zz"
  refine ZO (Zfa hL (by omega) (by omega)) ?_
  walk_at "zz"
  refine Zvp (by omega) ?_
  refine ZpH (by omega) ?_
  rw [show cn (T.int (Zb2 ns kk)) (fun _ => T.int 0) = fun i => T.int (cn (Zb2 ns kk) (fun _ => 0) i) from by funext i; cases i <;> rfl]
  refine ⟨Zos fun _ _ => rfl, ?_⟩
  refine ⟨rfl, rfl, rfl, _, Zbn, bn, fun i h1 h2 => ?_⟩
  cases i with
  | zero => omega
  | succ i => exact ⟨Int.le_refl 0, Int.le_refl 0⟩
 rintro σ1 ⟨e0, e1, e2, c, e3, bc⟩
 walk_at "zz"
 refine ZO (Zcj (by omega) (by omega) (by decide)) ?_
 by_cases hz : Zbi ns kk 6 = 0 ∨ n = 0
 ·rcases hz with hz | hz
  ·walk_at "zz"
   exact ⟨c, rfl, bc.mono (by decide)⟩
  ·by_cases q : Zbi ns kk 6 = 0
   ·walk_at "zz"
    exact ⟨c, rfl, bc.mono (by decide)⟩
   ·have : (n : Int) = 0 := by omega
    walk_at "zz"
    exact ⟨c, rfl, bc.mono (by decide)⟩
 have hz1 : Zbi ns kk 6 ≠ 0 := fun q => hz (.inl q)
 have hn0 : (n : Int) ≠ 0 := fun q => hz (.inr (by omega))
 obtain ⟨a0, a1⟩ := Zci ns (kk + 1) (show (0 : Int) < n by omega)
 walk_at "zz"
 refine ZO (Zcj (by omega) (by omega) (by omega)) ?_
 refine Zqj ?_
 generalize Zbi ns kk 6 = w at *
 generalize Zbi ns (kk + 1) n = at_ at *
 let M : Int → TL → Prop := fun K σ' => σ' 0 = some (scr ns) ∧ σ' 1 = some (.int kk) ∧ σ' 2 = some (.int n) ∧ σ' 4 = some (.int w) ∧ σ' 5 = some (.int (1 + at_)) ∧ ∃ c, σ' 3 = some (.lst (tab (n + 1) fun i => .int (c i))) ∧ SumB n c K
 refine ZcE (M 6) ?_ ?_
 ·walk_at "zz"
  refine ⟨fun q => ?_, fun q => ?_⟩
  ·obtain ⟨k0, k1⟩ := Zci ns (kk + 2) (show (0 : Int) < 13 by decide)
   walk_at "zz"
   refine ZO (Zcj (by omega) (by omega) (by decide)) ?_
   walk_at "zz"
   refine Zii (n := n) (c := c) (K := 0) (K' := 6) (by walk_at "zr") (by omega) (by omega) bc (by decide) (by omega) (by omega) fun c' bc' => ?_
   exact ⟨by walk_at "zr", by walk_at "zr", by walk_at "zr", by walk_at "zr", by walk_at "zr", c', Zbn, bc'⟩
  ·walk_at "zz"
   exact ⟨by walk_at "zr", by walk_at "zr", by walk_at "zr", by walk_at "zr", by walk_at "zr", c, by walk_at "zr", bc.mono (by decide)⟩
 clear bc e3 c
 rintro σ2 ⟨f0, f1, f2, f4, f5, c1, f3, bc1⟩
 refine ZcE (M 7) ?_ ?_
 ·have go : Psk ((Zu (ZM 6 (Ze Zae (Zk 1) (Zs Zbt (Zd (Za 0) (Zd (Ze Zae (Za 1) (Zk 2)) (Zd (Za 2) Zn)))))) (Zu (Zbc 3 [] (Zk 1) ZaN (Za 5)) (Zbc 3 [] (Ze ZaX (Ze Zr (Za 3) (Za 6)) (Zk 1)) ZaN (Za 6)))) σ2) (fun t => ∃ c, t = Zad n c ∧ SumB n c 1000000000) (M 7) := by
   obtain ⟨k0, k1⟩ := Zci ns (kk + 2) (show (0 : Int) < n by omega)
   walk_at "zz"
   refine ZO (Zcj (by omega) (by omega) (by omega)) ?_
   generalize Zbi ns (kk + 2) n = to_ at *
   walk_at "zz"
   refine Zii (n := n) (c := c1) (K := 6) (K' := 6) (by walk_at "zr") (by omega) (by omega) bc1 (by decide) (by decide) (by decide) fun c' bc' => ?_
   have hto := bc'.2 (1 + to_).toNat (by omega) (by omega)
   walk_at "zz"
   refine Zii (n := n) (c := c') (K := 6) (K' := 7) (by walk_at "zr") (by omega) (by omega) bc' (by decide) (by omega) (by omega) fun c2 bc2 => ?_
   exact ⟨by walk_at "zr", by walk_at "zr", by walk_at "zr", by walk_at "zr", by walk_at "zr", c2, Zbn, bc2⟩
  have no : M 7 σ2 := ⟨f0, f1, f2, f4, f5, c1, f3, bc1.mono (by decide)⟩
  by_cases q2 : w = 2
  ·refine Zm6 ?_
   refine ⟨true, ?_, fun _ => go, fun e => by cases e⟩
   simp [bOr, ZE, Ze, Za, f4, Zk, qEq, Zh5, ZbW, q2]
  ·by_cases q3 : w = 3
   ·refine Zm6 ?_
    refine ⟨true, ?_, fun _ => go, fun e => by cases e⟩
    simp [bOr, ZE, Ze, Za, f4, Zk, qEq, Zh5, ZbW, q3]
   ·walk_at "zz"
    exact no
 clear bc1 f3 c1
 clear f0 f1 f2 f4 f5
 rintro σ3 ⟨f0, f1, f2, f4, f5, c1, f3, bc1⟩
 refine ZcE (M 7) ?_ ?_
 ·walk_at "zz"
  refine ⟨fun q => ?_, fun q => ?_⟩
  ·exact ZoY hk0 hk9 (m := 7) (lo := 3) (K := 7) (K' := 7) (by decide) hn (by decide) (by decide) (by decide) f0 f1 f2 f4 f5 f3 bc1 (fun σ' c' g0 g1 g2 g4 g5 g3 bc' => ⟨g0, g1, g2, g4, g5, c', g3, bc'⟩) _ _ (fun _ => rfl) (fun _ => rfl)
  ·walk_at "zz"
   exact ⟨f0, f1, f2, f4, f5, c1, f3, bc1⟩
 clear bc1 f3 c1
 clear f0 f1 f2 f4 f5
 rintro σ4 ⟨f0, f1, f2, f4, f5, c1, f3, bc1⟩
 refine ZcE (M 1000000000) ?_ ?_
 ·walk_at "zz"
  refine ⟨fun q => ?_, fun q => ?_⟩
  ·exact ZoY hk0 hk9 (m := 2000000001) (lo := 1000000000) (K := 7) (K' := 1000000000) (by decide) hn (by decide) (by decide) (by decide) f0 f1 f2 f4 f5 f3 bc1 (fun σ' c' g0 g1 g2 g4 g5 g3 bc' => ⟨g0, g1, g2, g4, g5, c', g3, bc'⟩) _ _ (fun _ => rfl) (fun _ => rfl)
  ·walk_at "zz"
   exact ⟨f0, f1, f2, f4, f5, c1, f3, bc1.mono (by decide)⟩
 rintro σ5 ⟨g0, g1, g2, g4, g5, c2, g3, bc2⟩
 walk_at "zz"
 exact ⟨c2, rfl, bc2⟩
end L
namespace L
open PySem PySem.W PyProof.Rows PM TM My
theorem ZqB {a : Nat} (h : 1 ≤ a) : unC a a = 1 := by unfold unC; rw [if_pos ⟨by omega, rfl⟩]
theorem Zng {a k : Nat} (h : k ≠ a) : unC a k = 0 := by unfold unC; rw [if_neg (fun q => h q.2)]
end L
namespace L
open PySem PySem.W PyProof.Rows PM TM My
end L
namespace L
open PySem PySem.W PyProof.Rows PM TM My
end L
namespace L
open PySem PySem.W PyProof.Rows PM TM My
theorem ZqC {a : Nat} {x : Nat → Int} (h1 : 1 ≤ a) : ∀ n, Za1 (unC a) x n = if a ≤ n then x (a - 1) else 0
 | 0 => by rw [if_neg (by omega)]; exact Zng (by omega)
 | n + 1 => by
  show Za1 (unC a) x n + unC a (n + 1) * x n = _
  rw [ZqC h1 n]
  by_cases q : n + 1 = a
  ·subst q
   rw [ZqB h1, if_neg (by omega), if_pos (by omega), Nat.add_sub_cancel]; omega
  ·rw [Zng q, Int.zero_mul]
   by_cases g : a ≤ n
   ·rw [if_pos g, if_pos (by omega)]; omega
   ·rw [if_neg g, if_neg (by omega)]; rfl
end L
namespace L
open PySem PySem.W PyProof.Rows PM TM My
theorem Ztz {n : Nat} {D : T} (hn : n ≤ 100) (h : D = .none ∨ ∃ G R, D = Z5 n G R) : ∃ t, ZeO [D] = some t := by
 have key : Pk (ZeO [D]) fun _ => True := by
  unfold ZeO Zj2
  refine Zh9 rfl ?_
  rcases h with rfl | ⟨G, R, rfl⟩
  ·walk_at "zz"
   exact ⟨_, rfl, trivial⟩
  ·have hne : ∀ {Q : T → Prop}, Q (.bool true) → Pk (Zbm (Z5 n G R) .none) Q := fun h => ⟨_, rfl, h⟩
   walk_at "zz"
   refine hne ?_
   refine Zor ?_
   refine Zqi rfl ?_
   obtain ⟨l, hg, hl⟩ := ZwK (n := n) (G := G) (R := R)
   obtain ⟨u, hu⟩ := ZwM (n := n) (g := .lst (l ++ [.lst [.int 7]])) (w := .tup [.int 7, .int 7]) (R := R) hn
   have ha := ZwL (l := l) (w := .lst [.int 7]) (r := ZaU n R) (by omega)
   have w1 : ZbF (Zd (Zk 7) Zn) = fun _ => some (.lst [.int 7]) := rfl
   have w2 : ZaL (Zd (Zk 7) (Zd (Zk 7) Zn)) = fun _ => some (.tup [.int 7, .int 7]) := rfl
   have e : (fun i => [Z5 n G R][i]? : TL) 0 = some (Z5 n G R) := rfl
   refine ⟨none, Z7 (Z7 (Z7 (fun i => [Z5 n G R][i]?) 0 (.tup [.lst l, ZaU n R])) 0 (.tup [.lst (l ++ [.lst [.int 7]]), ZaU n R])) 0 u, ?_, by simp, fun _ => ⟨u, Zbn, trivial⟩⟩
   simp only [Zu, Zbc, Zdo, ZaN, Zck, Zk, Option.bind_some, e, List.nil_append, List.cons_append, hg, Option.map_some, ZhG, w1, w2, Zbn, ha, hu]
 obtain ⟨t, e, _⟩ := key
 exact ⟨t, e⟩
end L
namespace L
open PySem PySem.W PyProof.Rows PM TM My
noncomputable def DueOk (m : Nat) (D : T) : Prop := D = .none ∨ ∃ G R, D = Z5 m G R ∧ (∀ i, i < m + 1 → G i i = some 0) ∧ ∀ t, t < m → RestOk (R t)
theorem DueOk.same {m : Nat} {D : T} (hm : m ≤ 100) (h : DueOk m D) : ZcR [D, D] = some (.bool true) := by
 rcases h with rfl | ⟨G, R, rfl, hd, ok⟩
 ·exact Zrz
 ·exact ZrA hm hd ok
theorem DueOk.sh {m : Nat} {D : T} (h : DueOk m D) : D = .none ∨ ∃ G R, D = Z5 m G R := by
 rcases h with rfl | ⟨G, R, rfl, _, _⟩
 ·exact .inl rfl
 ·exact .inr ⟨G, R, rfl⟩
end L
namespace L
open PySem PySem.W PyProof.Rows PM TM My
noncomputable def Tn (n K : Nat) (P : (Nat → Int) → Prop) (D : T) : Prop := (D = .none ∧ ∀ x, ¬ P x) ∨ ∃ G R, D = Z5 n G R ∧ (∀ i, i < n + 1 → G i i = some 0) ∧ (∀ t, t < n → RestOk (R t)) ∧ SmG K n G ∧ SmR K n R ∧ ∀ x, P x → ZbH n G R x
theorem Tn.due {n K : Nat} {P : (Nat → Int) → Prop} {D : T} (h : Tn n K P D) : DueOk n D := by
 rcases h with ⟨rfl, _⟩ | ⟨G, R, rfl, hd, ok, _⟩
 ·exact .inl rfl
 ·exact .inr ⟨G, R, rfl, hd, ok⟩
theorem Tn.sub {n K K' : Nat} {P P' : (Nat → Int) → Prop} {D : T} (h : Tn n K P D) (hK : K ≤ K') (hP : ∀ x, P' x → P x) : Tn n K' P' D := by
 rcases h with ⟨rfl, q⟩ | ⟨G, R, rfl, hd, ok, sG, sR, q⟩
 ·exact .inl ⟨rfl, fun x p => q x (hP x p)⟩
 ·exact .inr ⟨G, R, rfl, hd, ok, fun i j hi hj b e => ZaW (sG i j hi hj b e) hK, fun t ht => ⟨ZaW (sR t ht).1 hK, ZaW (sR t ht).2 hK⟩, fun x p => q x (hP x p)⟩
theorem ZsQ {n k K : Nat} {G G2 : Nat → Nat → Option Int} {R R2 : Nat → Int × Int} {M : Int} (hM : 0 < M) (bM : Bd K M) (bG : BdG (n + 1) k G) (hk : k + n + 1 ≤ K) (s : Sharp n G R G2 R2 M K) : BdG (n + 1) (K + n + 2) G2 ∧ ∀ t, t < n → RBd K (R2 t) := by
 obtain ⟨R1, _, h1, _, _, rfl, h2⟩ := s.go
 refine ⟨?_, fun t ht => (h2 t ht).1.bd hM bM⟩
 have b1 : BdG (n + 1) K (clG G (n + 1)) := fun a b c ha hb e => (Zd6 bG (n + 1) (Nat.le_refl _) a b c ha hb e).mono (by omega)
 have b2 := Zne hM bM b1 fun t ht => (h1 t ht).1
 exact fun a b c ha hb e => (Zd6 b2 (n + 1) (Nat.le_refl _) a b c ha hb e).mono (by omega)
theorem Zvs {n B : Nat} {G : Nat → Nat → Option Int} {R : Nat → Int × Int} (hn : n ≤ 20) (hB : 1 ≤ B) (hk : B * n + B + 2 * n + 5 ≤ 7000) (hd : ∀ i, i < n + 1 → G i i = some 0) (ok : ∀ t, t < n → RestOk (R t)) (sG : SmG B n G) (sR : SmR B n R) : ∃ D, Zeq [Z5 n G R] = some D ∧ ZeT [Z5 n G R] = some D ∧ Tn n (B * n + B + 3 * n + 9) (ZbH n G R) D := by
 have bM : Bd (B * n + B + 1) (ZdM R n) := (Zpo hB (fun t ht => (sR t ht).1) n (Nat.le_refl n)).mono (by omega)
 have bG : BdG (n + 1) (B * n + B + 1) G := fun a b c ha hb e => (show Bd B c from sG a b ha hb c e).mono (by omega)
 have hR : ∀ t, t < n → RB (ZdM R n) (B * n + B + 1) (R t) := fun t ht => ⟨ok t ht, ZoW n t ht, (show Bd B (R t).2 from (sR t ht).2).mono (by omega)⟩
 have hM := ZoV ok n (Nat.le_refl n)
 obtain ⟨D, et, hD⟩ := Zuj (k := B * n + B + 1) (by omega) (by omega) hM bM hd bG hR
 obtain ⟨u, eu, hu⟩ := ZrV (k := B * n + B + 1) (by omega) (by omega) hM bM hd bG hR
 have := ZsN hD hu
 subst this
 refine ⟨D, et, eu, ?_⟩
 rcases hD with ⟨G2, R2, rfl, s⟩ | ⟨rfl, f⟩
 ·obtain ⟨z1, z2⟩ := ZsQ hM (bM.mono (by omega)) bG (by omega) s
  obtain ⟨_, _, _, _, _, _, h6⟩ := s.go
  exact .inr ⟨G2, R2, rfl, (ZsP hd s).1, fun t ht => (h6 t ht).1.1, fun i j hi hj b e => ZaW (z1 i j b hi hj e) (by omega), fun t ht => ⟨ZaW (z2 t ht).1 (by omega), ZaW (z2 t ht).2 (by omega)⟩, fun x li => ZsG li s⟩
 ·exact .inl ⟨rfl, fun x li => absurd f (Zse li)⟩
end L
namespace L
open PySem PySem.W PyProof.Rows PM TM My
theorem Zmj {Γ : Nat → Nat → Option Int} {a b : Nat} {v : Option Int} (h : v = Γ a b) : ZbR Γ a b v = Γ := by
 funext i j
 by_cases c : i = a ∧ j = b
 ·obtain ⟨rfl, rfl⟩ := c
  rw [Zie, h]
 ·rw [Zgt c]
theorem Zwm {b : Option Int} : ZaT none b = b := by
 unfold ZaT
 by_cases c : leO none b
 ·rw [ZaZ c]
  cases b with
  | none => rfl
  | some y => exact absurd c Zic
 ·rw [ZbN c]; rfl
theorem Zvt {x y : Int} (h : y < x) : ZaT (some x) (some y) = some y := by
 unfold ZaT
 rw [ZbN (by rw [leO_some]; omega)]
 rfl
end L
namespace L
open PySem PySem.W PyProof.Rows PM TM My
noncomputable def apC (c : Nat → Int) (i j : Nat) : Nat → Int := fun k => unC i k - unC j k - c k
noncomputable def alC (c : Nat → Int) (i : Nat) : Nat → Int := fun k => unC i k * c i - c k
theorem ZgB {i k : Nat} : unC i k = 0 ∨ unC i k = 1 := by unfold unC; split; exact .inr rfl; exact .inl rfl
theorem Znq {n b : Nat} {c : Nat → Int} (hb : 1 ≤ b) (bc : ∀ i, i < n + 1 → Bd b (c i)) (i j : Nat) : ∀ k, k < n + 1 → Bd (b + 2) (apC c i j k) := fun k hk => by
 have h := bc k hk
 have h1 := ZgB (i := i) (k := k)
 have h2 := ZgB (i := j) (k := k)
 have h3 : 2 ≤ 2 ^ b := by
  have : 2 ^ 1 ≤ 2 ^ b := Nat.pow_le_pow_right (by decide) hb
  exact this
 unfold Bd apC at *
 rw [Nat.pow_add]
 omega
theorem Znr {n b : Nat} {c : Nat → Int} (bc : ∀ i, i < n + 1 → Bd b (c i)) (i : Nat) (hi : i < n + 1) : ∀ k, k < n + 1 → Bd (b + 2) (alC c i k) := fun k hk => by
 have h := bc k hk
 have g := bc i hi
 unfold alC
 rcases ZgB (i := i) (k := k) with e | e
 ·rw [e, Int.zero_mul]; unfold Bd at *; rw [Nat.pow_add]; omega
 ·rw [e, Int.one_mul]; unfold Bd at *; rw [Nat.pow_add]; omega
theorem ZnS {n b : Nat} {G : Nat → Nat → Option Int} {R : Nat → Int × Int} {c d : Nat → Int} {top : Int} (hn : n ≤ 60) (hb : b ≤ 1000) (hb1 : 1 ≤ b) (hG : GB b n G) (bc : ∀ i, i < n + 1 → Bd b (c i)) (bd : ∀ i, i < n + 1 → Bd b (d i - c i)) : ZfP [Z5 n G R, Zad n d, Zad n c, .int top] = some (oT (Zai (grt n G fun k => d k - c k) (some top))) := by
 apply Pk.eq
 unfold ZfP Zj4
 walk_at "zz"
 refine ZO (Zok (by omega) hb1 (by omega) bc) ?_
 walk_at "zz"
 refine ZO (Zoj hn (by omega) hb1 hG bd) ?_
 walk_at "zz"
 exact ZO (ZeU (b := some top)) rfl
theorem ZoG {N : Nat} {G G' : Nat → Nat → Option Int} (h : ∀ i j, i < N → j < N → G i j = G' i j) : Z8 N G = Z8 N G' := by
 unfold Z8 Zar
 rw [show (tab N fun i => T.lst (tab N fun j => oT (G i j))) = tab N fun i => T.lst (tab N fun j => oT (G' i j)) from ZbI fun i hi => by rw [ZbI fun j hj => by rw [h i j hi hj]]]
noncomputable def Wv (w G : Nat → Nat → Option Int) (i j : Nat) : Nat → Nat → Option Int := fun a b => if a < i ∨ (a = i ∧ b < j) then w a b else G a b
theorem Znh {w G : Nat → Nat → Option Int} {i j : Nat} : ZbR (Wv w G i j) i j (w i j) = Wv w G i (j + 1) := by
 funext a b
 unfold ZbR Wv
 by_cases h : a = i ∧ b = j
 ·rw [if_pos h, if_pos (by omega), h.1, h.2]
 ·rw [if_neg h]
  by_cases q : a < i ∨ (a = i ∧ b < j)
  ·rw [if_pos q, if_pos (by omega)]
  ·rw [if_neg q, if_neg (by omega)]
theorem Zns {w G : Nat → Nat → Option Int} {i j : Nat} : Wv w G i j i j = G i j := by unfold Wv; rw [if_neg (by omega)]
theorem Wv_row {N : Nat} {w G : Nat → Nat → Option Int} {i : Nat} : Z8 N (Wv w G i N) = Z8 N (Wv w G (i + 1) 0) := ZoG fun a b ha hb => by
 unfold Wv
 by_cases q : a < i ∨ (a = i ∧ b < N)
 ·rw [if_pos q, if_pos (by omega)]
 ·rw [if_neg q, if_neg (by omega)]
theorem ZqP {w G : Nat → Nat → Option Int} : Wv w G 0 0 = G := by funext a b; unfold Wv; rw [if_neg (by omega)]
theorem Wv_all {N : Nat} {w G : Nat → Nat → Option Int} : Z8 N (Wv w G N 0) = Z8 N w := ZoG fun a b ha hb => by unfold Wv; rw [if_pos (.inl ha)]
noncomputable def apW (n : Nat) (G : Nat → Nat → Option Int) (c : Nat → Int) (top : Int) (a b : Nat) : Option Int := if a = b then G a b else ZaT (G a b) (Zai (grt n G (apC c a b)) (some top))
theorem Zrg {n b : Nat} {G : Nat → Nat → Option Int} {R : Nat → Int × Int} {c : Nat → Int} {top : Int} (hn : n ≤ 60) (hb : b ≤ 900) (hb1 : 1 ≤ b) (hG : GB b n G) (bc : ∀ i, i < n + 1 → Bd b (c i)) (hd : ∀ i, i < n + 1 → G i i = some 0) (hc : ∀ y, grt n G (fun k => -(c k)) = some y → -y ≤ top) : Zg4 [Z8 (n + 1) G, Z5 n G R, Zad n c, .int top] = some (Z8 (n + 1) (apW n G c top)) := by
 apply Pk.eq
 unfold Zg4 ZjG
 refine Zh9 rfl ?_
 have ht : Z5 n G R = .tup [Z8 (n + 1) G, .lst (tab n fun i => prT (R i))] := rfl
 have bu : ∀ i k, k < n + 1 → Bd b (unC i k) := fun i k _ => by
  rcases ZgB (i := i) (k := k) with e | e <;> rw [e]
  ·exact Zed
  ·exact ZdQ hb1
 have hw : ∀ i j, i < n + 1 → ZaT (G i j) (Zai (grt n G (apC c i j)) (some top)) = apW n G c top i j := fun i j hi => by
  unfold apW
  split
  ·rename_i e
   subst e
   rw [hd i hi]
   refine Zd1 ?_
   have : apC c i i = fun k => -(c k) := by funext k; unfold apC; omega
   rw [this]
   cases e : grt n G fun k => -(c k) with
   | none => exact Zc9
   | some y => exact leO_some.mpr (by have := hc y e; omega)
  ·rfl
 rw [ht]
 walk_at "zz"
 rw [← ht]
 refine ZbK (n := n + 1) (a := fun i => .int i) (P := fun i σ => σ 0 = some (Z8 (n + 1) (Wv (apW n G c top) G i 0)) ∧ σ 1 = some (Z5 n G R) ∧ σ 2 = some (Zad n c) ∧ σ 3 = some (.int top) ∧ σ 4 = some (.int n)) ?_ ⟨by rw [ZqP]; rfl, rfl, rfl, rfl, rfl⟩ ?_ ?_
 ·walk_at "zz"
  exact ZiB (n + 1) (by omega) (by omega) rfl
 ·rintro i σ hi ⟨e0, e1, e2, e3, e4⟩
  refine ZbK (n := n + 1) (a := fun j => .int j) (P := fun j σ => σ 0 = some (Z8 (n + 1) (Wv (apW n G c top) G i j)) ∧ σ 1 = some (Z5 n G R) ∧ σ 2 = some (Zad n c) ∧ σ 3 = some (.int top) ∧ σ 4 = some (.int n) ∧ σ 5 = some (.int i)) ?_ ⟨by walk_at "zr", by walk_at "zr", by walk_at "zr", by walk_at "zr", by walk_at "zr", by walk_at "zr"⟩ ?_ ?_
  ·walk_at "zz"
   exact ZiB (n + 1) (by omega) (by omega) rfl
  ·rintro j σ hj ⟨e0, e1, e2, e3, e4, e5⟩
   walk_at "zz"
   refine ZO (ZlC (by omega)) ?_
   walk_at "zz"
   refine ZO (ZlC (by omega)) ?_
   walk_at "zz"
   refine ZO (Zok (b := b) (by omega) hb1 (by omega) (bu j)) ?_
   refine Zfu (t := Z8 (n + 1) (Wv (apW n G c top) G i j)) (by walk_at "zr") ?_
   walk_at "zz"
   refine ZO (ZnS (b := b + 2) (d := fun k => unC i k - unC j k) hn (by omega) (by omega) (fun a b ha hb y e => (hG a b ha hb y e).mono (by omega)) (fun k hk => (bc k hk).mono (by omega)) (Znq hb1 bc i j)) ?_
   walk_at "zz"
   refine ZO (ZkR hi hj) ?_
   rw [Zns, show (fun k => unC i k - unC j k - c k) = apC c i j from rfl, hw i j hi, Znh]
   exact ⟨Zbn, by walk_at "zr", by walk_at "zr", by walk_at "zr", by walk_at "zr", by walk_at "zr"⟩
  ·rintro σ ⟨e0, e1, e2, e3, e4, e5⟩
   exact ⟨by rw [← Wv_row]; exact e0, e1, e2, e3, e4⟩
 ·rintro σ ⟨e0, e1, e2, e3, e4⟩
  exact ⟨_, e0, Wv_all⟩
theorem ZnT {a : Option Int} {k : Int} {i : Nat} (hi : i ≤ 9000) (hk0 : k ≠ 0) (hk : Bd i k) : ZfQ [oT a, .int k] = some (oT (a.map fun x => x.fdiv k)) := by
 apply Pk.eq
 unfold ZfQ Zj6
 cases a with
 | none =>
  simp only [Za6]
  walk_at "zz"
  rfl
 | some x =>
  rw [Zan]
  walk_at "zz"
  refine ZcX hk0 (Zdt hk hi) ?_
  rfl
noncomputable def prt (n : Nat) (G : Nat → Nat → Option Int) (c : Nat → Int) (top : Int) (i : Nat) : Option Int := (Zai (grt n G (alC c i)) (some top)).map fun y => y.fdiv (if c i < 0 then -(c i) else c i)
noncomputable def alW (n : Nat) (G : Nat → Nat → Option Int) (c : Nat → Int) (top : Int) (Γ : Nat → Nat → Option Int) (m : Nat) : Nat → Nat → Option Int := fun a b => if b = 0 ∧ 1 ≤ a ∧ a ≤ m ∧ 0 < c a then ZaT (Γ a 0) (prt n G c top a) else if a = 0 ∧ 1 ≤ b ∧ b ≤ m ∧ c b < 0 then ZaT (Γ 0 b) (prt n G c top b) else Γ a b
theorem ZqN {n : Nat} {G Γ : Nat → Nat → Option Int} {c : Nat → Int} {top : Int} : alW n G c top Γ 0 = Γ := by
 funext a b
 unfold alW
 rw [if_neg (by omega), if_neg (by omega)]
theorem ZmU {n m : Nat} {G Γ : Nat → Nat → Option Int} {c : Nat → Int} {top : Int} (h : 0 < c (m + 1)) : ZbR (alW n G c top Γ m) (m + 1) 0 (ZaT (alW n G c top Γ m (m + 1) 0) (prt n G c top (m + 1))) = alW n G c top Γ (m + 1) := by
 have e : alW n G c top Γ m (m + 1) 0 = Γ (m + 1) 0 := by unfold alW; rw [if_neg (by omega), if_neg (by omega)]
 rw [e]
 funext a b
 unfold ZbR alW
 by_cases q : a = m + 1 ∧ b = 0
 ·obtain ⟨rfl, rfl⟩ := q
  rw [if_pos ⟨rfl, rfl⟩, if_pos ⟨rfl, by omega, by omega, h⟩]
 ·have i1 : (b = 0 ∧ 1 ≤ a ∧ a ≤ m + 1 ∧ 0 < c a) ↔ (b = 0 ∧ 1 ≤ a ∧ a ≤ m ∧ 0 < c a) := by omega
  have i2 : (a = 0 ∧ 1 ≤ b ∧ b ≤ m + 1 ∧ c b < 0) ↔ (a = 0 ∧ 1 ≤ b ∧ b ≤ m ∧ c b < 0) := by
   by_cases g : b = m + 1
   ·subst g; omega
   ·omega
  rw [if_neg q]
  simp only [i1, i2]
theorem ZmV {n m : Nat} {G Γ : Nat → Nat → Option Int} {c : Nat → Int} {top : Int} (h : c (m + 1) < 0) : ZbR (alW n G c top Γ m) 0 (m + 1) (ZaT (alW n G c top Γ m 0 (m + 1)) (prt n G c top (m + 1))) = alW n G c top Γ (m + 1) := by
 have e : alW n G c top Γ m 0 (m + 1) = Γ 0 (m + 1) := by unfold alW; rw [if_neg (by omega), if_neg (by omega)]
 rw [e]
 funext a b
 unfold ZbR alW
 by_cases q : a = 0 ∧ b = m + 1
 ·obtain ⟨rfl, rfl⟩ := q
  rw [if_pos ⟨rfl, rfl⟩, if_neg (by omega), if_pos ⟨rfl, by omega, by omega, h⟩]
 ·have i1 : (b = 0 ∧ 1 ≤ a ∧ a ≤ m + 1 ∧ 0 < c a) ↔ (b = 0 ∧ 1 ≤ a ∧ a ≤ m ∧ 0 < c a) := by
   by_cases g : a = m + 1
   ·subst g; omega
   ·omega
  have i2 : (a = 0 ∧ 1 ≤ b ∧ b ≤ m + 1 ∧ c b < 0) ↔ (a = 0 ∧ 1 ≤ b ∧ b ≤ m ∧ c b < 0) := by omega
  rw [if_neg q]
  simp only [i1, i2]
theorem Zpw {n m : Nat} {G Γ : Nat → Nat → Option Int} {c : Nat → Int} {top : Int} (h : c (m + 1) = 0) : alW n G c top Γ m = alW n G c top Γ (m + 1) := by
 funext a b
 unfold alW
 have i1 : (b = 0 ∧ 1 ≤ a ∧ a ≤ m + 1 ∧ 0 < c a) ↔ (b = 0 ∧ 1 ≤ a ∧ a ≤ m ∧ 0 < c a) := by
  by_cases g : a = m + 1
  ·subst g; omega
  ·omega
 have i2 : (a = 0 ∧ 1 ≤ b ∧ b ≤ m + 1 ∧ c b < 0) ↔ (a = 0 ∧ 1 ≤ b ∧ b ≤ m ∧ c b < 0) := by
  by_cases g : b = m + 1
  ·subst g; omega
  ·omega
 simp only [i1, i2]
theorem Zrh {n b : Nat} {G Γ : Nat → Nat → Option Int} {R : Nat → Int × Int} {c : Nat → Int} {top : Int} (hn : n ≤ 60) (hb : b ≤ 900) (hb1 : 1 ≤ b) (hG : GB b n G) (bc : ∀ i, i < n + 1 → Bd b (c i)) : Zg6 [Z8 (n + 1) Γ, Z5 n G R, Zad n c, .int top] = some (Z8 (n + 1) (alW n G c top Γ n)) := by
 apply Pk.eq
 unfold Zg6 ZjI
 refine Zh9 rfl ?_
 have ht : Z5 n G R = .tup [Z8 (n + 1) G, .lst (tab n fun i => prT (R i))] := rfl
 have bu : ∀ i k, k < n + 1 → Bd b (unC i k) := fun i k _ => by
  rcases ZgB (i := i) (k := k) with e | e <;> rw [e]
  ·exact Zed
  ·exact ZdQ hb1
 rw [ht]
 walk_at "zz"
 rw [← ht]
 refine ZbK (n := n) (a := fun i => .int ((1 + i : Nat) : Int)) (P := fun i σ => σ 0 = some (Z8 (n + 1) (alW n G c top Γ i)) ∧ σ 1 = some (Z5 n G R) ∧ σ 2 = some (Zad n c) ∧ σ 3 = some (.int top) ∧ σ 4 = some (.int n)) ?_ ⟨by rw [ZqN]; rfl, rfl, rfl, rfl, rfl⟩ ?_ ?_
 ·refine ZhX (a := 1) (m := n) (by omega) (by omega) ?_ rfl
  simp only [Zd, Zk, Zn, Ze, Za, Z7, Option.bind_some, if_true, Zae]
  congr 3
  congr 1
  omega
 ·rintro i σ hi ⟨e0, e1, e2, e3, e4⟩
  have h1 : 1 + i < n + 1 := by omega
  have hs : Zad n c = .lst (tab (n + 1) fun k => .int (c k)) := rfl
  rw [hs] at e2
  walk_at "zz"
  rw [← hs] at e2
  have ci := bc (1 + i) h1
  have hG2 : GB (b + 2) n G := fun a b ha hb y e => (hG a b ha hb y e).mono (by omega)
  have bc2 : ∀ k, k < n + 1 → Bd (b + 2) (c k) := fun k hk => (bc k hk).mono (by omega)
  refine ZO (ZlC (by omega)) ?_
  walk_at "zz"
  refine ZO (Zhh (b := b) (by omega) (by omega) (bu (1 + i)) ci) ?_
  walk_at "zz"
  refine ZO (ZnS (b := b + 2) (d := fun k => unC (1 + i) k * c (1 + i)) hn (by omega) (by omega) hG2 bc2 (Znr bc (1 + i) h1)) ?_
  rw [show (fun k => unC (1 + i) k * c (1 + i) - c k) = alC c (1 + i) from rfl]
  have hp : ∀ k, k = (if c (1 + i) < 0 then -(c (1 + i)) else c (1 + i)) → (Zai (grt n G (alC c (1 + i))) (some top)).map (fun y => y.fdiv k) = prt n G c top (1 + i) := fun k e => by unfold prt; rw [e]
  rw [Nat.add_comm 1 i] at *
  rcases Int.lt_trichotomy (c (i + 1)) 0 with q | q | q
  ·have q' : ¬ 0 < c (i + 1) := by omega
   walk_at "zz"
   refine Zfu (t := Z8 (n + 1) (alW n G c top Γ i)) (by walk_at "zr") ?_
   walk_at "zz"
   refine ZO (ZnT (i := b) (by omega) (by omega) (show Bd b (-(c (i + 1))) by unfold Bd at *; omega)) ?_
   walk_at "zz"
   refine ZO (ZkR (a := 0) (by omega) h1) ?_
   rw [hp _ (by rw [if_pos q]), ZmV q]
   exact ⟨Zbn, by walk_at "zr", by walk_at "zr", by walk_at "zr", by walk_at "zr"⟩
  ·have q' : ¬ 0 < c (i + 1) := by omega
   have q'' : ¬ c (i + 1) < 0 := by omega
   walk_at "zz"
   rw [← Zpw q]
   exact ⟨by walk_at "zr", by walk_at "zr", by walk_at "zr", by walk_at "zr", by walk_at "zr"⟩
  ·have q' : ¬ c (i + 1) < 0 := by omega
   walk_at "zz"
   refine Zfu (t := Z8 (n + 1) (alW n G c top Γ i)) (by walk_at "zr") ?_
   walk_at "zz"
   refine ZO (ZnT (i := b) (by omega) (by omega) ci) ?_
   walk_at "zz"
   refine ZO (ZkR (b := 0) h1 (by omega)) ?_
   rw [hp _ (by rw [if_neg q']), ZmU q]
   walk_at "zz"
   exact ⟨by walk_at "zr", by walk_at "zr", by walk_at "zr", by walk_at "zr", by walk_at "zr"⟩
 ·rintro σ ⟨e0, e1, e2, e3, e4⟩
  exact ⟨_, e0, rfl⟩
end L
namespace L
open PySem PySem.W PyProof.Rows PM TM My
theorem ZkS {n i : Nat} {c : Nat → Int} {k : Int} (hn : n ≤ 60) (hi : i < n + 1) : Ze0 [Zad n c, .int i, .int k] = some (Zad n fun a => c a + unC i a * k) := by
 apply Pk.eq
 unfold Ze0 Zlx Zad
 by_cases h : (0 : Int) < (i : Int)
 ·walk_at "zz"
  show T.lst _ = T.lst _
  congr 1
  refine ZbI fun a _ => ?_
  show _ = T.int (c a + unC i a * k)
  by_cases q : a = i
  ·rw [if_pos q, q, ZqB (by omega), Int.one_mul]
  ·rw [if_neg q, Zng q, Int.zero_mul, Int.add_zero]
 ·walk_at "zz"
  show T.lst _ = T.lst _
  congr 1
  refine ZbI fun a _ => ?_
  have : i = 0 := by omega
  show T.int (c a) = T.int (c a + unC i a * k)
  rw [this, ZqM, Int.zero_mul, Int.add_zero]
theorem Zg7 {a b : Option Int} : Zeh [oT a, oT b] = some (oT (ZaT a b)) := by
 apply Pk.eq
 unfold Zeh Zka
 cases a with
 | none =>
  simp only [Za6]
  walk_at "zz"
  rw [Zwm]
 | some x =>
  rw [Zan]
  cases b with
  | none =>
   rw [Za6]
   walk_at "zz"
   rw [Zd1 Zc9, Zan]
  | some y =>
   rw [Zan]
   walk_at "zz"
   by_cases h : y < x
   ·rw [if_pos h, Zvt h, Zan]
   ·rw [if_neg h, Zd1 (leO_some.mpr (by omega)), Zan]
noncomputable def amG (n : Nat) (G : Nat → Nat → Option Int) (c : Nat → Int) (top : Int) : Nat → Nat → Option Int := alW n G c top (apW n G c top) n
noncomputable def gT (N : Nat) (Γ : Nat → Nat → Option Int) : T := .lst (tab N fun a => .lst (tab N fun b => oT (Γ a b)))
theorem Zri {n b : Nat} {G : Nat → Nat → Option Int} {R : Nat → Int × Int} {c : Nat → Int} {top : Int} {D : T} (hn : n ≤ 60) (hb : b ≤ 900) (hb1 : 1 ≤ b) (hG : GB b n G) (bc : ∀ i, i < n + 1 → Bd b (c i)) (hc : ∀ y, grt n G (fun k => -(c k)) = some y → -y ≤ top) (h : ZeT [Z5 n (amG n G c top) R] = some D) : Zb8 [Z5 n G R, Zad n c, .int top] = some D := by
 apply Pk.eq
 unfold Zb8 ZfL
 have ht : Z5 n G R = .tup [gT (n + 1) G, .lst (tab n fun i => prT (R i))] := rfl
 have hs : Zad n c = .lst (tab (n + 1) fun k => .int (c k)) := rfl
 have hG2 : GB (b + 2) n G := fun a b ha hb y e => (hG a b ha hb y e).mono (by omega)
 have cp : ∀ {σ : TL} {N : TL → Prop}, σ 0 = some (Z5 n G R) → (∀ t, t = gT (n + 1) G → N (Z7 σ 5 t)) → Psk (ZM 5 (Zam (ZaH (Ze Zr (Za 0) (Zk 0))) (Zab 102) Zag (pFl (Zs ZbX (Zd (Za 102) Zn)))) σ) (fun t => t = D) N := fun e k => by
  rw [ht] at e
  unfold gT at e
  walk_at "zz"
  refine Zcz (n := n + 1) (a := fun a => .lst (tab (n + 1) fun b => oT (G a b))) (b := fun a => .lst (tab (n + 1) fun b => oT (G a b))) (by omega) ?_ (fun a ha => ?_) ?_
  ·walk_at "zz"
   rfl
  ·walk_at "zz"
   rfl
  ·exact k _ rfl
 have hne : ∀ {Q : T → Prop}, Q (.bool false) → Pk (qIs (Z5 n G R) .none) Q := fun h => ⟨_, by rw [ht]; rfl, h⟩
 rw [hs]
 walk_at "zz"
 refine hne ?_
 walk_at "zz"
 refine Zcz (n := n + 1) (a := fun k => .int (c k)) (b := fun k => .int (-(c k))) (by omega) ?_ (fun k hk => ?_) ?_
 ·walk_at "zz"
  rfl
 ·walk_at "zz"
  rfl
 rw [show (T.lst (tab (n + 1) fun k => T.int (-(c k)))) = Zad n (fun k => -(c k)) from rfl]
 walk_at "zz"
 refine ZO (ZgW (b := b) hn (by omega) hG (Zih bc)) ?_
 refine ZcE (fun σ' => σ' 0 = some (Z5 n G R) ∧ σ' 1 = some (.lst (tab (n + 1) fun k => .int (c k))) ∧ σ' 2 = some (.int top) ∧ σ' 3 = some (Zad n (fun k => -(c k)))) ?_ ?_
 ·cases e : grt n G (fun k => -(c k)) with
  | none =>
   rw [Za6]
   walk_at "zz"
   exact ⟨by walk_at "zr", by walk_at "zr", by walk_at "zr", by walk_at "zr"⟩
  | some y =>
   have hy := hc y e
   have hy' : ¬ -y > top := by omega
   rw [Zan]
   walk_at "zz"
   exact ⟨by walk_at "zr", by walk_at "zr", by walk_at "zr", by walk_at "zr"⟩
 rintro σ1 ⟨e0, e1, e2, e3⟩
 have hli : ∀ {a b : Option Int}, Pk (Zeh [oT a, oT b]) fun t => t = oT (ZaT a b) := ZO Zg7 rfl
 refine Zgu ?_
 refine cp e0 fun t et => ?_
 subst et
 refine ZcE (fun σ' => σ' 0 = some (Z5 n G R) ∧ σ' 1 = some (.lst (tab (n + 1) fun k => .int (c k))) ∧ σ' 2 = some (.int top) ∧ σ' 3 = some (Zad n (fun k => -(c k))) ∧ σ' 5 = some (gT (n + 1) (apW n G c top))) ?_ ?_
 ·refine ZbK (n := n + 1) (a := fun i => .int i) (P := fun i σ' => σ' 0 = some (Z5 n G R) ∧ σ' 1 = some (.lst (tab (n + 1) fun k => .int (c k))) ∧ σ' 2 = some (.int top) ∧ σ' 3 = some (Zad n (fun k => -(c k))) ∧ σ' 5 = some (gT (n + 1) (Wv (apW n G c top) G i 0))) ?_ ⟨by walk_at "zr", by walk_at "zr", by walk_at "zr", by walk_at "zr", by rw [ZqP]; exact Zbn⟩ ?_ ?_
  ·unfold gT
   walk_at "zz"
   rfl
  ·rintro i σ hi ⟨f0, f1, f2, f3, f5⟩
   refine ZbK (n := n + 1) (a := fun j => .int j) (P := fun j σ' => σ' 0 = some (Z5 n G R) ∧ σ' 1 = some (.lst (tab (n + 1) fun k => .int (c k))) ∧ σ' 2 = some (.int top) ∧ σ' 3 = some (Zad n (fun k => -(c k))) ∧ σ' 5 = some (gT (n + 1) (Wv (apW n G c top) G i j)) ∧ σ' 6 = some (.int i)) ?_ ⟨by walk_at "zr", by walk_at "zr", by walk_at "zr", by walk_at "zr", by walk_at "zr", by walk_at "zr"⟩ ?_ ?_
   ·unfold gT at f5
    walk_at "zz"
    rfl
   ·rintro j σ hj ⟨g0, g1, g2, g3, g5, g6⟩
    have ea : (fun a => -(c a) + unC i a * 1 + unC j a * -1) = apC c i j := by funext a; unfold apC; omega
    have same : apW n G c top i j = G i j → Wv (apW n G c top) G i (j + 1) = Wv (apW n G c top) G i j := fun e => by rw [← Znh, Zmj (by rw [Zns, e])]
    walk_at "zz"
    refine ZO (ZkS hn hi) ?_
    walk_at "zz"
    refine ZO (ZkS hn hj) ?_
    rw [ea]
    walk_at "zz"
    refine ZO (ZgW (b := b + 2) hn (by omega) hG2 (Znq hb1 bc i j)) ?_
    by_cases q : (i : Int) = j
    ·have q2 : i = j := by omega
     walk_at "zz"
     rw [same (by unfold apW; rw [if_pos q2])]
     exact ⟨by walk_at "zr", by walk_at "zr", by walk_at "zr", by walk_at "zr", by walk_at "zr", by walk_at "zr"⟩
    ·have q2 : ¬ i = j := by omega
     cases e : grt n G (apC c i j) with
     | none =>
      rw [Za6]
      walk_at "zz"
      rw [same (by unfold apW; rw [if_neg q2, e]; exact Zd1 Zc9)]
      exact ⟨by walk_at "zr", by walk_at "zr", by walk_at "zr", by walk_at "zr", by walk_at "zr", by walk_at "zr"⟩
     | some y =>
      rw [Zan]
      unfold gT at g5
      walk_at "zz"
      refine ZO (Zg7 (b := some (y + top))) ?_
      refine ⟨Zep, ?_⟩
      walk_at "zz"
      rw [Zmh (w := oT (ZaT (Wv (apW n G c top) G i j i j) (some (y + top)))) (v := apW n G c top i j) (by rw [Zns]; unfold apW; rw [if_neg q2, e]; rfl), Znh]
      exact ⟨by walk_at "zr", by walk_at "zr", by walk_at "zr", by walk_at "zr", Zbn, by walk_at "zr"⟩
   ·rintro σ ⟨g0, g1, g2, g3, g5, g6⟩
    exact ⟨g0, g1, g2, g3, by rw [show gT (n + 1) (Wv (apW n G c top) G (i + 1) 0) = gT (n + 1) (Wv (apW n G c top) G i (n + 1)) from Wv_row.symm]; exact g5⟩
  ·rintro σ ⟨g0, g1, g2, g3, g5⟩
   exact ⟨g0, g1, g2, g3, by rw [show gT (n + 1) (apW n G c top) = gT (n + 1) (Wv (apW n G c top) G (n + 1) 0) from Wv_all.symm]; exact g5⟩
 clear e0 e1 e2 e3
 rintro σ2 ⟨e0, e1, e2, e3, e5⟩
 refine ZcE (fun σ' => σ' 0 = some (Z5 n G R) ∧ σ' 5 = some (gT (n + 1) (amG n G c top))) ?_ ?_
 ·refine ZbK (n := n) (a := fun i => .int ((1 + i : Nat) : Int)) (P := fun i σ' => σ' 0 = some (Z5 n G R) ∧ σ' 1 = some (.lst (tab (n + 1) fun k => .int (c k))) ∧ σ' 2 = some (.int top) ∧ σ' 3 = some (Zad n (fun k => -(c k))) ∧ σ' 5 = some (gT (n + 1) (alW n G c top (apW n G c top) i))) ?_ ⟨by walk_at "zr", by walk_at "zr", by walk_at "zr", by walk_at "zr", by rw [ZqN]; exact e5⟩ ?_ ?_
  ·refine ZhX (a := 1) (m := n) (by omega) (by omega) ?_ rfl
   simp only [Zd, Zk, Zn, Za, Zs, e5, gT, Zaq, Zau, Option.bind_some]
   congr 3
   congr 1
   omega
  ·rintro i σ hi ⟨g0, g1, g2, g3, g5⟩
   have h1 : 1 + i < n + 1 := by omega
   have ci := bc (1 + i) h1
   have ea : (fun a => -(c a) + unC (1 + i) a * c (1 + i)) = alC c (1 + i) := by funext a; unfold alC; omega
   walk_at "zz"
   refine ZO (ZkS hn h1) ?_
   rw [ea]
   walk_at "zz"
   refine ZO (ZgW (b := b + 2) hn (by omega) hG2 (Znr bc (1 + i) h1)) ?_
   rw [Nat.add_comm 1 i] at *
   have no : grt n G (alC c (i + 1)) = none → c (i + 1) ≠ 0 → alW n G c top (apW n G c top) (i + 1) = alW n G c top (apW n G c top) i := fun e q => by
    have ep : prt n G c top (i + 1) = none := by unfold prt; rw [e]; rfl
    rcases Int.lt_trichotomy (c (i + 1)) 0 with w | w | w
    ·rw [← ZmV w, ep, Zmj (Zd1 Zc9)]
    ·exact absurd w q
    ·rw [← ZmU w, ep, Zmj (Zd1 Zc9)]
   rcases Int.lt_trichotomy (c (i + 1)) 0 with q | q | q
   ·have q' : ¬ 0 < c (i + 1) := by omega
    cases e : grt n G (alC c (i + 1)) with
    | none =>
     rw [Za6]
     walk_at "zz"
     rw [no e (by omega)]
     exact ⟨by walk_at "zr", by walk_at "zr", by walk_at "zr", by walk_at "zr", by walk_at "zr"⟩
    | some y =>
     rw [Zan]
     unfold gT at g5
     walk_at "zz"
     refine ZcX (by omega) (Zdt (i := b) (show Bd b _ by unfold Bd at *; omega) (by omega)) ?_
     walk_at "zz"
     have ep : prt n G c top (i + 1) = some ((y + top).fdiv (if c (i + 1) < 0 then -(c (i + 1)) else c (i + 1))) := by unfold prt; rw [e]; rfl
     refine ZO (Zg7 (b := some _)) ?_
     refine ⟨Zep, ?_⟩
     walk_at "zz"
     rw [← ep, show Int.toNat 0 = 0 from rfl]
     refine ZpZ (n := n + 1) (m := n + 1) (i := 0) (j := i + 1) (f := fun a b => oT (alW n G c top (apW n G c top) i a b)) (by walk_at "zr") rfl (by omega) (by omega) (by omega) ?_
     rw [Zmh (v := ZaT (alW n G c top (apW n G c top) i 0 (i + 1)) (prt n G c top (i + 1))) rfl, ZmV q]
     exact ⟨by walk_at "zr", by walk_at "zr", by walk_at "zr", by walk_at "zr", Zbn⟩
   ·have q' : ¬ 0 < c (i + 1) := by omega
    have q'' : ¬ c (i + 1) < 0 := by omega
    walk_at "zz"
    rw [← Zpw q]
    exact ⟨by walk_at "zr", by walk_at "zr", by walk_at "zr", by walk_at "zr", by walk_at "zr"⟩
   ·have q' : ¬ c (i + 1) < 0 := by omega
    cases e : grt n G (alC c (i + 1)) with
    | none =>
     rw [Za6]
     walk_at "zz"
     rw [no e (by omega)]
     exact ⟨by walk_at "zr", by walk_at "zr", by walk_at "zr", by walk_at "zr", by walk_at "zr"⟩
    | some y =>
     rw [Zan]
     unfold gT at g5
     walk_at "zz"
     refine ZcX (by omega) (Zdt (i := b) ci (by omega)) ?_
     walk_at "zz"
     have ep : prt n G c top (i + 1) = some ((y + top).fdiv (c (i + 1))) := by unfold prt; rw [e, if_neg q']; rfl
     refine ZO (Zg7 (b := some _)) ?_
     refine ⟨Zep, ?_⟩
     walk_at "zz"
     rw [← ep, show Int.toNat 0 = 0 from rfl]
     refine ZpZ (n := n + 1) (m := n + 1) (i := i + 1) (j := 0) (f := fun a b => oT (alW n G c top (apW n G c top) i a b)) (by walk_at "zr") (by omega) rfl (by omega) (by omega) ?_
     rw [Zmh (v := ZaT (alW n G c top (apW n G c top) i (i + 1) 0) (prt n G c top (i + 1))) rfl, ZmU q]
     rw [show (T.lst (tab (n + 1) fun a => T.lst (tab (n + 1) fun b => oT (alW n G c top (apW n G c top) (i + 1) a b)))) = gT (n + 1) (alW n G c top (apW n G c top) (i + 1)) from rfl]
     walk_at "zz"
     exact ⟨by walk_at "zr", by walk_at "zr", by walk_at "zr", by walk_at "zr", by walk_at "zr"⟩
  ·rintro σ ⟨g0, g1, g2, g3, g5⟩
   exact ⟨g0, g5⟩
 rintro σ3 ⟨f0, f5⟩
 rw [ht] at f0
 walk_at "zz"
 exact ZO h rfl
end L
namespace L
open PySem PySem.W PyProof.Rows PM TM My
theorem ZmW {k : Nat} {a b : Option Int} (ha : ∀ y, a = some y → Bd k y) (hb : ∀ y, b = some y → Bd k y) : ∀ y, ZaT a b = some y → Bd k y := fun y e => by
 rcases Zer a b with q | q
 ·exact ha y (q ▸ e)
 ·exact hb y (q ▸ e)
theorem Zuq {x k : Int} (hk : 0 < k) : (x.fdiv k).natAbs ≤ x.natAbs := by
 rw [Int.fdiv_eq_ediv_of_nonneg x (by omega)]
 have e1 : x / k * k ≤ x := Int.ediv_mul_le x (by omega)
 have e2 : x < (x / k + 1) * k := Int.lt_ediv_add_one_mul_self x hk
 generalize x / k = q at *
 rcases Int.lt_trichotomy q 0 with h | h | h
 ·-- q ≤ -1, x < (q+1) k ≤ q + 1
  have : (q + 1) * k ≤ q + 1 := by
   have := Int.mul_le_mul_of_nonpos_left (a := q + 1) (b := k) (c := 1) (by omega) (by omega)
   simpa using this
  omega
 ·omega
 ·have : q * 1 ≤ q * k := Int.mul_le_mul_of_nonneg_left (by omega) (by omega)
  omega
theorem Zvu {i : Nat} {x k : Int} (h : Bd i x) (hk : 0 < k) : Bd i (x.fdiv k) := Nat.lt_of_le_of_lt (Zuq hk) h
theorem ZwO {n b B : Nat} {G : Nat → Nat → Option Int} {c : Nat → Int} {top : Int} (hb1 : 1 ≤ b) (hG : GB b n G) (bc : ∀ i, i < n + 1 → Bd b (c i)) (bt : Bd b top) (hB : b + b + n + 6 ≤ B) : SmG B n (amG n G c top) := by
 have hG2 : GB (b + 2) n G := fun a b ha hb y e => (hG a b ha hb y e).mono (by omega)
 have s1 : ∀ {d : Nat → Int}, (∀ k, k < n + 1 → Bd (b + 2) (d k)) → ∀ y, Zai (grt n G d) (some top) = some y → Bd B y := fun bd y e => by
  obtain ⟨p, q, h1, h2, rfl⟩ := addO_some.mp e
  cases h2
  exact ((Zp8 hG2 bd p h1).add (bt.mono (by omega))).mono (by omega)
 have sG : ∀ i j, i < n + 1 → j < n + 1 → ∀ y, G i j = some y → Bd B y := fun i j hi hj y e => (hG i j hi hj y e).mono (by omega)
 have sA : ∀ i j, i < n + 1 → j < n + 1 → ∀ y, apW n G c top i j = some y → Bd B y := fun i j hi hj y e => by
  unfold apW at e
  split at e
  ·exact sG i j hi hj y e
  ·exact ZmW (sG i j hi hj) (s1 (Znq hb1 bc i j)) y e
 have sP : ∀ i, i < n + 1 → c i ≠ 0 → ∀ y, prt n G c top i = some y → Bd B y := fun i hi h0 y e => by
  unfold prt at e
  obtain ⟨z, h1, rfl⟩ := Zz1.mp e
  exact Zvu (s1 (Znr bc i hi) z h1) (by split <;> omega)
 intro i j hi hj y e
 show Bd B y
 unfold amG alW at e
 split at e
 ·rename_i q
  exact ZmW (sA i 0 hi (by omega)) (sP i hi (by omega)) y e
 ·split at e
  ·rename_i q
   exact ZmW (sA 0 j (by omega) hj) (sP j hj (by omega)) y e
  ·exact sA i j hi hj y e
theorem ZwV {n : Nat} {G : Nat → Nat → Option Int} {c : Nat → Int} {top : Int} (hd : ∀ i, i < n + 1 → G i i = some 0) : ∀ i, i < n + 1 → amG n G c top i i = some 0 := fun i hi => by
 unfold amG alW
 rw [if_neg (by omega), if_neg (by omega)]
 unfold apW
 rw [if_pos rfl, hd i hi]
theorem ZmX {n : Nat} {x : Nat → Int} : ∀ i, i < n + 1 → Za1 (unC i) x n = ZaJ x i
 | 0, _ => by rw [ZqM, Zpv]; rfl
 | i + 1, hi => by rw [ZqC (by omega), if_pos (by omega)]; rfl
theorem ZoZ {u x : Nat → Int} {k : Int} : ∀ n, Za1 (fun a => u a * k) x n = Za1 u x n * k
 | 0 => rfl
 | n + 1 => by
  show Za1 (fun a => u a * k) x n + u (n + 1) * k * x n = (Za1 u x n + u (n + 1) * x n) * k
  rw [ZoZ n, Int.add_mul, Int.mul_assoc, Int.mul_comm k, ← Int.mul_assoc]
theorem Zmk {a b : Option Int} {x y : Int} (h : ZaT a b = some y) (ha : ∀ z, a = some z → x ≤ z) (hb : ∀ z, b = some z → x ≤ z) : x ≤ y := by
 rcases Zer a b with q | q
 ·exact ha y (q ▸ h)
 ·exact hb y (q ▸ h)
theorem Zvv {n : Nat} {G : Nat → Nat → Option Int} {R : Nat → Int × Int} {c : Nat → Int} {top : Int} {x : Nat → Int} (h : ZbH n G R x) (ht : Za1 c x n ≤ top) : ZbH n (amG n G c top) R x := by
 have f1 : ∀ i j, i < n + 1 → j < n + 1 → ∀ y, apW n G c top i j = some y → ZaJ x i - ZaJ x j ≤ y := fun i j hi hj y e => by
  unfold apW at e
  split at e
  ·exact h.1 i j hi hj y e
  ·refine Zmk e (h.1 i j hi hj) fun z ez => ?_
   obtain ⟨p, q, h1, h2, rfl⟩ := addO_some.mp ez
   cases h2
   have := Znf h h1
   rw [show apC c i j = fun k => (fun a => unC i a - unC j a) k - c k from rfl, Zij, Zij, ZmX i hi, ZmX j hj] at this
   omega
 have f2 : ∀ i, i < n + 1 → ∀ z, Zai (grt n G (alC c i)) (some top) = some z → ZaJ x i * c i ≤ z := fun i hi z ez => by
  obtain ⟨p, q, h1, h2, rfl⟩ := addO_some.mp ez
  cases h2
  have := Znf h h1
  rw [show alC c i = fun k => (fun a => unC i a * c i) k - c k from rfl, Zij, ZoZ, ZmX i hi] at this
  omega
 refine ⟨fun i j hi hj y e => ?_, h.2⟩
 unfold amG alW at e
 split at e
 ·rename_i q
  obtain ⟨rfl, q1, q2, q3⟩ := q
  refine Zmk e (f1 i 0 hi hj) fun z ez => ?_
  unfold prt at ez
  obtain ⟨p, h1, rfl⟩ := Zz1.mp ez
  have := f2 i hi p h1
  rw [if_neg (by omega), show ZaJ x 0 = 0 from rfl, Int.sub_zero]
  exact by rw [Int.fdiv_eq_ediv_of_nonneg _ (by omega)]; exact (Int.le_ediv_iff_mul_le q3).mpr this
 ·split at e
  ·rename_i q
   obtain ⟨rfl, q1, q2, q3⟩ := q
   refine Zmk e (f1 0 j hi hj) fun z ez => ?_
   unfold prt at ez
   obtain ⟨p, h1, rfl⟩ := Zz1.mp ez
   have := f2 j hj p h1
   rw [if_pos q3, show ZaJ x 0 = 0 from rfl, Int.zero_sub]
   rw [Int.fdiv_eq_ediv_of_nonneg _ (by omega)]; refine (Int.le_ediv_iff_mul_le (by omega)).mpr ?_
   rw [Int.neg_mul_neg]
   exact this
  ·exact f1 i j hi hj y e
end L
namespace L
open PySem PySem.W PyProof.Rows PM TM My
theorem Zvw {n : Nat} {G : Nat → Nat → Option Int} (hn : n ≤ 100) : Dp 8 (Z8 (n + 1) G) := by
 refine .lst (fun t m => ?_) (by rw [Zau]; omega)
 obtain ⟨i, hi, rfl⟩ := ZdE m
 refine .lst (fun t m => ?_) (by rw [Zau]; omega)
 obtain ⟨j, hj, rfl⟩ := ZdE m
 exact ZwJ
theorem ZrY {c t : T} : Zb6 [.none, c, t] = some .none := by
 apply Pk.eq
 unfold Zb6 Zgc
 walk_at "zz"
 rfl
theorem ZiQ {c t : T} : Zb8 [.none, c, t] = some .none := by
 apply Pk.eq
 unfold Zb8 ZfL
 walk_at "zz"
 rfl
theorem Zpx {n b : Nat} {G : Nat → Nat → Option Int} {R : Nat → Int × Int} {c : Nat → Int} (hn : n ≤ 60) (hb : b ≤ 900) (hb1 : 1 ≤ b) (hG : GB b n G) (bc : ∀ i, i < n + 1 → Bd b (c i)) : Zgr [Z5 n G R, Zad n c] = some (oT ((grt n G fun i => -(c i)).map fun y => y * -1)) := Zuo hn (by omega) hb1 hG bc fun y e => (Zp8 hG (Zih bc) y e).mono (by omega)
theorem ZsR {n b : Nat} {G : Nat → Nat → Option Int} {R : Nat → Int × Int} {c : Nat → Int} {top : Int} {D : T} (hn : n ≤ 60) (hb : b ≤ 900) (hb1 : 1 ≤ b) (hG : GB b n G) (bc : ∀ i, i < n + 1 → Bd b (c i)) (hd : ∀ i, i < n + 1 → G i i = some 0) (hc : ∀ y, grt n G (fun k => -(c k)) = some y → -y ≤ top) (h : Zeq [Z5 n (amG n G c top) R] = some D) : Zb6 [Z5 n G R, Zad n c, .int top] = some D := by
 apply Pk.eq
 unfold Zb6 Zgc
 have ht : Z5 n G R = .tup [Z8 (n + 1) G, .lst (tab n fun i => prT (R i))] := rfl
 have hne : ∀ {Q : T → Prop}, Q (.bool false) → Pk (qIs (Z5 n G R) .none) Q := fun h => ⟨_, by rw [ht]; rfl, h⟩
 have hx : Ze6 [oT ((grt n G fun i => -(c i)).map fun y => y * -1), .int top] = some (.bool false) := by
  rw [show T.int top = oT (some top) from rfl, ZoD, ZbN]
  rintro ⟨x, y, h1, h2, h3⟩
  cases h2
  obtain ⟨z, e1, rfl⟩ := Zz1.mp h1
  have := hc z e1
  omega
 have hg : ∀ {Q : T → Prop}, Q (Z8 (n + 1) G) → Pk (Zr (Z5 n G R) (.int 0)) Q := fun h => ⟨_, by rw [ht]; rfl, h⟩
 walk_at "zz"
 refine hne ?_
 walk_at "zz"
 refine ZO (Zpx hn hb hb1 hG bc) ?_
 walk_at "zz"
 refine ZO hx ?_
 walk_at "zz"
 refine hg ?_
 walk_at "zz"
 refine ZO (Zun (Zvw (by omega))) ?_
 walk_at "zz"
 refine Zfu (t := Z8 (n + 1) G) (by walk_at "zr") ?_
 walk_at "zz"
 refine ZO (Zrg hn hb hb1 hG bc hd hc) ?_
 walk_at "zz"
 refine Zfu (t := Z8 (n + 1) (apW n G c top)) (by walk_at "zr") ?_
 walk_at "zz"
 refine ZO (Zrh hn hb hb1 hG bc) ?_
 rw [ht]
 walk_at "zz"
 exact ZO h rfl
theorem Zsh {n b : Nat} {G : Nat → Nat → Option Int} {R : Nat → Int × Int} {c : Nat → Int} {top y : Int} (hn : n ≤ 60) (hb : b ≤ 900) (hb1 : 1 ≤ b) (hG : GB b n G) (bc : ∀ i, i < n + 1 → Bd b (c i)) (e : grt n G (fun k => -(c k)) = some y) (hy : top < -y) : Zb6 [Z5 n G R, Zad n c, .int top] = some .none ∧ Zb8 [Z5 n G R, Zad n c, .int top] = some .none := by
 have ht : Z5 n G R = .tup [Z8 (n + 1) G, .lst (tab n fun i => prT (R i))] := rfl
 have hne : ∀ {Q : T → Prop}, Q (.bool false) → Pk (qIs (Z5 n G R) .none) Q := fun h => ⟨_, by rw [ht]; rfl, h⟩
 have hx : Ze6 [oT ((grt n G fun i => -(c i)).map fun y => y * -1), .int top] = some (.bool true) := by
  rw [show T.int top = oT (some top) from rfl, ZoD, ZaZ]
  exact ⟨y * -1, top, by rw [e]; rfl, rfl, by omega⟩
 constructor
 ·apply Pk.eq
  unfold Zb6 Zgc
  walk_at "zz"
  refine hne ?_
  walk_at "zz"
  refine ZO (Zpx hn hb hb1 hG bc) ?_
  walk_at "zz"
  refine ZO hx ?_
  walk_at "zz"
  rfl
 ·apply Pk.eq
  unfold Zb8 ZfL
  have hs : Zad n c = .lst (tab (n + 1) fun k => .int (c k)) := rfl
  rw [hs]
  walk_at "zz"
  refine hne ?_
  walk_at "zz"
  refine Zcz (n := n + 1) (a := fun k => .int (c k)) (b := fun k => .int (-(c k))) (by omega) ?_ (fun k hk => ?_) ?_
  ·walk_at "zz"
   rfl
  ·walk_at "zz"
   rfl
  rw [show (T.lst (tab (n + 1) fun k => T.int (-(c k)))) = Zad n (fun k => -(c k)) from rfl]
  walk_at "zz"
  refine ZO (ZgW (b := b) hn (by omega) hG (Zih bc)) ?_
  have hy' : -y > top := hy
  rw [e, Zan]
  walk_at "zz"
  rfl
theorem ZtA {n b B : Nat} {G : Nat → Nat → Option Int} {R : Nat → Int × Int} {c : Nat → Int} {top : Int} (hn : n ≤ 20) (hb1 : 1 ≤ b) (hb : b ≤ 900) (hB : b + b + n + 6 ≤ B) (hk : B * n + B + 2 * n + 5 ≤ 7000) (hd : ∀ i, i < n + 1 → G i i = some 0) (sG : SmG b n G) (sR : SmR b n R) (ok : ∀ t, t < n → RestOk (R t)) (bc : ∀ i, i < n + 1 → Bd b (c i)) (bt : Bd b top) : ∃ D, Zb6 [Z5 n G R, Zad n c, .int top] = some D ∧ Zb8 [Z5 n G R, Zad n c, .int top] = some D ∧ Tn n (B * n + B + 3 * n + 9) (fun x => ZbH n G R x ∧ Za1 c x n ≤ top) D := by
 by_cases hc : ∀ y, grt n G (fun k => -(c k)) = some y → -y ≤ top
 ·obtain ⟨D, e1, e2, hD⟩ := Zvs (B := B) hn (by omega) hk (ZwV (c := c) (top := top) hd) ok (ZwO hb1 sG bc bt hB) (fun t ht => ⟨ZaW (sR t ht).1 (by omega), ZaW (sR t ht).2 (by omega)⟩)
  exact ⟨D, ZsR (by omega) hb hb1 sG bc hd hc e1, Zri (by omega) hb hb1 sG bc hc e2, hD.sub (Nat.le_refl _) fun x h => Zvv h.1 h.2⟩
 ·have : ∃ y, grt n G (fun k => -(c k)) = some y ∧ top < -y := by
   refine Classical.byContradiction fun q => hc fun y e => ?_
   refine Classical.byContradiction fun z => q ⟨y, e, by omega⟩
  obtain ⟨y, e, hy⟩ := this
  obtain ⟨a1, a2⟩ := Zsh (R := R) (b := b) (by omega) hb hb1 sG bc e hy
  refine ⟨.none, a1, a2, .inl ⟨rfl, fun x h => ?_⟩⟩
  have := Znf h.1 e
  rw [Zp7] at this
  omega
end L
namespace L
open PySem PySem.W PyProof.Rows PM TM My
theorem ZqD {n b : Nat} {c x : Nat → Int} (bc : ∀ i, i < n + 1 → Bd b (c i)) (bx : ∀ i, i < n → Bd b (x i)) : ∀ j, j ≤ n → Bd (b + b + j) (Za1 c x j)
 | 0, _ => (bc 0 (by omega)).mono (by omega)
 | j + 1, hj => by
  have h1 := ZqD bc bx j (by omega)
  have h2 := ((bc (j + 1) (by omega)).mul (bx j (by omega))).mono (show b + b ≤ b + b + j by omega)
  exact h1.add h2
noncomputable def Zcf (c : Nat → Int) (top : Int) : Nat → Int := fun k => if k = 0 then c 0 - top else c k
theorem Zwn {n b : Nat} {c : Nat → Int} {top : Int} (bc : ∀ i, i < n + 1 → Bd b (c i)) (bt : Bd b top) : ∀ i, i < n + 1 → Bd (b + 1) (Zcf c top i) := fun i hi => by
 unfold Zcf
 split
 ·exact (bc 0 (by omega)).sub bt
 ·exact (bc i hi).mono (by omega)
theorem su : PyData.strOk (Str.ofString "under") = true := by decide +kernel
noncomputable def unT (n : Nat) (c : Nat → Int) : T := .tup [.str (Str.ofString "under"), Zad n c]
theorem ZtB {c : Nat → Int} : (fun k => c k * -1) = fun k => -(c k) := by funext k; omega
theorem Zrj {T0 : T} {n : Nat} {c : Nat → Int} {D : T} (h : Zb6 [T0, Zad n c, .int (-1)] = some D) : Zeg [T0, Zad n c, .bool true] = some D := by
 apply Pk.eq
 unfold Zeg Zhe
 walk_at "zz"
 exact ZO h rfl
theorem ZrB {T0 : T} {n b : Nat} {c : Nat → Int} {D : T} (hn : n ≤ 900) (hb1 : 1 ≤ b) (hb : b ≤ 1000) (bc : ∀ i, i < n + 1 → Bd b (c i)) (h : Zb6 [T0, Zad n fun k => -(c k), .int 0] = some D) : Zeg [T0, Zad n c, .bool false] = some D := by
 apply Pk.eq
 unfold Zeg Zhe
 walk_at "zz"
 refine ZO (Zhh (b := b) (by omega) (by omega) bc (show Bd b (-1) by unfold Bd; have := ZdQ hb1; unfold Bd at this; simpa using this)) ?_
 rw [ZtB]
 walk_at "zz"
 exact ZO h rfl
theorem Zp9 {n : Nat} {T0 D : T} {c : Nat → Int} {b : Bool} (hT : T0 = .none ∨ ∃ G R, T0 = Z5 n G R) (h0 : T0 = .none → D = .none) (h : Zeg [T0, Zad n c, .bool b] = some D) : Zdf [T0, unT n c, .bool b] = some D := by
 apply Pk.eq
 unfold Zdf Ziu
 rcases hT with rfl | ⟨G, R, rfl⟩
 ·rw [h0 rfl]
  walk_at "zz"
  rfl
 ·have ht : Z5 n G R = .tup [Z8 (n + 1) G, .lst (tab n fun i => prT (R i))] := rfl
  have hne : ∀ {Q : T → Prop}, Q (.bool false) → Pk (qIs (Z5 n G R) .none) Q := fun h => ⟨_, by rw [ht]; rfl, h⟩
  unfold unT
  walk_at "zz"
  refine hne ?_
  walk_at "zz"
  refine Zet (n := 1) (m := 1) (.str su) (.str su) ?_
  rw [ZaZ rfl]
  walk_at "zz"
  exact ZO h rfl
theorem Zo0 {a b : T} : Zdf [.none, a, b] = some .none := by
 apply Pk.eq
 unfold Zdf Ziu
 walk_at "zz"
 rfl
structure F44 (n : Nat) (T0 : T) (c : Nat → Int) (top : Int) : Prop where
 a : ∃ D, Zb6 [T0, Zad n c, .int top] = some D ∧ Zb8 [T0, Zad n c, .int top] = some D ∧ DueOk n D
 t : ∃ D, Zdf [T0, unT n (Zcf c top), .bool true] = some D ∧ Zb8 [T0, Zad n (Zcf c top), .int (-1)] = some D ∧ DueOk n D
 f : ∃ D, Zdf [T0, unT n (Zcf c top), .bool false] = some D ∧ Zb8 [T0, Zad n (fun k => -(Zcf c top k)), .int 0] = some D ∧ DueOk n D
 p : Pln 3 T0
 k : ZdU [T0] = some T0
theorem Zur {n : Nat} {T0 : T} {c : Nat → Int} {top : Int} (hn : n ≤ 4) (bc : ∀ i, i < n + 1 → Bd 290 (c i)) (bt : Bd 290 top) (hT : T0 = .none ∨ ∃ (G : Nat → Nat → Option Int) (R : Nat → Int × Int), T0 = Z5 n G R ∧ (∀ i, i < n + 1 → G i i = some 0) ∧ (∀ t, t < n → RestOk (R t)) ∧ SmG 137 n G ∧ SmR 137 n R) : F44 n T0 c top := by
 rcases hT with rfl | ⟨G, R, rfl, hd, ok, sG, sR⟩
 ·exact ⟨⟨.none, ZrY, ZiQ, .inl rfl⟩, ⟨.none, Zo0, ZiQ, .inl rfl⟩, ⟨.none, Zo0, ZiQ, .inl rfl⟩, .none, Ztl⟩
 ·have sG2 : SmG 291 n G := fun i j hi hj b e => ZaW (sG i j hi hj b e) (by decide)
  have sR2 : SmR 291 n R := fun t ht => ⟨ZaW (sR t ht).1 (by decide), ZaW (sR t ht).2 (by decide)⟩
  have hm : 600 * n ≤ 600 * 4 := Nat.mul_le_mul (Nat.le_refl _) hn
  have bl := Zwn bc bt
  have go : ∀ {d : Nat → Int} {u : Int}, (∀ i, i < n + 1 → Bd 291 (d i)) → Bd 291 u → ∃ D, Zb6 [Z5 n G R, Zad n d, .int u] = some D ∧ Zb8 [Z5 n G R, Zad n d, .int u] = some D ∧ DueOk n D := fun bd bu => by
   obtain ⟨D, e1, e2, hD⟩ := ZtA (b := 291) (B := 600) (by omega) (by decide) (by decide) (by omega) (by omega) hd sG2 sR2 ok bd bu
   exact ⟨D, e1, e2, hD.due⟩
  refine ⟨go (fun i hi => (bc i hi).mono (by decide)) (bt.mono (by decide)), ?_, ?_, Zmq, Zve (by omega)⟩
  ·obtain ⟨D, e1, e2, hD⟩ := go (u := -1) bl ((show Bd 1 (-1) by unfold Bd; decide).mono (by decide))
   exact ⟨D, Zp9 (.inr ⟨G, R, rfl⟩) (fun h => by cases h) (Zrj e1), e2, hD⟩
  ·obtain ⟨D, e1, e2, hD⟩ := go (u := 0) (Zih bl) Zed
   exact ⟨D, Zp9 (.inr ⟨G, R, rfl⟩) (fun h => by cases h) (ZrB (b := 291) (by omega) (by decide) (by decide) bl e1), e2, hD⟩
end L
namespace L
open PySem PySem.W PyProof.Rows PM TM My
theorem Zqa {n : Nat} {c : Nat → Int} : Pln 1 (Zad n c) := by
 have := ZmT (tab (n + 1) c)
 rw [tab_map] at this
 exact this
theorem ZqE {n : Nat} {c : Nat → Int} : Pln 2 (unT n c) := .tup fun t m => by
 simp at m
 rcases m with rfl | rfl
 ·exact .str su
 ·exact Zqa
theorem Zvx {n : Nat} {c : Nat → Int} {top : Int} : [T.int (c 0 - top)] ++ (tab (n + 1) fun i => T.int (c i)).drop 1 = tab (n + 1) fun i => T.int (Zcf c top i) := by
 apply List.ext_getElem
 ·simp [tab]
 ·intro i h1 h2
  cases i with
  | zero => simp [tab, Zcf]
  | succ i => simp [tab, Zcf]
theorem Zvy {n : Nat} {T0 : T} {c : Nat → Int} {top : Int} {σ : TL} {N : TL → Prop} (hn : n ≤ 4) (e3 : σ 3 = some T0) (e4 : σ 4 = some (Zad n c)) (e5 : σ 5 = some (.int top)) (F : F44 n T0 c top) : Psk ((Zu (ZM 7 (Zs ZdU (Zd (Za 3) Zn))) (Zu (ZM 8 (Zs ZbX (Zd (Za 4) Zn))) (Zu (ZM 9 (Zs Zb6 (Zd (Za 3) (Zd (Za 8) (Zd (Za 5) Zn))))) (Zu (ZU (bOr (ZE (Ze qNe (Za 3) (Za 7))) (bOr (ZE (Ze qNe (Za 8) (Za 4))) (bOr (ZbQ (ZE (Zs ZcR (Zd (Za 9) (Zd (Zs Zb8 (Zd (Za 7) (Zd (Za 4) (Zd (Za 5) Zn)))) Zn))))) Zcp))) (ZF (Zbv false)) ZX) (Zu (Zdv 9 ZeO Zn) (Zu (ZM 10 (Ze Zae (ZbF (Zd (Ze ZaX (Ze Zr (Za 4) (Zk 0)) (Za 5)) Zn)) (ZcG (Za 4) 1))) (Zu (ZM 8 (ZaL (Zd (Zd9 (Str.ofString "under")) (Zd (Zs ZbX (Zd (Za 10) Zn)) Zn)))) (Zu (ZU (ZbQ (ZE (Zs ZcR (Zd (Zs Zdf (Zd (Za 3) (Zd (Za 8) (Zd (Zbv true) Zn)))) (Zd (Zs Zb8 (Zd (Za 7) (Zd (Za 10) (Zd (pUn Zbh (Zk 1)) Zn)))) Zn))))) (ZF (Zbv false)) ZX) (Zu (ZU (ZbQ (ZE (Zs ZcR (Zd (Zs Zdf (Zd (Za 3) (Zd (Za 8) (Zd (Zbv false) Zn)))) (Zd (Zs Zb8 (Zd (Za 7) (Zd (Zam (ZaH (Za 10)) (Zab 102) Zag (pUn Zbh (Za 102))) (Zd (Zk 0) Zn)))) Zn))))) (ZF (Zbv false)) ZX) (ZF ((Zc4 (Ze qEq (Za 3) (Za 7)) (Ze qEq (Za 8) (ZaL (Zd (Zd9 (Str.ofString "under")) (Zd (Za 10) Zn)))))))))))))))) σ) (fun t => t = .bool true) N := by
 obtain ⟨⟨D1, a1, b1, d1⟩, ⟨D2, a2, b2, d2⟩, ⟨D3, a3, b3, d3⟩, pl, cp⟩ := F
 have s1 := d1.same (by omega)
 have s2 := d2.same (by omega)
 have s3 := d3.same (by omega)
 obtain ⟨t, et⟩ := Ztz (n := n) (by omega) d1.sh
 clear d1 d2 d3
 have hs : ∀ {d : Nat → Int}, (T.lst (tab (n + 1) fun i => T.int (d i))) = Zad n d := rfl
 have ps : ∀ {d : Nat → Int}, Pln 1 (Zad n d) := Zqa
 have hcp : ∀ {σ : TL}, σ 10 = some (Zad n (Zcf c top)) → Pk (Zam (ZaH (Za 10)) (Zab 102) Zag (pUn Zbh (Za 102)) σ) fun t => t = Zad n fun k => -(Zcf c top k) := fun e => by
  unfold Zad at e
  refine Zcz (n := n + 1) (a := fun k => .int (Zcf c top k)) (b := fun k => .int (-(Zcf c top k))) (by omega) ?_ (fun k hk => ?_) rfl
  ·walk_at "zz"
   rfl
  ·walk_at "zz"
   rfl
 have hle : ∀ {σ : TL}, σ 4 = some (Zad n c) → σ 5 = some (.int top) → Pk (Ze Zae (ZbF (Zd (Ze ZaX (Ze Zr (Za 4) (Zk 0)) (Za 5)) Zn)) (ZcG (Za 4) 1) σ) fun t => t = Zad n (Zcf c top) := fun e f => by
  unfold Zad at e
  walk_at "zz"
  refine Zl9 ?_
  walk_at "zz"
  refine ⟨_, rfl, ?_⟩
  refine ZpY (by simp [tab]; omega) ?_
  rw [show Int.toNat 0 = 0 from rfl, Zvx]
  rfl
 have hl1 : ∀ {d : Nat → Int} {Q : T → Prop}, Q (Zad n d) → Pk (ZbX [Zad n d]) Q := fun h => ⟨_, rfl, h⟩
 walk_at "zz"
 refine ZO cp ?_
 walk_at "zz"
 refine hl1 ?_
 walk_at "zz"
 refine ZO a1 ?_
 walk_at "zz"
 refine Zqm pl pl ?_
 rw [ZaZ rfl]
 walk_at "zz"
 refine Zqm ps ps ?_
 rw [ZaZ rfl]
 walk_at "zz"
 refine ZO b1 ?_
 walk_at "zz"
 refine ZO s1 ?_
 walk_at "zz"
 refine Zfu (t := D1) (by walk_at "zr") ?_
 walk_at "zz"
 refine ZO et ?_
 refine Zgu ?_
 refine Zim ?_
 refine (hle (by walk_at "zr") (by walk_at "zr")).mono ?_
 rintro _ rfl
 walk_at "zz"
 refine hl1 ?_
 walk_at "zz"
 rw [show T.tup [T.str (Str.ofString "under"), Zad n (Zcf c top)] = unT n (Zcf c top) from rfl]
 walk_at "zz"
 refine ZO a2 ?_
 walk_at "zz"
 refine ZO b2 ?_
 walk_at "zz"
 refine ZO s2 ?_
 walk_at "zz"
 refine ZO a3 ?_
 walk_at "zz"
 refine (hcp (by walk_at "zr")).mono ?_
 rintro _ rfl
 walk_at "zz"
 refine ZO b3 ?_
 walk_at "zz"
 refine ZO s3 ?_
 walk_at "zz"
 refine Zet pl pl ?_
 rw [ZaZ rfl]
 walk_at "zz"
 rw [show T.tup [T.str (Str.ofString "under"), Zad n (Zcf c top)] = unT n (Zcf c top) from rfl]
 refine Zet ZqE ZqE ?_
 rw [ZaZ rfl]
theorem Zsi {ns : List Int} (hL : Lay ns) : Zmy [scr ns] = some (.bool true) := by
 apply Pk.eq
 unfold Zmy Zmx
 obtain ⟨p0, p1⟩ := Zci ns 0 (show (0 : Int) < 9 by decide)
 obtain ⟨w, ew, hw⟩ := Ziv p0 (show Zbi ns 0 9 < (9 : Nat) by omega)
 walk_at "zz"
 refine ZO (Zcj (by decide) (by decide) (by decide)) ?_
 rw [ew]
 obtain ⟨n, hn, hidx⟩ : ∃ n : Nat, n ≤ 4 ∧ [T.int 0, .int 1, .int 2, .int 1, .int 2, .int 1, .int 2, .int 3, .int 4][w]? = some (.int n) := by
  match w, hw with
  | 0, _ => exact ⟨0, by decide, rfl⟩
  | 1, _ => exact ⟨1, by decide, rfl⟩
  | 2, _ => exact ⟨2, by decide, rfl⟩
  | 3, _ => exact ⟨1, by decide, rfl⟩
  | 4, _ => exact ⟨2, by decide, rfl⟩
  | 5, _ => exact ⟨1, by decide, rfl⟩
  | 6, _ => exact ⟨2, by decide, rfl⟩
  | 7, _ => exact ⟨3, by decide, rfl⟩
  | 8, _ => exact ⟨4, by decide, rfl⟩
 refine Zh6 (t := .int n) (by omega) (by rw [Int.toNat_natCast]; exact hidx) ?_
 walk_at "zz"
 refine Zcz (n := n) (a := fun i => .int i) (b := fun i => .int (Zb2 ns (2 + i))) (by omega) ?_ (fun t ht => ?_) ?_
 ·walk_at "zz"
  rfl
 ·walk_at "zz"
  exact ZO (Zfa hL (by omega) (by omega)) rfl
 generalize hx : (fun i : Nat => Zb2 ns (2 + i)) = x
 have sx : ∀ i, i < n → (x i).natAbs < 2 ^ 134 := fun i _ => by rw [← hx]; exact Zgs ns _
 rw [show (fun i : Nat => T.int (Zb2 ns (2 + i))) = fun i => T.int (x i) by rw [← hx]]
 walk_at "zz"
 refine ZO (Zvd (x := x) hL (by decide) (by decide) (by omega)) ?_
 have gd := Ztj ns 14 n x
 have smG : SmG 136 n (Zct ns 14 n x) := Zug sx
 have smR : SmR 136 n (Zfz ns 14 n x) := fun t ht => ⟨ZaW (Zpi (ns := ns) (k := 14) sx t ht).1 (by decide), ZaW (Zpi (ns := ns) (k := 14) sx t ht).2 (by decide)⟩
 generalize Zct ns 14 n x = G at *
 generalize Zfz ns 14 n x = R at *
 walk_at "zz"
 refine (ZwN (n := n) (kk := 8) (by decide) (by decide) hL (by omega)).mono ?_
 rintro _ ⟨c, rfl, hc⟩
 have bc := hc.bd (by decide)
 have bx : ∀ i, i < n → Bd 140 (x i) := fun i hi => ZaW (sx i hi) (by decide)
 have hv := Zup (n := n) (b := 140) (c := c) (x := x) (by omega) (by decide) bc bx
 have bv := (ZqD bc bx n (Nat.le_refl n)).mono (show 140 + 140 + n ≤ 285 by omega)
 walk_at "zz"
 refine ZO (Zfa hL (by decide) (by decide)) ?_
 have b6 : Bd 290 (Zb2 ns 6) := (show Bd 134 (Zb2 ns 6) from Zgs ns 6).mono (by decide)
 generalize Zb2 ns 6 = nu at *
 refine ZcE (fun σ' => σ' 0 = some (scr ns) ∧ σ' 1 = some (.int n) ∧ σ' 3 = some (Z5 n G R) ∧ σ' 4 = some (Zad n c) ∧ ∃ top, σ' 5 = some (.int top) ∧ Bd 290 top) ?_ ?_
 ·walk_at "zz"
  refine ZO (Zcj (by decide) (by decide) (by decide)) ?_
  walk_at "zz"
  refine ⟨fun q => ?_, fun q => ?_⟩
  ·walk_at "zz"
   refine ZO hv ?_
   walk_at "zz"
   refine ZO (Zcj (by decide) (by decide) (by decide)) ?_
   walk_at "zz"
   obtain ⟨z0, z1⟩ := Zci ns 6 (show (0 : Int) < 7 by decide)
   generalize Zbi ns 6 7 = pp at *
   refine ⟨by walk_at "zr", by walk_at "zr", by walk_at "zr", by walk_at "zr", _, Zbn, ?_⟩
   have h1 : Bd 285 (pp - 3) := (show Bd 3 (pp - 3) by unfold Bd; omega).mono (by decide)
   rw [show Za1 c x n + pp - 3 = Za1 c x n + (pp - 3) by omega]
   exact (bv.add h1).mono (by decide)
  ·walk_at "zz"
   exact ⟨by walk_at "zr", by walk_at "zr", by walk_at "zr", by walk_at "zr", nu, by walk_at "zr", b6⟩
 rintro σ1 ⟨e0, e1, e3, e4, top, e5, bt⟩
 walk_at "zz"
 refine ZO (Zcj (by decide) (by decide) (by decide)) ?_
 generalize Zbi ns 1 55 = wy at *
 refine ZcE (fun σ' => σ' 0 = some (scr ns) ∧ σ' 4 = some (Zad n c) ∧ σ' 5 = some (.int top) ∧ σ' 6 = some (.int wy) ∧ ∃ (G : Nat → Nat → Option Int) (R : Nat → Int × Int), σ' 3 = some (Z5 n G R) ∧ (∀ i, i < n + 1 → G i i = some 0) ∧ (∀ t, t < n → RestOk (R t)) ∧ SmG 137 n G ∧ SmR 137 n R) ?_ ?_
 ·walk_at "zz"
  refine ⟨fun q => ?_, fun q => ?_⟩
  ·walk_at "zz"
   refine (Zty (B := 136) hL (by decide) (by decide) (by omega) (by decide) gd.2 smR smG).mono ?_
   rintro _ ⟨G2, R2, rfl, d2, r2, g2, s2⟩
   exact ⟨by walk_at "zr", by walk_at "zr", by walk_at "zr", by walk_at "zr", G2, R2, Zbn, fun i hi => by rw [d2 i hi]; exact gd.1 i hi, r2, g2, s2⟩
  ·walk_at "zz"
   exact ⟨by walk_at "zr", by walk_at "zr", by walk_at "zr", by walk_at "zr", G, R, by walk_at "zr", gd.1, gd.2, fun a b ha hb c e => ZaW (smG a b ha hb c e) (by decide), fun t ht => ⟨ZaW (smR t ht).1 (by decide), ZaW (smR t ht).2 (by decide)⟩⟩
 clear smG smR gd e0 e1 e3 e4 e5
 rintro σ2 ⟨e0, e4, e5, e6, G1, R1, e3, hd1, ok1, sG1, sR1⟩
 refine ZcE (fun σ' => σ' 4 = some (Zad n c) ∧ σ' 5 = some (.int top) ∧ ∃ T0, σ' 3 = some T0 ∧ (T0 = .none ∨ ∃ (G : Nat → Nat → Option Int) (R : Nat → Int × Int), T0 = Z5 n G R ∧ (∀ i, i < n + 1 → G i i = some 0) ∧ (∀ t, t < n → RestOk (R t)) ∧ SmG 137 n G ∧ SmR 137 n R)) ?_ ?_
 ·walk_at "zz"
  refine ⟨fun q => ?_, fun q => ?_⟩
  ·walk_at "zz"
   exact ⟨by walk_at "zr", by walk_at "zr", .none, Zbn, .inl rfl⟩
  ·walk_at "zz"
   exact ⟨e4, e5, _, e3, .inr ⟨G1, R1, rfl, hd1, ok1, sG1, sR1⟩⟩
 rintro σ3 ⟨f4, f5, T0, f3, hT⟩
 exact Zvy hn f3 f4 f5 (Zur hn (fun i hi => (bc i hi).mono (by decide)) bt hT)
theorem ZrZ {ns : List Int} (hlen : ns.length ≤ 63) (hL : PyData.layable0 (.list (ns.map .int)) = true) : ∃ H', Zpd [.ref 0] [ns.map V.int] = some (.bool true, H') := Zs7 Zub ns (Zsi hL)
end L
end
section
open PySem PySem.W PyProof.Rows
namespace PySem.W.Fast
def tw5105673956185107153:=0
def tw16968176118458789586:=0
def tw316514102143019080:=0
def tw1176975735165151067:=0
def tw13698048360955963301:=0
def tw10426125643436316091:=0
def tw3528903376305711396:=0
def tw10199354318988768051:=0
def tw6397798872860733234:=0
def tw14442895186254868694:=0
def tw550859730669387710:=0
def tw8005766506721756608:=0
def tw4621932581444047675:=0
def tw10828584012397450241:=0
def tw13402640891724300857:=0
def tw17643754061406199020:=0
def tw11187973929812520656:=0
def tw4584130408075211490:=0
def tw3285859953031059425:=0
def tw10667965978278278033:=0
def tw15452572443179084588:=0
def tw9156678896304099913:=0
def tw15886500619415505586:=0
def tw3520363519792060846:=0
def tw12048056826642495367:=0
def tw1099786997935966427:=0
def tw4419873286371483742:=0
def tw4491058772748593153:=0
def tw6684487512316482741:=0
def tw10609323587221475018:=0
def tw9986627191518016938:=0
def tw13436231055378572716:=0
def tw11930311979851757478:=0
def tw5055051069096525434:=0
def tw15221209806709932071:=0
def tw12798869161161681673:=0
def tw10209164474934016114:=0
def tw9774394379856643515:=0
def tw2257529940240947247:=0
def tw5891177449180782854:=0
def tw12533650973541477374:=0
def tw9840342860782594374:=0
def tw14048895322960730393:=0
def tw16002967266952078866:=0
def tw17704188385166749297:=0
def tw7523194637212750777:=0
def tw4361700775904427359:=0
def tw7498633149979677338:=0
def tw10299302589577801163:=0
def tw15515405784836723652:=0
def tw9563574807059059695:=0
def tw17624731456758155189:=0
def tw11519117686961666697:=0
def tw16932301668260661676:=0
def tw4157206338815638501:=0
def tw11630328935867623959:=0
def tw5587826856885255690:=0
def tw1349388230604553621:=0
def tw16915470645016011554:=0
def tw2496939508604703423:=0
def tw16472409268878238316:=0
def tw10700183255674453818:=0
def tw8164005668110941744:=0
def tw4961949625528378942:=0
def tw3764688243253525356:=0
def tw13426244417702134072:=0
def tw1462193419119380569:=0
def tw742405457713269000:=0
def tw5681066748535004433:=0
def tw234749781942434899:=0
def tw529536973988259948:=0
def tw5958337225494893492:=0
def tw1191315250883676292:=0
def tw1906743188756502811:=0
def tw7875376050956498882:=0
def tw8426798971799828003:=0
def tw10335527622381539264:=0
def tw14501001857826371202:=0
def tw17925384258215065573:=0
def tw4026151001005817321:=0
def tw5030944203280556702:=0
def tw13517250619966689955:=0
def tw16539199913488330184:=0
def tw9435018134839604537:=0
def tw16131593051203169754:=0
def tw7492102371377302679:=0
def tw14191745827877185554:=0
def tw5312734613080425828:=0
def tw10155365746132046468:=0
def tw17849293660312457548:=0
def tw16364373167927100580:=0
def tw14613296582639449008:=0
def tw12018387782679925087:=0
def tw16745343075639119971:=0
def tw16749348522385944071:=0
def tw10561106145012299093:=0
def tw2283480497557504744:=0
def tw69414778264802052:=0
def tw16550838102048051623:=0
def tw7537285074954141530:=0
def tw7215932318001415403:=0
def tw12300527617525357084:=0
def tw6285040191614719466:=0
def tw734138898119960010:=0
def tw3172541193896328996:=0
def tw4843473975253519250:=0
def tw16172578528114110199:=0
def tw3307598998989760257:=0
def tw11309342325655673037:=0
def tw1541540961381408409:=0
def tw15248526436251307398:=0
def tw8789256864460932259:=0
def tw15622835117965313283:=0
def tw5388663596951873645:=0
def tw11849525312028181438:=0
def tw10785849952161257653:=0
def tw569269584081339442:=0
def tw15943592676296772274:=0
def tw7317576523658780031:=0
def tw16317983856663788926:=0
def tw8621301723031713458:=0
def tw17312996333117680517:=0
def tw3414106826494052011:=0
def tw12068798485007620914:=0
def tw7363425622247834253:=0
def tw12941643214049860704:=0
def tw13056512690104125533:=0
def tw8934421753687110507:=0
def tw4203021270051977171:=0
def tw3638187344944282256:=0
def tw1944925098504758534:=0
def tw3094701115853657799:=0
def tw1385777081429181588:=0
def tw16279701975793424917:=0
def tw4179031660912777645:=0
def tw305048472116853797:=0
def tw3857615796733700780:=0
def tw15508019666092448443:=0
def tw804092199982636349:=0
def tw2944391684731814369:=0
def tw13829591483307370896:=0
def tw2133357390318303931:=0
def tw17969941481158815411:=0
def tw16469568281967520401:=0
def tw15213048550514571353:=0
def tw1165732905965986049:=0
def tw17334881123488906936:=0
def tw17427895641331663283:=0
def tw6459200953577825518:=0
def tw4033379813872489195:=0
def tw14712817762504950641:=0
def tw8903238766108814736:=0
def tw539595736760451978:=0
def tw16149030986926176842:=0
def tw11622863634709415212:=0
def tw13478877428745155630:=0
def tw8436589768386056944:=0
def tw6708892414054319099:=0
def tw10097012582147076362:=0
def tw1147522009701800784:=0
def tw12565002596728077416:=0
def tw17721039672839981703:=0
def tw112567504061534027:=0
def tw9192171586001469603:=0
def tw9455475090630465045:=0
def tw8646929664414959583:=0
def tw2766794811542550618:=0
def tw17004574920194074796:=0
def tw7825248364748044718:=0
def tw358491328311820773:=0
def tw1880258362356491002:=0
def tw17845374550828520631:=0
def tw17619882183920601743:=0
def tw14439765378166140033:=0
def tw18221076124747093969:=0
def tw10752687858943698738:=0
def tw13432873828021710899:=0
def tw7470021291188754609:=0
def tw16629561534657121264:=0
def tw17601101962401091345:=0
def tw13884827974113296321:=0
def tw12059592832596718669:=0
def tw7249538410202319208:=0
def tw16118103595353321548:=0
def tw11712190458185945011:=0
def tw15210816241431372910:=0
def tw11905978938385298303:=0
def tw10762484250532422250:=0
def tw13231743877010270464:=0
def tw14566440943485919492:=0
def tw14374603453287560736:=0
def tw15069716523494295500:=0
def tw14678158920106854735:=0
def tw14790834132378566595:=0
def tw8839083969933755074:=0
def tw10188337973796604112:=0
def tw8369868683130302868:=0
def tw13148303815899264127:=0
def tw802917404587063742:=0
def tw5488966160659634681:=0
def tw15809405329383528182:=0
def tw12221415409051222339:=0
def tw9685044298169568939:=0
def tw6664951462986138201:=0
def tw13359630831485827548:=0
def tw3241244739717862871:=0
def tw11769617611247221923:=0
def tw15679247252792206210:=0
def tw8160871880118814707:=0
def tw6951939212644042833:=0
def tw17100184641858439841:=0
def tw15431134087688302020:=0
def tw14827384380277173613:=0
def tw9897558803702562313:=0
def tw12978678129208030876:=0
def tw8008005557923197168:=0
def tw9508736203920968164:=0
def tw4218939439129018664:=0
def tw5759927347364260171:=0
def tw6585068141940680455:=0
def tw6582134788679801411:=0
def tw5036445103931068615:=0
def tw517312751163448032:=0
def tw10780761586765376359:=0
def tw11732214188671553305:=0
def tw6834397320308548248:=0
def tw6511239469406747073:=0
def tw1313047135445303594:=0
def tw6737687440995333003:=0
def tw11973505968982382900:=0
def tw11289143093466461953:=0
def tw16919330064296535691:=0
def tw8086373703447589959:=0
def tw9516800180062724845:=0
def tw1948689806639624469:=0
def tw1712973634487312807:=0
def tw2852278927748849453:=0
def tw5427499738942290107:=0
def tw425938344300624212:=0
def tw10042499479572932358:=0
def tw4626940704210403192:=0
def tw13305670439411429421:=0
def tw14015890951069844909:=0
def tw17996964024917085871:=0
def tw7254989234349611870:=0
def tw15726315211890062517:=0
def tw3992908553847606798:=0
def tw7042659310547366237:=0
def tw10015853644003576960:=0
def tw931956834028986255:=0
def tw13078823862939028812:=0
def tw17857563459279650048:=0
def tw4211952112222678748:=0
def tw1157979631877120646:=0
def tw8864380892348041232:=0
def tw7388713464098733815:=0
def tw12434779806091606683:=0
def tw13673065589402620214:=0
def tw15740581520725410121:=0
def tw4268201051430804902:=0
def tw16406923672382228973:=0
def tw5353813085845620550:=0
def tw5107255825281412738:=0
def tw12184380411685104690:=0
def tw4475145619620083286:=0
def tw10693841506766600124:=0
def tw15724745641170818534:=0
def tw3555141088238359772:=0
def tw13481268755573549168:=0
def tw5485572742587201778:=0
def tw11081772624950168284:=0
def tw17093224777342109595:=0
def tw8237626310708396552:=0
def tw4211700434839312001:=0
def tw12004313012329915033:=0
def tw9585978970863474492:=0
def tw4952867788503214965:=0
def tw4982327473614321822:=0
def tw4674102799890499726:=0
def tw9218752888244210615:=0
def tw5552461122284547459:=0
def tw15862806813707239167:=0
def tw5260856337621036202:=0
def tw1611551182742943237:=0
def tw14199714164133228370:=0
def tw9761588102954696855:=0
def tw14805814515597417852:=0
def tw5764117369366255280:=0
def tw726985913927333873:=0
def tw2335157872551914648:=0
def tw729466047920990731:=0
def tw11717690317537128808:=0
def tw17513604867990543079:=0
def tw13553050674002434610:=0
def tw1840282097412291383:=0
def tw14987661418082201831:=0
def tw7097827964152542560:=0
def tw15632992782082381434:=0
def tw2923001932562327482:=0
def tw5426448371682200115:=0
def tw8126552424372712672:=0
def tw5661640270340304354:=0
def tw17094580856887593759:=0
def tw17119971604622065936:=0
def tw14788362278542820120:=0
def tw1901531775752417231:=0
def tw9316670756482807701:=0
def tw2648174423076098445:=0
def tw5266450434754204200:=0
def tw10069975712529536831:=0
def tw7317234293075219:=0
def tw4425046354534653865:=0
def tw2969480146181677978:=0
def tw14722794537435163219:=0
def tw11069628954808310989:=0
def tw2912592304959361012:=0
def tw2337977823195543630:=0
def tw17698735102306075112:=0
def tw317932667124481529:=0
def tw15078095837771203109:=0
def tw11118301316682269745:=0
def tw11188117447681078326:=0
def tw16186510892431351131:=0
def tw4227517698962585424:=0
def tw11763852733077360975:=0
def tw8526028360262338249:=0
def tw10052001805573714066:=0
def tw306725001281121169:=0
def tw17882641709403210578:=0
def tw15545184769064153574:=0
def tw12067549021546063074:=0
def tw16396790404030501481:=0
def tw15755044616229629136:=0
def tw1647960591809683682:=0
def tw14267268813261638861:=0
def tw5835942142707902020:=0
def tw4185518321428705831:=0
def tw10015450608781386451:=0
def tw5680315236850328200:=0
def tw8174591469460913490:=0
def tw11786325122171474085:=0
def tw15223397061033166810:=0
def tw7343611390307366373:=0
def tw4543556514994620149:=0
def tw13991396874942911051:=0
def tw5916140570258018564:=0
def tw7340446101256811000:=0
def tw3121739546393284973:=0
def tw14323227155912201964:=0
def tw14734032772098568817:=0
def tw8553059368797141306:=0
def tw142340057281662541:=0
def tw14900259974334564751:=0
def tw2962324470309885386:=0
def tw16266442582153907279:=0
def tw2747774915501398362:=0
def tw8667492640987031791:=0
def tw11320351676317602388:=0
def tw7020395562169822392:=0
def tw6793172497655745189:=0
def tw6905212232875527693:=0
def tw13952158723898717365:=0
def tw18012574323051992567:=0
def tw5310652868755799522:=0
def tw10378583025934500588:=0
def tw7524379617451308511:=0
def tw12674656310777702994:=0
def tw18167724695441219349:=0
def tw12392129776423771058:=0
def tw13887902116395311400:=0
def tw12712400820596877648:=0
def tw10846345724684618374:=0
def tw13055661147411815287:=0
def tw3934833063311361131:=0
def tw7076977106511060911:=0
def tw274189353798237994:=0
def tw2873748437651673626:=0
def tw10896712999787139778:=0
def tw16655083059833703075:=0
def tw6771182271545134960:=0
def tw3664731896753646195:=0
def tw6873971014812347169:=0
def tw8891557043749499067:=0
def tw4340971767527515617:=0
def tw6999419289813526679:=0
def tw10497823618577955822:=0
def tw13508602156133886167:=0
def tw2680141511932349947:=0
def tw897888412878121761:=0
def tw8578992014432634108:=0
def tw11469360237664420825:=0
def tw14279065940840616024:=0
def tw4038909232737020655:=0
def tw10131873952172028942:=0
def tw18329075359065952542:=0
def tw1267704075650749254:=0
def tw7950223703418521501:=0
def tw16463793508043411602:=0
def tw5587484289544270231:=0
def tw8131721106225051767:=0
def tw3808584094389355786:=0
def tw15261137711255440680:=0
def tw10800367221633172730:=0
def tw10134030333460990790:=0
def tw4177351759533223642:=0
def tw2202087279664922802:=0
def tw16925118299729312639:=0
def tw3665838584753200986:=0
def tw16699019767340423185:=0
def tw17084317755948004794:=0
def tw5363195699714531557:=0
def tw1567247161763788871:=0
def tw18182889222666715495:=0
def tw7894344252036594922:=0
def tw7090585071989052306:=0
def tw8060744490709563079:=0
def tw11224361182253327997:=0
def tw4188684199736651882:=0
def tw1826987945724244988:=0
def tw17338234738716814015:=0
def tw12325562205625792791:=0
def tw704147369595269066:=0
def tw6623812351622530092:=0
def tw1998032249293215463:=0
def tw9161490523856799436:=0
def tw6760056911573607715:=0
def tw7618804249908900691:=0
def tw15226832943710054940:=0
def tw11300376045408061371:=0
def tw18277388166739348960:=0
def tw6429450841261186155:=0
def tw3133745999044795564:=0
def tw1061639710858884176:=0
def tw671769174312181376:=0
def tw670427922429333600:=0
def tw3083371992184736890:=0
def tw10354477200866600673:=0
def tw7395645310213146516:=0
def tw3302770140995672700:=0
def tw12079628635447562283:=0
def tw6252695792229605141:=0
def tw714049069090440106:=0
def tw10393078302967963895:=0
def tw6205024481829086969:=0
def tw16884622931589843948:=0
def tw5015507407206683207:=0
def tw8621336744817483243:=0
def tw16408362238061914836:=0
def tw10412780308102683651:=0
def tw14064692534454641163:=0
def tw15155859288707382567:=0
def tw5425125011635884837:=0
def tw11347631108264317165:=0
def tw11586196018267737339:=0
def tw10728712052571211117:=0
def tw5805183375971660199:=0
def tw17590088832654516399:=0
def tw14398365135244066966:=0
def tw6606014719576569030:=0
def tw6999941293234460784:=0
def tw10241233070082051121:=0
def tw17960406059949683352:=0
def tw8249347019533418915:=0
def tw3321576952164483024:=0
def tw1173414789623836638:=0
def tw3903891618737965568:=0
def tw12319047049370110589:=0
def tw7158441374720773216:=0
def tw7834740603555865465:=0
def tw16286715671046524454:=0
def tw133755455108545178:=0
def tw6788773261714906821:=0
def tw5609530884314319229:=0
def tw7945405709010385892:=0
def tw12694112234171929671:=0
def tw2484844197603217540:=0
def tw7717702957765121957:=0
def tw13350131943787299761:=0
def tw1354003750591732747:=0
def tw14731147920152588799:=0
def tw11887224372650548316:=0
def tw8078195926588453703:=0
def tw3822784309164373692:=0
def tw5674458297940323589:=0
def tw12523711969749109062:=0
def tw5011889884212318148:=0
def tw11970942820725077907:=0
def tw6784790241324674965:=0
def tw6381902497316938245:=0
def tw2456577590951144490:=0
def tw8697654515486363317:=0
def tw12661032092557703082:=0
def tw16607927582987124570:=0
def tw13949155002146243131:=0
def tw4589182232624314844:=0
def tw16970792351503237766:=0
def tw13708279966662545973:=0
def tw1620389302784492585:=0
def tw3478894487363246031:=0
def tw13323373534744806615:=0
def tw15854262060937163188:=0
def tw17960848765466677729:=0
def tw7910172739516966087:=0
def tw17802128708061929859:=0
def tw9835382159548102362:=0
def tw14650769484350525481:=0
def tw18042889414512086050:=0
def tw1833547357909804662:=0
def tw3016012700857477809:=0
def tw3942624392001961204:=0
def tw5738919822854818926:=0
def tw6728313399510405491:=0
def tw2450569374399577549:=0
def tw11526203479690249398:=0
def tw11654023200298843171:=0
def tw15536387163757344236:=0
def tw17108046237660401759:=0
def tw16504757533647375273:=0
end PySem.W.Fast
set_option maxRecDepth 100000 in
set_option maxHeartbeats 8000000 in
open_top head for PySem.Challenge.rw_seer_k44_held_and_under
end
section
set_option maxRecDepth 100000
set_option maxHeartbeats 8000000
set_option linter.all false
open PySem PySem.W PySem.Calls PyProof.Rows PM
namespace L
noncomputable abbrev DD (w : World) (s₀ : Shared) (mg mb : Str → Option Value) (f : Addr) (r : Nat) (F : List V → Hp → Option (V × Hp)) : Prop := Def PySem.Challenge.rw_seer_k44_held_and_under.row.prog w (head.heap_39 w.params) head.view_39 (looseW head.view_39 []) (ExcName.means s₀.heap) mg mb f r F
section
variable {w : World} {s₀ : Shared} {mg mb : Str → Option Value}
theorem Zol : DD w s₀ mg mb 414 1 Zhi := by
 unfold DD; k_fill
 refine Dof (names := ["_law_script", "_law_k", "_law_number_here"]) (g := Zkg) ?_
 exact fun _ _ _ _ _ _ _ c _ _ => (Zy (ZV sL (ZL (ZL (ZL vL vL Za8) jI Za8) jI Zaj)) (Zy (Z1 (ZP (Zas (nB c) (Zg vL Zq) ZaS) jI Zdh) (ZC (ZV sL (ZL vL (Zx vL (ZL vL (Zas (nB c) (Zg vL Zq) ZaS) Zbe)) Zaj))) Z3) (ZC (ZI vL))))
theorem law_pick_d : DD w s₀ mg mb 421 2 ZbT := by
 unfold DD; k_fill
 refine Dof (names := ["_law_script", "_law_k", "_law_many"]) (g := ZkX) ?_
 exact fun _ _ _ _ _ _ _ c _ _ => (ZC (ZI (ZL (ZL (ZL (cF c Zol (Zg vL (Zg vL Zq))) jI Za8) jI Zbe) vL Zbe)))
theorem ZeP : DD w s₀ mg mb 428 2 ZdT := by
 unfold DD; k_fill
 refine Dof (names := ["_law_script", "_law_k", "_law_number_here", "_law_reach"]) (g := ZjO) ?_
 exact fun _ _ _ _ _ _ _ c _ _ => (Zy (ZV sL (cF c Zol (Zg vL (Zg vL Zq)))) (Zy (ZV sL (Zx (J.list (Zg jI (Zg jI (Zg (ZL jI jI ZmZ) (Zg (ZL jI jI ZmZ) Zq))))) (ZL (ZL (ZL vL jI Za8) jI Zbe) jI Zbe))) (ZC (ZI (ZL (ZL (ZL vL (ZL jI jI ZmZ) Za8) (ZL (ZL jI vL Za8) jI Zaj) Zbe) vL Zbo)))))
theorem Zsj : DD w s₀ mg mb 435 3 Zkj := by
 unfold DD; k_fill
 refine Dof (names := ["_law_script", "_law_k", "_law_way"]) (g := Zki) ?_
 exact fun _ _ _ _ _ _ _ c _ _ => (Zy (ZV sL (cF c law_pick_d (Zg vL (Zg vL (Zg jI Zq))))) (Zy (Z1 (ZP (ZL vL jI Zbe) jI Zcl) (ZC (ZI jN)) Z3) (Zy (Z1 (ZP (ZL vL jI Zbe) jI Zcl) (ZC (ZI jI)) Z3) (Zy (Z1 (ZP (ZL vL jI Zbe) jI ZaD) (ZC (ZI (ZL vL jI ZcV))) Z3) (ZC (ZI (Zas (nB c) (Zg (cF c ZeP (Zg vL (Zg vL Zq))) Zq) ZdH)))))))
theorem ZfM : DD w s₀ mg mb 442 1 Zef := by
 unfold DD; k_fill
 refine Dof (names := ["_law_m", "_law_r"]) (g := Zjp) ?_
 exact fun _ _ _ _ _ _ _ c _ _ => (Zy (Z1 (ZP vL jI ZaD) (ZC (ZI (J.tup (Zg jI (Zg vL Zq))))) Z3) (ZC (ZI (J.tup (Zg vL (Zg (ZL vL vL Zbe) Zq))))))
theorem ZsS : DD w s₀ mg mb 449 3 Zk0 := by
 unfold DD; k_fill
 refine Dof (names := ["_law_script", "_law_k", "_law_number_here", "_law_way"]) (g := ZkZ) ?_
 exact fun _ _ _ _ _ _ _ c _ _ => (Zy (ZV sL (cF c law_pick_d (Zg vL (Zg vL (Zg jI Zq))))) (Zy (Z1 (ZP (ZL vL jI Zbe) jI Zcl) (ZC (ZI (J.tup (Zg jI (Zg jI Zq))))) Z3) (Zy (Z1 (ZP (ZL vL jI Zbe) jI ZaD) (ZC (ZI (J.tup (Zg jI (Zg vL Zq))))) Z3) (Zy (Z1 (ZP (ZL vL jI Zbe) jI ZaD) (ZC (ZI (cF c ZfM (Zg (ZL (ZL vL jI ZcV) jI Zaj) (Zg vL Zq))))) Z3) (ZC (ZI (cF c ZfM (Zg (Zas (nB c) (Zg (cF c ZeP (Zg vL (Zg vL Zq))) Zq) ZdH) (Zg vL Zq)))))))))
theorem ZsT : DD w s₀ mg mb 454 4 Zk3 := by
 unfold DD; k_fill
 refine Dof (names := ["_law_script", "_law_k", "_law_boxes", "_law_full", "_law_size", "_law_bounds", "_law_i", "_law_row", "_law_j", "_law_top"]) (g := Zk2) ?_
 exact fun _ _ _ _ _ _ _ c _ _ => (Zy (ZV sL (ZL (J.list (Zg jI Zq)) vC Zaj)) (Zy (ZV sC (Zas (nB c) (Zg vL Zq) ZaS)) (Zy (ZV sL (J.list Zq)) (Zy (Zbp sL (JI.range (nB c) (Zg vC Zq)) (Zy (ZV sL (J.list Zq)) (Zy (Zbp sL (JI.range (nB c) (Zg vC Zq)) (Zy (ZV sL (cF c Zsj (Zg vC (Zg (ZL (ZL vC (ZL vL vC Za8) Zaj) vL Zaj) Zq)))) (Zy (Z1 (ZP vL jN ZbU) (ZC (ZV sL (ZL (ZL (Zx vL vL) (Zx vL vL) Zbo) vL Zaj))) Z3) (ZC (Zdd (J.append vL vL)))))) (Zy (S1.put jI vL vL) (ZC (Zdd (J.append vL vL))))))) (ZC (ZI (J.tup (Zg vL (Zg (by refine cO ?_ ?_ ?_; (exact (JI.range (nB c) (Zg (ZL vC jI Zbo) Zq))); (exact fun _ _ => (cF (Zcg c) ZsS (Zg vD (Zg (ZL (ZL vD (ZL vD vD Za8) Zaj) vO Zaj) (Zg (Zx vD vO) Zq))))); (exact fun _ _ => JF.nil)) Zq)))))))))
theorem ZtC : DD w s₀ mg mb 537 3 Zl2 := by
 unfold DD; k_fill
 refine Dof (names := ["_law_script", "_law_k", "_law_many", "_law_one", "_law_way", "_law_at", "_law_to", "_law_i"]) (g := Zl1) ?_
 exact fun _ _ _ _ _ _ _ c _ _ => (Zy (ZV sL (ZL (J.list (Zg (cF c ZeP (Zg vL (Zg vL Zq))) Zq)) (ZL (J.list (Zg jI Zq)) vL Za8) Zaj)) (Zy (ZV sL (cF c law_pick_d (Zg vL (Zg vL (Zg jI Zq))))) (Zy (Z1 (ZaY (Za5 (ZP vL jI ZaD) (Za5 (ZP vL jI ZaD) ZcI))) (ZC (ZI vL)) Z3) (Zy (ZV sL (ZL jI (cF c law_pick_d (Zg vL (Zg (ZL vL jI Zaj) (Zg vL Zq)))) Zaj)) (Zy (Z1 (ZP vL jI ZaD) (ZC (S1.put (ZL (cF c law_pick_d (Zg vL (Zg (ZL vL jI Zaj) (Zg jI Zq)))) jI Zbo) vL vL)) Z3) (Zy (Z1 (ZaY (Za5 (ZP vL jI ZaD) (Za5 (ZP vL jI ZaD) ZcI))) (Zy (ZV sL (ZL jI (cF c law_pick_d (Zg vL (Zg (ZL vL jI Zaj) (Zg vL Zq)))) Zaj)) (Zy (S1.put jI vL vL) (ZC (S1.put (ZL (Zx vL vL) jI Zbo) vL vL)))) Z3) (Zy (Z1 (ZP vL jI ZaD) (ZC (Zbp sL (JI.range (nB c) (Zg vL Zq)) (ZC (S1.put (ZL (cF c law_pick_d (Zg vL (Zg (ZL (ZL vL jI Zaj) vL Zaj) (Zg jI Zq)))) jI Zbo) vL (ZL vL jI Zaj))))) Z3) (Zy (Z1 (ZP vL jI ZaD) (ZC (Zbp sL (JI.range (nB c) (Zg vL Zq)) (ZC (S1.put (ZL (cF c law_pick_d (Zg vL (Zg (ZL (ZL vL jI Zaj) vL Zaj) (Zg jI Zq)))) jI Zbo) vL (ZL vL jI Zaj))))) Z3) (ZC (ZI vL))))))))))
theorem ZsU : DD w s₀ mg mb 459 1 Zk6 := by
 unfold DD; k_fill
 refine Dof (names := ["_law_told_here"]) (g := Zk5) ?_
 exact fun _ _ _ _ _ _ _ c _ _ => (Zy (Z1 (ZP vL jN Za9) (ZC (ZI jN)) Z3) (ZC (ZI (J.tup (Zg (by refine cO ?_ ?_ ?_; (exact (JI.seq (Zx vL jI))); (exact fun _ _ => (ZcU (nB (Zcg c)) (Zg vO Zq) Zc8)); (exact fun _ _ => JF.nil)) (Zg (ZcU (nB c) (Zg (Zx vL jI) Zq) Zc8) Zq))))))
theorem Zpy : ∀ n : Nat, Def PySem.Challenge.rw_seer_k44_held_and_under.row.prog w (head.heap_39 w.params) head.view_39 (looseW head.view_39 []) (ExcName.means s₀.heap) mg mb 19 n (Zfh n)
 | 0 => by intro Γ dp un clr hd hu W ρ H fr s Q E as xs v H' r hx hF post; cases hF
 | n + 1 => by
  have ih := Zpy n
  k_fill
  refine' Zqd (names := ["thing"]) (n := 1) (room := n) (g := ZmN (Zfh n)) (ho := ?ho) (hcd := ?hcd) (nd := by decide) (hn := by decide) (hbind := ?hb) (hkinds := ?hk) (hone := ?h1) (hco := ?z1) (hgen := ?z2) (hk := ?z3) (hbody := ?hbody)
  case ho => k_is
  case z1 => rfl
  case z2 => rfl
  case z3 => rfl
  case hcd => k_is
  case hb => intro s xs hx; match xs, hx with | [x0], _ => exact BindsTo.of_eq rfl
  case hk => decide
  case h1 => decide +kernel
  case hbody =>
   intro dp un gd L outer h₀ hu clr hd1 hu1
   exact (Zy (Z1 (Zbd (ZdC (nB clr) (nB clr) (.inr (.inr (.inl rfl))) vL)) (ZC (ZI (by refine cO ?_ ?_ ?_; (exact (JI.seq vL)); (exact fun _ _ => (cF (Zcg clr) ih (Zg vO Zq))); (exact fun _ _ => JF.nil)))) Z3) (Zy (Z1 (Zbd (ZdC (nB clr) (nB clr) (.inr (.inr (.inr rfl))) vL)) (ZC (ZI (ZcU (nB clr) (Zg (by refine cO ?_ ?_ ?_; (exact (JI.seq vL)); (exact fun _ _ => (cF (Zcg clr) ih (Zg vO Zq))); (exact fun _ _ => JF.nil)) Zq) Zs4))) Z3) (ZC (ZI vL))))
theorem ZmY : Def PySem.Challenge.rw_seer_k44_held_and_under.row.prog w (head.heap_39 w.params) head.view_39 (looseW head.view_39 []) (ExcName.means s₀.heap) mg mb 19 9 Zgp := Zpy 9
theorem ZsV : DD w s₀ mg mb 209 1 Zlp := by
 unfold DD; k_fill
 refine Dof (names := ["one", "other"]) (g := Zlo) ?_
 exact fun _ _ _ _ _ _ _ c _ _ => (ZC (ZI (by refine cT ?_ ?_; (exact (JI2.zip (nB c) vL vL)); (exact fun _ _ => (ZL vO vO Zaj)))))
theorem Zek : DD w s₀ mg mb 214 1 Zdz := by
 unfold DD; k_fill
 refine Dof (names := ["one", "k"]) (g := ZkE) ?_
 exact fun _ _ _ _ _ _ _ c _ _ => (ZC (ZI (by refine cO ?_ ?_ ?_; (exact (JI.seq vL)); (exact fun _ _ => (ZL vO vD Za8)); (exact fun _ _ => JF.nil))))
theorem ZlD : DD w s₀ mg mb 221 2 Zf3 := by
 unfold DD; k_fill
 refine Dof (names := ["one", "other"]) (g := Zlr) ?_
 exact fun _ _ _ _ _ _ _ c _ _ => (ZC (ZI (cF c ZsV (Zg vL (Zg (cF c Zek (Zg vL (Zg (ZbO jI ZbJ) Zq))) Zq)))))
theorem Zom : DD w s₀ mg mb 93 1 Zhk := by
 unfold DD; k_fill
 refine Dof (names := ["one", "other"]) (g := Zkl) ?_
 exact fun _ _ _ _ _ _ _ c _ _ => (ZC (ZI (ZwP (Zcr vL jN Za9) (Zfy (Zcr vL jN ZbU) (Zcr vL vL Zni)))))
theorem Zpz : DD w s₀ mg mb 100 2 ZhT := by
 unfold DD; k_fill
 refine Dof (names := ["one", "other"]) (g := Zmr) ?_
 exact fun _ _ _ _ _ _ _ c _ _ => (ZC (ZI (Zex (Zbd (cF c Zom (Zg vL (Zg vL Zq)))) vL vL)))
theorem ZlE : DD w s₀ mg mb 107 3 Zf1 := by
 unfold DD; k_fill
 refine Dof (names := ["bounds", "i", "j", "bound"]) (g := ZhA) ?_
 exact fun _ _ _ _ _ _ _ c _ _ => (ZC (S1.put (cF c Zpz (Zg (Zx (Zx vL vL) vL) (Zg vL Zq))) (Zx vL vL) vL))
theorem ZhR : DD w s₀ mg mb 204 1 Ze8 := by
 unfold DD; k_fill
 refine Dof (names := ["i", "n"]) (g := Zl4) ?_
 exact fun _ _ _ _ _ _ _ c _ _ => (ZC (ZI (by refine cO ?_ ?_ ?_; (exact (JI.range (nB c) (Zg (ZL vL jI Zaj) Zq))); (exact fun _ _ => (Zex (ZaY (ZaB (ZP vD jI Zdh) (ZaB (ZP vO vD ZaD) Zca))) jI jI)); (exact fun _ _ => JF.nil))))
theorem Ze3 : DD w s₀ mg mb 65 1 ZdW := by
 unfold DD; k_fill
 refine Dof (names := ["one", "other"]) (g := Zlb) ?_
 exact fun _ _ _ _ _ _ _ c _ _ => (Zy (Z1 (ZaY (Za5 (ZP vL jN Za9) (Za5 (ZP vL jN Za9) ZcI))) (ZC (ZI jN)) Z3) (ZC (ZI (ZL vL vL Zaj))))
theorem Zq3 : DD w s₀ mg mb 311 1 Zi1 := by
 unfold DD; k_fill
 refine Dof (names := ["one"]) (g := Zi0) ?_
 exact fun _ _ _ _ _ _ _ c _ _ => (ZC (ZI (Zcr (Zas (nB c) (Zg (by refine cO ?_ ?_ ?_; (exact (JI.seq (Zfo vL jI))); (exact fun _ _ => vO); (exact fun _ _ => JF.one (ZP vO jI Zbu))) Zq) Ztc) (J.list (Zg (ZbO jI ZbJ) (Zg jI Zq))) ZaD)))
theorem Zrk : DD w s₀ mg mb 58 2 Zjd := by
 unfold DD; k_fill
 refine Dof (names := ["one", "other"]) (g := Zjc) ?_
 exact fun _ _ _ _ _ _ _ c _ _ => (ZC (ZI (J.tup (Zg (cF c Ze3 (Zg (Zx vL jI) (Zg (Zx vL jI) Zq))) (Zg (cF c Ze3 (Zg (Zx vL jI) (Zg (Zx vL jI) Zq))) Zq)))))
theorem Zhr : DD w s₀ mg mb 79 1 ZeS := by
 unfold DD; k_fill
 refine Dof (names := ["end", "k"]) (g := Zkw) ?_
 exact fun _ _ _ _ _ _ _ c _ _ => (Zy (Z1 (ZP vL jN Za9) (ZC (ZI jN)) Z3) (ZC (ZI (ZL vL vL Za8))))
theorem Zq4 : DD w s₀ mg mb 72 2 ZiV := by
 unfold DD; k_fill
 refine Dof (names := ["one", "k", "lo", "hi"]) (g := ZiU) ?_
 exact fun _ _ _ _ _ _ _ c _ _ => (Zy (Z1 (ZP vL jI ZaD) (ZC (ZI (J.tup (Zg jI (Zg jI Zq))))) Z3) (Zy (ZV sL (cF c Zhr (Zg (Zx vL jI) (Zg vL Zq)))) (Zy (ZV sL (cF c Zhr (Zg (Zx vL jI) (Zg vL Zq)))) (Zy (Z1 (ZP vL jI Zcl) (ZC (ZI (J.tup (Zg vL (Zg vL Zq))))) Z3) (ZC (ZI (J.tup (Zg vL (Zg vL Zq)))))))))
theorem ZrC : DD w s₀ mg mb 228 3 Zju := by
 unfold DD; k_fill
 refine Dof (names := ["one", "stretches", "whole", "k", "part"]) (g := Zjt) ?_
 exact fun _ _ _ _ _ _ _ c _ _ => (Zy (ZV sL (J.tup (Zg (Zx vL jI) (Zg (Zx vL jI) Zq)))) (Zy (ZhZ sL sL (JI2.zip (nB c) (Zfo vL jI) vL) (ZC (ZV sL (cF c Zrk (Zg vL (Zg (cF c Zq4 (Zg vL (Zg vL Zq))) Zq)))))) (ZC (ZI vL))))
theorem Zrl : DD w s₀ mg mb 299 2 Zjl := by
 unfold DD; k_fill
 refine Dof (names := ["told", "bounds"]) (g := Zjk) ?_
 exact fun _ _ _ _ _ _ _ c _ _ => (Zy (ZV sC (Zx vL jI)) (ZC (ZI (by refine cO ?_ ?_ ?_; (exact (JI.range (nB c) (Zg jI (Zg (Zas (nB c) (Zg vC Zq) ZaS) Zq)))); (exact fun _ _ => (J.tup (Zg (cF (Zcg c) Zhr (Zg (Zx (Zx vD jI) vO) (Zg (ZbO jI ZbJ) Zq))) (Zg (Zx (Zx vD vO) jI) Zq)))); (exact fun _ _ => JF.nil)))))
theorem ZlF : DD w s₀ mg mb 306 4 Zf2 := by
 unfold DD; k_fill
 refine Dof (names := ["told", "one"]) (g := Zll) ?_
 exact fun _ _ _ _ _ _ _ c _ _ => (Zy (Z1 (Zbd (cF c Zq3 (Zg vL Zq))) (ZC (ZI (cF c Ze3 (Zg (Zx (Zx (Zx vL jI) (J.index vL jI jI)) (J.index vL (ZbO jI ZbJ) jI)) (Zg (Zx vL jI) Zq))))) Z3) (ZC (ZI (Zx (cF c ZrC (Zg vL (Zg (cF c Zrl (Zg vL Zq)) Zq))) jI))))
theorem ZnZ : DD w s₀ mg mb 346 5 Zhc := by
 unfold DD; k_fill
 refine Dof (names := ["told", "part", "one", "top"]) (g := Zj3) ?_
 exact fun _ _ _ _ _ _ _ c _ _ => (ZC (ZI (cF c Ze3 (Zg (cF c ZlF (Zg vL (Zg (cF c ZlD (Zg vL (Zg vL Zq))) Zq))) (Zg vL Zq)))))
theorem ZrD : DD w s₀ mg mb 332 6 ZjF := by
 unfold DD; k_fill
 refine Dof (names := ["bounds", "told", "one", "top", "n", "i", "j", "apart"]) (g := Zg3) ?_
 exact fun _ _ _ _ _ _ _ c _ _ => (Zy (ZV sL (Zas (nB c) (Zg (Zx vL jI) Zq) ZaS)) (ZC (Zbp sL (JI.range (nB c) (Zg (ZL vL jI Zaj) Zq)) (ZC (Zbp sL (JI.range (nB c) (Zg (ZL vL jI Zaj) Zq)) (Zy (ZV sL (cF c ZlD (Zg (cF c ZhR (Zg vL (Zg vL Zq))) (Zg (cF c ZhR (Zg vL (Zg vL Zq))) Zq)))) (ZC (Zdd (cF c ZlE (Zg vL (Zg vL (Zg vL (Zg (cF c ZnZ (Zg vL (Zg vL (Zg vL (Zg vL Zq))))) Zq)))))))))))))
theorem Zn0 : DD w s₀ mg mb 86 1 Zhd := by
 unfold DD; k_fill
 refine Dof (names := ["end", "k"]) (g := Zj5) ?_
 exact fun _ _ _ _ _ _ _ c _ _ => (Zy (Z1 (ZP vL jN Za9) (ZC (ZI jN)) Z3) (ZC (ZI (ZL vL vL ZcV))))
theorem ZrE : DD w s₀ mg mb 339 6 ZjH := by
 unfold DD; k_fill
 refine Dof (names := ["bounds", "told", "one", "top", "n", "i", "k", "bound"]) (g := Zg5) ?_
 exact fun _ _ _ _ _ _ _ c _ _ => (Zy (ZV sL (Zas (nB c) (Zg (Zx vL jI) Zq) ZaS)) (ZC (Zbp sL (JI.range (nB c) (Zg jI (Zg (ZL vL jI Zaj) Zq))) (Zy (ZV sL (Zx vL vL)) (Zy (ZV sL (cF c ZnZ (Zg vL (Zg (cF c Zek (Zg (cF c ZhR (Zg vL (Zg vL Zq))) (Zg vL Zq))) (Zg vL (Zg vL Zq)))))) (Zy (Z1 (ZP vL jI Zdh) (ZC (Zdd (cF c ZlE (Zg vL (Zg vL (Zg jI (Zg (cF c Zn0 (Zg vL (Zg vL Zq))) Zq))))))) Z3) (ZC (Z1 (ZP vL jI Zcl) (ZC (Zdd (cF c ZlE (Zg vL (Zg jI (Zg vL (Zg (cF c Zn0 (Zg vL (Zg (ZbO vL ZbJ) Zq))) Zq))))))) Z3))))))))
theorem ZnU : DD w s₀ mg mb 268 1 ZeK := by
 unfold DD; k_fill
 refine Dof (names := ["rests"]) (g := Zjw) ?_
 exact fun _ _ _ _ _ _ _ c _ _ => (ZC (ZI (ZL (J.list (Zg (J.tup (Zg jI (Zg jI Zq))) Zq)) vL Zaj)))
theorem Zml : DD w s₀ mg mb 136 1 Zgb := by
 unfold DD; k_fill
 refine Dof (names := ["one", "other", "left", "right", "over"]) (g := ZlN) ?_
 exact fun _ _ _ _ _ _ _ c _ _ => (Zy (ZV sL (Zas (nB c) (Zg vL Zq) ZdH)) (Zy (ZV sL (Zas (nB c) (Zg vL Zq) ZdH)) (Zy (Zge 1000000 (ZP vL jI Zbu) (Zy (ZV sL (ZL vL vL Zbe)) (Zy (ZV sL vL) (ZC (ZV sL vL))))) (ZC (ZI vL)))))
theorem Ziw : DD w s₀ mg mb 150 1 Zfv := by
 unfold DD; k_fill
 refine Dof (names := ["m", "r"]) (g := Zm8) ?_
 exact fun _ _ _ _ _ _ _ c _ _ => (Zy (Z1 (ZP vL jI Zcl) (ZC (ZwF)) Z3) (Zy (Z1 (ZP vL jI ZaD) (ZC (ZI (J.tup (Zg jI (Zg vL Zq))))) Z3) (ZC (ZI (J.tup (Zg vL (Zg (ZL vL vL Zbe) Zq)))))))
theorem ZtD : DD w s₀ mg mb 143 1 ZlR := by
 unfold DD; k_fill
 refine Dof (names := ["one", "by", "left", "right", "left_turns", "right_turns", "part", "over", "over_turns"]) (g := ZlQ) ?_
 exact fun _ _ _ _ _ _ _ c _ _ => (Zy (ZV sL (ZL vL vL Zbe)) (Zy (ZV sL vL) (Zy (ZV sL jI) (Zy (ZV sL jI) (Zy (Zge 1000000 (ZP vL jI Zbu) (Zy (ZV sL (ZL vL vL ZcV)) (Zy (ZV sL (ZL vL (ZL vL vL Za8) Zbo)) (Zy (ZV sL (ZL vL (ZL vL vL Za8) Zbo)) (Zy (ZV sL vL) (Zy (ZV sL vL) (Zy (ZV sL vL) (ZC (ZV sL vL))))))))) (ZC (ZI (ZL vL vL Zbe))))))))
theorem Zf8 : DD w s₀ mg mb 157 1 Zel := by
 unfold DD; k_fill
 refine Dof (names := ["one", "number"]) (g := Zk7) ?_
 exact fun _ _ _ _ _ _ _ c _ _ => (Zy (Z1 (ZP (Zx vL jI) jI ZaD) (ZC (ZI (Zcr vL (Zx vL jI) ZaD))) Z3) (ZC (ZI (Zcr (ZL vL (Zx vL jI) Zbe) (Zx vL jI) ZaD))))
theorem ZoH : DD w s₀ mg mb 171 2 Zhw := by
 unfold DD; k_fill
 refine Dof (names := ["one", "other", "common", "apart", "width", "turns"]) (g := Zk9) ?_
 exact fun _ _ _ _ _ _ _ c _ _ => (Zy (Z1 (ZP (Zx vL jI) jI ZaD) (ZC (ZI (Zex (Zbd (cF c Zf8 (Zg vL (Zg (Zx vL jI) Zq)))) vL jN))) Z3) (Zy (Z1 (ZP (Zx vL jI) jI ZaD) (ZC (ZI (Zex (Zbd (cF c Zf8 (Zg vL (Zg (Zx vL jI) Zq)))) vL jN))) Z3) (Zy (ZV sL (cF c Zml (Zg (Zx vL jI) (Zg (Zx vL jI) Zq)))) (Zy (ZV sL (ZL (Zx vL jI) (Zx vL jI) Zbo)) (Zy (Z1 (ZP (ZL vL vL Zbe) jI Zbu) (ZC (ZI jN)) Z3) (Zy (ZV sL (ZL (Zx vL jI) vL ZcV)) (Zy (ZV sL (ZL (ZL vL vL ZcV) (cF c ZtD (Zg (ZL (Zx vL jI) vL ZcV) (Zg vL Zq))) Za8)) (ZC (ZI (cF c Ziw (Zg (ZL (Zx vL jI) vL Za8) (Zg (ZL (Zx vL jI) (ZL (Zx vL jI) vL Za8) Zaj) Zq))))))))))))
theorem ZkT : DD w s₀ mg mb 178 2 ZfU := by
 unfold DD; k_fill
 refine Dof (names := ["one", "other"]) (g := Zkn) ?_
 exact fun _ _ _ _ _ _ _ c _ _ => (ZC (ZI (cF c Ziw (Zg (cF c Zml (Zg (Zx vL jI) (Zg (Zx vL jI) Zq))) (Zg (ZL (Zx vL jI) (Zx vL jI) Zaj) Zq)))))
theorem Zrm : DD w s₀ mg mb 275 3 ZfF := by
 unfold DD; k_fill
 refine Dof (names := ["bounds", "rests", "i", "met", "j", "other"]) (g := Zjf) ?_
 exact fun _ _ _ _ _ _ _ c _ _ => (Zy (ZV sL (Zx vL vL)) (Zy (ZhZ sL sL (Zt2 (nB c) vL) (ZC (Z1 (ZaY (ZaB (ZP vL jN ZbU) (ZaB (ZP (cF c Ze3 (Zg (Zx (Zx vL vL) vL) (Zg (Zx (Zx vL vL) vL) Zq))) jI ZaD) Zca))) (ZC (ZV sL (cF c ZoH (Zg vL (Zg (cF c ZkT (Zg vL (Zg (J.tup (Zg jI (Zg (Zx (Zx vL vL) vL) Zq))) Zq))) Zq))))) Z3))) (ZC (ZI vL))))
theorem ZrF : DD w s₀ mg mb 261 4 ZdS := by
 unfold DD; k_fill
 refine Dof (names := ["told", "rests", "met"]) (g := ZfI) ?_
 exact fun _ _ _ _ _ _ _ c _ _ => (Zy (Z1 (ZP vC jN Za9) (ZC (ZI jN)) Z3) (Zy (ZV sC (cF c ZnU (Zg (Zx vC jI) Zq))) (Zy (by refine sO sL ?_ ?_ ?_; (exact (JI.range (nB c) (Zg jI (Zg (Zas (nB c) (Zg vC Zq) ZaS) Zq)))); (exact fun _ _ => (cF (Zcg c) Zrm (Zg (Zx vD jI) (Zg vD (Zg vO Zq))))); (exact fun _ _ => JF.nil)) (Zy (Z1 (ZP jN vL ZgH) (ZC (ZI jN)) Z3) (ZC (ZI (J.tup (Zg (Zx vC jI) (Zg vL Zq)))))))))
theorem Zq5 : DD w s₀ mg mb 124 3 ZiS := by
 unfold DD; k_fill
 refine Dof (names := ["row", "there", "further"]) (g := ZiR) ?_
 exact fun _ _ _ _ _ _ _ c _ _ => (ZC (ZI (by refine cT ?_ ?_; (exact (JI2.zip (nB c) vL vL)); (exact fun _ _ => (cF (Zcg c) Zpz (Zg vO (Zg (cF (Zcg c) Ze3 (Zg vD (Zg vO Zq))) Zq)))))))
theorem Zsk : DD w s₀ mg mb 119 4 Zkr := by
 unfold DD; k_fill
 refine Dof (names := ["bounds", "mid"]) (g := Zkq) ?_
 exact fun _ _ _ _ _ _ _ c _ _ => (ZC (ZI (by refine cO ?_ ?_ ?_; (exact (JI.seq vC)); (exact fun _ _ => (cF (Zcg c) Zq5 (Zg vO (Zg (Zx vO vD) (Zg (Zx vD vD) Zq))))); (exact fun _ _ => JF.nil))))
theorem Zrn : DD w s₀ mg mb 129 1 Zja := by
 unfold DD; k_fill
 refine Dof (names := ["bounds"]) (g := Zi9) ?_
 exact fun _ _ _ _ _ _ _ c _ _ => (ZC (ZI (Zas (nB c) (Zg (by refine cO ?_ ?_ ?_; (exact (JI.range (nB c) (Zg (Zas (nB c) (Zg vC Zq) ZaS) Zq))); (exact fun _ _ => (Zcr (Zx (Zx vD vO) vO) jI Zcl)); (exact fun _ _ => JF.nil)) Zq) ZvG)))
theorem Zus : DD w s₀ mg mb 114 5 Zfg := by
 unfold DD; k_fill
 refine Dof (names := ["bounds", "near", "mid"]) (g := Zmt) ?_
 exact fun _ _ _ _ _ _ _ c _ _ => (Zy (ZV sL vL) (Zy (Zbp sL (JI.range (nB c) (Zg (Zas (nB c) (Zg vL Zq) ZaS) Zq)) (Zy (ZV sL (cF c Zsk (Zg vL (Zg vL Zq)))) (ZC (Z1 (Zbd (cF c Zrn (Zg vL Zq))) (ZC (ZI jN)) Z3)))) (ZC (ZI vL))))
theorem Zwo : DD w s₀ mg mb 256 6 Zd3 := by
 unfold DD; k_fill
 refine Dof (names := ["told", "bounds"]) (g := Ziq) ?_
 exact fun _ _ _ _ _ _ _ c _ _ => (Zy (Z1 (ZP vL jN Za9) (ZC (ZI jN)) Z3) (Zy (ZV sL (cF c Zus (Zg (Zx vL jI) Zq))) (Zy (Z1 (ZP vL jN Za9) (ZC (ZI jN)) Z3) (ZC (ZI (J.tup (Zg vL (Zg (Zx vL jI) Zq))))))))
theorem ZqF : DD w s₀ mg mb 249 7 Zfw := by
 unfold DD; k_fill
 refine Dof (names := ["told"]) (g := Zna) ?_
 exact fun _ _ _ _ _ _ _ c _ _ => (ZC (ZI (cF c ZrF (Zg (cF c Zwo (Zg vL Zq)) Zq))))
theorem Zr0 : DD w s₀ mg mb 199 1 ZjX := by
 unfold DD; k_fill
 refine Dof (names := ["one", "top"]) (g := ZjW) ?_
 exact fun _ _ _ _ _ _ _ c _ _ => (Zy (Z1 (ZP (Zx vL jI) jI ZaD) (ZC (ZI (Zex (ZP (Zx vL jI) vL Zni) (Zx vL jI) jN))) Z3) (ZC (ZI (ZL vL (ZL (ZL vL (Zx vL jI) Zbo) (Zx vL jI) Zbe) Zbo))))
theorem Zq6 : DD w s₀ mg mb 294 2 ZiY := by
 unfold DD; k_fill
 refine Dof (names := ["bound", "left"]) (g := ZiX) ?_
 exact fun _ _ _ _ _ _ _ c _ _ => (Zy (Z1 (ZP vL jN ZbU) (ZC (ZI (cF c Zr0 (Zg vL (Zg vL Zq))))) Z3) (Zy (Z1 (ZP (Zx vL jI) jI ZaD) (ZC (ZI (Zx vL jI))) Z3) (ZC (ZI jN))))
theorem Zke : DD w s₀ mg mb 185 2 ZfN := by
 unfold DD; k_fill
 refine Dof (names := ["one", "k"]) (g := ZjT) ?_
 exact fun _ _ _ _ _ _ _ c _ _ => (ZC (ZI (cF c Ziw (Zg (ZL (Zx vL jI) (Zas (nB c) (Zg vL Zq) ZdH) Za8) (Zg (ZL (Zx vL jI) vL Za8) Zq)))))
theorem ZrG : DD w s₀ mg mb 287 3 ZjA := by
 unfold DD; k_fill
 refine Dof (names := ["row", "left", "rests", "new", "bound", "other", "low"]) (g := Zjz) ?_
 exact fun _ _ _ _ _ _ _ c _ _ => (Zy (ZV sL (J.list Zq)) (Zy (ZhZ sL sL (JI2.zip (nB c) vL vL) (Zy (ZV sL (cF c Zq6 (Zg vL (Zg (cF c ZkT (Zg vL (Zg (cF c Zke (Zg vL (Zg (ZbO jI ZbJ) Zq))) Zq))) Zq)))) (Zy (Z1 (ZaY (ZaB (ZP vL jN Za9) (ZaB (ZP vL jN ZbU) Zca))) (ZC (ZI jN)) Z3) (ZC (Zdd (J.append vL vL)))))) (ZC (ZI vL))))
theorem ZtE : DD w s₀ mg mb 280 4 ZlX := by
 unfold DD; k_fill
 refine Dof (names := ["told", "rests", "bounds"]) (g := ZlW) ?_
 exact fun _ _ _ _ _ _ _ c _ _ => (Zy (Z1 (ZP vL jN Za9) (ZC (ZI jN)) Z3) (Zy (ZV sC (cF c ZnU (Zg (Zx vL jI) Zq))) (Zy (by refine sT sL ?_ ?_; (exact (JI2.zip (nB c) (Zx vL jI) vC)); (exact fun _ _ => (cF (Zcg c) ZrG (Zg vO (Zg vO (Zg vD Zq)))))) (Zy (Z1 (ZP jN vL ZgH) (ZC (ZI jN)) Z3) (ZC (ZI (J.tup (Zg vL (Zg (Zx vL jI) Zq)))))))))
theorem Zqb : DD w s₀ mg mb 242 8 Zib := by
 unfold DD; k_fill
 refine Dof (names := ["told"]) (g := ZmL) ?_
 exact fun _ _ _ _ _ _ _ c _ _ => (ZC (ZI (cF c ZqF (Zg (cF c ZtE (Zg (cF c ZqF (Zg vL Zq)) Zq)) Zq))))
theorem ZtF : DD w s₀ mg mb 51 1 ZlU := by
 unfold DD; k_fill
 refine Dof (names := ["lo", "hi"]) (g := ZlT) ?_
 exact fun _ _ _ _ _ _ _ c _ _ => (ZC (ZI (Zwg (Zcr vL jN ZbU) (Zfy (Zcr vL jN ZbU) (Zcr vL vL Zdh)))))
theorem Zvz : DD w s₀ mg mb 318 5 ZmQ := by
 unfold DD; k_fill
 refine Dof (names := ["told", "one"]) (g := ZmP) ?_
 exact fun _ _ _ _ _ _ _ c _ _ => (ZC (ZI (cF c Zhr (Zg (cF c ZlF (Zg vL (Zg (cF c Zek (Zg vL (Zg (ZbO jI ZbJ) Zq))) Zq))) (Zg (ZbO jI ZbJ) Zq)))))
theorem Zfd : DD w s₀ mg mb 325 10 ZdX := by
 unfold DD; k_fill
 refine Dof (names := ["told", "one", "top", "bounds"]) (g := Zl6) ?_
 exact fun _ _ _ _ _ _ _ c _ _ => (Zy (Z1 (ZaY (Za5 (ZP vL jN Za9) (Za5 (Zbd (cF c ZtF (Zg (cF c Zvz (Zg vL (Zg vL Zq))) (Zg vL Zq)))) ZcI))) (ZC (ZI jN)) Z3) (Zy (ZV sL (cF c ZmY (Zg (Zx vL jI) Zq))) (Zy (Zdd (cF c ZrD (Zg vL (Zg vL (Zg vL (Zg vL Zq)))))) (Zy (Zdd (cF c ZrE (Zg vL (Zg vL (Zg vL (Zg vL Zq)))))) (ZC (ZI (cF c Zqb (Zg (J.tup (Zg vL (Zg (Zx vL jI) Zq))) Zq))))))))
theorem Zr1 : DD w s₀ mg mb 573 1 Zj1 := by
 unfold DD; k_fill
 refine Dof (names := ["_law_told_here"]) (g := Zhb) ?_
 exact fun _ _ _ _ _ _ _ c _ _ => (ZC (Z1 (ZP vL jN ZbU) (Zy (S1.put jI (Zx (Zx vL jI) jI) jI) (Zy (Zdd (J.append (Zx vL jI) (J.list (Zg jI Zq)))) (ZC (Zdd (J.append (Zx vL jI) (J.tup (Zg jI (Zg jI Zq)))))))) Z3))
theorem Zr2 : DD w s₀ mg mb 464 3 ZjR := by
 unfold DD; k_fill
 refine Dof (names := ["_law_script", "_law_k", "_law_told_here", "_law_bounds", "_law_rests", "_law_i", "_law_j", "_law_way", "_law_t", "_law_one"]) (g := ZjQ) ?_
 exact fun _ _ _ _ _ _ _ c _ _ => (Zy (by refine sO sL ?_ ?_ ?_; (exact (JI.seq (Zx vL jI))); (exact fun _ _ => (ZcU (nB (Zcg c)) (Zg vO Zq) Zc8)); (exact fun _ _ => JF.nil)) (Zy (ZV sL (ZcU (nB c) (Zg (Zx vL jI) Zq) Zc8)) (Zy (ZV sL (cF c law_pick_d (Zg vL (Zg vL (Zg (Zas (nB c) (Zg vL Zq) ZaS) Zq))))) (Zy (ZV sL (cF c law_pick_d (Zg vL (Zg (ZL vL jI Zaj) (Zg (Zas (nB c) (Zg vL Zq) ZaS) Zq))))) (Zy (ZV sL (cF c law_pick_d (Zg vL (Zg (ZL vL jI Zaj) (Zg jI Zq))))) (Zy (Z1 (ZaY (ZaB (ZP vL jI Zcl) (ZaB (ZP vL vL Zbu) (ZaB (ZP (Zx (Zx vL vL) vL) jN Za9) Zca)))) (ZC (S1.put (cF c ZeP (Zg vL (Zg (ZL vL jI Zaj) Zq))) (Zx vL vL) vL)) (ZC (Z1 (ZaY (ZaB (ZP vL jI Zcl) (ZaB (ZP vL vL Zbu) Zca))) (ZC (S1.put (ZL (ZL (Zx (Zx vL vL) vL) jI Zbo) (cF c law_pick_d (Zg vL (Zg (ZL vL jI Zaj) (Zg jI Zq)))) Zbo) (Zx vL vL) vL)) (ZC (Z1 (ZP (Zas (nB c) (Zg vL Zq) ZaS) jI Zdh) (Zy (ZV sL (cF c law_pick_d (Zg vL (Zg vL (Zg (Zas (nB c) (Zg vL Zq) ZaS) Zq))))) (Zy (ZV sL (Zx vL vL)) (ZC (S1.put (cF c ZfM (Zg (ZL (Zx vL jI) (ZL jI (ZL vL jI Zbe) Zaj) Za8) (Zg (ZL (Zx vL jI) (cF c law_pick_d (Zg vL (Zg (ZL vL jI Zaj) (Zg jI Zq)))) Zaj) Zq))) vL vL)))) Z3))))) (ZC (ZI (J.tup (Zg vL (Zg vL Zq)))))))))))
theorem ZkU : DD w s₀ mg mb 471 1 ZfV := by
 unfold DD; k_fill
 refine Dof (names := ["_law_thing"]) (g := Zkt) ?_
 exact fun _ _ _ _ _ _ _ c _ _ => (ZC (ZI (Zfy (ZdC (nB c) (nB c) (.inl rfl) vL) (Zwp (ZdC (nB c) (nB c) (.inr (.inl rfl)) vL)))))
theorem ZsW : DD w s₀ mg mb 478 2 Zle := by
 unfold DD; k_fill
 refine Dof (names := ["_law_thing", "_law_size", "_law_i", "_law_top"]) (g := Zld) ?_
 exact fun _ _ _ _ _ _ _ c _ _ => (Zy (Z1 (ZaY (Za5 (ZcA (Zbd (ZdC (nB c) (nB c) (.inr (.inr (.inl rfl))) vL))) (Za5 (ZP (Zas (nB c) (Zg vL Zq) ZaS) vL Zbu) ZcI))) (ZC (ZI jB)) Z3) (Zy (Zbp sL (JI.range (nB c) (Zg vL Zq)) (Zy (Z1 (ZaY (Za5 (ZcA (Zbd (ZdC (nB c) (nB c) (.inr (.inr (.inl rfl))) (Zx vL vL)))) (Za5 (ZP (Zas (nB c) (Zg (Zx vL vL) Zq) ZaS) vL Zbu) ZcI))) (ZC (ZI jB)) Z3) (Zy (Zbp sL (JI.seq (Zx vL vL)) (ZC (Z1 (ZaY (ZaB (ZP vL jN ZbU) (ZaB (ZcA (Zbd (cF c ZkU (Zg vL Zq)))) Zca))) (ZC (ZI jB)) Z3))) (ZC (Z1 (ZP (Zx (Zx vL vL) vL) jI Zbu) (ZC (ZI jB)) Z3))))) (ZC (ZI jB))))
theorem Zsl : DD w s₀ mg mb 485 3 ZkC := by
 unfold DD; k_fill
 refine Dof (names := ["_law_thing", "_law_many", "_law_pair"]) (g := ZkB) ?_
 exact fun _ _ _ _ _ _ _ c _ _ => (Zy (Z1 (ZaY (Za5 (ZcA (Zbd (ZdC (nB c) (nB c) (.inr (.inr (.inr rfl))) vL))) (Za5 (ZP (Zas (nB c) (Zg vL Zq) ZaS) jI Zbu) (Za5 (ZcA (Zbd (cF c ZsW (Zg (Zx vL jI) (Zg (ZL vL jI Zaj) Zq))))) ZcI)))) (ZC (ZI jB)) Z3) (Zy (Z1 (ZaY (Za5 (ZcA (Zbd (ZdC (nB c) (nB c) (.inr (.inr (.inl rfl))) (Zx vL jI)))) (Za5 (ZP (Zas (nB c) (Zg (Zx vL jI) Zq) ZaS) vL Zbu) ZcI))) (ZC (ZI jB)) Z3) (Zy (Zbp sL (JI.seq (Zx vL jI)) (Zy (Z1 (ZaY (Za5 (ZcA (Zbd (ZdC (nB c) (nB c) (.inr (.inr (.inr rfl))) vL))) (Za5 (ZP (Zas (nB c) (Zg vL Zq) ZaS) jI Zbu) ZcI))) (ZC (ZI jB)) Z3) (Zy (Z1 (ZaY (Za5 (ZcA (Zbd (cF c ZkU (Zg (Zx vL jI) Zq)))) (Za5 (ZcA (Zbd (cF c ZkU (Zg (Zx vL jI) Zq)))) ZcI))) (ZC (ZI jB)) Z3) (ZC (Z1 (ZaY (Za5 (ZP (Zx vL jI) jI Zcl) (Za5 (ZaY (ZaB (ZP (Zx vL jI) jI Zdh) (ZaB (ZcA (Zt5 jI (Zx vL jI) (Zx vL jI) Zni Zcl)) Zca))) ZcI))) (ZC (ZI jB)) Z3))))) (ZC (ZI jB)))))
theorem ZlG : DD w s₀ mg mb 492 4 Zf0 := by
 unfold DD; k_fill
 refine Dof (names := ["_law_found", "_law_due"]) (g := Zlh) ?_
 exact fun _ _ _ _ _ _ _ c _ _ => (Zy (Z1 (ZP vL jN Za9) (ZC (ZI (Zcr vL jN Za9))) Z3) (ZC (ZI (Zfy (cF c Zsl (Zg vL (Zg (Zas (nB c) (Zg (Zx vL jI) Zq) ZaS) Zq))) (Zcr vL vL ZaD)))))
theorem Zr3 : DD w s₀ mg mb 360 11 Zj8 := by
 unfold DD; k_fill
 refine Dof (names := ["told", "one", "truth"]) (g := Zj7) ?_
 exact fun _ _ _ _ _ _ _ c _ _ => (Zy (Z1 (Zbd vL) (ZC (ZI (cF c Zfd (Zg vL (Zg vL (Zg (ZbO jI ZbJ) Zq)))))) Z3) (ZC (ZI (cF c Zfd (Zg vL (Zg (cF c Zek (Zg vL (Zg (ZbO jI ZbJ) Zq))) (Zg jI Zq)))))))
theorem ZnJ : DD w s₀ mg mb 192 2 ZgV := by
 unfold DD; k_fill
 refine Dof (names := ["one", "k"]) (g := Zi3) ?_
 exact fun _ _ _ _ _ _ _ c _ _ => (ZC (ZI (cF c Ziw (Zg (cF c Zml (Zg (Zx vL jI) (Zg vL Zq))) (Zg (Zx vL jI) Zq)))))
theorem ZhE : DD w s₀ mg mb 235 3 ZeW := by
 unfold DD; k_fill
 refine Dof (names := ["one", "rests", "whole", "k", "part"]) (g := Zlg) ?_
 exact fun _ _ _ _ _ _ _ c _ _ => (Zy (ZV sL (J.tup (Zg jI (Zg (Zx vL jI) Zq)))) (Zy (ZhZ sL sL (JI2.zip (nB c) (Zfo vL jI) vL) (ZC (ZV sL (cF c ZkT (Zg vL (Zg (cF c Zke (Zg vL (Zg vL Zq))) Zq)))))) (ZC (ZI vL))))
theorem ZrH : DD w s₀ mg mb 407 4 ZjK := by
 unfold DD; k_fill
 refine Dof (names := ["rests", "one", "d", "i", "k", "left", "others"]) (g := ZjJ) ?_
 exact fun _ _ _ _ _ _ _ c _ _ => (Zy (ZV sL (Zx vL vL)) (Zy (ZV sL (Zx vL (ZL vL jI Zbo))) (Zy (Z1 (ZP (Zas (nB c) (Zg vL Zq) ZdH) jI Zbu) (ZC (ZI vL)) Z3) (Zy (ZV sL (cF c ZlD (Zg vL (Zg (cF c Zek (Zg (cF c ZhR (Zg vL (Zg (Zas (nB c) (Zg vL Zq) ZaS) Zq))) (Zg vL Zq))) Zq)))) (ZC (ZI (cF c ZoH (Zg vL (Zg (cF c ZnJ (Zg (cF c Zke (Zg (cF c ZhE (Zg vL (Zg vL Zq))) (Zg (ZbO vL ZbJ) Zq))) (Zg vL Zq))) Zq)))))))))
theorem Zon : DD w s₀ mg mb 400 9 Zhp := by
 unfold DD; k_fill
 refine Dof (names := ["told", "one", "d", "rests"]) (g := ZkJ) ?_
 exact fun _ _ _ _ _ _ _ c _ _ => (Zy (Z1 (ZP vC jN Za9) (ZC (ZI jN)) Z3) (Zy (by refine sO sL ?_ ?_ ?_; (exact (JI.range (nB c) (Zg jI (Zg (Zas (nB c) (Zg vC Zq) ZaS) Zq)))); (exact fun _ _ => (cF (Zcg c) ZrH (Zg (Zx vD jI) (Zg vD (Zg vD (Zg vO Zq)))))); (exact fun _ _ => JF.nil)) (Zy (Z1 (ZP jN vL ZgH) (ZC (ZI jN)) Z3) (ZC (ZI (cF c Zqb (Zg (J.tup (Zg (Zx vC jI) (Zg vL Zq))) Zq)))))))
theorem Zoo : DD w s₀ mg mb 388 10 Zhq := by
 unfold DD; k_fill
 refine Dof (names := ["told", "one", "d"]) (g := ZkL) ?_
 exact fun _ _ _ _ _ _ _ c _ _ => (Zy (Z1 (ZcA (Zbd (cF c Zf8 (Zg (cF c ZnJ (Zg (cF c ZhE (Zg vL (Zg (Zx vL jI) Zq))) (Zg vL Zq))) (Zg jI Zq))))) (ZC (ZI jN)) Z3) (ZC (ZI (cF c Zon (Zg vL (Zg vL (Zg vL Zq)))))))
theorem ZrI : DD w s₀ mg mb 164 2 Zjs := by
 unfold DD; k_fill
 refine Dof (names := ["one", "other"]) (g := Zjr) ?_
 exact fun _ _ _ _ _ _ _ c _ _ => (Zy (Z1 (ZP (Zx vL jI) jI ZaD) (ZC (ZI (Zcr vL vL ZaD))) Z3) (ZC (ZI (Zfy (Zcr (ZL (Zx vL jI) (Zx vL jI) Zbe) jI ZaD) (cF c Zf8 (Zg vL (Zg (Zx vL jI) Zq)))))))
theorem Zq7 : DD w s₀ mg mb 395 11 Zi6 := by
 unfold DD; k_fill
 refine Dof (names := ["told", "one", "d"]) (g := Zi5) ?_
 exact fun _ _ _ _ _ _ _ c _ _ => (Zy (Z1 (Zbd (cF c ZrI (Zg (cF c ZhE (Zg vL (Zg (Zx vL jI) Zq))) (Zg (J.tup (Zg vL (Zg jI Zq))) Zq)))) (ZC (ZI jN)) Z3) (Zy (Z1 (ZP vL jI ZaD) (ZC (ZI (cF c Zoo (Zg vL (Zg (ZL (J.list (Zg (ZL (Zx vL jI) jI Zaj) Zq)) (Zfo vL jI) Zaj) (Zg jI Zq)))))) Z3) (ZC (ZI (cF c ZmY (Zg vL Zq))))))
theorem Zsm : DD w s₀ mg mb 367 11 ZkO := by
 unfold DD; k_fill
 refine Dof (names := ["told", "one", "held"]) (g := ZkN) ?_
 exact fun _ _ _ _ _ _ _ c _ _ => (Zy (Z1 (ZcA (Zbd (cF c Zf8 (Zg (cF c ZhE (Zg vL (Zg (Zx vL jI) Zq))) (Zg jI Zq))))) (ZC (ZI jN)) Z3) (Zy (ZV sL (cF c Zfd (Zg (cF c Zfd (Zg vL (Zg vL (Zg jI Zq)))) (Zg (cF c Zek (Zg vL (Zg (ZbO jI ZbJ) Zq))) (Zg jI Zq))))) (ZC (ZI (cF c Zon (Zg vL (Zg vL (Zg jI Zq))))))))
theorem ZoI : DD w s₀ mg mb 381 11 ZhC := by
 unfold DD; k_fill
 refine Dof (names := ["told", "one"]) (g := Zlu) ?_
 exact fun _ _ _ _ _ _ _ c _ _ => (Zy (Z1 (ZaY (ZaB (ZP vL jN ZbU) (ZaB (Zbd (cF c Zom (Zg (cF c ZlF (Zg vL (Zg vL Zq))) (Zg jI Zq)))) Zca))) (ZC (ZI (cF c Zfd (Zg vL (Zg vL (Zg (ZbO jI ZbJ) Zq)))))) Z3) (ZC (ZI vL)))
theorem Zq8 : DD w s₀ mg mb 374 12 Zi8 := by
 unfold DD; k_fill
 refine Dof (names := ["told", "one"]) (g := Zi7) ?_
 exact fun _ _ _ _ _ _ _ c _ _ => (ZC (ZI (cF c ZmY (Zg (cF c ZoI (Zg (cF c ZoI (Zg vL (Zg vL Zq))) (Zg (cF c Zek (Zg vL (Zg (ZbO jI ZbJ) Zq))) Zq))) Zq))))
theorem ZqG : DD w s₀ mg mb 353 13 Zit := by
 unfold DD; k_fill
 refine Dof (names := ["told", "claim", "truth"]) (g := Znb) ?_
 exact fun _ _ _ _ _ _ _ c _ _ => (Zy (Z1 (ZP vL jN Za9) (ZC (ZI jN)) Z3) (Zy (Z1 (ZP (Zx vL jI) jS ZaD) (ZC (ZI (cF c Zr3 (Zg vL (Zg (Zx vL jI) (Zg vL Zq)))))) Z3) (Zy (Z1 (ZP (Zx vL jI) jS ZaD) (ZC (ZI (Zex (Zbd vL) (cF c Zsm (Zg vL (Zg (Zx vL jI) Zq))) (cF c Zq8 (Zg vL (Zg (Zx vL jI) Zq)))))) Z3) (ZC (ZI (Zex (Zbd vL) (cF c Zoo (Zg vL (Zg (Zx vL jI) (Zg (Zx vL jI) Zq)))) (cF c Zq7 (Zg vL (Zg (Zx vL jI) (Zg (Zx vL jI) Zq))))))))))
theorem Zjn : DD w s₀ mg mb 542 1 ZfG := by
 unfold DD; k_fill
 refine Dof (names := ["_law_told_here", "_law_one", "_law_ups", "_law_downs", "_law_ends", "_law_total", "_law_i"]) (g := Zjh) ?_
 exact fun _ _ _ _ _ _ _ c _ _ => (Zy (by refine sO sL ?_ ?_ ?_; (exact (JI.range (nB c) (Zg jI (Zg (Zas (nB c) (Zg vC Zq) ZaS) Zq)))); (exact fun _ _ => vO); (exact fun _ _ => JF.one (ZP (Zx vD vO) jI Zdh))) (Zy (by refine sO sL ?_ ?_ ?_; (exact (JI.range (nB c) (Zg jI (Zg (Zas (nB c) (Zg vC Zq) ZaS) Zq)))); (exact fun _ _ => vO); (exact fun _ _ => JF.one (ZP (Zx vD vO) jI Zcl))) (Zy (Z1 (ZaY (ZaB (ZP (Zas (nB c) (Zg vL Zq) ZaS) jI ZaD) (ZaB (ZP (Zas (nB c) (Zg vL Zq) ZaS) jI ZaD) (ZaB (ZP (Zx vC (Zx vL jI)) jI ZaD) (ZaB (ZP (Zx vC (Zx vL jI)) (ZbO jI ZbJ) ZaD) Zca))))) (Zy (Z1 (ZP (Zx (Zx (Zx vC jI) (Zx vL jI)) (Zx vL jI)) jN Za9) (ZC (ZI jN)) Z3) (ZC (ZI (ZL (Zx (Zx (Zx vC jI) (Zx vL jI)) (Zx vL jI)) (Zx vC jI) Zaj)))) Z3) (Zy (ZV sL (ZL (by refine cO ?_ ?_ ?_; (exact (JI.seq vL)); (exact fun _ _ => (Zx (Zx (Zx vD jI) vO) jI)); (exact fun _ _ => JF.nil)) (by refine cO ?_ ?_ ?_; (exact (JI.seq vL)); (exact fun _ _ => (Zx (Zx (Zx vD jI) jI) vO)); (exact fun _ _ => JF.nil)) Zaj)) (Zy (Z1 (ZP jN vL ZgH) (ZC (ZI jN)) Z3) (Zy (ZV sL (Zx vC jI)) (Zy (Zbp sL (JI.seq vL) (ZC (ZV sL (ZL vL (ZL (Zx vC vL) (Zx (Zx (Zx vC jI) vL) jI) Za8) Zaj)))) (Zy (Zbp sL (JI.seq vL) (ZC (ZV sL (ZL vL (ZL (Zx vC vL) (Zx (Zx (Zx vC jI) jI) vL) Za8) Zbo)))) (ZC (ZI vL))))))))))
theorem ZnC : DD w s₀ mg mb 511 1 ZgQ := by
 unfold DD; k_fill
 refine Dof (names := ["_law_bounds", "_law_size", "_law_found", "_law_reach", "_law_before", "_law_i", "_law_j", "_law_k", "_law_by"]) (g := ZiN) ?_
 exact fun _ _ _ _ _ _ _ c _ _ => (Zy (ZV sL (Zas (nB c) (Zg vL Zq) ZaS)) (Zy (by refine sO sL ?_ ?_ ?_; (exact (JI.seq vL)); (exact fun _ _ => (ZcU (nB (Zcg c)) (Zg vO Zq) Zc8)); (exact fun _ _ => JF.nil)) (Zy (ZV sL jI) (Zy (Zge 1000000 (ZP vL vL Zcl) (Zy (by refine sO sL ?_ ?_ ?_; (exact (JI.seq vL)); (exact fun _ _ => (ZcU (nB (Zcg c)) (Zg vO Zq) Zc8)); (exact fun _ _ => JF.nil)) (Zy (Zbp sL (JI.range (nB c) (Zg vL Zq)) (ZC (Zbp sL (JI.range (nB c) (Zg vL Zq)) (ZC (Zbp sL (JI.range (nB c) (Zg vL Zq)) (ZC (Z1 (ZaY (ZaB (ZP (Zx (Zx vL vL) vL) jN ZbU) (ZaB (ZP (Zx (Zx vL vL) vL) jN ZbU) Zca))) (Zy (ZV sL (ZL (Zx (Zx vL vL) vL) (Zx (Zx vL vL) vL) Zaj)) (ZC (Z1 (ZaY (Za5 (ZP (Zx (Zx vL vL) vL) jN Za9) (Za5 (ZP vL (Zx (Zx vL vL) vL) Zcl) ZcI))) (ZC (S1.put vL (Zx vL vL) vL)) Z3))) Z3))))))) (ZC (ZV sL (ZL jI vL Za8)))))) (Zy (Zbp sL (JI.range (nB c) (Zg vL Zq)) (ZC (Z1 (ZP (Zx (Zx vL vL) vL) jI Zcl) (ZC (ZI jN)) Z3))) (ZC (ZI vL)))))))
theorem ZtG : DD w s₀ mg mb 506 2 ZlZ := by
 unfold DD; k_fill
 refine Dof (names := ["_law_one", "_law_other", "_law_high", "_law_low", "_law_now", "_law_then", "_law_times", "_law_over", "_law_apart"]) (g := ZlY) ?_
 exact fun _ _ _ _ _ _ _ c _ _ => (Zy (ZV sL (Zx vL jI)) (Zy (ZV sL (Zx vL jI)) (Zy (ZV sL jI) (Zy (ZV sL jI) (Zy (Zge 1000000 (ZP vL jI Zbu) (Zy (ZV sL (ZL vL vL ZcV)) (Zy (ZV sL (ZL vL (ZL vL vL Za8) Zbo)) (Zy (ZV sL vL) (Zy (ZV sL vL) (Zy (ZV sL (ZL vL (ZL vL vL Za8) Zbo)) (Zy (ZV sL vL) (ZC (ZV sL vL))))))))) (Zy (ZV sL (ZL (Zx vL jI) (Zx vL jI) Zbo)) (Zy (Z1 (ZP vL jI ZaD) (Zy (Z1 (ZP vL jI Zbu) (ZC (ZI jN)) Z3) (ZC (ZI vL))) Z3) (Zy (Z1 (ZP (ZL vL vL Zbe) jI Zbu) (ZC (ZI jN)) Z3) (ZC (ZI (cF c ZfM (Zg (ZL (ZL (Zx vL jI) vL ZcV) (Zx vL jI) Za8) (Zg (ZL (Zx vL jI) (ZL (ZL (Zx vL jI) vL Za8) (ZL vL vL ZcV) Za8) Zaj) Zq)))))))))))))
theorem Zn1 : DD w s₀ mg mb 518 3 Zha := by
 unfold DD; k_fill
 refine Dof (names := ["_law_bounds", "_law_rests", "_law_full", "_law_new", "_law_i", "_law_j", "_law_gap"]) (g := ZjZ) ?_
 exact fun _ _ _ _ _ _ _ c _ _ => (Zy (ZV sL (ZL (J.list (Zg (J.tup (Zg jI (Zg jI Zq))) Zq)) vL Zaj)) (Zy (ZV sL (ZL (J.list (Zg (J.tup (Zg jI (Zg jI Zq))) Zq)) vL Zaj)) (Zy (Zbp sL (JI.range (nB c) (Zg jI (Zg (Zas (nB c) (Zg vL Zq) ZaS) Zq))) (ZC (Zbp sL (JI.range (nB c) (Zg (Zas (nB c) (Zg vL Zq) ZaS) Zq)) (Zy (ZV sL (Zx (Zx vL vL) vL)) (ZC (Z1 (ZaY (ZaB (ZP vL vL Zbu) (ZaB (ZP vL jN ZbU) (ZaB (ZP (Zx (Zx vL vL) vL) (ZbO vL ZbJ) ZaD) (ZaB (ZP (Zx vL vL) jN ZbU) Zca))))) (ZC (S1.put (cF c ZtG (Zg (Zx vL vL) (Zg (cF c ZfM (Zg (Zx (Zx vL vL) jI) (Zg (ZL (Zx (Zx vL vL) jI) vL Zaj) Zq))) Zq))) vL vL)) Z3)))))) (Zy (Z1 (ZP jN vL ZgH) (ZC (ZI jN)) Z3) (ZC (ZI (Zfo vL jI)))))))
theorem ZtH : DD w s₀ mg mb 499 1 ZlL := by
 unfold DD; k_fill
 refine Dof (names := ["_law_one", "_law_other", "_law_over"]) (g := ZlK) ?_
 exact fun _ _ _ _ _ _ _ c _ _ => (Zy (ZV sL (Zas (nB c) (Zg vL Zq) ZdH)) (Zy (ZV sL (Zas (nB c) (Zg vL Zq) ZdH)) (Zy (Zge 1000000 (ZP vL jI Zbu) (Zy (ZV sL (ZL vL vL Zbe)) (Zy (ZV sL vL) (ZC (ZV sL vL))))) (ZC (ZI vL)))))
theorem ZrJ : DD w s₀ mg mb 523 2 ZjD := by
 unfold DD; k_fill
 refine Dof (names := ["_law_bounds", "_law_rests", "_law_full", "_law_new", "_law_i", "_law_j", "_law_m", "_law_r", "_law_top"]) (g := ZjC) ?_
 exact fun _ _ _ _ _ _ _ c _ _ => (Zy (ZV sL (ZL (J.list (Zg (J.tup (Zg jI (Zg jI Zq))) Zq)) vL Zaj)) (Zy (by refine sO sL ?_ ?_ ?_; (exact (JI.seq vL)); (exact fun _ _ => (ZcU (nB (Zcg c)) (Zg vO Zq) Zc8)); (exact fun _ _ => JF.nil)) (Zy (Zbp sL (JI.range (nB c) (Zg (Zas (nB c) (Zg vL Zq) ZaS) Zq)) (ZC (Zbp sL (JI.range (nB c) (Zg (Zas (nB c) (Zg vL Zq) ZaS) Zq)) (Zy (ZV sL (cF c ZtH (Zg (Zx (Zx vL vL) jI) (Zg (Zx (Zx vL vL) jI) Zq)))) (Zy (ZV sL (ZL (Zx (Zx vL vL) jI) (Zx (Zx vL vL) jI) Zbo)) (Zy (ZV sL (Zx (Zx vL vL) vL)) (ZC (Z1 (ZaY (ZaB (ZP vL vL Zbu) (ZaB (ZP vL jI ZaD) Zca))) (Zy (Z1 (ZaY (ZaB (ZP vL jN ZbU) (ZaB (ZP vL vL Zcl) Zca))) (ZC (ZI jN)) Z3) (ZC (S1.put vL (Zx vL vL) vL))) (ZC (Z1 (ZaY (ZaB (ZP vL vL Zbu) (ZaB (ZP vL jN ZbU) Zca))) (ZC (S1.put (ZL vL (ZL (ZL vL vL Zbo) vL Zbe) Zbo) (Zx vL vL) vL)) Z3)))))))))) (ZC (ZI vL)))))
theorem Zsn : DD w s₀ mg mb 530 4 Zkz := by
 unfold DD; k_fill
 refine Dof (names := ["_law_told_here", "_law_bounds", "_law_rests"]) (g := Zky) ?_
 exact fun _ _ _ _ _ _ _ c _ _ => (Zy (Z1 (ZP vL jN Za9) (ZC (ZI jN)) Z3) (Zy (ZV sL (cF c ZnC (Zg (Zx vL jI) Zq))) (Zy (Z1 (ZP vL jN Za9) (ZC (ZI jN)) Z3) (Zy (ZV sL (cF c Zn1 (Zg vL (Zg (Zx vL jI) Zq)))) (Zy (Z1 (ZP vL jN Za9) (ZC (ZI jN)) Z3) (Zy (ZV sL (cF c ZrJ (Zg vL (Zg vL Zq)))) (Zy (Z1 (ZP vL jN Za9) (ZC (ZI jN)) Z3) (Zy (ZV sL (cF c ZnC (Zg vL Zq))) (Zy (Z1 (ZP vL jN Za9) (ZC (ZI jN)) Z3) (Zy (ZV sL (cF c Zn1 (Zg vL (Zg vL Zq)))) (Zy (Z1 (ZP vL jN Za9) (ZC (ZI jN)) Z3) (ZC (ZI (J.tup (Zg vL (Zg vL Zq))))))))))))))))
theorem ZlH : DD w s₀ mg mb 554 1 Zf4 := by
 unfold DD; k_fill
 refine Dof (names := ["_law_one", "_law_i", "_law_k", "_law_new"]) (g := Zlw) ?_
 exact fun _ _ _ _ _ _ _ c _ _ => (Zy (ZV sL (ZcU (nB c) (Zg vL Zq) Zc8)) (Zy (Z1 (ZP vL jI Zdh) (ZC (S1.put (ZL (Zx vL vL) vL Zaj) vL vL)) Z3) (ZC (ZI vL))))
theorem Zkf : DD w s₀ mg mb 561 1 ZfR := by
 unfold DD; k_fill
 refine Dof (names := ["_law_one", "_law_other"]) (g := Zj9) ?_
 exact fun _ _ _ _ _ _ _ c _ _ => (Zy (Z1 (ZP vL jN Za9) (ZC (ZI vL)) Z3) (Zy (Z1 (ZP vL jN Za9) (ZC (ZI vL)) Z3) (ZC (ZI (Zas (nB c) (Zg vL (Zg vL Zq)) Zuu)))))
theorem ZjN : DD w s₀ mg mb 566 5 ZfK := by
 unfold DD; k_fill
 refine Dof (names := ["_law_told_here", "_law_one", "_law_top", "_law_away", "_law_most", "_law_bounds", "_law_i", "_law_j"]) (g := ZjL) ?_
 exact fun _ _ _ _ _ _ _ c _ _ => (Zy (Z1 (ZP vL jN Za9) (ZC (ZI jN)) Z3) (Zy (by refine sO sL ?_ ?_ ?_; (exact (JI.seq vL)); (exact fun _ _ => (ZbO vO ZbJ)); (exact fun _ _ => JF.nil)) (Zy (ZV sL (cF c Zjn (Zg vL (Zg vL Zq)))) (Zy (Z1 (ZaY (ZaB (ZP vL jN ZbU) (ZaB (ZP (ZbO vL ZbJ) vL Zdh) Zca))) (ZC (ZI jN)) Z3) (Zy (by refine sO sL ?_ ?_ ?_; (exact (JI.seq (Zx vL jI))); (exact fun _ _ => (ZcU (nB (Zcg c)) (Zg vO Zq) Zc8)); (exact fun _ _ => JF.nil)) (Zy (Zbp sL (JI.range (nB c) (Zg (Zas (nB c) (Zg vL Zq) ZaS) Zq)) (ZC (Zbp sL (JI.range (nB c) (Zg (Zas (nB c) (Zg vL Zq) ZaS) Zq)) (Zy (ZV sL (cF c Zjn (Zg vL (Zg (cF c ZlH (Zg (cF c ZlH (Zg vL (Zg vL (Zg jI Zq)))) (Zg vL (Zg (ZbO jI ZbJ) Zq)))) Zq)))) (ZC (Z1 (ZaY (ZaB (ZP vL vL Zbu) (ZaB (ZP vL jN ZbU) Zca))) (ZC (S1.put (cF c Zkf (Zg (Zx (Zx vL vL) vL) (Zg (ZL vL vL Zaj) Zq))) (Zx vL vL) vL)) Z3)))))) (Zy (Zbp sL (JI.range (nB c) (Zg jI (Zg (Zas (nB c) (Zg vL Zq) ZaS) Zq))) (Zy (ZV sL (cF c Zjn (Zg vL (Zg (cF c ZlH (Zg vL (Zg vL (Zg (Zx vL vL) Zq)))) Zq)))) (Zy (Z1 (ZaY (ZaB (ZP (Zx vL vL) jI Zdh) (ZaB (ZP vL jN ZbU) Zca))) (ZC (S1.put (cF c Zkf (Zg (Zx (Zx vL vL) jI) (Zg (ZL (ZL vL vL Zaj) (Zx vL vL) ZcV) Zq))) (Zx vL vL) jI)) Z3) (ZC (Z1 (ZaY (ZaB (ZP (Zx vL vL) jI Zcl) (ZaB (ZP vL jN ZbU) Zca))) (ZC (S1.put (cF c Zkf (Zg (Zx (Zx vL jI) vL) (Zg (ZL (ZL vL vL Zaj) (Zas (nB c) (Zg (Zx vL vL) Zq) ZdH) ZcV) Zq))) (Zx vL jI) vL)) Z3))))) (ZC (ZI (cF c Zsn (Zg (J.tup (Zg vL (Zg (Zx vL jI) Zq))) Zq)))))))))))
theorem Zso : DD w s₀ mg mb 547 1 ZkH := by
 unfold DD; k_fill
 refine Dof (names := ["_law_one", "_law_boxes"]) (g := ZkG) ?_
 exact fun _ _ _ _ _ _ _ c _ _ => (ZC (ZI (ZL (Zx vC jI) (Zas (nB c) (Zg (by refine cO ?_ ?_ ?_; (exact (JI.range (nB c) (Zg (Zas (nB c) (Zg vC Zq) ZaS) Zq))); (exact fun _ _ => (ZL (Zx vD (ZL vO jI Zaj)) (Zx vD vO) Za8)); (exact fun _ _ => JF.nil)) Zq) ZvA) Zaj)))
end
end L
end
section
set_option maxRecDepth 100000
set_option maxHeartbeats 8000000
set_option linter.all false
open PySem PySem.W PySem.Calls PyProof.Rows PM
open L
theorem PySem.Challenge.cw_seer_k44_held_and_under_holds : PySem.Challenge.rw_seer_k44_held_and_under.Holds :=
 head (by
  w_strict (k_go0; (rename Well _ _ _ _ => w9); (rename Frag.In _ _ => kx9); (rename Top _ _ _ _ _ _ => t9); (rename Fr _ _ _ _ => f9); (rename News _ _ _ _ => n9); (rename CellsAre _ _ _ => x9); (rename (PyData.layable0 _ = true) => hl9); (obtain ⟨H9, e9⟩ := L.ZrZ (by omega) hl9); (refine' PM.ZuA (names := ["_law_script", "_law_many", "_law_boxes", "_law_told_here", "_law_one", "_law_top", "_law_way", "_law_kept", "_law_handed_here", "_law_found", "_law_less"]) (g := Zmw) (room := 13) ?hb ?h1 ?h2 ?h3 ?h4 kx9 t9 w9 ?len f9 n9 x9 e9 ?post); (case h1 => decide); (case h2 => decide); (case h3 => rfl); (case h4 => rfl); (case len => (rw [PM.Za7]; omega)); (case hb => (intro dp un gd L a ccd outer h₀ hu clr hd1 hu1; exact (Zy (ZV sL (Zx (J.list (Zg jI (Zg jI (Zg jI (Zg jI (Zg jI (Zg jI (Zg jI (Zg jI (Zg jI Zq)))))))))) (cF clr law_pick_d (Zg vC (Zg jI (Zg jI Zq)))))) (Zy (by refine sO sL ?_ ?_ ?_; (exact (JI.range (nB clr) (Zg vL Zq))); (exact fun _ _ => (cF (Zcg clr) ZeP (Zg vD (Zg (ZL jI vO Zaj) Zq)))); (exact fun _ _ => JF.nil)) (Zy (ZV sL (cF clr ZsT (Zg vC (Zg jI (Zg vL Zq))))) (Zy (ZV sL (cF clr ZtC (Zg vC (Zg jI (Zg vL Zq))))) (Zy (ZV sL (cF clr ZeP (Zg vC (Zg jI Zq)))) (Zy (Z1 (ZP (cF clr law_pick_d (Zg vC (Zg jI (Zg jI Zq)))) jI Zdh) (ZC (ZV sL (ZL (ZL (cF clr Zso (Zg vL (Zg vL Zq))) (cF clr law_pick_d (Zg vC (Zg jI (Zg jI Zq)))) Zaj) jI Zbo))) Z3) (Zy (ZV sL (cF clr law_pick_d (Zg vC (Zg jI (Zg jI Zq))))) (Zy (Z1 (ZP (ZL vL jI Zbe) jI ZaD) (ZC (ZV sL (cF clr Zr2 (Zg vC (Zg jI (Zg vL Zq)))))) Z3) (Zy (Z1 (ZP (ZL vL jI Zbe) jI ZaD) (ZC (ZV sL jN)) Z3) (Zy (ZV sL (cF clr ZsU (Zg vL Zq))) (Zy (ZV sL (ZcU (nB clr) (Zg vL Zq) Zc8)) (Zy (ZV sL (cF clr Zfd (Zg vL (Zg vL (Zg vL Zq))))) (Zy (Z1 (ZaY (Za5 (ZP vL vL Zbu) (Za5 (ZP vL vL Zbu) (Za5 (ZcA (Zbd (cF clr ZlG (Zg vL (Zg (cF clr ZjN (Zg vL (Zg vL (Zg vL Zq)))) Zq))))) ZcI)))) (ZC (ZI jB)) Z3) (Zy (Zdd (cF clr Zr1 (Zg vL Zq))) (Zy (ZV sL (ZL (J.list (Zg (ZL (Zx vL jI) vL Zbo) Zq)) (Zfo vL jI) Zaj)) (Zy (ZV sL (J.tup (Zg jS (Zg (ZcU (nB clr) (Zg vL Zq) Zc8) Zq)))) (Zy (Z1 (ZcA (Zbd (cF clr ZlG (Zg (cF clr ZqG (Zg vL (Zg vL (Zg jB Zq)))) (Zg (cF clr ZjN (Zg vL (Zg vL (Zg (ZbO jI ZbJ) Zq)))) Zq))))) (ZC (ZI jB)) Z3) (Zy (Z1 (ZcA (Zbd (cF clr ZlG (Zg (cF clr ZqG (Zg vL (Zg vL (Zg jB Zq)))) (Zg (cF clr ZjN (Zg vL (Zg (by refine cO ?_ ?_ ?_; (exact (JI.seq vL)); (exact fun _ _ => (ZbO vO ZbJ)); (exact fun _ _ => JF.nil)) (Zg jI Zq)))) Zq))))) (ZC (ZI jB)) Z3) (ZC (ZI (Zfy (Zcr vL vL ZaD) (Zcr vL (J.tup (Zg jS (Zg vL Zq))) ZaD)))))))))))))))))))))))); (case post => (intro h' tk' m' F'; k_steps)))
  )
end
