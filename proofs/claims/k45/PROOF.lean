import PyProof.Rows.All
import Wide.All
import OpenK.AllK
import Wide.FinOn
import PySem.Challenge.RW_seer_k45_claims_of_same
import PyProof.Rows.News
import PyProof.Rows.Nodes
import PyProof.Rows.Chain
import PyProof.Rows.TupSub
import PyProof.PureInt
import PyProof.Rules2
import PyProof.Rules3
import PyProof.Rows.Globals
import PyProof.Rows.RuleB_mod
import PyProof.Rows.RuleB_floordiv
import PyProof.Rows.RuleB_small
import PyProof.NoPylong
import PyProof.Rows.RuleB_pow
import PyProof.Rows.EqDataRows
import PyProof.Rows.StrTemp
import PyProof.Rows.TupAdd
import PyProof.Rows.ListMul
import PyProof.ListIndexNeg
import PyProof.SliceList
import PyProof.Methods
import PyProof.Rows.Tup
import PyProof.IsiPairs
import PyProof.IsiHeapPairs
import PyProof.IsiNone
import PyProof.Rows.RuleN_abs
import PyProof.Rows.SumAny
import PyProof.WalkInts
import PyProof.PvWalk
import PyProof.RulesRaise
import PyProof.Raises
import PyProof.Dict
import PyProof.Seq
import PyProof.Rows.ListAppend
import PyProof.ForAppend
import PyProof.ForAny
import PyProof.Walks
import PyProof.WalksT
import KE.KItem
import PyProof.WalksMore
import PyProof.RangeFor
import PyProof.Rows.Range3
import OpenK.KCell
import KE.KTree
import KE.RegLcTurns
import KE.KCompFold
import KE.KLcPair
import KE.LcTurns
import PyProof.CompUse
import PyProof.Rows.ZipGen
import OpenK.KLine
import KE.KState
import Wide.Well
import PyProof.ListCopy
import PyProof.Rows.TupleOfSeqD
import KE.LcSums
import KE.KCellOne
import PyProof.FitsBits
import KE.KEqDeep
import PyProof.Rows.TupMore
import PyProof.Rows.NestLooks
import PyProof.EnumMake
import PyProof.WalksEnum
import PyProof.Rows.SortWalk
import PyProof.DictStraight
import PyProof.EqAt
import PyProof.Rows.SeqMore2
import KE.KAnyBase
import PyProof.Rows.SeqSlice
set_option linter.all false
set_option maxRecDepth 100000
set_option maxHeartbeats 8000000
abbrev Zz0 := @Option.bind_eq_some_iff
abbrev Zz1 := @Option.map_eq_some_iff
abbrev Zz2 := @List.mem_cons_of_mem
abbrev Zz3 := @List.mem_append_right
abbrev Zz4 := @List.mem_append_left
abbrev Zz5 := @List.mem_cons_self
abbrev Zz6 := @List.getElem?_eq_some_iff
abbrev Zz7 := @List.mem_cons
abbrev Zz8 := @List.mem_append
abbrev Zz9 := @List.mem_singleton
abbrev Zz10 := @Nat.le_refl
abbrev Zz11 := @List.mem_map
set_option Elab.async false
set_option compiler.extract_closed false
section
set_option autoImplicit false
/-! The plain machine: values as trees, lists as places; and how it stands for the model's heap. -/
namespace PM
open PySem PyProof.Rows
inductive V where
 | none
 | bool (b : Bool)
 | int (i : Int)
 | str (s : Str)
 | tup (vs : List V)
 | ref (a : Nat)
noncomputable abbrev Hp := List (List V)
noncomputable abbrev Lc := Nat → Option V
noncomputable def LEN : Nat := 100000
theorem Zbn : LEN = 100000 := rfl
theorem Zdj {n : Nat} (h : n ≤ LEN) : n ≤ sizeLine := by
 have : sizeLine = 2 ^ 24 := rfl
 rw [this]; rw [Zbn] at h; omega
noncomputable abbrev ZeX (xs : List Value) (k : Nat) : Obj := { cls := .type "tuple", data := .seq xs.toArray k }
noncomputable abbrev Zb8 (xs : List Value) (k : Nat) : Obj := { cls := .type "list", data := .seq xs.toArray k }
structure Wd where
 pi : List Addr
 tups : List (Addr × Obj)
 sc : Addr × Obj
structure Wd.Le (W W' : Wd) : Prop where
 pi : W.pi <+: W'.pi
 tups : ∀ q ∈ W.tups, q ∈ W'.tups
 sc : W'.sc = W.sc
theorem Wd.Le.refl (W : Wd) : W.Le W := ⟨List.prefix_refl _, fun _ h => h, rfl⟩
theorem Wd.Le.trans {W W' W'' : Wd} (a : W.Le W') (b : W'.Le W'') : W.Le W'' := ⟨a.pi.trans b.pi, fun q h => b.tups q (a.tups q h), b.sc.trans a.sc⟩
theorem Wd.Le.at {W W' : Wd} (h : W.Le W') {i : Nat} {a : Addr} (e : W.pi[i]? = some a) : W'.pi[i]? = some a := by
 obtain ⟨t, ht⟩ := h.pi
 have hi : i < W.pi.length := (Zz6.mp e).1
 rw [← ht, List.getElem?_append_left hi]
 exact e
mutual
inductive VR (W : Wd) : V → Value → Prop where
 | none : VR W .none .none
 | bool (b : Bool) : VR W (.bool b) (.bool b)
 | int (i : Int) (t : Tok) : VR W (.int i) (.int i t)
 | str (s : Str) (t : Tok) : VR W (.str s) (.str s t)
 | tup {vs : List V} {a : Addr} {xs : List Value} {k : Nat} : (a, ZeX xs k) ∈ W.tups → vs.length ≤ LEN → VRs W vs xs → VR W (.tup vs) (.ref a)
 | ref {i : Nat} {a : Addr} : W.pi[i]? = some a → VR W (.ref i) (.ref a)
inductive VRs (W : Wd) : List V → List Value → Prop where
 | nil : VRs W [] []
 | cons {v : V} {x : Value} {vs : List V} {xs : List Value} : VR W v x → VRs W vs xs → VRs W (v :: vs) (x :: xs)
end
mutual
theorem VR.mono {W W' : Wd} (h : W.Le W') {v : V} {x : Value} (r : VR W v x) : VR W' v x := by
 cases r with
 | none => exact .none
 | bool b => exact .bool b
 | int i t => exact .int i t
 | str s t => exact .str s t
 | tup hm hl hs => exact .tup (h.tups _ hm) hl (VRs.mono h hs)
 | ref e => exact .ref (h.at e)
theorem VRs.mono {W W' : Wd} (h : W.Le W') {vs : List V} {xs : List Value} (r : VRs W vs xs) : VRs W' vs xs := by
 cases r with
 | nil => exact .nil
 | cons a b => exact .cons (VR.mono h a) (VRs.mono h b)
end
theorem VRs.length {W : Wd} : ∀ {vs : List V} {xs : List Value}, VRs W vs xs → xs.length = vs.length
 | _, _, .nil => rfl
 | _, _, .cons _ r => by rw [List.length_cons, List.length_cons, r.length]
theorem VRs.at {W : Wd} : ∀ {vs : List V} {xs : List Value} {i : Nat} {v : V}, VRs W vs xs → vs[i]? = some v → ∃ x, xs[i]? = some x ∧ VR W v x
 | _, _, _, _, .nil, e => by simp at e
 | _, _, 0, _, .cons a _, e => by
  simp at e
  exact ⟨_, by simp, e ▸ a⟩
 | _, _, i + 1, _, .cons _ r, e => by
  simp at e
  obtain ⟨x, hx, hr⟩ := r.at e
  exact ⟨x, by simpa using hx, hr⟩
theorem VRs.append {W : Wd} : ∀ {vs us : List V} {xs ys : List Value}, VRs W vs xs → VRs W us ys → VRs W (vs ++ us) (xs ++ ys)
 | _, _, _, _, .nil, h => h
 | _, _, _, _, .cons a r, h => .cons a (r.append h)
theorem VRs.snoc {W : Wd} {vs : List V} {xs : List Value} {v : V} {x : Value} (h : VRs W vs xs) (r : VR W v x) : VRs W (vs ++ [v]) (xs ++ [x]) := h.append (.cons r .nil)
theorem VRs.set {W : Wd} : ∀ {vs : List V} {xs : List Value} {v : V} {x : Value} (i : Nat), VRs W vs xs → VR W v x → VRs W (vs.set i v) (xs.set i x)
 | _, _, _, _, _, .nil, _ => .nil
 | _, _, _, _, 0, .cons _ r, h => .cons h r
 | _, _, _, _, i + 1, .cons a r, h => .cons a (r.set i h)
theorem VRs.drop {W : Wd} : ∀ {vs : List V} {xs : List Value} (i : Nat), VRs W vs xs → VRs W (vs.drop i) (xs.drop i)
 | _, _, 0, h => h
 | _, _, _ + 1, .nil => .nil
 | _, _, i + 1, .cons _ r => r.drop i
structure HR (W : Wd) (H : Hp) (led : List (Addr × Obj)) : Prop where
 len : W.pi.length = H.length
 nd : W.pi.Nodup
 lists : ∀ (i : Nat) (vs : List V), H[i]? = some vs → vs.length ≤ LEN ∧ ∃ a xs k, W.pi[i]? = some a ∧ (a, Zb8 xs k) ∈ led ∧ VRs W vs xs
 tups : ∀ q ∈ W.tups, q ∈ led
 kind : ∀ q ∈ W.tups, ∃ xs k, q.2 = ZeX xs k
theorem HR.mono {W : Wd} {H : Hp} {led led' : List (Addr × Obj)} (R : HR W H led) (h : ∀ q ∈ led, q ∈ led') : HR W H led' :=
 ⟨R.len, R.nd, fun i vs e => by
  obtain ⟨l, a, xs, k, h1, h2, h3⟩ := R.lists i vs e
  exact ⟨l, a, xs, k, h1, h _ h2, h3⟩, fun q hq => h q (R.tups q hq), R.kind⟩
structure Cx where
 A : Around
 env : Env
 h₀ : Heap
 L : Addr
 hh : A.handled = none
 hu : A.units + 200 < cLine
 Own : Wd → Lc → (Str → Option Value) → List (Addr × Obj) → Prop
 mono : ∀ {W W' : Wd} {ρ : Lc} {m : Str → Option Value} {c : List (Addr × Obj)}, W.Le W' → Own W ρ m c → Own W' ρ m c
structure Rep' (Γ : Cx) (W : Wd) (ρ : Lc) (H : Hp) (fr : List (Addr × Obj)) (h : Heap) (m : Str → Option Value) (cells led : List (Addr × Obj)) : Prop where
 F : Fr Γ.h₀ Γ.L h m
 N : News Γ.h₀ Γ.L h led
 R : HR W H (W.sc :: led)
 sc : Γ.h₀.get? W.sc.1 = some W.sc.2
 sc0 : W.pi[0]? = some W.sc.1
 frIn : ∀ q ∈ fr, q ∈ led
 frOff : ∀ q ∈ fr, q.1 ∉ W.pi
 clIn : ∀ q ∈ cells, q ∈ led
 clOff : ∀ q ∈ cells, q.1 ∉ W.pi
 apart : ∀ q ∈ cells, ∀ r ∈ fr, q.1 ≠ r.1
 frTup : ∀ q ∈ fr, ∀ t ∈ W.tups, q.1 ≠ t.1
 clTup : ∀ q ∈ cells, ∀ t ∈ W.tups, q.1 ≠ t.1
 own : Γ.Own W ρ m cells
noncomputable def Rep (Γ : Cx) (W : Wd) (ρ : Lc) (H : Hp) (fr : List (Addr × Obj)) (h : Heap) : Prop := ∃ m cells led, Rep' Γ W ρ H fr h m cells led
theorem Rep.grown {Γ : Cx} {W : Wd} {ρ : Lc} {H : Hp} {fr : List (Addr × Obj)} {h h' : Heap} (r : Rep Γ W ρ H fr h) (up : ∀ b o, h.get? b = some o → h'.get? b = some o) : Rep Γ W ρ H fr h' := by
 obtain ⟨m, c, led, r⟩ := r
 refine ⟨m, c, led, ⟨⟨?_, fun b o e => up b o (r.F.keep b o e), r.F.above⟩, fun q hq => ⟨up _ _ (r.N q hq).1, (r.N q hq).2⟩, r.R, r.sc, r.sc0, r.frIn, r.frOff, r.clIn, r.clOff, r.apart, r.frTup, r.clTup, r.own⟩⟩
 obtain ⟨o, es, ep, h1, h2⟩ := r.F.ns
 exact ⟨o, es, ep, up _ _ h1, h2⟩
theorem Rep.push {Γ : Cx} {W : Wd} {ρ : Lc} {H : Hp} {fr : List (Addr × Obj)} {h : Heap} (r : Rep Γ W ρ H fr h) (o : Obj) : Rep Γ W ρ H fr (h.push o) := r.grown fun _ _ e => Heap.get?_push_of_some _ e
theorem Zes {q s : Addr × Obj} {l l' : List (Addr × Obj)} (h : q ∈ s :: l) (m : q ∈ l → q ∈ l') : q ∈ s :: l' := by
 rcases Zz7.mp h with e | h
 ·exact e ▸ List.mem_cons_self
 ·exact Zz2 _ (m h)
theorem ZfN {q s : Addr × Obj} {l l' : List (Addr × Obj)} (h : q ∈ s :: l) (m : ∀ x ∈ l, x ∈ l') : q ∈ s :: l' := by
 rcases Zz7.mp h with e | h
 ·exact e ▸ List.mem_cons_self
 ·exact Zz2 _ (m q h)
theorem Rep'.get {Γ : Cx} {W : Wd} {ρ : Lc} {H : Hp} {fr : List (Addr × Obj)} {h : Heap} {m : Str → Option Value} {c led : List (Addr × Obj)} (r : Rep' Γ W ρ H fr h m c led) {q : Addr × Obj} (hq : q ∈ W.sc :: led) : h.get? q.1 = some q.2 := by
 rcases Zz7.mp hq with e | hq
 ·rw [e]
  exact r.F.keep _ _ r.sc
 ·exact (r.N q hq).1
theorem Rep'.off {Γ : Cx} {W : Wd} {ρ : Lc} {H : Hp} {fr : List (Addr × Obj)} {h : Heap} {m : Str → Option Value} {c led : List (Addr × Obj)} (r : Rep' Γ W ρ H fr h m c led) : ∀ q ∈ W.sc :: led, q.1 ≠ h.objs.size := fun q hq => Nat.ne_of_lt (Heap.lt_size (r.get hq))
theorem Rep'.same {Γ : Cx} {W : Wd} {ρ : Lc} {H : Hp} {fr : List (Addr × Obj)} {h h' : Heap} {m : Str → Option Value} {c led : List (Addr × Obj)} (r : Rep' Γ W ρ H fr h m c led) (F' : Fr Γ.h₀ Γ.L h' m) (N' : News Γ.h₀ Γ.L h' led) : Rep Γ W ρ H fr h' :=
 ⟨m, c, led, F', N', r.R, r.sc, r.sc0, r.frIn, r.frOff, r.clIn, r.clOff, r.apart, r.frTup, r.clTup, r.own⟩
theorem Rep'.piIn {Γ : Cx} {W : Wd} {ρ : Lc} {H : Hp} {fr : List (Addr × Obj)} {h : Heap} {m : Str → Option Value} {c led : List (Addr × Obj)} (r : Rep' Γ W ρ H fr h m c led) : ∀ a ∈ W.pi, ∃ o, (a, o) ∈ W.sc :: led := by
 intro a ha
 obtain ⟨i, hi, e⟩ := List.getElem_of_mem ha
 have hi' : i < H.length := r.R.len ▸ hi
 obtain ⟨_, b, xs, k, h1, h2, _⟩ := r.R.lists i H[i] (List.getElem?_eq_getElem hi')
 have : b = a := by rw [List.getElem?_eq_getElem hi, e] at h1; exact (Option.some.inj h1).symm
 exact ⟨_, this ▸ h2⟩
theorem Rep'.inLed {Γ : Cx} {W : Wd} {ρ : Lc} {H : Hp} {fr : List (Addr × Obj)} {h : Heap} {m : Str → Option Value} {c led : List (Addr × Obj)} (r : Rep' Γ W ρ H fr h m c led) {i : Nat} {a : Addr} {o : Obj} (hi : i ≠ 0) (ea : W.pi[i]? = some a) (hm : (a, o) ∈ W.sc :: led) : (a, o) ∈ led := by
 rcases Zz7.mp hm with e | hm
 ·have e1 : a = W.sc.1 := congrArg (·.1) e
  have hl : i < W.pi.length := (Zz6.mp ea).1
  have : i = 0 := (List.getElem?_inj hl r.R.nd).mp (by rw [ea, r.sc0, e1])
  exact absurd this hi
 ·exact hm
theorem Rep'.notSc {Γ : Cx} {W : Wd} {ρ : Lc} {H : Hp} {fr : List (Addr × Obj)} {h : Heap} {m : Str → Option Value} {c led : List (Addr × Obj)} (r : Rep' Γ W ρ H fr h m c led) : ∀ q ∈ led, q.1 ≠ W.sc.1 := fun q hq e => by
 have := (r.N q hq).2.2
 rw [e, r.sc] at this
 cases this
theorem Rep'.newTup {Γ : Cx} {W : Wd} {ρ : Lc} {H : Hp} {fr : List (Addr × Obj)} {h h' : Heap} {m : Str → Option Value} {c led : List (Addr × Obj)} {vs : List V} {xs : List Value} {k : Nat} {n : Addr} (r : Rep' Γ W ρ H fr h m c led) (F' : Fr Γ.h₀ Γ.L h' m) (N' : News Γ.h₀ Γ.L h' ((n, ZeX xs k) :: led)) (hn : ∀ q ∈ W.sc :: led, q.1 ≠ n) (hv : VRs W vs xs) (hl : vs.length ≤ LEN) :
  ∃ W', W.Le W' ∧ Rep Γ W' ρ H fr h' ∧ VR W' (.tup vs) (.ref n) := by
 have le : W.Le ⟨W.pi, (n, ZeX xs k) :: W.tups, W.sc⟩ := ⟨List.prefix_refl _, fun q hq => List.mem_cons_of_mem _ hq, rfl⟩
 refine ⟨⟨W.pi, (n, ZeX xs k) :: W.tups, W.sc⟩, le, ⟨m, c, (n, ZeX xs k) :: led, ⟨F', N', ?_, r.sc, r.sc0, fun q hq => List.mem_cons_of_mem _ (r.frIn q hq), r.frOff, fun q hq => List.mem_cons_of_mem _ (r.clIn q hq), r.clOff, r.apart, fun q hq t ht => ?_, fun q hq t ht => ?_, Γ.mono le r.own⟩⟩, .tup Zz5 hl (hv.mono le)⟩
 ·refine ⟨r.R.len, r.R.nd, fun i us e => ?_, fun q hq => ?_, fun q hq => ?_⟩
  ·obtain ⟨l, a, ys, j, h1, h2, h3⟩ := r.R.lists i us e
   exact ⟨l, a, ys, j, h1, ZfN h2 fun x hx => List.mem_cons_of_mem _ hx, h3.mono le⟩
  ·rcases Zz7.mp hq with e | hq
   ·exact e ▸ List.mem_cons_of_mem _ Zz5
   ·exact ZfN (r.R.tups q hq) fun x hx => List.mem_cons_of_mem _ hx
  ·rcases Zz7.mp hq with e | hq
   ·exact ⟨xs, k, by rw [e]⟩
   ·exact r.R.kind q hq
 ·rcases Zz7.mp ht with e | ht
  ·rw [e]
   exact hn q (Zz2 _ (r.frIn q hq))
  ·exact r.frTup q hq t ht
 ·rcases Zz7.mp ht with e | ht
  ·rw [e]
   exact hn q (Zz2 _ (r.clIn q hq))
  ·exact r.clTup q hq t ht
theorem Rep.tuple {Γ : Cx} {W : Wd} {ρ : Lc} {H : Hp} {fr : List (Addr × Obj)} {h : Heap} {vs : List V} {xs : List Value} {k : Nat} (r : Rep Γ W ρ H fr h) (hv : VRs W vs xs) (hl : vs.length ≤ LEN) :
  ∃ W', W.Le W' ∧ Rep Γ W' ρ H fr (h.push (ZeX xs k)) ∧ VR W' (.tup vs) (.ref h.objs.size) := by
 obtain ⟨m, c, led, r⟩ := r
 exact r.newTup (r.F.push _) (News.push r.F r.N _) r.off hv hl
theorem Rep'.newList {Γ : Cx} {W : Wd} {ρ : Lc} {H : Hp} {fr : List (Addr × Obj)} {h h' : Heap} {m : Str → Option Value} {c led : List (Addr × Obj)} {vs : List V} {xs : List Value} {k : Nat} {n : Addr} (r : Rep' Γ W ρ H fr h m c led) (F' : Fr Γ.h₀ Γ.L h' m) (N' : News Γ.h₀ Γ.L h' ((n, Zb8 xs k) :: led)) (hn : ∀ q ∈ W.sc :: led, q.1 ≠ n) (hv : VRs W vs xs) (hl : vs.length ≤ LEN) :
  ∃ W', W.Le W' ∧ Rep Γ W' ρ (H ++ [vs]) fr h' ∧ VR W' (.ref H.length) (.ref n) := by
 have le : W.Le ⟨W.pi ++ [n], W.tups, W.sc⟩ := ⟨List.prefix_append _ _, fun q hq => hq, rfl⟩
 have h0 : 0 < W.pi.length := (Zz6.mp r.sc0).1
 have at_n : (W.pi ++ [n])[H.length]? = some n := by rw [← r.R.len]; simp
 refine ⟨⟨W.pi ++ [n], W.tups, W.sc⟩, le, ⟨m, c, (n, Zb8 xs k) :: led, ⟨F', N', ?_, r.sc, (List.getElem?_append_left h0).trans r.sc0, fun q hq => List.mem_cons_of_mem _ (r.frIn q hq), fun q hq => ?_, fun q hq => List.mem_cons_of_mem _ (r.clIn q hq), fun q hq => ?_, r.apart, r.frTup, r.clTup, Γ.mono le r.own⟩⟩, .ref at_n⟩
 ·refine ⟨by simp [r.R.len], ?_, fun i us e => ?_, fun q hq => ZfN (r.R.tups q hq) fun x hx => List.mem_cons_of_mem _ hx, r.R.kind⟩
  ·show (W.pi ++ [n]).Nodup
   rw [List.nodup_append]
   refine ⟨r.R.nd, by simp, fun a ha b hb => ?_⟩
   rw [List.mem_singleton.mp hb]
   obtain ⟨o, ho⟩ := r.piIn a ha
   exact hn _ ho
  ·by_cases hi : i < H.length
   ·rw [List.getElem?_append_left hi] at e
    obtain ⟨l, a, ys, j, h1, h2, h3⟩ := r.R.lists i us e
    exact ⟨l, a, ys, j, le.at h1, ZfN h2 fun x hx => List.mem_cons_of_mem _ hx, h3.mono le⟩
   ·have : i = H.length := by
     have := (Zz6.mp e).1
     simp at this
     omega
    subst this
    simp at e
    subst e
    exact ⟨hl, n, xs, k, at_n, List.mem_cons_of_mem _ Zz5, hv.mono le⟩
 ·intro hm
  rcases Zz8.mp hm with hm | hm
  ·exact r.frOff q hq hm
  ·exact hn q (Zz2 _ (r.frIn q hq)) (Zz9.mp hm)
 ·intro hm
  rcases Zz8.mp hm with hm | hm
  ·exact r.clOff q hq hm
  ·exact hn q (Zz2 _ (r.clIn q hq)) (Zz9.mp hm)
theorem Rep.list {Γ : Cx} {W : Wd} {ρ : Lc} {H : Hp} {fr : List (Addr × Obj)} {h : Heap} {vs : List V} {xs : List Value} {k : Nat} (r : Rep Γ W ρ H fr h) (hv : VRs W vs xs) (hl : vs.length ≤ LEN) :
  ∃ W', W.Le W' ∧ Rep Γ W' ρ (H ++ [vs]) fr (h.push (Zb8 xs k)) ∧ VR W' (.ref H.length) (.ref h.objs.size) := by
 obtain ⟨m, c, led, r⟩ := r
 exact r.newList (r.F.push _) (News.push r.F r.N _) r.off hv hl
theorem Rep.at {Γ : Cx} {W : Wd} {ρ : Lc} {H : Hp} {fr : List (Addr × Obj)} {h : Heap} {i : Nat} {a : Addr} {vs : List V} (r : Rep Γ W ρ H fr h) (e : H[i]? = some vs) (ea : W.pi[i]? = some a) : vs.length ≤ LEN ∧ ∃ xs k, h.get? a = some (Zb8 xs k) ∧ VRs W vs xs := by
 obtain ⟨m, c, led, r⟩ := r
 obtain ⟨l, b, xs, k, h1, h2, h3⟩ := r.R.lists i vs e
 rw [ea] at h1
 cases h1
 exact ⟨l, xs, k, r.get h2, h3⟩
theorem Rep.tupAt {Γ : Cx} {W : Wd} {ρ : Lc} {H : Hp} {fr : List (Addr × Obj)} {h : Heap} {q : Addr × Obj} (r : Rep Γ W ρ H fr h) (e : q ∈ W.tups) : h.get? q.1 = some q.2 := by
 obtain ⟨m, c, led, r⟩ := r
 exact r.get (r.R.tups _ e)
theorem Rep'.changed {Γ : Cx} {W : Wd} {ρ : Lc} {H : Hp} {fr : List (Addr × Obj)} {h h' : Heap} {m : Str → Option Value} {c led : List (Addr × Obj)} {i : Nat} {a : Addr} {vs us : List V} {ys : List Value} {k : Nat} (r : Rep' Γ W ρ H fr h m c led) (i0 : i ≠ 0) (e : H[i]? = some vs) (ea : W.pi[i]? = some a) (F' : Fr Γ.h₀ Γ.L h' m) (N' : News Γ.h₀ Γ.L h' ((a, Zb8 ys k) :: led.filter (fun q => decide (q.1 ≠ a)))) (hv : VRs W us ys) (hl : us.length ≤ LEN) :
  Rep Γ W ρ (H.set i us) fr h' := by
 obtain ⟨_, b, xs, j, h1, h2, h3⟩ := r.R.lists i vs e
 rw [ea] at h1
 cases h1
 have h2 := r.inLed i0 ea h2
 have hN := r.N _ h2
 have hm : a ∈ W.pi := List.mem_of_getElem? ea
 have hi : i < H.length := (Zz6.mp e).1
 refine ⟨m, c, (a, Zb8 ys k) :: led.filter (fun q => decide (q.1 ≠ a)), ⟨F', N', ?_, r.sc, r.sc0, fun q hq => ?_, r.frOff, fun q hq => ?_, r.clOff, r.apart, r.frTup, r.clTup, r.own⟩⟩
 ·refine ⟨by simp [r.R.len], r.R.nd, fun n ws en => ?_, fun q hq => ?_, r.R.kind⟩
  ·by_cases hn : n = i
   ·subst hn
    rw [List.getElem?_set_self hi] at en
    cases en
    exact ⟨hl, a, ys, k, ea, List.mem_cons_of_mem _ Zz5, hv⟩
   ·rw [List.getElem?_set_ne (Ne.symm hn)] at en
    obtain ⟨l, d, zs, j', g1, g2, g3⟩ := r.R.lists n ws en
    refine ⟨l, d, zs, j', g1, Zes g2 fun g2 => List.mem_cons_of_mem _ (List.mem_filter.mpr ⟨g2, ?_⟩), g3⟩
    have : d ≠ a := fun e => by
     subst e
     exact hn ((List.getElem?_inj (Zz6.mp g1).1 r.R.nd).mp (g1.trans ea.symm))
    simpa using this
  ·refine Zes (r.R.tups q hq) fun g2 => List.mem_cons_of_mem _ (List.mem_filter.mpr ⟨g2, ?_⟩)
   have : q.1 ≠ a := fun e => by
    obtain ⟨zs, j', hk⟩ := r.R.kind q hq
    have g := r.get (r.R.tups q hq)
    rw [e, hN.1, hk] at g
    have c := congrArg Obj.cls (Option.some.inj g)
    exact absurd c (by simp)
   simpa using this
 ·refine Zz2 _ (List.mem_filter.mpr ⟨r.frIn q hq, ?_⟩)
  have : q.1 ≠ a := fun e => r.frOff q hq (e ▸ hm)
  simpa using this
 ·refine Zz2 _ (List.mem_filter.mpr ⟨r.clIn q hq, ?_⟩)
  have : q.1 ≠ a := fun e => r.clOff q hq (e ▸ hm)
  simpa using this
theorem Rep.change {Γ : Cx} {W : Wd} {ρ : Lc} {H : Hp} {fr : List (Addr × Obj)} {h h' : Heap} {i : Nat} {a : Addr} {vs us : List V} {ys : List Value} {k : Nat} (r : Rep Γ W ρ H fr h) (i0 : i ≠ 0) (e : H[i]? = some vs) (ea : W.pi[i]? = some a) (sb : Heap.SameBut a h h') (ha : h'.get? a = some (Zb8 ys k)) (hv : VRs W us ys) (hl : us.length ≤ LEN) :
  Rep Γ W ρ (H.set i us) fr h' := by
 obtain ⟨m, c, led, r⟩ := r
 obtain ⟨_, b, xs, j, h1, h2, h3⟩ := r.R.lists i vs e
 rw [ea] at h1
 cases h1
 have h2 := r.inLed i0 ea h2
 have hN := r.N _ h2
 have keep : ∀ q ∈ led, q.1 ≠ a → h'.get? q.1 = some q.2 := fun q hq hn => sb.extBut _ _ hn (r.N q hq).1
 refine r.changed (k := k) i0 e ea ⟨r.F.ns.sameBut sb (Ne.symm hN.2.1), fun b o eb => sb.extBut b o (fun q => ?_) (r.F.keep b o eb), r.F.above⟩ (fun q hq => ?_) hv hl
 ·subst q
  rw [hN.2.2] at eb
  cases eb
 ·rcases Zz7.mp hq with e | hq
  ·subst e
   exact ⟨ha, hN.2⟩
  ·obtain ⟨h1, h2⟩ := List.mem_filter.mp hq
   exact ⟨keep q h1 (by simpa using h2), (r.N q h1).2⟩
theorem Rep.swap {Γ : Cx} {W : Wd} {ρ : Lc} {H : Hp} {fs fs' fr : List (Addr × Obj)} {h h' : Heap} (r : Rep Γ W ρ H (fs ++ fr) h) (ap : ∀ q ∈ fs, ∀ t ∈ fr, q.1 ≠ t.1) (keep : ∀ b o, b ∉ fs.map (·.1) → h.get? b = some o → h'.get? b = some o) (new : ∀ q ∈ fs', h'.get? q.1 = some q.2 ∧ q.1 ∈ fs.map (·.1)) : Rep Γ W ρ H (fs' ++ fr) h' := by
 obtain ⟨m, c, led, r⟩ := r
 have inF : ∀ q ∈ fs, q ∈ fs ++ fr := fun q hq => List.mem_append_left _ hq
 have nL : ∀ a ∈ fs.map (·.1), a ≠ Γ.L ∧ Γ.h₀.get? a = none := fun a ha => by
  obtain ⟨q, hq, e⟩ := Zz11.mp ha
  exact e ▸ (r.N q (r.frIn q (inF q hq))).2
 have kp : ∀ q ∈ led, q.1 ∉ fs.map (·.1) → h'.get? q.1 = some q.2 := fun q hq hn => keep _ _ hn (r.N q hq).1
 refine ⟨m, c, fs' ++ led.filter (fun q => decide (q.1 ∉ fs.map (·.1))), ⟨⟨?_, fun b o e => ?_, r.F.above⟩, fun q hq => ?_, ⟨r.R.len, r.R.nd, fun i vs e => ?_, fun q hq => ?_, r.R.kind⟩, r.sc, r.sc0, fun q hq => ?_, fun q hq => ?_, fun q hq => ?_, r.clOff, fun q hq t ht => ?_, fun q hq t ht => ?_, r.clTup, r.own⟩⟩
 ·obtain ⟨o, es, ep, h1, h2⟩ := r.F.ns
  exact ⟨o, es, ep, keep _ _ (fun q => (nL _ q).1 rfl) h1, h2⟩
 ·refine keep b o (fun q => ?_) (r.F.keep b o e)
  rw [(nL b q).2] at e
  cases e
 ·rcases Zz8.mp hq with hq | hq
  ·obtain ⟨h1, h2⟩ := new q hq
   exact ⟨h1, nL _ h2⟩
  ·obtain ⟨h1, h2⟩ := List.mem_filter.mp hq
   exact ⟨kp q h1 (by simpa using h2), (r.N q h1).2⟩
 ·obtain ⟨l, a, xs, k, h1, h2, h3⟩ := r.R.lists i vs e
  refine ⟨l, a, xs, k, h1, Zes h2 fun h2 => List.mem_append_right _ (List.mem_filter.mpr ⟨h2, ?_⟩), h3⟩
  have : a ∉ fs.map (·.1) := fun q => by
   obtain ⟨t, ht, e⟩ := Zz11.mp q
   exact r.frOff t (inF t ht) (e ▸ List.mem_of_getElem? h1)
  simpa using this
 ·refine Zes (r.R.tups q hq) fun h2 => List.mem_append_right _ (List.mem_filter.mpr ⟨h2, ?_⟩)
  have : q.1 ∉ fs.map (·.1) := fun z => by
   obtain ⟨t, ht, e⟩ := Zz11.mp z
   exact r.frTup t (inF t ht) q hq e
  simpa using this
 ·rcases Zz8.mp hq with hq | hq
  ·exact Zz4 _ hq
  ·refine Zz3 _ (List.mem_filter.mpr ⟨r.frIn q (Zz3 _ hq), ?_⟩)
   have : q.1 ∉ fs.map (·.1) := fun z => by
    obtain ⟨t, ht, e⟩ := Zz11.mp z
    exact ap t ht q hq e
   simpa using this
 ·rcases Zz8.mp hq with hq | hq
  ·obtain ⟨t, ht, e⟩ := Zz11.mp (new q hq).2
   exact e ▸ r.frOff t (inF t ht)
  ·exact r.frOff q (Zz3 _ hq)
 ·refine Zz3 _ (List.mem_filter.mpr ⟨r.clIn q hq, ?_⟩)
  have : q.1 ∉ fs.map (·.1) := fun z => by
   obtain ⟨t, ht, e⟩ := Zz11.mp z
   exact r.apart q hq t (inF t ht) e.symm
  simpa using this
 ·rcases Zz8.mp ht with ht | ht
  ·obtain ⟨u, hu, e⟩ := Zz11.mp (new t ht).2
   exact e ▸ r.apart q hq u (inF u hu)
  ·exact r.apart q hq t (Zz3 _ ht)
 ·rcases Zz8.mp hq with hq | hq
  ·obtain ⟨u, hu, e⟩ := Zz11.mp (new q hq).2
   exact e ▸ r.frTup u (inF u hu) t ht
  ·exact r.frTup q (Zz3 _ hq) t ht
theorem Rep.more {Γ : Cx} {W : Wd} {ρ : Lc} {H : Hp} {fs fr : List (Addr × Obj)} {h h' : Heap} (r : Rep Γ W ρ H fr h) (up : ∀ b o, h.get? b = some o → h'.get? b = some o) (new : ∀ q ∈ fs, h'.get? q.1 = some q.2 ∧ h.objs.size ≤ q.1) : Rep Γ W ρ H (fs ++ fr) h' ∧ ∀ q ∈ fs, ∀ t ∈ fr, q.1 ≠ t.1 := by
 have r' := r.grown up
 obtain ⟨m, c, led, r⟩ := r
 have lt : ∀ q ∈ W.sc :: led, q.1 < h.objs.size := fun q hq => Heap.lt_size (r.get hq)
 have ne : ∀ q ∈ fs, ∀ t ∈ W.sc :: led, q.1 ≠ t.1 := fun q hq t ht => Nat.ne_of_gt (Nat.lt_of_lt_of_le (lt t ht) (new q hq).2)
 refine ⟨⟨m, c, fs ++ led, ⟨⟨?_, fun b o e => up b o (r.F.keep b o e), r.F.above⟩, fun q hq => ?_, r.R.mono fun q hq => ZfN hq fun x hx => List.mem_append_right _ hx, r.sc, r.sc0, fun q hq => ?_, fun q hq => ?_, fun q hq => List.mem_append_right _ (r.clIn q hq), r.clOff, fun q hq t ht => ?_, fun q hq t ht => ?_, r.clTup, r.own⟩⟩, fun q hq t ht => ne q hq t (Zz2 _ (r.frIn t ht))⟩
 ·obtain ⟨o, es, ep, h1, h2⟩ := r.F.ns
  exact ⟨o, es, ep, up _ _ h1, h2⟩
 ·rcases Zz8.mp hq with hq | hq
  ·obtain ⟨h1, h2⟩ := new q hq
   refine ⟨h1, fun e => ?_, ?_⟩
   ·exact absurd (e ▸ r.F.ns.lt) (Nat.not_lt.mpr h2)
   ·cases e : Γ.h₀.get? q.1 with
    | none => rfl
    | some o => exact absurd (Heap.lt_size (r.F.keep _ _ e)) (Nat.not_lt.mpr h2)
  ·exact ⟨up _ _ (r.N q hq).1, (r.N q hq).2⟩
 ·rcases Zz8.mp hq with hq | hq
  ·exact Zz4 _ hq
  ·exact Zz3 _ (r.frIn q hq)
 ·rcases Zz8.mp hq with hq | hq
  ·intro hm
   obtain ⟨o, ho⟩ := r.piIn _ hm
   exact ne q hq _ ho rfl
  ·exact r.frOff q hq
 ·rcases Zz8.mp ht with ht | ht
  ·exact (ne t ht q (Zz2 _ (r.clIn q hq))).symm
  ·exact r.apart q hq t ht
 ·rcases Zz8.mp hq with hq | hq
  ·exact ne q hq t (r.R.tups t ht)
  ·exact r.frTup q hq t ht
theorem Rep.less {Γ : Cx} {W : Wd} {ρ : Lc} {H : Hp} {fs fr : List (Addr × Obj)} {h : Heap} (r : Rep Γ W ρ H fs h) (sub : ∀ q ∈ fr, q ∈ fs) : Rep Γ W ρ H fr h := by
 obtain ⟨m, c, led, r⟩ := r
 exact ⟨m, c, led, ⟨r.F, r.N, r.R, r.sc, r.sc0, fun q hq => r.frIn q (sub q hq), fun q hq => r.frOff q (sub q hq), r.clIn, r.clOff, fun q hq t ht => r.apart q hq t (sub t ht), fun q hq => r.frTup q (sub q hq), r.clTup, r.own⟩⟩
theorem Rep.frAt {Γ : Cx} {W : Wd} {ρ : Lc} {H : Hp} {fr : List (Addr × Obj)} {h : Heap} {q : Addr × Obj} (r : Rep Γ W ρ H fr h) (hq : q ∈ fr) : h.get? q.1 = some q.2 := by
 obtain ⟨m, c, led, r⟩ := r
 exact (r.N q (r.frIn q hq)).1
end PM
end
section
set_option autoImplicit false
namespace PM
open PySem PyProof.Rows PyProof
noncomputable abbrev Ex := Lc → Hp → Option (V × Hp)
noncomputable abbrev Exs := Lc → Hp → Option (List V × Hp)
noncomputable abbrev Ts := Lc → Hp → Option (Bool × Hp)
noncomputable abbrev Zhb (Γ : Cx) (W : Wd) (ρ : Lc) (H : Hp) (fr : List (Addr × Obj)) (s : Shared) (Q : Value → Shared → Prop) (v : V) : Prop :=
 ∀ (W' : Wd) (h' : Heap) (tk' : Nat) (x : Value), W.Le W' → Rep Γ W' ρ H fr h' → VR W' v x → Q x { s with heap := h', toks := tk' }
noncomputable abbrev Zjf (Γ : Cx) (W : Wd) (ρ : Lc) (H : Hp) (fr : List (Addr × Obj)) (s : Shared) (Q : Bool → Shared → Prop) (b : Bool) : Prop :=
 ∀ (W' : Wd) (h' : Heap) (tk' : Nat), W.Le W' → Rep Γ W' ρ H fr h' → Q b { s with heap := h', toks := tk' }
section
variable (prog : Program) (w : World)
noncomputable def J (Γ : Cx) (e : Expr) (f : Ex) : Prop := ∀ (W : Wd) (ρ : Lc) (H : Hp) (fr : List (Addr × Obj)) (s : Shared) (Q E : Value → Shared → Prop) (v : V) (H' : Hp),
 Rep Γ W ρ H fr s.heap → f ρ H = some (v, H') → Zhb Γ W ρ H' fr s Q v → wpAny (model prog w) Γ.A (eval e Γ.env) Q E s
noncomputable def Js (Γ : Cx) (es : List Expr) (f : Exs) : Prop := ∀ (pos : Pos) (W : Wd) (ρ : Lc) (H : Hp) (fr : List (Addr × Obj)) (s : Shared) (Q : List Value → Shared → Prop) (E : Value → Shared → Prop) (vs : List V) (H' : Hp),
 Rep Γ W ρ H fr s.heap → f ρ H = some (vs, H') → (∀ (W' : Wd) (h' : Heap) (tk' : Nat) (xs : List Value), W.Le W' → Rep Γ W' ρ H' fr h' → VRs W' vs xs → Q xs { s with heap := h', toks := tk' }) → wpAny (model prog w) Γ.A (spliced (backTo pos (starEach es Γ.env))) Q E s
noncomputable def JT (Γ : Cx) (e : Expr) (f : Ts) : Prop := ∀ (W : Wd) (ρ : Lc) (H : Hp) (fr : List (Addr × Obj)) (s : Shared) (Q : Bool → Shared → Prop) (E : Value → Shared → Prop) (b : Bool) (H' : Hp),
 Rep Γ W ρ H fr s.heap → f ρ H = some (b, H') → Zjf Γ W ρ H' fr s Q b → wpAny (model prog w) Γ.A (isTrue e Γ.env (eval e Γ.env)) Q E s
noncomputable def Op2 (m : Value → Value → Sem Value) (o : V → V → Hp → Option (V × Hp)) : Prop := ∀ (Γ : Cx) (W : Wd) (ρ : Lc) (H : Hp) (fr : List (Addr × Obj)) (s : Shared) (Q E : Value → Shared → Prop) (a b : V) (x y : Value) (v : V) (H' : Hp),
 Rep Γ W ρ H fr s.heap → VR W a x → VR W b y → o a b H = some (v, H') → Zhb Γ W ρ H' fr s Q v → wpAny (model prog w) Γ.A (m x y) Q E s
noncomputable def Op1 (m : Value → Sem Value) (o : V → Hp → Option (V × Hp)) : Prop := ∀ (Γ : Cx) (W : Wd) (ρ : Lc) (H : Hp) (fr : List (Addr × Obj)) (s : Shared) (Q E : Value → Shared → Prop) (a : V) (x : Value) (v : V) (H' : Hp),
 Rep Γ W ρ H fr s.heap → VR W a x → o a H = some (v, H') → Zhb Γ W ρ H' fr s Q v → wpAny (model prog w) Γ.A (m x) Q E s
noncomputable def OpT (m : Value → Sem Bool) (o : V → Hp → Option Bool) : Prop := ∀ (Γ : Cx) (W : Wd) (ρ : Lc) (H : Hp) (fr : List (Addr × Obj)) (s : Shared) (Q : Bool → Shared → Prop) (E : Value → Shared → Prop) (a : V) (x : Value) (b : Bool),
 Rep Γ W ρ H fr s.heap → VR W a x → o a H = some b → Zjf Γ W ρ H fr s Q b → wpAny (model prog w) Γ.A (m x) Q E s
end
noncomputable def Zl (k : Int) : Ex := fun _ H => some (.int k, H)
noncomputable def Z1 : Ex := fun _ H => some (.none, H)
noncomputable def Zb6 (b : Bool) : Ex := fun _ H => some (.bool b, H)
noncomputable def ZeY (x : Str) : Ex := fun _ H => some (.str x, H)
noncomputable def Zb (i : Nat) : Ex := fun ρ H => (ρ i).map fun v => (v, H)
noncomputable def Zj (o : V → V → Hp → Option (V × Hp)) (f g : Ex) : Ex := fun ρ H => (f ρ H).bind fun p => (g ρ p.2).bind fun q => o p.1 q.1 q.2
noncomputable def eUn (o : V → Hp → Option (V × Hp)) (f : Ex) : Ex := fun ρ H => (f ρ H).bind fun p => o p.1 p.2
noncomputable def eIf (t : Ts) (f g : Ex) : Ex := fun ρ H => (t ρ H).bind fun p => if p.1 then f ρ p.2 else g ρ p.2
noncomputable def Zo : Exs := fun _ H => some ([], H)
noncomputable def Zf (f : Ex) (g : Exs) : Exs := fun ρ H => (f ρ H).bind fun p => (g ρ p.2).bind fun q => some (p.1 :: q.1, q.2)
noncomputable def ZaS (g : Exs) : Ex := fun ρ H => (g ρ H).bind fun p => if p.1.length ≤ LEN then some (.tup p.1, p.2) else none
noncomputable def Zcc (g : Exs) : Ex := fun ρ H => (g ρ H).bind fun p => if p.1.length ≤ LEN then some (.ref p.2.length, p.2 ++ [p.1]) else none
noncomputable def ZcW : V → Hp → Option Bool
 | .bool b, _ => some b
 | .int i, _ => some (i != 0)
 | .none, _ => some false
 | _, _ => none
noncomputable def ZG (f : Ex) : Ts := fun ρ H => (f ρ H).bind fun p => (ZcW p.1 p.2).map fun b => (b, p.2)
noncomputable def Zcq (t : Ts) : Ts := fun ρ H => (t ρ H).map fun p => (!p.1, p.2)
noncomputable def Zan : Ts := fun _ H => some (true, H)
noncomputable def Zcn : Ts := fun _ H => some (false, H)
noncomputable def Zau (t u : Ts) : Ts := fun ρ H => (t ρ H).bind fun p => if p.1 then u ρ p.2 else some (false, p.2)
noncomputable def tOr (t u : Ts) : Ts := fun ρ H => (t ρ H).bind fun p => if p.1 then some (true, p.2) else u ρ p.2
noncomputable def Zjq (f : Ex) : Ex := fun ρ H => (f ρ H).bind fun p => (ZcW p.1 p.2).map fun b => (.bool (!b), p.2)
noncomputable def Zdx (f g : Ex) : Ex := fun ρ H => (f ρ H).bind fun p => (ZcW p.1 p.2).bind fun b => if b then g ρ p.2 else some p
noncomputable def eOr (f g : Ex) : Ex := fun ρ H => (f ρ H).bind fun p => (ZcW p.1 p.2).bind fun b => if b then some p else g ρ p.2
section
variable {prog : Program} {w : World} {Γ : Cx}
theorem J.int (k : Int) (n : Nat) (pos : Pos) : J prog w Γ (.Constant (.int k) n pos) (Zl k) := fun W ρ H fr s Q E v H' r e post => by
 cases e
 exact wpAny_Constant_int (post W s.heap _ _ (.refl W) r (.int k _))
theorem J.none (n : Nat) (pos : Pos) : J prog w Γ (.Constant .none n pos) Z1 := fun W ρ H fr s Q E v H' r e post => by
 cases e
 exact wpAny_Constant_none (post W s.heap s.toks _ (.refl W) r .none)
theorem J.bool (b : Bool) (n : Nat) (pos : Pos) : J prog w Γ (.Constant (.bool b) n pos) (Zb6 b) := fun W ρ H fr s Q E v H' r e post => by
 cases e
 exact wpAny_Constant_bool (post W s.heap s.toks _ (.refl W) r (.bool b))
theorem J.str (x : Str) (n : Nat) (pos : Pos) : J prog w Γ (.Constant (.str x) n pos) (ZeY x) := fun W ρ H fr s Q E v H' r e post => by
 cases e
 exact wpAny_Constant_str (post W s.heap _ _ (.refl W) r (.str x _))
theorem ZN {e1 e2 : Expr} {op : Operator} {pos : Pos} {f g : Ex} {o : V → V → Hp → Option (V × Hp)} (h1 : J prog w Γ e1 f) (h2 : J prog w Γ e2 g) (ho : Op2 prog w (binaryOp op) o) : J prog w Γ (.BinOp e1 op e2 pos) (Zj o f g) := by
 intro W ρ H fr s Q E v H' r hf post
 obtain ⟨p, e1, hf⟩ := Zz0.mp hf
 obtain ⟨q, e2, e3⟩ := Zz0.mp hf
 refine wpAny_BinOp (h1 W ρ H fr s _ E _ _ r e1 fun W1 k1 t1 x l1 r1 x1 => ?_)
 refine h2 W1 ρ _ fr _ _ E _ _ r1 e2 fun W2 k2 t2 y l2 r2 y2 => ?_
 exact ho Γ W2 ρ _ fr _ Q E _ _ x y v H' r2 (x1.mono l2) y2 e3 fun W3 k3 t3 z l3 r3 z3 => post W3 k3 t3 z ((l1.trans l2).trans l3) r3 z3
theorem ZcT {e1 e2 : Expr} {op : CmpOp} {pos : Pos} {f g : Ex} {o : V → V → Hp → Option (V × Hp)} (h1 : J prog w Γ e1 f) (h2 : J prog w Γ e2 g) (ho : Op2 prog w (compareOp op) o) (hm : behindInMarks op e2 = false := by with_unfolding_all rfl) : J prog w Γ (.Compare e1 [op] [e2] pos) (Zj o f g) := by
 intro W ρ H fr s Q E v H' r hf post
 obtain ⟨p, e1, hf⟩ := Zz0.mp hf
 obtain ⟨q, e2, e3⟩ := Zz0.mp hf
 refine wpAny_Compare1 (h1 W ρ H fr s _ E _ _ r e1 fun W1 k1 t1 x l1 r1 x1 => ?_) hm
 refine h2 W1 ρ _ fr _ _ E _ _ r1 e2 fun W2 k2 t2 y l2 r2 y2 => ?_
 exact ho Γ W2 ρ _ fr _ Q E _ _ x y v H' r2 (x1.mono l2) y2 e3 fun W3 k3 t3 z l3 r3 z3 => post W3 k3 t3 z ((l1.trans l2).trans l3) r3 z3
theorem ZbI {e1 : Expr} {op : UnaryOp} {pos : Pos} {f : Ex} {o : V → Hp → Option (V × Hp)} (h1 : J prog w Γ e1 f) (ho : Op1 prog w (unaryOp op) o) : J prog w Γ (.UnaryOp op e1 pos) (eUn o f) := by
 intro W ρ H fr s Q E v H' r hf post
 obtain ⟨p, e1, hf⟩ := Zz0.mp hf
 refine wpAny_UnaryOp (h1 W ρ H fr s _ E _ _ r e1 fun W1 k1 t1 x l1 r1 x1 => ?_)
 exact ho Γ W1 ρ _ fr _ Q E _ x v H' r1 x1 hf fun W3 k3 t3 z l3 r3 z3 => post W3 k3 t3 z (l1.trans l3) r3 z3
theorem truth : OpT prog w truthy ZcW := by
 intro Γ W ρ H fr s Q E a x b r hx ho post
 cases hx with
 | none => cases ho; exact truthy_none (post W s.heap s.toks (.refl W) r)
 | bool c => cases ho; exact fun _ _ _ => post W s.heap s.toks (.refl W) r
 | int i t => cases ho; exact P.truthy_int (post W s.heap s.toks (.refl W) r)
 | str _ _ => cases ho
 | tup _ _ _ => cases ho
 | ref _ => cases ho
theorem ZxG {e1 : Expr} {pos : Pos} {f : Ex} (h1 : J prog w Γ e1 f) : J prog w Γ (.UnaryOp .Not e1 pos) (Zjq f) := by
 intro W ρ H fr s Q E v H' r hf post
 obtain ⟨p, e1, hf⟩ := Zz0.mp hf
 obtain ⟨b, e2, e3⟩ := Zz1.mp hf
 cases e3
 refine wpAny_UnaryOp (h1 W ρ H fr s _ E _ _ r e1 fun W1 k1 t1 x l1 r1 x1 => ?_)
 exact not_of (truth Γ W1 ρ _ fr _ _ E _ x b r1 x1 e2 fun W2 k2 t2 l2 r2 => post W2 k2 t2 _ (l1.trans l2) r2 (.bool _))
theorem Zg4 {e1 e2 : Expr} {pos : Pos} {f g : Ex} (h1 : J prog w Γ e1 f) (h2 : J prog w Γ e2 g) : J prog w Γ (.BoolOp .And [e1, e2] pos) (Zdx f g) := by
 intro W ρ H fr s Q E v H' r hf post
 obtain ⟨p, e1, hf⟩ := Zz0.mp hf
 obtain ⟨b, e2, e3⟩ := Zz0.mp hf
 refine wpAny_And2 (h1 W ρ H fr s _ E _ _ r e1 fun W1 k1 t1 x l1 r1 x1 => ?_)
 refine truth Γ W1 ρ _ fr _ _ E _ x b r1 x1 e2 fun W2 k2 t2 l2 r2 => ?_
 cases b with
 | true => exact h2 W2 ρ _ fr _ Q E v H' r2 e3 fun W3 k3 t3 z l3 r3 z3 => post W3 k3 t3 z ((l1.trans l2).trans l3) r3 z3
 | false =>
  cases e3
  exact post W2 k2 t2 x (l1.trans l2) r2 (x1.mono l2)
theorem Zx3 {e1 e2 : Expr} {pos : Pos} {f g : Ex} (h1 : J prog w Γ e1 f) (h2 : J prog w Γ e2 g) : J prog w Γ (.BoolOp .Or [e1, e2] pos) (eOr f g) := by
 intro W ρ H fr s Q E v H' r hf post
 obtain ⟨p, e1, hf⟩ := Zz0.mp hf
 obtain ⟨b, e2, e3⟩ := Zz0.mp hf
 refine wpAny_Or2 (h1 W ρ H fr s _ E _ _ r e1 fun W1 k1 t1 x l1 r1 x1 => ?_)
 refine truth Γ W1 ρ _ fr _ _ E _ x b r1 x1 e2 fun W2 k2 t2 l2 r2 => ?_
 cases b with
 | false => exact h2 W2 ρ _ fr _ Q E v H' r2 e3 fun W3 k3 t3 z l3 r3 z3 => post W3 k3 t3 z ((l1.trans l2).trans l3) r3 z3
 | true =>
  cases e3
  exact post W2 k2 t2 x (l1.trans l2) r2 (x1.mono l2)
theorem ZeS {t e1 e2 : Expr} {pos : Pos} {u : Ts} {f g : Ex} (ht : JT prog w Γ t u) (h1 : J prog w Γ e1 f) (h2 : J prog w Γ e2 g) : J prog w Γ (.IfExp t e1 e2 pos) (eIf u f g) := by
 intro W ρ H fr s Q E v H' r hf post
 obtain ⟨p, e1, hf⟩ := Zz0.mp hf
 refine wpAny_IfExp (ht W ρ H fr s _ E _ _ r e1 fun W1 k1 t1 l1 r1 => ?_)
 obtain ⟨b, H1⟩ := p
 cases b with
 | true => exact h1 W1 ρ _ fr _ Q E v H' r1 hf fun W3 k3 t3 z l3 r3 z3 => post W3 k3 t3 z (l1.trans l3) r3 z3
 | false => exact h2 W1 ρ _ fr _ Q E v H' r1 hf fun W3 k3 t3 z l3 r3 z3 => post W3 k3 t3 z (l1.trans l3) r3 z3
theorem Zq : Js prog w Γ [] Zo := fun pos W ρ H fr s Q E vs H' r hf post => by
 cases hf
 exact wpAny_items_nil (post W s.heap s.toks [] (.refl W) r .nil)
theorem Zg {e : Expr} {es : List Expr} {f : Ex} {g : Exs} (h1 : J prog w Γ e f) (h2 : Js prog w Γ es g) (he : starEach (e :: es) Γ.env = (false, eval e Γ.env) :: starEach es Γ.env := by rfl) : Js prog w Γ (e :: es) (Zf f g) := by
 intro pos W ρ H fr s Q E vs H' r hf post
 obtain ⟨p, e1, hf⟩ := Zz0.mp hf
 obtain ⟨q, e2, e3⟩ := Zz0.mp hf
 cases e3
 refine wpAny_items_cons (h1 W ρ H fr s _ E _ _ r e1 fun W1 k1 t1 x l1 r1 x1 => ?_) he
 exact h2 pos W1 ρ _ fr _ _ E _ _ r1 e2 fun W2 k2 t2 ys l2 r2 y2 => post W2 k2 t2 _ (l1.trans l2) r2 (.cons (x1.mono l2) y2)
theorem J.tup {es : List Expr} {k : Nat} {pos : Pos} {g : Exs} (h : Js prog w Γ es g) : J prog w Γ (.Tuple es k pos) (ZaS g) := by
 intro W ρ H fr s Q E v H' r hf post
 obtain ⟨p, e1, hf⟩ := Zz0.mp hf
 by_cases hl : p.1.length ≤ LEN
 ·rw [if_pos hl] at hf
  cases hf
  refine wpAny_Tuple (h pos W ρ H fr s _ E _ _ r e1 fun W1 k1 t1 xs l1 r1 x1 => ⟨Zdj (by rw [x1.length]; exact hl), ?_⟩)
  obtain ⟨W2, l2, r2, v2⟩ := r1.tuple (k := 0) x1 hl
  exact post W2 _ _ _ (l1.trans l2) r2 v2
 ·rw [if_neg hl] at hf
  cases hf
theorem J.list {es : List Expr} {pos : Pos} {g : Exs} (h : Js prog w Γ es g) : J prog w Γ (.List es pos) (Zcc g) := by
 intro W ρ H fr s Q E v H' r hf post
 obtain ⟨p, e1, hf⟩ := Zz0.mp hf
 by_cases hl : p.1.length ≤ LEN
 ·rw [if_pos hl] at hf
  cases hf
  refine wpAny_List (h pos W ρ H fr s _ E _ _ r e1 fun W1 k1 t1 xs l1 r1 x1 => ⟨Zdj (by rw [x1.length]; exact hl), ?_⟩)
  obtain ⟨W2, l2, r2, v2⟩ := r1.list (k := 0) x1 hl
  exact post W2 _ _ _ (l1.trans l2) r2 v2
 ·rw [if_neg hl] at hf
  cases hf
theorem ZcQ {e : Expr} {pos : Pos} {t : Ts} (h : JT prog w Γ e t) : JT prog w Γ (.UnaryOp .Not e pos) (Zcq t) := by
 intro W ρ H fr s Q E b H' r hf post
 obtain ⟨p, e1, e2⟩ := Zz1.mp hf
 cases e2
 exact isTrue_not (h W ρ H fr s _ E _ _ r e1 post)
noncomputable def JA (prog : Program) (w : World) (Γ : Cx) (op : BoolOp) (es : List Expr) (f : Ts) : Prop := ∀ (W : Wd) (ρ : Lc) (H : Hp) (fr : List (Addr × Obj)) (s : Shared) (Q : Bool → Shared → Prop) (E : Value → Shared → Prop) (b : Bool) (H' : Hp),
 Rep Γ W ρ H fr s.heap → f ρ H = some (b, H') → Zjf Γ W ρ H' fr s Q b → wpAny (model prog w) Γ.A (allTrue op es Γ.env) Q E s
theorem ZbX : JA prog w Γ .And [] Zan := fun W ρ H fr s Q E b H' r hf post => by
 cases hf
 exact wpAny_allTrue_And_nil (post W s.heap s.toks (.refl W) r)
theorem ZcN : JA prog w Γ .Or [] Zcn := fun W ρ H fr s Q E b H' r hf post => by
 cases hf
 exact wpAny_allTrue_Or_nil (post W s.heap s.toks (.refl W) r)
theorem ZaA {e : Expr} {es : List Expr} {t u : Ts} (h1 : JT prog w Γ e t) (h2 : JA prog w Γ .And es u) : JA prog w Γ .And (e :: es) (Zau t u) := by
 intro W ρ H fr s Q E b H' r hf post
 obtain ⟨p, e1, hf⟩ := Zz0.mp hf
 refine wpAny_allTrue_And_cons (h1 W ρ H fr s _ E _ _ r e1 fun W1 k1 t1 l1 r1 => ?_)
 obtain ⟨c, H1⟩ := p
 cases c with
 | true => exact h2 W1 ρ _ fr _ Q E b H' r1 hf fun W3 k3 t3 l3 r3 => post W3 k3 t3 (l1.trans l3) r3
 | false =>
  cases hf
  exact post W1 k1 t1 l1 r1
theorem Zbf {e : Expr} {es : List Expr} {t u : Ts} (h1 : JT prog w Γ e t) (h2 : JA prog w Γ .Or es u) : JA prog w Γ .Or (e :: es) (tOr t u) := by
 intro W ρ H fr s Q E b H' r hf post
 obtain ⟨p, e1, hf⟩ := Zz0.mp hf
 refine wpAny_allTrue_Or_cons (h1 W ρ H fr s _ E _ _ r e1 fun W1 k1 t1 l1 r1 => ?_)
 obtain ⟨c, H1⟩ := p
 cases c with
 | false => exact h2 W1 ρ _ fr _ Q E b H' r1 hf fun W3 k3 t3 l3 r3 => post W3 k3 t3 (l1.trans l3) r3
 | true =>
  cases hf
  exact post W1 k1 t1 l1 r1
theorem ZaZ {op : BoolOp} {es : List Expr} {pos : Pos} {t : Ts} (h : JA prog w Γ op es t) : JT prog w Γ (.BoolOp op es pos) t := fun W ρ H fr s Q E b H' r hf post => wpAny_isTrue_BoolOp (h W ρ H fr s Q E b H' r hf post)
theorem Zbo {e : Expr} {f : Ex} (h : J prog w Γ e f) (he : isTrue e Γ.env (eval e Γ.env) = (do let v ← eval e Γ.env; standAt e.pos; holding [v] (truthy v)) := by rfl) : JT prog w Γ e (ZG f) := by
 intro W ρ H fr s Q E b H' r hf post
 obtain ⟨p, e1, hf⟩ := Zz0.mp hf
 obtain ⟨c, e2, e3⟩ := Zz1.mp hf
 cases e3
 refine isTrue_plain (h W ρ H fr s _ E _ _ r e1 fun W1 k1 t1 x l1 r1 x1 => ?_) he
 exact truth Γ W1 ρ _ fr _ _ E _ x b r1 x1 e2 fun W2 k2 t2 l2 r2 => post W2 k2 t2 (l1.trans l2) r2
theorem ZP {e1 e2 : Expr} {op : CmpOp} {pos : Pos} {f g : Ex} {o : V → V → Hp → Option (V × Hp)} (h1 : J prog w Γ e1 f) (h2 : J prog w Γ e2 g) (ho : Op2 prog w (compareOp op) o) (hm : behindInMarks op e2 = false := by with_unfolding_all rfl) : JT prog w Γ (.Compare e1 [op] [e2] pos) (ZG (Zj o f g)) := by
 intro W ρ H fr s Q E b H' r hf post
 obtain ⟨pp, e0, hf0⟩ := Zz0.mp hf
 obtain ⟨c, e4, e5⟩ := Zz1.mp hf0
 cases e5
 obtain ⟨p, e1, hf⟩ := Zz0.mp e0
 obtain ⟨q, e2, e3⟩ := Zz0.mp hf
 refine wpAny_isTrue_Compare1 (h1 W ρ H fr s _ E _ _ r e1 fun W1 k1 t1 x l1 r1 x1 => ?_) hm
 refine h2 W1 ρ _ fr _ _ E _ _ r1 e2 fun W2 k2 t2 y l2 r2 y2 => ?_
 refine ho Γ W2 ρ _ fr _ _ E _ _ x y _ _ r2 (x1.mono l2) y2 e3 fun W3 k3 t3 z l3 r3 z3 => ?_
 exact truth Γ W3 ρ _ fr _ _ E _ z b r3 z3 e4 fun W4 k4 t4 l4 r4 => post W4 k4 t4 (((l1.trans l2).trans l3).trans l4) r4
end
end PM
end
section
set_option autoImplicit false
namespace PM
open PySem PyProof.Rows PyProof
noncomputable def mulOk (a b : Int) : Bool := !(decide (Builtin.Int.intBits a > shortFactorBits) && decide (Builtin.Int.intBits b > shortFactorBits) && Builtin.Int.intTooBig (Builtin.Int.intBits a + Builtin.Int.intBits b))
theorem ZuG {a b : Int} (h : mulOk a b = true) : IntMulOk a b := by
 unfold mulOk at h
 unfold IntMulOk
 intro c
 rw [c] at h
 cases h
noncomputable def Zbm : V → V → Hp → Option (V × Hp)
 | .int a, .int b, H => some (.int (a - b), H)
 | _, _, _ => none
noncomputable def oDiv : V → V → Hp → Option (V × Hp)
 | .int a, .int b, H => if b ≠ 0 ∧ Builtin.divisionGoesByPylong a b = false then some (.int (a.fdiv b), H) else none
 | _, _, _ => none
noncomputable def oMod : V → V → Hp → Option (V × Hp)
 | .int a, .int b, H => if b ≠ 0 then some (.int (a.fmod b), H) else none
 | _, _, _ => none
noncomputable def oPow : V → V → Hp → Option (V × Hp)
 | .int a, .int b, H => if 0 ≤ b ∧ (Builtin.Int.intBits a : Int) * b ≤ 2 ^ 27 then some (.int (a ^ b.toNat), H) else none
 | _, _, _ => none
noncomputable def Zbr : V → Hp → Option (V × Hp)
 | .int a, H => some (.int (-a), H)
 | _, _ => none
noncomputable def Zjr (p : Int → Int → Bool) : V → V → Hp → Option (V × Hp)
 | .int a, .int b, H => some (.bool (p a b), H)
 | _, _, _ => none
noncomputable def oLt := Zjr fun a b => decide (a < b)
noncomputable def oLe := Zjr fun a b => decide (a ≤ b)
noncomputable def oGt := Zjr fun a b => decide (b < a)
section
variable {prog : Program} {w : World}
theorem Zbt : Op2 prog w (binaryOp .Sub) Zbm := by
 intro Γ W ρ H fr s Q E a b x y v H' r hx hy ho post
 cases hx <;> first | (cases ho; done) | skip
 cases hy <;> first | (cases ho; done) | skip
 cases ho
 exact PySem.P.sub_int (post W s.heap _ _ (.refl W) r (.int _ _))
theorem Zbp : Op2 prog w (binaryOp .Mod) oMod := by
 intro Γ W ρ H fr s Q E a b x y v H' r hx hy ho post
 cases hx <;> first | (cases ho; done) | skip
 cases hy <;> first | (cases ho; done) | skip
 rename_i i t j u
 simp only [oMod] at ho
 by_cases hb : j ≠ 0
 ·rw [if_pos hb] at ho
  cases ho
  exact mod_int' hb (post W s.heap _ _ (.refl W) r (.int _ _))
 ·rw [if_neg hb] at ho
  cases ho
theorem Zc4 : Op2 prog w (binaryOp .FloorDiv) oDiv := by
 intro Γ W ρ H fr s Q E a b x y v H' r hx hy ho post
 cases hx <;> first | (cases ho; done) | skip
 cases hy <;> first | (cases ho; done) | skip
 rename_i i t j u
 simp only [oDiv] at ho
 by_cases hb : j ≠ 0 ∧ Builtin.divisionGoesByPylong i j = false
 ·rw [if_pos hb] at ho
  cases ho
  exact floordiv_int hb.1 (post W s.heap _ _ (.refl W) r (.int _ _)) (.inl hb.2)
 ·rw [if_neg hb] at ho
  cases ho
theorem Zn5 : Op2 prog w (binaryOp .Pow) oPow := by
 intro Γ W ρ H fr s Q E a b x y v H' r hx hy ho post
 cases hx <;> first | (cases ho; done) | skip
 cases hy <;> first | (cases ho; done) | skip
 rename_i i t j u
 simp only [oPow] at ho
 by_cases hb : 0 ≤ j ∧ (Builtin.Int.intBits i : Int) * j ≤ 2 ^ 27
 ·rw [if_pos hb] at ho
  cases ho
  exact pow_int hb.1 hb.2 (post W s.heap _ _ (.refl W) r (.int _ _))
 ·rw [if_neg hb] at ho
  cases ho
theorem ZbC : Op1 prog w (unaryOp .USub) Zbr := by
 intro Γ W ρ H fr s Q E a x v H' r hx ho post
 cases hx <;> first | (cases ho; done) | skip
 cases ho
 exact PySem.P.neg_int (post W s.heap _ _ (.refl W) r (.int _ _))
theorem Zcp : Op2 prog w (compareOp .Lt) oLt := by
 intro Γ W ρ H fr s Q E a b x y v H' r hx hy ho post
 cases hx <;> first | (cases ho; done) | skip
 cases hy <;> first | (cases ho; done) | skip
 cases ho
 exact PySem.P.lt_int (post W s.heap s.toks _ (.refl W) r (.bool _))
theorem Zjg : Op2 prog w (compareOp .LtE) oLe := by
 intro Γ W ρ H fr s Q E a b x y v H' r hx hy ho post
 cases hx <;> first | (cases ho; done) | skip
 cases hy <;> first | (cases ho; done) | skip
 cases ho
 exact PySem.P.le_int (post W s.heap s.toks _ (.refl W) r (.bool _))
theorem Zds : Op2 prog w (compareOp .Gt) oGt := by
 intro Γ W ρ H fr s Q E a b x y v H' r hx hy ho post
 cases hx <;> first | (cases ho; done) | skip
 cases hy <;> first | (cases ho; done) | skip
 cases ho
 exact PySem.P.gt_int (post W s.heap s.toks _ (.refl W) r (.bool _))
end
end PM
end
section
set_option autoImplicit false
namespace PM
open PySem PyProof.Rows PyProof
noncomputable def ZfT (f : V → Option PyData) : List V → Option (List PyData)
 | [] => some []
 | v :: vs => (f v).bind fun d => (ZfT f vs).bind fun ds => some (d :: ds)
noncomputable def toD (H : Hp) : Nat → V → Option PyData
 | _, .none => some .none
 | _, .bool b => some (.bool b)
 | _, .int i => some (.int i)
 | _, .str x => some (.str x)
 | n + 1, .tup vs => (ZfT (toD H n) vs).map .tuple
 | n + 1, .ref a => H[a]?.bind fun vs => (ZfT (toD H n) vs).map .list
 | 0, .tup _ => none
 | 0, .ref _ => none
theorem ZlN {W : Wd} {h : Heap} {f : V → Option PyData} (ih : ∀ v x d, VR W v x → f v = some d → ∃ as, Reads h x d as) : ∀ {vs : List V} {xs : List Value} {ds : List PyData}, VRs W vs xs → ZfT f vs = some ds → ∃ as, ReadsAll h xs ds as
 | _, _, _, .nil, e => by
  cases e
  exact ⟨_, .nil⟩
 | _, _, _, .cons a r, e => by
  obtain ⟨d, e1, e⟩ := Zz0.mp e
  obtain ⟨ds, e2, e3⟩ := Zz0.mp e
  cases e3
  obtain ⟨as, h1⟩ := ih _ _ _ a e1
  obtain ⟨bs, h2⟩ := ZlN ih r e2
  exact ⟨_, .cons h1 h2⟩
theorem Zfo {Γ : Cx} {W : Wd} {ρ : Lc} {H : Hp} {fr : List (Addr × Obj)} {h : Heap} (r : Rep Γ W ρ H fr h) : ∀ (n : Nat) (v : V) (x : Value) (d : PyData), VR W v x → toD H n v = some d → ∃ as, Reads h x d as := by
 intro n
 induction n with
 | zero =>
  intro v x d hv e
  cases hv with
  | none => cases e; exact ⟨_, .none⟩
  | bool b => cases e; exact ⟨_, .bool b⟩
  | int i t => cases e; exact ⟨_, .int i t⟩
  | str y t => cases e; exact ⟨_, .str y t⟩
  | tup _ _ _ => cases e
  | ref _ => cases e
 | succ n ih =>
  intro v x d hv e
  cases hv with
  | none => cases e; exact ⟨_, .none⟩
  | bool b => cases e; exact ⟨_, .bool b⟩
  | int i t => cases e; exact ⟨_, .int i t⟩
  | str y t => cases e; exact ⟨_, .str y t⟩
  | @tup vs a xs k hm hl hs =>
   obtain ⟨ds, e1, e2⟩ := Zz1.mp e
   subst e2
   obtain ⟨as, h1⟩ := ZlN ih hs e1
   exact ⟨_, .tuple (r.tupAt hm) rfl rfl (by simpa using h1)⟩
  | @ref i a ea =>
   obtain ⟨vs, e0, e⟩ := Zz0.mp e
   obtain ⟨ds, e1, e2⟩ := Zz1.mp e
   subst e2
   obtain ⟨hl, xs, k, hg, hs⟩ := r.at e0 ea
   obtain ⟨as, h1⟩ := ZlN ih hs e1
   exact ⟨_, .list hg rfl rfl (by simpa using h1)⟩
noncomputable def Zb9 : Nat := 8
noncomputable def Zjs (a b : V) (H : Hp) : Option Bool := (toD H Zb9 a).bind fun d => (toD H Zb9 b).bind fun e => if SeqAt.shaped d = true ∧ SeqAt.shaped e = true then some (PyData.eqv d e) else none
noncomputable def oEq (a b : V) (H : Hp) : Option (V × Hp) := (Zjs a b H).map fun c => (.bool c, H)
noncomputable def oNe (a b : V) (H : Hp) : Option (V × Hp) := (Zjs a b H).map fun c => (.bool (!c), H)
noncomputable def oIs : V → V → Hp → Option (V × Hp)
 | .none, .none, H => some (.bool true, H)
 | .bool _, .none, H => some (.bool false, H)
 | .int _, .none, H => some (.bool false, H)
 | .str _, .none, H => some (.bool false, H)
 | .tup _, .none, H => some (.bool false, H)
 | .ref _, .none, H => some (.bool false, H)
 | _, _, _ => none
noncomputable def Zbu (a b : V) (H : Hp) : Option (V × Hp) := (oIs a b H).bind fun p => match p.1 with | .bool c => some (.bool (!c), p.2) | _ => none
section
variable {prog : Program} {w : World}
theorem ZaM : Op2 prog w (compareOp .Eq) oEq := by
 intro Γ W ρ H fr s Q E a b x y v H' r hx hy ho post
 obtain ⟨c, e1, e2⟩ := Zz1.mp ho
 cases e2
 obtain ⟨d, h1, e1⟩ := Zz0.mp e1
 obtain ⟨e, h2, e1⟩ := Zz0.mp e1
 by_cases hs : SeqAt.shaped d = true ∧ SeqAt.shaped e = true
 ·rw [if_pos hs] at e1
  cases e1
  obtain ⟨as, R1⟩ := Zfo r Zb9 a x d hx h1
  obtain ⟨bs, R2⟩ := Zfo r Zb9 b y e hy h2
  exact eq_dataH R1 R2 hs.1 hs.2 (by have := Γ.hu; omega) (post W s.heap s.toks _ (.refl W) r (.bool _))
 ·rw [if_neg hs] at e1
  cases e1
theorem ZbO : Op2 prog w (compareOp .NotEq) oNe := by
 intro Γ W ρ H fr s Q E a b x y v H' r hx hy ho post
 obtain ⟨c, e1, e2⟩ := Zz1.mp ho
 cases e2
 obtain ⟨d, h1, e1⟩ := Zz0.mp e1
 obtain ⟨e, h2, e1⟩ := Zz0.mp e1
 by_cases hs : SeqAt.shaped d = true ∧ SeqAt.shaped e = true
 ·rw [if_pos hs] at e1
  cases e1
  obtain ⟨as, R1⟩ := Zfo r Zb9 a x d hx h1
  obtain ⟨bs, R2⟩ := Zfo r Zb9 b y e hy h2
  exact ne_dataH R1 R2 hs.1 hs.2 (by have := Γ.hu; omega) (post W s.heap s.toks _ (.refl W) r (.bool _))
 ·rw [if_neg hs] at e1
  cases e1
theorem Zbh : Op2 prog w (compareOp .Is) oIs := by
 intro Γ W ρ H fr s Q E a b x y v H' r hx hy ho post
 cases hy <;> first | (cases hx <;> cases ho; done) | skip
 refine PySem.is_none ?_
 cases hx <;> (cases ho; exact post W s.heap s.toks _ (.refl W) r (.bool _))
theorem ZbL : Op2 prog w (compareOp .IsNot) Zbu := by
 intro Γ W ρ H fr s Q E a b x y v H' r hx hy ho post
 cases hy <;> first | (cases hx <;> cases ho; done) | skip
 refine PySem.isNot_none ?_
 cases hx <;> (cases ho; exact post W s.heap s.toks _ (.refl W) r (.bool _))
end
end PM
end
section
set_option autoImplicit false
namespace PM
open PySem PyProof.Rows PyProof
noncomputable def Zu : V → V → Hp → Option (V × Hp)
 | .ref a, .int k, H => H[a]?.bind fun vs => (seqIndex? k vs.length).bind fun j => vs[j]?.map fun v => (v, H)
 | .tup vs, .int k, H => (seqIndex? k vs.length).bind fun j => vs[j]?.map fun v => (v, H)
 | _, _, _ => none
theorem Zpa {k : Int} {n j : Nat} (h : seqIndex? k n = some j) : j < n ∧ (k : Int) < n ∧ -(n : Int) ≤ k ∧ (0 ≤ k → k.toNat = j) ∧ (k < 0 → (k + n).toNat = j) := by
 unfold seqIndex? at h
 by_cases c : k < 0
 ·simp only [c, if_true] at h
  split at h
  ·rename_i d
   simp at d h
   omega
  ·cases h
 ·simp only [c, if_false] at h
  split at h
  ·rename_i d
   simp at d h
   omega
  ·cases h
section
variable {prog : Program} {w : World} {Γ : Cx}
theorem Zx {e1 e2 : Expr} {pos : Pos} {f g : Ex} (h1 : J prog w Γ e1 f) (h2 : J prog w Γ e2 g) (hs : ∀ a k u, subscripted e2 false (.ref a) (.int k u) = operate [.ref a, .int k u] (getItem (.ref a) (.int k u)) := by intros; with_unfolding_all rfl) : J prog w Γ (.Subscript e1 e2 pos) (Zj Zu f g) := by
 intro W ρ H fr s Q E v H' r hf post
 obtain ⟨p, e1, hf⟩ := Zz0.mp hf
 obtain ⟨q, e2, e3⟩ := Zz0.mp hf
 refine Subscript_ (h1 W ρ H fr s _ E _ _ r e1 fun W1 k1 t1 x l1 r1 x1 => ?_)
 refine h2 W1 ρ _ fr _ _ E _ _ r1 e2 fun W2 k2 t2 y l2 r2 y2 => ?_
 have x2 := x1.mono l2
 obtain ⟨v1, H1⟩ := p
 obtain ⟨v2, H2⟩ := q
 simp only at e3 r2 x2 y2
 cases y2 <;> first | (cases x2 <;> cases e3; done) | skip
 rename_i k u
 cases x2 <;> first | (cases e3; done) | skip
 ·rename_i vs a xs kk hm hl hv
  obtain ⟨j, hj, e4⟩ := Zz0.mp e3
  obtain ⟨z, hz, e5⟩ := Zz1.mp e4
  cases e5
  obtain ⟨z', hz', rz⟩ := hv.at hz
  have hx : xs.length = vs.length := hv.length
  have hb := Zpa hj
  rw [Zbn] at hl
  have it : IsTup k2 a xs.toArray := ⟨_, r2.tupAt hm, rfl, kk, rfl⟩
  exact item_tupleT it (by omega) (by omega) (by rw [hx]; exact hj) hz' (post W2 k2 t2 z' (l1.trans l2) r2 rz) (hs _ _ _)
 ·rename_i i a ea
  obtain ⟨vs, hvs, e3⟩ := Zz0.mp e3
  obtain ⟨j, hj, e4⟩ := Zz0.mp e3
  obtain ⟨z, hz, e5⟩ := Zz1.mp e4
  cases e5
  obtain ⟨hl, xs, kk, hg, hv⟩ := r2.at hvs ea
  obtain ⟨z', hz', rz⟩ := hv.at hz
  have hx : xs.length = vs.length := hv.length
  have hb := Zpa hj
  rw [Zbn] at hl
  have isl : k2.IsList a xs.toArray := ⟨_, hg, rfl, kk, rfl⟩
  refine tail_any (s := { s with heap := k2, toks := t2 }) isl.typeIs slot_list_getitem.lookup ?_ (hs _ _ _)
  by_cases hk : 0 ≤ k
  ·exact wpAny_getItem_list isl hk (by omega) (by rw [hb.2.2.2.1 hk]; simpa using hz') (post W2 k2 t2 z' (l1.trans l2) r2 rz)
  ·refine wpAny_getItem_list_neg isl (by omega) (by simp; omega) (by omega) ?_ (post W2 k2 t2 z' (l1.trans l2) r2 rz)
   have := hb.2.2.2.2 (by omega)
   rw [← hx] at this
   simpa [this] using hz'
end
noncomputable def Zc9 {α : Type} (vs : List α) (lo hi : Option Int) : List α := (sliceRange (sliceBounds lo hi none vs.length).1 (sliceBounds lo hi none vs.length).2.1 (sliceBounds lo hi none vs.length).2.2).filterMap fun i => vs[i]?
theorem VRs.pick {W : Wd} {vs : List V} {xs : List Value} (h : VRs W vs xs) (l : List Nat) : VRs W (l.filterMap fun i => vs[i]?) (l.filterMap fun i => xs[i]?) := by
 induction l with
 | nil => exact .nil
 | cons i l ih =>
  simp only [List.filterMap_cons]
  have hl := h.length
  cases e : vs[i]? with
  | none =>
   have : xs[i]? = none := by rw [List.getElem?_eq_none_iff] at e ⊢; omega
   rw [this]
   exact ih
  | some v =>
   obtain ⟨x, hx, hr⟩ := h.at e
   rw [hx]
   exact .cons hr ih
theorem ZuH {α : Type} (vs : List α) (lo hi : Option Int) : (Zc9 vs lo hi).length ≤ vs.length := by
 unfold Zc9
 refine Nat.le_trans (List.length_filterMap_le _ _) ?_
 refine sliceRange_length_le _ _ _ _ (fun _ => ?_) fun c => ?_
 ·unfold sliceBounds
  cases lo <;> cases hi <;> simp <;> omega
 ·exact absurd (by unfold sliceBounds; simp) c
theorem ZuI {α : Type} (vs : List α) (a : Nat) : ∀ m : Nat, a + m ≤ vs.length → ((List.range m).map fun k => a + k).filterMap (fun i => vs[i]?) = (vs.drop a).take m := by
 intro m
 induction m with
 | zero => intro _; simp
 | succ m ih =>
  intro h
  rw [List.range_succ, List.map_append, List.filterMap_append, ih (by omega), List.take_add_one]
  congr 1
  simp only [List.map_cons, List.map_nil, List.filterMap_cons, List.filterMap_nil, List.getElem?_drop]
  cases e : vs[a + m]? with
  | none => rw [List.getElem?_eq_none_iff] at e; omega
  | some v => rfl
theorem ZqD {α : Type} (vs : List α) (lo hi : Option Int) {a b : Nat} (ha : (sliceBounds lo hi none vs.length).1 = (a : Int)) (hb : (sliceBounds lo hi none vs.length).2.1 = (b : Int)) (h : b ≤ vs.length) : Zc9 vs lo hi = (vs.drop a).take (b - a) := by
 have hc : (sliceBounds lo hi none vs.length).2.2 = 1 := by unfold sliceBounds; rfl
 unfold Zc9
 rw [ha, hb, hc]
 have e : sliceRange (a : Int) (b : Int) 1 = (List.range (b - a)).map fun k => a + k := by
  unfold sliceRange
  simp only [show (1 : Int) > 0 from by decide, if_true]
  by_cases c : (a : Int) < b
  ·rw [if_pos c]
   have : ((b : Int) - a + 1 - 1) / 1 = ((b - a : Nat) : Int) := by omega
   rw [this]
   simp only [Int.toNat_natCast]
   refine List.map_congr_left fun k _ => ?_
   omega
  ·rw [if_neg c]
   have : b - a = 0 := by omega
   rw [this]
   rfl
 rw [e]
 by_cases c : a ≤ b
 ·exact ZuI vs a (b - a) (by omega)
 ·have : b - a = 0 := by omega
  rw [this]
  simp
theorem Zt3 {α : Type} (vs : List α) {k : Int} {a : Nat} (e : k = (a : Int)) : Zc9 vs (some k) none = vs.drop a := by
 by_cases h : a ≤ vs.length
 ·rw [ZqD vs (some k) none (a := a) (b := vs.length) (by unfold sliceBounds; simp; omega) (by unfold sliceBounds; simp) (Zz10 _)]
  rw [List.take_of_length_le (by simp)]
 ·rw [ZqD vs (some k) none (a := vs.length) (b := vs.length) (by unfold sliceBounds; simp; omega) (by unfold sliceBounds; simp) (Zz10 _)]
  simp
  omega
noncomputable def Zg5 : Option V → Option (Option Int)
 | none => some none
 | some (.int k) => some (some k)
 | _ => none
noncomputable abbrev Pt := Lc → Hp → Option (Option V × Hp)
noncomputable def Zg6 : Pt := fun _ H => some (none, H)
noncomputable def Zor (f : Ex) : Pt := fun ρ H => (f ρ H).map fun p => (some p.1, p.2)
noncomputable def Zn6 (f : Ex) (lo hi : Pt) : Ex := fun ρ H => (f ρ H).bind fun p => (lo ρ p.2).bind fun q => (hi ρ q.2).bind fun u => (Zg5 q.1).bind fun a => (Zg5 u.1).bind fun b => match p.1 with
 | .ref i => u.2[i]?.bind fun vs => some (.ref u.2.length, u.2 ++ [Zc9 vs a b])
 | _ => none
inductive VP (W : Wd) : Option V → Value → Prop where
 | none : VP W none .none
 | some {v : V} {x : Value} : VR W v x → VP W (some v) x
theorem VP.mono {W W' : Wd} {v : Option V} {x : Value} (l : W.Le W') (h : VP W v x) : VP W' v x := by
 cases h with
 | none => exact .none
 | some h => exact .some (h.mono l)
theorem VP.part {W : Wd} {v : Option V} {x : Value} {k : Option Int} (h : VP W v x) (e : Zg5 v = Option.some k) : IsPart x k := by
 cases h with
 | none => cases e; exact .none
 | some h => cases h <;> cases e; exact .int _ _
noncomputable def JP (prog : Program) (w : World) (Γ : Cx) (e : Option Expr) (f : Pt) : Prop := ∀ (W : Wd) (ρ : Lc) (H : Hp) (fr : List (Addr × Obj)) (s : Shared) (Q E : Value → Shared → Prop) (v : Option V) (H' : Hp),
 Rep Γ W ρ H fr s.heap → f ρ H = some (v, H') → (∀ (W' : Wd) (h' : Heap) (tk' : Nat) (x : Value), W.Le W' → Rep Γ W' ρ H' fr h' → VP W' v x → Q x { s with heap := h', toks := tk' }) → wpAny (model prog w) Γ.A (evalPart e Γ.env) Q E s
section
variable {prog : Program} {w : World} {Γ : Cx}
theorem JP.none : JP prog w Γ none Zg6 := fun W ρ H fr s Q E v H' r hf post => by
 cases hf
 exact wpAny_evalPart_none (post W s.heap s.toks _ (.refl W) r .none)
theorem JP.some {e : Expr} {f : Ex} (h : J prog w Γ e f) : JP prog w Γ (some e) (Zor f) := fun W ρ H fr s Q E v H' r hf post => by
 obtain ⟨p, e1, e2⟩ := Zz1.mp hf
 cases e2
 exact wpAny_evalPart_some (h W ρ H fr s _ E _ _ r e1 fun W1 k1 t1 x l1 r1 x1 => post W1 k1 t1 x l1 r1 (.some x1))
theorem Zvu {e : Expr} {lo hi : Option Expr} {p pos : Pos} {f : Ex} {a b : Pt} (h : J prog w Γ e f) (hlo : JP prog w Γ lo a) (hhi : JP prog w Γ hi b) (ht : ∀ o r, letTemporaryGo e o r = pure () := by intro _ _; rfl) : J prog w Γ (.Subscript e (.Slice lo hi Option.none p) pos) (Zn6 f a b) := by
 intro W ρ H fr s Q E v H' r hf post
 obtain ⟨p, e1, hf⟩ := Zz0.mp hf
 obtain ⟨q, e2, hf⟩ := Zz0.mp hf
 obtain ⟨u, e3, hf⟩ := Zz0.mp hf
 obtain ⟨ka, e4, hf⟩ := Zz0.mp hf
 obtain ⟨kb, e5, hf⟩ := Zz0.mp hf
 refine wpAny_Subscript_list_slice (h W ρ H fr s _ E _ _ r e1 fun W1 k1 t1 x l1 r1 x1 => ?_) ht
 refine hlo W1 ρ _ fr _ _ E _ _ r1 e2 fun W2 k2 t2 y l2 r2 y2 => ?_
 refine hhi W2 ρ _ fr _ _ E _ _ r2 e3 fun W3 k3 t3 z l3 r3 z3 => ?_
 have x3 := x1.mono (l2.trans l3)
 obtain ⟨v1, H1⟩ := p
 simp only at hf x3
 cases x3 with
 | none => cases hf
 | bool _ => cases hf
 | int _ _ => cases hf
 | str _ _ => cases hf
 | tup _ _ _ => cases hf
 | @ref i a ea =>
  obtain ⟨vs, hvs, e6⟩ := Zz0.mp hf
  cases e6
  obtain ⟨hl, xs, kk, hg, hv⟩ := r3.at hvs ea
  have isl : k3.IsList a xs.toArray := ⟨_, hg, rfl, kk, rfl⟩
  refine ⟨a, xs.toArray, ka, kb, rfl, isl, Zdj (by simp [hv.length]; exact hl), (y2.mono l3).part e4, z3.part e5, ?_⟩
  have hp : VRs W3 (Zc9 vs ka kb) (Zc9 xs ka kb) := by
   unfold Zc9
   rw [hv.length]
   exact hv.pick _
  have hx : slicePick xs.toArray ka kb Option.none = (Zc9 xs ka kb).toArray := by
   unfold slicePick Zc9
   simp
  obtain ⟨W4, l4, r4, v4⟩ := (r3.push { cls := .type "slice", data := .fields #[y, z, .none] }).list (k := 0) hp (Nat.le_trans (ZuH vs ka kb) hl)
  rw [hx]
  have := post W4 _ t3 _ (((l1.trans l2).trans l3).trans l4) r4 v4
  rw [Heap.size_push] at this
  exact this
end
end PM
end
section
set_option autoImplicit false
namespace PM
open PySem PyProof.Rows PyProof
noncomputable def Nm (prog : Program) (w : World) (Γ : Cx) (x : Str) (v : Value) : Prop := ∀ (pos : Pos) (m : Str → Option Value) (s : Shared) (Q E : Value → Shared → Prop), Fr Γ.h₀ Γ.L s.heap m → Q v s → wpAny (model prog w) Γ.A (eval (.Name x pos) Γ.env) Q E s
theorem Nm.use {prog : Program} {w : World} {Γ : Cx} {x : Str} {y : Value} (h : Nm prog w Γ x y) {pos : Pos} {W : Wd} {ρ : Lc} {H : Hp} {fr : List (Addr × Obj)} {s : Shared} {Q E : Value → Shared → Prop} (r : Rep Γ W ρ H fr s.heap) (q : Q y s) : wpAny (model prog w) Γ.A (eval (.Name x pos) Γ.env) Q E s := by
 obtain ⟨m, c, led, r⟩ := r
 exact h pos m s Q E r.F q
noncomputable def OpN (prog : Program) (w : World) (m : List Value → Sem Value) (o : List V → Hp → Option (V × Hp)) : Prop := ∀ (Γ : Cx) (W : Wd) (ρ : Lc) (H : Hp) (fr : List (Addr × Obj)) (s : Shared) (Q E : Value → Shared → Prop) (as : List V) (xs : List Value) (v : V) (H' : Hp),
 Rep Γ W ρ H fr s.heap → VRs W as xs → o as H = some (v, H') → Zhb Γ W ρ H' fr s Q v → wpAny (model prog w) Γ.A (m xs) Q E s
noncomputable def Zv (o : List V → Hp → Option (V × Hp)) (g : Exs) : Ex := fun ρ H => (g ρ H).bind fun p => o p.1 p.2
section
variable {prog : Program} {w : World} {Γ : Cx}
theorem Zaw {x : Str} {np pos : Pos} {id : String} {e : Expr} {es : List Expr} {g : Exs} {o : List V → Hp → Option (V × Hp)} (hn : Nm prog w Γ x (.builtin id)) (h : Js prog w Γ (e :: es) g) (ho : OpN prog w (fun xs => call (.builtin id) xs) o)
  (he : starEach (e :: es) Γ.env = (false, eval e Γ.env) :: starEach es Γ.env := by rfl) (hp : ∀ pos, (backTo pos (starEach es Γ.env)).any (·.1) = false := by intro _; rfl) : J prog w Γ (.Call (.Name x np) (e :: es) [] pos) (Zv o g) := by
 intro W ρ H fr s Q E v H' r hf post
 obtain ⟨p, e1, hf⟩ := Zz0.mp hf
 refine wpAny_Call_ofName (hn.use r ?_)
 refine callWith_builtin1 (h pos W ρ H fr s _ E _ _ r e1 fun W1 k1 t1 xs l1 r1 x1 => ?_) he (hp pos)
 exact ho Γ W1 ρ _ fr _ Q E _ xs v H' r1 x1 hf fun W2 k2 t2 y l2 r2 y2 => post W2 k2 t2 y (l1.trans l2) r2 y2
theorem Zc3 {x : Str} {np pos : Pos} {T : String} {e : Expr} {es : List Expr} {g : Exs} {o : List V → Hp → Option (V × Hp)} (hn : Nm prog w Γ x (.type T)) (h : Js prog w Γ (e :: es) g) (ho : OpN prog w (fun xs => call (.type T) xs) o)
  (he : starEach (e :: es) Γ.env = (false, eval e Γ.env) :: starEach es Γ.env := by rfl) (hp : ∀ pos, (backTo pos (starEach es Γ.env)).any (·.1) = false := by intro _; rfl) : J prog w Γ (.Call (.Name x np) (e :: es) [] pos) (Zv o g) := by
 intro W ρ H fr s Q E v H' r hf post
 obtain ⟨p, e1, hf⟩ := Zz0.mp hf
 refine wpAny_Call_ofName (hn.use r ?_)
 refine PySem.Pv.callWith_type1 (h pos W ρ H fr s _ E _ _ r e1 fun W1 k1 t1 xs l1 r1 x1 => ?_) he (hp pos)
 exact ho Γ W1 ρ _ fr _ Q E _ xs v H' r1 x1 hf fun W2 k2 t2 y l2 r2 y2 => post W2 k2 t2 y (l1.trans l2) r2 y2
end
noncomputable def ZnC : V → String
 | .none => "NoneType"
 | .bool _ => "bool"
 | .int _ => "int"
 | .str _ => "str"
 | .tup _ => "tuple"
 | .ref _ => "list"
noncomputable def Zn7 (T : String) (v : V) : Bool := ZnC v == T || (T == "int" && ZnC v == "bool")
noncomputable def eIs (T : String) (f : Ex) : Ex := fun ρ H => (f ρ H).map fun p => (.bool (Zn7 T p.1), p.2)
section
variable {prog : Program} {w : World} {Γ : Cx}
theorem isinst {T : String} (hT : T = "int" ∨ T = "bool" ∨ T = "list" ∨ T = "tuple") {W : Wd} {ρ : Lc} {H : Hp} {fr : List (Addr × Obj)} {s : Shared} {Q E : Value → Shared → Prop} {a : V} {x : Value} (r : Rep Γ W ρ H fr s.heap) (hx : VR W a x) (hin : ∀ i, a = .ref i → i < H.length)
  (post : ∀ tk, Q (.bool (Zn7 T a)) { s with toks := tk }) : wpAny (model prog w) Γ.A (call (.builtin "isinstance") [x, .type T]) Q E s := by
 cases hx with
 | none =>
      rcases hT with e | e | e | e <;> subst e
      ·exact call_isinstance (isinstance_false_none (by decide +kernel) F.isi_meta_int (by rw [isSubtype_type]; kernel_rfl)) (post _)
      ·exact call_isinstance (isinstance_false_none (by decide +kernel) F.isi_meta_bool (by rw [isSubtype_type]; kernel_rfl)) (post _)
      ·exact call_isinstance (isinstance_false_none (by decide +kernel) F.isi_meta_list (by rw [isSubtype_type]; kernel_rfl)) (post _)
      ·exact call_isinstance (isinstance_false_none (by decide +kernel) F.isi_meta_tuple (by rw [isSubtype_type]; kernel_rfl)) (post _)
 | bool b =>
       rcases hT with e | e | e | e <;> subst e
       ·exact IsiPair.bool_int (post s.toks)
       ·exact IsiPair.bool_bool (post s.toks)
       ·exact IsiPair.bool_list (post _)
       ·exact IsiPair.bool_tuple (post _)
 | int i t =>
       rcases hT with e | e | e | e <;> subst e
       ·exact IsiPair.int_int (post s.toks)
       ·exact IsiPair.int_bool (post _)
       ·exact IsiPair.int_list (post _)
       ·exact IsiPair.int_tuple (post _)
 | str y t =>
       rcases hT with e | e | e | e <;> subst e
       ·exact IsiPair.str_int (post _)
       ·exact IsiPair.str_bool (post _)
       ·exact IsiPair.str_list (post _)
       ·exact IsiPair.str_tuple (post _)
 | tup hm hl hs =>
  have hg := r.tupAt hm
  rcases hT with e | e | e | e <;> subst e
  ·exact IsiPair.tuple_int hg rfl (post _)
  ·exact IsiPair.tuple_bool hg rfl (post _)
  ·exact IsiPair.tuple_list hg rfl (post _)
  ·exact IsiPair.tuple_tuple hg rfl (post s.toks)
 | @ref i a ea =>
  obtain ⟨hl, xs, k, hg, hv⟩ := r.at (List.getElem?_eq_getElem (hin i rfl)) ea
  rcases hT with e | e | e | e <;> subst e
  ·exact IsiPair.list_int hg rfl (post _)
  ·exact IsiPair.list_bool hg rfl (post _)
  ·exact IsiPair.list_list hg rfl (post s.toks)
  ·exact IsiPair.list_tuple hg rfl (post _)
end
theorem Rep.refIn {Γ : Cx} {W : Wd} {ρ : Lc} {H : Hp} {fr : List (Addr × Obj)} {h : Heap} {i : Nat} {x : Value} (r : Rep Γ W ρ H fr h) (hx : VR W (.ref i) x) : i < H.length := by
 obtain ⟨m, c, led, r⟩ := r
 cases hx with
 | ref e => rw [← r.R.len]; exact (Zz6.mp e).1
section
variable {prog : Program} {w : World} {Γ : Cx}
theorem ZdW {np tp pos : Pos} {x y : Str} {T : String} {e : Expr} {f : Ex} (hn : Nm prog w Γ x (.builtin "isinstance")) (hy : Nm prog w Γ y (.type T)) (hT : T = "int" ∨ T = "bool" ∨ T = "list" ∨ T = "tuple") (h : J prog w Γ e f)
  (he : starEach [e, .Name y tp] Γ.env = (false, eval e Γ.env) :: starEach [.Name y tp] Γ.env := by rfl) (hp : ∀ pos, (backTo pos (starEach [.Name y tp] Γ.env)).any (·.1) = false := by intro _; rfl) : J prog w Γ (.Call (.Name x np) [e, .Name y tp] [] pos) (eIs T f) := by
 intro W ρ H fr s Q E v H' r hf post
 obtain ⟨p, e1, e2⟩ := Zz1.mp hf
 cases e2
 refine wpAny_Call_ofName (hn.use r ?_)
 refine callWith_builtin1 (wpAny_items_cons (h W ρ H fr s _ E _ _ r e1 fun W1 k1 t1 z l1 r1 z1 => ?_) he) he (hp pos)
 refine wpAny_items_cons (hy.use (s := { s with heap := k1, toks := t1 }) r1 ?_)
 refine wpAny_items_nil ?_
 exact PM.isinst hT r1 z1 (fun i e => by rw [e] at z1; exact r1.refIn z1) fun tk => post W1 k1 tk _ l1 r1 (.bool _)
end
noncomputable def ZaK : List V → Hp → Option (V × Hp)
 | [.ref a], H => H[a]?.map fun vs => (.int vs.length, H)
 | [.tup vs], H => some (.int vs.length, H)
 | _, _ => none
noncomputable def Zdd : List V → Hp → Option (V × Hp)
 | [.int a], H => some (.int (if a < 0 then -a else a), H)
 | _, _ => none
noncomputable def Zye : List V → Hp → Option (V × Hp)
 | [.int a, .int b], H => some (.int (if b > a then b else a), H)
 | _, _ => none
noncomputable def Zjh : List V → Hp → Option (V × Hp)
 | [.int a, .int b], H => some (.int (if b < a then b else a), H)
 | _, _ => none
noncomputable def ZdG : List V → Option (List Int)
 | [] => some []
 | .int k :: vs => (ZdG vs).map fun ks => k :: ks
 | _ :: _ => none
noncomputable def Zhc : List V → Hp → Option (V × Hp)
 | [.ref a], H => H[a]?.bind fun vs => (ZdG vs).map fun ks => (.int ks.sum, H)
 | _, _ => none
theorem VRs.one {W : Wd} {v : V} {xs : List Value} (h : VRs W [v] xs) : ∃ x, xs = [x] ∧ VR W v x := by
 cases h with
 | cons a b => cases b; exact ⟨_, rfl, a⟩
theorem VRs.two {W : Wd} {v u : V} {xs : List Value} (h : VRs W [v, u] xs) : ∃ x y, xs = [x, y] ∧ VR W v x ∧ VR W u y := by
 cases h with
 | cons a b => obtain ⟨y, e, r⟩ := b.one; subst e; exact ⟨_, _, rfl, a, r⟩
theorem ZsQ {W : Wd} : ∀ {vs : List V} {xs : List Value} {ks : List Int}, VRs W vs xs → ZdG vs = some ks → ∃ ts : Array (Int × Tok), xs.toArray = intItems ts ∧ preSum (numAt ts) ts.size = ks.sum := by
 have key : ∀ {vs : List V} {xs : List Value} {ks : List Int}, VRs W vs xs → ZdG vs = some ks → ∃ ts : List (Int × Tok), xs = ts.map (fun p => Value.int p.1 p.2) ∧ ts.map (·.1) = ks := by
  intro vs
  induction vs with
  | nil => intro xs ks h e; cases h; cases e; exact ⟨[], rfl, rfl⟩
  | cons v vs ih =>
   intro xs ks h e
   cases h with
   | cons a b =>
    cases v with
    | int i =>
     obtain ⟨js, e1, e2⟩ := Zz1.mp e
     subst e2
     cases a with
     | int _ t =>
      obtain ⟨ts, h1, h2⟩ := ih b e1
      exact ⟨(i, t) :: ts, by rw [h1]; rfl, by rw [List.map_cons, h2]⟩
    | none => cases e
    | bool _ => cases e
    | str _ => cases e
    | tup _ => cases e
    | ref _ => cases e
 intro vs xs ks h e
 obtain ⟨ts, h1, h2⟩ := key h e
 refine ⟨ts.toArray, by rw [h1]; simp [intItems], ?_⟩
 rw [preSum_eq, List.take_of_length_le (by simp), ← h2]
noncomputable def Zai : V → V → Hp → Option (V × Hp)
 | .int a, .int b, H => some (.int (a + b), H)
 | .ref a, .ref b, H => H[a]?.bind fun vs => H[b]?.bind fun us => if (vs ++ us).length ≤ LEN then some (.ref H.length, H ++ [vs ++ us]) else none
 | .tup vs, .tup us, H => if (vs ++ us).length ≤ LEN then some (.tup (vs ++ us), H) else none
 | _, _, _ => none
noncomputable def ZeZ (vs : List V) : Nat → List V
 | 0 => []
 | n + 1 => ZeZ vs n ++ vs
noncomputable def ZaY : V → V → Hp → Option (V × Hp)
 | .int a, .int b, H => if mulOk a b = true then some (.int (a * b), H) else none
 | .ref a, .int k, H => H[a]?.bind fun vs => if vs.length * k.toNat ≤ LEN ∧ -(2 ^ 63 : Int) ≤ k ∧ k < 2 ^ 63 then some (.ref H.length, H ++ [ZeZ vs k.toNat]) else none
 | _, _, _ => none
section
variable {prog : Program} {w : World}
theorem ZaX : OpN prog w (fun xs => call (.builtin "len") xs) ZaK := by
 intro Γ W ρ H fr s Q E as xs v H' r hx ho post
 unfold ZaK at ho
 split at ho
 ·rename_i a
  obtain ⟨vs, e1, e2⟩ := Zz1.mp ho
  cases e2
  obtain ⟨x, ex, rx⟩ := hx.one
  subst ex
  cases rx with
  | ref ea =>
   obtain ⟨hl, ys, k, hg, hv⟩ := r.at e1 ea
   have isl : s.heap.IsList _ ys.toArray := ⟨_, hg, rfl, k, rfl⟩
   have e3 : (ys.toArray.size : Int) = vs.length := by simp [hv.length]
   rw [Zbn] at hl
   refine Calls.call_len_list isl (by rw [e3]; omega) ?_
   rw [e3]
   exact post W s.heap _ _ (.refl W) r (.int _ _)
 ·rename_i vs
  cases ho
  obtain ⟨x, ex, rx⟩ := hx.one
  subst ex
  cases rx with
  | @tup _ a ys k hm hl hs =>
   have it : IsTup s.heap a ys.toArray := ⟨_, r.tupAt hm, rfl, k, rfl⟩
   have e3 : (ys.toArray.size : Int) = vs.length := by simp [hs.length]
   rw [Zbn] at hl
   refine len_tuple it (by rw [e3]; omega) ?_
   rw [e3]
   exact post W s.heap _ _ (.refl W) r (.int _ _)
 ·cases ho
theorem Zd2 : OpN prog w (fun xs => call (.builtin "abs") xs) Zdd := by
 intro Γ W ρ H fr s Q E as xs v H' r hx ho post
 unfold Zdd at ho
 split at ho
 ·cases ho
  obtain ⟨x, ex, rx⟩ := hx.one
  subst ex
  cases rx with
  | int i t => exact call_abs_int fun u tk => post W s.heap tk _ (.refl W) r (.int _ _)
 ·cases ho
theorem Zvv : OpN prog w (fun xs => call (.builtin "min") xs) Zjh := by
 intro Γ W ρ H fr s Q E as xs v H' r hx ho post
 unfold Zjh at ho
 split at ho
 ·cases ho
  obtain ⟨x, y, ex, rx, ry⟩ := hx.two
  subst ex
  cases rx with
  | int i t =>
   cases ry with
   | int j u =>
    refine min_two_ints Γ.hh fun h' tk up => ?_
    split
    ·rename_i c
     rw [if_pos c] at post
     exact post W h' tk _ (.refl W) (r.grown up) (.int _ _)
    ·rename_i c
     rw [if_neg c] at post
     exact post W h' tk _ (.refl W) (r.grown up) (.int _ _)
 ·cases ho
theorem ZwJ : OpN prog w (fun xs => call (.builtin "sum") xs) Zhc := by
 intro Γ W ρ H fr s Q E as xs v H' r hx ho post
 unfold Zhc at ho
 split at ho
 ·obtain ⟨vs, e1, e2⟩ := Zz0.mp ho
  obtain ⟨ks, e3, e4⟩ := Zz1.mp e2
  cases e4
  obtain ⟨x, ex, rx⟩ := hx.one
  subst ex
  cases rx with
  | ref ea =>
   obtain ⟨hl, ys, k, hg, hv⟩ := r.at e1 ea
   obtain ⟨ts, h1, h2⟩ := ZsQ hv e3
   have isl : s.heap.IsList _ (intItems ts) := ⟨_, hg, rfl, k, by rw [← h1]⟩
   refine sum_intListG Γ.hh isl fun h' tk t' up => ?_
   rw [h2]
   exact post W h' tk _ (.refl W) (r.grown up) (.int _ _)
 ·cases ho
theorem Zal : Op2 prog w (binaryOp .Add) Zai := by
 intro Γ W ρ H fr s Q E a b x y v H' r hx hy ho post
 unfold Zai at ho
 split at ho
 ·cases ho
  cases hx; cases hy
  exact PySem.P.add_int (post W s.heap _ _ (.refl W) r (.int _ _))
 ·obtain ⟨vs, e1, ho⟩ := Zz0.mp ho
  obtain ⟨us, e2, ho⟩ := Zz0.mp ho
  by_cases hl : (vs ++ us).length ≤ LEN
  ·rw [if_pos hl] at ho
   cases ho
   cases hx with
   | ref ea =>
   cases hy with
   | ref eb =>
   obtain ⟨l1, ys, k, hg, hv⟩ := r.at e1 ea
   obtain ⟨l2, zs, k2, hg2, hv2⟩ := r.at e2 eb
   obtain ⟨m, c, led, r'⟩ := r
   have i1 : s.heap.IsList _ ys.toArray := ⟨_, hg, rfl, k, rfl⟩
   have i2 : s.heap.IsList _ zs.toArray := ⟨_, hg2, rfl, k2, rfl⟩
   refine add_lists (hsz := Zdj (by rw [hv.length, hv2.length, ← List.length_append]; exact hl)) r'.F r'.N i1 i2 fun h' F' N' => ?_
   obtain ⟨W2, le2, r2, v2⟩ := r'.newList F' N' r'.off (hv.append hv2) hl
   exact post W2 h' s.toks _ le2 r2 v2
  ·rw [if_neg hl] at ho
   cases ho
 ·rename_i vs us
  by_cases hl : (vs ++ us).length ≤ LEN
  ·rw [if_pos hl] at ho
   cases ho
   cases hx with
   | @tup _ a ys k hm h1 hv =>
   cases hy with
   | @tup _ b zs k2 hm2 h2 hv2 =>
   have t1 : IsTup s.heap a ys.toArray := ⟨_, r.tupAt hm, rfl, k, rfl⟩
   have t2 : IsTup s.heap b zs.toArray := ⟨_, r.tupAt hm2, rfl, k2, rfl⟩
   have r0 := r
   obtain ⟨m, c, led, r'⟩ := r
   refine add_tuples (hsz := Zdj (by rw [hv.length, hv2.length, ← List.length_append]; exact hl)) r'.F r'.N t1 t2 (fun e => ?_) (fun _ e => ?_) fun _ _ h' F' N' => ?_
   ·have : vs = [] := List.length_eq_zero_iff.mp (by rw [← hv.length, e]; rfl)
    subst this
    exact post W s.heap s.toks _ (.refl W) r0 (.tup hm2 h2 hv2)
   ·have : us = [] := List.length_eq_zero_iff.mp (by rw [← hv2.length, e]; rfl)
    subst this
    rw [List.append_nil] at post
    exact post W s.heap s.toks _ (.refl W) r0 (.tup hm h1 hv)
   ·obtain ⟨W2, le2, r2, v2⟩ := r'.newTup F' N' r'.off (hv.append hv2) hl
    exact post W2 h' s.toks _ le2 r2 v2
  ·rw [if_neg hl] at ho
   cases ho
 ·cases ho
theorem Zp5 (vs : List V) : ∀ n, (ZeZ vs n).length = vs.length * n
 | 0 => rfl
 | n + 1 => by rw [ZeZ, List.length_append, Zp5 vs n, Nat.mul_succ]
theorem Zt4 (xs : List Value) (n : Nat) : ∀ acc : Array Value, (List.foldl (fun x1 x2 => x1 ++ x2) acc (List.replicate n xs.toArray)) = acc ++ (List.replicate n xs).flatten.toArray := by
 induction n with
 | zero => intro acc; simp
 | succ n ih =>
  intro acc
  rw [List.replicate_succ, List.foldl_cons, ih, List.replicate_succ, List.flatten_cons]
  simp [Array.append_assoc]
theorem ZqE {W : Wd} {vs : List V} {xs : List Value} (h : VRs W vs xs) : ∀ n, VRs W (ZeZ vs n) (List.replicate n xs).flatten
 | 0 => .nil
 | n + 1 => by
  rw [ZeZ, List.replicate_succ', List.flatten_append]
  simp only [List.flatten_cons, List.flatten_nil, List.append_nil]
  exact (ZqE h n).append h
theorem Za7 : Op2 prog w (binaryOp .Mult) ZaY := by
 intro Γ W ρ H fr s Q E a b x y v H' r hx hy ho post
 unfold ZaY at ho
 split at ho
 ·rename_i i j
  by_cases hm : mulOk i j = true
  ·rw [if_pos hm] at ho
   cases ho
   cases hx; cases hy
   exact PySem.P.mul_int (post W s.heap _ _ (.refl W) r (.int _ _)) (ZuG hm)
  ·rw [if_neg hm] at ho
   cases ho
 ·rename_i i k
  obtain ⟨vs, e1, ho⟩ := Zz0.mp ho
  by_cases hc : vs.length * k.toNat ≤ LEN ∧ -(2 ^ 63 : Int) ≤ k ∧ k < 2 ^ 63
  ·rw [if_pos hc] at ho
   cases ho
   cases hx with
   | ref ea =>
   cases hy with
   | int _ u =>
   obtain ⟨l1, ys, kk, hg, hv⟩ := r.at e1 ea
   obtain ⟨m, c, led, r'⟩ := r
   have hl := hc.1
   rw [Zbn] at hl
   refine mul_list r'.F r'.N hg hc.2.1 hc.2.2 (by rw [List.size_toArray, hv.length]; omega) fun h' F' N' => ?_
   have e2 : (List.foldl (fun x1 x2 => x1 ++ x2) #[] (List.replicate (if ys.toArray.isEmpty = true then 0 else k.toNat) ys.toArray)) = (List.replicate k.toNat ys).flatten.toArray := by
    cases ys with
    | nil =>
     simp
    | cons y0 ys0 =>
     have : ((y0 :: ys0).toArray.isEmpty = true) = False := by simp
     simp only [this, if_false]
     rw [Zt4]
     simp
   rw [e2] at N'
   obtain ⟨W2, le2, r2, v2⟩ := r'.newList F' N' r'.off (ZqE hv k.toNat) (by rw [Zp5]; exact hc.1)
   exact post W2 h' s.toks _ le2 r2 v2
  ·rw [if_neg hc] at ho
   cases ho
 ·cases ho
end
end PM
end
section
set_option autoImplicit false
namespace PM
open PySem PyProof.Rows PyProof
noncomputable def upd (ρ : Lc) (i : Nat) (v : V) : Lc := fun j => if j = i then some v else ρ j
noncomputable abbrev Sm := Lc → Hp → Option (Option V × Lc × Hp)
noncomputable def Z2 : Sm := fun ρ H => some (none, ρ, H)
noncomputable def Zw (a b : Sm) : Sm := fun ρ H => (a ρ H).bind fun p => match p.1 with
 | some _ => some p
 | none => b p.2.1 p.2.2
noncomputable def ZH (f : Ex) : Sm := fun ρ H => (f ρ H).map fun p => (some p.1, ρ, p.2)
noncomputable def ZO (i : Nat) (f : Ex) : Sm := fun ρ H => (f ρ H).map fun p => (none, upd ρ i p.1, p.2)
noncomputable def ZX (t : Ts) (a b : Sm) : Sm := fun ρ H => (t ρ H).bind fun p => if p.1 then a ρ p.2 else b ρ p.2
noncomputable def ZcA (f : Ex) : Sm := fun ρ H => (f ρ H).map fun p => (none, ρ, p.2)
noncomputable def ZoB : V → V → V → Hp → Option Hp
 | .ref a, .int k, v, H => H[a]?.bind fun vs => if a ≠ 0 ∧ 0 ≤ k ∧ k < vs.length then some (H.set a (vs.set k.toNat v)) else none
 | _, _, _, _ => none
noncomputable def ZbJ (f o i : Ex) : Sm := fun ρ H => (f ρ H).bind fun p => (o ρ p.2).bind fun q => (i ρ q.2).bind fun u => (ZoB q.1 u.1 p.1 u.2).map fun K => (none, ρ, K)
noncomputable def Zc5 (t : Ts) (b : Sm) : Nat → Sm
 | 0 => fun _ _ => none
 | n + 1 => fun ρ H => (t ρ H).bind fun p => if p.1 then (b ρ p.2).bind fun q => (match q.1 with
   | some _ => some q
   | none => Zc5 t b n q.2.1 q.2.2) else some (none, ρ, p.2)
noncomputable def PostS (Γ : Cx) (W : Wd) (fr : List (Addr × Obj)) (s : Shared) (Q : Flow → Shared → Prop) : Option V × Lc × Hp → Prop
 | (none, ρ', H') => ∀ (W' : Wd) (h' : Heap) (tk' : Nat), W.Le W' → Rep Γ W' ρ' H' fr h' → Q .next { s with heap := h', toks := tk' }
 | (some v, ρ', H') => ∀ (W' : Wd) (h' : Heap) (tk' : Nat) (x : Value), W.Le W' → Rep Γ W' ρ' H' fr h' → VR W' v x → Q (.ret x) { s with heap := h', toks := tk' }
theorem PostS.le {Γ : Cx} {W W' : Wd} {fr : List (Addr × Obj)} {s : Shared} {h : Heap} {tk : Nat} {Q : Flow → Shared → Prop} {r : Option V × Lc × Hp} (l : W.Le W') (p : PostS Γ W fr s Q r) : PostS Γ W' fr { s with heap := h, toks := tk } Q r := by
 obtain ⟨o, ρ', H'⟩ := r
 cases o with
 | none => exact fun W2 h2 t2 l2 r2 => p W2 h2 t2 (l.trans l2) r2
 | some v => exact fun W2 h2 t2 x l2 r2 x2 => p W2 h2 t2 x (l.trans l2) r2 x2
section
variable (prog : Program) (w : World)
noncomputable def S1 (Γ : Cx) (st : Stmt) (g : Sm) : Prop := ∀ (W : Wd) (ρ : Lc) (H : Hp) (fr : List (Addr × Obj)) (s : Shared) (Q : Flow → Shared → Prop) (E : Value → Shared → Prop) (r : Option V × Lc × Hp),
 Rep Γ W ρ H fr s.heap → g ρ H = some r → PostS Γ W fr s Q r → wpAny (model prog w) Γ.A (exec st Γ.env) Q E s
noncomputable def Ss (Γ : Cx) (ss : List Stmt) (g : Sm) : Prop := ∀ (W : Wd) (ρ : Lc) (H : Hp) (fr : List (Addr × Obj)) (s : Shared) (Q : Flow → Shared → Prop) (E : Value → Shared → Prop) (r : Option V × Lc × Hp),
 Rep Γ W ρ H fr s.heap → g ρ H = some r → PostS Γ W fr s Q r → wpAny (model prog w) Γ.A (execs ss Γ.env) Q E s
noncomputable def Sto (Γ : Cx) (x : Str) (i : Nat) : Prop := ∀ (W : Wd) (ρ : Lc) (H : Hp) (fr : List (Addr × Obj)) (s : Shared) (Q : Unit → Shared → Prop) (E : Value → Shared → Prop) (v : V) (y : Value),
 Rep Γ W ρ H fr s.heap → VR W v y → (∀ (h' : Heap) (tk' : Nat), Rep Γ W (upd ρ i v) H fr h' → Q () { s with heap := h', toks := tk' }) → wpAny (model prog w) Γ.A (storeName Γ.env x y) Q E s
noncomputable def Rd (Γ : Cx) (x : Str) (i : Nat) : Prop := ∀ (W : Wd) (ρ : Lc) (H : Hp) (fr : List (Addr × Obj)) (s : Shared) (Q E : Value → Shared → Prop) (v : V) (pos : Pos),
 Rep Γ W ρ H fr s.heap → ρ i = some v → (∀ y, VR W v y → Q y s) → wpAny (model prog w) Γ.A (eval (.Name x pos) Γ.env) Q E s
end
section
variable {prog : Program} {w : World} {Γ : Cx}
theorem Zji {x : Str} {i : Nat} {pos : Pos} (h : Rd prog w Γ x i) : J prog w Γ (.Name x pos) (Zb i) := by
 intro W ρ H fr s Q E v H' r hf post
 obtain ⟨u, e1, e2⟩ := Zz1.mp hf
 cases e2
 exact h W ρ H fr s Q E v pos r e1 fun y hy => post W s.heap s.toks y (.refl W) r hy
theorem Z6 : Ss prog w Γ [] Z2 := fun W ρ H fr s Q E r rp hf post => by
 cases hf
 exact wpAny_execs_nil (post W s.heap s.toks (.refl W) rp)
theorem Zy {st : Stmt} {ss : List Stmt} {a b : Sm} (h1 : S1 prog w Γ st a) (h2 : Ss prog w Γ ss b) : Ss prog w Γ (st :: ss) (Zw a b) := by
 intro W ρ H fr s Q E r rp hf post
 obtain ⟨p, e1, hf⟩ := Zz0.mp hf
 refine wpAny_execs_cons (h1 W ρ H fr s _ E p rp e1 ?_)
 obtain ⟨o, ρ1, H1⟩ := p
 cases o with
 | some v =>
  cases hf
  exact fun W1 k1 t1 x l1 r1 x1 => post W1 k1 t1 x l1 r1 x1
 | none => exact fun W1 k1 t1 l1 r1 => h2 W1 ρ1 H1 fr _ Q E r r1 hf (post.le l1)
theorem ZC {st : Stmt} {a : Sm} (h1 : S1 prog w Γ st a) : Ss prog w Γ [st] a := by
 intro W ρ H fr s Q E r rp hf post
 refine wpAny_execs_cons (h1 W ρ H fr s _ E r rp hf ?_)
 obtain ⟨o, ρ1, H1⟩ := r
 cases o with
 | some v => exact fun W1 k1 t1 x l1 r1 x1 => post W1 k1 t1 x l1 r1 x1
 | none => exact fun W1 k1 t1 l1 r1 => wpAny_execs_nil (post W1 k1 t1 l1 r1)
theorem ZM {e : Expr} {pos : Pos} {f : Ex} (h : J prog w Γ e f) : S1 prog w Γ (.Return (some e) pos) (ZH f) := by
 intro W ρ H fr s Q E r rp hf post
 obtain ⟨p, e1, e2⟩ := Zz1.mp hf
 cases e2
 exact wpAny_Return_some (h W ρ H fr s _ E _ _ rp e1 post)
theorem Z3 {t : Expr} {a b : List Stmt} {pos : Pos} {u : Ts} {f g : Sm} (ht : JT prog w Γ t u) (h1 : Ss prog w Γ a f) (h2 : Ss prog w Γ b g) : S1 prog w Γ (.If t a b pos) (ZX u f g) := by
 intro W ρ H fr s Q E r rp hf post
 obtain ⟨p, e1, hf⟩ := Zz0.mp hf
 refine wpAny_If (ht W ρ H fr s _ E _ _ rp e1 fun W1 k1 t1 l1 r1 => ?_)
 obtain ⟨c, H1⟩ := p
 cases c with
 | true => exact h1 W1 ρ H1 fr _ Q E r r1 hf (post.le l1)
 | false => exact h2 W1 ρ H1 fr _ Q E r r1 hf (post.le l1)
theorem Zd3 {e : Expr} {pos : Pos} {f : Ex} (h : J prog w Γ e f) (hi : interactive Γ.env = false := by rfl) (hs : swapsWith e none pos.line Γ.env = pure false := by rfl) : S1 prog w Γ (.Expr e pos) (ZcA f) := by
 intro W ρ H fr s Q E r rp hf post
 obtain ⟨p, e1, e2⟩ := Zz1.mp hf
 cases e2
 exact wpAny_Expr_any (h W ρ H fr s _ E _ _ rp e1 fun W1 k1 t1 x l1 r1 x1 => post W1 k1 t1 l1 r1) hi hs
theorem ZU {x : Str} {i : Nat} {e : Expr} {pos' pos : Pos} {f : Ex} (hx : Sto prog w Γ x i) (h : J prog w Γ e f) (hs : swapsWith e (some (.Name x pos')) pos.line Γ.env = pure false := by rfl) : S1 prog w Γ (.Assign [.Name x pos'] e pos) (ZO i f) := by
 intro W ρ H fr s Q E r rp hf post
 obtain ⟨p, e1, e2⟩ := Zz1.mp hf
 cases e2
 refine wpAny_Assign_Name (h W ρ H fr s _ E _ _ rp e1 fun W1 k1 t1 y l1 r1 y1 => ?_) hs
 exact hx W1 ρ _ fr _ _ E _ y r1 y1 fun h' tk' r2 => post W1 h' tk' l1 r2
theorem ZgE {t : Expr} {a : List Stmt} {pos : Pos} {u : Ts} {f : Sm} (n : Nat) (ht : JT prog w Γ t u) (h1 : Ss prog w Γ a f) : S1 prog w Γ (.While t a [] pos) (Zc5 u f n) := by
 intro W ρ H fr s Q E r rp hf post
 refine wpAny_While ?_
 refine codeAny_whileLoop (fun k s' => ∃ W' ρ' H' h' tk', s' = { s with heap := h', toks := tk' } ∧ W.Le W' ∧ Rep Γ W' ρ' H' fr h' ∧ Zc5 u f k ρ' H' = some r) ?_ n ⟨W, ρ, H, s.heap, s.toks, rfl, .refl W, rp, hf⟩
 rintro k s' ⟨W1, ρ1, H1, k1, t1, rfl, l1, r1, e⟩
 cases k with
 | zero => cases e
 | succ k =>
  obtain ⟨p, e1, e⟩ := Zz0.mp e
  refine ht W1 ρ1 H1 fr _ _ _ _ _ r1 e1 fun W2 k2 t2 l2 r2 => ?_
  obtain ⟨c, H2⟩ := p
  cases c with
  | false =>
   cases e
   exact wpAny_execs_nil (post W2 k2 t2 (l1.trans l2) r2)
  | true =>
   obtain ⟨q, e2, e⟩ := Zz0.mp e
   refine h1 W2 ρ1 H2 fr _ _ _ q r2 e2 ?_
   obtain ⟨o, ρ3, H3⟩ := q
   cases o with
   | some v =>
    cases e
    exact fun W3 k3 t3 x l3 r3 x3 => post W3 k3 t3 x ((l1.trans l2).trans l3) r3 x3
   | none => exact fun W3 k3 t3 l3 r3 => ⟨k, Nat.lt_succ_self k, W3, ρ3, H3, k3, t3, rfl, (l1.trans l2).trans l3, r3, e⟩
end
noncomputable def ZgK : List V → Hp → Option (V × Hp)
 | [.ref a, v], H => H[a]?.bind fun vs => if a ≠ 0 ∧ vs.length < LEN then some (.none, H.set a (vs ++ [v])) else none
 | _, _ => none
section
variable {prog : Program} {w : World} {Γ : Cx}
theorem Zt5 : OpN prog w (fun xs => call (.builtin "list.append") xs) ZgK := by
 intro Γ W ρ H fr s Q E as xs v H' r hx ho post
 unfold ZgK at ho
 split at ho
 ·obtain ⟨vs, e1, e2⟩ := Zz0.mp ho
  obtain ⟨x, y, ex, rx, ry⟩ := hx.two
  subst ex
  split at e2
  ·rename_i hl
   cases e2
   cases rx with
   | @ref _ a0 ea =>
    obtain ⟨_, ys, k, hg, hv⟩ := r.at e1 ea
    refine append_at (hsz := Zdj (by rw [List.size_toArray, hv.length]; omega)) hg fun h' sb hg' => ?_
    have hg2 : h'.get? a0 = some (Zb8 (ys ++ [y]) (k + 1)) := by rw [hg']; simp
    exact post W h' s.toks _ (.refl W) (r.change hl.1 e1 ea sb hg2 (hv.snoc ry) (by simp; omega)) .none
  ·cases e2
 ·cases ho
end
end PM
end
section
set_option autoImplicit false
namespace PM
open PySem PySem.W PyProof.Rows PyProof
theorem ZqF : ∀ {l : List Value} {k : Nat} {v : Value}, k < l.length → ki_setL l k v = some (l.set k v)
 | [], _, _, h => by simp at h
 | x :: r, 0, v, _ => by simp [ki_setL]
 | x :: r, k + 1, v, h => by
  have := ZqF (l := r) (k := k) (v := v) (by simpa using h)
  simp [ki_setL, this]
theorem Zt6 {a k v : V} {H K : Hp} (h : ZoB a k v H = some K) : ∃ i j vs, a = .ref i ∧ k = .int j ∧ H[i]? = some vs ∧ (i ≠ 0 ∧ 0 ≤ j ∧ j < vs.length) ∧ K = H.set i (vs.set j.toNat v) := by
 cases a <;> first | (cases h; done) | skip
 cases k <;> first | (cases h; done) | skip
 obtain ⟨vs, e1, e2⟩ := Zz0.mp h
 split at e2
 ·rename_i c
  cases e2
  exact ⟨_, _, vs, rfl, rfl, e1, c, rfl⟩
 ·cases e2
theorem ZsR {a v x : V} {H K : Hp} (h : ZgK [a, v] H = some (x, K)) : ∃ i, a = .ref i := by
 cases a <;> first | (cases h; done) | skip
 exact ⟨_, rfl⟩
noncomputable def ZeJ (o f : Ex) : Ex := fun ρ H => (o ρ H).bind fun p => (f ρ p.2).bind fun q => ZgK [p.1, q.1] q.2
section
variable {prog : Program} {w : World} {Γ : Cx}
theorem S1.put {o i value : Expr} {pos' pos : Pos} {f g k : Ex} (hf : J prog w Γ value f) (ho : J prog w Γ o g) (hi : J prog w Γ i k) (hs : swapsWith value (some (.Subscript o i pos')) pos.line Γ.env = pure false := by rfl) : S1 prog w Γ (.Assign [.Subscript o i pos'] value pos) (ZbJ f g k) := by
 intro W ρ H fr s Q E r rp hx post
 obtain ⟨p, e1, hx⟩ := Zz0.mp hx
 obtain ⟨q, e2, hx⟩ := Zz0.mp hx
 obtain ⟨u, e3, hx⟩ := Zz0.mp hx
 obtain ⟨K, e4, e5⟩ := Zz1.mp hx
 cases e5
 refine wpAny_Assign_Subscript (hf W ρ H fr s _ E _ _ rp e1 fun W1 k1 t1 x l1 r1 x1 => ?_) hs
 refine ho W1 ρ _ fr _ _ E _ _ r1 e2 fun W2 k2 t2 y l2 r2 y2 => ?_
 refine hi W2 ρ _ fr _ _ E _ _ r2 e3 fun W3 k3 t3 z l3 r3 z3 => ?_
 have x3 := x1.mono (l2.trans l3)
 have y3 := y2.mono l3
 obtain ⟨b, kk, vs, eb, ek, hvs, hc, e6⟩ := Zt6 e4
 subst e6
 rw [eb] at y3
 rw [ek] at z3
 cases y3 with
 | @ref _ a ea =>
 cases z3 with
 | int _ tz =>
 obtain ⟨hl, xs, n, hg, hv⟩ := r3.at hvs ea
 obtain ⟨m, c, led, r'⟩ := r3
 have hll := hl
 rw [Zbn] at hll
 have hk : kk.toNat < xs.length := by rw [hv.length]; omega
 obtain ⟨_, a', xs', n', h1, h2, h3⟩ := r'.R.lists b vs hvs
 rw [ea] at h1
 cases h1
 have h2 := r'.inLed hc.1 ea h2
 have N2 : News Γ.h₀ Γ.L k3 ((a, Zb8 xs n) :: led.filter (fun q => decide (q.1 ≠ a))) := by
  intro q hq
  rcases Zz7.mp hq with e | hq
  ·subst e
   exact ⟨hg, (r'.N _ h2).2⟩
  ·exact r'.N q (List.mem_filter.mp hq).1
 refine ki_set (its := xs.toArray) (n := n) (q := xs.set kk.toNat x) r'.F N2 hc.2.1 (by omega) (by simpa using ZqF hk) (Upd.head fun q hq => by simpa using (List.mem_filter.mp hq).2) fun h' F' N' => ?_
 exact post W3 h' t3 ((l1.trans l2).trans l3) (r'.changed hc.1 hvs ea F' N' (hv.set _ x3) (by simpa using hl))
theorem J.append {o e : Expr} {apos pos : Pos} {f g : Ex} (ho : J prog w Γ o f) (he : J prog w Γ e g) (hbase : attributeBase o "append" Γ.env (eval o Γ.env) = eval o Γ.env := by rfl)
  (hfew : ((backTo pos (starEach [e] Γ.env)).all (fun x => !x.1) && (backToKw pos (keywordEach [] Γ.env)).all (fun x => x.1.isSome) && decide (([e] : List Expr).length + ([] : List Keyword).length + (if ([] : List Keyword).isEmpty then 0 else 1) < 30)) = true := by rfl)
  (hline : (apos.endLine == pos.line) = true := by rfl) (htrees : backTo pos (starEach [e] Γ.env) = [(false, eval e Γ.env)] := by rfl) : J prog w Γ (.Call (.Attribute o "append" apos) [e] [] pos) (ZeJ f g) := by
 intro W ρ H fr s Q E v H' r hx post
 obtain ⟨p, e1, hx⟩ := Zz0.mp hx
 obtain ⟨q, e2, e3⟩ := Zz0.mp hx
 refine wpAny_Call_append hbase hfew hline htrees (ho W ρ H fr s _ E _ _ r e1 fun W1 k1 t1 x l1 r1 x1 => ?_)
 obtain ⟨v1, H1⟩ := p
 obtain ⟨b, hb⟩ := ZsR e3
 subst hb
 have hb := r1.refIn x1
 cases x1 with
 | @ref _ a ea =>
 obtain ⟨_, xs, n, hg, hv⟩ := r1.at (List.getElem?_eq_getElem hb) ea
 refine ⟨a, xs.toArray, rfl, ⟨_, n, hg, rfl, rfl, rfl⟩, ?_⟩
 refine he W1 ρ _ fr _ _ E _ _ r1 e2 fun W2 k2 t2 y l2 r2 y2 => ?_
 exact Zt5 Γ W2 ρ _ fr _ Q E _ [.ref a, y] v H' r2 (.cons (.ref (l2.at ea)) (.cons y2 .nil)) e3 fun W3 k3 t3 z l3 r3 z3 => post W3 k3 t3 z ((l1.trans l2).trans l3) r3 z3
end
end PM
end
section
set_option autoImplicit false
namespace PM
open PySem PySem.W PyProof.Rows PyProof
noncomputable abbrev Nx := Nat → Hp → Option (Option V)
noncomputable def ZxH (Γ : Cx) (W : Wd) (ρ : Lc) (H : Hp) (fr : List (Addr × Obj)) (s : Shared) (It : Nat → List (Addr × Obj) → Prop) (i : Nat) (Q : Option Value → Shared → Prop) : Option V → Prop
 | none => ∀ (h' : Heap) (tk' : Nat), Rep Γ W ρ H fr h' → Q none { s with heap := h', toks := tk' }
 | some v => ∀ (fs' : List (Addr × Obj)) (h' : Heap) (tk' : Nat) (x : Value), It (i + 1) fs' → Rep Γ W ρ H (fs' ++ fr) h' → VR W v x → Q (some x) { s with heap := h', toks := tk' }
structure Itr (prog : Program) (w : World) (Γ : Cx) (W0 : Wd) (it : Value) (as : List Addr) (It : Nat → List (Addr × Obj) → Prop) (nx : Nx) : Prop where
 adr : ∀ i fs, It i fs → fs.map (·.1) = as
 next : ∀ (i : Nat) (W : Wd) (ρ : Lc) (H : Hp) (fr fs : List (Addr × Obj)) (s : Shared) (Q : Option Value → Shared → Prop) (E : Value → Shared → Prop) (o : Option V), W0.Le W → Rep Γ W ρ H (fs ++ fr) s.heap → (∀ a ∈ as, ∀ t ∈ fr, a ≠ t.1) → It i fs → nx i H = some o →
  ZxH Γ W ρ H fr s It i Q o → wpAny (model prog w) Γ.A (pyNext it) Q E s
 self : ∀ (i : Nat) (W : Wd) (ρ : Lc) (H : Hp) (fr fs : List (Addr × Obj)) (s : Shared) (Q E : Value → Shared → Prop), W0.Le W → Rep Γ W ρ H (fs ++ fr) s.heap → It i fs → Q it s → wpAny (model prog w) Γ.A (pyIter it) Q E s
noncomputable abbrev Src := Lc → Hp → Option (Nx × Nat × Hp)
noncomputable def JI (prog : Program) (w : World) (Γ : Cx) (e : Expr) (g : Src) : Prop := ∀ (W : Wd) (ρ : Lc) (H : Hp) (fr : List (Addr × Obj)) (s : Shared) (Q E : Value → Shared → Prop) (nx : Nx) (n : Nat) (H' : Hp),
 Rep Γ W ρ H fr s.heap → g ρ H = some (nx, n, H') →
 (∀ (W' : Wd) (h' : Heap) (tk' : Nat) (it : Value) (as : List Addr) (It : Nat → List (Addr × Obj) → Prop) (fs : List (Addr × Obj)), W.Le W' → It 0 fs → Rep Γ W' ρ H' (fs ++ fr) h' → (∀ a ∈ as, ∀ t ∈ fr, a ≠ t.1) → Itr prog w Γ W' it as It nx → Q it { s with heap := h', toks := tk' }) →
 wpAny (model prog w) Γ.A (eval e Γ.env) (fun xv s₁ => wpAny (model prog w) Γ.A (pyIter xv) Q E s₁) E s
noncomputable def Zn8 (a : Nat) : Nx := fun i H => H[a]?.map fun vs => vs[i]?
noncomputable def Zri (vs : List V) : Nx := fun i _ => some vs[i]?
noncomputable def ZfB (a c : Int) (n : Nat) : Nx := fun i _ => some (if i < n then some (.int (a + i * c)) else none)
noncomputable def Zbz (f : Ex) : Src := fun ρ H => (f ρ H).bind fun p => match p.1 with
 | .ref a => p.2[a]?.map fun vs => (Zn8 a, vs.length + 1, p.2)
 | .tup vs => some (Zri vs, vs.length + 1, p.2)
 | _ => none
noncomputable def rngN (a b c : Int) : Nat := (Builtin.Range.rangeSize a b c).toNat
noncomputable def ZcJ (a b c : Int) (H : Hp) : Option (Nx × Nat × Hp) := if c ≠ 0 ∧ Builtin.Range.small a b c = true ∧ 0 ≤ Builtin.Range.rangeSize a b c ∧ rngN a b c ≤ LEN ∧ Builtin.divisionGoesByPylong (b - a) c = false then some (ZfB a c (rngN a b c), rngN a b c + 1, H) else none
noncomputable def ZaQ (g : Exs) : Src := fun ρ H => (g ρ H).bind fun p => match p.1 with
 | [.int b] => ZcJ 0 b 1 p.2
 | [.int a, .int b] => ZcJ a b 1 p.2
 | [.int a, .int b, .int c] => ZcJ a b c p.2
 | _ => none
section
variable {prog : Program} {w : World} {Γ : Cx}
theorem Zn9 {W0 : Wd} {I : Addr} {nx : Nx} (P : Nat → Obj → Prop)
  (next : ∀ (i : Nat) (W : Wd) (ρ : Lc) (H : Hp) (fr : List (Addr × Obj)) (ob : Obj) (s : Shared) (Q : Option Value → Shared → Prop) (E : Value → Shared → Prop) (o : Option V), W0.Le W → Rep Γ W ρ H ((I, ob) :: fr) s.heap → P i ob → nx i H = some o →
   (match o with
    | none => ∀ (h' : Heap) (tk' : Nat), (∀ b o, b ≠ I → s.heap.get? b = some o → h'.get? b = some o) → Q none { s with heap := h', toks := tk' }
    | some v => ∀ (ob' : Obj) (h' : Heap) (tk' : Nat) (x : Value), P (i + 1) ob' → h'.get? I = some ob' → (∀ b o, b ≠ I → s.heap.get? b = some o → h'.get? b = some o) → VR W v x → Q (some x) { s with heap := h', toks := tk' }) → wpAny (model prog w) Γ.A (pyNext (.ref I)) Q E s)
  (self : ∀ (i : Nat) (W : Wd) (ρ : Lc) (H : Hp) (fr : List (Addr × Obj)) (ob : Obj) (s : Shared) (Q E : Value → Shared → Prop), W0.Le W → Rep Γ W ρ H ((I, ob) :: fr) s.heap → P i ob → Q (.ref I) s → wpAny (model prog w) Γ.A (pyIter (.ref I)) Q E s) :
  Itr prog w Γ W0 (.ref I) [I] (fun i fs => ∃ ob, fs = [(I, ob)] ∧ P i ob) nx := by
 refine ⟨?_, ?_, ?_⟩
 ·rintro i fs ⟨ob, e, _⟩
  rw [e]
  rfl
 ·rintro i W ρ H fr fs s Q E o le r ap ⟨ob, e, hp⟩ hn post
  subst e
  refine next i W ρ H fr ob s Q E o le r hp hn ?_
  have ap' : ∀ q ∈ [(I, ob)], ∀ t ∈ fr, q.1 ≠ t.1 := fun q hq t ht => by rw [List.mem_singleton.mp hq]; exact ap I Zz5 t ht
  cases o with
  | none =>
   intro h' tk' keep
   have := Rep.swap (fs := [(I, ob)]) (fs' := []) r ap' (fun b o hb e => keep b o (fun q => hb (by simp [q])) e) (fun q hq => nomatch hq)
   exact post h' tk' this
  | some v =>
   intro ob' h' tk' x hp' hg keep hx
   have := Rep.swap (fs := [(I, ob)]) (fs' := [(I, ob')]) r ap' (fun b o hb e => keep b o (fun q => hb (by simp [q])) e) (fun q hq => by rw [List.mem_singleton.mp hq]; exact ⟨hg, by simp⟩)
   exact post [(I, ob')] h' tk' x ⟨ob', rfl, hp'⟩ this hx
 ·rintro i W ρ H fr fs s Q E le r ⟨ob, e, hp⟩ q
  subst e
  exact self i W ρ H fr ob s Q E le r hp q
theorem JI.seq {e : Expr} {f : Ex} (h : J prog w Γ e f) : JI prog w Γ e (Zbz f) := by
 intro W ρ H fr s Q E nx n H' r hf post
 obtain ⟨p, e1, hf⟩ := Zz0.mp hf
 refine h W ρ H fr s _ E _ _ r e1 fun W1 k1 t1 x l1 r1 x1 => ?_
 obtain ⟨v, H1⟩ := p
 cases x1 with
 | none => cases hf
 | bool _ => cases hf
 | int _ _ => cases hf
 | str _ _ => cases hf
 | @tup vs a xs k hm hl hs =>
  cases hf
  have it : k1.IsTuple a xs.toArray := ⟨_, r1.tupAt hm, rfl, k, rfl⟩
  refine wpAny_pyIter_tuple it ?_
  obtain ⟨r2, ap⟩ := r1.more (fs := [(k1.objs.size, { cls := .type "tuple_iterator", data := .fields #[.ref a, .int 0 0] })]) (fun b o e => Heap.get?_push_of_some { cls := .type "tuple_iterator", data := .fields #[.ref a, .int 0 0] } e) (fun q hq => by rw [List.mem_singleton.mp hq]; exact ⟨Heap.get?_push_size _ rfl, Nat.le_refl _⟩)
  refine post W1 _ t1 _ [k1.objs.size] _ _ l1 ⟨_, rfl, ?_⟩ r2 (fun b hb t ht => by rw [List.mem_singleton.mp hb]; exact ap _ Zz5 t ht)
   (Zn9 (fun i ob => ob.cls = .type "tuple_iterator" ∧ ob.data = .fields #[.ref a, .int i 0]) ?_ ?_)
  ·intro i W ρ H fr ob s Q E o le r hp hn post
   have g1 : s.heap.IsTupleIter k1.objs.size a i := ⟨ob, r.frAt Zz5, hp.1, hp.2⟩
   have g2 : s.heap.IsTuple a xs.toArray := ⟨_, r.tupAt (le.tups _ hm), rfl, k, rfl⟩
   have ne : a ≠ k1.objs.size := Nat.ne_of_lt (Heap.lt_size (r1.tupAt hm))
   have Wk := Walks.tuple (prog := prog) (w := w) Γ.hh k1.objs.size a ne xs.toArray
   cases hn
   cases ev : vs[i]? with
   | none =>
    rw [ev] at post
    have hi : xs.toArray[i]? = none := by have := List.getElem?_eq_none_iff.mp ev; rw [← hs.length] at this; simpa using this
    exact wpAny_pyNext_tuple_end Γ.hh g1 g2 hi fun h' he' => post h' s.toks fun b o hb e => he' b o hb e
   | some v =>
    rw [ev] at post
    obtain ⟨y, hy, ry⟩ := hs.at ev
    refine wpAny_pyNext_tuple_item g1 g2 (x := y) (by simpa using hy) fun h' hit' hs' => ?_
    obtain ⟨ob', h1, h2, h3⟩ := hit'
    exact post ob' h' s.toks y ⟨h2, h3⟩ h1 (fun b o hb e => hs'.extBut b o hb e) (ry.mono le)
  ·intro i W ρ H fr ob s Q E le r hp q
   exact wpAny_pyIter_tupleiter (⟨ob, r.frAt Zz5, hp.1, hp.2⟩ : s.heap.IsTupleIter k1.objs.size a i) q
  ·exact ⟨rfl, rfl⟩
 | @ref i0 a ea =>
  obtain ⟨vs, e2, e3⟩ := Zz1.mp hf
  cases e3
  obtain ⟨hl, xs, k, hg, hv⟩ := r1.at e2 ea
  have isl : k1.IsList a xs.toArray := ⟨_, hg, rfl, k, rfl⟩
  refine wpAny_pyIter_list isl ?_
  obtain ⟨r2, ap⟩ := r1.more (fs := [(k1.objs.size, { cls := .type "list_iterator", data := .fields #[.ref a, .int 0 0] })]) (fun b o e => Heap.get?_push_of_some { cls := .type "list_iterator", data := .fields #[.ref a, .int 0 0] } e) (fun q hq => by rw [List.mem_singleton.mp hq]; exact ⟨Heap.get?_push_size _ rfl, Nat.le_refl _⟩)
  refine post W1 _ t1 _ [k1.objs.size] _ _ l1 ⟨_, rfl, ?_⟩ r2 (fun b hb t ht => by rw [List.mem_singleton.mp hb]; exact ap _ Zz5 t ht)
   (Zn9 (fun i ob => ob.cls = .type "list_iterator" ∧ ob.data = .fields #[.ref a, .int i 0]) ?_ ?_)
  ·intro i W ρ H fr ob s Q E o le r hp hn post
   obtain ⟨us, eu, e4⟩ := Zz1.mp hn
   subst e4
   obtain ⟨hl2, ys, k2, hg2, hv2⟩ := r.at eu (le.at ea)
   have g1 : s.heap.IsListIter k1.objs.size a i := ⟨ob, r.frAt Zz5, hp.1, hp.2⟩
   have g2 : s.heap.IsList a ys.toArray := ⟨_, hg2, rfl, k2, rfl⟩
   cases ev : us[i]? with
   | none =>
    rw [ev] at post
    have hi : ys.toArray[i]? = none := by have := List.getElem?_eq_none_iff.mp ev; rw [← hv2.length] at this; simpa using this
    exact wpAny_pyNext_list_end Γ.hh g1 g2 hi fun h' he' => post h' s.toks fun b o hb e => he' b o hb e
   | some v =>
    rw [ev] at post
    obtain ⟨y, hy, ry⟩ := hv2.at ev
    refine wpAny_pyNext_list_item g1 g2 (x := y) (by simpa using hy) fun h' hit' hs' => ?_
    obtain ⟨ob', h1, h2, h3⟩ := hit'
    exact post ob' h' s.toks y ⟨h2, h3⟩ h1 (fun b o hb e => hs'.extBut b o hb e) ry
  ·intro i W ρ H fr ob s Q E le r hp q
   exact wpAny_pyIter_listiter (⟨ob, r.frAt Zz5, hp.1, hp.2⟩ : s.heap.IsListIter k1.objs.size a i) q
  ·exact ⟨rfl, rfl⟩
theorem ZsS {a b c : Int} {H : Hp} {z : Nx × Nat × Hp} (h : ZcJ a b c H = some z) : c ≠ 0 ∧ Builtin.divisionGoesByPylong (b - a) c = false := by
 unfold ZcJ at h
 split at h
 ·rename_i hc
  exact ⟨hc.1, hc.2.2.2.2⟩
 ·cases h
theorem ZuJ {W0 : Wd} {I : Addr} {a c : Int} {n : Nat} : Itr prog w Γ W0 (.ref I) [I] (fun i fs => ∃ ob, fs = [(I, ob)] ∧ (i ≤ n ∧ ob = { cls := .type "range_iterator", dict := none, data := .fields #[rawInt (a + (i : Nat) * c), rawInt ((n : Int) - (i : Nat)), rawInt c], slots := #[] })) (ZfB a c n) := by
 have Wk := Walks.range (prog := prog) (w := w) Γ.hh I a c n
 refine Zn9 (fun i ob => i ≤ n ∧ ob = { cls := .type "range_iterator", dict := none, data := .fields #[rawInt (a + (i : Nat) * c), rawInt ((n : Int) - (i : Nat)), rawInt c], slots := #[] }) ?_ ?_
 ·intro i W ρ H fr ob s Q E o le r hp hn post
  have g : IsRangeIter s.heap I (a + (i : Nat) * c) ((n : Int) - (i : Nat)) c := (r.frAt Zz5).trans (congrArg some hp.2)
  cases hn
  by_cases hi : i < n
  ·rw [if_pos hi] at post
   refine Wk.item i s Q E hi g fun v h' tk hv st keep => ?_
   obtain ⟨t, e⟩ := hv
   subst e
   exact post _ h' tk _ ⟨hi, rfl⟩ st (fun b o hb e => keep b o (by simpa using hb) e) (.int _ _)
  ·rw [if_neg hi] at post
   have e : i = n := by have := hp.1; omega
   subst e
   exact Wk.done s Q E g fun h' tk keep => post h' tk fun b o hb e => keep b o (by simpa using hb) e
 ·intro i W ρ H fr ob s Q E le r hp q
  have g : IsRangeIter s.heap I (a + (i : Nat) * c) ((n : Int) - (i : Nat)) c := (r.frAt Zz5).trans (congrArg some hp.2)
  exact Wk.self i s Q E g q
theorem ZlO {a b c : Int} {t u v : Tok} {W : Wd} {ρ : Lc} {H : Hp} {fr : List (Addr × Obj)} {s : Shared} {k : Heap} {tk : Nat} {Q E : Value → Shared → Prop} {nx : Nx} {n : Nat} {H' : Hp} (r : Rep Γ W ρ H fr k) (hm : ZcJ a b c H = some (nx, n, H'))
  (post : ∀ (W' : Wd) (h' : Heap) (tk' : Nat) (it : Value) (as : List Addr) (It : Nat → List (Addr × Obj) → Prop) (fs : List (Addr × Obj)), W.Le W' → It 0 fs → Rep Γ W' ρ H' (fs ++ fr) h' → (∀ a ∈ as, ∀ t ∈ fr, a ≠ t.1) → Itr prog w Γ W' it as It nx → Q it { s with heap := h', toks := tk' }) :
  wpAny (model prog w) Γ.A (pyIter (.ref k.objs.size)) Q E { s with heap := k.push { cls := .type "range", data := .fields #[.int a t, .int b u, .int c v] }, toks := tk } := by
 unfold ZcJ at hm
 split at hm
 ·rename_i hc
  cases hm
  have hr : IsRange (k.push { cls := .type "range", data := .fields #[.int a t, .int b u, .int c v] }) k.objs.size a b c t u v := IsRange.new ..
  refine wpAny_pyIter_range hr hc.2.1 ?_
  have rp := r.push { cls := .type "range", data := .fields #[.int a t, .int b u, .int c v] }
  have en : Builtin.Range.rangeSize a b c = ((rngN a b c : Nat) : Int) := (Int.toNat_of_nonneg hc.2.2.1).symm
  dsimp only
  generalize hk : k.push { cls := .type "range", data := .fields #[.int a t, .int b u, .int c v] } = k2 at rp ⊢
  obtain ⟨r2, ap⟩ := rp.more (fs := [(k2.objs.size, { cls := .type "range_iterator", data := .fields #[rawInt a, rawInt (Builtin.Range.rangeSize a b c), rawInt c] })]) (fun b' o e => Heap.get?_push_of_some { cls := .type "range_iterator", data := .fields #[rawInt a, rawInt (Builtin.Range.rangeSize a b c), rawInt c] } e) (fun q hq => by rw [List.mem_singleton.mp hq]; exact ⟨Heap.get?_push_size _ rfl, Nat.le_refl _⟩)
  refine post W _ tk _ [k2.objs.size] _ _ (.refl W) ⟨_, rfl, Nat.zero_le _, ?_⟩ r2 (fun b hb t ht => by rw [List.mem_singleton.mp hb]; exact ap _ Zz5 t ht) (ZuJ (a := a) (c := c) (n := rngN a b c))
  rw [en]
  simp
 ·cases hm
theorem JI.range {x : Str} {np pos : Pos} {e : Expr} {es : List Expr} {g : Exs} (hn : Nm prog w Γ x (.type "range")) (h : Js prog w Γ (e :: es) g)
  (he : starEach (e :: es) Γ.env = (false, eval e Γ.env) :: starEach es Γ.env := by rfl) (hp : ∀ pos, (backTo pos (starEach es Γ.env)).any (·.1) = false := by intro _; rfl) : JI prog w Γ (.Call (.Name x np) (e :: es) [] pos) (ZaQ g) := by
 intro W ρ H fr s Q E nx n H' r hf post
 obtain ⟨p, e1, hf⟩ := Zz0.mp hf
 refine wpAny_Call_ofName (hn.use r ?_)
 refine PySem.Pv.callWith_type1 (h pos W ρ H fr s _ E _ _ r e1 fun W1 k1 t1 xs l1 r1 x1 => ?_) he (hp pos)
 obtain ⟨vs, H1⟩ := p
 dsimp only at hf x1 r1
 have post1 := fun W' h' tk' it as It fs (l : W1.Le W') => post W' h' tk' it as It fs (l1.trans l)
 split at hf
 ·obtain ⟨y, ex, ry⟩ := x1.one
  subst ex
  cases ry
  exact call_range_1 (ZlO r1 hf post1)
 ·obtain ⟨y, z, ex, ry, rz⟩ := x1.two
  subst ex
  cases ry
  cases rz
  exact call_range_2 (ZlO r1 hf post1)
 ·cases x1 with
  | cons ry x1 =>
  obtain ⟨y, z, ex, rz, ru⟩ := x1.two
  subst ex
  cases ry
  cases rz
  cases ru
  have hc := ZsS hf
  exact call_range_3 hc.1 (ZlO r1 hf post1) (.inl hc.2)
 ·cases hf
end
noncomputable def Zdt (nx : Nx) (put : V → Lc → Option Lc) (b : Sm) : Nat → Nat → Sm
 | 0, _ => fun _ _ => none
 | n + 1, i => fun ρ H => (nx i H).bind fun o => match o with
  | none => some (none, ρ, H)
  | some v => (put v ρ).bind fun ρ1 => (b ρ1 H).bind fun q => match q.1 with
   | some _ => some q
   | none => Zdt nx put b n (i + 1) q.2.1 q.2.2
noncomputable def ZaN (g : Src) (put : V → Lc → Option Lc) (b : Sm) : Sm := fun ρ H => (g ρ H).bind fun z => Zdt z.1 put b z.2.1 0 ρ z.2.2
noncomputable def put1 (i : Nat) : V → Lc → Option Lc := fun v ρ => some (upd ρ i v)
section
variable {prog : Program} {w : World} {Γ : Cx}
theorem Zbl {x : Str} {i : Nat} {px pos : Pos} {it : Expr} {body : List Stmt} {g : Src} {b : Sm} (hx : Sto prog w Γ x i) (hg : JI prog w Γ it g) (hb : Ss prog w Γ body b) (hs : ∀ x, foldedSetIterable it Γ.env x = pure x := by intro _; rfl) : S1 prog w Γ (.For (.Name x px) it body [] pos) (ZaN g (put1 i) b) := by
 intro W ρ H fr s Q E r rp hf post
 obtain ⟨z, e1, hf⟩ := Zz0.mp hf
 obtain ⟨nx, n, H0⟩ := z
 refine wpAny_For (hg W ρ H fr s _ E nx n H0 rp e1 fun W1 k1 t1 itv as It fs l1 i1 r1 ap I1 => ?_) hs
 refine codeAny_forLoop (fun k s' => ∃ W' ρ' H' h' tk' j fs', s' = { s with heap := h', toks := tk' } ∧ W1.Le W' ∧ It j fs' ∧ Rep Γ W' ρ' H' (fs' ++ fr) h' ∧ Zdt nx (put1 i) b k j ρ' H' = some r) ?_ n ⟨W1, ρ, H0, k1, t1, 0, fs, rfl, .refl _, i1, r1, hf⟩
 rintro k s' ⟨W2, ρ2, H2, k2, t2, j, fs2, rfl, l2, i2, r2, e⟩
 cases k with
 | zero => cases e
 | succ k =>
  obtain ⟨o, e2, e⟩ := Zz0.mp e
  refine I1.next j W2 ρ2 H2 fr fs2 _ _ _ o l2 r2 ap i2 e2 ?_
  cases o with
  | none =>
   cases e
   intro h' tk' r3
   exact wpAny_execs_nil (post W2 h' tk' (l1.trans l2) r3)
  | some v =>
   intro fs3 k3 t3 y i3 r3 y3
   obtain ⟨ρ3, e3, e⟩ := Zz0.mp e
   cases e3
   obtain ⟨q, e4, e⟩ := Zz0.mp e
   refine wpAny_assign_Name (hx W2 ρ2 H2 (fs3 ++ fr) _ _ _ v y r3 y3 fun k4 t4 r4 => ?_)
   refine hb W2 _ H2 (fs3 ++ fr) _ _ _ q r4 e4 ?_
   obtain ⟨u, ρ5, H5⟩ := q
   cases u with
   | some u =>
    cases e
    exact fun W5 k5 t5 x5 l5 r5 v5 => post W5 k5 t5 x5 ((l1.trans l2).trans l5) (r5.less fun q hq => List.mem_append_right _ hq) v5
   | none => exact fun W5 k5 t5 l5 r5 => ⟨k, Nat.lt_succ_self k, W5, ρ5, H5, k5, t5, j + 1, fs3, rfl, l2.trans l5, i3, r5, e⟩
end
end PM
end
section
set_option autoImplicit false
namespace PM
open PySem PySem.W PySem.Calls PyProof.Rows PyProof
structure OwnF (names : List Str) (cs : Scope) (cl : List (Str × Addr)) (W : Wd) (ρ : Lc) (m : Str → Option Value) (cells : List (Addr × Obj)) : Prop where
 loc : ∀ (i : Nat) (x : Str) (v : V), names[i]? = some x → cs.names.lookup x = some .local → ρ i = some v → ∃ y, m x = some y ∧ VR W v y
 cel : ∀ (i : Nat) (x : Str) (v : V), names[i]? = some x → cs.names.lookup x = some .cell → ρ i = some v → ∃ c o y, cl.lookup x = some c ∧ (c, o) ∈ cells ∧ o.data = .cell (some y) ∧ VR W v y
 all : ∀ (x : Str) (c : Addr), cl.lookup x = some c → ∃ o v₀, (c, o) ∈ cells ∧ o.data = .cell v₀
 one : ∀ (x y : Str) (c : Addr), cl.lookup x = some c → cl.lookup y = some c → x = y
theorem OwnF.mono {names : List Str} {cs : Scope} {cl : List (Str × Addr)} {W W' : Wd} {ρ : Lc} {m : Str → Option Value} {cells : List (Addr × Obj)} (l : W.Le W') (h : OwnF names cs cl W ρ m cells) : OwnF names cs cl W' ρ m cells :=
 ⟨fun i x v a b c => by
  obtain ⟨y, h1, h2⟩ := h.loc i x v a b c
  exact ⟨y, h1, h2.mono l⟩, fun i x v a b c => by
  obtain ⟨d, o, y, h1, h2, h3, h4⟩ := h.cel i x v a b c
  exact ⟨d, o, y, h1, h2, h3, h4.mono l⟩, h.all, h.one⟩
noncomputable def ZbY (dp un : Nat) (gd : Option (List Code)) (cn : Str) (cs : Scope) (L a : Addr) (ccd : Value) (cl : List (Str × Addr)) (outer : List Env) (h₀ : Heap) (hu : un + 200 < cLine) (names : List Str) : Cx where
 A := ktrTop dp un gd cn cs L a ccd cl outer
 env := envX cn cs L a ccd cl
 h₀ := h₀
 L := L
 hh := rfl
 hu := hu
 Own := OwnF names cs cl
 mono := OwnF.mono
section
variable {prog : Program} {w : World} {dp un : Nat} {gd : Option (List Code)} {cn : Str} {cs : Scope} {L a : Addr} {ccd : Value} {cl : List (Str × Addr)} {outer : List Env} {h₀ : Heap} {hu : un + 200 < cLine} {names : List Str}
theorem ZwK {x : Str} {i : Nat} (hi : names[i]? = some x) (hx : cs.names.lookup x = some .local) (hk : cs.kind = .function) (hd : (x == ("__debug__" : Str)) = false) : Rd prog w (ZbY dp un gd cn cs L a ccd cl outer h₀ hu names) x i := by
 intro W ρ H fr s Q E v pos r e q
 obtain ⟨m, c, led, r⟩ := r
 obtain ⟨y, h1, h2⟩ := r.own.loc i x v hi hx e
 exact nameX_L r.F h1 (q y h2) hk hx hd
theorem ZwL {x : Str} {i : Nat} (hi : names[i]? = some x) (hx : cs.names.lookup x = some .cell) (hk : cs.kind = .function) (hd : (x == ("__debug__" : Str)) = false) : Rd prog w (ZbY dp un gd cn cs L a ccd cl outer h₀ hu names) x i := by
 intro W ρ H fr s Q E v pos r e q
 obtain ⟨m, c, led, r⟩ := r
 obtain ⟨d, o, y, h1, h2, h3, h4⟩ := r.own.cel i x v hi hx e
 exact nameX_C r.N h1 (r.clIn _ h2) h3 (q y h4) hk hx hd
theorem Zvw {x : Str} {i : Nat} (nd : names.Nodup) (hi : names[i]? = some x) (hx : cs.names.lookup x = some .local) (hk : cs.kind = .function) : Sto prog w (ZbY dp un gd cn cs L a ccd cl outer h₀ hu names) x i := by
 intro W ρ H fr s Q E v y r vy q
 obtain ⟨m, c, led, r⟩ := r
 have hi' : i < names.length := (Zz6.mp hi).1
 refine storeX_L r.F r.N (fun h' F' N' => q h' _ ⟨_, c, led, ⟨F', N', r.R, r.sc, r.sc0, r.frIn, r.frOff, r.clIn, r.clOff, r.apart, r.frTup, r.clTup, ⟨fun j z u hj hz hu => ?_, fun j z u hj hz hu => ?_, r.own.all, r.own.one⟩⟩⟩) hk hx
 ·by_cases e : j = i
  ·subst e
   rw [hi] at hj
   cases hj
   simp only [upd, if_true] at hu
   cases hu
   exact ⟨y, by simp, vy⟩
  ·have hzx : z ≠ x := fun e' => by
    subst e'
    exact e ((List.getElem?_inj (Zz6.mp hj).1 nd).mp (hj.trans hi.symm))
   simp only [upd, if_neg e] at hu
   obtain ⟨y', h1, h2⟩ := r.own.loc j z u hj hz hu
   exact ⟨y', by simp [hzx, h1], h2⟩
 ·by_cases e : j = i
  ·subst e
   rw [hi] at hj
   cases hj
   rw [hx] at hz
   cases hz
  ·simp only [upd, if_neg e] at hu
   exact r.own.cel j z u hj hz hu
theorem Zvx {x : Str} {i : Nat} (nd : names.Nodup) (hi : names[i]? = some x) (hx : cs.names.lookup x = some .cell) (hk : cs.kind = .function) (hcl : (cl.lookup x).isSome = true) : Sto prog w (ZbY dp un gd cn cs L a ccd cl outer h₀ hu names) x i := by
 intro W ρ H fr s Q E v y r vy q
 obtain ⟨m, c, led, r⟩ := r
 obtain ⟨d, hd⟩ := Option.isSome_iff_exists.mp hcl
 obtain ⟨o, v₀, ho, hv₀⟩ := r.own.all x d hd
 have inl := r.clIn _ ho
 have N2 : News h₀ L s.heap ((d, o) :: led.filter (fun q => decide (q.1 ≠ d))) := by
  intro q hq
  rcases Zz7.mp hq with e | hq
  ·subst e
   exact r.N _ inl
  ·exact r.N q (List.mem_filter.mp hq).1
 refine storeX_C r.F N2 hd (UpdF.head fun q hq => by simpa using (List.mem_filter.mp hq).2) hv₀ (fun h' o' F' N' ho' => ?_) hk hx
 have keep : ∀ q ∈ led, q.1 ≠ d → q ∈ (d, o') :: led.filter (fun q => decide (q.1 ≠ d)) := fun q hq hn => List.mem_cons_of_mem _ (List.mem_filter.mpr ⟨hq, by simpa using hn⟩)
 refine q h' s.toks ⟨m, (d, o') :: c.filter (fun q => decide (q.1 ≠ d)), _, ⟨F', N', ⟨r.R.len, r.R.nd, fun j vs e => ?_, fun q hq => Zes (r.R.tups q hq) fun z => keep q z (r.clTup _ ho q hq).symm, r.R.kind⟩, r.sc, r.sc0, fun q hq => keep q (r.frIn q hq) (r.apart _ ho q hq).symm, r.frOff, fun q hq => ?_, fun q hq => ?_, fun q hq t ht => ?_, r.frTup, fun q hq t ht => ?_, ⟨fun j z u hj hz hu => ?_, fun j z u hj hz hu => ?_, fun z e hz => ?_, r.own.one⟩⟩⟩
 ·obtain ⟨l, b, xs, k, h1, h2, h3⟩ := r.R.lists j vs e
  exact ⟨l, b, xs, k, h1, Zes h2 fun z => keep _ z fun e => r.clOff _ ho (e ▸ List.mem_of_getElem? h1), h3⟩
 ·rcases Zz7.mp hq with e | hq
  ·exact e ▸ List.mem_cons_self
  ·obtain ⟨h1, h2⟩ := List.mem_filter.mp hq
   exact keep q (r.clIn q h1) (by simpa using h2)
 ·rcases Zz7.mp hq with e | hq
  ·rw [e]
   exact (r.clOff _ ho : d ∉ W.pi)
  ·exact r.clOff q (List.mem_filter.mp hq).1
 ·rcases Zz7.mp hq with e | hq
  ·rw [e]
   exact (r.apart _ ho t ht : d ≠ t.1)
  ·exact r.apart q (List.mem_filter.mp hq).1 t ht
 ·rcases Zz7.mp hq with e | hq
  ·rw [e]
   exact (r.clTup _ ho t ht : d ≠ t.1)
  ·exact r.clTup q (List.mem_filter.mp hq).1 t ht
 ·by_cases e : j = i
  ·subst e
   rw [hi] at hj
   cases hj
   rw [hx] at hz
   cases hz
  ·simp only [upd, if_neg e] at hu
   exact r.own.loc j z u hj hz hu
 ·by_cases e : j = i
  ·subst e
   rw [hi] at hj
   cases hj
   simp only [upd, if_true] at hu
   cases hu
   exact ⟨d, o', y, hd, List.mem_cons_self, ho', vy⟩
  ·have hzx : z ≠ x := fun e' => by
    subst e'
    exact e ((List.getElem?_inj (Zz6.mp hj).1 nd).mp (hj.trans hi.symm))
   simp only [upd, if_neg e] at hu
   obtain ⟨b, ob, y', h1, h2, h3, h4⟩ := r.own.cel j z u hj hz hu
   have : b ≠ d := fun e' => by
    subst e'
    exact hzx (r.own.one z x b h1 hd)
   exact ⟨b, ob, y', h1, List.mem_cons_of_mem _ (List.mem_filter.mpr ⟨h2, by simpa using this⟩), h3, h4⟩
 ·by_cases e' : e = d
  ·subst e'
   exact ⟨o', _, List.mem_cons_self, ho'⟩
  ·obtain ⟨ob, v1, h1, h2⟩ := r.own.all z e hz
   exact ⟨ob, v1, List.mem_cons_of_mem _ (List.mem_filter.mpr ⟨h1, by simpa using e'⟩), h2⟩
end
end PM
end
section
set_option autoImplicit false
namespace PM
open PySem PySem.W PySem.Calls PyProof.Rows PyProof PyProof.Rows.LCg
theorem Zgs {Γ : Cx} {W : Wd} {ρ : Lc} {H : Hp} {fr : List (Addr × Obj)} {h : Heap} {D : Addr} {ys : List Value} {k : Nat} {vs : List V} (r : Rep Γ W ρ H ((D, Zb8 ys k) :: fr) h) (ap : ∀ t ∈ fr, D ≠ t.1) (hv : VRs W vs ys) (hl : vs.length ≤ LEN) :
  ∃ W', W.Le W' ∧ Rep Γ W' ρ (H ++ [vs]) fr h ∧ VR W' (.ref H.length) (.ref D) := by
 obtain ⟨m, c, led, r⟩ := r
 have le : W.Le ⟨W.pi ++ [D], W.tups, W.sc⟩ := ⟨List.prefix_append _ _, fun q hq => hq, rfl⟩
 have h0 : 0 < W.pi.length := (Zz6.mp r.sc0).1
 have at_n : (W.pi ++ [D])[H.length]? = some D := by rw [← r.R.len]; simp
 have off := r.frOff _ Zz5
 refine ⟨⟨W.pi ++ [D], W.tups, W.sc⟩, le, ⟨m, c, led, ⟨r.F, r.N, ⟨by simp [r.R.len], ?_, fun i us e => ?_, r.R.tups, r.R.kind⟩, r.sc, (List.getElem?_append_left h0).trans r.sc0, fun q hq => r.frIn q (Zz2 _ hq), fun q hq => ?_, r.clIn, fun q hq => ?_, fun q hq t ht => r.apart q hq t (Zz2 _ ht), fun q hq => r.frTup q (Zz2 _ hq), r.clTup, Γ.mono le r.own⟩⟩, .ref at_n⟩
 ·show (W.pi ++ [D]).Nodup
  rw [List.nodup_append]
  refine ⟨r.R.nd, by simp, fun a ha b hb => ?_⟩
  rw [List.mem_singleton.mp hb]
  exact fun e => off (e ▸ ha)
 ·by_cases hi : i < H.length
  ·rw [List.getElem?_append_left hi] at e
   obtain ⟨l, a, zs, j, h1, h2, h3⟩ := r.R.lists i us e
   exact ⟨l, a, zs, j, le.at h1, h2, h3.mono le⟩
  ·have : i = H.length := by
    have := (Zz6.mp e).1
    simp at this
    omega
   subst this
   simp at e
   subst e
   exact ⟨hl, D, ys, k, at_n, List.mem_cons_of_mem _ (r.frIn _ Zz5), hv.mono le⟩
 ·intro hm
  rcases Zz8.mp hm with hm | hm
  ·exact r.frOff q (Zz2 _ hq) hm
  ·exact ap q hq (Zz9.mp hm).symm
 ·intro hm
  rcases Zz8.mp hm with hm | hm
  ·exact r.clOff q hq hm
  ·exact r.apart q hq _ Zz5 (Zz9.mp hm)
noncomputable def Zx4 (Γ : Cx) (C : Addr) (ts : List (Str × Nat)) (ρ0 : Lc) (W : Wd) (ρ : Lc) (m : Str → Option Value) (cells : List (Addr × Obj)) : Prop :=
 ∃ oC m₂ cs, cells = (C, oC) :: cs ∧ (∀ q ∈ cs, q.1 ≠ C) ∧ NsObj oC m₂ ∧ (∀ p ∈ ts, ∃ v y, ρ p.2 = some v ∧ m₂ p.1 = some y ∧ VR W v y) ∧ (∀ j, (∀ p ∈ ts, p.2 ≠ j) → ρ j = ρ0 j) ∧ Γ.Own W ρ0 m cs
noncomputable def ZbA (Γ : Cx) (scope : Scope) (cl : List (Str × Addr)) (C : Addr) (ts : List (Str × Nat)) (ρ0 : Lc) : Cx where
 A := Γ.A
 env := compEnvC scope cl C Γ.env
 h₀ := Γ.h₀
 L := Γ.L
 hh := Γ.hh
 hu := Γ.hu
 Own := Zx4 Γ C ts ρ0
 mono := fun l h => by
  obtain ⟨oC, m₂, cs, e, h0, h1, h2, h3, h4⟩ := h
  exact ⟨oC, m₂, cs, e, h0, h1, fun p hp => by
   obtain ⟨v, y, a, b, c⟩ := h2 p hp
   exact ⟨v, y, a, b, c.mono l⟩, h3, Γ.mono l h4⟩
section
variable {Γ : Cx} {scope : Scope} {cl : List (Str × Addr)} {C : Addr} {ts : List (Str × Nat)} {ρ0 : Lc} {W : Wd} {ρ : Lc} {H : Hp} {fr : List (Addr × Obj)} {h : Heap}
theorem ZqG {oC : Obj} {m₂ : Str → Option Value} (r : Rep Γ W ρ0 H ((C, oC) :: fr) h) (ap : ∀ t ∈ fr, C ≠ t.1) (hC : NsObj oC m₂) (ht : ∀ p ∈ ts, ∃ v y, ρ p.2 = some v ∧ m₂ p.1 = some y ∧ VR W v y) (hj : ∀ j, (∀ p ∈ ts, p.2 ≠ j) → ρ j = ρ0 j) : Rep (ZbA Γ scope cl C ts ρ0) W ρ H fr h := by
 obtain ⟨m, c, led, r⟩ := r
 refine ⟨m, (C, oC) :: c, led, ⟨r.F, r.N, r.R, r.sc, r.sc0, fun q hq => r.frIn q (Zz2 _ hq), fun q hq => r.frOff q (Zz2 _ hq), fun q hq => ?_, fun q hq => ?_, fun q hq t ht => ?_, fun q hq => r.frTup q (Zz2 _ hq), fun q hq t ht => ?_, ⟨oC, m₂, c, rfl, fun q hq => r.apart q hq _ Zz5, hC, ht, hj, r.own⟩⟩⟩
 ·rcases Zz7.mp hq with e | hq
  ·exact e ▸ r.frIn _ Zz5
  ·exact r.clIn q hq
 ·rcases Zz7.mp hq with e | hq
  ·exact e ▸ r.frOff _ Zz5
  ·exact r.clOff q hq
 ·rcases Zz7.mp hq with e | hq
  ·exact e ▸ ap t ht
  ·exact r.apart q hq t (Zz2 _ ht)
 ·rcases Zz7.mp hq with e | hq
  ·exact e ▸ r.frTup _ Zz5 t ht
  ·exact r.clTup q hq t ht
theorem Rep.fromC (r : Rep (ZbA Γ scope cl C ts ρ0) W ρ H fr h) : ∃ oC m₂, NsObj oC m₂ ∧ Rep Γ W ρ0 H ((C, oC) :: fr) h := by
 obtain ⟨m, c, led, r⟩ := r
 obtain ⟨oC, m₂, cs, e, h0, h1, h2, h3, h4⟩ := r.own
 subst e
 refine ⟨oC, m₂, h1, m, cs, led, ⟨r.F, r.N, r.R, r.sc, r.sc0, fun q hq => ?_, fun q hq => ?_, fun q hq => r.clIn q (Zz2 _ hq), fun q hq => r.clOff q (Zz2 _ hq), fun q hq t ht => ?_, fun q hq t ht => ?_, fun q hq => r.clTup q (Zz2 _ hq), h4⟩⟩
 ·rcases Zz7.mp hq with e | hq
  ·exact e ▸ r.clIn _ Zz5
  ·exact r.frIn q hq
 ·rcases Zz7.mp hq with e | hq
  ·exact e ▸ r.clOff _ Zz5
  ·exact r.frOff q hq
 ·rcases Zz7.mp ht with e | ht
  ·rw [e]
   exact h0 q hq
  ·exact r.apart q (Zz2 _ hq) t ht
 ·rcases Zz7.mp hq with e | hq
  ·exact e ▸ r.clTup _ Zz5 t ht
  ·exact r.frTup q hq t ht
end
noncomputable def JF (prog : Program) (w : World) (Γ : Cx) (ifs : List Expr) (f : Ts) : Prop := ∀ (W : Wd) (ρ : Lc) (H : Hp) (fr : List (Addr × Obj)) (s : Shared) (Q : Bool → Shared → Prop) (E : Value → Shared → Prop) (b : Bool) (H' : Hp),
 Rep Γ W ρ H fr s.heap → f ρ H = some (b, H') → Zjf Γ W ρ H' fr s Q b →
 wpAny (model prog w) Γ.A (forIn ifs true fun c r => if r = true then do let ok ← isTrue c Γ.env (eval c Γ.env); pure (ForInStep.yield ok) else pure (ForInStep.yield r)) Q E s
section
variable {prog : Program} {w : World} {Γ : Cx}
theorem JF.nil : JF prog w Γ [] Zan := fun W ρ H fr s Q E b H' r hf post => by
 cases hf
 exact wpAny_pure (post W s.heap s.toks (.refl W) r)
theorem JF.one {e : Expr} {t : Ts} (h : JT prog w Γ e t) : JF prog w Γ [e] t := fun W ρ H fr s Q E b H' r hf post => by
 rw [List.forIn_cons]
 simp only [if_true, List.forIn_nil]
 refine wpAny_bind (wpAny_bind (h W ρ H fr s _ E b H' r hf fun W1 k1 t1 l1 r1 => wpAny_pure ?_))
 exact wpAny_pure (post W1 k1 t1 l1 r1)
end
end PM
end
section
set_option autoImplicit false
namespace PM
open PySem PySem.W PySem.Calls PyProof.Rows PyProof PyProof.Rows.LCg
noncomputable def ZcX (nx : Nx) (put : V → Lc → Option Lc) (c : Ts) (f : Ex) (ρ : Lc) : Nat → Nat → List V → Hp → Option (List V × Hp)
 | 0, _, _, _ => none
 | n + 1, i, acc, H => (nx i H).bind fun o => match o with
  | none => some (acc, H)
  | some v => (put v ρ).bind fun ρ1 => (c ρ1 H).bind fun b => if b.1 then (f ρ1 b.2).bind fun p => (if acc.length < LEN then ZcX nx put c f ρ n (i + 1) (acc ++ [p.1]) p.2 else none) else ZcX nx put c f ρ n (i + 1) acc b.2
noncomputable def ZaJ (g : Src) (put : V → Lc → Option Lc) (c : Ts) (f : Ex) : Ex := fun ρ H => (g ρ H).bind fun z => (ZcX z.1 put c f ρ z.2.1 0 [] z.2.2).map fun q => (.ref q.2.length, q.2 ++ [q.1])
noncomputable def Zhd (Γ : Cx) (W0 : Wd) (ρ : Lc) (fr : List (Addr × Obj)) (C D : Addr) (It : Nat → List (Addr × Obj) → Prop) (nx : Nx) (put : V → Lc → Option Lc) (c : Ts) (f : Ex) (q : List V × Hp) (s : Shared) (k : Nat) (s' : Shared) : Prop :=
 ∃ W' H' h' tk' j fs acc ys oC m₂, s' = { s with heap := h', toks := tk' } ∧ W0.Le W' ∧ It j fs ∧ NsObj oC m₂ ∧ VRs W' acc ys ∧ acc.length ≤ LEN ∧ Rep Γ W' ρ H' ((C, oC) :: (D, lst ys) :: (fs ++ fr)) h' ∧ ZcX nx put c f ρ k j acc H' = some q
section
variable {prog : Program} {w : World} {Γ : Cx}
theorem ZpM {scope : Scope} {cl : List (Str × Addr)} {elt : Expr} {ts : List (Str × Nat)} {W0 W : Wd} {ρ ρ1 : Lc} {H : Hp} {fr fs : List (Addr × Obj)} {C D : Addr} {It : Nat → List (Addr × Obj) → Prop} {nx : Nx} {put : V → Lc → Option Lc} {c : Ts} {f : Ex} {q : List V × Hp} {s : Shared} {h : Heap} {tk : Nat} {k j : Nat} {acc : List V} {ys : List Value} {E : Value → Shared → Prop}
  (hel : J prog w (ZbA Γ scope cl C ts ρ) elt f) (aD : ∀ t ∈ fs ++ fr, D ≠ t.1) (cd : C ≠ D) (l0 : W0.Le W) (hit : It (j + 1) fs) (hv : VRs W acc ys) (r : Rep (ZbA Γ scope cl C ts ρ) W ρ1 H ((D, lst ys) :: (fs ++ fr)) h)
  (e : ((f ρ1 H).bind fun p => (if acc.length < LEN then ZcX nx put c f ρ k (j + 1) (acc ++ [p.1]) p.2 else none)) = some q) :
  wpAny (model prog w) Γ.A (eval elt (compEnvC scope cl C Γ.env)) (fun x s₄ => wpAny (model prog w) Γ.A (call (.builtin "list.append") [.ref D, x]) (fun _ s₅ => ∃ m, m < k + 1 ∧ Zhd Γ W0 ρ fr C D It nx put c f q s m s₅) E s₄) E { s with heap := h, toks := tk } := by
 obtain ⟨p, e2, e⟩ := Zz0.mp e
 by_cases hlt : acc.length < LEN
 ·rw [if_pos hlt] at e
  refine hel W ρ1 H _ _ _ E _ _ r e2 fun W2 k2 t2 x l2 r2 x2 => ?_
  obtain ⟨oC', m₃, hC', r3⟩ := r2.fromC
  have hD : k2.get? D = some (lst ys) := r3.frAt (q := (D, lst ys)) (Zz2 _ Zz5)
  refine append_at (hsz := Zdj (by rw [List.size_toArray, hv.length]; omega)) hD fun h' sb hg => ?_
  have hg' : h'.get? D = some (lst (ys ++ [x])) := hg.trans (congrArg some (lst_snoc ys x))
  have r4 : Rep Γ W2 ρ p.2 ([(D, lst ys)] ++ ((C, oC') :: (fs ++ fr))) k2 := r3.less fun q hq => by
   rcases Zz8.mp hq with hq | hq
   ·rw [List.mem_singleton.mp hq]
    exact Zz2 _ Zz5
   ·rcases Zz7.mp hq with e | hq
    ·exact e ▸ List.mem_cons_self
    ·exact Zz2 _ (Zz2 _ hq)
  have r5 : Rep Γ W2 ρ p.2 ([(D, lst (ys ++ [x]))] ++ ((C, oC') :: (fs ++ fr))) h' := by
   refine r4.swap (fun q hq t ht => ?_) (fun b o hb e => sb.extBut b o (fun z => hb (by simp [z])) e) fun q hq => ?_
   ·rw [List.mem_singleton.mp hq]
    rcases Zz7.mp ht with e | ht
    ·rw [e]
     exact cd.symm
    ·exact aD t ht
   ·rw [List.mem_singleton.mp hq]
    exact ⟨hg', by simp⟩
  have r6 : Rep Γ W2 ρ p.2 ((C, oC') :: (D, lst (ys ++ [x])) :: (fs ++ fr)) h' := r5.less fun q hq => by
   rcases Zz7.mp hq with e | hq
   ·exact e ▸ List.mem_append_right _ Zz5
   ·rcases Zz7.mp hq with e | hq
    ·exact e ▸ List.mem_append_left _ Zz5
    ·exact Zz3 _ (Zz2 _ hq)
  exact ⟨k, Nat.lt_succ_self k, W2, p.2, h', t2, j + 1, fs, acc ++ [p.1], ys ++ [x], oC', m₃, rfl, l0.trans l2, hit, hC', (hv.mono l2).snoc x2, by simp; omega, r6, e⟩
 ·rw [if_neg hlt] at e
  cases e
theorem ZuK {scope : Scope} {cl : List (Str × Addr)} {elt : Expr} {ifs : List Expr} {ts : List (Str × Nat)} {W0 W : Wd} {ρ ρ1 : Lc} {H : Hp} {fr fs : List (Addr × Obj)} {C D : Addr} {It : Nat → List (Addr × Obj) → Prop} {nx : Nx} {put : V → Lc → Option Lc} {c : Ts} {f : Ex} {q : List V × Hp} {s s1 : Shared} {k j : Nat} {acc : List V} {ys : List Value} {oC : Obj} {m₂ : Str → Option Value} {E : Value → Shared → Prop}
  (hel : J prog w (ZbA Γ scope cl C ts ρ) elt f) (hif : JF prog w (ZbA Γ scope cl C ts ρ) ifs c) (hs : ∃ h tk, s1 = { s with heap := h, toks := tk })
  (aC : ∀ t ∈ (D, lst ys) :: (fs ++ fr), C ≠ t.1) (aD : ∀ t ∈ fs ++ fr, D ≠ t.1) (l0 : W0.Le W) (hit : It (j + 1) fs) (hC : NsObj oC m₂) (hv : VRs W acc ys) (hl : acc.length ≤ LEN) (r : Rep Γ W ρ H ((C, oC) :: (D, lst ys) :: (fs ++ fr)) s1.heap)
  (ht : ∀ p ∈ ts, ∃ v y, ρ1 p.2 = some v ∧ m₂ p.1 = some y ∧ VR W v y) (hj : ∀ i, (∀ p ∈ ts, p.2 ≠ i) → ρ1 i = ρ i)
  (e : ((c ρ1 H).bind fun b => if b.1 then (f ρ1 b.2).bind fun p => (if acc.length < LEN then ZcX nx put c f ρ k (j + 1) (acc ++ [p.1]) p.2 else none) else ZcX nx put c f ρ k (j + 1) acc b.2) = some q) :
  wpAny (model prog w) Γ.A (forIn ifs true fun c r => if r = true then do let ok ← isTrue c (compEnvC scope cl C Γ.env) (eval c (compEnvC scope cl C Γ.env)); pure (ForInStep.yield ok) else pure (ForInStep.yield r)) (fun ok s₃ =>
   if ok = true then wpAny (model prog w) Γ.A (eval elt (compEnvC scope cl C Γ.env)) (fun x s₄ => wpAny (model prog w) Γ.A (call (.builtin "list.append") [.ref D, x]) (fun _ s₅ => ∃ m, m < k + 1 ∧ Zhd Γ W0 ρ fr C D It nx put c f q s m s₅) E s₄) E s₃
   else ∃ m, m < k + 1 ∧ Zhd Γ W0 ρ fr C D It nx put c f q s m s₃) E s1 := by
 obtain ⟨h, tk, rfl⟩ := hs
 obtain ⟨b, e1, e⟩ := Zz0.mp e
 obtain ⟨b, H1⟩ := b
 have rc := ZqG (scope := scope) (cl := cl) r aC hC ht hj
 refine hif W ρ1 H _ _ _ E b H1 rc e1 fun W1 k1 t1 l1 r1 => ?_
 cases b with
 | false =>
  obtain ⟨oC', m₃, hC', r2⟩ := r1.fromC
  exact ⟨k, Nat.lt_succ_self k, W1, H1, k1, t1, j + 1, fs, acc, ys, oC', m₃, rfl, l0.trans l1, hit, hC', hv.mono l1, hl, r2, e⟩
 | true => exact ZpM hel aD (aC (D, lst ys) Zz5) (l0.trans l1) hit (hv.mono l1) r1 e
theorem comp_core {elt iter : Expr} {x : Str} {px : Pos} {ifs : List Expr} {scope : Scope} {pos : Pos} {cl : List (Str × Addr)} {t : Nat} {g : Src} {c : Ts} {f : Ex} (hg : JI prog w Γ iter g) (hel : ∀ C ρ, J prog w (ZbA Γ scope cl C [(x, t)] ρ) elt f) (hif : ∀ C ρ, JF prog w (ZbA Γ scope cl C [(x, t)] ρ) ifs c)
  (hcell : ∀ y ∈ scope.names, y.2 ≠ .cell) (hkind : scope.kind = .function) (hx : scope.names.lookup x = some .local)
  {W : Wd} {ρ : Lc} {H : Hp} {fr : List (Addr × Obj)} {s : Shared} {E : Value → Shared → Prop} {q : List V × Hp} {RR : Value → Addr → Result → Shared → Prop} (r : Rep Γ W ρ H fr s.heap) (hf : ((g ρ H).bind fun z => ZcX z.1 (put1 t) c f ρ z.2.1 0 [] z.2.2) = some q)
  (hR : ∀ (W' : Wd) (h' : Heap) (tk' : Nat) (C D : Addr) (oC : Obj) (m₂ : Str → Option Value) (ys : List Value), W.Le W' → NsObj oC m₂ → VRs W' q.1 ys → q.1.length ≤ LEN → (∀ t ∈ fr, D ≠ t.1) → (∀ t ∈ fr, C ≠ t.1) → C ≠ D → Rep Γ W' ρ q.2 ((C, oC) :: (D, lst ys) :: fr) h' → RR (.ref D) C (.ok .next) { s with heap := h', toks := tk' }) :
  wpAny (model prog w) Γ.A (eval iter Γ.env) (fun xv s₁ => wpAny (model prog w) Γ.A (pyIter xv) (fun it s₂ => wpAny (model prog w) Γ.A (newList []) (fun acc s₃ => wpAny (model prog w) Γ.A (newFunctionEnv scope Γ.env.globals cl [] Γ.env.qual none .none (some Γ.env)) (fun cenv s₄ =>
   codeAny (model prog w) Γ.A (.compStart (.ListComp elt [⟨.Name x px, iter, ifs, 0⟩] scope pos) 0 it acc { cenv with scope := relabel scope Γ.env }) (RR acc cenv.locals) s₄) E s₃) E s₂) E s₁) E s := by
 obtain ⟨z, e1, e2⟩ := Zz0.mp hf
 obtain ⟨nx, n, H0⟩ := z
 refine hg W ρ H fr s _ E nx n H0 r e1 fun W1 k1 t1 itv as It fs l1 i1 r1 ap I1 => ?_
 refine wpAny_newObj_type (wpAny_newFunctionEnv hcell (fun y hy => by simp at hy) (fun h₂ hns hsb => ?_) hkind)
 dsimp only at hns hsb ⊢
 obtain ⟨rD, aD⟩ := r1.more (fs := [(k1.objs.size, lst [])]) (fun b o e => Heap.get?_push_of_some (lst []) e) (fun q hq => by rw [List.mem_singleton.mp hq]; exact ⟨Heap.get?_push_size _ rfl, Nat.le_refl _⟩)
 generalize eH : k1.push { cls := .type "list", dict := none, data := .seq ([] : List Value).toArray } = K at hns hsb ⊢
 have eK : k1.push (lst []) = K := eH
 rw [eK] at rD
 obtain ⟨oC, gC, nC⟩ := ns_obj hns
 have up : ∀ b o, K.get? b = some o → h₂.get? b = some o := fun b o e => hsb.extBut b o (Nat.ne_of_lt (Heap.lt_size e)) (Heap.get?_push_of_some _ e)
 obtain ⟨rC, aC⟩ := rD.more (fs := [(K.objs.size, oC)]) up (fun q hq => by rw [List.mem_singleton.mp hq]; exact ⟨gC, Nat.le_refl _⟩)
 have adr0 := I1.adr 0 fs i1
 have offs : ∀ b ∈ as, b ≠ k1.objs.size ∧ b ≠ K.objs.size := fun b hb => by
  rw [← adr0] at hb
  obtain ⟨q, hq, e⟩ := Zz11.mp hb
  exact ⟨e ▸ (aD _ Zz5 q (Zz4 _ hq)).symm, e ▸ (aC _ Zz5 q (Zz3 _ (Zz4 _ hq))).symm⟩
 have cd : K.objs.size ≠ k1.objs.size := aC _ Zz5 (k1.objs.size, lst []) (Zz4 _ Zz5)
 have cfr : ∀ t ∈ fr, K.objs.size ≠ t.1 := fun t ht => aC _ Zz5 t (Zz3 _ (Zz3 _ ht))
 have dfr : ∀ t ∈ fr, k1.objs.size ≠ t.1 := fun t ht => aD _ Zz5 t (Zz3 _ ht)
 generalize k1.objs.size = D at *
 generalize K.objs.size = C at *
 have loop : ∀ s₃ : Shared, s₃ = { s with heap := h₂, toks := t1 + ([] : List (Str × Value)).length } →
   codeAny (model prog w) Γ.A (.compLoop (.ListComp elt [⟨.Name x px, iter, ifs, 0⟩] scope pos) 0 itv (.ref D) (compEnvC scope cl C Γ.env)) (RR (.ref D) C) s₃ := by
  intro s₃ hs₃
  subst hs₃
  refine codeAny_compLoop_tests (Zhd Γ W1 ρ fr C D It nx (put1 t) c f q s) ?_ n ⟨W1, H0, h₂, _, 0, fs, [], [], oC, _, rfl, .refl _, i1, nC, .nil, Nat.zero_le _, rC, e2⟩
  rintro k s' ⟨W2, H2, k2, t2, j, fs2, acc, ys, oC2, m₂, rfl, l2, i2, hC2, hv2, hl2, r2, e⟩
  cases k with
  | zero => cases e
  | succ k =>
   obtain ⟨o, e4, e⟩ := Zz0.mp e
   have r2' : Rep Γ W2 ρ H2 (fs2 ++ ((C, oC2) :: (D, lst ys) :: fr)) k2 := r2.less fun q hq => by
    rcases Zz8.mp hq with hq | hq
    ·exact Zz2 _ (Zz2 _ (Zz4 _ hq))
    ·rcases Zz7.mp hq with e | hq
     ·exact e ▸ List.mem_cons_self
     ·rcases Zz7.mp hq with e | hq
      ·exact e ▸ List.mem_cons_of_mem _ Zz5
      ·exact Zz2 _ (Zz2 _ (Zz3 _ hq))
   have ap2 : ∀ b ∈ as, ∀ t ∈ (C, oC2) :: (D, lst ys) :: fr, b ≠ t.1 := fun b hb t ht => by
    rcases Zz7.mp ht with e | ht
    ·rw [e]
     exact (offs b hb).2
    ·rcases Zz7.mp ht with e | ht
     ·rw [e]
      exact (offs b hb).1
     ·exact ap b hb t ht
   refine I1.next j W2 ρ H2 _ fs2 _ _ _ o l2 r2' ap2 i2 e4 ?_
   cases o with
   | none =>
    cases e
    intro h' tk' r3
    exact hR W2 h' tk' C D oC2 m₂ ys (l1.trans l2) hC2 hv2 hl2 dfr cfr cd r3
   | some v =>
    intro fs3 k3 t3 y i3 r3 y3
    obtain ⟨ρ3, e5, e⟩ := Zz0.mp e
    cases e5
    have a3 : ∀ t ∈ fs3, t.1 ∈ as := fun t ht => by
     rw [← I1.adr _ _ i3]
     exact List.mem_map_of_mem ht
    have gC3 : k3.get? C = some oC2 := r3.frAt (q := (C, oC2)) (Zz3 _ Zz5)
    have nC3 : k3.Ns C m₂ := hC2.ns gC3
    refine wpAny_assign_Name (wpAny_storeName_local (lookup_relabel_local hx) nC3 (fun h4 hn4 sb4 => ?_) (by simp [compEnvC, relabel, hkind]))
    obtain ⟨oC4, gC4, nC4⟩ := ns_obj hn4
    have r3' : Rep Γ W2 ρ H2 ([(C, oC2)] ++ ((D, lst ys) :: (fs3 ++ fr))) k3 := r3.less fun q hq => by
     rcases Zz8.mp hq with hq | hq
     ·rw [List.mem_singleton.mp hq]
      exact Zz3 _ Zz5
     ·rcases Zz7.mp hq with e | hq
      ·exact e ▸ List.mem_append_right _ (Zz2 _ Zz5)
      ·rcases Zz8.mp hq with hq | hq
       ·exact Zz4 _ hq
       ·exact Zz3 _ (Zz2 _ (Zz2 _ hq))
    have aC3 : ∀ t ∈ (D, lst ys) :: (fs3 ++ fr), C ≠ t.1 := fun t ht => by
     rcases Zz7.mp ht with e | ht
     ·rw [e]
      exact cd
     ·rcases Zz8.mp ht with ht | ht
      ·exact (offs _ (a3 t ht)).2.symm
      ·exact cfr t ht
    have aD3 : ∀ t ∈ fs3 ++ fr, D ≠ t.1 := fun t ht => by
     rcases Zz8.mp ht with ht | ht
     ·exact (offs _ (a3 t ht)).1.symm
     ·exact dfr t ht
    have r4 : Rep Γ W2 ρ H2 ([(C, oC4)] ++ ((D, lst ys) :: (fs3 ++ fr))) h4 := by
     refine r3'.swap (fun q hq t ht => ?_) (fun b o hb e => sb4.extBut b o (fun z => hb (by simp [z, compEnvC])) e) fun q hq => ?_
     ·rw [List.mem_singleton.mp hq]
      exact aC3 t ht
     ·rw [List.mem_singleton.mp hq]
      exact ⟨gC4, by simp⟩
    refine ZuK (hel C ρ) (hif C ρ) ⟨h4, _, rfl⟩ aC3 aD3 l2 i3 nC4 hv2 hl2 r4 (fun p hp => ?_) (fun i hi => ?_) e
    ·rw [List.mem_singleton.mp hp]
     exact ⟨v, y, by simp [upd], by simp, y3⟩
    ·have : i ≠ t := fun e => hi (x, t) Zz5 e.symm
     simp [upd, this]
 refine codeAny_compStart_list (loop _ rfl) ?_
 exact I1.self 0 W1 ρ H0 (([(C, oC)] ++ [(D, lst [])]) ++ fr) fs _ _ _ (.refl _) (rC.less fun q hq => by
  rcases Zz8.mp hq with hq | hq
  ·exact Zz3 _ (Zz3 _ (Zz4 _ hq))
  ·rcases Zz8.mp hq with hq | hq
   ·rcases Zz8.mp hq with hq | hq
    ·exact Zz4 _ hq
    ·exact Zz3 _ (Zz4 _ hq)
   ·exact Zz3 _ (Zz3 _ (Zz3 _ hq))) i1 (loop _ rfl)
theorem Zp6 {W : Wd} {ρ : Lc} {q : List V × Hp} {fr : List (Addr × Obj)} {C D : Addr} {oC : Obj} {ys : List Value} {h' h'' : Heap} (hv : VRs W q.1 ys) (hl : q.1.length ≤ LEN) (aD : ∀ t ∈ fr, D ≠ t.1) (aC : ∀ t ∈ fr, C ≠ t.1) (cd : C ≠ D) (r : Rep Γ W ρ q.2 ((C, oC) :: (D, lst ys) :: fr) h') (sb : Heap.SameBut C h' h'') :
  ∃ W', W.Le W' ∧ Rep Γ W' ρ (q.2 ++ [q.1]) fr h'' ∧ VR W' (.ref q.2.length) (.ref D) := by
 have r4 : Rep Γ W ρ q.2 ([] ++ ((D, lst ys) :: fr)) h'' := by
  refine Rep.swap (fs := [(C, oC)]) (fs' := []) r (fun q hq t ht => ?_) (fun b o hb e => sb.extBut b o (fun z => hb (by simp [z])) e) fun q hq => nomatch hq
  rw [List.mem_singleton.mp hq]
  rcases Zz7.mp ht with e | ht
  ·rw [e]
   exact cd
  ·exact aC t ht
 exact Zgs r4 aD hv hl
theorem ZwM {elt iter : Expr} {x : Str} {px : Pos} {ifs : List Expr} {scope : Scope} {pos : Pos} {cl : List (Str × Addr)} {t : Nat} {g : Src} {c : Ts} {f : Ex} (hg : JI prog w Γ iter g) (hel : ∀ C ρ, J prog w (ZbA Γ scope cl C [(x, t)] ρ) elt f) (hif : ∀ C ρ, JF prog w (ZbA Γ scope cl C [(x, t)] ρ) ifs c)
  (hclos : closureFor scope Γ.env = pure cl) (hcell : ∀ y ∈ scope.names, y.2 ≠ .cell) (hkind : scope.kind = .function) (hnames : ∀ y ∈ scope.names, y.2 = .local → scope.names.lookup y.1 = some .local) (hx : scope.names.lookup x = some .local) (hs : ∀ x, foldedSetIterable iter Γ.env x = pure x := by intro _; rfl) :
  J prog w Γ (.ListComp elt [⟨.Name x px, iter, ifs, 0⟩] scope pos) (ZaJ g (put1 t) c f) := by
 intro W ρ H fr s Q E v H' r hf post
 obtain ⟨z, e1, hf⟩ := Zz0.mp hf
 obtain ⟨q, e2, e3⟩ := Zz1.mp hf
 cases e3
 rw [eval_ListComp]
 refine wpAny_comprehension_free (use := Option.none) rfl hs hclos hkind hnames ?_
 refine comp_core (RR := fun acc C => compPost (model prog w) Γ.A E Option.none Q acc C) hg hel hif hcell hkind hx r (q := q) (by rw [e1]; exact e2) fun W2 h' tk' C D oC m₂ ys l2 hC hv hl aD aC cd r3 => ?_
 refine ⟨m₂, hC.ns (r3.frAt (q := (C, oC)) Zz5), fun h'' sb => ?_⟩
 obtain ⟨W5, l5, r5, v5⟩ := Zp6 hv hl aD aC cd r3 sb
 exact post W5 h'' tk' _ (l2.trans l5) r5 v5
theorem Ztv {elt iter : Expr} {x y : Str} {px py pos spos : Pos} {ifs : List Expr} {scope : Scope} {cl : List (Str × Addr)} {t i : Nat} {g : Src} {c : Ts} {f : Ex} (hy : Sto prog w Γ y i) (hg : JI prog w Γ iter g) (hel : ∀ C ρ, J prog w (ZbA Γ scope cl C [(x, t)] ρ) elt f) (hif : ∀ C ρ, JF prog w (ZbA Γ scope cl C [(x, t)] ρ) ifs c)
  (hsw : swapsWith (.ListComp elt [⟨.Name x px, iter, ifs, 0⟩] scope pos) (some (.Name y py)) spos.line Γ.env = pure true)
  (hclos : closureFor scope Γ.env = pure cl) (hcell : ∀ y ∈ scope.names, y.2 ≠ .cell) (hkind : scope.kind = .function) (hnames : ∀ y ∈ scope.names, y.2 = .local → scope.names.lookup y.1 = some .local) (hx : scope.names.lookup x = some .local) (hs : ∀ x, foldedSetIterable iter Γ.env x = pure x := by intro _; rfl) :
  S1 prog w Γ (.Assign [.Name y py] (.ListComp elt [⟨.Name x px, iter, ifs, 0⟩] scope pos) spos) (ZO i (ZaJ g (put1 t) c f)) := by
 intro W ρ H fr s Q E r rp hf post
 obtain ⟨p, e0, e9⟩ := Zz1.mp hf
 cases e9
 obtain ⟨z, e1, hf⟩ := Zz0.mp e0
 obtain ⟨q, e2, e3⟩ := Zz1.mp hf
 cases e3
 rw [exec_Assign_Name_used _ _ _ _ hsw]
 refine wpAny_bind (wpAny_standAt (wpAny_bind ?_))
 show wpAny _ Γ.A (do let _ ← comprehension (.ListComp elt [⟨.Name x px, iter, ifs, 0⟩] scope pos) scope Γ.env _ (newList []) false (eval iter Γ.env) (some (assign (.Name y py) Γ.env))) _ _ s
 refine wpAny_bind (wpAny_mono (wpAny_comprehension_free (use := some (assign (.Name y py) Γ.env)) (Q := fun _ s' => Q .next s') rfl hs hclos hkind hnames ?_) (fun _ s' h' => wpAny_pure (wpAny_pure h')) fun _ _ e => e)
 refine comp_core (RR := fun acc C => compPost (model prog w) Γ.A E (some (assign (.Name y py) Γ.env)) (fun _ s' => Q .next s') acc C) hg hel hif hcell hkind hx rp (q := q) (by rw [e1]; exact e2) fun W2 h' tk' C D oC m₂ ys l2 hC hv hl aD aC cd r3 => ?_
 have r4 : Rep Γ W2 ρ q.2 ((D, lst ys) :: (C, oC) :: fr) h' := r3.less fun t ht => by
  rcases Zz7.mp ht with e | ht
  ·exact e ▸ List.mem_cons_of_mem _ Zz5
  ·rcases Zz7.mp ht with e | ht
   ·exact e ▸ List.mem_cons_self
   ·exact Zz2 _ (Zz2 _ ht)
 obtain ⟨W5, l5, r5, v5⟩ := Zgs r4 (fun t ht => by
  rcases Zz7.mp ht with e | ht
  ·rw [e]
   exact cd.symm
  ·exact aD t ht) hv hl
 refine wpAny_assign_Name (hy W5 ρ _ _ _ _ _ _ _ r5 v5 fun h6 t6 r6 => ?_)
 refine ⟨m₂, hC.ns (r6.frAt (q := (C, oC)) Zz5), fun h'' sb => ?_⟩
 have r7 : Rep Γ W5 (upd ρ i (.ref q.2.length)) (q.2 ++ [q.1]) ([] ++ fr) h'' :=
  Rep.swap (fs := [(C, oC)]) (fs' := []) r6 (fun q hq t ht => by rw [List.mem_singleton.mp hq]; exact aC t ht) (fun b o hb e => sb.extBut b o (fun z => hb (by simp [z])) e) fun q hq => nomatch hq
 exact post W5 h'' t6 (l2.trans l5) r7
end
end PM
end
section
set_option autoImplicit false
namespace PM
open PySem PySem.W PySem.Calls PyProof.Rows PyProof PyProof.Rows.LCg PyProof.Rows.LCp
theorem ZoC (h : Heap) : ∀ as : List Addr, (∀ a ∈ as, ∃ o, h.get? a = some o) → ∃ fs : List (Addr × Obj), fs.map (·.1) = as ∧ ∀ q ∈ fs, h.get? q.1 = some q.2
 | [], _ => ⟨[], rfl, fun q hq => nomatch hq⟩
 | a :: as, d => by
  obtain ⟨o, ho⟩ := d a Zz5
  obtain ⟨fs, h1, h2⟩ := ZoC h as fun b hb => d b (Zz2 _ hb)
  refine ⟨(a, o) :: fs, by rw [List.map_cons, h1], fun q hq => ?_⟩
  rcases Zz7.mp hq with e | hq
  ·rw [e]
   exact ho
  ·exact h2 q hq
structure Itr2 (prog : Program) (w : World) (Γ : Cx) (W0 : Wd) (it : Value) (as : List Addr) (It : Nat → List (Addr × Obj) → Prop) (nx : Nx) : Prop where
 adr : ∀ i fs, It i fs → fs.map (·.1) = as
 pair : ∀ i H v, nx i H = some (some v) → ∃ a b, v = .tup [a, b]
 item : ∀ (i : Nat) (W : Wd) (ρ : Lc) (H : Hp) (fr fs : List (Addr × Obj)) (s : Shared) (Q : Option Value → Shared → Prop) (E : Value → Shared → Prop) (a b : V), W0.Le W → Rep Γ W ρ H (fs ++ fr) s.heap → (∀ a ∈ as, ∀ t ∈ fr, a ≠ t.1) → It i fs → nx i H = some (some (.tup [a, b])) →
  (∀ (T : Addr) (h1 : Heap) (t1 : Nat) , (∀ (elts : List Expr) (k : Nat) (pos : Pos) (s1 : Shared) (Q1 : Unit → Shared → Prop) (E1 : Value → Shared → Prop), s1 = { s with heap := h1, toks := t1 } →
    (∀ (fs' : List (Addr × Obj)) (h' : Heap) (x y : Value), It (i + 1) fs' → Rep Γ W ρ H (fs' ++ fr) h' → IsTup h' T #[x, y] → VR W a x → VR W b y → Q1 () { s with heap := h', toks := t1 }) → wpAny (model prog w) Γ.A (letOwnedTupleGo (.Tuple elts k pos) it (.ref T)) Q1 E1 s1) → Q (some (.ref T)) { s with heap := h1, toks := t1 }) → wpAny (model prog w) Γ.A (pyNext it) Q E s
 done : ∀ (i : Nat) (W : Wd) (ρ : Lc) (H : Hp) (fr fs : List (Addr × Obj)) (s : Shared) (Q : Option Value → Shared → Prop) (E : Value → Shared → Prop), W0.Le W → Rep Γ W ρ H (fs ++ fr) s.heap → (∀ a ∈ as, ∀ t ∈ fr, a ≠ t.1) → It i fs → nx i H = some none →
  (∀ (h' : Heap) (tk' : Nat), Rep Γ W ρ H fr h' → Q none { s with heap := h', toks := tk' }) → wpAny (model prog w) Γ.A (pyNext it) Q E s
 self : ∀ (i : Nat) (W : Wd) (ρ : Lc) (H : Hp) (fr fs : List (Addr × Obj)) (s : Shared) (Q E : Value → Shared → Prop) (o : Option V), W0.Le W → Rep Γ W ρ H (fs ++ fr) s.heap → It i fs → nx i H = some o → Q it s → wpAny (model prog w) Γ.A (pyIter it) Q E s
noncomputable def JI2 (prog : Program) (w : World) (Γ : Cx) (e : Expr) (g : Src) : Prop := ∀ (W : Wd) (ρ : Lc) (H : Hp) (fr : List (Addr × Obj)) (s : Shared) (Q E : Value → Shared → Prop) (nx : Nx) (n : Nat) (H' : Hp),
 Rep Γ W ρ H fr s.heap → g ρ H = some (nx, n, H') →
 (∀ (W' : Wd) (h' : Heap) (tk' : Nat) (it : Value) (as : List Addr) (It : Nat → List (Addr × Obj) → Prop) (fs : List (Addr × Obj)), W.Le W' → It 0 fs → Rep Γ W' ρ H' (fs ++ fr) h' → (∀ a ∈ as, ∀ t ∈ fr, a ≠ t.1) → Itr2 prog w Γ W' it as It nx → (∃ o, nx 0 H' = some o) → Q it { s with heap := h', toks := tk' }) →
 wpAny (model prog w) Γ.A (eval e Γ.env) (fun xv s₁ => wpAny (model prog w) Γ.A (pyIter xv) Q E s₁) E s
noncomputable def Zg7 (a b : Nat) : Nx := fun i H => H[a]?.bind fun vs => H[b]?.bind fun us => match vs[i]?, us[i]? with
 | some x, some y => some (some (.tup [x, y]))
 | _, _ => if i = min vs.length us.length then some none else none
noncomputable def Zd8 (f g : Ex) : Src := fun ρ H => (f ρ H).bind fun p => (g ρ p.2).bind fun q => match p.1, q.1 with
 | .ref a, .ref b => q.2[a]?.bind fun vs => q.2[b]?.map fun us => (Zg7 a b, min vs.length us.length + 1, q.2)
 | _, _ => none
noncomputable def ZcB (i j : Nat) : V → Lc → Option Lc
 | .tup [a, b], ρ => some (upd (upd ρ i a) j b)
 | _, _ => none
noncomputable def ZS (z TI TO i1 i2 l1 l2 : Addr) (i : Nat) (h : Heap) : Prop := IsZip h z TI TO .none ∧ PySem.IsPair h TI (.ref i1) (.ref i2) ∧ (∃ a b, PySem.IsPair h TO a b) ∧ h.IsListIter i1 l1 i ∧ h.IsListIter i2 l2 i
theorem ZS.at {z TI TO i1 i2 l1 l2 : Addr} {i : Nat} {h h' : Heap} (x : ZS z TI TO i1 i2 l1 l2 i h) (e : ∀ a ∈ [z, TI, TO, i1, i2], ∀ o, h.get? a = some o → h'.get? a = some o) : ZS z TI TO i1 i2 l1 l2 i h' := by
 obtain ⟨h1, h2, ⟨a, b, h3⟩, h4, h5⟩ := x
 exact ⟨e z (by simp) _ h1, e TI (by simp) _ h2, ⟨a, b, e TO (by simp) _ h3⟩, h4.at fun o x => e i1 (by simp) o x, h5.at fun o x => e i2 (by simp) o x⟩
theorem ZS.have {z TI TO i1 i2 l1 l2 : Addr} {i : Nat} {h : Heap} (x : ZS z TI TO i1 i2 l1 l2 i h) : ∀ a ∈ [z, TI, TO, i1, i2], ∃ o, h.get? a = some o := by
 obtain ⟨h1, h2, ⟨a, b, h3⟩, ⟨o4, h4, _⟩, ⟨o5, h5, _⟩⟩ := x
 intro c hc
 simp only [List.mem_cons, List.not_mem_nil, or_false] at hc
 rcases hc with e | e | e | e | e <;> subst e
 ·exact ⟨_, h1⟩
 ·exact ⟨_, h2⟩
 ·exact ⟨_, h3⟩
 ·exact ⟨_, h4⟩
 ·exact ⟨_, h5⟩
noncomputable def ZIt (z TI TO i1 i2 l1 l2 : Addr) (i : Nat) (fs : List (Addr × Obj)) : Prop := fs.map (·.1) = [z, TI, TO, i1, i2] ∧ ∀ h : Heap, (∀ q ∈ fs, h.get? q.1 = some q.2) → ZS z TI TO i1 i2 l1 l2 i h
theorem ZqH {z TI TO i1 i2 l1 l2 : Addr} {i : Nat} {h : Heap} (x : ZS z TI TO i1 i2 l1 l2 i h) : ∃ fs, ZIt z TI TO i1 i2 l1 l2 i fs ∧ ∀ q ∈ fs, h.get? q.1 = some q.2 := by
 obtain ⟨fs, h1, h2⟩ := ZoC h [z, TI, TO, i1, i2] x.have
 refine ⟨fs, ⟨h1, fun h' e => x.at fun a ha o ho => ?_⟩, h2⟩
 rw [← h1] at ha
 obtain ⟨q, hq, eq⟩ := Zz11.mp ha
 have := h2 q hq
 rw [eq, ho] at this
 cases this
 exact eq ▸ e q hq
section
variable {prog : Program} {w : World} {Γ : Cx}
theorem ZwN {W0 : Wd} {z TI TO i1 i2 l1 l2 : Addr} {a b : Nat} (ea : W0.pi[a]? = some l1) (eb : W0.pi[b]? = some l2) (D : ZipApart z TI TO i1 i2 l1 l2) :
  Itr2 prog w Γ W0 (.ref z) [z, TI, TO, i1, i2] (ZIt z TI TO i1 i2 l1 l2) (Zg7 a b) := by
 refine ⟨fun i fs h => h.1, ?_, ?_, ?_, ?_⟩
 ·intro i H v e
  obtain ⟨vs, e1, e⟩ := Zz0.mp e
  obtain ⟨us, e2, e⟩ := Zz0.mp e
  split at e
  ·cases e
   exact ⟨_, _, rfl⟩
  ·split at e <;> cases e
 ·intro i W ρ H fr fs s Q E va vb le r ap hit hn post
  obtain ⟨vs, e1, e⟩ := Zz0.mp hn
  obtain ⟨us, e2, e⟩ := Zz0.mp e
  have hvu : vs[i]? = some va ∧ us[i]? = some vb := by
   split at e
   ·rename_i x y h1 h2
    cases e
    exact ⟨h1, h2⟩
   ·split at e <;> cases e
  obtain ⟨_, xs, k1, g1, v1⟩ := r.at e1 (le.at ea)
  obtain ⟨_, ys, k2, g2, v2⟩ := r.at e2 (le.at eb)
  obtain ⟨x, hx, rx⟩ := v1.at hvu.1
  obtain ⟨y, hy, ry⟩ := v2.at hvu.2
  have st : ZS z TI TO i1 i2 l1 l2 i s.heap := hit.2 _ fun q hq => r.frAt (Zz4 _ hq)
  have Wk := WalksT.zip2 (prog := prog) (w := w) (A := Γ.A) Γ.hh z TI TO i1 i2 l1 l2 D xs.toArray ys.toArray
  have isl1 : s.heap.IsList l1 xs.toArray := ⟨_, g1, rfl, k1, rfl⟩
  have isl2 : s.heap.IsList l2 ys.toArray := ⟨_, g2, rfl, k2, rfl⟩
  have hi : i < min xs.toArray.size ys.toArray.size := by
   have h1 := (Zz6.mp hx).1
   have h2 := (Zz6.mp hy).1
   simp
   omega
  refine Wk.item i s Q E hi ⟨st.1, st.2.1, st.2.2.1, st.2.2.2.1, st.2.2.2.2, isl1, isl2⟩ fun T vals h1 t1 hp hT hTup hmid keep1 => post T h1 t1 ?_
  intro elts k pos s1 Q1 E1 es1 q1
  subst es1
  have hTw := Wk.apart i T _ hmid
  refine Wk.go elts k pos i T _ Q1 E1 hmid fun h2 st2 keep2 => ?_
  obtain ⟨x', y', hx', hy', ev⟩ := hp
  have ex : x' = x := by
   have : xs[i]? = some x' := by simpa using hx'
   rw [hx] at this
   exact (Option.some.inj this).symm
  have ey : y' = y := by
   have : ys[i]? = some y' := by simpa using hy'
   rw [hy] at this
   exact (Option.some.inj this).symm
  subst ex ey ev
  obtain ⟨fs', hit', at'⟩ := ZqH (h := h2) (⟨st2.1, st2.2.1, st2.2.2.1, st2.2.2.2.1, st2.2.2.2.2.1⟩ : ZS z TI TO i1 i2 l1 l2 (i + 1) h2)
  obtain ⟨oT, gT, cT, nT, dT⟩ := hTup
  refine q1 fs' h2 x' y' hit' ?_ ⟨oT, keep2 T oT hTw gT, cT, nT, dT⟩ rx ry
  refine r.swap (fs' := fs') (fun q hq t ht => ?_) (fun c o hc e => ?_) fun q hq => ⟨at' q hq, ?_⟩
  ·exact ap _ (hit.1 ▸ List.mem_map_of_mem hq) t ht
  ·rw [hit.1] at hc
   have hcw : c ∉ [z, TO, i1, i2] := fun h => hc (by simp at h ⊢; rcases h with h | h | h | h <;> simp [h])
   exact keep2 c o hcw (keep1 c o hcw e)
  ·rw [hit.1, ← hit'.1]
   exact List.mem_map_of_mem hq
 ·intro i W ρ H fr fs s Q E le r ap hit hn post
  obtain ⟨vs, e1, e⟩ := Zz0.mp hn
  obtain ⟨us, e2, e⟩ := Zz0.mp e
  obtain ⟨_, xs, k1, g1, v1⟩ := r.at e1 (le.at ea)
  obtain ⟨_, ys, k2, g2, v2⟩ := r.at e2 (le.at eb)
  have hi : i = min vs.length us.length := by
   split at e
   ·cases e
   ·split at e
    ·assumption
    ·cases e
  have st : ZS z TI TO i1 i2 l1 l2 i s.heap := hit.2 _ fun q hq => r.frAt (Zz4 _ hq)
  have Wk := WalksT.zip2 (prog := prog) (w := w) (A := Γ.A) Γ.hh z TI TO i1 i2 l1 l2 D xs.toArray ys.toArray
  have hm : min xs.toArray.size ys.toArray.size = i := by simp [v1.length, v2.length, hi]
  refine Wk.done s Q E (by rw [hm]; exact ⟨st.1, st.2.1, st.2.2.1, st.2.2.2.1, st.2.2.2.2, ⟨_, g1, rfl, k1, rfl⟩, ⟨_, g2, rfl, k2, rfl⟩⟩) fun h' tk keep => post h' tk ?_
  have := r.swap (fs' := []) (fun q hq t ht => ap _ (hit.1 ▸ List.mem_map_of_mem hq) t ht) (fun c o hc e => keep c o (fun h => hc (by rw [hit.1]; simp at h ⊢; rcases h with h | h | h | h <;> simp [h])) e) (fun q hq => nomatch hq)
  exact this
 ·intro i W ρ H fr fs s Q E o le r hit hn q
  obtain ⟨vs, e1, e⟩ := Zz0.mp hn
  obtain ⟨us, e2, e⟩ := Zz0.mp e
  obtain ⟨_, xs, k1, g1, v1⟩ := r.at e1 (le.at ea)
  obtain ⟨_, ys, k2, g2, v2⟩ := r.at e2 (le.at eb)
  have st : ZS z TI TO i1 i2 l1 l2 i s.heap := hit.2 _ fun q hq => r.frAt (Zz4 _ hq)
  have Wk := WalksT.zip2 (prog := prog) (w := w) (A := Γ.A) Γ.hh z TI TO i1 i2 l1 l2 D xs.toArray ys.toArray
  exact Wk.self i s Q E ⟨st.1, st.2.1, st.2.2.1, st.2.2.2.1, st.2.2.2.2, ⟨_, g1, rfl, k1, rfl⟩, ⟨_, g2, rfl, k2, rfl⟩⟩ q
theorem JI2.zip {x : Str} {np pos : Pos} {e1 e2 : Expr} {f g : Ex} (hn : Nm prog w Γ x (.type "zip")) (h1 : J prog w Γ e1 f) (h2 : J prog w Γ e2 g)
  (he : starEach [e1, e2] Γ.env = (false, eval e1 Γ.env) :: starEach [e2] Γ.env := by rfl) (he2 : starEach [e2] Γ.env = (false, eval e2 Γ.env) :: starEach [] Γ.env := by rfl) (hp : ∀ pos, (backTo pos (starEach [e2] Γ.env)).any (·.1) = false := by intro _; rfl) : JI2 prog w Γ (.Call (.Name x np) [e1, e2] [] pos) (Zd8 f g) := by
 intro W ρ H fr s Q E nx n H' r hf post
 obtain ⟨p, a1, hf⟩ := Zz0.mp hf
 obtain ⟨q, a2, hf⟩ := Zz0.mp hf
 refine wpAny_Call_ofName (hn.use r ?_)
 refine PySem.Pv.callWith_type1 (wpAny_items_cons (h1 W ρ H fr s _ E _ _ r a1 fun W1 k1 t1 y1 l1 r1 v1 => ?_) he) he (hp pos)
 refine wpAny_items_cons (h2 W1 ρ _ fr _ _ E _ _ r1 a2 fun W2 k2 t2 y2 l2 r2 v2 => wpAny_items_nil ?_) he2
 have v1' := v1.mono l2
 obtain ⟨u1, H1⟩ := p
 obtain ⟨u2, H2⟩ := q
 simp only at hf v1' v2 r2
 cases u1 <;> first | (cases hf; done) | skip
 rename_i b1
 cases u2 <;> first | (cases hf; done) | skip
 rename_i b2
 obtain ⟨vs, c1, hf⟩ := Zz0.mp hf
 obtain ⟨us, c2, c3⟩ := Zz1.mp hf
 cases c3
 cases v1' with
 | @ref _ m1 ea =>
 cases v2 with
 | @ref _ m2 eb =>
 obtain ⟨_, xs, n1, g1, w1⟩ := r2.at c1 ea
 obtain ⟨_, ys, n2, g2, w2⟩ := r2.at c2 eb
 have isl1 : k2.IsList m1 xs.toArray := ⟨_, g1, rfl, n1, rfl⟩
 have isl2 : k2.IsList m2 ys.toArray := ⟨_, g2, rfl, n2, rfl⟩
 refine call_zip_2 (s := { s with heap := k2, toks := t2 }) isl1 isl2 fun h₁ hz hTI hTO hi1 hi2 hsz up => ?_
 have ap := zipApart_new (n := k2.objs.size) (Heap.lt_size g1) (Heap.lt_size g2)
 have Wk := WalksT.zip2 (prog := prog) (w := w) (A := Γ.A) Γ.hh _ _ _ _ _ m1 m2 ap xs.toArray ys.toArray
 have zs : ZS (k2.objs.size + 4) (k2.objs.size + 2) (k2.objs.size + 3) k2.objs.size (k2.objs.size + 1) m1 m2 0 h₁ := ⟨hz, hTI, ⟨_, _, hTO⟩, hi1, hi2⟩
 refine Wk.self 0 _ _ _ ⟨hz, hTI, ⟨_, _, hTO⟩, hi1, hi2, isl1.at fun o e => up _ o e, isl2.at fun o e => up _ o e⟩ ?_
 obtain ⟨fs, hit, at'⟩ := ZqH zs
 obtain ⟨r3, ap3⟩ := r2.more (fs := fs) (h' := h₁) (fun b o e => up b o e) (fun q hq => ⟨at' q hq, by
  have : q.1 ∈ fs.map (·.1) := List.mem_map_of_mem hq
  rw [hit.1] at this
  simp at this
  rcases this with e | e | e | e | e <;> rw [e] <;> omega⟩)
 refine post W2 h₁ t2 _ _ _ fs (l1.trans l2) hit r3 (fun b hb t ht => ?_) (ZwN ea eb ap) ?_
 ·rw [← hit.1] at hb
  obtain ⟨q, hq, e⟩ := Zz11.mp hb
  exact e ▸ ap3 q hq t ht
 ·simp only [Zg7, c1, c2, Option.bind_some]
  split
  ·exact ⟨_, rfl⟩
  ·rename_i hno
   have : 0 = min vs.length us.length := by
    rcases Nat.eq_zero_or_pos vs.length with z | z
    ·rw [z]; simp
    ·rcases Nat.eq_zero_or_pos us.length with z' | z'
     ·rw [z']; simp
     ·exact (hno vs[0] us[0] (by simp [z]) (by simp [z'])).elim
   rw [if_pos this]
   exact ⟨_, rfl⟩
theorem Zvy {x1 x2 : Str} {i1 i2 kt : Nat} {p1 p2 tp : Pos} (h1 : Sto prog w Γ x1 i1) (h2 : Sto prog w Γ x2 i2) {W : Wd} {ρ : Lc} {H : Hp} {fr : List (Addr × Obj)} {s : Shared} {Q : Unit → Shared → Prop} {E : Value → Shared → Prop} {T : Addr} {y1 y2 : Value} {a b : V} (r : Rep Γ W ρ H fr s.heap) (ht : IsTup s.heap T #[y1, y2]) (v1 : VR W a y1) (v2 : VR W b y2)
  (post : ∀ (h' : Heap) (tk' : Nat), Rep Γ W (upd (upd ρ i1 a) i2 b) H fr h' → Q () { s with heap := h', toks := tk' }) : wpAny (model prog w) Γ.A (assign (.Tuple [.Name x1 p1, .Name x2 p2] kt tp) Γ.env (.ref T)) Q E s := by
 refine assign_Tuple_tuple Γ.hh ht rfl rfl fun g₄ he => ?_
 have r4 := r.grown (h' := g₄) fun b o e => he b o (Nat.ne_of_lt (Heap.lt_size e)) e
 refine assignInOrder_cons (wpAny_assign_Name (h1 W ρ H fr _ _ _ a y1 r4 v1 fun k5 t5 r5 => ?_))
 refine assignInOrder_cons (wpAny_assign_Name (h2 W _ H fr _ _ _ b y2 r5 v2 fun k6 t6 r6 => ?_))
 exact assignInOrder_nil (post k6 t6 r6)
theorem ZiC {x1 x2 : Str} {i1 i2 kt : Nat} {p1 p2 tp pos : Pos} {it : Expr} {body : List Stmt} {g : Src} {b : Sm} (h1 : Sto prog w Γ x1 i1) (h2 : Sto prog w Γ x2 i2) (hg : JI2 prog w Γ it g) (hb : Ss prog w Γ body b) (hs : ∀ x, foldedSetIterable it Γ.env x = pure x := by intro _; rfl) :
  S1 prog w Γ (.For (.Tuple [.Name x1 p1, .Name x2 p2] kt tp) it body [] pos) (ZaN g (ZcB i1 i2) b) := by
 intro W ρ H fr s Q E r rp hf post
 obtain ⟨z, e1, hf⟩ := Zz0.mp hf
 obtain ⟨nx, n, H0⟩ := z
 refine wpAny_For (hg W ρ H fr s _ E nx n H0 rp e1 fun W1 k1 t1 itv as It fs l1 j1 r1 ap I1 _ => ?_) hs
 refine codeAny_forLoop_any (fun k s' => ∃ W' ρ' H' h' tk' j fs', s' = { s with heap := h', toks := tk' } ∧ W1.Le W' ∧ It j fs' ∧ Rep Γ W' ρ' H' (fs' ++ fr) h' ∧ Zdt nx (ZcB i1 i2) b k j ρ' H' = some r) ?_ n ⟨W1, ρ, H0, k1, t1, 0, fs, rfl, .refl _, j1, r1, hf⟩
 rintro k s' ⟨W2, ρ2, H2, k2, t2, j, fs2, rfl, l2, j2, r2, e⟩
 cases k with
 | zero => cases e
 | succ k =>
  obtain ⟨o, e2, e⟩ := Zz0.mp e
  cases o with
  | none =>
   cases e
   exact I1.done j W2 ρ2 H2 fr fs2 _ _ _ l2 r2 ap j2 e2 fun h' tk' r3 => wpAny_execs_nil (post W2 h' tk' (l1.trans l2) r3)
  | some v =>
   obtain ⟨va, vb, ev⟩ := I1.pair j H2 v e2
   subst ev
   refine I1.item j W2 ρ2 H2 fr fs2 _ _ _ va vb l2 r2 ap j2 e2 fun T h3 t3 go => ?_
   obtain ⟨ρ3, e3, e⟩ := Zz0.mp e
   cases e3
   obtain ⟨q, e4, e⟩ := Zz0.mp e
   refine go _ _ _ _ _ _ rfl fun fs3 k3 y1 y2 j3 r3 ht w1 w2 => ?_
   refine Zvy h1 h2 (s := { s with heap := k3, toks := t3 }) r3 ht w1 w2 fun k4 t4 r4 => ?_
   refine hb W2 _ H2 (fs3 ++ fr) _ _ _ q r4 e4 ?_
   obtain ⟨u, ρ5, H5⟩ := q
   cases u with
   | some u =>
    cases e
    exact fun W5 k5 t5 x5 l5 r5 v5 => post W5 k5 t5 x5 ((l1.trans l2).trans l5) (r5.less fun q hq => List.mem_append_right _ hq) v5
   | none => exact fun W5 k5 t5 l5 r5 => ⟨k, Nat.lt_succ_self k, W5, ρ5, H5, k5, t5, j + 1, fs3, rfl, l2.trans l5, j3, r5, e⟩
theorem Zps {elt iter : Expr} {x x₂ : Str} {px px₂ tp : Pos} {kt : Nat} {scope : Scope} {pos : Pos} {cl : List (Str × Addr)} {t t₂ : Nat} {g : Src} {f : Ex} (hg : JI2 prog w Γ iter g) (hel : ∀ C ρ, J prog w (ZbA Γ scope cl C [(x, t), (x₂, t₂)] ρ) elt f)
  (hcell : ∀ y ∈ scope.names, y.2 ≠ .cell) (hkind : scope.kind = .function) (hx : scope.names.lookup x = some .local) (hx₂ : scope.names.lookup x₂ = some .local) (hxx : x ≠ x₂) (htt : t ≠ t₂)
  {W : Wd} {ρ : Lc} {H : Hp} {fr : List (Addr × Obj)} {s : Shared} {E : Value → Shared → Prop} {q : List V × Hp} {RR : Value → Addr → Result → Shared → Prop} (r : Rep Γ W ρ H fr s.heap) (hf : ((g ρ H).bind fun z => ZcX z.1 (ZcB t t₂) Zan f ρ z.2.1 0 [] z.2.2) = some q)
  (hR : ∀ (W' : Wd) (h' : Heap) (tk' : Nat) (C D : Addr) (oC : Obj) (m₂ : Str → Option Value) (ys : List Value), W.Le W' → NsObj oC m₂ → VRs W' q.1 ys → q.1.length ≤ LEN → (∀ t ∈ fr, D ≠ t.1) → (∀ t ∈ fr, C ≠ t.1) → C ≠ D → Rep Γ W' ρ q.2 ((C, oC) :: (D, lst ys) :: fr) h' → RR (.ref D) C (.ok .next) { s with heap := h', toks := tk' }) :
  wpAny (model prog w) Γ.A (eval iter Γ.env) (fun xv s₁ => wpAny (model prog w) Γ.A (pyIter xv) (fun it s₂ => wpAny (model prog w) Γ.A (newList []) (fun acc s₃ => wpAny (model prog w) Γ.A (newFunctionEnv scope Γ.env.globals cl [] Γ.env.qual none .none (some Γ.env)) (fun cenv s₄ =>
   codeAny (model prog w) Γ.A (.compStart (.ListComp elt [⟨.Tuple [.Name x px, .Name x₂ px₂] kt tp, iter, [], 0⟩] scope pos) 0 it acc { cenv with scope := relabel scope Γ.env }) (RR acc cenv.locals) s₄) E s₃) E s₂) E s₁) E s := by
 obtain ⟨z, e1, e2⟩ := Zz0.mp hf
 obtain ⟨nx, n, H0⟩ := z
 refine hg W ρ H fr s _ E nx n H0 r e1 fun W1 k1 t1 itv as It fs l1 i1 r1 ap I1 hstart => ?_
 refine wpAny_newObj_type (wpAny_newFunctionEnv hcell (fun y hy => by simp at hy) (fun h₂ hns hsb => ?_) hkind)
 dsimp only at hns hsb ⊢
 obtain ⟨rD, aD⟩ := r1.more (fs := [(k1.objs.size, lst [])]) (fun b o e => Heap.get?_push_of_some (lst []) e) (fun q hq => by rw [List.mem_singleton.mp hq]; exact ⟨Heap.get?_push_size _ rfl, Nat.le_refl _⟩)
 generalize eH : k1.push { cls := .type "list", dict := none, data := .seq ([] : List Value).toArray } = K at hns hsb ⊢
 have eK : k1.push (lst []) = K := eH
 rw [eK] at rD
 obtain ⟨oC, gC, nC⟩ := ns_obj hns
 have up : ∀ b o, K.get? b = some o → h₂.get? b = some o := fun b o e => hsb.extBut b o (Nat.ne_of_lt (Heap.lt_size e)) (Heap.get?_push_of_some _ e)
 obtain ⟨rC, aC⟩ := rD.more (fs := [(K.objs.size, oC)]) up (fun q hq => by rw [List.mem_singleton.mp hq]; exact ⟨gC, Nat.le_refl _⟩)
 have adr0 := I1.adr 0 fs i1
 have offs : ∀ b ∈ as, b ≠ k1.objs.size ∧ b ≠ K.objs.size := fun b hb => by
  rw [← adr0] at hb
  obtain ⟨q, hq, e⟩ := Zz11.mp hb
  exact ⟨e ▸ (aD _ Zz5 q (Zz4 _ hq)).symm, e ▸ (aC _ Zz5 q (Zz3 _ (Zz4 _ hq))).symm⟩
 have cd : K.objs.size ≠ k1.objs.size := aC _ Zz5 (k1.objs.size, lst []) (Zz4 _ Zz5)
 have cfr : ∀ t ∈ fr, K.objs.size ≠ t.1 := fun t ht => aC _ Zz5 t (Zz3 _ (Zz3 _ ht))
 have dfr : ∀ t ∈ fr, k1.objs.size ≠ t.1 := fun t ht => aD _ Zz5 t (Zz3 _ ht)
 generalize k1.objs.size = D at *
 generalize K.objs.size = C at *
 have loop : ∀ s₃ : Shared, s₃ = { s with heap := h₂, toks := t1 + ([] : List (Str × Value)).length } →
   codeAny (model prog w) Γ.A (.compLoop (.ListComp elt [⟨.Tuple [.Name x px, .Name x₂ px₂] kt tp, iter, [], 0⟩] scope pos) 0 itv (.ref D) (compEnvC scope cl C Γ.env)) (RR (.ref D) C) s₃ := by
  intro s₃ hs₃
  subst hs₃
  refine codeAny_compLoop_pair (Zhd Γ W1 ρ fr C D It nx (ZcB t t₂) Zan f q s) ?_ n ⟨W1, H0, h₂, _, 0, fs, [], [], oC, _, rfl, .refl _, i1, nC, .nil, Nat.zero_le _, rC, e2⟩
  rintro k s' ⟨W2, H2, k2, t2, j, fs2, acc, ys, oC2, m₂, rfl, l2, i2, hC2, hv2, hl2, r2, e⟩
  cases k with
  | zero => cases e
  | succ k =>
   obtain ⟨o, e4, e⟩ := Zz0.mp e
   have r2' : Rep Γ W2 ρ H2 (fs2 ++ ((C, oC2) :: (D, lst ys) :: fr)) k2 := r2.less fun q hq => by
    rcases Zz8.mp hq with hq | hq
    ·exact Zz2 _ (Zz2 _ (Zz4 _ hq))
    ·rcases Zz7.mp hq with e | hq
     ·exact e ▸ List.mem_cons_self
     ·rcases Zz7.mp hq with e | hq
      ·exact e ▸ List.mem_cons_of_mem _ Zz5
      ·exact Zz2 _ (Zz2 _ (Zz3 _ hq))
   have ap2 : ∀ b ∈ as, ∀ t ∈ (C, oC2) :: (D, lst ys) :: fr, b ≠ t.1 := fun b hb t ht => by
    rcases Zz7.mp ht with e | ht
    ·rw [e]
     exact (offs b hb).2
    ·rcases Zz7.mp ht with e | ht
     ·rw [e]
      exact (offs b hb).1
     ·exact ap b hb t ht
   cases o with
   | none =>
    cases e
    exact I1.done j W2 ρ H2 _ fs2 _ _ _ l2 r2' ap2 i2 e4 fun h' tk' r3 => hR W2 h' tk' C D oC2 m₂ ys (l1.trans l2) hC2 hv2 hl2 dfr cfr cd r3
   | some v =>
    obtain ⟨va, vb, ev⟩ := I1.pair j H2 v e4
    subst ev
    refine I1.item j W2 ρ H2 _ fs2 _ _ _ va vb l2 r2' ap2 i2 e4 fun T h3 t3 go => ?_
    obtain ⟨ρ3, e5, e⟩ := Zz0.mp e
    cases e5
    refine go _ _ _ _ _ _ rfl fun fs3 k3 y1 y2 i3 r3 htup w1 w2 => ?_
    have a3 : ∀ t ∈ fs3, t.1 ∈ as := fun t ht => by
     rw [← I1.adr _ _ i3]
     exact List.mem_map_of_mem ht
    refine assign_Tuple_tuple (s := { s with heap := k3, toks := t3 }) Γ.hh htup rfl rfl fun g₄ he => ?_
    have r3g := r3.grown (h' := g₄) fun b o e => he b o (Nat.ne_of_lt (Heap.lt_size e)) e
    have gC3 : g₄.get? C = some oC2 := r3g.frAt (q := (C, oC2)) (Zz3 _ Zz5)
    have nC3 : g₄.Ns C m₂ := hC2.ns gC3
    refine assignInOrder_cons (wpAny_assign_Name (wpAny_storeName_local (lookup_relabel_local hx) nC3 (fun h5 hn5 sb5 => ?_) (by simp [compEnvC, relabel, hkind])))
    refine assignInOrder_cons (wpAny_assign_Name (wpAny_storeName_local (lookup_relabel_local hx₂) hn5 (fun h4 hn4 sb4 => ?_) (by simp [compEnvC, relabel, hkind])))
    refine assignInOrder_nil ?_
    obtain ⟨oC4, gC4, nC4⟩ := ns_obj hn4
    have r3' : Rep Γ W2 ρ H2 ([(C, oC2)] ++ ((D, lst ys) :: (fs3 ++ fr))) g₄ := r3g.less fun q hq => by
     rcases Zz8.mp hq with hq | hq
     ·rw [List.mem_singleton.mp hq]
      exact Zz3 _ Zz5
     ·rcases Zz7.mp hq with e | hq
      ·exact e ▸ List.mem_append_right _ (Zz2 _ Zz5)
      ·rcases Zz8.mp hq with hq | hq
       ·exact Zz4 _ hq
       ·exact Zz3 _ (Zz2 _ (Zz2 _ hq))
    have aC3 : ∀ t ∈ (D, lst ys) :: (fs3 ++ fr), C ≠ t.1 := fun t ht => by
     rcases Zz7.mp ht with e | ht
     ·rw [e]
      exact cd
     ·rcases Zz8.mp ht with ht | ht
      ·exact (offs _ (a3 t ht)).2.symm
      ·exact cfr t ht
    have aD3 : ∀ t ∈ fs3 ++ fr, D ≠ t.1 := fun t ht => by
     rcases Zz8.mp ht with ht | ht
     ·exact (offs _ (a3 t ht)).1.symm
     ·exact dfr t ht
    have r4 : Rep Γ W2 ρ H2 ([(C, oC4)] ++ ((D, lst ys) :: (fs3 ++ fr))) h4 := by
     refine r3'.swap (fun q hq t ht => ?_) (fun b o hb e => sb4.extBut b o (fun z => hb (by simp [z, compEnvC])) (sb5.extBut b o (fun z => hb (by simp [z, compEnvC])) e)) fun q hq => ?_
     ·rw [List.mem_singleton.mp hq]
      exact aC3 t ht
     ·rw [List.mem_singleton.mp hq]
      exact ⟨gC4, by simp⟩
    have rc := ZqG (scope := scope) (cl := cl) (ts := [(x, t), (x₂, t₂)]) (ρ := upd (upd ρ t va) t₂ vb) r4 aC3 nC4 (fun p hp => by
     rcases Zz7.mp hp with e | hp
     ·rw [e]
      exact ⟨va, y1, by simp [upd, htt], by simp [hxx], w1⟩
     ·rw [List.mem_singleton.mp hp]
      exact ⟨vb, y2, by simp [upd], by simp, w2⟩) (fun i hi => by
     have h1 : i ≠ t := fun e => hi (x, t) Zz5 e.symm
     have h2 : i ≠ t₂ := fun e => hi (x₂, t₂) (Zz2 _ Zz5) e.symm
     simp [upd, h1, h2])
    exact ZpM (hel C ρ) aD3 cd l2 i3 hv2 rc e
 refine codeAny_compStart_list (loop _ rfl) ?_
 obtain ⟨o0, ho0⟩ := hstart
 exact I1.self 0 W1 ρ H0 (([(C, oC)] ++ [(D, lst [])]) ++ fr) fs _ _ _ o0 (.refl _) (rC.less fun q hq => by
  rcases Zz8.mp hq with hq | hq
  ·exact Zz3 _ (Zz3 _ (Zz4 _ hq))
  ·rcases Zz8.mp hq with hq | hq
   ·rcases Zz8.mp hq with hq | hq
    ·exact Zz4 _ hq
    ·exact Zz3 _ (Zz4 _ hq)
   ·exact Zz3 _ (Zz3 _ (Zz3 _ hq))) i1 ho0 (loop _ rfl)
theorem Zvz {elt iter : Expr} {x x₂ : Str} {px px₂ tp : Pos} {kt : Nat} {scope : Scope} {pos : Pos} {cl : List (Str × Addr)} {t t₂ : Nat} {g : Src} {f : Ex} (hg : JI2 prog w Γ iter g) (hel : ∀ C ρ, J prog w (ZbA Γ scope cl C [(x, t), (x₂, t₂)] ρ) elt f)
  (hclos : closureFor scope Γ.env = pure cl) (hcell : ∀ y ∈ scope.names, y.2 ≠ .cell) (hkind : scope.kind = .function) (hnames : ∀ y ∈ scope.names, y.2 = .local → scope.names.lookup y.1 = some .local) (hx : scope.names.lookup x = some .local) (hx₂ : scope.names.lookup x₂ = some .local) (hxx : x ≠ x₂) (htt : t ≠ t₂) (hs : ∀ x, foldedSetIterable iter Γ.env x = pure x := by intro _; rfl) :
  J prog w Γ (.ListComp elt [⟨.Tuple [.Name x px, .Name x₂ px₂] kt tp, iter, [], 0⟩] scope pos) (ZaJ g (ZcB t t₂) Zan f) := by
 intro W ρ H fr s Q E v H' r hf post
 obtain ⟨z, e1, hf⟩ := Zz0.mp hf
 obtain ⟨q, e2, e3⟩ := Zz1.mp hf
 cases e3
 rw [eval_ListComp]
 refine wpAny_comprehension_free (use := Option.none) rfl hs hclos hkind hnames ?_
 refine Zps (RR := fun acc C => compPost (model prog w) Γ.A E Option.none Q acc C) hg hel hcell hkind hx hx₂ hxx htt r (q := q) (by rw [e1]; exact e2) fun W2 h' tk' C D oC m₂ ys l2 hC hv hl aD aC cd r3 => ?_
 refine ⟨m₂, hC.ns (r3.frAt (q := (C, oC)) Zz5), fun h'' sb => ?_⟩
 obtain ⟨W5, l5, r5, v5⟩ := Zp6 hv hl aD aC cd r3 sb
 exact post W5 h'' tk' _ (l2.trans l5) r5 v5
end
end PM
end
section
set_option autoImplicit false
namespace PM
open PySem PySem.W PySem.Calls PyProof.Rows PyProof PySem.Spec
theorem ZwO {prog : Program} {w : World} {A A₀ : Around} {s : Shared} {base h₀ : Heap} {L : Addr} {m : Str → Option Value} {lent : List (Addr × Obj)} {K : Frag} {p : Program} {loose : List Str} {mean : ExcName → Option Value} {mg mb : Str → Option Value}
  {env : Env} {outer : List Env} {R : Result → Shared → Prop} {name qual : Str} {params : Arguments} {body : List Stmt} {scope : Scope} {dV kV doc pm cdv ct oc : Value} {an od : Option Addr} {osl : Array (Option Value)} {f : Addr} {args : Args} {binds : List (Str × Value)}
  (B : Below A₀ base outer h₀) (F : Fr h₀ L s.heap m) (X₀ : K.In h₀) (N : News h₀ L s.heap lent) (T : Top p loose mean mg mb h₀) (hA : A.frames = some (env :: outer)) (hf : env.frame = some L) (hke : env.scope.kind = .function)
  (ho : K.lookup f = some ⟨oc, od, .func (fnOf name qual params body scope dV kV doc pm an cdv ct), osl⟩) (hcd : codeIn K cdv qual = true) (hroom : A.depth < recursionLimit)
  (hbind : BindsTo s (fnOf name qual params body scope dV kV doc pm an cdv ct) args binds) (hall : (binds.all fun y => scope.names.lookup y.1 == some .local || scope.names.lookup y.1 == some .cell) = true) (hone : ((cellsFrom 0 scope.names []).map (·.1)).Nodup)
  (h : ∀ g L' h₁ tk cells, (∀ b o, s.heap.get? b = some o → b ∉ lent.map (·.1) → g.get? b = some o) → Fr g L' h₁ (bindL (envOfC qual scope L' f cdv).kindOf binds fun _ => none) → News g L' h₁ (cells ++ lent) → CellsAre (bindC (envOfC qual scope L' f cdv).kindOf binds fun _ => none) (cellsFrom (L' + 1) scope.names []) cells →
   (cellsFrom (L' + 1) scope.names []).Pairwise (fun x y => x.2 ≠ y.2) → (∀ n c, (n, c) ∈ cellsFrom (L' + 1) scope.names [] → L' < c) → Below A base (env :: outer) g → K.In g → Top p loose mean mg mb g → (∀ q ∈ lent, q.1 < L') → s.heap.objs.size ≤ L' →
   wpAny (model prog w) (A.deeper (envOfC qual scope L' f cdv)) (execs body (envOfC qual scope L' f cdv)) (fun fl s' => LeaveK h₀ L m g R (match fl with | .ret v => v | _ => .none) s')
    (fun e s' => wpAny (model prog w) (A.deeper (envOfC qual scope L' f cdv)) (leaving (envOfC qual scope L' f cdv) e) (fun _ s'' => R (.error e) s'') (fun e' s'' => R (.error e') s'') s') { s with heap := h₁, toks := tk })
  (hco : scope.isCoroutine = false) (hgen : scope.isGenerator = false) (hk : scope.kind = .function) : codeAny (model prog w) A (.call (.ref f) args) R s := by
 obtain ⟨FG, BG, st, lv⟩ := groundX (R := R) B F N hA hf hke
 have X := X₀.keeps F.keep
 refine codeAny_call_function (fd := fnOf name qual params body scope dV kV doc pm an cdv ct) hroom (X _ _ ho) rfl hco hgen rfl (codeRec_of X hcd) (hbind _ _ _ _ ?_)
 refine wpAny_newFunctionEnv_cells hk (kindsX hall _) fun fresh hfr s' inC => ?_
 subst hfr
 have up := inC.toInCall.keep
 refine ⟨(T.nolimit.keeps F.keep).keeps up, codeAny_func ?_⟩
 obtain ⟨h₁, tk, hs', _⟩ := inC.done
 subst hs'
 have nod := cellsFrom_names scope.names 0 (s.heap.objs.size + 1) [] [] rfl ▸ hone
 obtain ⟨cells, NC, Y⟩ := Cl.news (h₀ := s.heap) (L := s.heap.objs.size) (Zz10 _) fun n c hm => ⟨inC.cell n c (lookup_of_mem_nodup nod hm), inC.above n c hm⟩
 have old : ∀ q ∈ lent, q.1 < s.heap.objs.size := fun q hq => Heap.lt_size (N q hq).1
 refine wpAny_mono (h _ s.heap.objs.size h₁ tk cells (fun b o e nb => hideAll_get _ e nb) ⟨inC.toInCall.ns, fun b o e => up b o (of_hideAll _ e), Nat.le_of_eq (hideAll_size _ _)⟩ (fun q hq => ?_) Y inC.apart inC.above BG (X₀.keeps st) (T.keeps st) old (Zz10 _)) (fun fl s' hl => lv _ _ hl) fun _ _ y => y
 rcases Zz8.mp hq with hq | hq
 ·obtain ⟨c1, c2, c3⟩ := NC q hq
  refine ⟨c1, c2, ?_⟩
  cases e : (hideAll s.heap (lent.map (·.1))).get? q.1 with
  | none => rfl
  | some o =>
   have z := of_hideAll _ e
   rw [c3] at z
   cases z
 ·exact ⟨up _ _ (N q hq).1, Nat.ne_of_lt (old q hq), hideAll_none _ (List.mem_map_of_mem hq)⟩
section
variable (prog : Program) (w : World) (K : Frag) (p : Program) (loose : List Str) (mean : ExcName → Option Value) (mg mb : Str → Option Value)
noncomputable def Clr (Γ : Cx) (dp un : Nat) : Prop := ∃ (gd : Option (List Code)) (cn : Str) (cs : Scope) (a : Addr) (ccd : Value) (cl : List (Str × Addr)) (outer : List Env) (A₀ : Around) (base : Heap),
 Γ.A = ktrTop dp un gd cn cs Γ.L a ccd cl outer ∧ Below A₀ base outer Γ.h₀ ∧ K.In Γ.h₀ ∧ Top p loose mean mg mb Γ.h₀ ∧ cs.kind = .function
noncomputable def Def (f : Addr) (room : Nat) (F : List V → Hp → Option (V × Hp)) : Prop := ∀ (Γ : Cx) (dp un : Nat), Clr K p loose mean mg mb Γ dp un → dp + room < recursionLimit → un + 10 * room + 300 < cLine →
 ∀ (W : Wd) (ρ : Lc) (H : Hp) (fr : List (Addr × Obj)) (s : Shared) (Q E : Value → Shared → Prop) (as : List V) (xs : List Value) (v : V) (H' : Hp),
  Rep Γ W ρ H fr s.heap → VRs W as xs → F as H = some (v, H') → Zhb Γ W ρ H' fr s Q v → wpAny (model prog w) Γ.A (call (.ref f) xs) Q E s
end
noncomputable def Zaa (n : Nat) (g : Sm) : List V → Hp → Option (V × Hp) := fun as H => if as.length = n then (g (fun i => as[i]?) H).map fun r => ((r.1.getD .none), r.2.2) else none
theorem Zt7 {kindOf : Str → Option NameKind} : ∀ {ps : List Str} {xs : List Value} {m : Str → Option Value} {x : Str} {i : Nat} {y : Value}, ps.Nodup → ps[i]? = some x → xs[i]? = some y → kindOf x = some .local → bindL kindOf (ps.zip xs) m x = some y := by
 have skip : ∀ {ps : List Str} {xs : List Value} {m : Str → Option Value} {x : Str}, x ∉ ps → bindL kindOf (ps.zip xs) m x = m x := by
  intro ps
  induction ps with
  | nil => intro xs m x _; rfl
  | cons p ps ih =>
   intro xs m x hx
   cases xs with
   | nil => rfl
   | cons z xs =>
    simp only [List.zip_cons_cons, bindL]
    rw [ih (fun h => hx (Zz2 _ h))]
    have : x ≠ p := fun e => hx (e ▸ List.mem_cons_self)
    split <;> simp [this]
 intro ps
 induction ps with
 | nil => intro xs m x i y _ h; simp at h
 | cons p ps ih =>
  intro xs m x i y nd hp hx hk
  cases xs with
  | nil => simp at hx
  | cons z xs =>
   obtain ⟨n1, n2⟩ := List.nodup_cons.mp nd
   cases i with
   | zero =>
    simp at hp hx
    subst hp hx
    simp only [List.zip_cons_cons, bindL]
    rw [skip n1, if_pos hk]
    simp
   | succ i =>
    simp at hp hx
    simp only [List.zip_cons_cons, bindL]
    exact ih n2 hp hx hk
theorem Zt8 {kindOf : Str → Option NameKind} : ∀ {ps : List Str} {xs : List Value} {m : Str → Option Value} {x : Str} {i : Nat} {y : Value}, ps.Nodup → ps[i]? = some x → xs[i]? = some y → kindOf x = some .cell → bindC kindOf (ps.zip xs) m x = some y := by
 have skip : ∀ {ps : List Str} {xs : List Value} {m : Str → Option Value} {x : Str}, x ∉ ps → bindC kindOf (ps.zip xs) m x = m x := by
  intro ps
  induction ps with
  | nil => intro xs m x _; rfl
  | cons p ps ih =>
   intro xs m x hx
   cases xs with
   | nil => rfl
   | cons z xs =>
    simp only [List.zip_cons_cons, bindC]
    rw [ih (fun h => hx (Zz2 _ h))]
    have : x ≠ p := fun e => hx (e ▸ List.mem_cons_self)
    split <;> simp [this]
 intro ps
 induction ps with
 | nil => intro xs m x i y _ h; simp at h
 | cons p ps ih =>
  intro xs m x i y nd hp hx hk
  cases xs with
  | nil => simp at hx
  | cons z xs =>
   obtain ⟨n1, n2⟩ := List.nodup_cons.mp nd
   cases i with
   | zero =>
    simp at hp hx
    subst hp hx
    simp only [List.zip_cons_cons, bindC]
    rw [skip n1, if_neg (by rw [hk]; simp)]
    simp
   | succ i =>
    simp at hp hx
    simp only [List.zip_cons_cons, bindC]
    exact ih n2 hp hx hk
theorem ZgL {cm : Str → Option Value} : ∀ {cs : List (Str × Addr)} {cells : List (Addr × Obj)} {x : Str} {c : Addr}, CellsAre cm cs cells → (x, c) ∈ cs → ∃ o, (c, o) ∈ cells ∧ o.data = .cell (cm x)
 | _, _, _, _, .nil, h => nomatch h
 | _, _, _, _, .cons hd r, h => by
  rcases Zz7.mp h with e | h
  ·cases e
   exact ⟨_, List.mem_cons_self, hd⟩
  ·obtain ⟨o, h1, h2⟩ := ZgL r h
   exact ⟨o, List.mem_cons_of_mem _ h1, h2⟩
theorem ZqI {cm : Str → Option Value} : ∀ {cs : List (Str × Addr)} {cells : List (Addr × Obj)} {q : Addr × Obj}, CellsAre cm cs cells → q ∈ cells → ∃ x, (x, q.1) ∈ cs
 | _, _, _, .nil, h => nomatch h
 | _, _, _, .cons hd r, h => by
  rcases Zz7.mp h with e | h
  ·cases e
   exact ⟨_, List.mem_cons_self⟩
  ·obtain ⟨x, h1⟩ := ZqI r h
   exact ⟨x, List.mem_cons_of_mem _ h1⟩
theorem ZdS {α β : Type} [BEq α] [LawfulBEq α] : ∀ {l : List (α × β)} {x : α} {y : β}, l.lookup x = some y → (x, y) ∈ l
 | [], _, _, h => by simp at h
 | (a, b) :: r, x, y, h => by
  rw [List.lookup_cons] at h
  split at h
  ·rename_i e
   cases h
   have := eq_of_beq e
   subst this
   exact Zz5
  ·exact Zz2 _ (ZdS h)
end PM
end
section
set_option autoImplicit false
namespace PM
open PySem PySem.W PySem.Calls PyProof.Rows PyProof PySem.Spec
section
variable {prog : Program} {w : World} {K : Frag} {p : Program} {loose : List Str} {mean : ExcName → Option Value} {mg mb : Str → Option Value}
theorem Zrj {name qual : Str} {params : Arguments} {body : List Stmt} {scope : Scope} {dV kV doc pm cdv ct oc : Value} {an od : Option Addr} {osl : Array (Option Value)} {f : Addr} {names : List Str} {n room : Nat} {g : Sm}
  (ho : K.lookup f = some ⟨oc, od, .func (fnOf name qual params body scope dV kV doc pm an cdv ct), osl⟩) (hcd : codeIn K cdv qual = true) (nd : names.Nodup) (hn : n ≤ names.length)
  (hbind : ∀ s xs, xs.length = n → BindsTo s (fnOf name qual params body scope dV kV doc pm an cdv ct) ⟨xs, []⟩ ((names.take n).zip xs)) (hkinds : ∀ x ∈ names.take n, scope.names.lookup x = some .local ∨ scope.names.lookup x = some .cell) (hone : ((cellsFrom 0 scope.names []).map (·.1)).Nodup)
  (hco : scope.isCoroutine = false) (hgen : scope.isGenerator = false) (hk : scope.kind = .function)
  (hbody : ∀ (dp un : Nat) (gd : Option (List Code)) (L : Addr) (outer : List Env) (h₀ : Heap) (hu : un + 200 < cLine), Clr K p loose mean mg mb (ZbY dp un gd qual scope L f cdv (cellsFrom (L + 1) scope.names []) outer h₀ hu names) dp un → dp + room < recursionLimit → un + 10 * room + 300 < cLine →
   Ss prog w (ZbY dp un gd qual scope L f cdv (cellsFrom (L + 1) scope.names []) outer h₀ hu names) body g) :
  Def prog w K p loose mean mg mb f (room + 1) (Zaa n g) := by
 intro Γ dp un clr hd hu W ρ H fr s Q E as xs v H' r hx hF post
 obtain ⟨gd, cn, cs, a, ccd, cl, outer, A₀, base, eA, B, X, T, hke⟩ := clr
 unfold Zaa at hF
 split at hF
 ·rename_i hlen
  obtain ⟨res, e1, e2⟩ := Zz1.mp hF
  obtain ⟨o, ρ', K'⟩ := res
  cases e2
  obtain ⟨m, c, led, r⟩ := r
  have hxl : xs.length = n := by rw [hx.length, hlen]
  have inn : ∀ q ∈ led, (q.1 ∈ W.pi ∨ q.1 ∈ W.tups.map (·.1)) ↔ q ∈ led.filter (fun q => decide (q.1 ∈ W.pi ∨ q.1 ∈ W.tups.map (·.1))) := fun q hq => ⟨fun h => List.mem_filter.mpr ⟨hq, by simpa using h⟩, fun h => by simpa using (List.mem_filter.mp h).2⟩
  have isub : ∀ q ∈ led.filter (fun q => decide (q.1 ∈ W.pi ∨ q.1 ∈ W.tups.map (·.1))), q ∈ led := fun q hq => (List.mem_filter.mp hq).1
  generalize hlent : led.filter (fun q => decide (q.1 ∈ W.pi ∨ q.1 ∈ W.tups.map (·.1))) = lent at inn isub
  have notin : ∀ q ∈ led, q.1 ∉ W.pi → (∀ t ∈ W.tups, q.1 ≠ t.1) → q.1 ∉ lent.map (·.1) := fun q hq h1 h2 h3 => by
   obtain ⟨t, ht, e⟩ := Zz11.mp h3
   rcases (inn t (isub t ht)).mpr ht with z | z
   ·exact h1 (e ▸ z)
   ·obtain ⟨u, hu, e'⟩ := Zz11.mp z
    exact h2 u hu (e ▸ e'.symm)
  rw [eA]
  refine wpAny_call ?_
  refine ZwO (env := envX cn cs Γ.L a ccd cl) (lent := lent) B r.F X (fun q hq => r.N q (isub q hq)) T rfl rfl hke ho hcd (by show dp < recursionLimit; omega) (hbind s xs hxl) ?_ hone ?_ hco hgen hk
  ·refine List.all_eq_true.mpr fun y hy => ?_
   rcases hkinds y.1 (List.of_mem_zip hy).1 with h | h <;> simp [h]
  intro g0 L' h₁ tk cells stay F' N' Y ap ab B' X' T' old szL
  have hu' : (un + 3) + 200 < cLine := by omega
  have clr' : Clr K p loose mean mg mb (ZbY (dp + 1) (un + 3) gd qual scope L' f cdv (cellsFrom (L' + 1) scope.names []) (envX cn cs Γ.L a ccd cl :: outer) g0 hu' names) (dp + 1) (un + 3) :=
   ⟨gd, qual, scope, f, cdv, cellsFrom (L' + 1) scope.names [], envX cn cs Γ.L a ccd cl :: outer, _, base, rfl, B', X', T', hk⟩
  have below : ∀ q ∈ cells, L' < q.1 := fun q hq => by
   obtain ⟨x, hx⟩ := ZqI Y hq
   exact ab x _ hx
  have piLt : ∀ b ∈ W.pi, b < L' := fun b hb => by
   obtain ⟨o, ho⟩ := r.piIn b hb
   exact Nat.lt_of_lt_of_le (Heap.lt_size (r.get ho)) szL
  have tuLt : ∀ t ∈ W.tups, t.1 < L' := fun t ht => Nat.lt_of_lt_of_le (Heap.lt_size (r.get (r.R.tups t ht))) szL
  have scN : W.sc.1 ∉ lent.map (·.1) := fun z => by
   obtain ⟨t, ht, e⟩ := Zz11.mp z
   exact r.notSc t (isub t ht) e
  have tkn : ∀ {i : Nat} {x : Str} {u : V}, names[i]? = some x → as[i]? = some u → (names.take n)[i]? = some x ∧ ∃ y, xs[i]? = some y ∧ VR W u y := fun {i x u} h1 h2 => by
   have hi : i < n := by rw [← hlen]; exact (Zz6.mp h2).1
   exact ⟨by rw [List.getElem?_take_of_lt hi]; exact h1, hx.at h2⟩
  have ndt : (names.take n).Nodup := nd.sublist (List.take_sublist _ _)
  have rep : Rep (ZbY (dp + 1) (un + 3) gd qual scope L' f cdv (cellsFrom (L' + 1) scope.names []) (envX cn cs Γ.L a ccd cl :: outer) g0 hu' names) W (fun i => as[i]?) H [] h₁ := by
   refine ⟨_, cells, cells ++ lent, ⟨F', N', ⟨r.R.len, r.R.nd, fun i vs e => ?_, fun q hq => ?_, r.R.kind⟩, stay _ _ (r.F.keep _ _ r.sc) scN, r.sc0, fun q hq => (nomatch hq), fun q hq => (nomatch hq), fun q hq => List.mem_append_left _ hq, fun q hq z => ?_, fun q _ t ht => (nomatch ht), fun q hq => (nomatch hq), fun q hq t ht => ?_, ⟨fun i x u hi hk1 hu1 => ?_, fun i x u hi hk1 hu1 => ?_, fun x c1 hc => ?_, fun x y c1 h1 h2 => ?_⟩⟩⟩
   ·obtain ⟨l, b, ys, k, h1, h2, h3⟩ := r.R.lists i vs e
    exact ⟨l, b, ys, k, h1, Zes h2 fun z => List.mem_append_right _ ((inn _ z).mp (.inl (List.mem_of_getElem? h1))), h3⟩
   ·exact Zes (r.R.tups q hq) fun z => List.mem_append_right _ ((inn _ z).mp (.inr (List.mem_map_of_mem hq)))
   ·exact absurd (Nat.lt_trans (piLt _ z) (below q hq)) (Nat.lt_irrefl _)
   ·exact Nat.ne_of_gt (Nat.lt_trans (tuLt t ht) (below q hq))
   ·obtain ⟨h1, y, h2, h3⟩ := tkn hi hu1
    exact ⟨y, Zt7 ndt h1 h2 hk1, h3⟩
   ·obtain ⟨h1, y, h2, h3⟩ := tkn hi hu1
    have hs := cellsFrom_some scope.names (L' + 1) [] (.inl hk1)
    obtain ⟨c1, hc1⟩ := Option.isSome_iff_exists.mp hs
    obtain ⟨o1, ho1, hd1⟩ := ZgL Y (ZdS hc1)
    refine ⟨c1, o1, y, hc1, ho1, ?_, h3⟩
    rw [hd1, Zt8 ndt h1 h2 hk1]
   ·obtain ⟨o1, ho1, hd1⟩ := ZgL Y (ZdS hc)
    exact ⟨o1, _, ho1, hd1⟩
   ·exact name_of_addr ap (ZdS h1) (ZdS h2)
  have hb := hbody (dp + 1) (un + 3) gd L' (envX cn cs Γ.L a ccd cl :: outer) g0 hu' clr' (by omega) (by omega)
  have back : ∀ (W' : Wd) (h' : Heap) (tk' : Nat) (x : Value), W.Le W' → Rep (ZbY (dp + 1) (un + 3) gd qual scope L' f cdv (cellsFrom (L' + 1) scope.names []) (envX cn cs Γ.L a ccd cl :: outer) g0 hu' names) W' ρ' K' [] h' → VR W' (o.getD .none) x →
    LeaveK Γ.h₀ Γ.L m g0 (fun r s' => match r with | .ok (.ret v) => Q v s' | .ok _ => False | .error e => E e s') x { s with heap := h', toks := tk' } := by
   intro W' h' tk' x l' r' x'
   obtain ⟨m', c', led', r'⟩ := r'
   refine ⟨L', m', led', r'.F, r'.N, fun FG NG => post W' h' tk' x l' ?_ x'⟩
   have g0at : ∀ q ∈ led, q.1 ∉ lent.map (·.1) → g0.get? q.1 = some q.2 := fun q hq hn => stay _ _ (r.N q hq).1 hn
   have frN : ∀ q ∈ fr, q.1 ∉ lent.map (·.1) := fun q hq => notin q (r.frIn q hq) (r.frOff q hq) (r.frTup q hq)
   have clN : ∀ q ∈ c, q.1 ∉ lent.map (·.1) := fun q hq => notin q (r.clIn q hq) (r.clOff q hq) (r.clTup q hq)
   have newN : ∀ t ∈ led', g0.get? t.1 = none := fun t ht => (r'.N t ht).2.2
   have far : ∀ q ∈ led, q.1 ∉ lent.map (·.1) → ∀ t ∈ W'.sc :: led', q.1 ≠ t.1 := fun q hq hn t ht e => by
    rcases Zz7.mp ht with e2 | ht
    ·rw [e2, l'.sc] at e
     exact r.notSc q hq e
    ·have := g0at q hq hn
     rw [e, newN t ht] at this
     cases this
   have farPi : ∀ q ∈ led, q.1 ∉ lent.map (·.1) → q.1 ∉ W'.pi := fun q hq hn z => by
    obtain ⟨o2, h2⟩ := r'.piIn _ z
    exact far q hq hn _ h2 rfl
   have keep : ∀ q ∈ led, q.1 ∉ lent.map (·.1) → q ∈ led' ++ led.filter (fun q => decide (q.1 ∉ lent.map (·.1))) := fun q hq hn => List.mem_append_right _ (List.mem_filter.mpr ⟨hq, by simpa using hn⟩)
   refine ⟨m, c, led' ++ led.filter (fun q => decide (q.1 ∉ lent.map (·.1))), ⟨FG, fun q hq => ?_, r'.R.mono fun q hq => ZfN hq fun x hx => List.mem_append_left _ hx, l'.sc ▸ r.sc, r'.sc0, fun q hq => keep q (r.frIn q hq) (frN q hq), fun q hq => farPi q (r.frIn q hq) (frN q hq), fun q hq => keep q (r.clIn q hq) (clN q hq), fun q hq => farPi q (r.clIn q hq) (clN q hq), r.apart, fun q hq t ht => far q (r.frIn q hq) (frN q hq) t (r'.R.tups t ht), fun q hq t ht => far q (r.clIn q hq) (clN q hq) t (r'.R.tups t ht), Γ.mono l' r.own⟩⟩
   rcases Zz8.mp hq with hq | hq
   ·exact NG q hq
   ·obtain ⟨h1, h2⟩ := List.mem_filter.mp hq
    exact ⟨r'.F.keep _ _ (g0at q h1 (by simpa using h2)), (r.N q h1).2⟩
  refine hb W _ H [] _ _ _ (o, ρ', K') rep e1 ?_
  cases o with
  | none => exact fun W' h' tk' l' r' => back W' h' tk' .none l' r' .none
  | some v0 => exact fun W' h' tk' x l' r' x' => back W' h' tk' x l' r' x'
 ·cases hF
theorem ZvA {Γ : Cx} {dp un : Nat} {x : Str} {np pos : Pos} {f : Addr} {room : Nat} {e : Expr} {es : List Expr} {g : Exs} {o : List V → Hp → Option (V × Hp)} (clr : Clr K p loose mean mg mb Γ dp un) (hn : Nm prog w Γ x (.ref f)) (hkeep : keepIn K (.ref f) = true) (D : Def prog w K p loose mean mg mb f room o) (hd : dp + room < recursionLimit) (hu : un + 10 * room + 300 < cLine)
  (h : Js prog w Γ (e :: es) g) (he : starEach (e :: es) Γ.env = (false, eval e Γ.env) :: starEach es Γ.env := by rfl) (hp : ∀ pos, (backTo pos (starEach es Γ.env)).any (·.1) = false := by intro _; rfl) : J prog w Γ (.Call (.Name x np) (e :: es) [] pos) (Zv o g) := by
 intro W ρ H fr s Q E v H' r hf post
 obtain ⟨q, e1, hf⟩ := Zz0.mp hf
 have X : K.In Γ.h₀ := by
  obtain ⟨_, _, _, _, _, _, _, _, _, _, _, X, _⟩ := clr
  exact X
 refine wpAny_Call_ofName (hn.use r ?_)
 refine callWith_K (first := []) X hkeep (h pos W ρ H fr s _ E _ _ r e1 fun W1 k1 t1 xs l1 r1 x1 => ⟨?_, ?_⟩) he (hp pos)
 ·obtain ⟨m, c, led, r1⟩ := r1
  exact X.keeps r1.F.keep
 ·exact D Γ dp un clr hd hu W1 ρ _ fr _ Q E _ xs v H' r1 x1 hf fun W2 k2 t2 y l2 r2 y2 => post W2 k2 t2 y (l1.trans l2) r2 y2
theorem Zci {Γ : Cx} {dp un : Nat} {scope : Scope} {cl : List (Str × Addr)} {C : Addr} {ts : List (Str × Nat)} {ρ0 : Lc} (h : Clr K p loose mean mg mb Γ dp un) : Clr K p loose mean mg mb (ZbA Γ scope cl C ts ρ0) dp un := h
end
end PM
end
section
set_option autoImplicit false
namespace PM
open PySem PySem.W PySem.Calls PyProof.Rows PyProof PySem.Spec
theorem Zkc {lo : Nat} : ∀ (names : List (Str × NameKind)) (n : Nat) (acc : List (Str × Addr)), acc.Pairwise (fun x y => x.2 ≠ y.2) → (∀ q ∈ acc, lo < q.2 ∧ q.2 < n) → lo < n → (cellsFrom n names acc).Pairwise (fun x y => x.2 ≠ y.2) ∧ ∀ q ∈ cellsFrom n names acc, lo < q.2
 | [], n, acc, h1, h2, _ => ⟨h1, fun q hq => (h2 q hq).1⟩
 | (y, k) :: r, n, acc, h1, h2, h3 => by
  unfold cellsFrom
  by_cases hk : (k == .cell) = true
  ·rw [if_pos hk]
   refine Zkc r (n + 1) ((y, n) :: acc) (List.pairwise_cons.mpr ⟨fun q hq => Nat.ne_of_gt (h2 q hq).2, h1⟩) (fun q hq => ?_) (Nat.lt_succ_of_lt h3)
   rcases Zz7.mp hq with e | hq
   ·rw [e]
    exact ⟨h3, Nat.lt_succ_self n⟩
   ·exact ⟨(h2 q hq).1, Nat.lt_succ_of_lt (h2 q hq).2⟩
  ·rw [if_neg hk]
   exact Zkc r n acc h1 h2 h3
theorem Zt9 {P : Params} {h : Heap} {a : Addr} {ns : List Int} (w1 : Well P h (.ref a) (ofPy (.list (ns.map PyData.int)))) (W : Wd) : ∃ vs, h.get? a = some (Zb8 vs 0) ∧ VRs W (ns.map V.int) vs := by
 have key : ∀ {ns : List Int} {vs : List Value} {xs : List WData}, xs = (ns.map PyData.int).map ofPy → WellAll P h vs xs → VRs W (ns.map V.int) vs := by
  intro ns
  induction ns with
  | nil => intro vs xs e h; subst e; cases h; exact .nil
  | cons n ns ih =>
   intro vs xs e h
   subst e
   cases h with
   | cons h1 h2 =>
    cases h1 with
    | int i t => exact .cons (.int _ _) (ih rfl h2)
 have e : ofPy (.list (ns.map PyData.int)) = .list ((ns.map PyData.int).map ofPy) := by rw [ofPy, ofPys_eq]
 rw [e] at w1
 cases w1 with
 | list hg ha => exact ⟨_, hg, key rfl ha⟩
section
variable {prog : Program} {w : World} {K : Frag} {p : Program} {loose : List Str} {mean : ExcName → Option Value} {mg mb : Str → Option Value}
theorem ZvB {P : Params} {h₀ : Heap} {s : Shared} {sa fa : Addr} {cd : Value} {ns : List Int} {qual pname : Str} {scope : Scope} {body : List Stmt} {names : List Str} {g : Sm} {cells : List (Addr × Obj)} {Q : Flow → Shared → Prop} {E : Value → Shared → Prop} {room : Nat} {H' : Hp}
  (hbody : ∀ (dp un : Nat) (gd : Option (List Code)) (L a : Addr) (ccd : Value) (outer : List Env) (h₀ : Heap) (hu : un + 200 < cLine), Clr K p loose mean mg mb (ZbY dp un gd qual scope L a ccd (cellsFrom (L + 1) scope.names []) outer h₀ hu names) dp un → dp + room < recursionLimit → un + 10 * room + 300 < cLine →
   Ss prog w (ZbY dp un gd qual scope L a ccd (cellsFrom (L + 1) scope.names []) outer h₀ hu names) body g)
  (hd : callerA.depth + 1 + room < recursionLimit) (hun : callerA.units + 3 + 10 * room + 300 < cLine) (hk : scope.kind = .function) (h0 : names[0]? = some pname)
  (KX : K.In h₀) (T : Top p loose mean mg mb h₀) (w1 : Well P h₀ (.ref sa) (ofPy (.list (ns.map PyData.int)))) (hlen : ns.length ≤ LEN)
  (F : Fr h₀ h₀.objs.size s.heap (bindL (envOfC qual scope h₀.objs.size fa cd).kindOf [(pname, .ref sa)] fun _ => none)) (N : News h₀ h₀.objs.size s.heap cells) (X0 : CellsAre (bindC (envOfC qual scope h₀.objs.size fa cd).kindOf [(pname, .ref sa)] fun _ => none) (cellsFrom (h₀.objs.size + 1) scope.names []) cells)
  (hg : Zaa 1 g [.ref 0] [ns.map V.int] = some (.bool true, H')) (post : ∀ h' tk' m', Fr h₀ h₀.objs.size h' m' → Q (.ret (.bool true)) { s with heap := h', toks := tk' }) :
  wpAny (model prog w) (callerA.deeper (envOfC qual scope h₀.objs.size fa cd)) (execs body (envOfC qual scope h₀.objs.size fa cd)) Q E s := by
 have hu' : (callerA.units + 3) + 200 < cLine := by omega
 have clr : Clr K p loose mean mg mb (ZbY (callerA.depth + 1) (callerA.units + 3) callerA.guards qual scope h₀.objs.size fa cd (cellsFrom (h₀.objs.size + 1) scope.names []) [] h₀ hu' names) (callerA.depth + 1) (callerA.units + 3) :=
  ⟨callerA.guards, qual, scope, fa, cd, cellsFrom (h₀.objs.size + 1) scope.names [], [], _, _, rfl, below_caller h₀, KX, T, hk⟩
 have hb := hbody (callerA.depth + 1) (callerA.units + 3) callerA.guards h₀.objs.size fa cd [] h₀ hu' clr hd hun
 obtain ⟨vs, hsc, hv⟩ := Zt9 w1 ⟨[sa], [], (sa, Zb8 [] 0)⟩
 have hv' : VRs ⟨[sa], [], (sa, Zb8 vs 0)⟩ (ns.map V.int) vs := by
  clear hg post w1 hlen hsc
  generalize ns.map V.int = us at hv
  have key : ∀ {us : List V} {xs : List Value}, VRs ⟨[sa], [], (sa, Zb8 [] 0)⟩ us xs → VRs ⟨[sa], [], (sa, Zb8 vs 0)⟩ us xs := by
   intro us
   induction us with
   | nil => intro xs h; cases h; exact .nil
   | cons u us ih =>
    intro xs h
    cases h with
    | cons a b =>
     refine .cons ?_ (ih b)
     cases a with
     | none => exact .none
     | bool b => exact .bool b
     | int i t => exact .int i t
     | str s t => exact .str s t
     | tup hm _ _ => exact nomatch hm
     | ref e => exact .ref e
  exact key hv
 have far := Zkc (lo := h₀.objs.size) scope.names (h₀.objs.size + 1) [] .nil (fun q hq => nomatch hq) (Nat.lt_succ_self _)
 unfold Zaa at hg
 rw [if_pos (show ([V.ref 0] : List V).length = 1 from rfl)] at hg
 obtain ⟨res, e1, e2⟩ := Zz1.mp hg
 obtain ⟨o, ρ', K'⟩ := res
 have eo : o = some (.bool true) := by
  cases o with
  | none => simp at e2
  | some v => simp at e2; rw [e2.1]
 subst eo
 have pick : ∀ {i : Nat} {x : Str} {u : V}, names[i]? = some x → ([V.ref 0] : List V)[i]? = some u → x = pname ∧ u = .ref 0 := fun {i x u} h1 h2 => by
  have hi : i < 1 := (Zz6.mp h2).1
  have : i = 0 := by omega
  subst this
  rw [h0] at h1
  simp at h1 h2
  exact ⟨h1.symm, h2.symm⟩
 have rep : Rep (ZbY (callerA.depth + 1) (callerA.units + 3) callerA.guards qual scope h₀.objs.size fa cd (cellsFrom (h₀.objs.size + 1) scope.names []) [] h₀ hu' names) ⟨[sa], [], (sa, Zb8 vs 0)⟩ (fun i => [V.ref 0][i]?) [ns.map V.int] [] s.heap := by
  refine ⟨_, cells, cells, ⟨F, N, ⟨rfl, by simp, fun i us e => ?_, fun q hq => (nomatch hq), fun q hq => (nomatch hq)⟩, hsc, rfl, fun q hq => (nomatch hq), fun q hq => (nomatch hq), fun q hq => hq, fun q hq z => ?_, fun q _ t ht => (nomatch ht), fun q hq => (nomatch hq), fun q hq t ht => (nomatch ht), ⟨fun i x u hi hk1 hu1 => ?_, fun i x u hi hk1 hu1 => ?_, fun x c1 hc => ?_, fun x y c1 h1 h2 => ?_⟩⟩⟩
  ·have hi : i < 1 := (Zz6.mp e).1
   have : i = 0 := by omega
   subst this
   simp at e
   subst e
   exact ⟨by simpa using hlen, sa, vs, 0, rfl, List.mem_cons_self, hv'⟩
  ·have := (N q hq).2.2
   rw [List.mem_singleton.mp z, hsc] at this
   cases this
  ·obtain ⟨e3, e4⟩ := pick hi hu1
   subst e3 e4
   refine ⟨.ref sa, ?_, .ref rfl⟩
   show bindL _ _ _ _ = _
   unfold bindL bindL
   rw [if_pos (show (envOfC qual scope h₀.objs.size fa cd).kindOf x = some .local from hk1)]
   simp
  ·obtain ⟨e3, e4⟩ := pick hi hu1
   subst e3 e4
   have hs := cellsFrom_some scope.names (h₀.objs.size + 1) [] (.inl hk1)
   obtain ⟨c1, hc1⟩ := Option.isSome_iff_exists.mp hs
   obtain ⟨o1, ho1, hd1⟩ := ZgL X0 (ZdS hc1)
   refine ⟨c1, o1, .ref sa, hc1, ho1, ?_, .ref rfl⟩
   rw [hd1]
   unfold bindC bindC
   rw [if_neg (show ¬ (envOfC qual scope h₀.objs.size fa cd).kindOf x = some .local by show ¬ scope.names.lookup x = some .local; rw [hk1]; simp)]
   simp
  ·obtain ⟨o1, ho1, hd1⟩ := ZgL X0 (ZdS hc)
   exact ⟨o1, _, ho1, hd1⟩
  ·exact name_of_addr far.1 (ZdS h1) (ZdS h2)
 refine hb _ _ _ [] s Q E _ rep e1 ?_
 intro W' h' tk' x l' r' x'
 cases x' with
 | bool _ =>
  obtain ⟨m', c', led', r'⟩ := r'
  exact post h' tk' m' r'.F
end
end PM
end
section
set_option autoImplicit false
namespace PM
open PySem PySem.W PySem.Calls PyProof.Rows PyProof PyProof.Rows.LCg PyProof.Rows.LSm
theorem Rep.listAt {Γ : Cx} {W : Wd} {ρ : Lc} {H : Hp} {fr : List (Addr × Obj)} {h h' : Heap} {vs : List V} {xs : List Value} {k : Nat} (r : Rep Γ W ρ H fr h) (up : ∀ b o, h.get? b = some o → h'.get? b = some o) (hg : h'.get? h.objs.size = some (Zb8 xs k)) (hv : VRs W vs xs) (hl : vs.length ≤ LEN) :
  ∃ W', W.Le W' ∧ Rep Γ W' ρ (H ++ [vs]) fr h' ∧ VR W' (.ref H.length) (.ref h.objs.size) := by
 obtain ⟨r2, ap⟩ := r.more (fs := [(h.objs.size, Zb8 xs k)]) up (fun q hq => by rw [List.mem_singleton.mp hq]; exact ⟨hg, Nat.le_refl _⟩)
 exact Zgs r2 (fun t ht => ap _ Zz5 t ht) hv hl
noncomputable def Zcv : List V → Hp → Option (V × Hp)
 | [.ref a], H => H[a]?.map fun vs => (.ref H.length, H ++ [vs])
 | [.tup vs], H => some (.ref H.length, H ++ [vs])
 | _, _ => none
noncomputable def ZfC : List V → Hp → Option (V × Hp)
 | [.ref a], H => H[a]?.map fun vs => (.tup vs, H)
 | [.tup vs], H => some (.tup vs, H)
 | _, _ => none
noncomputable def ZfD : List V → Option (List Bool)
 | [] => some []
 | .bool b :: vs => (ZfD vs).map fun bs => b :: bs
 | _ :: _ => none
noncomputable def Zyg : List V → Hp → Option (V × Hp)
 | [.ref a], H => H[a]?.bind fun vs => (ZfD vs).map fun bs => (.bool (bs.all id), H)
 | _, _ => none
noncomputable def Zhe : List V → Hp → Option (V × Hp)
 | [.ref a], H => H[a]?.bind fun vs => (ZfD vs).map fun bs => (.bool (bs.any id), H)
 | _, _ => none
theorem Ztb {W : Wd} : ∀ {vs : List V} {xs : List Value} {bs : List Bool}, VRs W vs xs → ZfD vs = some bs → BoolsAre xs bs := by
 intro vs
 induction vs with
 | nil => intro xs bs h e; cases h; cases e; exact .nil
 | cons v vs ih =>
  intro xs bs h e
  cases h with
  | cons a b =>
   cases v with
   | bool c =>
    obtain ⟨cs, e1, e2⟩ := Zz1.mp e
    subst e2
    cases a
    exact .cons _ (ih b e1)
   | none => cases e
   | int _ => cases e
   | str _ => cases e
   | tup _ => cases e
   | ref _ => cases e
section
variable {prog : Program} {w : World}
theorem Zdk : OpN prog w (fun xs => call (.type "list") xs) Zcv := by
 intro Γ W ρ H fr s Q E as xs v H' r hx ho post
 unfold Zcv at ho
 split at ho
 ·obtain ⟨vs, e1, e2⟩ := Zz1.mp ho
  cases e2
  obtain ⟨x, ex, rx⟩ := hx.one
  subst ex
  cases rx with
  | @ref _ a ea =>
   obtain ⟨hl, ys, k, hg, hv⟩ := r.at e1 ea
   refine call_list_seq (hsz := Zdj (by rw [List.size_toArray, hv.length]; exact hl)) a (.inl rfl) hg rfl rfl fun h' c' up hg' => ?_
   obtain ⟨W2, l2, r2, v2⟩ := r.listAt up hg' hv hl
   exact post W2 h' s.toks _ l2 r2 v2
 ·cases ho
  obtain ⟨x, ex, rx⟩ := hx.one
  subst ex
  cases rx with
  | @tup _ a ys k hm hl hv =>
   refine call_list_seq (hsz := Zdj (by rw [List.size_toArray, hv.length]; exact hl)) a (.inr rfl) (r.tupAt hm) rfl rfl fun h' c' up hg' => ?_
   obtain ⟨W2, l2, r2, v2⟩ := r.listAt up hg' hv hl
   exact post W2 h' s.toks _ l2 r2 v2
 ·cases ho
theorem Zua : OpN prog w (fun xs => call (.type "tuple") xs) ZfC := by
 intro Γ W ρ H fr s Q E as xs v H' r hx ho post
 unfold ZfC at ho
 split at ho
 ·obtain ⟨vs, e1, e2⟩ := Zz1.mp ho
  cases e2
  obtain ⟨x, ex, rx⟩ := hx.one
  subst ex
  cases rx with
  | @ref _ a ea =>
   obtain ⟨hl, ys, k, hg, hv⟩ := r.at e1 ea
   have isl : s.heap.IsList a ys.toArray := ⟨_, hg, rfl, k, rfl⟩
   refine call_tuple_list isl (fun h' up => ?_) (Zdj (by rw [List.size_toArray, hv.length]; exact hl))
   obtain ⟨W2, l2, r2, v2⟩ := (r.grown up).tuple (k := 0) hv hl
   exact post W2 _ s.toks _ l2 r2 v2
 ·cases ho
  obtain ⟨x, ex, rx⟩ := hx.one
  subst ex
  cases rx with
  | @tup _ a ys k hm hl hv =>
   have it : IsTup s.heap a ys.toArray := ⟨_, r.tupAt hm, rfl, k, rfl⟩
   exact call_tuple_tup it (post W s.heap s.toks _ (.refl W) r (.tup hm hl hv))
 ·cases ho
theorem ZwP : OpN prog w (fun xs => call (.builtin "any") xs) Zhe := by
 intro Γ W ρ H fr s Q E as xs v H' r hx ho post
 unfold Zhe at ho
 split at ho
 ·obtain ⟨vs, e1, e2⟩ := Zz0.mp ho
  obtain ⟨bs, e3, e4⟩ := Zz1.mp e2
  cases e4
  obtain ⟨x, ex, rx⟩ := hx.one
  subst ex
  cases rx with
  | @ref _ a ea =>
   obtain ⟨hl, ys, k, hg, hv⟩ := r.at e1 ea
   have isl : s.heap.IsList a ys.toArray := ⟨_, hg, rfl, k, rfl⟩
   obtain ⟨m, c, led, r'⟩ := r
   exact any_bools r'.F r'.N Γ.hh isl (Ztb hv e3) fun h' tk F' N' => post W h' tk _ (.refl W) (r'.same F' N') (.bool _)
 ·cases ho
end
section
variable {prog : Program} {w : World} {K : Frag} {p : Program} {loose : List Str} {mean : ExcName → Option Value} {mg mb : Str → Option Value} {Γ : Cx} {dp un : Nat}
theorem ZwQ {x : Str} {v : Value} (clr : Clr K p loose mean mg mb Γ dp un) (e : nsIn K mainGlobals x = some (some v)) (hg : Γ.env.globals = mainGlobals) (hk : Γ.env.scope.kind = .function) (hx : Γ.env.kindOf x = some .globalImplicit) (hd : (x == ("__debug__" : Str)) = false) : Nm prog w Γ x v := by
 obtain ⟨_, _, _, _, _, _, _, _, _, _, _, X, T, _⟩ := clr
 intro pos m s Q E F q
 exact Name_function_global hk hx (loadGlobal_global (env := Γ.env) (by rw [hg]; exact T.g.keeps F.keep) (mg_of X T.g e) q) hd
theorem ZuL {x : Str} {v : Value} (clr : Clr K p loose mean mg mb Γ dp un) (e : nsIn K mainGlobals x = some none) (hv : bootBuiltins x = some v) (hn : x ≠ "__name__") (hg : Γ.env.globals = mainGlobals) (hb : Γ.env.builtins = builtinsNs) (hk : Γ.env.scope.kind = .function) (hx : Γ.env.kindOf x = some .globalImplicit) (hd : (x == ("__debug__" : Str)) = false) : Nm prog w Γ x v := by
 obtain ⟨_, _, _, _, _, _, _, _, _, _, _, X, T, _⟩ := clr
 intro pos m s Q E F q
 exact Name_function_global hk hx (loadGlobal_builtin (env := Γ.env) (by rw [hg]; exact T.g.keeps F.keep) (mg_none_of X T.g e) (by rw [hb]; exact T.b.keeps F.keep) ((T.builtins x hn).trans hv) q) hd
end
section
variable {prog : Program} {w : World} {Γ : Cx} {scope : Scope} {cl : List (Str × Addr)} {C : Addr} {ts : List (Str × Nat)} {ρ0 : Lc}
theorem ZvC {x : Str} {t : Nat} (hm : (x, t) ∈ ts) (hk : scope.kind = .function) (hl : (compEnvC scope cl C Γ.env).kindOf x = some .local) (hd : (x == ("__debug__" : Str)) = false) : Rd prog w (ZbA Γ scope cl C ts ρ0) x t := by
 intro W ρ H fr s Q E v pos r e q
 obtain ⟨m, c, led, r⟩ := r
 obtain ⟨oC, m₂, cs, ec, h0, h1, h2, h3, h4⟩ := r.own
 obtain ⟨v', y, e1, e2, e3⟩ := h2 _ hm
 rw [e] at e1
 cases e1
 exact LCgL.ld_own r.N (r.clIn _ (by rw [ec]; exact Zz5)) h1 e2 (q y e3) hk hl hd
end
section
variable {prog : Program} {w : World} {dp un : Nat} {gd : Option (List Code)} {cn : Str} {cs : Scope} {L a : Addr} {ccd : Value} {clf : List (Str × Addr)} {outer : List Env} {h₀ : Heap} {hu : un + 200 < cLine} {names : List Str} {scope : Scope} {cl : List (Str × Addr)} {C : Addr} {ts : List (Str × Nat)} {ρ0 : Lc}
theorem ZvD {x : Str} {i : Nat} (hi : names[i]? = some x) (hx : cs.names.lookup x = some .cell) (hne : ∀ p ∈ ts, p.2 ≠ i) (hcl : cl.lookup x = clf.lookup x) (hk : scope.kind = .function) (hl : (compEnvC scope cl C (envX cn cs L a ccd clf)).kindOf x = some .cell) (hd : (x == ("__debug__" : Str)) = false) :
  Rd prog w (ZbA (ZbY dp un gd cn cs L a ccd clf outer h₀ hu names) scope cl C ts ρ0) x i := by
 intro W ρ H fr s Q E v pos r e q
 obtain ⟨m, c, led, r⟩ := r
 obtain ⟨oC, m₂, cs', ec, h0, h1, h2, h3, h4⟩ := r.own
 rw [h3 i hne] at e
 obtain ⟨d, o, y, g1, g2, g3, g4⟩ := h4.cel i x v hi hx e
 exact kcf_cell r.N (hcl.trans g1) (r.clIn _ (by rw [ec]; exact Zz2 _ g2)) g3 (q y g4) hk hl hd
end
end PM
end
section
namespace My
open PySem PySem.W PySem.Calls PyProof.Rows PySem.Spec
structure Cell (v : Int) : Prop where
 bits : Builtin.Int.intBits v ≤ 2 ^ 20
theorem bits_zero : Builtin.Int.intBits 0 ≤ 2 ^ 20 := by unfold Builtin.Int.intBits; simp
theorem cell_at {ns : List Int} (h : PyData.layable0 (.list (ns.map .int)) = true) (i : Int) : Cell (cellAt ns i 0) := by
 refine ⟨?_⟩
 rw [cellAt_def, List.getD_eq_getElem?_getD]
 cases e : ns[i.toNat]? with
 | none => exact bits_zero
 | some v => exact PyData.bits_item_of_ints h (List.mem_of_getElem? e)
section
variable {prog : Program} {w : World} {A : Around} {E : Value → Shared → Prop} {s : Shared} {x y : Int} {t u : Tok} {Q : Value → Shared → Prop}
@[irreducible] noncomputable def T9 : Int := 10 ^ 9
theorem T9_eq : T9 = 1000000000 := by unfold T9; decide +kernel
end
end My
end
section
set_option autoImplicit false
/-! Reckoning with the plain machine. -/
namespace PM
open PySem PySem.W PyProof.Rows
section
variable (ρ : Lc) (H : Hp)
@[simp] theorem ZuM : Zg6 ρ H = some (none, H) := rfl
@[simp] theorem ZuN (f : Ex) : Zor f ρ H = (f ρ H).map fun p => (some p.1, p.2) := rfl
end
section
variable (a b : Int) (H : Hp)
end
theorem ZrK {b : Int} (hb : 0 ≤ b) : Builtin.Range.rangeSize 0 b 1 = b := by
 unfold Builtin.Range.rangeSize
 rw [if_pos (by decide)]
 by_cases h : (0 : Int) < b
 ·rw [if_pos h]
  omega
 ·rw [if_neg h]
  omega
theorem ZwR {b : Int} {H : Hp} (hb : 0 ≤ b) (hb9 : b ≤ 1000) : ZcJ 0 b 1 H = some (ZfB 0 1 b.toNat, b.toNat + 1, H) := by
 unfold ZcJ rngN
 rw [ZrK hb, if_pos]
 refine ⟨by decide, ?_, hb, by rw [Zbn]; omega, ?_⟩
 ·unfold Builtin.Range.small
  rw [ZrK hb]
  simp only [Builtin.Range.rangeFitsLong, Bool.and_eq_true, Bool.or_eq_true, decide_eq_true_eq, beq_iff_eq]
  rw [if_pos (by decide)]
  simp only [Bool.and_eq_true, decide_eq_true_eq]
  by_cases h : (0 : Int) < b
  ·refine ⟨⟨⟨⟨?_, ?_⟩, ?_⟩, ?_⟩, Or.inr ?_⟩ <;> omega
  ·refine ⟨⟨⟨⟨?_, ?_⟩, ?_⟩, ?_⟩, ?_⟩ <;> first | omega | (left; omega)
 ·exact PyProof.noPylong_small (by omega)
end PM
end
section
set_option autoImplicit false
namespace PM
open PySem PySem.W PyProof.Rows My
theorem Zp7 {a b : Int} (h : IntMulOk a b) : mulOk a b = true := by
 unfold IntMulOk at h
 unfold mulOk
 cases e : (decide (Builtin.Int.intBits a > shortFactorBits) && decide (Builtin.Int.intBits b > shortFactorBits) && Builtin.Int.intTooBig (Builtin.Int.intBits a + Builtin.Int.intBits b)) with
 | true => exact absurd e h
 | false => rfl
theorem Zos {a b : Int} {H : Hp} (h : 0 ≤ b ∧ (Builtin.Int.intBits a : Int) * b ≤ 2 ^ 27) : oPow (.int a) (.int b) H = some (.int (a ^ b.toNat), H) := by simp only [oPow]; rw [if_pos h]
theorem ZxI (H : Hp) : oPow (.int 10) (.int 9) H = some (.int T9, H) := by rw [Zos (by decide +kernel)]; unfold T9; rfl
end PM
end
section
set_option autoImplicit false
namespace PM
open PySem PySem.W PyProof.Rows My
section
variable {ρ ρ1 ρ2 : Lc} {H H1 H2 H3 : Hp}
theorem ZwS {k : Int} : Zl k ρ H = some (.int k, H) := rfl
theorem ZvE {f g : Ex} {a : Nat} {k : Int} {n : Nat} {vs : List V} (h1 : f ρ H = some (.ref a, H1)) (h2 : g ρ H1 = some (.int k, H2)) (e : H2[a]? = some vs) (hk : k = (n : Int)) : Zn6 f (Zor g) Zg6 ρ H = some (.ref H2.length, H2 ++ [vs.drop n]) := by
 simp only [Zn6, h1, Option.bind_some, ZuN, h2, Option.map_some, ZuM, Zg5, e]
 rw [Zt3 vs hk]
end
end PM
end
section
set_option autoImplicit false
namespace PM
open PySem PySem.W PyProof.Rows PyProof
noncomputable def ZdJ (f : Ex) (k : Nat) : Ex := fun ρ H => (f ρ H).bind fun p => match p.1 with
 | .ref i => p.2[i]?.bind fun vs => some (.ref p.2.length, p.2 ++ [vs.drop k])
 | .tup vs => if 1 ≤ k ∧ k ≤ vs.length then some (.tup (vs.drop k), p.2) else none
 | _ => none
section
variable {prog : Program} {w : World} {Γ : Cx}
theorem ZgU {e lo : Expr} {p pos : Pos} {f : Ex} {k : Nat} (h : J prog w Γ e f) (hlo : J prog w Γ lo (Zl k)) (ht : ∀ o r, letTemporaryGo e o r = pure () := by intro _ _; rfl) : J prog w Γ (.Subscript e (.Slice (Option.some lo) Option.none Option.none p) pos) (ZdJ f k) := by
 intro W ρ H fr s Q E v H' r hf post
 obtain ⟨⟨v1, H1⟩, e1, hf⟩ := Zz0.mp hf
 cases v1 with
 | none => cases hf
 | bool _ => cases hf
 | int _ => cases hf
 | str _ => cases hf
 | ref i =>
  obtain ⟨vs, e2, e3⟩ := Zz0.mp hf
  refine Zvu h (JP.some hlo) JP.none ht W ρ H fr s Q E v H' r ?_ post
  rw [ZvE (n := k) e1 ZwS e2 rfl]
  exact e3
 | tup vs =>
  simp only at hf
  by_cases c : 1 ≤ k ∧ k ≤ vs.length
  ·rw [if_pos c] at hf
   cases hf
   refine wpAny_Subscript_Slice (T := "tuple") slot_tuple_getitem.lookup (h W ρ H fr s _ E _ _ r e1 fun W1 k1 t1 x l1 r1 x1 => ?_) ht
   refine wpAny_Slice ?_
   refine wpAny_evalPart_some (hlo W1 ρ _ fr _ _ E _ _ r1 rfl fun W2 k2 t2 y l2 r2 y2 => ?_)
   refine wpAny_evalPart_none ?_
   refine wpAny_evalPart_none ?_
   cases y2 with
   | int _ u =>
    have x2 := x1.mono l2
    cases x2 with
    | @tup _ a ys kk hm hl hs =>
     have it : IsTup k2 a ys.toArray := ⟨_, r2.tupAt hm, rfl, kk, rfl⟩
     have it' : IsTup (k2.push { cls := .type "slice", data := .fields #[.int k u, .none, .none] }) a ys.toArray := it.keeps fun _ _ e => Heap.get?_push_of_some _ e
     have hlen := hs.length
     rw [Zbn] at hl
     refine ⟨it'.typeIs, getItem_tuple_from it' (Heap.IsSliceOf.new ..) c.1 (by simp [hlen]; exact c.2) ?_ (Zdj (by simp [hlen]; rw [Zbn]; exact hl))⟩
     obtain ⟨W4, l4, r4, v4⟩ := (r2.push { cls := .type "slice", data := .fields #[.int k u, .none, .none] }).tuple (k := 0) (hs.drop k) (by rw [Zbn]; simp; omega)
     have := post W4 _ t2 _ ((l1.trans l2).trans l4) r4 v4
     simpa using this
  ·rw [if_neg c] at hf
   cases hf
end
section
variable {ρ : Lc} {H : Hp} {Q : V → Hp → Prop}
theorem ZrL {a b c : Int} (hc : 0 < c) (hb : a < b) : Builtin.Range.rangeSize a b c = (b - a - 1) / c + 1 := by
 unfold Builtin.Range.rangeSize
 rw [if_pos hc, if_pos hb]
theorem ZwT {a b c : Int} {H : Hp} (ha : 0 ≤ a) (hb : a < b) (hb9 : b ≤ 1000) (hc : 0 < c) (hc9 : c ≤ 1000) : ZcJ a b c H = some (ZfB a c (rngN a b c), rngN a b c + 1, H) := by
 have e := ZrL hc hb
 have h0 : 0 ≤ (b - a - 1) / c := Int.ediv_nonneg (by omega) (by omega)
 have h2 : (b - a - 1) / c ≤ b - a - 1 := Int.ediv_le_self _ (by omega)
 unfold ZcJ
 rw [if_pos]
 refine ⟨by omega, ?_, by omega, by unfold rngN; rw [Zbn]; omega, PyProof.noPylong_small (by omega)⟩
 unfold Builtin.Range.small
 rw [e]
 simp only [Builtin.Range.rangeFitsLong, Bool.and_eq_true, Bool.or_eq_true, decide_eq_true_eq, beq_iff_eq]
 rw [if_pos hc]
 simp only [Bool.and_eq_true, decide_eq_true_eq]
 refine ⟨⟨⟨⟨?_, ?_⟩, ?_⟩, ?_⟩, ?_⟩ <;> first | omega | (left; omega) | (right; omega)
end
end PM
end
section
set_option autoImplicit false
namespace PM
open PySem PySem.W PyProof.Rows PyProof My
section
variable {ρ : Lc} {H : Hp} {Q : V → Hp → Prop} {L : List V → Hp → Prop}
end
noncomputable def od : Option Int → PyData
 | none => .none
 | some k => .int k
theorem Zpb {a : Int} {k : Nat} (h : Builtin.Int.intBits a ≤ k) : a.natAbs < 2 ^ k := by
 unfold Builtin.Int.intBits at h
 by_cases z : a = 0
 ·subst z
  exact Nat.two_pow_pos k
 ·rw [if_neg (by simpa using z)] at h
  exact Nat.lt_of_lt_of_le Nat.lt_log2_self (Nat.pow_le_pow_right (by decide) h)
theorem ZuO {a b : Int} {k : Nat} (ha : Builtin.Int.intBits a ≤ k) (hb : Builtin.Int.intBits b ≤ k) : Builtin.Int.intBits (a + b) ≤ k + 1 := by
 refine PyProof.Rows.intBits_le ?_
 have h1 := Zpb ha
 have h2 := Zpb hb
 rw [Nat.pow_succ]
 omega
theorem Zp8 {a b : Int} (ha : Builtin.Int.intBits a ≤ 2 ^ 21) (hb : Builtin.Int.intBits b ≤ 2 ^ 21) : mulOk a b = true := by
 have e : (2 : Nat) ^ 21 = 2097152 := by decide
 have h : Builtin.Int.intTooBig (Builtin.Int.intBits a + Builtin.Int.intBits b) = false := by
  unfold Builtin.Int.intTooBig bitsLine
  exact decide_eq_false (by omega)
 unfold mulOk
 rw [h]
 simp
theorem Zub {a b : Int} (h1 : -(2 ^ 64) < b) (h2 : b < 2 ^ 64) : mulOk a b = true := Zp7 (IntMulOk.of_right (intBits_le_64 h1 h2))
theorem Ztw {a b : Int} (h1 : -(2 ^ 64) < a) (h2 : a < 2 ^ 64) : mulOk a b = true := Zp7 (IntMulOk.of_left (intBits_le_64 h1 h2))
@[irreducible] noncomputable def M9 : Int := 48271 ^ Int.toNat 9
@[irreducible] noncomputable def T40 : Int := 10 ^ Int.toNat 40
theorem ZwU (H : Hp) : oPow (.int 48271) (.int 9) H = some (.int M9, H) := by rw [Zos (by decide +kernel)]; unfold M9; rfl
theorem ZwV (H : Hp) : oPow (.int 10) (.int 40) H = some (.int T40, H) := by rw [Zos (by decide +kernel)]; unfold T40; rfl
theorem Zi0 : T40 = 10000000000000000000000000000000000000000 := by unfold T40; decide +kernel
theorem ZvF : Builtin.Int.intBits M9 ≤ 2 ^ 21 := by
 unfold M9
 exact Nat.le_trans (PyProof.Rows.intBits_le (k := 256) (by decide +kernel)) (by decide)
section
variable {H : Hp} {Q : V → Hp → Prop} {a b : Int}
end
end PM
end
section
set_option autoImplicit false
/-! The tree machine: values without places; lists that nobody else holds may be changed. -/
namespace TM
open PySem PM
inductive T where
 | none
 | bool (b : Bool)
 | int (i : Int)
 | str (s : Str)
 | tup (ts : List T)
 | lst (ts : List T)
mutual
inductive RF (H : Hp) : V → T → List Nat → Prop where
 | none : RF H .none .none []
 | bool (b : Bool) : RF H (.bool b) (.bool b) []
 | int (i : Int) : RF H (.int i) (.int i) []
 | str (s : Str) : RF H (.str s) (.str s) []
 | tup {vs : List V} {ts : List T} {F : List Nat} : RFs H vs ts F → RF H (.tup vs) (.tup ts) F
 | ref {a : Nat} {vs : List V} {ts : List T} {F : List Nat} : H[a]? = some vs → RFs H vs ts F → RF H (.ref a) (.lst ts) (a :: F)
inductive RFs (H : Hp) : List V → List T → List Nat → Prop where
 | nil : RFs H [] [] []
 | cons {v : V} {t : T} {F : List Nat} {vs : List V} {ts : List T} {G : List Nat} : RF H v t F → RFs H vs ts G → RFs H (v :: vs) (t :: ts) (F ++ G)
end
mutual
theorem RF.frame {H H' : Hp} {v : V} {t : T} {F : List Nat} (r : RF H v t F) (h : ∀ a ∈ F, H'[a]? = H[a]?) : RF H' v t F := by
 cases r with
 | none => exact .none
 | bool b => exact .bool b
 | int i => exact .int i
 | str s => exact .str s
 | tup hs => exact .tup (RFs.frame hs h)
 | ref e hs => exact .ref ((h _ Zz5).trans e) (RFs.frame hs fun a m => h a (Zz2 _ m))
theorem RFs.frame {H H' : Hp} {vs : List V} {ts : List T} {F : List Nat} (r : RFs H vs ts F) (h : ∀ a ∈ F, H'[a]? = H[a]?) : RFs H' vs ts F := by
 cases r with
 | nil => exact .nil
 | cons a b => exact .cons (RF.frame a fun x m => h x (Zz4 _ m)) (RFs.frame b fun x m => h x (Zz3 _ m))
end
mutual
theorem RF.lt {H : Hp} {v : V} {t : T} {F : List Nat} (r : RF H v t F) : ∀ a ∈ F, a < H.length := by
 cases r with
 | none => intro a m; cases m
 | bool b => intro a m; cases m
 | int i => intro a m; cases m
 | str s => intro a m; cases m
 | tup hs => exact RFs.lt hs
 | ref e hs =>
  intro x m
  rcases Zz7.mp m with rfl | m
  ·exact (Zz6.mp e).1
  ·exact RFs.lt hs x m
theorem RFs.lt {H : Hp} {vs : List V} {ts : List T} {F : List Nat} (r : RFs H vs ts F) : ∀ a ∈ F, a < H.length := by
 cases r with
 | nil => intro a m; cases m
 | cons a b =>
  intro x m
  rcases Zz8.mp m with m | m
  ·exact RF.lt a x m
  ·exact RFs.lt b x m
end
theorem RF.ext {H : Hp} {v : V} {t : T} {F : List Nat} (r : RF H v t F) (X : Hp) : RF (H ++ X) v t F := r.frame fun a m => List.getElem?_append_left (r.lt a m)
theorem RFs.ext {H : Hp} {vs : List V} {ts : List T} {F : List Nat} (r : RFs H vs ts F) (X : Hp) : RFs (H ++ X) vs ts F := r.frame fun a m => List.getElem?_append_left (r.lt a m)
theorem RFs.length {H : Hp} : ∀ {vs : List V} {ts : List T} {F : List Nat}, RFs H vs ts F → vs.length = ts.length
 | _, _, _, .nil => rfl
 | _, _, _, .cons _ r => by rw [List.length_cons, List.length_cons, r.length]
theorem RFs.append {H : Hp} : ∀ {vs us : List V} {ts ss : List T} {F G : List Nat}, RFs H vs ts F → RFs H us ss G → RFs H (vs ++ us) (ts ++ ss) (F ++ G)
 | _, _, _, _, _, _, .nil, h => h
 | _, _, _, _, _, _, .cons a r, h => by rw [List.append_assoc]; exact .cons a (r.append h)
theorem RFs.one {H : Hp} {v : V} {t : T} {F : List Nat} (r : RF H v t F) : RFs H [v] [t] F := by
 have := RFs.cons r RFs.nil
 rwa [List.append_nil] at this
theorem RFs.snoc {H : Hp} {vs : List V} {ts : List T} {F G : List Nat} {v : V} {t : T} (r : RFs H vs ts F) (x : RF H v t G) : RFs H (vs ++ [v]) (ts ++ [t]) (F ++ G) := r.append (.one x)
theorem RFs.at {H : Hp} : ∀ {vs : List V} {ts : List T} {F : List Nat} {i : Nat} {t : T}, RFs H vs ts F → ts[i]? = some t → ∃ v G, vs[i]? = some v ∧ RF H v t G ∧ G.Sublist F
 | _, _, _, _, _, .nil, e => by simp at e
 | _, _, _, 0, _, .cons a _, e => by
  simp at e
  exact ⟨_, _, by simp, e ▸ a, List.sublist_append_left _ _⟩
 | _, _, _, i + 1, _, .cons _ r, e => by
  simp at e
  obtain ⟨x, G, hx, hr, hs⟩ := r.at e
  exact ⟨x, G, by simpa using hx, hr, hs.trans (List.sublist_append_right _ _)⟩
theorem RFs.drop {H : Hp} : ∀ {vs : List V} {ts : List T} {F : List Nat} (i : Nat), RFs H vs ts F → ∃ G, RFs H (vs.drop i) (ts.drop i) G ∧ G.Sublist F
 | _, _, _, 0, h => ⟨_, h, List.Sublist.refl _⟩
 | _, _, _, _ + 1, .nil => ⟨_, .nil, List.Sublist.refl _⟩
 | _, _, _, i + 1, .cons _ r => by
  obtain ⟨G, h1, h2⟩ := r.drop i
  exact ⟨G, h1, h2.trans (List.sublist_append_right _ _)⟩
theorem RFs.split {H : Hp} : ∀ {vs : List V} {ts : List T} {F : List Nat} {i : Nat} {t : T}, RFs H vs ts F → ts[i]? = some t →
  ∃ v G F1 F2, vs[i]? = some v ∧ RF H v t G ∧ F = F1 ++ (G ++ F2) ∧ ∀ (H' : Hp) (w : V) (t' : T) (G' : List Nat), RF H' w t' G' → (∀ a ∈ F1, H'[a]? = H[a]?) → (∀ a ∈ F2, H'[a]? = H[a]?) → RFs H' (vs.set i w) (ts.set i t') (F1 ++ (G' ++ F2))
 | _, _, _, _, _, .nil, e => by simp at e
 | _, _, _, 0, _, .cons (G := G1) a r, e => by
  simp at e
  subst e
  exact ⟨_, _, [], G1, by simp, a, by simp, fun H' w t' G' x _ h2 => by simpa using RFs.cons x (r.frame h2)⟩
 | _, _, _, i + 1, _, .cons (F := F0) a r, e => by
  simp at e
  obtain ⟨v, G, F1, F2, h1, h2, h3, h4⟩ := r.split e
  refine ⟨v, G, F0 ++ F1, F2, by simpa using h1, h2, by rw [h3]; simp, fun H' w t' G' x k1 k2 => ?_⟩
  have := RFs.cons (a.frame fun b m => k1 b (Zz4 _ m)) (h4 H' w t' G' x (fun b m => k1 b (Zz3 _ m)) k2)
  simpa using this
theorem Zp9 {α : Type} {xs : List α} {i : Nat} {x : α} (h : xs[i]? = some x) : xs.set i x = xs := by
 obtain ⟨hi, e⟩ := Zz6.mp h
 rw [← e]
 exact List.set_getElem_self hi
theorem nd3 {F1 G F2 G' Gn : List Nat} (nd : (F1 ++ (G ++ F2)).Nodup) (n' : G'.Nodup) (sub : ∀ a ∈ G', a ∈ G ∨ a ∈ Gn) (ds : ∀ a ∈ Gn, a ∉ F1 ++ (G ++ F2)) : (F1 ++ (G' ++ F2)).Nodup := by
 rw [List.nodup_append, List.nodup_append] at nd ⊢
 obtain ⟨a1, ⟨a2, a3, a4⟩, a5⟩ := nd
 refine ⟨a1, ⟨n', a3, fun x hx y hy e => ?_⟩, fun x hx y hy e => ?_⟩
 ·rcases sub x hx with m | m
  ·exact a4 x m y hy e
  ·exact ds x m (Zz3 _ (Zz3 _ (e ▸ hy)))
 ·rcases Zz8.mp hy with m | m
  ·rcases sub y m with q | q
   ·exact a5 x hx y (Zz4 _ q) e
   ·exact ds y q (Zz4 _ (e ▸ hx))
  ·exact a5 x hx y (Zz3 _ m) e
theorem in3 {F1 G F2 G' Gn : List Nat} (sub : ∀ a ∈ G', a ∈ G ∨ a ∈ Gn) : ∀ a ∈ F1 ++ (G' ++ F2), a ∈ F1 ++ (G ++ F2) ∨ a ∈ Gn := by
 intro a m
 rcases Zz8.mp m with m | m
 ·exact .inl (Zz4 _ m)
 ·rcases Zz8.mp m with m | m
  ·exact (sub a m).imp (fun q => List.mem_append_right _ (Zz4 _ q)) id
  ·exact .inl (Zz3 _ (Zz3 _ m))
mutual
noncomputable def T.flat : T → Bool
 | .lst _ => false
 | .tup ts => T.flats ts
 | .none => true
 | .bool _ => true
 | .int _ => true
 | .str _ => true
noncomputable def T.flats : List T → Bool
 | [] => true
 | t :: ts => t.flat && T.flats ts
end
mutual
theorem RF.flat {H : Hp} {v : V} {t : T} {F : List Nat} (r : RF H v t F) (h : t.flat = true) : F = [] := by
 cases r with
 | none => rfl
 | bool b => rfl
 | int i => rfl
 | str s => rfl
 | tup hs => exact RFs.flats hs (by simpa [T.flat] using h)
 | ref e hs => simp [T.flat] at h
theorem RFs.flats {H : Hp} {vs : List V} {ts : List T} {F : List Nat} (r : RFs H vs ts F) (h : T.flats ts = true) : F = [] := by
 cases r with
 | nil => rfl
 | cons a b =>
  simp only [T.flats, Bool.and_eq_true] at h
  rw [RF.flat a h.1, RFs.flats b h.2]
  rfl
end
noncomputable def T.flatIn : T → Bool
 | .lst ts => T.flats ts
 | t => t.flat
noncomputable def ZcZ (f : List T → Option (List T)) : List Int → T → Option T
 | [], .lst ts => (f ts).map .lst
 | k :: ks, .lst ts => (seqIndex? k ts.length).bind fun j => ts[j]?.bind fun t => (ZcZ f ks t).map fun u => .lst (ts.set j u)
 | k :: ks, .tup ts => (seqIndex? k ts.length).bind fun j => ts[j]?.bind fun t => (ZcZ f ks t).map fun u => .tup (ts.set j u)
 | _, _ => none
inductive Lead (H : Hp) : List Int → V → Nat → Prop where
 | nil {a : Nat} : Lead H [] (.ref a) a
 | ref {k : Int} {ks : List Int} {b : Nat} {vs : List V} {j : Nat} {v : V} {a : Nat} : H[b]? = some vs → seqIndex? k vs.length = some j → vs[j]? = some v → Lead H ks v a → Lead H (k :: ks) (.ref b) a
 | tup {k : Int} {ks : List Int} {vs : List V} {j : Nat} {v : V} {a : Nat} : seqIndex? k vs.length = some j → vs[j]? = some v → Lead H ks v a → Lead H (k :: ks) (.tup vs) a
theorem ZfH {H : Hp} {Gn : List Nat} {f : List T → Option (List T)} : ∀ (ks : List Int) {v : V} {t t' : T} {F : List Nat}, RF H v t F → F.Nodup → (∀ a ∈ Gn, a ∉ F) → ZcZ f ks t = some t' →
  ∃ a vs ts ts' G, Lead H ks v a ∧ a ∈ F ∧ H[a]? = some vs ∧ RFs H vs ts G ∧ f ts = some ts' ∧ G.Nodup ∧ a ∉ G ∧ (∀ x ∈ G, x ∈ F) ∧
   ∀ vs' G', RFs H vs' ts' G' → G'.Nodup → a ∉ G' → (∀ x ∈ G', x ∈ G ∨ x ∈ Gn) → ∃ F', RF (H.set a vs') v t' F' ∧ F'.Nodup ∧ ∀ x ∈ F', x ∈ F ∨ x ∈ Gn
 | [], v, t, t', F, r, nd, ds, e => by
  cases r with
  | @ref a vs ts G e1 hs =>
   obtain ⟨ts', h1, h2⟩ := Zz1.mp e
   subst h2
   rw [List.nodup_cons] at nd
   refine ⟨a, vs, ts, ts', G, .nil, List.mem_cons_self, e1, hs, h1, nd.2, nd.1, fun x m => List.mem_cons_of_mem _ m, fun vs' G' r' n' na sub => ⟨a :: G', ?_, ?_, ?_⟩⟩
   ·have ha := (Zz6.mp e1).1
    refine .ref (List.getElem?_set_self ha) (r'.frame fun b m => List.getElem?_set_ne ?_)
    intro q
    subst q
    exact na m
   ·exact List.nodup_cons.mpr ⟨na, n'⟩
   ·intro x m
    rcases Zz7.mp m with rfl | m
    ·exact .inl Zz5
    ·exact (sub x m).imp (Zz2 _) id
  | none => cases e
  | bool _ => cases e
  | int _ => cases e
  | str _ => cases e
  | tup _ => cases e
 | k :: ks, v, t, t', F, r, nd, ds, e => by
  cases r with
  | none => cases e
  | bool _ => cases e
  | int _ => cases e
  | str _ => cases e
  | @tup vs ts _ hs =>
   obtain ⟨j, e1, e⟩ := Zz0.mp e
   obtain ⟨u, e2, e⟩ := Zz0.mp e
   obtain ⟨u', e3, e⟩ := Zz1.mp e
   subst e
   obtain ⟨w, G1, F1, F2, e4, g1, eF, rb⟩ := hs.split e2
   subst eF
   have nd1 : G1.Nodup := (List.nodup_append.mp (List.nodup_append.mp nd).2.1).1
   have hin : ∀ x ∈ G1, x ∈ F1 ++ (G1 ++ F2) := fun x m => List.mem_append_right _ (Zz4 _ m)
   obtain ⟨a, us, qs, qs', G, l, am, ea, hq, hf, gn, na, gs, go⟩ := ZfH ks g1 nd1 (fun b m q => ds b m (hin b q)) e3
   refine ⟨a, us, qs, qs', G, .tup (by rw [hs.length]; exact e1) e4 l, hin a am, ea, hq, hf, gn, na, fun x m => hin x (gs x m), fun vs' G' r' n' na' sub => ?_⟩
   obtain ⟨G2, f1, f2, f3⟩ := go vs' G' r' n' na' sub
   obtain ⟨a1, a2, a5⟩ := List.nodup_append.mp nd
   obtain ⟨_, a3, a4⟩ := List.nodup_append.mp a2
   have := rb (H.set a vs') w u' G2 f1 (fun b m => List.getElem?_set_ne fun q => a5 b m a (Zz4 _ am) q.symm) (fun b m => List.getElem?_set_ne fun q => a4 a am b m q)
   rw [Zp9 e4] at this
   exact ⟨_, .tup this, nd3 nd f2 f3 ds, in3 f3⟩
  | @ref b vs ts F' e0 hs =>
   obtain ⟨j, e1, e⟩ := Zz0.mp e
   obtain ⟨u, e2, e⟩ := Zz0.mp e
   obtain ⟨u', e3, e⟩ := Zz1.mp e
   subst e
   obtain ⟨w, G1, F1, F2, e4, g1, eF, rb⟩ := hs.split e2
   subst eF
   rw [List.nodup_cons] at nd
   obtain ⟨nb, nd⟩ := nd
   have nd1 : G1.Nodup := (List.nodup_append.mp (List.nodup_append.mp nd).2.1).1
   have hin : ∀ x ∈ G1, x ∈ F1 ++ (G1 ++ F2) := fun x m => List.mem_append_right _ (Zz4 _ m)
   have ds' : ∀ a ∈ Gn, a ∉ F1 ++ (G1 ++ F2) := fun a m q => ds a m (Zz2 _ q)
   obtain ⟨a, us, qs, qs', G, l, am, ea, hq, hf, gn, na, gs, go⟩ := ZfH ks g1 nd1 (fun b m q => ds' b m (hin b q)) e3
   refine ⟨a, us, qs, qs', G, .ref e0 (by rw [hs.length]; exact e1) e4 l, List.mem_cons_of_mem _ (hin a am), ea, hq, hf, gn, na, fun x m => List.mem_cons_of_mem _ (hin x (gs x m)), fun vs' G' r' n' na' sub => ?_⟩
   obtain ⟨G2, f1, f2, f3⟩ := go vs' G' r' n' na' sub
   obtain ⟨a1, a2, a5⟩ := List.nodup_append.mp nd
   obtain ⟨_, a3, a4⟩ := List.nodup_append.mp a2
   have := rb (H.set a vs') w u' G2 f1 (fun b m => List.getElem?_set_ne fun q => a5 b m a (Zz4 _ am) q.symm) (fun b m => List.getElem?_set_ne fun q => a4 a am b m q)
   rw [Zp9 e4] at this
   have hab : a ≠ b := fun q => nb (hin b (q ▸ am))
   refine ⟨_, .ref ((List.getElem?_set_ne hab).trans e0) this, List.nodup_cons.mpr ⟨fun q => ?_, nd3 nd f2 f3 ds'⟩, fun x m => ?_⟩
   ·rcases in3 f3 b q with m | m
    ·exact nb m
    ·exact ds b m Zz5
   ·rcases Zz7.mp m with rfl | m
    ·exact .inl Zz5
    ·exact (in3 f3 x m).imp (Zz2 _) id
end TM
end
section
set_option autoImplicit false
namespace TM
open PySem PM
noncomputable abbrev TL := Nat → Option T
noncomputable abbrev PE := TL → Option T
noncomputable abbrev PEs := TL → Option (List T)
noncomputable abbrev PB := TL → Option Bool
noncomputable abbrev PG := TL → Option (List T)
noncomputable def Zab (σ : TL) (i : Nat) (t : T) : TL := fun j => if j = i then some t else σ j
structure Ctx where
 H0 : Hp
 F0 : List Nat
 P : Nat → Prop
structure St (c : Ctx) (O : List Nat) (ρ : Lc) (σ : TL) (H : Hp) (Φ : Nat → List Nat) : Prop where
 slot : ∀ i t, σ i = some t → ∃ v, ρ i = some v ∧ RF H v t (Φ i)
 src : ∀ i t, σ i = some t → ∀ a ∈ Φ i, c.H0.length ≤ a ∨ c.P a
 own : ∀ i ∈ O, ∀ t, σ i = some t → (Φ i).Nodup ∧ (∀ a ∈ Φ i, c.H0.length ≤ a ∨ a ∈ c.F0) ∧ ∀ j u, j ≠ i → σ j = some u → ∀ a ∈ Φ i, a ∉ Φ j
 len : c.H0.length ≤ H.length
 keep : ∀ a, a < c.H0.length → a ∉ c.F0 → H[a]? = c.H0[a]?
 pos : 0 < c.H0.length
 f0 : 0 ∉ c.F0
theorem St.ext {c : Ctx} {O : List Nat} {ρ : Lc} {σ : TL} {H : Hp} {Φ : Nat → List Nat} (s : St c O ρ σ H Φ) (X : Hp) : St c O ρ σ (H ++ X) Φ :=
 ⟨fun i t e => by obtain ⟨v, h1, h2⟩ := s.slot i t e; exact ⟨v, h1, h2.ext X⟩, s.src, s.own, by have := s.len; rw [List.length_append]; omega, fun a ha hn => by
  rw [List.getElem?_append_left (Nat.lt_of_lt_of_le ha s.len)]; exact s.keep a ha hn, s.pos, s.f0⟩
theorem St.less {c : Ctx} {O O' : List Nat} {ρ : Lc} {σ : TL} {H : Hp} {Φ : Nat → List Nat} (s : St c O ρ σ H Φ) (h : ∀ i ∈ O', i ∈ O) : St c O' ρ σ H Φ := ⟨s.slot, s.src, fun i hi => s.own i (h i hi), s.len, s.keep, s.pos, s.f0⟩
noncomputable def From (H : Hp) (N : List Nat) (σ : TL) (Φ : Nat → List Nat) (a : Nat) : Prop := H.length ≤ a ∨ ∃ i ∈ N, (∃ t, σ i = some t) ∧ a ∈ Φ i
theorem From.mono {H : Hp} {N N' : List Nat} {σ : TL} {Φ : Nat → List Nat} {a : Nat} (f : From H N σ Φ a) (h : ∀ i ∈ N, i ∈ N') : From H N' σ Φ a := f.imp id fun ⟨i, hi, q⟩ => ⟨i, h i hi, q⟩
theorem From.back {H X : Hp} {N : List Nat} {σ : TL} {Φ : Nat → List Nat} {a : Nat} (f : From (H ++ X) N σ Φ a) : From H N σ Φ a := f.imp (fun h => by rw [List.length_append] at h; omega) id
theorem From.nil {H : Hp} {σ : TL} {Φ : Nat → List Nat} {a : Nat} (f : From H [] σ Φ a) : H.length ≤ a := f.elim id fun ⟨_, hi, _⟩ => by cases hi
noncomputable def E (O N : List Nat) (u : Bool) (e : Ex) (p : PE) : Prop := ∀ (c : Ctx) (ρ : Lc) (σ : TL) (H : Hp) (Φ : Nat → List Nat) (t : T), St c O ρ σ H Φ → p σ = some t →
 ∃ v X F, e ρ H = some (v, H ++ X) ∧ RF (H ++ X) v t F ∧ (∀ a ∈ F, From H N σ Φ a) ∧ (u = true → F.Nodup)
noncomputable def Es (O N : List Nat) (u : Bool) (n : Nat) (e : Exs) (p : PEs) : Prop := ∀ (c : Ctx) (ρ : Lc) (σ : TL) (H : Hp) (Φ : Nat → List Nat) (ts : List T), St c O ρ σ H Φ → p σ = some ts →
 ts.length = n ∧ ∃ vs X F, e ρ H = some (vs, H ++ X) ∧ RFs (H ++ X) vs ts F ∧ (∀ a ∈ F, From H N σ Φ a) ∧ (u = true → F.Nodup)
noncomputable def Bt (O : List Nat) (e : Ts) (p : PB) : Prop := ∀ (c : Ctx) (ρ : Lc) (σ : TL) (H : Hp) (Φ : Nat → List Nat) (b : Bool), St c O ρ σ H Φ → p σ = some b → ∃ X, e ρ H = some (b, H ++ X)
section
variable {O N : List Nat} {u : Bool}
theorem Za9 {O' : List Nat} {e : Ex} {p : PE} (x : E O' N u e p) (h : ∀ i ∈ O', i ∈ O := by decide) : E O N u e p := fun c ρ σ H Φ t s => x c ρ σ H Φ t (s.less h)
theorem E.sh {e : Ex} {p : PE} (x : E O N u e p) : E O N false e p := fun c ρ σ H Φ t s q => by
 obtain ⟨v, X, F, a1, a2, a3, a4⟩ := x c ρ σ H Φ t s q
 exact ⟨v, X, F, a1, a2, a3, by simp⟩
noncomputable def Zk (k : Int) : PE := fun _ => some (.int k)
noncomputable def ZT : PE := fun _ => some .none
noncomputable def ZbE (b : Bool) : PE := fun _ => some (.bool b)
noncomputable def ZfU (x : Str) : PE := fun _ => some (.str x)
noncomputable def Za (i : Nat) : PE := fun σ => σ i
theorem Zm (k : Int) : E O [] true (Zl k) (Zk k) := fun c ρ σ H Φ t s q => by
 cases q; exact ⟨_, [], [], by simp [Zl], .int k, by simp, by simp⟩
theorem Z9 : E O [] true Z1 ZT := fun c ρ σ H Φ t s q => by
 cases q; exact ⟨_, [], [], by simp [Z1], .none, by simp, by simp⟩
theorem E.bool (k : Bool) : E O [] true (Zb6 k) (ZbE k) := fun c ρ σ H Φ t s q => by
 cases q; exact ⟨_, [], [], by simp [Zb6], .bool k, by simp, by simp⟩
theorem E.str (k : Str) : E O [] true (ZeY k) (ZfU k) := fun c ρ σ H Φ t s q => by
 cases q; exact ⟨_, [], [], by simp [ZeY], .str k, by simp, by simp⟩
theorem Zc (i : Nat) : E O [i] false (Zb i) (Za i) := fun c ρ σ H Φ t s q => by
 obtain ⟨v, h1, h2⟩ := s.slot i t q
 exact ⟨v, [], Φ i, by simp [Zb, h1], by simpa using h2, fun a m => .inr ⟨i, List.mem_cons_self, ⟨t, q⟩, m⟩, by simp⟩
theorem E.own {i : Nat} (hi : i ∈ O) : E O [i] true (Zb i) (Za i) := fun c ρ σ H Φ t s q => by
 obtain ⟨v, h1, h2⟩ := s.slot i t q
 exact ⟨v, [], Φ i, by simp [Zb, h1], by simpa using h2, fun a m => .inr ⟨i, List.mem_cons_self, ⟨t, q⟩, m⟩, fun _ => (s.own i hi t q).1⟩
noncomputable def ZbW (p : PE) : PE := fun σ => (p σ).bind fun t => if t.flat then some t else none
theorem E.flat {e : Ex} {p : PE} (x : E O N u e p) : E O [] true e (ZbW p) := fun c ρ σ H Φ t s q => by
 obtain ⟨t', e1, e2⟩ := Zz0.mp q
 by_cases h : t'.flat = true
 ·rw [if_pos h] at e2
  cases e2
  obtain ⟨v, X, F, a1, a2, a3, a4⟩ := x c ρ σ H Φ t s e1
  have := a2.flat h
  subst this
  exact ⟨v, X, [], a1, a2, by simp, by simp⟩
 ·rw [if_neg h] at e2; cases e2
noncomputable def Zn : PEs := fun _ => some []
noncomputable def Zd (p : PE) (q : PEs) : PEs := fun σ => (p σ).bind fun t => (q σ).bind fun ts => some (t :: ts)
theorem Zp : Es O [] true 0 Zo Zn := fun c ρ σ H Φ ts s q => by
 cases q; exact ⟨rfl, [], [], [], by simp [Zo], .nil, by simp, by simp⟩
theorem Zh {M : List Nat} {u' : Bool} {n : Nat} {e : Ex} {p : PE} {es : Exs} {ps : PEs} (x : E O N u e p) (y : Es O M u' n es ps) : Es O (N ++ M) false (n + 1) (Zf e es) (Zd p ps) := fun c ρ σ H Φ ts s q => by
 obtain ⟨t, e1, q⟩ := Zz0.mp q
 obtain ⟨rs, e2, q⟩ := Zz0.mp q
 cases q
 obtain ⟨v, X, F, a1, a2, a3, a4⟩ := x c ρ σ H Φ t s e1
 obtain ⟨hl, vs, Y, G, b1, b2, b3, b4⟩ := y c ρ σ (H ++ X) Φ rs (s.ext X) e2
 refine ⟨by simp [hl], v :: vs, X ++ Y, F ++ G, by simp [Zf, a1, b1], ?_, fun a m => ?_, by simp⟩
 ·rw [← List.append_assoc]; exact .cons (a2.ext Y) b2
 ·rcases Zz8.mp m with m | m
  ·exact (a3 a m).mono fun i hi => List.mem_append_left _ hi
  ·exact (b3 a m).back.mono fun i hi => List.mem_append_right _ hi
theorem ZgF {M : List Nat} {n : Nat} {e : Ex} {p : PE} {es : Exs} {ps : PEs} (x : E O N true e p) (y : Es O M true n es ps) (hN : ∀ i ∈ N, i ∈ O) (hM : ∀ i ∈ N, i ∉ M) : Es O (N ++ M) true (n + 1) (Zf e es) (Zd p ps) := fun c ρ σ H Φ ts s q => by
 obtain ⟨t, e1, q⟩ := Zz0.mp q
 obtain ⟨rs, e2, q⟩ := Zz0.mp q
 cases q
 obtain ⟨v, X, F, a1, a2, a3, a4⟩ := x c ρ σ H Φ t s e1
 obtain ⟨hl, vs, Y, G, b1, b2, b3, b4⟩ := y c ρ σ (H ++ X) Φ rs (s.ext X) e2
 refine ⟨by simp [hl], v :: vs, X ++ Y, F ++ G, by simp [Zf, a1, b1], ?_, fun a m => ?_, fun _ => ?_⟩
 ·rw [← List.append_assoc]; exact .cons (a2.ext Y) b2
 ·rcases Zz8.mp m with m | m
  ·exact (a3 a m).mono fun i hi => List.mem_append_left _ hi
  ·exact (b3 a m).back.mono fun i hi => List.mem_append_right _ hi
 ·rw [List.nodup_append]
  refine ⟨a4 rfl, b4 rfl, fun a ha b hb e => ?_⟩
  subst e
  have hlt := a2.lt a ha
  rcases b3 a hb with h | ⟨j, hj, ⟨tj, ej⟩, mj⟩
  ·omega
  ·obtain ⟨vj, _, rj⟩ := s.slot j tj ej
   have := rj.lt a mj
   rcases a3 a ha with h | ⟨i, hi, ⟨ti, ei⟩, mi⟩
   ·omega
   ·exact (s.own i (hN i hi) ti ei).2.2 j tj (fun q => hM i hi (q ▸ hj)) ej a mi mj
noncomputable def ZaV (p : PEs) : PE := fun σ => (p σ).map .tup
noncomputable def Zb7 (p : PEs) : PE := fun σ => (p σ).map .lst
theorem E.tup {n : Nat} {e : Exs} {p : PEs} (x : Es O N u n e p) (hn : n ≤ LEN := by decide) : E O N u (ZaS e) (ZaV p) := fun c ρ σ H Φ t s q => by
 obtain ⟨ts, e1, e2⟩ := Zz1.mp q
 subst e2
 obtain ⟨hl, vs, Y, G, b1, b2, b3, b4⟩ := x c ρ σ H Φ ts s e1
 have := b2.length
 refine ⟨.tup vs, Y, G, ?_, .tup b2, b3, b4⟩
 simp only [ZaS, b1, Option.bind_some]
 rw [if_pos (by omega)]
theorem E.list {n : Nat} {e : Exs} {p : PEs} (x : Es O N u n e p) (hn : n ≤ LEN := by decide) : E O N u (Zcc e) (Zb7 p) := fun c ρ σ H Φ t s q => by
 obtain ⟨ts, e1, e2⟩ := Zz1.mp q
 subst e2
 obtain ⟨hl, vs, Y, G, b1, b2, b3, b4⟩ := x c ρ σ H Φ ts s e1
 have := b2.length
 refine ⟨.ref (H ++ Y).length, Y ++ [vs], (H ++ Y).length :: G, ?_, ?_, fun a m => ?_, fun hu => ?_⟩
 ·simp only [Zcc, b1, Option.bind_some]
  rw [if_pos (by omega), List.append_assoc]
 ·rw [← List.append_assoc]; exact .ref (by simp) (b2.ext _)
 ·rcases Zz7.mp m with rfl | m
  ·exact .inl (by simp)
  ·exact b3 a m
 ·rw [List.nodup_cons]
  exact ⟨fun m => Nat.lt_irrefl _ (b2.lt _ m), b4 hu⟩
noncomputable def OA2 (o : V → V → Hp → Option (V × Hp)) (q : T → T → Option T) : Prop := ∀ (H : Hp) (v1 v2 : V) (t1 t2 t : T) (F1 F2 : List Nat), RF H v1 t1 F1 → RF H v2 t2 F2 → q t1 t2 = some t → ∃ v, o v1 v2 H = some (v, H) ∧ RF H v t []
noncomputable def OI2 (o : V → V → Hp → Option (V × Hp)) (q : T → T → Option T) : Prop := ∀ (H : Hp) (v1 v2 : V) (t1 t2 t : T) (F1 F2 : List Nat), RF H v1 t1 F1 → RF H v2 t2 F2 → q t1 t2 = some t → ∃ v F, o v1 v2 H = some (v, H) ∧ RF H v t F ∧ F.Sublist F1
noncomputable def OC2 (o : V → V → Hp → Option (V × Hp)) (q : T → T → Option T) : Prop := ∀ (H : Hp) (v1 v2 : V) (t1 t2 t : T) (F1 F2 : List Nat), RF H v1 t1 F1 → RF H v2 t2 F2 → q t1 t2 = some t → ∃ v X F, o v1 v2 H = some (v, H ++ X) ∧ RF (H ++ X) v t F ∧ (∀ a ∈ F, H.length ≤ a ∨ a ∈ F1 ∨ a ∈ F2) ∧ (t.flatIn = true → F.Nodup ∧ ∀ a ∈ F, H.length ≤ a)
noncomputable def OA1 (o : V → Hp → Option (V × Hp)) (q : T → Option T) : Prop := ∀ (H : Hp) (v1 : V) (t1 t : T) (F1 : List Nat), RF H v1 t1 F1 → q t1 = some t → ∃ v, o v1 H = some (v, H) ∧ RF H v t []
noncomputable def OAn (o : List V → Hp → Option (V × Hp)) (q : List T → Option T) : Prop := ∀ (H : Hp) (vs : List V) (ts : List T) (t : T) (F : List Nat), RFs H vs ts F → q ts = some t → ∃ v, o vs H = some (v, H) ∧ RF H v t []
noncomputable def OCn (o : List V → Hp → Option (V × Hp)) (q : List T → Option T) : Prop := ∀ (H : Hp) (vs : List V) (ts : List T) (t : T) (F1 : List Nat), 0 < H.length → RFs H vs ts F1 → q ts = some t → ∃ v X F, o vs H = some (v, H ++ X) ∧ RF (H ++ X) v t F ∧ (∀ a ∈ F, H.length ≤ a ∨ a ∈ F1) ∧ (t.flatIn = true → F.Nodup ∧ ∀ a ∈ F, H.length ≤ a)
noncomputable def Ze (q : T → T → Option T) (p1 p2 : PE) : PE := fun σ => (p1 σ).bind fun x => (p2 σ).bind fun y => q x y
noncomputable def pUn (q : T → Option T) (p1 : PE) : PE := fun σ => (p1 σ).bind fun x => q x
noncomputable def Zs (q : List T → Option T) (ps : PEs) : PE := fun σ => (ps σ).bind fun xs => q xs
noncomputable def pFl (p : PE) : PE := fun σ => (p σ).bind fun t => if t.flatIn then some t else none
theorem Zik {M : List Nat} {u' : Bool} {e1 e2 : Ex} {p1 p2 : PE} {q : T → T → Option T} {o : V → V → Hp → Option (V × Hp)} {c : Ctx} {ρ : Lc} {σ : TL} {H : Hp} {Φ : Nat → List Nat} {t : T} (x : E O N u e1 p1) (y : E O M u' e2 p2) (s : St c O ρ σ H Φ) (h : Ze q p1 p2 σ = some t) :
  ∃ t1 t2 v1 v2 X F1 F2, q t1 t2 = some t ∧ RF (H ++ X) v1 t1 F1 ∧ RF (H ++ X) v2 t2 F2 ∧ (∀ a ∈ F1, From H N σ Φ a) ∧ (∀ a ∈ F2, From H M σ Φ a) ∧ (u = true → F1.Nodup) ∧ Zj o e1 e2 ρ H = o v1 v2 (H ++ X) := by
 obtain ⟨t1, h1, h⟩ := Zz0.mp h
 obtain ⟨t2, h2, h⟩ := Zz0.mp h
 obtain ⟨v, X, F, a1, a2, a3, a4⟩ := x c ρ σ H Φ t1 s h1
 obtain ⟨w, Y, G, b1, b2, b3, b4⟩ := y c ρ σ (H ++ X) Φ t2 (s.ext X) h2
 rw [List.append_assoc] at b1 b2
 refine ⟨t1, t2, v, w, X ++ Y, F, G, h, ?_, b2, a3, fun a m => (b3 a m).back, a4, by simp only [Zj, a1, b1, Option.bind_some]⟩
 rw [← List.append_assoc]; exact a2.ext Y
theorem ZD {M : List Nat} {u' : Bool} {e1 e2 : Ex} {p1 p2 : PE} {q : T → T → Option T} {o : V → V → Hp → Option (V × Hp)} (k : OA2 o q) (x : E O N u e1 p1) (y : E O M u' e2 p2) : E O [] true (Zj o e1 e2) (Ze q p1 p2) := fun c ρ σ H Φ t s h => by
 obtain ⟨t1, t2, v1, v2, X, F1, F2, hq, r1, r2, _, _, _, e⟩ := Zik (o := o) x y s h
 obtain ⟨v, h1, h2⟩ := k _ v1 v2 t1 t2 t F1 F2 r1 r2 hq
 exact ⟨v, X, [], e.trans h1, h2, by simp, by simp⟩
theorem ZB {M : List Nat} {u' : Bool} {e1 e2 : Ex} {p1 p2 : PE} {q : T → T → Option T} {o : V → V → Hp → Option (V × Hp)} (k : OI2 o q) (x : E O N u e1 p1) (y : E O M u' e2 p2) : E O N u (Zj o e1 e2) (Ze q p1 p2) := fun c ρ σ H Φ t s h => by
 obtain ⟨t1, t2, v1, v2, X, F1, F2, hq, r1, r2, h1, _, hu, e⟩ := Zik (o := o) x y s h
 obtain ⟨v, F, k1, k2, k3⟩ := k _ v1 v2 t1 t2 t F1 F2 r1 r2 hq
 exact ⟨v, X, F, e.trans k1, k2, fun a m => h1 a (k3.subset m), fun h => (hu h).sublist k3⟩
theorem Zae {M : List Nat} {u' : Bool} {e1 e2 : Ex} {p1 p2 : PE} {q : T → T → Option T} {o : V → V → Hp → Option (V × Hp)} (k : OC2 o q) (x : E O N u e1 p1) (y : E O M u' e2 p2) : E O (N ++ M) false (Zj o e1 e2) (Ze q p1 p2) := fun c ρ σ H Φ t s h => by
 obtain ⟨t1, t2, v1, v2, X, F1, F2, hq, r1, r2, h1, h2, hu, e⟩ := Zik (o := o) x y s h
 obtain ⟨v, Y, F, k1, k2, k3, k4⟩ := k _ v1 v2 t1 t2 t F1 F2 r1 r2 hq
 rw [List.append_assoc] at k1 k2
 refine ⟨v, X ++ Y, F, e.trans k1, k2, fun a m => ?_, by simp⟩
 rcases k3 a m with h | h | h
 ·exact .inl (by rw [List.length_append] at h; omega)
 ·exact (h1 a h).mono fun i hi => List.mem_append_left _ hi
 ·exact (h2 a h).mono fun i hi => List.mem_append_right _ hi
theorem Zoa {M : List Nat} {u' : Bool} {e1 e2 : Ex} {p1 p2 : PE} {q : T → T → Option T} {o : V → V → Hp → Option (V × Hp)} (k : OC2 o q) (x : E O N u e1 p1) (y : E O M u' e2 p2) : E O [] true (Zj o e1 e2) (pFl (Ze q p1 p2)) := fun c ρ σ H Φ t s h => by
 obtain ⟨t', h, hf⟩ := Zz0.mp h
 by_cases fl : t'.flatIn = true
 ·rw [if_pos fl] at hf
  cases hf
  obtain ⟨t1, t2, v1, v2, X, F1, F2, hq, r1, r2, h1, h2, hu, e⟩ := Zik (o := o) x y s h
  obtain ⟨v, Y, F, k1, k2, k3, k4⟩ := k _ v1 v2 t1 t2 t F1 F2 r1 r2 hq
  rw [List.append_assoc] at k1 k2
  exact ⟨v, X ++ Y, F, e.trans k1, k2, fun a m => .inl (by have := (k4 fl).2 a m; rw [List.length_append] at this; omega), fun _ => (k4 fl).1⟩
 ·rw [if_neg fl] at hf; cases hf
theorem ZbF {e1 : Ex} {p1 : PE} {q : T → Option T} {o : V → Hp → Option (V × Hp)} (k : OA1 o q) (x : E O N u e1 p1) : E O [] true (eUn o e1) (pUn q p1) := fun c ρ σ H Φ t s h => by
 obtain ⟨t1, h1, h⟩ := Zz0.mp h
 obtain ⟨v, X, F, a1, a2, a3, a4⟩ := x c ρ σ H Φ t1 s h1
 obtain ⟨w, b1, b2⟩ := k _ v t1 t F a2 h
 exact ⟨w, X, [], by simp only [eUn, a1, Option.bind_some, b1], b2, by simp, by simp⟩
theorem Zax {n : Nat} {es : Exs} {ps : PEs} {q : List T → Option T} {o : List V → Hp → Option (V × Hp)} (k : OAn o q) (x : Es O N u n es ps) : E O [] true (Zv o es) (Zs q ps) := fun c ρ σ H Φ t s h => by
 obtain ⟨ts, h1, h⟩ := Zz0.mp h
 obtain ⟨_, vs, X, F, a1, a2, a3, a4⟩ := x c ρ σ H Φ ts s h1
 obtain ⟨w, b1, b2⟩ := k _ vs ts t F a2 h
 exact ⟨w, X, [], by simp only [Zv, a1, Option.bind_some, b1], b2, by simp, by simp⟩
theorem ZiD {n : Nat} {es : Exs} {ps : PEs} {q : List T → Option T} {o : List V → Hp → Option (V × Hp)} (k : OCn o q) (x : Es O N u n es ps) : E O N false (Zv o es) (Zs q ps) := fun c ρ σ H Φ t s h => by
 obtain ⟨ts, h1, h⟩ := Zz0.mp h
 obtain ⟨_, vs, X, F, a1, a2, a3, a4⟩ := x c ρ σ H Φ ts s h1
 have hp : 0 < (H ++ X).length := by have := s.pos; have := s.len; rw [List.length_append]; omega
 obtain ⟨w, Y, G, b1, b2, b3, b4⟩ := k _ vs ts t F hp a2 h
 rw [List.append_assoc] at b1 b2
 refine ⟨w, X ++ Y, G, by simp only [Zv, a1, Option.bind_some, b1], b2, fun a m => ?_, by simp⟩
 rcases b3 a m with h | h
 ·exact .inl (by rw [List.length_append] at h; omega)
 ·exact a3 a h
theorem Zek {n : Nat} {es : Exs} {ps : PEs} {q : List T → Option T} {o : List V → Hp → Option (V × Hp)} (k : OCn o q) (x : Es O N u n es ps) : E O [] true (Zv o es) (pFl (Zs q ps)) := fun c ρ σ H Φ t s h => by
 obtain ⟨t', h, hf⟩ := Zz0.mp h
 by_cases fl : t'.flatIn = true
 ·rw [if_pos fl] at hf
  cases hf
  obtain ⟨ts, h1, h⟩ := Zz0.mp h
  obtain ⟨_, vs, X, F, a1, a2, a3, a4⟩ := x c ρ σ H Φ ts s h1
  have hp : 0 < (H ++ X).length := by have := s.pos; have := s.len; rw [List.length_append]; omega
  obtain ⟨w, Y, G, b1, b2, b3, b4⟩ := k _ vs ts t F hp a2 h
  rw [List.append_assoc] at b1 b2
  exact ⟨w, X ++ Y, G, by simp only [Zv, a1, Option.bind_some, b1], b2, fun a m => .inl (by have := (b4 fl).2 a m; rw [List.length_append] at this; omega), fun _ => (b4 fl).1⟩
 ·rw [if_neg fl] at hf; cases hf
noncomputable def SimF (fr : Bool) (f : List V → Hp → Option (V × Hp)) (p : List T → Option T) : Prop := ∀ (H : Hp) (vs : List V) (ts : List T) (t : T) (F1 : List Nat), 0 < H.length → RFs H vs ts F1 → p ts = some t → ∃ v X F, f vs H = some (v, H ++ X) ∧ RF (H ++ X) v t F ∧ (∀ a ∈ F, H.length ≤ a ∨ a ∈ F1) ∧ (fr = true → F.Nodup ∧ ∀ a ∈ F, H.length ≤ a)
theorem ZL {fr : Bool} {n : Nat} {es : Exs} {ps : PEs} {q : List T → Option T} {o : List V → Hp → Option (V × Hp)} (k : SimF fr o q) (x : Es O N u n es ps) : E O N false (Zv o es) (Zs q ps) := fun c ρ σ H Φ t s h => by
 obtain ⟨ts, h1, h⟩ := Zz0.mp h
 obtain ⟨_, vs, X, F, a1, a2, a3, a4⟩ := x c ρ σ H Φ ts s h1
 have hp : 0 < (H ++ X).length := by have := s.pos; have := s.len; rw [List.length_append]; omega
 obtain ⟨w, Y, G, b1, b2, b3, b4⟩ := k _ vs ts t F hp a2 h
 rw [List.append_assoc] at b1 b2
 refine ⟨w, X ++ Y, G, by simp only [Zv, a1, Option.bind_some, b1], b2, fun a m => ?_, by simp⟩
 rcases b3 a m with h | h
 ·exact .inl (by rw [List.length_append] at h; omega)
 ·exact a3 a h
theorem ZbP {n : Nat} {es : Exs} {ps : PEs} {q : List T → Option T} {o : List V → Hp → Option (V × Hp)} (k : SimF true o q) (x : Es O N u n es ps) : E O [] true (Zv o es) (Zs q ps) := fun c ρ σ H Φ t s h => by
 obtain ⟨ts, h1, h⟩ := Zz0.mp h
 obtain ⟨_, vs, X, F, a1, a2, a3, a4⟩ := x c ρ σ H Φ ts s h1
 have hp : 0 < (H ++ X).length := by have := s.pos; have := s.len; rw [List.length_append]; omega
 obtain ⟨w, Y, G, b1, b2, b3, b4⟩ := k _ vs ts t F hp a2 h
 rw [List.append_assoc] at b1 b2
 exact ⟨w, X ++ Y, G, by simp only [Zv, a1, Option.bind_some, b1], b2, fun a m => .inl (by have := (b4 rfl).2 a m; rw [List.length_append] at this; omega), fun _ => (b4 rfl).1⟩
noncomputable def Zb5 : T → Option Bool
 | .bool b => some b
 | .none => some false
 | .int i => some (i != 0)
 | _ => none
theorem Zej {H : Hp} {v : V} {t : T} {F : List Nat} {b : Bool} (r : RF H v t F) (h : Zb5 t = some b) : ZcW v H = some b := by
 cases r <;> first | (cases h; rfl) | cases h
noncomputable def ZE (p : PE) : PB := fun σ => (p σ).bind Zb5
noncomputable def ZbZ (p : PB) : PB := fun σ => (p σ).map fun b => !b
noncomputable def Zaf : PB := fun _ => some true
noncomputable def Zcf : PB := fun _ => some false
noncomputable def Zaj (p q : PB) : PB := fun σ => (p σ).bind fun b => if b then q σ else some false
noncomputable def bOr (p q : PB) : PB := fun σ => (p σ).bind fun b => if b then some true else q σ
theorem ZK {e : Ex} {p : PE} (x : E O N u e p) : Bt O (ZG e) (ZE p) := fun c ρ σ H Φ b s h => by
 obtain ⟨t, h1, h⟩ := Zz0.mp h
 obtain ⟨v, X, F, a1, a2, a3, a4⟩ := x c ρ σ H Φ t s h1
 exact ⟨X, by simp only [ZG, a1, Option.bind_some, Zej a2 h, Option.map_some]⟩
theorem ZcR {e : Ts} {p : PB} (x : Bt O e p) : Bt O (Zcq e) (ZbZ p) := fun c ρ σ H Φ b s h => by
 obtain ⟨t, h1, h⟩ := Zz1.mp h
 subst h
 obtain ⟨X, a1⟩ := x c ρ σ H Φ t s h1
 exact ⟨X, by simp only [Zcq, a1, Option.map_some]⟩
theorem Zaz : Bt O Zan Zaf := fun c ρ σ H Φ b s h => by
 cases h; exact ⟨[], by simp [Zan]⟩
theorem ZcO : Bt O Zcn Zcf := fun c ρ σ H Φ b s h => by
 cases h; exact ⟨[], by simp [Zcn]⟩
theorem ZaB {e f : Ts} {p q : PB} (x : Bt O e p) (y : Bt O f q) : Bt O (Zau e f) (Zaj p q) := fun c ρ σ H Φ b s h => by
 obtain ⟨t, h1, h⟩ := Zz0.mp h
 obtain ⟨X, a1⟩ := x c ρ σ H Φ t s h1
 cases t with
 | true =>
  obtain ⟨Y, b1⟩ := y c ρ σ (H ++ X) Φ b (s.ext X) (by simpa using h)
  exact ⟨X ++ Y, by simp [Zau, a1, b1]⟩
 | false => cases h; exact ⟨X, by simp [Zau, a1]⟩
theorem Zbi {e f : Ts} {p q : PB} (x : Bt O e p) (y : Bt O f q) : Bt O (tOr e f) (bOr p q) := fun c ρ σ H Φ b s h => by
 obtain ⟨t, h1, h⟩ := Zz0.mp h
 obtain ⟨X, a1⟩ := x c ρ σ H Φ t s h1
 cases t with
 | false =>
  obtain ⟨Y, b1⟩ := y c ρ σ (H ++ X) Φ b (s.ext X) (by simpa using h)
  exact ⟨X ++ Y, by simp [tOr, a1, b1]⟩
 | true => cases h; exact ⟨X, by simp [tOr, a1]⟩
noncomputable def pIf (b : PB) (p q : PE) : PE := fun σ => (b σ).bind fun x => if x then p σ else q σ
noncomputable def Zjt (p : PE) : PE := fun σ => (p σ).bind fun t => (Zb5 t).map fun b => .bool !b
noncomputable def ZdK (p q : PE) : PE := fun σ => (p σ).bind fun t => (Zb5 t).bind fun b => if b then q σ else some t
noncomputable def pOr (p q : PE) : PE := fun σ => (p σ).bind fun t => (Zb5 t).bind fun b => if b then some t else q σ
theorem ZeT {M : List Nat} {b : Ts} {pb : PB} {e f : Ex} {p q : PE} (z : Bt O b pb) (x : E O N u e p) (y : E O M u f q) : E O (N ++ M) u (eIf b e f) (pIf pb p q) := fun c ρ σ H Φ t s h => by
 obtain ⟨b', h1, h⟩ := Zz0.mp h
 obtain ⟨X, a1⟩ := z c ρ σ H Φ b' s h1
 cases b' with
 | true =>
  obtain ⟨v, Y, F, b1, b2, b3, b4⟩ := x c ρ σ (H ++ X) Φ t (s.ext X) (by simpa using h)
  exact ⟨v, X ++ Y, F, by simp [eIf, a1, b1], by rw [← List.append_assoc]; exact b2, fun a m => (b3 a m).back.mono fun i hi => List.mem_append_left _ hi, b4⟩
 | false =>
  obtain ⟨v, Y, F, b1, b2, b3, b4⟩ := y c ρ σ (H ++ X) Φ t (s.ext X) (by simpa using h)
  exact ⟨v, X ++ Y, F, by simp [eIf, a1, b1], by rw [← List.append_assoc]; exact b2, fun a m => (b3 a m).back.mono fun i hi => List.mem_append_right _ hi, b4⟩
theorem ZxJ {e : Ex} {p : PE} (x : E O N u e p) : E O [] true (Zjq e) (Zjt p) := fun c ρ σ H Φ t s h => by
 obtain ⟨t1, h1, h⟩ := Zz0.mp h
 obtain ⟨b, h2, h⟩ := Zz1.mp h
 subst h
 obtain ⟨v, X, F, a1, a2, a3, a4⟩ := x c ρ σ H Φ t1 s h1
 exact ⟨.bool !b, X, [], by simp only [Zjq, a1, Option.bind_some, Zej a2 h2, Option.map_some], .bool _, by simp, by simp⟩
theorem ZfO {M : List Nat} {e f : Ex} {p q : PE} (x : E O N u e p) (y : E O M u f q) : E O (N ++ M) u (Zdx e f) (ZdK p q) := fun c ρ σ H Φ t s h => by
 obtain ⟨t1, h1, h⟩ := Zz0.mp h
 obtain ⟨b, h2, h⟩ := Zz0.mp h
 obtain ⟨v, X, F, a1, a2, a3, a4⟩ := x c ρ σ H Φ t1 s h1
 cases b with
 | true =>
  obtain ⟨w, Y, F', b1, b2, b3, b4⟩ := y c ρ σ (H ++ X) Φ t (s.ext X) (by simpa using h)
  exact ⟨w, X ++ Y, F', by simp [Zdx, a1, Zej a2 h2, b1], by rw [← List.append_assoc]; exact b2, fun a m => (b3 a m).back.mono fun i hi => List.mem_append_right _ hi, b4⟩
 | false =>
  cases h
  exact ⟨v, X, F, by simp [Zdx, a1, Zej a2 h2], a2, fun a m => (a3 a m).mono fun i hi => List.mem_append_left _ hi, a4⟩
theorem Zx5 {M : List Nat} {e f : Ex} {p q : PE} (x : E O N u e p) (y : E O M u f q) : E O (N ++ M) u (eOr e f) (pOr p q) := fun c ρ σ H Φ t s h => by
 obtain ⟨t1, h1, h⟩ := Zz0.mp h
 obtain ⟨b, h2, h⟩ := Zz0.mp h
 obtain ⟨v, X, F, a1, a2, a3, a4⟩ := x c ρ σ H Φ t1 s h1
 cases b with
 | false =>
  obtain ⟨w, Y, F', b1, b2, b3, b4⟩ := y c ρ σ (H ++ X) Φ t (s.ext X) (by simpa using h)
  exact ⟨w, X ++ Y, F', by simp [eOr, a1, Zej a2 h2, b1], by rw [← List.append_assoc]; exact b2, fun a m => (b3 a m).back.mono fun i hi => List.mem_append_right _ hi, b4⟩
 | true =>
  cases h
  exact ⟨v, X, F, by simp [eOr, a1, Zej a2 h2], a2, fun a m => (a3 a m).mono fun i hi => List.mem_append_left _ hi, a4⟩
noncomputable def ZnD : T → String
 | .none => "NoneType"
 | .bool _ => "bool"
 | .int _ => "int"
 | .str _ => "str"
 | .tup _ => "tuple"
 | .lst _ => "list"
end
end TM
end
section
set_option autoImplicit false
namespace TM
open PySem PM
section
variable {O N : List Nat} {u : Bool}
noncomputable def ZiE (K : String) (t : T) : Bool := ZnD t == K || (K == "int" && ZnD t == "bool")
noncomputable def pIs (K : String) (p : PE) : PE := fun σ => (p σ).map fun t => .bool (ZiE K t)
theorem ZvG {H : Hp} {v : V} {t : T} {F : List Nat} (r : RF H v t F) : ZnC v = ZnD t := by cases r <;> rfl
theorem Zd9 {K : String} {e : Ex} {p : PE} (x : E O N u e p) : E O [] true (eIs K e) (pIs K p) := fun c ρ σ H Φ t s h => by
 obtain ⟨t1, h1, h⟩ := Zz1.mp h
 subst h
 obtain ⟨v, X, F, a1, a2, a3, a4⟩ := x c ρ σ H Φ t1 s h1
 exact ⟨.bool (ZiE K t1), X, [], by simp only [eIs, a1, Option.map_some, Zn7, ZiE, ZvG a2], .bool _, by simp, by simp⟩
noncomputable def Za6 : T → T → Option T
 | .int a, .int b => some (.int (a - b))
 | _, _ => none
noncomputable def ZcC : T → T → Option T
 | .int a, .int b => if b ≠ 0 ∧ Builtin.divisionGoesByPylong a b = false then some (.int (a.fdiv b)) else none
 | _, _ => none
noncomputable def Zbc : T → T → Option T
 | .int a, .int b => if b ≠ 0 then some (.int (a.fmod b)) else none
 | _, _ => none
noncomputable def Zdy : T → T → Option T
 | .int a, .int b => if 0 ≤ b ∧ (Builtin.Int.intBits a : Int) * b ≤ 2 ^ 27 then some (.int (a ^ b.toNat)) else none
 | _, _ => none
noncomputable def Zbd : T → Option T
 | .int a => some (.int (-a))
 | _ => none
noncomputable def Zju (p : Int → Int → Bool) : T → T → Option T
 | .int a, .int b => some (.bool (p a b))
 | _, _ => none
noncomputable def qLt := Zju fun a b => decide (a < b)
noncomputable def qLe := Zju fun a b => decide (a ≤ b)
noncomputable def qGt := Zju fun a b => decide (b < a)
theorem Zbw : OA2 Zbm Za6 := fun H v1 v2 t1 t2 t F1 F2 r1 r2 h => by
 cases r1 <;> first | (cases h; done) | (cases r2 <;> first | (cases h; done) | (cases h; exact ⟨_, rfl, .int _⟩))
theorem Zda : OA2 oDiv ZcC := fun H v1 v2 t1 t2 t F1 F2 r1 r2 h => by
 cases r1 <;> first | (cases h; done) | skip
 cases r2 <;> first | (cases h; done) | skip
 simp only [ZcC] at h
 split at h
 ·rename_i hc; cases h; exact ⟨_, by simp only [oDiv]; rw [if_pos hc], .int _⟩
 ·cases h
theorem Zbq : OA2 oMod Zbc := fun H v1 v2 t1 t2 t F1 F2 r1 r2 h => by
 cases r1 <;> first | (cases h; done) | skip
 cases r2 <;> first | (cases h; done) | skip
 simp only [Zbc] at h
 split at h
 ·rename_i hc; cases h; exact ⟨_, by simp only [oMod]; rw [if_pos hc], .int _⟩
 ·cases h
theorem Zot : OA2 oPow Zdy := fun H v1 v2 t1 t2 t F1 F2 r1 r2 h => by
 cases r1 <;> first | (cases h; done) | skip
 cases r2 <;> first | (cases h; done) | skip
 simp only [Zdy] at h
 split at h
 ·rename_i hc; cases h; exact ⟨_, by simp only [oPow]; rw [if_pos hc], .int _⟩
 ·cases h
theorem ZbG : OA1 Zbr Zbd := fun H v1 t1 t F1 r1 h => by
 cases r1 <;> first | (cases h; done) | (cases h; exact ⟨_, rfl, .int _⟩)
theorem Zou (p : Int → Int → Bool) : OA2 (Zjr p) (Zju p) := fun H v1 v2 t1 t2 t F1 F2 r1 r2 h => by
 cases r1 <;> first | (cases h; done) | (cases r2 <;> first | (cases h; done) | (cases h; exact ⟨_, rfl, .bool _⟩))
theorem Zcr : OA2 oLt qLt := Zou _
theorem Zjv : OA2 oLe qLe := Zou _
theorem Zdz : OA2 oGt qGt := Zou _
noncomputable def ZeU (f : T → Option PyData) : List T → Option (List PyData)
 | [] => some []
 | v :: vs => (f v).bind fun d => (ZeU f vs).bind fun ds => some (d :: ds)
noncomputable def Zc0 : Nat → T → Option PyData
 | _, .none => some .none
 | _, .bool b => some (.bool b)
 | _, .int i => some (.int i)
 | _, .str x => some (.str x)
 | n + 1, .tup vs => (ZeU (Zc0 n) vs).map .tuple
 | n + 1, .lst vs => (ZeU (Zc0 n) vs).map .list
 | 0, .tup _ => none
 | 0, .lst _ => none
theorem ZnE {H : Hp} {f : V → Option PyData} {g : T → Option PyData} (h : ∀ v t F, RF H v t F → f v = g t) : ∀ {vs : List V} {ts : List T} {F : List Nat}, RFs H vs ts F → ZfT f vs = ZeU g ts
 | _, _, _, .nil => rfl
 | _, _, _, .cons a b => by simp only [ZfT, ZeU, h _ _ _ a, ZnE h b]
theorem Zi1 {H : Hp} : ∀ (n : Nat) (v : V) (t : T) (F : List Nat), RF H v t F → toD H n v = Zc0 n t := by
 intro n
 induction n with
 | zero => intro v t F r; cases r <;> rfl
 | succ n ih =>
  intro v t F r
  cases r with
  | none => rfl
  | bool => rfl
  | int => rfl
  | str => rfl
  | tup hs => simp only [toD, Zc0, ZnE ih hs]
  | ref e hs => simp only [toD, Zc0, e, Option.bind_some, ZnE ih hs]
noncomputable def Zet (a b : T) : Option Bool := (Zc0 Zb9 a).bind fun d => (Zc0 Zb9 b).bind fun e => if SeqAt.shaped d = true ∧ SeqAt.shaped e = true then some (PyData.eqv d e) else none
noncomputable def qEq (a b : T) : Option T := (Zet a b).map .bool
noncomputable def qNe (a b : T) : Option T := (Zet a b).map fun c => .bool !c
theorem Zrk {H : Hp} {v1 v2 : V} {t1 t2 : T} {F1 F2 : List Nat} (r1 : RF H v1 t1 F1) (r2 : RF H v2 t2 F2) : Zjs v1 v2 H = Zet t1 t2 := by
 simp only [Zjs, Zet, Zi1 Zb9 _ _ _ r1, Zi1 Zb9 _ _ _ r2]
theorem ZaO : OA2 oEq qEq := fun H v1 v2 t1 t2 t F1 F2 r1 r2 h => by
 obtain ⟨c, h1, h⟩ := Zz1.mp h
 subst h
 exact ⟨_, by simp only [oEq, Zrk r1 r2, h1, Option.map_some], .bool _⟩
theorem ZbQ : OA2 oNe qNe := fun H v1 v2 t1 t2 t F1 F2 r1 r2 h => by
 obtain ⟨c, h1, h⟩ := Zz1.mp h
 subst h
 exact ⟨_, by simp only [oNe, Zrk r1 r2, h1, Option.map_some], .bool _⟩
noncomputable def qIs : T → T → Option T
 | .none, .none => some (.bool true)
 | _, .none => some (.bool false)
 | _, _ => none
noncomputable def ZaP : T → T → Option T
 | .none, .none => some (.bool false)
 | _, .none => some (.bool true)
 | _, _ => none
theorem Zbs : OA2 oIs qIs := fun H v1 v2 t1 t2 t F1 F2 r1 r2 h => by
 cases r1 <;> cases r2 <;> first | (cases h; done) | (cases h; exact ⟨_, rfl, .bool _⟩)
theorem ZbM : OA2 Zbu ZaP := fun H v1 v2 t1 t2 t F1 F2 r1 r2 h => by
 cases r1 <;> cases r2 <;> first | (cases h; done) | (cases h; exact ⟨_, rfl, .bool _⟩)
noncomputable def Zr : T → T → Option T
 | .lst ts, .int k => (seqIndex? k ts.length).bind fun j => ts[j]?
 | .tup ts, .int k => (seqIndex? k ts.length).bind fun j => ts[j]?
 | _, _ => none
theorem ZA : OI2 Zu Zr := fun H v1 v2 t1 t2 t F1 F2 r1 r2 h => by
 cases r1 with
 | none => cases h
 | bool => cases h
 | int => cases h
 | str => cases h
 | tup hs =>
  cases r2 <;> first | (cases h; done) | skip
  obtain ⟨j, h1, h2⟩ := Zz0.mp h
  obtain ⟨v, G, e1, e2, e3⟩ := hs.at h2
  exact ⟨v, G, by simp only [Zu, hs.length, h1, Option.bind_some, e1, Option.map_some], e2, e3⟩
 | ref e hs =>
  cases r2 <;> first | (cases h; done) | skip
  obtain ⟨j, h1, h2⟩ := Zz0.mp h
  obtain ⟨v, G, e1, e2, e3⟩ := hs.at h2
  exact ⟨v, G, by simp only [Zu, e, Option.bind_some, hs.length, h1, e1, Option.map_some], e2, e3.trans (List.sublist_cons_self _ _)⟩
noncomputable def Zas : List T → Option T
 | [.lst ts] => some (.int ts.length)
 | [.tup ts] => some (.int ts.length)
 | _ => none
theorem RFs.one_inv {H : Hp} {vs : List V} {t : T} {F : List Nat} (r : RFs H vs [t] F) : ∃ v, vs = [v] ∧ RF H v t F := by
 cases r with
 | cons a b => cases b; rw [List.append_nil]; exact ⟨_, rfl, a⟩
theorem RFs.two_inv {H : Hp} {vs : List V} {t t' : T} {F : List Nat} (r : RFs H vs [t, t'] F) : ∃ v v' F1 F2, vs = [v, v'] ∧ RF H v t F1 ∧ RF H v' t' F2 ∧ F = F1 ++ F2 := by
 cases r with
 | cons a b => obtain ⟨v', h1, h2⟩ := b.one_inv; subst h1; exact ⟨_, _, _, _, rfl, a, h2, rfl⟩
theorem ZaW : OAn ZaK Zas := fun H vs ts t F r h => by
 unfold Zas at h
 split at h
 ·obtain ⟨v, rfl, r'⟩ := r.one_inv
  cases r' with
  | ref e hs => cases h; exact ⟨_, by simp only [ZaK, e, Option.map_some, hs.length], .int _⟩
 ·obtain ⟨v, rfl, r'⟩ := r.one_inv
  cases r' with
  | tup hs => cases h; exact ⟨_, by simp only [ZaK, hs.length], .int _⟩
 ·cases h
noncomputable def Zde : List T → Option T
 | [.int a] => some (.int (if a < 0 then -a else a))
 | _ => none
theorem Zd7 : OAn Zdd Zde := fun H vs ts t F r h => by
 unfold Zde at h
 split at h
 ·obtain ⟨v, rfl, r'⟩ := r.one_inv
  cases r'; cases h; exact ⟨_, rfl, .int _⟩
 ·cases h
noncomputable def Zyf : List T → Option T
 | [.int a, .int b] => some (.int (if b > a then b else a))
 | _ => none
noncomputable def Zjj : List T → Option T
 | [.int a, .int b] => some (.int (if b < a then b else a))
 | _ => none
theorem ZwW : OAn Zjh Zjj := fun H vs ts t F r h => by
 unfold Zjj at h
 split at h
 ·obtain ⟨v, w, F1, F2, rfl, r1, r2, _⟩ := r.two_inv
  cases r1; cases r2; cases h; exact ⟨_, rfl, .int _⟩
 ·cases h
noncomputable def Zdu : List T → Option (List Int)
 | [] => some []
 | .int k :: vs => (Zdu vs).map fun ks => k :: ks
 | _ :: _ => none
noncomputable def ZfI : List T → Option (List Bool)
 | [] => some []
 | .bool k :: vs => (ZfI vs).map fun ks => k :: ks
 | _ :: _ => none
theorem ZiF {H : Hp} : ∀ {vs : List V} {ts : List T} {F : List Nat} {ks : List Int}, RFs H vs ts F → Zdu ts = some ks → ZdG vs = some ks
 | _, _, _, _, .nil, h => h
 | _, _, _, _, .cons a b, h => by
  cases a <;> first | (cases h; done) | skip
  obtain ⟨js, h1, h2⟩ := Zz1.mp h
  subst h2
  simp only [ZdG, ZiF b h1, Option.map_some]
theorem Zqa {H : Hp} : ∀ {vs : List V} {ts : List T} {F : List Nat} {ks : List Bool}, RFs H vs ts F → ZfI ts = some ks → ZfD vs = some ks
 | _, _, _, _, .nil, h => h
 | _, _, _, _, .cons a b, h => by
  cases a <;> first | (cases h; done) | skip
  obtain ⟨js, h1, h2⟩ := Zz1.mp h
  subst h2
  simp only [ZfD, Zqa b h1, Option.map_some]
noncomputable def Zjw : List T → Option T
 | [.lst ts] => (Zdu ts).map fun ks => .int ks.sum
 | _ => none
noncomputable def Zhf : List T → Option T
 | [.lst ts] => (ZfI ts).map fun bs => .bool (bs.any id)
 | _ => none
theorem ZxK : OAn Zhc Zjw := fun H vs ts t F r h => by
 unfold Zjw at h
 split at h
 ·obtain ⟨v, rfl, r'⟩ := r.one_inv
  cases r' with
  | ref e hs =>
   obtain ⟨ks, h1, h2⟩ := Zz1.mp h
   subst h2
   exact ⟨_, by simp only [Zhc, e, Option.bind_some, ZiF hs h1, Option.map_some], .int _⟩
 ·cases h
theorem ZxL : OAn Zhe Zhf := fun H vs ts t F r h => by
 unfold Zhf at h
 split at h
 ·obtain ⟨v, rfl, r'⟩ := r.one_inv
  cases r' with
  | ref e hs =>
   obtain ⟨ks, h1, h2⟩ := Zz1.mp h
   subst h2
   exact ⟨_, by simp only [Zhe, e, Option.bind_some, Zqa hs h1, Option.map_some], .bool _⟩
 ·cases h
theorem Ze0 {H : Hp} {vs : List V} {ts : List T} {F : List Nat} (r : RFs H vs ts F) : RF (H ++ [vs]) (.ref H.length) (.lst ts) (H.length :: F) := .ref (by simp) (r.ext _)
theorem Zgt {H : Hp} {vs : List V} {ts : List T} {F : List Nat} (r : RFs H vs ts F) (h : T.flatIn (.lst ts) = true) : (H.length :: F).Nodup ∧ ∀ a ∈ H.length :: F, H.length ≤ a := by
 rw [r.flats (by simpa [T.flatIn] using h)]
 simp
theorem ZuP {H : Hp} {v : V} {t : T} {F : List Nat} (r : RF H v t F) (h : F = []) : F.Nodup ∧ ∀ a ∈ F, H.length ≤ a := by subst h; simp
noncomputable def Zhg (ts : List T) : Nat → List T
 | 0 => []
 | n + 1 => Zhg ts n ++ ts
noncomputable def Zah : T → T → Option T
 | .int a, .int b => some (.int (a + b))
 | .lst a, .lst b => if (a ++ b).length ≤ LEN then some (.lst (a ++ b)) else none
 | .tup a, .tup b => if (a ++ b).length ≤ LEN then some (.tup (a ++ b)) else none
 | _, _ => none
noncomputable def ZaG : T → T → Option T
 | .int a, .int b => if mulOk a b = true then some (.int (a * b)) else none
 | .lst a, .int k => if a.length * k.toNat ≤ LEN ∧ -(2 ^ 63 : Int) ≤ k ∧ k < 2 ^ 63 then some (.lst (Zhg a k.toNat)) else none
 | _, _ => none
theorem Zrl {H : Hp} {vs : List V} {ts : List T} {F : List Nat} (r : RFs H vs ts F) : ∀ n, ∃ G, RFs H (ZeZ vs n) (Zhg ts n) G ∧ ∀ a ∈ G, a ∈ F
 | 0 => ⟨_, .nil, by simp⟩
 | n + 1 => by
  obtain ⟨G, h1, h2⟩ := Zrl r n
  exact ⟨_, h1.append r, fun a m => (Zz8.mp m).elim (h2 a) id⟩
theorem Zam : OC2 Zai Zah := fun H v1 v2 t1 t2 t F1 F2 r1 r2 h => by
 cases r1 with
 | none => cases h
 | bool => cases h
 | str => cases h
 | int a =>
  cases r2 <;> first | (cases h; done) | skip
  cases h; exact ⟨_, [], [], by simp [Zai], .int _, by simp, by simp⟩
 | tup hs1 =>
  cases r2 with
  | none => cases h
  | bool => cases h
  | str => cases h
  | int => cases h
  | ref => cases h
  | tup hs2 =>
   simp only [Zah] at h
   split at h
   ·rename_i hl
    cases h
    refine ⟨_, [], _, ?_, .tup (by simpa using hs1.append hs2), fun a m => .inr (Zz8.mp m), fun hf => ZuP (H := H) (.tup (hs1.append hs2)) ((RF.tup (hs1.append hs2)).flat (by simpa [T.flatIn] using hf))⟩
    simp only [Zai, List.append_nil]
    rw [if_pos (by rw [List.length_append] at hl ⊢; rw [hs1.length, hs2.length]; exact hl)]
   ·cases h
 | ref e1 hs1 =>
  cases r2 with
  | none => cases h
  | bool => cases h
  | str => cases h
  | int => cases h
  | tup => cases h
  | ref e2 hs2 =>
   simp only [Zah] at h
   split at h
   ·rename_i hl
    cases h
    refine ⟨_, _, _, ?_, Ze0 (hs1.append hs2), fun a m => ?_, Zgt (hs1.append hs2)⟩
    ·simp only [Zai, e1, e2, Option.bind_some]
     rw [if_pos (by rw [List.length_append] at hl ⊢; rw [hs1.length, hs2.length]; exact hl)]
    ·rcases Zz7.mp m with rfl | m
     ·exact .inl (Zz10 _)
     ·rcases Zz8.mp m with m | m
      ·exact .inr (.inl (Zz2 _ m))
      ·exact .inr (.inr (Zz2 _ m))
   ·cases h
theorem Zba : OC2 ZaY ZaG := fun H v1 v2 t1 t2 t F1 F2 r1 r2 h => by
 cases r1 with
 | none => cases h
 | bool => cases h
 | str => cases h
 | tup => cases h
 | int a =>
  cases r2 <;> first | (cases h; done) | skip
  simp only [ZaG] at h
  split at h
  ·rename_i hm
   cases h; exact ⟨_, [], [], by simp only [ZaY]; rw [if_pos hm]; simp, .int _, by simp, by simp⟩
  ·cases h
 | ref e1 hs1 =>
  cases r2 with
  | none => cases h
  | bool => cases h
  | str => cases h
  | tup => cases h
  | ref => cases h
  | int k =>
   simp only [ZaG] at h
   split at h
   ·rename_i hl
    cases h
    obtain ⟨G, h1, h2⟩ := Zrl hs1 k.toNat
    refine ⟨_, _, _, ?_, Ze0 h1, fun a m => ?_, Zgt h1⟩
    ·simp only [ZaY, e1, Option.bind_some]
     rw [if_pos (by rw [hs1.length]; exact hl)]
    ·rcases Zz7.mp m with rfl | m
     ·exact .inl (Zz10 _)
     ·exact .inr (.inl (Zz2 _ (h2 a m)))
   ·cases h
noncomputable def Zcg : List T → Option T
 | [.lst ts] => some (.lst ts)
 | [.tup ts] => some (.lst ts)
 | _ => none
noncomputable def ZiG : List T → Option T
 | [.lst ts] => some (.tup ts)
 | [.tup ts] => some (.tup ts)
 | _ => none
theorem Zdn : OCn Zcv Zcg := fun H vs ts t F hp r h => by
 unfold Zcg at h
 split at h
 ·obtain ⟨v, rfl, r'⟩ := r.one_inv
  cases r' with
  | ref e hs => cases h; exact ⟨_, _, _, by simp only [Zcv, e, Option.map_some], Ze0 hs, fun a m => (Zz7.mp m).imp (fun q => Nat.le_of_eq q.symm) (Zz2 _), Zgt hs⟩
 ·obtain ⟨v, rfl, r'⟩ := r.one_inv
  cases r' with
  | tup hs => cases h; exact ⟨_, _, _, by simp only [Zcv], Ze0 hs, fun a m => (Zz7.mp m).imp (fun q => Nat.le_of_eq q.symm) id, Zgt hs⟩
 ·cases h
end
end TM
end
section
set_option autoImplicit false
namespace TM
open PySem PM
theorem St.from_src {c : Ctx} {O N : List Nat} {ρ : Lc} {σ : TL} {H : Hp} {Φ : Nat → List Nat} (s : St c O ρ σ H Φ) {a : Nat} (f : From H N σ Φ a) : c.H0.length ≤ a ∨ c.P a := by
 rcases f with h | ⟨i, hi, ⟨t, e⟩, m⟩
 ·exact .inl (Nat.le_trans s.len h)
 ·exact s.src i t e a m
theorem St.from_off {c : Ctx} {O N : List Nat} {ρ : Lc} {σ : TL} {H : Hp} {Φ : Nat → List Nat} (s : St c O ρ σ H Φ) (hN : ∀ i ∈ N, i ∉ O) {a : Nat} (f : From H N σ Φ a) {i : Nat} (hi : i ∈ O) {t : T} (e : σ i = some t) : a ∉ Φ i := by
 intro m
 obtain ⟨v, _, r⟩ := s.slot i t e
 have hl := r.lt a m
 rcases f with h | ⟨j, hj, ⟨t', e'⟩, m'⟩
 ·omega
 ·exact (s.own i hi t e).2.2 j t' (fun q => hN j hj (q ▸ hi)) e' a m m'
noncomputable abbrev PPt := TL → Option (Option Int)
noncomputable def ZwX : PPt := fun _ => some none
noncomputable def Zyc (p : PE) : PPt := fun σ => (p σ).bind fun t => match t with
 | .int k => some (some k)
 | _ => none
noncomputable def Pe (O : List Nat) (f : Pt) (p : PPt) : Prop := ∀ (c : Ctx) (ρ : Lc) (σ : TL) (H : Hp) (Φ : Nat → List Nat) (k : Option Int), St c O ρ σ H Φ → p σ = some k → ∃ o X, f ρ H = some (o, H ++ X) ∧ Zg5 o = some k
section
variable {O N : List Nat} {u : Bool}
theorem Pe.none : Pe O PM.Zg6 ZwX := fun c ρ σ H Φ k s h => by
 cases h; exact ⟨Option.none, [], by simp [PM.Zg6], rfl⟩
noncomputable def Zyd (p : PE) (lo hi : PPt) : PE := fun σ => (p σ).bind fun t => (lo σ).bind fun a => (hi σ).bind fun b => match t with
 | .lst ts => Option.some (.lst (Zc9 ts a b))
 | _ => Option.none
noncomputable def Zdv (p : PE) (k : Nat) : PE := fun σ => (p σ).bind fun t => match t with
 | .lst ts => Option.some (.lst (ts.drop k))
 | .tup ts => if 1 ≤ k ∧ k ≤ ts.length then Option.some (.tup (ts.drop k)) else Option.none
 | _ => Option.none
theorem Zuc {c : Ctx} {ρ : Lc} {σ : TL} {H : Hp} {Φ : Nat → List Nat} {t : T} {e : Ex} {p : PE} {k : Nat} (x : E O N u e p) (s : St c O ρ σ H Φ) (h : Zdv p k σ = Option.some t) :
  ∃ v X F, ZdJ e k ρ H = Option.some (v, H ++ X) ∧ RF (H ++ X) v t F ∧ (∀ a ∈ F, From H N σ Φ a) ∧ (t.flatIn = true → F.Nodup ∧ ∀ a ∈ F, H.length ≤ a) := by
 obtain ⟨t1, h1, h⟩ := Zz0.mp h
 obtain ⟨v, X, F, a1, a2, a3, a4⟩ := x c ρ σ H Φ t1 s h1
 cases a2 with
 | none => cases h
 | bool => cases h
 | int => cases h
 | str => cases h
 | tup hs =>
  simp only at h
  split at h
  ·rename_i hc
   cases h
   obtain ⟨G, g1, g2⟩ := hs.drop k
   refine ⟨_, X, G, ?_, .tup g1, fun a m => a3 a (g2.subset m), fun hf => ?_⟩
   ·simp only [ZdJ, a1, Option.bind_some]
    rw [if_pos (by rw [hs.length]; exact hc)]
   ·rw [g1.flats (by simpa [T.flatIn, T.flat] using hf)]
    simp
  ·cases h
 | @ref b vs1 ts1 F1 e1 hs =>
  cases h
  obtain ⟨G, g1, g2⟩ := hs.drop k
  refine ⟨.ref (H ++ X).length, X ++ [vs1.drop k], (H ++ X).length :: G, ?_, ?_, fun a m => ?_, fun hf => ?_⟩
  ·simp only [ZdJ, a1, Option.bind_some, e1, List.append_assoc]
  ·rw [← List.append_assoc]; exact Ze0 g1
  ·rcases Zz7.mp m with rfl | m
   ·exact .inl (by simp)
   ·exact a3 a (Zz2 _ (g2.subset m))
  ·have := Zgt g1 hf
   exact ⟨this.1, fun q m => by have := this.2 q m; simp at this; omega⟩
theorem ZgV {e : Ex} {p : PE} {k : Nat} (x : E O N u e p) : E O N false (ZdJ e k) (Zdv p k) := fun c ρ σ H Φ t s h => by
 obtain ⟨v, X, F, a1, a2, a3, a4⟩ := Zuc x s h
 exact ⟨v, X, F, a1, a2, a3, by simp⟩
end
noncomputable def Gs (O N : List Nat) (g : Src) (q : PG) : Prop := ∀ (c : Ctx) (ρ : Lc) (σ : TL) (H : Hp) (Φ : Nat → List Nat) (ts : List T), St c O ρ σ H Φ → q σ = some ts →
 ∃ (nx : Nx) (X : Hp) (vs : List V) (F G : List Nat), g ρ H = some (nx, ts.length + 1, H ++ X) ∧ RFs (H ++ X) vs ts F ∧ (∀ a ∈ F, a ∈ G) ∧ (∀ a ∈ G, a < (H ++ X).length ∧ From H N σ Φ a) ∧ ∀ K : Hp, (∀ a ∈ G, K[a]? = (H ++ X)[a]?) → ∀ i, i ≤ vs.length → nx i K = some vs[i]?
section
variable {O N M : List Nat} {u u' : Bool}
noncomputable def ZaE (p : PE) : PG := fun σ => (p σ).bind fun t => match t with
 | .lst ts => some ts
 | .tup ts => some ts
 | _ => none
theorem Gs.seq {e : Ex} {p : PE} (x : E O N u e p) : Gs O N (Zbz e) (ZaE p) := fun c ρ σ H Φ ts s h => by
 obtain ⟨t1, h1, h⟩ := Zz0.mp h
 obtain ⟨v, X, F, a1, a2, a3, a4⟩ := x c ρ σ H Φ t1 s h1
 have hlt := a2.lt
 cases a2 with
 | none => cases h
 | bool => cases h
 | int => cases h
 | str => cases h
 | @tup vs _ _ hs =>
  cases h
  exact ⟨Zri vs, X, vs, F, F, by simp only [Zbz, a1, Option.bind_some, hs.length], hs, fun _ m => m, fun a m => ⟨hlt a m, a3 a m⟩, fun K _ i hi => rfl⟩
 | @ref b vs _ F' e1 hs =>
  cases h
  refine ⟨Zn8 b, X, vs, F', b :: F', by simp only [Zbz, a1, Option.bind_some, e1, Option.map_some, hs.length], hs, fun _ m => List.mem_cons_of_mem _ m, fun a m => ⟨hlt a m, a3 a m⟩, fun K hK i hi => ?_⟩
  simp only [Zn8, hK b Zz5, e1, Option.map_some]
noncomputable def ZcD (a b c : Int) : Option (List T) := if c ≠ 0 ∧ Builtin.Range.small a b c = true ∧ 0 ≤ Builtin.Range.rangeSize a b c ∧ rngN a b c ≤ LEN ∧ Builtin.divisionGoesByPylong (b - a) c = false then some ((List.range (rngN a b c)).map fun (i : Nat) => .int (a + (i : Int) * c)) else none
noncomputable def ZaF (p : PEs) : PG := fun σ => (p σ).bind fun ts => match ts with
 | [.int b] => ZcD 0 b 1
 | [.int a, .int b] => ZcD a b 1
 | [.int a, .int b, .int c] => ZcD a b c
 | _ => none
theorem Zqb (H : Hp) (a c : Int) : ∀ (l : List Nat), RFs H (l.map fun (i : Nat) => .int (a + (i : Int) * c)) (l.map fun (i : Nat) => .int (a + (i : Int) * c)) []
 | [] => .nil
 | i :: l => by have := RFs.cons (RF.int (H := H) (a + i * c)) (Zqb H a c l); exact this
theorem Znk {a b c : Int} {H : Hp} {ts : List T} (h : ZcD a b c = some ts) : ∃ (nx : Nx) (vs : List V), ZcJ a b c H = some (nx, ts.length + 1, H) ∧ RFs H vs ts [] ∧ ∀ K : Hp, ∀ i, i ≤ vs.length → nx i K = some vs[i]? := by
 unfold ZcD at h
 split at h
 ·rename_i hc
  cases h
  refine ⟨ZfB a c (rngN a b c), (List.range (rngN a b c)).map fun (i : Nat) => .int (a + (i : Int) * c), ?_, Zqb H a c _, fun K i hi => ?_⟩
  ·unfold ZcJ
   rw [if_pos hc]
   simp
  ·simp only [ZfB, List.getElem?_map]
   by_cases q : i < rngN a b c
   ·rw [if_pos q, List.getElem?_range q]; rfl
   ·rw [if_neg q, List.getElem?_eq_none (by simpa using Nat.le_of_not_lt q)]; rfl
 ·cases h
theorem RFs.three_inv {H : Hp} {vs : List V} {t t' t'' : T} {F : List Nat} (r : RFs H vs [t, t', t''] F) : ∃ v v' v'' F1 F2 F3, vs = [v, v', v''] ∧ RF H v t F1 ∧ RF H v' t' F2 ∧ RF H v'' t'' F3 := by
 cases r with
 | cons a b => obtain ⟨v', v'', F2, F3, h1, h2, h3, _⟩ := b.two_inv; subst h1; exact ⟨_, _, _, _, _, _, rfl, a, h2, h3⟩
theorem Gs.range {n : Nat} {e : Exs} {p : PEs} (x : Es O N u n e p) : Gs O [] (ZaQ e) (ZaF p) := fun c ρ σ H Φ ts s h => by
 obtain ⟨t1, h1, h⟩ := Zz0.mp h
 obtain ⟨_, vs, X, F, a1, a2, a3, a4⟩ := x c ρ σ H Φ t1 s h1
 split at h
 ·obtain ⟨v, rfl, r⟩ := a2.one_inv
  cases r
  obtain ⟨nx, us, q1, q2, q3⟩ := Znk (H := H ++ X) h
  exact ⟨nx, X, us, [], [], by simp only [ZaQ, a1, Option.bind_some, q1], q2, by simp, by simp, fun K _ => q3 K⟩
 ·obtain ⟨v, v', F1, F2, rfl, r, r', _⟩ := a2.two_inv
  cases r; cases r'
  obtain ⟨nx, us, q1, q2, q3⟩ := Znk (H := H ++ X) h
  exact ⟨nx, X, us, [], [], by simp only [ZaQ, a1, Option.bind_some, q1], q2, by simp, by simp, fun K _ => q3 K⟩
 ·obtain ⟨v, v', v'', F1, F2, F3, rfl, r, r', r''⟩ := a2.three_inv
  cases r; cases r'; cases r''
  obtain ⟨nx, us, q1, q2, q3⟩ := Znk (H := H ++ X) h
  exact ⟨nx, X, us, [], [], by simp only [ZaQ, a1, Option.bind_some, q1], q2, by simp, by simp, fun K _ => q3 K⟩
 ·cases h
noncomputable def Zea (p q : PE) : PG := fun σ => (p σ).bind fun t => (q σ).bind fun s => match t, s with
 | .lst ts, .lst ss => some (List.zipWith (fun x y => .tup [x, y]) ts ss)
 | _, _ => none
theorem RFs.zip {H : Hp} : ∀ {vs us : List V} {ts ss : List T} {F G : List Nat}, RFs H vs ts F → RFs H us ss G → ∃ D, RFs H (List.zipWith (fun x y => .tup [x, y]) vs us) (List.zipWith (fun x y => .tup [x, y]) ts ss) D ∧ ∀ a ∈ D, a ∈ F ∨ a ∈ G
 | _, _, _, _, _, _, .nil, _ => ⟨_, .nil, by simp⟩
 | _, _, _, _, _, _, .cons _ _, .nil => ⟨_, .nil, by simp⟩
 | _, _, _, _, _, _, .cons a b, .cons a' b' => by
  obtain ⟨D, h1, h2⟩ := b.zip b'
  refine ⟨_, .cons (.tup (.cons a (.one a'))) h1, fun x m => ?_⟩
  rcases Zz8.mp m with m | m
  ·rcases Zz8.mp m with m | m
   ·exact .inl (Zz4 _ m)
   ·exact .inr (Zz4 _ m)
  ·exact (h2 x m).imp (Zz3 _) (Zz3 _)
theorem Gs.zip {e1 e2 : Ex} {p1 p2 : PE} (x : E O N u e1 p1) (y : E O M u' e2 p2) : Gs O (N ++ M) (Zd8 e1 e2) (Zea p1 p2) := fun c ρ σ H Φ ts s h => by
 obtain ⟨t1, h1, h⟩ := Zz0.mp h
 obtain ⟨t2, h2, h⟩ := Zz0.mp h
 obtain ⟨v, X, F, a1, a2, a3, a4⟩ := x c ρ σ H Φ t1 s h1
 obtain ⟨w, Y, G, b1, b2, b3, b4⟩ := y c ρ σ (H ++ X) Φ t2 (s.ext X) h2
 have a2 := a2.ext Y
 have l1 := a2.lt
 have l2 := b2.lt
 rw [List.append_assoc] at a2 b2 l1 l2 b1
 cases a2 with
 | none => cases h
 | bool => cases h
 | int => cases h
 | str => cases h
 | tup => cases b2 <;> cases h
 | @ref a vs _ F' e1 hs =>
  cases b2 with
  | none => cases h
  | bool => cases h
  | int => cases h
  | str => cases h
  | tup => cases h
  | @ref b us _ G' e2 hs2 =>
   cases h
   obtain ⟨D, d1, d2⟩ := hs.zip hs2
   refine ⟨Zg7 a b, X ++ Y, _, D, a :: b :: D, ?_, d1, fun q m => List.mem_cons_of_mem _ (Zz2 _ m), fun q m => ?_, fun K hK i hi => ?_⟩
   ·simp only [Zd8, a1, Option.bind_some, b1, e1, e2, Option.map_some, List.length_zipWith, hs.length, hs2.length]
   ·rcases Zz7.mp m with rfl | m
    ·exact ⟨l1 _ Zz5, (a3 _ Zz5).mono fun i hi => List.mem_append_left _ hi⟩
    ·rcases Zz7.mp m with rfl | m
     ·exact ⟨l2 _ Zz5, (b3 _ Zz5).back.mono fun i hi => List.mem_append_right _ hi⟩
     ·rcases d2 q m with m | m
      ·exact ⟨l1 _ (Zz2 _ m), (a3 _ (Zz2 _ m)).mono fun i hi => List.mem_append_left _ hi⟩
      ·exact ⟨l2 _ (Zz2 _ m), (b3 _ (Zz2 _ m)).back.mono fun i hi => List.mem_append_right _ hi⟩
   ·simp only [Zg7, hK a Zz5, hK b (Zz2 _ Zz5), e1, e2, Option.bind_some, List.getElem?_zipWith]
    rw [List.length_zipWith] at hi
    by_cases q : i < min vs.length us.length
    ·rw [List.getElem?_eq_getElem (show i < vs.length by omega), List.getElem?_eq_getElem (show i < us.length by omega)]
    ·have q' : i = min vs.length us.length := by omega
     by_cases q2 : i < vs.length
     ·rw [List.getElem?_eq_getElem q2, List.getElem?_eq_none (show us.length ≤ i by omega)]
      simp [q']
     ·rw [List.getElem?_eq_none (show vs.length ≤ i by omega)]
      simp [q']
end
noncomputable def PutOk (O J : List Nat) (put : V → Lc → Option Lc) (q : T → TL → Option TL) : Prop := ∀ (c : Ctx) (ρ : Lc) (σ : TL) (H : Hp) (Φ : Nat → List Nat) (v : V) (t : T) (F : List Nat) (σ1 : TL), St c O ρ σ H Φ → RF H v t F → (∀ a ∈ F, c.H0.length ≤ a ∨ c.P a) → (∀ i ∈ O, ∀ t', σ i = some t' → ∀ a ∈ Φ i, a ∉ F) → q t σ = some σ1 →
 ∃ ρ1 Φ1, put v ρ = some ρ1 ∧ St c O ρ1 σ1 H Φ1 ∧ (∀ i, i ∉ J → σ1 i = σ i ∧ Φ1 i = Φ i) ∧ ∀ i ∈ J, ∀ a ∈ Φ1 i, a ∈ F
noncomputable def Zao (Φ : Nat → List Nat) (j : Nat) (F : List Nat) : Nat → List Nat := fun i => if i = j then F else Φ i
theorem St.put {c : Ctx} {O : List Nat} {ρ : Lc} {σ : TL} {H : Hp} {Φ : Nat → List Nat} {v : V} {t : T} {F : List Nat} {j : Nat} (s : St c O ρ σ H Φ) (hj : j ∉ O) (r : RF H v t F) (hs : ∀ a ∈ F, c.H0.length ≤ a ∨ c.P a) (ho : ∀ i ∈ O, ∀ t', σ i = some t' → ∀ a ∈ Φ i, a ∉ F) : St c O (upd ρ j v) (Zab σ j t) H (Zao Φ j F) := by
 refine ⟨fun i u e => ?_, fun i u e => ?_, fun i hi u e => ?_, s.len, s.keep, s.pos, s.f0⟩
 ·by_cases q : i = j
  ·subst q
   simp [Zab] at e
   subst e
   exact ⟨v, by simp [upd], by simpa [Zao] using r⟩
  ·simp [Zab, q] at e
   simpa [upd, Zao, q] using s.slot i u e
 ·by_cases q : i = j
  ·subst q; simpa [Zao] using hs
  ·simp [Zab, q] at e
   simpa [Zao, q] using s.src i u e
 ·have q : i ≠ j := fun q => hj (q ▸ hi)
  simp [Zab, q] at e
  obtain ⟨h1, h2, h3⟩ := s.own i hi u e
  refine ⟨by simpa [Zao, q] using h1, by simpa [Zao, q] using h2, fun k w hk ek => ?_⟩
  by_cases q2 : k = j
  ·subst q2
   simpa [Zao, q] using ho i hi u e
  ·simp [Zab, q2] at ek
   simpa [Zao, q, q2] using h3 k w hk ek
noncomputable def Zad (j : Nat) : T → TL → Option TL := fun t σ => some (Zab σ j t)
noncomputable def ZcY (i j : Nat) : T → TL → Option TL
 | .tup [a, b], σ => some (Zab (Zab σ i a) j b)
 | _, _ => none
theorem PutOk.one {O : List Nat} {j : Nat} (hj : j ∉ O := by decide) : PutOk O [j] (put1 j) (Zad j) := fun c ρ σ H Φ v t F σ1 s r hs ho h => by
 cases h
 refine ⟨_, _, rfl, s.put hj r hs ho, fun i hi => ?_, fun i hi a m => ?_⟩
 ·have : i ≠ j := fun q => hi (by simp [q])
  simp [Zab, Zao, this]
 ·simp at hi; subst hi; simpa [Zao] using m
theorem PutOk.two {O : List Nat} {i j : Nat} (hi : i ∉ O := by decide) (hj : j ∉ O := by decide) (hij : i ≠ j := by decide) : PutOk O [i, j] (ZcB i j) (ZcY i j) := fun c ρ σ H Φ v t F σ1 s r hs ho h => by
 unfold ZcY at h
 split at h
 ·cases h
  cases r with
  | tup hh =>
   obtain ⟨v1, v2, F1, F2, rfl, r1, r2, rfl⟩ := hh.two_inv
   have s1 := s.put hi r1 (fun a m => hs a (Zz4 _ m)) (fun k hk t' e a m q => ho k hk t' e a m (Zz4 _ q))
   have s2 := s1.put hj r2 (fun a m => hs a (Zz3 _ m)) (fun k hk t' e a m q => by
    have : k ≠ i := fun q => hi (q ▸ hk)
    simp [Zab, Zao, this] at e m
    exact ho k hk t' e a m (Zz3 _ q))
   refine ⟨_, _, rfl, s2, fun k hk => ?_, fun k hk a m => ?_⟩
   ·simp at hk
    simp [Zab, Zao, hk.1, hk.2]
   ·simp at hk
    rcases hk with rfl | rfl
    ·simp [Zao, hij] at m
     exact Zz4 _ m
    ·simp [Zao] at m
     exact Zz3 _ m
 ·cases h
noncomputable def Zcy (put : T → TL → Option TL) (c : PB) (f : PE) (σ : TL) : List T → Option (List T)
 | [] => some []
 | t :: ts => (put t σ).bind fun σ1 => (c σ1).bind fun b => if b then (f σ1).bind fun x => (Zcy put c f σ ts).map fun xs => x :: xs else Zcy put c f σ ts
noncomputable def Zaq (g : PG) (put : T → TL → Option TL) (c : PB) (f : PE) : PE := fun σ => (g σ).bind fun ts => if ts.length ≤ LEN then (Zcy put c f σ ts).map .lst else none
section
variable {O Ns Ne J : List Nat} {u : Bool}
theorem comp_core {put : V → Lc → Option Lc} {pput : T → TL → Option TL} {tc : Ts} {pc : PB} {f : Ex} {pf : PE} (hj : PutOk O J put pput) (hN : ∀ i ∈ Ns, i ∉ O) (hc : Bt O tc pc) (hf : E O Ne u f pf) (hu : u = true → Ne = [])
  {c : Ctx} {ρ : Lc} {σ : TL} {Φ : Nat → List Nat} {H0 H1 : Hp} {nx : Nx} {vs : List V} {G : List Nat} (h0 : H0.length ≤ H1.length)
  (hG : ∀ a ∈ G, a < H1.length ∧ From H0 Ns σ Φ a) (hoff : ∀ a ∈ G, ∀ i ∈ O, ∀ t, σ i = some t → a ∉ Φ i) (hsrc : ∀ a ∈ G, c.H0.length ≤ a ∨ c.P a) (hnx : ∀ K : Hp, (∀ a ∈ G, K[a]? = H1[a]?) → ∀ i, i ≤ vs.length → nx i K = some vs[i]?) :
  ∀ (rs : List T) (ws : List V) (i : Nat) (acc : List V) (K : Hp) (Fr : List Nat) (out : List T), (∀ j, vs[i + j]? = ws[j]?) → i + ws.length = vs.length → St c O ρ σ K Φ → H1.length ≤ K.length → (∀ a ∈ G, K[a]? = H1[a]?) → RFs K ws rs Fr → (∀ a ∈ Fr, a ∈ G) → acc.length + rs.length ≤ LEN → Zcy pput pc pf σ rs = some out →
   ∃ xs X F, ZcX nx put tc f ρ (rs.length + 1) i acc K = some (acc ++ xs, K ++ X) ∧ RFs (K ++ X) xs out F ∧ (∀ a ∈ F, (u = true → K.length ≤ a) ∧ From H0 (Ns ++ Ne) σ Φ a) ∧ (u = true → F.Nodup)
 | [], ws, i, acc, K, Fr, out, hat, hlen, s, hl, hk, r, hfr, hacc, h => by
  cases r
  cases h
  have e := hnx K hk i (by simp at hlen; omega)
  have e2 : vs[i]? = none := by have := hat 0; simpa using this
  refine ⟨[], [], [], ?_, .nil, by simp, by simp⟩
  simp [ZcX, e, e2]
 | t :: rs, ws0, i, acc, K, Fr0, out, hat, hlen, s, hl, hk, r, hfr, hacc, h => by
  cases r with
  | @cons v _ F1 ws _ F2 a b =>
  simp only [List.length_cons] at hlen hacc
  obtain ⟨σ1, h1, h⟩ := Zz0.mp h
  obtain ⟨bb, h2, h⟩ := Zz0.mp h
  have e := hnx K hk i (by omega)
  have e2 : vs[i]? = some v := by have := hat 0; simpa using this
  have hat' : ∀ j, vs[i + 1 + j]? = ws[j]? := fun j => by have := hat (j + 1); rw [show i + 1 + j = i + (j + 1) by omega, this]; simp
  obtain ⟨ρ1, Φ1, p1, s1, p3, p4⟩ := hj c ρ σ K Φ v t F1 σ1 s a (fun x m => hsrc x (hfr x (Zz4 _ m))) (fun k hk t' e x m q => hoff x (hfr x (Zz4 _ q)) k hk t' e m) h1
  obtain ⟨X1, c1⟩ := hc c ρ1 σ1 K Φ1 bb s1 h2
  cases bb with
  | true =>
   obtain ⟨y, h3, h⟩ := Zz0.mp h
   obtain ⟨ys, h4, h⟩ := Zz1.mp h
   subst h
   obtain ⟨w, X2, Fw, d1, d2, d3, d4⟩ := hf c ρ1 σ1 (K ++ X1) Φ1 y (s1.ext X1) h3
   have hext : ∀ a ∈ G, (K ++ X1 ++ X2)[a]? = H1[a]? := fun a m => by
    have := (hG a m).1
    rw [List.append_assoc, List.getElem?_append_left (by omega)]; exact hk a m
   obtain ⟨xs, X3, F3, f1, f2, f3, f4⟩ := comp_core hj hN hc hf hu h0 hG hoff hsrc hnx rs ws (i + 1) (acc ++ [w]) (K ++ X1 ++ X2) F2 ys hat' (by omega) ((s.ext X1).ext X2) (by simp; omega) hext (by rw [List.append_assoc]; exact b.ext _) (fun x m => hfr x (Zz3 _ m)) (by simp; omega) h4
   refine ⟨w :: xs, X1 ++ X2 ++ X3, Fw ++ F3, ?_, ?_, fun x m => ?_, fun hu' => ?_⟩
   ·rw [List.length_cons, ZcX, e, e2]
    simp only [Option.bind_some, p1, c1, d1, if_true]
    rw [if_pos (by omega)]
    simpa using f1
   ·have := RFs.cons (d2.ext X3) f2
    simpa using this
   ·rcases Zz8.mp m with m | m
    ·refine ⟨fun hu' => ?_, ?_⟩
     ·have hne := hu hu'
      subst hne
      have := (d3 x m).nil
      simp at this; omega
     ·rcases d3 x m with q | ⟨k, hk1, ⟨tk, ek⟩, mk⟩
      ·exact .inl (by simp at q; omega)
      ·by_cases hkJ : k ∈ J
       ·exact (hG x (hfr x (Zz4 _ (p4 k hkJ x mk)))).2.mono fun i hi => List.mem_append_left _ hi
       ·obtain ⟨q1, q2⟩ := p3 k hkJ
        exact .inr ⟨k, List.mem_append_right _ hk1, ⟨tk, q1 ▸ ek⟩, q2 ▸ mk⟩
    ·obtain ⟨g1, g2⟩ := f3 x m
     exact ⟨fun hu' => by have := g1 hu'; simp at this; omega, g2⟩
   ·rw [List.nodup_append]
    refine ⟨d4 hu', f4 hu', fun x hx y hy e => ?_⟩
    have l1 := d2.lt x hx
    have l2 := (f3 y hy).1 hu'
    omega
  | false =>
   have hext : ∀ a ∈ G, (K ++ X1)[a]? = H1[a]? := fun a m => by
    have := (hG a m).1
    rw [List.getElem?_append_left (by omega)]; exact hk a m
   obtain ⟨xs, X3, F3, f1, f2, f3, f4⟩ := comp_core hj hN hc hf hu h0 hG hoff hsrc hnx rs ws (i + 1) acc (K ++ X1) F2 out hat' (by omega) (s.ext X1) (by simp; omega) hext (b.ext _) (fun x m => hfr x (Zz3 _ m)) (by omega) (by simpa using h)
   refine ⟨xs, X1 ++ X3, F3, ?_, by simpa using f2, fun x m => ?_, f4⟩
   ·rw [List.length_cons, ZcX, e, e2]
    simp only [Option.bind_some, p1, c1]
    simpa using f1
   ·obtain ⟨g1, g2⟩ := f3 x m
    exact ⟨fun hu' => by have := g1 hu'; simp at this; omega, g2⟩
theorem Zrm {g : Src} {q : PG} {put : V → Lc → Option Lc} {pput : T → TL → Option TL} {tc : Ts} {pc : PB} {f : Ex} {pf : PE} (hg : Gs O Ns g q) (hj : PutOk O J put pput) (hN : ∀ i ∈ Ns, i ∉ O) (hc : Bt O tc pc) (hf : E O Ne u f pf) (hu : u = true → Ne = []) : E O (if u then [] else Ns ++ Ne) u (ZaJ g put tc f) (Zaq q pput pc pf) := fun c ρ σ H Φ t s h => by
 obtain ⟨ts, h1, h⟩ := Zz0.mp h
 split at h
 ·rename_i hl
  obtain ⟨out, h2, h⟩ := Zz1.mp h
  subst h
  obtain ⟨nx, X, vs, F, G, g1, g2, g3, g4, g5⟩ := hg c ρ σ H Φ ts s h1
  obtain ⟨xs, Y, F', d1, d2, d3, d4⟩ := comp_core hj hN hc hf hu (H0 := H) (H1 := H ++ X) (by simp) g4 (fun a m i hi t e => s.from_off hN (g4 a m).2 hi e) (fun a m => s.from_src (g4 a m).2) g5 ts vs 0 [] (H ++ X) F out (by simp) (by simp) (s.ext X) (Zz10 _) (fun _ _ => rfl) g2 g3 (by simpa using hl) h2
  refine ⟨.ref (H ++ X ++ Y).length, X ++ Y ++ [xs], (H ++ X ++ Y).length :: F', ?_, ?_, fun a m => ?_, fun hu' => ?_⟩
  ·simp only [ZaJ, g1, Option.bind_some, d1, Option.map_some, List.nil_append, List.append_assoc]
  ·have := Ze0 d2
   simpa using this
  ·rcases Zz7.mp m with rfl | m
   ·exact .inl (by simp)
   ·obtain ⟨q1, q2⟩ := d3 a m
    cases u with
    | true => exact .inl (by have := q1 rfl; simp at this; omega)
    | false => exact q2
  ·rw [List.nodup_cons]
   exact ⟨fun m => Nat.lt_irrefl _ (d2.lt _ m), d4 hu'⟩
 ·cases h
end
end TM
end
section
set_option autoImplicit false
namespace TM
open PySem PM
noncomputable abbrev PS := TL → Option (Option T × TL)
noncomputable def ZcU (σ : TL) (N : List Nat) : TL := fun j => if j ∈ N then none else σ j
noncomputable def Held (O : List Nat) (σ : TL) (Φ : Nat → List Nat) (a : Nat) : Prop := ∃ j ∈ O, (∃ t, σ j = some t) ∧ a ∈ Φ j
noncomputable def Aft (c : Ctx) (O O' R : List Nat) (fr : Bool) (σ : TL) (H : Hp) (Φ : Nat → List Nat) (g : Option (Option V × Lc × Hp)) (r : Option T × TL) : Prop :=
 ∃ ρ' H' Φ', H.length ≤ H'.length ∧ (∀ a, a < H.length → ¬ Held O σ Φ a → H'[a]? = H[a]?) ∧
  ((r.1 = none ∧ g = some (none, ρ', H') ∧ St c O' ρ' r.2 H' Φ' ∧ ∀ a, Held O' r.2 Φ' a → H.length ≤ a ∨ Held O σ Φ a) ∨
  ∃ t v F, r.1 = some t ∧ g = some (some v, ρ', H') ∧ RF H' v t F ∧ St c R ρ' r.2 H' Φ' ∧ (∀ a ∈ F, c.H0.length ≤ a ∨ c.P a) ∧ (fr = true → F.Nodup ∧ ∀ a ∈ F, c.H0.length ≤ a ∨ a ∈ c.F0))
noncomputable def S (O O' R : List Nat) (fr : Bool) (g : Sm) (q : PS) : Prop := ∀ (c : Ctx) (ρ : Lc) (σ : TL) (H : Hp) (Φ : Nat → List Nat) (r : Option T × TL), St c O ρ σ H Φ → q σ = some r → Aft c O O' R fr σ H Φ (g ρ H) r
theorem Held.mono {O O' : List Nat} {σ : TL} {Φ : Nat → List Nat} {a : Nat} (h : Held O σ Φ a) (s : ∀ i ∈ O, i ∈ O') : Held O' σ Φ a := by
 obtain ⟨j, hj, q⟩ := h; exact ⟨j, s j hj, q⟩
section
variable {O O' R : List Nat} {fr : Bool}
theorem ZwY {O1 : List Nat} {g : Sm} {q : PS} (x : S O O1 R fr g q) (h : ∀ i ∈ O', i ∈ O1) : S O O' R fr g q := fun c ρ σ H Φ r s e => by
 obtain ⟨ρ', H', Φ', h1, h2, h3⟩ := x c ρ σ H Φ r s e
 refine ⟨ρ', H', Φ', h1, h2, ?_⟩
 rcases h3 with ⟨k1, k2, k3, k4⟩ | k
 ·exact .inl ⟨k1, k2, k3.less h, fun a m => k4 a (m.mono h)⟩
 ·exact .inr k
noncomputable def ZV : PS := fun σ => some (none, σ)
theorem Z7 : S O O R fr Z2 ZV := fun c ρ σ H Φ r s e => by
 cases e
 exact ⟨ρ, H, Φ, Nat.le_refl _, fun _ _ _ => rfl, .inl ⟨rfl, rfl, s, fun a m => .inr m⟩⟩
noncomputable def Zt (a b : PS) : PS := fun σ => (a σ).bind fun r => match r.1 with
 | some _ => some r
 | none => b r.2
theorem Zz {O1 : List Nat} {a b : Sm} {p q : PS} (x : S O O1 R fr a p) (y : S O1 O' R fr b q) : S O O' R fr (Zw a b) (Zt p q) := fun c ρ σ H Φ r s e => by
 obtain ⟨r1, e1, e⟩ := Zz0.mp e
 obtain ⟨ρ1, H1, Φ1, h1, h2, h3⟩ := x c ρ σ H Φ r1 s e1
 rcases h3 with ⟨k1, k2, k3, k4⟩ | ⟨t, v, F, k1, k2, k3⟩
 ·rw [k1] at e
  obtain ⟨ρ2, H2, Φ2, g1, g2, g3⟩ := y c ρ1 r1.2 H1 Φ1 r k3 e
  refine ⟨ρ2, H2, Φ2, Nat.le_trans h1 g1, fun a ha hn => ?_, ?_⟩
  ·rw [g2 a (by omega) fun q => (k4 a q).elim (fun q => by omega) hn, h2 a ha hn]
  ·have eg : Zw a b ρ H = b ρ1 H1 := by simp only [Zw, k2, Option.bind_some]
   rw [eg]
   rcases g3 with ⟨l1, l2, l3, l4⟩ | l
   ·refine .inl ⟨l1, l2, l3, fun a m => ?_⟩
    rcases l4 a m with q | q
    ·exact .inl (by omega)
    ·exact k4 a q
   ·exact .inr l
 ·rw [k1] at e
  cases e
  exact ⟨ρ1, H1, Φ1, h1, h2, .inr ⟨t, v, F, k1, by simp only [Zw, k2, Option.bind_some], k3⟩⟩
noncomputable def ZF (p : PE) : PS := fun σ => (p σ).map fun t => (some t, σ)
theorem ZW {N : List Nat} {u : Bool} {e : Ex} {p : PE} (x : E O N u e p) (hR : ∀ i ∈ R, i ∈ O := by decide) : S O O' R false (ZH e) (ZF p) := fun c ρ σ H Φ r s q => by
 obtain ⟨t, h1, h⟩ := Zz1.mp q
 subst h
 obtain ⟨v, X, F, a1, a2, a3, a4⟩ := x c ρ σ H Φ t s h1
 refine ⟨ρ, H ++ X, Φ, by simp, fun a ha _ => List.getElem?_append_left ha, .inr ⟨t, v, F, rfl, by simp only [ZH, a1, Option.map_some], a2, (s.ext X).less hR, fun a m => s.from_src (a3 a m), by simp⟩⟩
theorem Za8 {N : List Nat} {e : Ex} {p : PE} (x : E O N true e p) (hN : ∀ i ∈ N, i ∈ O := by decide) (hR : ∀ i ∈ R, i ∈ O := by decide) : S O O' R fr (ZH e) (ZF p) := fun c ρ σ H Φ r s q => by
 obtain ⟨t, h1, h⟩ := Zz1.mp q
 subst h
 obtain ⟨v, X, F, a1, a2, a3, a4⟩ := x c ρ σ H Φ t s h1
 refine ⟨ρ, H ++ X, Φ, by simp, fun a ha _ => List.getElem?_append_left ha, .inr ⟨t, v, F, rfl, by simp only [ZH, a1, Option.map_some], a2, (s.ext X).less hR, fun a m => s.from_src (a3 a m), fun _ => ⟨a4 rfl, fun a m => ?_⟩⟩⟩
 rcases a3 a m with q | ⟨i, hi, ⟨t', e'⟩, m'⟩
 ·exact .inl (Nat.le_trans s.len q)
 ·exact (s.own i (hN i hi) t' e').2.1 a m'
noncomputable def ZJ (i : Nat) (p : PE) : PS := fun σ => (p σ).map fun t => (none, Zab σ i t)
theorem ZZ {N : List Nat} {u : Bool} {i : Nat} {e : Ex} {p : PE} (x : E O N u e p) (hi : i ∉ O' := by decide) (hN : ∀ j ∈ N, j ∉ O' := by decide) (hO : ∀ j ∈ O', j ∈ O := by decide) : S O O' R fr (ZO i e) (ZJ i p) := fun c ρ σ H Φ r s q => by
 obtain ⟨t, h1, h⟩ := Zz1.mp q
 subst h
 obtain ⟨v, X, F, a1, a2, a3, a4⟩ := x c ρ σ H Φ t s h1
 have s' := s.less hO
 refine ⟨upd ρ i v, H ++ X, Zao Φ i F, by simp, fun a ha _ => List.getElem?_append_left ha, .inl ⟨rfl, by simp only [ZO, a1, Option.map_some], (s'.ext X).put hi a2 (fun a m => s.from_src (a3 a m)) (fun k hk t' e' a m q => ?_), fun a m => ?_⟩⟩
 ·exact s'.from_off hN (a3 a q) hk e' m
 ·obtain ⟨k, hk, ⟨t', e'⟩, m⟩ := m
  have : k ≠ i := fun q => hi (q ▸ hk)
  simp [Zab, this] at e'
  simp [Zao, this] at m
  exact .inr ⟨k, hO k hk, ⟨t', e'⟩, m⟩
theorem Zco {i : Nat} {e : Ex} {p : PE} (x : E O [] true e p) (hO : ∀ j ∈ O', j ∈ O ∨ j = i := by decide) : S O O' R fr (ZO i e) (ZJ i p) := fun c ρ σ H Φ r s q => by
 obtain ⟨t, h1, h⟩ := Zz1.mp q
 subst h
 obtain ⟨v, X, F, a1, a2, a3, a4⟩ := x c ρ σ H Φ t s h1
 have hnew : ∀ a ∈ F, H.length ≤ a := fun a m => (a3 a m).nil
 have hold : ∀ k t', σ k = some t' → ∀ a ∈ Φ k, a < H.length := fun k t' e a m => by
  obtain ⟨_, _, r⟩ := s.slot k t' e
  exact r.lt a m
 refine ⟨upd ρ i v, H ++ X, Zao Φ i F, by simp, fun a ha _ => List.getElem?_append_left ha, .inl ⟨rfl, by simp only [ZO, a1, Option.map_some], ⟨fun k t' e' => ?_, fun k t' e' => ?_, fun k hk t' e' => ?_, (s.ext X).len, (s.ext X).keep, s.pos, s.f0⟩, fun a m => ?_⟩⟩
 ·by_cases q : k = i
  ·subst q
   simp [Zab] at e'
   subst e'
   exact ⟨v, by simp [upd], by simpa [Zao] using a2⟩
  ·simp [Zab, q] at e'
   simpa [upd, Zao, q] using (s.ext X).slot k t' e'
 ·by_cases q : k = i
  ·subst q; simpa [Zao] using fun a m => s.from_src (a3 a m)
  ·simp [Zab, q] at e'
   simpa [Zao, q] using s.src k t' e'
 ·by_cases q : k = i
  ·subst q
   simp only [Zao, if_true]
   refine ⟨a4 rfl, fun a m => .inl (Nat.le_trans s.len (hnew a m)), fun j w hj ej a m q => ?_⟩
   simp [Zab, hj] at ej
   rw [if_neg hj] at q
   have := hold j w ej a q
   have := hnew a m
   omega
  ·have hk' := (hO k hk).resolve_right q
   simp [Zab, q] at e'
   obtain ⟨o1, o2, o3⟩ := s.own k hk' t' e'
   refine ⟨by simpa [Zao, q] using o1, by simpa [Zao, q] using o2, fun j w hj ej a m => ?_⟩
   simp [Zao, q] at m
   by_cases q2 : j = i
   ·subst q2
    simp only [Zao, if_true]
    intro m2
    have := hold k t' e' a m
    have := hnew a m2
    omega
   ·simp [Zab, q2] at ej
    simpa [Zao, q2] using o3 j w hj ej a m
 ·obtain ⟨k, hk, ⟨t', e'⟩, m⟩ := m
  by_cases q : k = i
  ·subst q
   simp [Zao] at m
   exact .inl (hnew a m)
  ·simp [Zab, q] at e'
   simp [Zao, q] at m
   exact .inr ⟨k, (hO k hk).resolve_right q, ⟨t', e'⟩, m⟩
noncomputable def ZQ (b : PB) (p q : PS) : PS := fun σ => (b σ).bind fun x => if x then p σ else q σ
theorem Aft.grow {c : Ctx} {σ : TL} {H X : Hp} {Φ : Nat → List Nat} {g : Option (Option V × Lc × Hp)} {r : Option T × TL} (h : Aft c O O' R fr σ (H ++ X) Φ g r) : Aft c O O' R fr σ H Φ g r := by
 obtain ⟨ρ', H', Φ', h1, h2, h3⟩ := h
 rw [List.length_append] at h1
 refine ⟨ρ', H', Φ', by omega, fun a ha hn => ?_, ?_⟩
 ·rw [h2 a (by rw [List.length_append]; omega) hn, List.getElem?_append_left ha]
 ·rcases h3 with ⟨k1, k2, k3, k4⟩ | k
  ·exact .inl ⟨k1, k2, k3, fun a m => (k4 a m).imp (fun q => by rw [List.length_append] at q; omega) id⟩
  ·exact .inr k
theorem Z4 {t : Ts} {pb : PB} {a b : Sm} {p q : PS} (z : Bt O t pb) (x : S O O' R fr a p) (y : S O O' R fr b q) : S O O' R fr (ZX t a b) (ZQ pb p q) := fun c ρ σ H Φ r s e => by
 obtain ⟨bb, e1, e⟩ := Zz0.mp e
 obtain ⟨X, h1⟩ := z c ρ σ H Φ bb s e1
 cases bb with
 | true =>
  have := x c ρ σ (H ++ X) Φ r (s.ext X) (by simpa using e)
  have eg : ZX t a b ρ H = a ρ (H ++ X) := by simp [ZX, h1]
  rw [eg]
  exact this.grow
 | false =>
  have := y c ρ σ (H ++ X) Φ r (s.ext X) (by simpa using e)
  have eg : ZX t a b ρ H = b ρ (H ++ X) := by simp [ZX, h1]
  rw [eg]
  exact this.grow
noncomputable def qNo : PS := fun _ => none
noncomputable def sNo : Sm := fun _ _ => none
theorem Zx6 {g : Sm} : S O O' R fr g qNo := fun c ρ σ H Φ r s q => by cases q
noncomputable def follow (H : Hp) : List Int → V → Option V
 | [], v => some v
 | k :: ks, v => (Zu v (.int k) H).bind fun q => follow H ks q.1
theorem Lead.follow {H : Hp} {ks : List Int} {v : V} {a : Nat} (l : Lead H ks v a) : follow H ks v = some (.ref a) := by
 induction l with
 | nil => rfl
 | ref h1 h2 h3 _ ih => simp only [TM.follow, Zu, h1, Option.bind_some, h2, h3, Option.map_some, ih]
 | tup h2 h3 _ ih => simp only [TM.follow, Zu, Option.bind_some, h2, h3, Option.map_some, ih]
theorem ZmA {H : Hp} {v w z : V} {K : Hp} (h : Zu v z H = some (w, K)) (X : Hp) : K = H ∧ Zu v z (H ++ X) = some (w, H ++ X) := by
 unfold Zu at h
 split at h
 ·obtain ⟨vs, e1, h⟩ := Zz0.mp h
  obtain ⟨j, e2, h⟩ := Zz0.mp h
  obtain ⟨x, e3, h⟩ := Zz1.mp h
  cases h
  exact ⟨rfl, by simp only [Zu, List.getElem?_append_left (Zz6.mp e1).1, e1, Option.bind_some, e2, e3, Option.map_some]⟩
 ·obtain ⟨j, e2, h⟩ := Zz0.mp h
  obtain ⟨x, e3, h⟩ := Zz1.mp h
  cases h
  exact ⟨rfl, by simp only [Zu, Option.bind_some, e2, e3, Option.map_some]⟩
 ·cases h
theorem Zpc {H : Hp} {k : Int} : ∀ {ks : List Int} {v : V}, follow H (ks ++ [k]) v = (follow H ks v).bind fun w => (Zu w (.int k) H).map (·.1)
 | [], v => by
  simp only [List.nil_append, follow, Option.bind_some]
  cases Zu v (.int k) H <;> rfl
 | j :: ks, v => by
  simp only [List.cons_append, follow]
  cases Zu v (.int j) H with
  | none => rfl
  | some q => simp only [Option.bind_some]; exact Zpc
noncomputable abbrev PPa := TL → Option (List Int)
noncomputable def ZaD : PPa := fun _ => some []
noncomputable def Zbv (p : PPa) (i : PE) : PPa := fun σ => (p σ).bind fun ks => (i σ).bind fun t => match t with
 | .int k => some (ks ++ [k])
 | _ => none
noncomputable def Pa (O : List Nat) (x : Nat) (e : Ex) (p : PPa) : Prop := ∀ (c : Ctx) (ρ : Lc) (σ : TL) (H : Hp) (Φ : Nat → List Nat) (ks : List Int) (v w : V), St c O ρ σ H Φ → p σ = some ks → ρ x = some v → follow H ks v = some w → ∃ X, e ρ H = some (w, H ++ X)
theorem ZbD {x : Nat} : Pa O x (Zb x) ZaD := fun c ρ σ H Φ ks v w s h e f => by
 cases h; cases f
 exact ⟨[], by simp [Zb, e]⟩
theorem Zc6 {x : Nat} {N : List Nat} {u : Bool} {e i : Ex} {p : PPa} {pi : PE} (y : Pa O x e p) (z : E O N u i pi) : Pa O x (Zj Zu e i) (Zbv p pi) := fun c ρ σ H Φ ks v w s h ev f => by
 obtain ⟨ks0, h1, h⟩ := Zz0.mp h
 obtain ⟨t, h2, h⟩ := Zz0.mp h
 cases t <;> first | (cases h; done) | skip
 rename_i k
 cases h
 rw [Zpc] at f
 obtain ⟨w0, f1, f⟩ := Zz0.mp f
 obtain ⟨⟨w1, K⟩, f2, f⟩ := Zz1.mp f
 cases f
 obtain ⟨X, a1⟩ := y c ρ σ H Φ ks0 v w0 s h1 ev f1
 obtain ⟨vi, Y, F, b1, b2, b3, b4⟩ := z c ρ σ (H ++ X) Φ _ (s.ext X) h2
 cases b2
 refine ⟨X ++ Y, ?_⟩
 simp only [Zj, a1, Option.bind_some, b1]
 have := (ZmA f2 (X ++ Y)).2
 rw [List.append_assoc]
 exact this
theorem Zrn {c : Ctx} {ρ : Lc} {σ : TL} {H : Hp} {Φ : Nat → List Nat} {N : List Nat} {x a b : Nat} {t t' : T} {v : V} {Fw F' : List Nat} {vs' : List V} (s : St c O ρ σ H Φ) (hx : x ∈ O) (ex : σ x = some t) (ev : ρ x = some v) (hb : c.H0.length ≤ b) (hlow : ∀ k t, σ k = some t → ∀ a ∈ Φ k, a < b)
  (hFw : ∀ a ∈ Fw, b ≤ a ∨ ∃ j ∈ N, (∃ t, σ j = some t) ∧ a ∈ Φ j) (hN : ∀ j ∈ N, j ∈ O ∧ j ≠ x) (ha : a ∈ Φ x) (r : RF (H.set a vs') v t' F') (nd : F'.Nodup) (sub : ∀ y ∈ F', y ∈ Φ x ∨ y ∈ Fw) (hO : ∀ j ∈ O', j ∈ O ∧ j ∉ N) :
  St c O' ρ (ZcU (Zab σ x t') N) (H.set a vs') (Zao Φ x F') ∧ (∀ y, Held O' (ZcU (Zab σ x t') N) (Zao Φ x F') y → b ≤ y ∨ Held O σ Φ y) := by
 obtain ⟨o1, o2, o3⟩ := s.own x hx t ex
 have old : ∀ k u, k ≠ x → ZcU (Zab σ x t') N k = some u → σ k = some u ∧ k ∉ N := fun k u hk e => by
  unfold ZcU at e
  split at e
  ·cases e
  ·rename_i hn
   simp [Zab, hk] at e
   exact ⟨e, hn⟩
 have self : ∀ u, ZcU (Zab σ x t') N x = some u → u = t' := fun u e => by
  unfold ZcU at e
  split at e
  ·cases e
  ·simp [Zab] at e; exact e.symm
 have foff : ∀ y ∈ F', ∀ k u, k ≠ x → σ k = some u → k ∉ N → y ∉ Φ k := fun y hy k u hk e hkn m => by
  rcases sub y hy with q | q
  ·exact o3 k u hk e y q m
  ·rcases hFw y q with q | ⟨j, hj, ⟨tj, ej⟩, mj⟩
   ·have := hlow k u e y m; omega
   ·exact (s.own j (hN j hj).1 tj ej).2.2 k u (fun q => hkn (q ▸ hj)) e y mj m
 refine ⟨⟨fun k u e => ?_, fun k u e => ?_, fun k hk u e => ?_, by simpa using s.len, fun y hy hn => ?_, s.pos, s.f0⟩, fun y hy => ?_⟩
 ·by_cases q : k = x
  ·subst q
   have := self u e
   subst this
   exact ⟨v, ev, by simpa [Zao] using r⟩
  ·obtain ⟨e1, e2⟩ := old k u q e
   obtain ⟨w, h1, h2⟩ := s.slot k u e1
   refine ⟨w, h1, ?_⟩
   simp only [Zao, q, if_false]
   refine h2.frame fun y hy => List.getElem?_set_ne fun q' => ?_
   exact o3 k u q e1 a ha (q' ▸ hy)
 ·by_cases q : k = x
  ·subst q
   simp only [Zao, if_true]
   intro y hy
   rcases sub y hy with q | q
   ·exact s.src k t ex y q
   ·rcases hFw y q with q | ⟨j, hj, ⟨tj, ej⟩, mj⟩
    ·exact .inl (by omega)
    ·exact s.src j tj ej y mj
  ·obtain ⟨e1, e2⟩ := old k u q e
   simpa [Zao, q] using s.src k u e1
 ·by_cases q : k = x
  ·subst q
   simp only [Zao, if_true]
   refine ⟨nd, fun y hy => ?_, fun j w hj ej y hy => ?_⟩
   ·rcases sub y hy with q | q
    ·exact o2 y q
    ·rcases hFw y q with q | ⟨j, hj, ⟨tj, ej⟩, mj⟩
     ·exact .inl (by omega)
     ·exact (s.own j (hN j hj).1 tj ej).2.1 y mj
   ·obtain ⟨e1, e2⟩ := old j w hj ej
    simpa [hj] using foff y hy j w hj e1 e2
  ·obtain ⟨e1, e2⟩ := old k u q e
   obtain ⟨p1, p2, p3⟩ := s.own k (hO k hk).1 u e1
   simp only [Zao, q, if_false]
   refine ⟨p1, p2, fun j w hj ej y hy => ?_⟩
   by_cases q2 : j = x
   ·subst q2
    simp only [if_true]
    exact fun m => foff y m k u q e1 e2 hy
   ·obtain ⟨f1, f2⟩ := old j w q2 ej
    simpa [q2] using p3 j w hj f1 y hy
 ·have : a ≠ y := fun q => by
   subst q
   rcases o2 a ha with q | q
   ·omega
   ·exact hn q
  rw [List.getElem?_set_ne this]
  exact s.keep y hy hn
 ·obtain ⟨k, hk, ⟨u, e⟩, m⟩ := hy
  by_cases q : k = x
  ·subst q
   simp only [Zao, if_true] at m
   rcases sub y m with q | q
   ·exact .inr ⟨k, hx, ⟨t, ex⟩, q⟩
   ·rcases hFw y q with q | ⟨j, hj, q⟩
    ·exact .inl q
    ·exact .inr ⟨j, (hN j hj).1, q⟩
  ·obtain ⟨e1, e2⟩ := old k u q e
   simp only [Zao, q, if_false] at m
   exact .inr ⟨k, (hO k hk).1, ⟨u, e1⟩, m⟩
theorem ZnF {c : Ctx} {ρ : Lc} {σ : TL} {H : Hp} {Φ : Nat → List Nat} {x a : Nat} {t : T} (s : St c O ρ σ H Φ) (hx : x ∈ O) (ex : σ x = some t) (ha : a ∈ Φ x) : a ≠ 0 := by
 have := s.pos
 rcases (s.own x hx t ex).2.1 a ha with q | q
 ·omega
 ·exact fun e => s.f0 (e ▸ q)
noncomputable def ZfV (w : T) (ts : List T) : Option (List T) := if ts.length < LEN then some (ts ++ [w]) else none
noncomputable def ZfW (k : Int) (w : T) (ts : List T) : Option (List T) := if 0 ≤ k ∧ k < ts.length then some (ts.set k.toNat w) else none
noncomputable def Zc1 (x : Nat) (N : List Nat) (po : PPa) (p : PE) : PS := fun σ => (po σ).bind fun ks => (p σ).bind fun w => (σ x).bind fun t => (ZcZ (ZfV w) ks t).map fun t' => (none, ZcU (Zab σ x t') N)
noncomputable def Za3 (x : Nat) (N : List Nat) (p : PE) (po : PPa) (pi : PE) : PS := fun σ => (p σ).bind fun w => (po σ).bind fun ks => (pi σ).bind fun k => match k with
 | .int k => (σ x).bind fun t => (ZcZ (ZfW k w) ks t).map fun t' => (none, ZcU (Zab σ x t') N)
 | _ => none
theorem Zgi {H : Hp} (X : Hp) : ∀ {ks : List Int} {v w : V}, follow H ks v = some w → follow (H ++ X) ks v = some w
 | [], _, _, h => h
 | k :: ks, v, w, h => by
  obtain ⟨⟨w1, K⟩, h1, h2⟩ := Zz0.mp h
  simp only [follow, (ZmA h1 X).2, Option.bind_some]
  exact Zgi X h2
theorem Zjk {x : Nat} {N : List Nat} {o e : Ex} {po : PPa} {p : PE} (hx : x ∈ O) (y : Pa O x o po) (z : E O N true e p) (hN : ∀ j ∈ N, j ∈ O ∧ j ≠ x) (hO : ∀ j ∈ O', j ∈ O ∧ j ∉ N) : S O O' R fr (ZcA (ZeJ o e)) (Zc1 x N po p) := fun c ρ σ H Φ r s q => by
 obtain ⟨ks, h1, q⟩ := Zz0.mp q
 obtain ⟨w, h2, q⟩ := Zz0.mp q
 obtain ⟨t, h3, q⟩ := Zz0.mp q
 obtain ⟨t', h4, q⟩ := Zz1.mp q
 subst q
 obtain ⟨v, ev, rv⟩ := s.slot x t h3
 have hlow : ∀ k t, σ k = some t → ∀ a ∈ Φ k, a < H.length := fun k t e a m => by
  obtain ⟨_, _, r⟩ := s.slot k t e
  exact r.lt a m
 obtain ⟨o1, o2, o3⟩ := s.own x hx t h3
 obtain ⟨a, vs0, ts0, ts0', G0, l0, _⟩ := ZfH (Gn := []) ks rv o1 (by simp) h4
 obtain ⟨X, a1⟩ := y c ρ σ H Φ ks v (.ref a) s h1 ev l0.follow
 obtain ⟨vw, Y, Fw, b1, b2, b3, b4⟩ := z c ρ σ (H ++ X) Φ w (s.ext X) h2
 have s2 := (s.ext X).ext Y
 have rv2 : RF (H ++ X ++ Y) v t (Φ x) := (rv.ext X).ext Y
 have hFw : ∀ a ∈ Fw, H.length ≤ a ∨ ∃ j ∈ N, (∃ t, σ j = some t) ∧ a ∈ Φ j := fun a m => (b3 a m).back
 have dsj : ∀ a ∈ Fw, a ∉ Φ x := fun a m q => by
  rcases hFw a m with h | ⟨j, hj, ⟨tj, ej⟩, mj⟩
  ·have := hlow x t h3 a q; omega
  ·exact o3 j tj (hN j hj).2 ej a q mj
 obtain ⟨a', vs, ts, ts', G, l, am, ea, hs, hf, gn, na, gs, go⟩ := ZfH (Gn := Fw) ks rv2 o1 dsj h4
 have haa : a' = a := by
  have f2 := Zgi Y (Zgi X l0.follow)
  rw [l.follow] at f2
  cases f2
  rfl
 subst haa
 unfold ZfV at hf
 split at hf
 ·rename_i hl
  cases hf
  obtain ⟨F', r', n', sub'⟩ := go (vs ++ [vw]) (G ++ Fw) (hs.snoc b2) (by
   rw [List.nodup_append]
   exact ⟨gn, b4 rfl, fun y hy z hz e => dsj z hz (e ▸ gs y hy)⟩) (fun m => (Zz8.mp m).elim na fun m => dsj _ m am) (fun y m => List.mem_append.mp m)
  obtain ⟨st, com⟩ := Zrn (O' := O') (b := H.length) s2 hx h3 ev s.len hlow hFw hN am r' n' sub' hO
  refine ⟨ρ, (H ++ X ++ Y).set a' (vs ++ [vw]), Zao Φ x F', by simp, fun y hy hn => ?_, .inl ⟨rfl, ?_, st, com⟩⟩
  ·have : a' ≠ y := fun q => hn ⟨x, hx, ⟨t, h3⟩, q ▸ am⟩
   rw [List.getElem?_set_ne this, List.append_assoc, List.getElem?_append_left hy]
  ·simp only [ZcA, ZeJ, a1, Option.bind_some, b1, ZgK, ea]
   rw [if_pos ⟨ZnF s hx h3 am, by rw [hs.length]; exact hl⟩]
   rfl
 ·cases hf
theorem S.put {x : Nat} {N M : List Nat} {u : Bool} {o e i : Ex} {po : PPa} {p pi : PE} (hx : x ∈ O) (z : E O N true e p) (y : Pa O x o po) (zi : E O M u i pi) (hN : ∀ j ∈ N, j ∈ O ∧ j ≠ x) (hO : ∀ j ∈ O', j ∈ O ∧ j ∉ N) : S O O' R fr (ZbJ e o i) (Za3 x N p po pi) := fun c ρ σ H Φ r s q => by
 obtain ⟨w, h2, q⟩ := Zz0.mp q
 obtain ⟨ks, h1, q⟩ := Zz0.mp q
 obtain ⟨tk, h5, q⟩ := Zz0.mp q
 cases tk <;> first | (cases q; done) | skip
 rename_i k
 obtain ⟨t, h3, q⟩ := Zz0.mp q
 obtain ⟨t', h4, q⟩ := Zz1.mp q
 subst q
 obtain ⟨v, ev, rv⟩ := s.slot x t h3
 have hlow : ∀ k t, σ k = some t → ∀ a ∈ Φ k, a < H.length := fun k t e a m => by
  obtain ⟨_, _, r⟩ := s.slot k t e
  exact r.lt a m
 obtain ⟨o1, o2, o3⟩ := s.own x hx t h3
 obtain ⟨vw, X, Fw, b1, b2, b3, b4⟩ := z c ρ σ H Φ w s h2
 obtain ⟨a, vs0, ts0, ts0', G0, l0, _⟩ := ZfH (Gn := []) ks (rv.ext X) o1 (by simp) h4
 obtain ⟨Y, a1⟩ := y c ρ σ (H ++ X) Φ ks v (.ref a) (s.ext X) h1 ev l0.follow
 obtain ⟨vk, Z, Fk, d1, d2, d3, d4⟩ := zi c ρ σ (H ++ X ++ Y) Φ _ ((s.ext X).ext Y) h5
 cases d2
 have s2 := ((s.ext X).ext Y).ext Z
 have rv2 : RF (H ++ X ++ Y ++ Z) v t (Φ x) := ((rv.ext X).ext Y).ext Z
 have hFw : ∀ a ∈ Fw, H.length ≤ a ∨ ∃ j ∈ N, (∃ t, σ j = some t) ∧ a ∈ Φ j := b3
 have dsj : ∀ a ∈ Fw, a ∉ Φ x := fun a m q => by
  rcases hFw a m with h | ⟨j, hj, ⟨tj, ej⟩, mj⟩
  ·have := hlow x t h3 a q; omega
  ·exact o3 j tj (hN j hj).2 ej a q mj
 obtain ⟨a', vs, ts, ts', G, l, am, ea, hs, hf, gn, na, gs, go⟩ := ZfH (Gn := Fw) ks rv2 o1 dsj h4
 have haa : a' = a := by
  have f2 := Zgi Z (Zgi Y l0.follow)
  rw [l.follow] at f2
  cases f2
  rfl
 subst haa
 unfold ZfW at hf
 split at hf
 ·rename_i hl
  cases hf
  have hk : k.toNat < ts.length := by omega
  obtain ⟨v0, Gk, F1, F2, e0, r0, eG, rb⟩ := hs.split (List.getElem?_eq_getElem hk)
  have b2' : RF (H ++ X ++ Y ++ Z) vw w Fw := (b2.ext Y).ext Z
  have rs := rb (H ++ X ++ Y ++ Z) vw w Fw b2' (fun _ _ => rfl) (fun _ _ => rfl)
  have sub0 : ∀ a ∈ Fw, a ∈ Gk ∨ a ∈ Fw := fun a m => .inr m
  subst eG
  obtain ⟨F', r', n', sub'⟩ := go _ _ rs (nd3 gn (b4 rfl) sub0 fun a m q => dsj a m (gs a q)) (fun m => by
   rcases in3 (G := Gk) sub0 _ m with m | m
   ·exact na m
   ·exact dsj _ m am) (in3 sub0)
  obtain ⟨st, com⟩ := Zrn (O' := O') (b := H.length) s2 hx h3 ev s.len hlow hFw hN am r' n' sub' hO
  refine ⟨ρ, (H ++ X ++ Y ++ Z).set a' (vs.set k.toNat vw), Zao Φ x F', by simp, fun y hy hn => ?_, .inl ⟨rfl, ?_, st, com⟩⟩
  ·have : a' ≠ y := fun q => hn ⟨x, hx, ⟨t, h3⟩, q ▸ am⟩
   rw [List.getElem?_set_ne this, List.append_assoc, List.append_assoc, List.getElem?_append_left hy]
  ·simp only [ZbJ, b1, Option.bind_some, a1, d1, ZoB, ea]
   rw [if_pos ⟨ZnF s hx h3 am, by rw [hs.length]; exact hl⟩]
   rfl
 ·cases hf
noncomputable def Ze1 (put : T → TL → Option TL) (b : PS) : TL → List T → Option (Option T × TL)
 | σ, [] => some (none, σ)
 | σ, t :: ts => (put t σ).bind fun σ1 => (b σ1).bind fun r => match r.1 with
  | some _ => some r
  | none => Ze1 put b r.2 ts
noncomputable def ZaC (g : PG) (put : T → TL → Option TL) (b : PS) : PS := fun σ => (g σ).bind fun ts => Ze1 put b σ ts
theorem Znl {J : List Nat} {put : V → Lc → Option Lc} {pput : T → TL → Option TL} {b : Sm} {qb : PS} (hj : PutOk O J put pput) (hJ : ∀ i ∈ J, i ∉ O) (hb : S O O R fr b qb) {c : Ctx} {nx : Nx} {vs : List V} {G : List Nat} {H1 : Hp} (hG : ∀ a ∈ G, a < H1.length) (hsrc : ∀ a ∈ G, c.H0.length ≤ a ∨ c.P a) (hnx : ∀ K : Hp, (∀ a ∈ G, K[a]? = H1[a]?) → ∀ i, i ≤ vs.length → nx i K = some vs[i]?) :
  ∀ (rs : List T) (ws : List V) (i : Nat) (ρ : Lc) (σ : TL) (K : Hp) (Φ : Nat → List Nat) (Fr : List Nat) (r : Option T × TL), (∀ j, vs[i + j]? = ws[j]?) → i + ws.length = vs.length → St c O ρ σ K Φ → H1.length ≤ K.length → (∀ a ∈ G, K[a]? = H1[a]?) → (∀ a ∈ G, ¬ Held O σ Φ a) → RFs K ws rs Fr → (∀ a ∈ Fr, a ∈ G) → Ze1 pput qb σ rs = some r →
   Aft c O O R fr σ K Φ (Zdt nx put b (rs.length + 1) i ρ K) r
 | [], ws, i, ρ, σ, K, Φ, Fr, r, hat, hlen, s, hl, hk, hoff, rr, hfr, h => by
  cases rr
  cases h
  have e := hnx K hk i (by simp at hlen; omega)
  have e2 : vs[i]? = none := by have := hat 0; simpa using this
  exact ⟨ρ, K, Φ, Nat.le_refl _, fun _ _ _ => rfl, .inl ⟨rfl, by simp [Zdt, e, e2], s, fun a m => .inr m⟩⟩
 | t :: rs, ws0, i, ρ, σ, K, Φ, Fr0, r, hat, hlen, s, hl, hk, hoff, rr, hfr, h => by
  cases rr with
  | @cons v _ F1 ws _ F2 a b' =>
  simp only [List.length_cons] at hlen
  obtain ⟨σ1, h1, h⟩ := Zz0.mp h
  obtain ⟨r1, h2, h⟩ := Zz0.mp h
  have e := hnx K hk i (by omega)
  have e2 : vs[i]? = some v := by have := hat 0; simpa using this
  have hat' : ∀ j, vs[i + 1 + j]? = ws[j]? := fun j => by have := hat (j + 1); rw [show i + 1 + j = i + (j + 1) by omega, this]; simp
  obtain ⟨ρ1, Φ1, p1, s1, p3, p4⟩ := hj c ρ σ K Φ v t F1 σ1 s a (fun x m => hsrc x (hfr x (Zz4 _ m))) (fun k hk t' e x m q => hoff x (hfr x (Zz4 _ q)) ⟨k, hk, ⟨t', e⟩, m⟩) h1
  have hh : ∀ x, Held O σ1 Φ1 x → Held O σ Φ x := fun x ⟨k, hk, ⟨t', e⟩, m⟩ => by
   obtain ⟨q1, q2⟩ := p3 k fun q => hJ k q hk
   exact ⟨k, hk, ⟨t', q1 ▸ e⟩, q2 ▸ m⟩
  obtain ⟨ρ2, K2, Φ2, g1, g2, g3⟩ := hb c ρ1 σ1 K Φ1 r1 s1 h2
  have estep : Zdt nx put b ((t :: rs).length + 1) i ρ K = (b ρ1 K).bind fun q => match q.1 with
    | some _ => some q
    | none => Zdt nx put b (rs.length + 1) (i + 1) q.2.1 q.2.2 := by
   rw [List.length_cons]
   show (nx i K).bind _ = _
   rw [e, e2]
   first | (simp only [Option.bind_some, p1]; done) | (simp only [Option.bind_some, p1]; rfl)
  rcases g3 with ⟨k1, k2, k3, k4⟩ | ⟨t', v', F', k1, k2, k3⟩
  ·rw [k1] at h
   have hG2 : ∀ a ∈ G, K2[a]? = K[a]? := fun x m => g2 x (by have := hG x m; omega) fun q => hoff x m (hh x q)
   have hoff2 : ∀ a ∈ G, ¬ Held O r1.2 Φ2 a := fun x m q => by
    rcases k4 x q with q | q
    ·have := hG x m; omega
    ·exact hoff x m (hh x q)
   have ih := Znl hj hJ hb hG hsrc hnx rs ws (i + 1) ρ2 r1.2 K2 Φ2 F2 r hat' (by omega) k3 (by omega) (fun x m => (hG2 x m).trans (hk x m)) hoff2 (b'.frame fun x m => hG2 x (hfr x (Zz3 _ m))) (fun x m => hfr x (Zz3 _ m)) h
   rw [estep, k2]
   simp only [Option.bind_some]
   obtain ⟨ρ3, K3, Φ3, l1, l2, l3⟩ := ih
   refine ⟨ρ3, K3, Φ3, by omega, fun x hx hn => ?_, ?_⟩
   ·rw [l2 x (by omega) fun q => (k4 x q).elim (fun q => by omega) fun q => hn (hh x q), g2 x hx fun q => hn (hh x q)]
   ·rcases l3 with ⟨m1, m2, m3, m4⟩ | l
    ·refine .inl ⟨m1, m2, m3, fun x q => ?_⟩
     rcases m4 x q with q | q
     ·exact .inl (by omega)
     ·exact (k4 x q).imp id (hh x)
    ·exact .inr l
  ·rw [k1] at h
   cases h
   refine ⟨ρ2, K2, Φ2, g1, fun x hx hn => g2 x hx fun q => hn (hh x q), .inr ⟨t', v', F', k1, ?_, k3⟩⟩
   rw [estep, k2]
   rfl
theorem Zbb {J Ns : List Nat} {g : Src} {q : PG} {put : V → Lc → Option Lc} {pput : T → TL → Option TL} {b : Sm} {qb : PS} (hg : Gs O Ns g q) (hj : PutOk O J put pput) (hJ : ∀ i ∈ J, i ∉ O) (hN : ∀ i ∈ Ns, i ∉ O) (hb : S O O R fr b qb) : S O O R fr (ZaN g put b) (ZaC q pput qb) := fun c ρ σ H Φ r s h => by
 obtain ⟨ts, h1, h⟩ := Zz0.mp h
 obtain ⟨nx, X, vs, F, G, g1, g2, g3, g4, g5⟩ := hg c ρ σ H Φ ts s h1
 have := Znl hj hJ hb (H1 := H ++ X) (fun a m => (g4 a m).1) (fun a m => s.from_src (g4 a m).2) g5 ts vs 0 ρ σ (H ++ X) Φ F r (by simp) (by simp) (s.ext X) (Zz10 _) (fun _ _ => rfl) (fun a m ⟨k, hk, ⟨t, e⟩, q⟩ => s.from_off hN (g4 a m).2 hk e q) g2 g3 h
 have eg : ZaN g put b ρ H = Zdt nx put b (ts.length + 1) 0 ρ (H ++ X) := by simp only [ZaN, g1, Option.bind_some]
 rw [eg]
 exact this.grow
noncomputable def Zdq (t : PB) (b : PS) : Nat → PS
 | 0 => fun _ => none
 | n + 1 => fun σ => (t σ).bind fun p => if p then (b σ).bind fun q => (match q.1 with
   | some _ => some q
   | none => Zdq t b n q.2) else some (none, σ)
theorem ZfE {t : Ts} {pt : PB} {b : Sm} {qb : PS} (z : Bt O t pt) (y : S O O R fr b qb) : ∀ n, S O O R fr (Zc5 t b n) (Zdq pt qb n)
 | 0 => fun c ρ σ H Φ r s h => by cases h
 | n + 1 => fun c ρ σ H Φ r s h => by
  obtain ⟨p, h1, h⟩ := Zz0.mp h
  obtain ⟨X, a1⟩ := z c ρ σ H Φ p s h1
  cases p with
  | false =>
   cases h
   exact ⟨ρ, H ++ X, Φ, by simp, fun a ha _ => List.getElem?_append_left ha, .inl ⟨rfl, by simp [Zc5, a1], s.ext X, fun a m => .inr m⟩⟩
  | true =>
   simp only [if_true] at h
   obtain ⟨r1, h2, h⟩ := Zz0.mp h
   have b1 := (y c ρ σ (H ++ X) Φ r1 (s.ext X) h2).grow
   have eg : Zc5 t b (n + 1) ρ H = (b ρ (H ++ X)).bind fun q => (match q.1 with
    | some _ => some q
    | none => Zc5 t b n q.2.1 q.2.2) := by
    show (t ρ H).bind _ = _
    rw [a1]
    rfl
   rw [eg]
   obtain ⟨ρ1, H1, Φ1, g1, g2, g3⟩ := b1
   rcases g3 with ⟨k1, k2, k3, k4⟩ | ⟨t', v', F', k1, k2, k3⟩
   ·rw [k1] at h
    obtain ⟨ρ3, K3, Φ3, l1, l2, l3⟩ := ZfE z y n c ρ1 r1.2 H1 Φ1 r k3 h
    rw [k2]
    simp only [Option.bind_some]
    refine ⟨ρ3, K3, Φ3, by omega, fun x hx hn => ?_, ?_⟩
    ·rw [l2 x (by omega) fun q => (k4 x q).elim (fun q => by omega) hn, g2 x hx hn]
    ·rcases l3 with ⟨m1, m2, m3, m4⟩ | l
     ·refine .inl ⟨m1, m2, m3, fun x q => ?_⟩
      rcases m4 x q with q | q
      ·exact .inl (by omega)
      ·exact k4 x q
     ·exact .inr l
   ·rw [k1] at h
    cases h
    exact ⟨ρ1, H1, Φ1, g1, g2, .inr ⟨t', v', F', k1, by rw [k2]; rfl, k3⟩⟩
end
noncomputable def Zac (n : Nat) (q : PS) : List T → Option T := fun ts => if ts.length = n then (q fun i => ts[i]?).map fun r => r.1.getD .none else none
theorem RFs.slots {H : Hp} : ∀ {vs : List V} {ts : List T} {F : List Nat}, RFs H vs ts F → ∃ Φ : Nat → List Nat, ∀ i t, ts[i]? = some t → ∃ v, vs[i]? = some v ∧ RF H v t (Φ i) ∧ ∀ a ∈ Φ i, a ∈ F
 | _, _, _, .nil => ⟨fun _ => [], fun i t e => by simp at e⟩
 | _, _, _, .cons (F := F1) a b => by
  obtain ⟨Φ, h⟩ := b.slots
  refine ⟨fun i => match i with | 0 => F1 | i + 1 => Φ i, fun i t e => ?_⟩
  cases i with
  | zero => simp at e; subst e; exact ⟨_, by simp, a, fun x m => List.mem_append_left _ m⟩
  | succ i =>
   simp at e
   obtain ⟨v, h1, h2, h3⟩ := h i t e
   exact ⟨v, by simpa using h1, h2, fun x m => List.mem_append_right _ (h3 x m)⟩
theorem Zpt {H H' : Hp} (hl : H.length ≤ H'.length) (h : ∀ a, a < H.length → H'[a]? = H[a]?) : H' = H ++ H'.drop H.length := by
 conv => lhs; rw [← List.take_append_drop H.length H']
 congr 1
 refine List.ext_getElem? fun i => ?_
 by_cases q : i < H.length
 ·rw [List.getElem?_take_of_lt q, h i q]
 ·rw [List.getElem?_eq_none (by simp; omega), List.getElem?_eq_none (by omega)]
theorem Zag {O' : List Nat} {fr : Bool} {n : Nat} {g : Sm} {q : PS} (h : S [] O' [] fr g q) : SimF fr (Zaa n g) (Zac n q) := fun H vs ts t F1 hp r e => by
 unfold Zac at e
 split at e
 ·rename_i hl
  obtain ⟨r1, e1, e2⟩ := Zz1.mp e
  obtain ⟨Φ, hΦ⟩ := r.slots
  have st : St ⟨H, [], fun a => a ∈ F1⟩ [] (fun i => vs[i]?) (fun i => ts[i]?) H Φ :=
   ⟨(fun i t e => by obtain ⟨v, h1, h2, _⟩ := hΦ i t e; exact ⟨v, h1, h2⟩), fun i t e a m => (by obtain ⟨v, h1, h2, h3⟩ := hΦ i t e; exact .inr (h3 a m)), (fun i hi => nomatch hi), Nat.le_refl _, fun a _ _ => rfl, hp, by simp⟩
  obtain ⟨ρ', H', Φ', h1, h2, h3⟩ := h _ _ _ _ _ _ st e1
  rcases h3 with ⟨k1, k2, k3, k4⟩ | ⟨t', v', F', k1, k2, k3, k4, k5, k6⟩
  ·have eh := Zpt k3.len fun a ha => k3.keep a ha (by simp)
   refine ⟨.none, H'.drop H.length, [], ?_, ?_, by simp, by simp⟩
   ·have hv : vs.length = n := r.length.trans hl
    simp only [Zaa, hv, if_true, k2, Option.map_some, Option.getD_none]
    rw [← eh]
   ·rw [k1] at e2
    subst e2
    exact .none
  ·have eh := Zpt k4.len fun a ha => k4.keep a ha (by simp)
   refine ⟨v', H'.drop H.length, F', ?_, ?_, k5, fun hf => ⟨(k6 hf).1, fun a m => ((k6 hf).2 a m).elim id fun q => by cases q⟩⟩
   ·have hv : vs.length = n := r.length.trans hl
    simp only [Zaa, hv, if_true, k2, Option.map_some, Option.getD_some]
    rw [← eh]
   ·rw [k1] at e2
    subst e2
    rw [← eh]
    exact k3
 ·cases e
theorem Zud {f : List V → Hp → Option (V × Hp)} {p : List T → Option T} {fr : Bool} (h : SimF fr f p) (ns : List Int) (e : p [.lst (ns.map T.int)] = some (.bool true)) : ∃ H', f [.ref 0] [ns.map V.int] = some (.bool true, H') := by
 have intsAre : ∀ l : List Int, RFs [ns.map V.int] (l.map V.int) (l.map T.int) [] := fun l => by
  induction l with
  | nil => exact .nil
  | cons a l ih => exact .cons (.int a) ih
 obtain ⟨v, X, F, h1, h2, _⟩ := h [ns.map V.int] [.ref 0] [.lst (ns.map T.int)] _ _ (by simp) (.one (.ref rfl (intsAre ns))) e
 cases h2
 exact ⟨_, h1⟩
end TM
end
section
set_option autoImplicit false
namespace TM
open PySem PM
section
variable {O Ns Ne J : List Nat}
theorem Zcb {u : Bool} {g : Src} {q : PG} {put : V → Lc → Option Lc} {pput : T → TL → Option TL} {tc : Ts} {pc : PB} {f : Ex} {pf : PE} (hg : Gs O Ns g q) (hj : PutOk O J put pput) (hN : ∀ i ∈ Ns, i ∉ O) (hc : Bt O tc pc) (hf : E O Ne u f pf) : E O (Ns ++ Ne) false (ZaJ g put tc f) (Zaq q pput pc pf) :=
 Zrm hg hj hN hc hf.sh (by simp)
theorem Zdo {g : Src} {q : PG} {put : V → Lc → Option Lc} {pput : T → TL → Option TL} {tc : Ts} {pc : PB} {f : Ex} {pf : PE} (hg : Gs O Ns g q) (hj : PutOk O J put pput) (hN : ∀ i ∈ Ns, i ∉ O) (hc : Bt O tc pc) (hf : E O [] true f pf) : E O [] true (ZaJ g put tc f) (Zaq q pput pc pf) :=
 Zrm hg hj hN hc hf (by simp)
end
end TM
end
section
set_option autoImplicit false
/-! Forward reckoning over trees. -/
namespace TM
open PySem PM
noncomputable def dec (P : Prop) : Bool := @decide P (Classical.propDecidable P)
theorem dec_iff {P : Prop} : dec P = true ↔ P := by unfold dec; exact @decide_eq_true_iff P (Classical.propDecidable P)
theorem Za0 {P : Prop} (h : P) : dec P = true := dec_iff.mpr h
theorem Zbx {P : Prop} (h : ¬ P) : dec P = false := by
 cases e : dec P with
 | true => exact absurd (dec_iff.mp e) h
 | false => rfl
theorem ZmB {P Q : Prop} (h : P ↔ Q) : dec P = dec Q := by
 by_cases p : P
 ·rw [Za0 p, Za0 (h.mp p)]
 ·rw [Zbx p, Zbx fun q => p (h.mpr q)]
theorem Zob {P : Prop} {b : Bool} (h : b = true ↔ P) : dec P = b := by
 cases b with
 | true => exact Za0 (h.mp rfl)
 | false => exact Zbx fun p => by simpa using h.mpr p
theorem Zh2 {P : Prop} [i : Decidable P] : decide P = dec P := by
 unfold dec; congr
noncomputable def tab {α : Type} (n : Nat) (f : Nat → α) : List α := (List.range n).map f
theorem Zat {α : Type} {n : Nat} {f : Nat → α} : (tab n f).length = n := by simp [tab]
theorem ZbN {α : Type} {n : Nat} {f : Nat → α} {i : Nat} (h : i < n) : (tab n f)[i]? = some (f i) := by simp [tab, h]
theorem ZwZ {α : Type} {n : Nat} {f : Nat → α} {i : Nat} (h : n ≤ i) : (tab n f)[i]? = none := by simp [tab, h]
theorem ZdX {α : Type} {n : Nat} {f : Nat → α} : tab n f ++ [f n] = tab (n + 1) f := by simp [tab, List.range_succ]
theorem ZiH {α : Type} {n : Nat} {xs : List α} {f : Nat → α} (hl : xs.length = n) (h : ∀ i, i < n → xs[i]? = some (f i)) : xs = tab n f := by
 refine List.ext_getElem? fun i => ?_
 by_cases q : i < n
 ·rw [h i q, ZbN q]
 ·rw [List.getElem?_eq_none (by omega), ZwZ (by omega)]
theorem Zbj {α : Type} {n : Nat} {f g : Nat → α} (h : ∀ i, i < n → f i = g i) : tab n f = tab n g := by
 refine ZiH Zat fun i hi => ?_
 rw [ZbN hi, h i hi]
theorem ZiI {α : Type} {n k : Nat} {f : Nat → α} {v : α} : (tab n f).set k v = tab n fun i => if i = k then v else f i := by
 refine ZiH (by rw [List.length_set, Zat]) fun i hi => ?_
 by_cases q : i = k
 ·subst q
  rw [List.getElem?_set_self (by rw [Zat]; exact hi), if_pos rfl]
 ·rw [List.getElem?_set_ne (Ne.symm q), ZbN hi, if_neg q]
theorem tab_map {α β : Type} {n : Nat} {f : Nat → α} {g : α → β} : (tab n f).map g = tab n fun i => g (f i) := by simp [tab]
noncomputable def cn {α : Type} (a : α) (f : Nat → α) : Nat → α
 | 0 => a
 | i + 1 => f i
theorem ZuQ {α : Type} {n : Nat} {a : α} {f : Nat → α} : a :: tab n f = tab (n + 1) (cn a f) := by
 refine ZiH (by rw [List.length_cons, Zat]) fun i hi => ?_
 cases i with
 | zero => rfl
 | succ i => rw [List.getElem?_cons_succ, ZbN (by omega)]; rfl
theorem ZqJ {α β γ : Type} {n m : Nat} {f : Nat → α} {g : Nat → β} {h : α → β → γ} : List.zipWith h (tab n f) (tab m g) = tab (min n m) fun i => h (f i) (g i) := by
 refine ZiH (by rw [List.length_zipWith, Zat, Zat]) fun i hi => ?_
 rw [List.getElem?_zipWith, ZbN (show i < n by omega), ZbN (show i < m by omega)]
noncomputable def Pk (c : Option T) (Q : T → Prop) : Prop := ∃ t, c = some t ∧ Q t
noncomputable def Pl (c : Option (List T)) (Q : List T → Prop) : Prop := ∃ t, c = some t ∧ Q t
noncomputable def Pb (c : Option Bool) (Q : Bool → Prop) : Prop := ∃ t, c = some t ∧ Q t
noncomputable def Psk (c : Option (Option T × TL)) (R : T → Prop) (N : TL → Prop) : Prop := ∃ o σ, c = some (o, σ) ∧ (∀ t, o = some t → R t) ∧ (o = none → N σ)
theorem ZI {c : Option T} {Q : T → Prop} {t : T} (h : c = some t) (k : Q t) : Pk c Q := ⟨t, h, k⟩
theorem Pk.eq {c : Option T} {t : T} (h : Pk c fun v => v = t) : c = some t := by obtain ⟨v, e, rfl⟩ := h; exact e
theorem Pk.mono {c : Option T} {Q Q' : T → Prop} (h : Pk c Q) (k : ∀ t, Q t → Q' t) : Pk c Q' := by obtain ⟨v, e, q⟩ := h; exact ⟨v, e, k v q⟩
section
variable {σ : TL} {Q : T → Prop} {L : List T → Prop} {B : Bool → Prop} {R : T → Prop} {N : TL → Prop}
theorem Zw0 {k : Int} (h : Q (.int k)) : Pk (Zk k σ) Q := ⟨_, rfl, h⟩
theorem Zw1 (h : Q .none) : Pk (ZT σ) Q := ⟨_, rfl, h⟩
theorem ZvH {k : Bool} (h : Q (.bool k)) : Pk (ZbE k σ) Q := ⟨_, rfl, h⟩
theorem Zw2 {k : Str} (h : Q (.str k)) : Pk (ZfU k σ) Q := ⟨_, rfl, h⟩
theorem Zw3 {i : Nat} {t : T} (e : σ i = some t) (h : Q t) : Pk (Za i σ) Q := ⟨_, e, h⟩
theorem Zw4 {q : T → T → Option T} {f g : PE} (h : Pk (f σ) fun x => Pk (g σ) fun y => Pk (q x y) Q) : Pk (Ze q f g σ) Q := by
 obtain ⟨x, a, y, b, z, c, k⟩ := h
 exact ⟨z, by simp only [Ze, a, b, Option.bind_some, c], k⟩
theorem ZxM {q : T → Option T} {f : PE} (h : Pk (f σ) fun x => Pk (q x) Q) : Pk (pUn q f σ) Q := by
 obtain ⟨x, a, z, c, k⟩ := h
 exact ⟨z, by simp only [pUn, a, Option.bind_some, c], k⟩
theorem ZvI {q : List T → Option T} {f : PEs} (h : Pl (f σ) fun x => Pk (q x) Q) : Pk (Zs q f σ) Q := by
 obtain ⟨x, a, z, c, k⟩ := h
 exact ⟨z, by simp only [Zs, a, Option.bind_some, c], k⟩
theorem Zw5 (h : L []) : Pl (Zn σ) L := ⟨_, rfl, h⟩
theorem ZvJ {f : PE} {g : PEs} (h : Pk (f σ) fun x => Pl (g σ) fun xs => L (x :: xs)) : Pl (Zd f g σ) L := by
 obtain ⟨x, a, y, b, k⟩ := h
 exact ⟨_, by simp only [Zd, a, b, Option.bind_some], k⟩
theorem Zw6 {g : PEs} (h : Pl (g σ) fun xs => Q (.tup xs)) : Pk (ZaV g σ) Q := by
 obtain ⟨x, a, k⟩ := h; exact ⟨_, by simp only [ZaV, a, Option.map_some], k⟩
theorem ZvK {g : PEs} (h : Pl (g σ) fun xs => Q (.lst xs)) : Pk (Zb7 g σ) Q := by
 obtain ⟨x, a, k⟩ := h; exact ⟨_, by simp only [Zb7, a, Option.map_some], k⟩
theorem ZvL {f : PE} (h : Pk (f σ) fun t => t.flat = true ∧ Q t) : Pk (ZbW f σ) Q := by
 obtain ⟨x, a, b, k⟩ := h; exact ⟨_, by simp only [ZbW, a, Option.bind_some, b, if_true], k⟩
theorem ZxN {f : PE} (h : Pk (f σ) fun t => t.flatIn = true ∧ Q t) : Pk (pFl f σ) Q := by
 obtain ⟨x, a, b, k⟩ := h; exact ⟨_, by simp only [pFl, a, Option.bind_some, b, if_true], k⟩
theorem ZxO {b : PB} {f g : PE} (h : Pb (b σ) fun x => (x = true → Pk (f σ) Q) ∧ (x = false → Pk (g σ) Q)) : Pk (pIf b f g σ) Q := by
 obtain ⟨x, a, h1, h2⟩ := h
 cases x with
 | true => obtain ⟨t, c, q⟩ := h1 rfl; exact ⟨t, by simp [pIf, a, c], q⟩
 | false => obtain ⟨t, c, q⟩ := h2 rfl; exact ⟨t, by simp [pIf, a, c], q⟩
theorem Zw7 {f : PE} (h : Pk (f σ) fun x => Pb (Zb5 x) fun b => Q (.bool (!b))) : Pk (Zjt f σ) Q := by
 obtain ⟨x, a, b, e, q⟩ := h; exact ⟨_, by simp only [Zjt, a, Option.bind_some, e, Option.map_some], q⟩
theorem Zw8 {f g : PE} (h : Pk (f σ) fun x => Pb (Zb5 x) fun b => (b = true → Pk (g σ) Q) ∧ (b = false → Q x)) : Pk (ZdK f g σ) Q := by
 obtain ⟨x, a, b, e, h1, h2⟩ := h
 cases b with
 | true => obtain ⟨t, c, q⟩ := h1 rfl; exact ⟨t, by simp [ZdK, a, e, c], q⟩
 | false => exact ⟨x, by simp [ZdK, a, e], h2 rfl⟩
theorem ZxP {f g : PE} (h : Pk (f σ) fun x => Pb (Zb5 x) fun b => (b = true → Q x) ∧ (b = false → Pk (g σ) Q)) : Pk (pOr f g σ) Q := by
 obtain ⟨x, a, b, e, h1, h2⟩ := h
 cases b with
 | false => obtain ⟨t, c, q⟩ := h2 rfl; exact ⟨t, by simp [pOr, a, e, c], q⟩
 | true => exact ⟨x, by simp [pOr, a, e], h1 rfl⟩
theorem ZxQ {K : String} {f : PE} (h : Pk (f σ) fun x => Q (.bool (ZiE K x))) : Pk (pIs K f σ) Q := by
 obtain ⟨x, a, q⟩ := h; exact ⟨_, by simp only [pIs, a, Option.map_some], q⟩
theorem Zw9 {f : PE} (h : Pk (f σ) fun x => Pb (Zb5 x) B) : Pb (ZE f σ) B := by
 obtain ⟨x, a, b, e, q⟩ := h; exact ⟨_, by simp only [ZE, a, Option.bind_some, e], q⟩
theorem ZvM {f : PB} (h : Pb (f σ) fun b => B (!b)) : Pb (ZbZ f σ) B := by
 obtain ⟨x, a, q⟩ := h; exact ⟨_, by simp only [ZbZ, a, Option.map_some], q⟩
theorem ZvN (h : B true) : Pb (Zaf σ) B := ⟨_, rfl, h⟩
theorem ZuR (h : B false) : Pb (Zcf σ) B := ⟨_, rfl, h⟩
theorem ZvO {f g : PB} (h : Pb (f σ) fun b => (b = true → Pb (g σ) B) ∧ (b = false → B false)) : Pb (Zaj f g σ) B := by
 obtain ⟨x, a, h1, h2⟩ := h
 cases x with
 | true => obtain ⟨t, c, q⟩ := h1 rfl; exact ⟨t, by simp [Zaj, a, c], q⟩
 | false => exact ⟨_, by simp [Zaj, a], h2 rfl⟩
theorem Zxa {f g : PB} (h : Pb (f σ) fun b => (b = true → B true) ∧ (b = false → Pb (g σ) B)) : Pb (bOr f g σ) B := by
 obtain ⟨x, a, h1, h2⟩ := h
 cases x with
 | false => obtain ⟨t, c, q⟩ := h2 rfl; exact ⟨t, by simp [bOr, a, c], q⟩
 | true => exact ⟨_, by simp [bOr, a], h1 rfl⟩
theorem Ztx {b : Bool} (h : B b) : Pb (Zb5 (.bool b)) B := ⟨_, rfl, h⟩
theorem ZvP (h : N σ) : Psk (ZV σ) R N := ⟨_, _, rfl, by simp, fun _ => h⟩
theorem Zxb {f : PE} (h : Pk (f σ) R) : Psk (ZF f σ) R N := by
 obtain ⟨x, a, q⟩ := h; exact ⟨some x, σ, by simp only [ZF, a, Option.map_some], fun t e => by cases e; exact q, by simp⟩
theorem Zi2 {i : Nat} {f : PE} (h : Pk (f σ) fun t => N (Zab σ i t)) : Psk (ZJ i f σ) R N := by
 obtain ⟨x, a, q⟩ := h; exact ⟨none, Zab σ i x, by simp only [ZJ, a, Option.map_some], by simp, fun _ => q⟩
theorem ZeO {a b : PS} (h : Psk (a σ) R fun σ1 => Psk (b σ1) R N) : Psk (Zt a b σ) R N := by
 obtain ⟨o, σ1, e, h1, h2⟩ := h
 cases o with
 | some t => exact ⟨some t, σ1, by simp only [Zt, e, Option.bind_some], h1, by simp⟩
 | none =>
  obtain ⟨o2, σ2, e2, k1, k2⟩ := h2 rfl
  exact ⟨o2, σ2, by simp only [Zt, e, Option.bind_some, e2], k1, k2⟩
theorem Zoc {b : PB} {f g : PS} (h : Pb (b σ) fun x => (x = true → Psk (f σ) R N) ∧ (x = false → Psk (g σ) R N)) : Psk (ZQ b f g σ) R N := by
 obtain ⟨x, a, h1, h2⟩ := h
 cases x with
 | true => obtain ⟨o, s, c, q⟩ := h1 rfl; exact ⟨o, s, by simp [ZQ, a, c], q⟩
 | false => obtain ⟨o, s, c, q⟩ := h2 rfl; exact ⟨o, s, by simp [ZQ, a, c], q⟩
theorem Zi3 {n : Nat} {q : PS} {ts : List T} (hn : ts.length = n) (h : Psk (q fun i => ts[i]?) Q fun _ => Q .none) : Pk (Zac n q ts) Q := by
 obtain ⟨o, s, e, h1, h2⟩ := h
 cases o with
 | some t => exact ⟨t, by simp only [Zac, hn, if_true, e, Option.map_some, Option.getD_some], h1 t rfl⟩
 | none => exact ⟨.none, by simp only [Zac, hn, if_true, e, Option.map_some, Option.getD_none], h2 rfl⟩
theorem Zxc {b : Bool} {A C : Prop} (h : b = true) (k : A) : (b = true → A) ∧ (b = false → C) := ⟨fun _ => k, fun e => (by rw [h] at e; cases e)⟩
theorem Zxd {b : Bool} {A C : Prop} (h : b = false) (k : C) : (b = true → A) ∧ (b = false → C) := ⟨fun e => (by rw [h] at e; cases e), fun _ => k⟩
theorem Zro {a b : Int} (h : Q (.int (a + b))) : Pk (Zah (.int a) (.int b)) Q := ⟨_, rfl, h⟩
theorem Zxe {a b : Int} (h : Q (.int (a - b))) : Pk (Za6 (.int a) (.int b)) Q := ⟨_, rfl, h⟩
theorem Zxf {a : Int} (h : Q (.int (-a))) : Pk (Zbd (.int a)) Q := ⟨_, rfl, h⟩
theorem ZxR {a b : Int} (h : Q (.bool (decide (a < b)))) : Pk (qLt (.int a) (.int b)) Q := ⟨_, rfl, h⟩
theorem ZxS {a b : Int} (h : Q (.bool (decide (a ≤ b)))) : Pk (qLe (.int a) (.int b)) Q := ⟨_, rfl, h⟩
theorem ZxT {a b : Int} (h : Q (.bool (decide (b < a)))) : Pk (qGt (.int a) (.int b)) Q := ⟨_, rfl, h⟩
theorem Zxg {a b : Int} (hb : b ≠ 0) (h : Q (.int (a.fmod b))) : Pk (Zbc (.int a) (.int b)) Q := ⟨_, by simp only [Zbc]; rw [if_pos hb], h⟩
theorem Zc7 {a b : Int} (hb : b ≠ 0) (hd : Builtin.divisionGoesByPylong a b = false) (h : Q (.int (a.fdiv b))) : Pk (ZcC (.int a) (.int b)) Q := ⟨_, by simp only [ZcC]; rw [if_pos ⟨hb, hd⟩], h⟩
theorem ZbU {a b : Int} (hm : mulOk a b = true) (h : Q (.int (a * b))) : Pk (ZaG (.int a) (.int b)) Q := ⟨_, by simp only [ZaG]; rw [if_pos hm], h⟩
theorem Zxh {a : Int} (h : Q (.int (if a < 0 then -a else a))) : Pk (Zde [.int a]) Q := ⟨_, rfl, h⟩
theorem Zxi {a b : Int} (h : Q (.int (if b < a then b else a))) : Pk (Zjj [.int a, .int b]) Q := ⟨_, rfl, h⟩
theorem ZiJ (a b : Int) : Zet (.int a) (.int b) = some (decide (a = b)) := by
 simp [Zet, Zc0, SeqAt.shaped, PyData.canLay0, PyData.depth, PyData.eqv]
 by_cases h : a = b <;> simp [h]
theorem ZxU {a b : Int} (h : Q (.bool (decide (a = b)))) : Pk (qEq (.int a) (.int b)) Q := ⟨_, by simp only [qEq, ZiJ, Option.map_some], h⟩
theorem ZxV {a b : Int} (h : Q (.bool (decide (a ≠ b)))) : Pk (qNe (.int a) (.int b)) Q := ⟨.bool (decide (a ≠ b)), by simp only [qNe, ZiJ, Option.map_some]; simp, h⟩
theorem Zxj (h : Q (.bool true)) : Pk (qIs .none .none) Q := ⟨_, rfl, h⟩
theorem Zxk {a : Int} (h : Q (.bool false)) : Pk (qIs (.int a) .none) Q := ⟨_, rfl, h⟩
theorem Zxl {a : List T} (h : Q (.bool false)) : Pk (qIs (.lst a) .none) Q := ⟨_, rfl, h⟩
theorem Zxm {a : List T} (h : Q (.bool false)) : Pk (qIs (.tup a) .none) Q := ⟨_, rfl, h⟩
theorem ZvQ (h : Q (.bool false)) : Pk (ZaP .none .none) Q := ⟨_, rfl, h⟩
theorem ZvR {a : Int} (h : Q (.bool true)) : Pk (ZaP (.int a) .none) Q := ⟨_, rfl, h⟩
theorem ZvS {a : List T} (h : Q (.bool true)) : Pk (ZaP (.tup a) .none) Q := ⟨_, rfl, h⟩
theorem ZvT {n : Nat} {f : Nat → T} (h : Q (.int n)) : Pk (Zas [.lst (tab n f)]) Q := ⟨_, by simp only [Zas, Zat], h⟩
theorem Zxn {ts : List T} (h : Q (.int ts.length)) : Pk (Zas [.lst ts]) Q := ⟨_, rfl, h⟩
theorem ZvU {ts : List T} (h : Q (.int ts.length)) : Pk (Zas [.tup ts]) Q := ⟨_, rfl, h⟩
theorem Zep {k : Int} {n : Nat} (h0 : 0 ≤ k) (h1 : k < n) : seqIndex? k n = some k.toNat := by
 unfold seqIndex?
 have : ¬ k < 0 := by omega
 simp [this]
 omega
theorem ZvV {n i : Nat} {f : Nat → T} (hi : i < n) (h : Q (f i)) : Pk (Zr (.lst (tab n f)) (.int (i : Nat))) Q := ⟨_, by
 simp only [Zr, Zat, Zep (show (0 : Int) ≤ (i : Int) by omega) (show (i : Int) < (n : Int) by omega), Option.bind_some, Int.toNat_natCast]
 exact ZbN hi, h⟩
theorem ZvW {n : Nat} {k : Int} {f : Nat → T} (h0 : 0 ≤ k) (h1 : k < n) (h : Q (f k.toNat)) : Pk (Zr (.lst (tab n f)) (.int k)) Q := ⟨_, by
 simp only [Zr, Zat, Zep h0 h1, Option.bind_some]
 exact ZbN (by omega), h⟩
theorem ZiK {ts : List T} {k : Int} {t : T} (h0 : 0 ≤ k) (e : ts[k.toNat]? = some t) (h : Q t) : Pk (Zr (.lst ts) (.int k)) Q := ⟨_, by
 simp only [Zr]
 rw [Zep h0 (by have := (Zz6.mp e).1; omega)]
 exact e, h⟩
theorem ZvX {ts : List T} {k : Int} {t : T} (h0 : 0 ≤ k) (e : ts[k.toNat]? = some t) (h : Q t) : Pk (Zr (.tup ts) (.int k)) Q := ⟨_, by
 simp only [Zr]
 rw [Zep h0 (by have := (Zz6.mp e).1; omega)]
 exact e, h⟩
theorem ZqK {n : Nat} {a : T} {f : Nat → T} (hn : n < 10000) (h : Q (.lst (tab (n + 1) (cn a f)))) : Pk (Zah (.lst [a]) (.lst (tab n f))) Q := ⟨_, by
 simp only [Zah]
 rw [if_pos (by rw [Zbn, List.length_append, Zat]; simp; omega), List.singleton_append, ZuQ], h⟩
theorem ZuS {ts : List T} (h : Q (.lst ts)) : Pk (Zcg [.lst ts]) Q := ⟨_, rfl, h⟩
theorem ZvY {ts : List T} (h : Q (.tup ts)) : Pk (ZiG [.lst ts]) Q := ⟨_, rfl, h⟩
theorem Zue {n : Nat} {f : Nat → Bool} : ZfI (tab n fun i => .bool (f i)) = some (tab n f) := by
 have : ∀ l : List Bool, ZfI (l.map T.bool) = some l := fun l => by
  induction l with
  | nil => rfl
  | cons a l ih => simp only [List.map_cons, ZfI, ih, Option.map_some]
 rw [show (tab n fun i => T.bool (f i)) = (tab n f).map T.bool from tab_map.symm]
 exact this _
theorem ZuT {n : Nat} {f : Nat → Int} : Zdu (tab n fun i => .int (f i)) = some (tab n f) := by
 have : ∀ l : List Int, Zdu (l.map T.int) = some l := fun l => by
  induction l with
  | nil => rfl
  | cons a l ih => simp only [List.map_cons, Zdu, ih, Option.map_some]
 rw [show (tab n fun i => T.int (f i)) = (tab n f).map T.int from tab_map.symm]
 exact this _
theorem Zxo {n : Nat} {P : Nat → Prop} (h : Q (.bool (dec (∃ i, i < n ∧ P i)))) : Pk (Zhf [.lst (tab n fun i => .bool (dec (P i)))]) Q := ⟨_, by
 simp only [Zhf, Zue, Option.map_some]
 congr 2
 symm
 apply Zob
 rw [List.any_eq_true]
 constructor
 ·rintro ⟨x, hx, h⟩
  obtain ⟨i, hi, e⟩ := List.getElem_of_mem hx
  rw [Zat] at hi
  have := ZbN (f := fun i => dec (P i)) hi
  rw [List.getElem?_eq_getElem (by rw [Zat]; exact hi)] at this
  rw [← e, Option.some.inj this] at h
  exact ⟨i, hi, dec_iff.mp h⟩
 ·rintro ⟨i, hi, h⟩
  exact ⟨_, List.mem_of_getElem? (ZbN hi), Za0 h⟩, h⟩
noncomputable def SqP (x : T) (L : List T → Prop) : Prop := ∃ ts, (x = .lst ts ∨ x = .tup ts) ∧ L ts
theorem ZiL {f : PE} (h : Pk (f σ) fun t => SqP t L) : Pl (ZaE f σ) L := by
 obtain ⟨t, a, ts, rfl | rfl, q⟩ := h <;> exact ⟨_, by simp only [ZaE, a, Option.bind_some], q⟩
theorem Sq.lst {ts : List T} (h : L ts) : SqP (.lst ts) L := ⟨ts, .inl rfl, h⟩
theorem Zrp {a b c : Int} {H : Hp} {z : Nx × Nat × Hp} (h : ZcJ a b c H = some z) : ZcD a b c = some ((List.range (rngN a b c)).map fun (i : Nat) => .int (a + (i : Int) * c)) := by
 unfold ZcJ at h
 split at h
 ·rename_i hc
  unfold ZcD
  rw [if_pos hc]
 ·cases h
theorem ZuU {n : Nat} (hn : n ≤ 1000) : ZcD 0 n 1 = some (tab n fun i => .int i) := by
 rw [Zrp (ZwR (H := []) (b := n) (by omega) (by omega))]
 have e : rngN 0 n 1 = n := by
  unfold rngN Builtin.Range.rangeSize
  by_cases q : (0 : Int) < n
  ·rw [if_pos (by decide), if_pos (by omega)]; omega
  ·rw [if_pos (by decide), if_neg (by omega)]; omega
 rw [e]
 simp [tab]
theorem ZqL {a n : Nat} (ha : 0 < n) (hn : a + n ≤ 1000) : ZcD a (a + n) 1 = some (tab n fun i => .int (a + i)) := by
 rw [Zrp (ZwT (H := []) (a := a) (b := a + n) (c := 1) (by omega) (by omega) (by omega) (by omega) (by omega))]
 have e : rngN a (a + n) 1 = n := by
  unfold rngN
  rw [ZrL (by omega) (by omega)]
  omega
 rw [e]
 simp [tab]
theorem ZvZ {g : PEs} {b : Int} {o : Option (List T)} (e : g σ = some [.int b]) (h : ZcD 0 b 1 = o) : ZaF g σ = o := by
 subst h; unfold ZaF; rw [e]; rfl
theorem ZgM {g : PEs} {a b : Int} {o : Option (List T)} (e : g σ = some [.int a, .int b]) (h : ZcD a b 1 = o) : ZaF g σ = o := by
 subst h; unfold ZaF; rw [e]; rfl
noncomputable def RnP (xs : List T) (L : List T → Prop) : Prop := (∃ n : Nat, xs = [.int n] ∧ n ≤ 1000 ∧ L (tab n fun i => .int i)) ∨ ∃ (a : Nat) (n : Nat), xs = [.int a, .int (a + n)] ∧ 0 < n ∧ a + n ≤ 1000 ∧ L (tab n fun i => .int (a + i))
theorem ZuV {g : PEs} (h : Pl (g σ) fun xs => RnP xs L) : Pl (ZaF g σ) L := by
 obtain ⟨xs, e, h⟩ := h
 rcases h with ⟨n, h0, h1, q⟩ | ⟨a, n, h0, h1, h2, q⟩
 ·subst h0; exact ⟨_, ZvZ e (ZuU h1), q⟩
 ·subst h0; exact ⟨_, ZgM e (ZqL h1 h2), q⟩
theorem Rn.one {n : Nat} (hn : n ≤ 1000) (h : L (tab n fun i => .int i)) : RnP [.int n] L := .inl ⟨n, rfl, hn, h⟩
theorem Zjl {k : Int} (n : Nat) (e : k = n) (hn : n ≤ 1000) (h : L (tab n fun i => .int i)) : RnP [.int k] L := .inl ⟨n, by rw [e], hn, h⟩
theorem Rn.two {k l : Int} (a n : Nat) (e0 : l = a) (e : k = a + n) (ha : 0 < n) (hn : a + n ≤ 1000) (h : L (tab n fun i => .int (a + i))) : RnP [.int l, .int k] L := .inr ⟨a, n, by rw [e, e0], ha, hn, h⟩
noncomputable def ZiP (x y : T) (L : List T → Prop) : Prop := ∃ xs ys, x = .lst xs ∧ y = .lst ys ∧ L (List.zipWith (fun a b => .tup [a, b]) xs ys)
theorem Zod {f g : PE} (h : Pk (f σ) fun x => Pk (g σ) fun y => ZiP x y L) : Pl (Zea f g σ) L := by
 obtain ⟨x, a, y, b, xs, ys, rfl, rfl, q⟩ := h; exact ⟨_, by simp only [Zea, a, b, Option.bind_some], q⟩
theorem Zi.eq {n : Nat} {f g : Nat → T} (h : L (tab n fun i => .tup [f i, g i])) : ZiP (.lst (tab n f)) (.lst (tab n g)) L := ⟨_, _, rfl, rfl, by rw [ZqJ, Nat.min_self]; exact h⟩
theorem ZpN {j : Nat} {f : PE} {h : T → T} : ∀ {ts : List T}, (∀ t ∈ ts, f (Zab σ j t) = some (h t)) → Zcy (Zad j) Zaf f σ ts = some (ts.map h)
 | [], _ => rfl
 | t :: ts, k => by
  simp only [Zcy, Zad, Zaf, Option.bind_some, if_true, k t Zz5, ZpN fun t m => k t (Zz2 _ m), Option.map_some, List.map_cons]
theorem ZnG {put : T → TL → Option TL} {f : PE} : ∀ {ts us : List T}, us.length = ts.length → (∀ (i : Nat) t u, ts[i]? = some t → us[i]? = some u → ∃ σ1, put t σ = some σ1 ∧ f σ1 = some u) → Zcy put Zaf f σ ts = some us
 | [], us, hl, _ => by cases us with
  | nil => rfl
  | cons _ _ => simp at hl
 | t :: ts, us, hl, k => by
  cases us with
  | nil => simp at hl
  | cons u us =>
   obtain ⟨σ1, h1, h2⟩ := k 0 t u (by simp) (by simp)
   have := ZnG (ts := ts) (us := us) (f := f) (put := put) (by simpa using hl) fun i t' u' h3 h4 => k (i + 1) t' u' (by simpa using h3) (by simpa using h4)
   simp only [Zcy, h1, Zaf, Option.bind_some, if_true, h2, this, Option.map_some]
theorem Zck {g : PG} {j n : Nat} {a b : Nat → T} {f : PE} (hn : n < 10000) (hg : Pl (g σ) fun ts => ts = tab n a) (hf : ∀ i, i < n → Pk (f (Zab σ j (a i))) fun t => t = b i) (h : Q (.lst (tab n b))) : Pk (Zaq g (Zad j) Zaf f σ) Q := by
 obtain ⟨ts, e, rfl⟩ := hg
 refine ⟨_, ?_, h⟩
 simp only [Zaq, e, Option.bind_some, Zat]
 rw [if_pos (by rw [Zbn]; omega), ZnG (us := tab n b) (by rw [Zat, Zat]) fun i t u h1 h2 => ?_]
 ·rfl
 ·have hi : i < n := by have := (Zz6.mp h1).1; rwa [Zat] at this
  rw [ZbN hi] at h1 h2
  cases h1; cases h2
  exact ⟨_, rfl, (hf i hi).eq⟩
theorem Znm {g : PG} {j k n : Nat} {a b c : Nat → T} {f : PE} (hn : n < 10000) (hg : Pl (g σ) fun ts => ts = tab n fun i => .tup [a i, b i]) (hf : ∀ i, i < n → Pk (f (Zab (Zab σ j (a i)) k (b i))) fun t => t = c i) (h : Q (.lst (tab n c))) : Pk (Zaq g (ZcY j k) Zaf f σ) Q := by
 obtain ⟨ts, e, rfl⟩ := hg
 refine ⟨_, ?_, h⟩
 simp only [Zaq, e, Option.bind_some, Zat]
 rw [if_pos (by rw [Zbn]; omega), ZnG (us := tab n c) (by rw [Zat, Zat]) fun i t u h1 h2 => ?_]
 ·rfl
 ·have hi : i < n := by have := (Zz6.mp h1).1; rwa [Zat] at this
  rw [ZbN hi] at h1 h2
  cases h1; cases h2
  exact ⟨_, rfl, (hf i hi).eq⟩
theorem Zi4 {put : T → TL → Option TL} {b : PS} : ∀ {ts : List T} (P : Nat → TL → Prop) {σ : TL}, P 0 σ → (∀ (i : Nat) t σ, ts[i]? = some t → P i σ → ∃ σ1, put t σ = some σ1 ∧ Psk (b σ1) R (P (i + 1))) → (∀ σ, P ts.length σ → N σ) → Psk (Ze1 put b σ ts) R N
 | [], P, σ, h0, _, h2 => ⟨_, _, rfl, by simp, fun _ => h2 _ h0⟩
 | t :: ts, P, σ, h0, h1, h2 => by
  obtain ⟨σ1, e1, o, σ2, e2, k1, k2⟩ := h1 0 t σ (by simp) h0
  cases o with
  | some v => exact ⟨some v, σ2, by simp only [Ze1, e1, Option.bind_some, e2], k1, by simp⟩
  | none =>
   obtain ⟨o3, σ3, e3, l1, l2⟩ := Zi4 (ts := ts) (fun i => P (i + 1)) (k2 rfl) (fun i t' σ' h3 h4 => h1 (i + 1) t' σ' (by simpa using h3) h4) (fun σ' h => h2 σ' (by simpa using h))
   exact ⟨o3, σ3, by simp only [Ze1, e1, Option.bind_some, e2, e3], l1, l2⟩
theorem ZbV {g : PG} {j n : Nat} {a : Nat → T} {b : PS} (hg : Pl (g σ) fun ts => ts = tab n a) (P : Nat → TL → Prop) (h0 : P 0 σ) (h1 : ∀ i σ, i < n → P i σ → Psk (b (Zab σ j (a i))) R (P (i + 1))) (h2 : ∀ σ, P n σ → N σ) : Psk (ZaC g (Zad j) b σ) R N := by
 obtain ⟨ts, e, rfl⟩ := hg
 have := Zi4 (R := R) (N := N) (put := Zad j) (b := b) (ts := tab n a) P h0 (fun i t σ' h3 h4 => by
  have hi : i < n := by have := (Zz6.mp h3).1; rwa [Zat] at this
  rw [ZbN hi] at h3
  cases h3
  exact ⟨_, rfl, h1 i σ' hi h4⟩) (by rw [Zat]; exact h2)
 obtain ⟨o, s, e2, q⟩ := this
 exact ⟨o, s, by simp only [ZaC, e, Option.bind_some, e2], q⟩
theorem ZiM {g : PG} {j k n : Nat} {a c : Nat → T} {b : PS} (hg : Pl (g σ) fun ts => ts = tab n fun i => .tup [a i, c i]) (P : Nat → TL → Prop) (h0 : P 0 σ) (h1 : ∀ i σ, i < n → P i σ → Psk (b (Zab (Zab σ j (a i)) k (c i))) R (P (i + 1))) (h2 : ∀ σ, P n σ → N σ) : Psk (ZaC g (ZcY j k) b σ) R N := by
 obtain ⟨ts, e, rfl⟩ := hg
 have := Zi4 (R := R) (N := N) (put := ZcY j k) (b := b) (ts := tab n fun i => .tup [a i, c i]) P h0 (fun i t σ' h3 h4 => by
  have hi : i < n := by have := (Zz6.mp h3).1; rwa [Zat] at this
  rw [ZbN hi] at h3
  cases h3
  exact ⟨_, rfl, h1 i σ' hi h4⟩) (by rw [Zat]; exact h2)
 obtain ⟨o, s, e2, q⟩ := this
 exact ⟨o, s, by simp only [ZaC, e, Option.bind_some, e2], q⟩
theorem ZnH {g : PG} {j : Nat} {ts : List T} {b : PS} (hg : Pl (g σ) fun us => us = ts) (P : Nat → TL → Prop) (h0 : P 0 σ) (h1 : ∀ (i : Nat) t σ, ts[i]? = some t → P i σ → Psk (b (Zab σ j t)) R (P (i + 1))) (h2 : ∀ σ, P ts.length σ → N σ) : Psk (ZaC g (Zad j) b σ) R N := by
 obtain ⟨us, e, rfl⟩ := hg
 obtain ⟨o, s, e2, q⟩ := Zi4 (R := R) (N := N) (put := Zad j) (b := b) (ts := us) P h0 (fun i t σ' h3 h4 => ⟨_, rfl, h1 i t σ' h3 h4⟩) h2
 exact ⟨o, s, by simp only [ZaC, e, Option.bind_some, e2], q⟩
theorem Zfw {t : PB} {b : PS} (P : Nat → TL → Prop) (R : T → Prop) (N : TL → Prop) (h : ∀ m σ, P m σ → Pb (t σ) fun x => (x = true → Psk (b σ) R fun σ1 => ∃ m', m' < m ∧ P m' σ1) ∧ (x = false → N σ)) : ∀ (n : Nat) {m : Nat} {σ : TL}, P m σ → m < n → Psk (Zdq t b n σ) R N
 | 0, _, _, _, hm => by omega
 | n + 1, m, σ, hp, hm => by
  obtain ⟨x, e, h1, h2⟩ := h m σ hp
  cases x with
  | false => exact ⟨none, σ, by simp [Zdq, e], by simp, fun _ => h2 rfl⟩
  | true =>
   obtain ⟨o, σ1, e1, k1, k2⟩ := h1 rfl
   cases o with
   | some v => exact ⟨some v, σ1, by simp [Zdq, e, e1], k1, by simp⟩
   | none =>
    obtain ⟨m', hm', hp'⟩ := k2 rfl
    obtain ⟨o2, σ2, e2, l1, l2⟩ := Zfw P R N h n hp' (by omega)
    exact ⟨o2, σ2, by simp [Zdq, e, e1, e2], l1, l2⟩
theorem Zgu : ZcU σ [] = σ := by funext i; simp [ZcU]
noncomputable def AppP (σ : TL) (x : Nat) (w : T) (N : TL → Prop) : Prop := ∃ ts, σ x = some (.lst ts) ∧ ts.length < 10000 ∧ N (Zab σ x (.lst (ts ++ [w])))
theorem Zv0 {x : Nat} {w : T} {ts : List T} (e : σ x = some (.lst ts)) (hl : ts.length < 10000) (h : N (Zab σ x (.lst (ts ++ [w])))) : AppP σ x w N := ⟨ts, e, hl, h⟩
theorem Zxp {x : Nat} {f : PE} (h : Pk (f σ) fun w => AppP σ x w N) : Psk (Zc1 x [] ZaD f σ) R N := by
 obtain ⟨w, e, ts, h1, h2, q⟩ := h
 refine ⟨none, _, ?_, by simp, fun _ => q⟩
 simp only [Zc1, ZaD, Option.bind_some, e, h1, ZcZ, ZfV]
 rw [if_pos (by rw [Zbn]; omega)]
 simp only [Option.map_some, Zgu]
noncomputable def AppQ (σ : TL) (x y : Nat) (w : T) (N : TL → Prop) : Prop := ∃ ts, σ x = some (.lst ts) ∧ ts.length < 10000 ∧ N (ZcU (Zab σ x (.lst (ts ++ [w]))) [y])
theorem Zv1 {x y : Nat} {w : T} {ts : List T} (e : σ x = some (.lst ts)) (hl : ts.length < 10000) (h : N (ZcU (Zab σ x (.lst (ts ++ [w]))) [y])) : AppQ σ x y w N := ⟨ts, e, hl, h⟩
theorem Zv2 {x y : Nat} {f : PE} (h : Pk (f σ) fun w => AppQ σ x y w N) : Psk (Zc1 x [y] ZaD f σ) R N := by
 obtain ⟨w, e, ts, h1, h2, q⟩ := h
 refine ⟨none, _, ?_, by simp, fun _ => q⟩
 simp only [Zc1, ZaD, Option.bind_some, e, h1, ZcZ, ZfV]
 rw [if_pos (by rw [Zbn]; omega)]
 simp only [Option.map_some]
noncomputable def PutP (σ : TL) (x : Nat) (w k : T) (N : TL → Prop) : Prop := ∃ ts m, k = .int m ∧ σ x = some (.lst ts) ∧ 0 ≤ m ∧ m < ts.length ∧ N (Zab σ x (.lst (ts.set m.toNat w)))
theorem ZuW {x n i : Nat} {w : T} {f : Nat → T} (e : σ x = some (.lst (TM.tab n f))) (hi : i < n) (h : N (Zab σ x (.lst (TM.tab n fun k => if k = i then w else f k)))) : PutP σ x w (.int i) N := ⟨_, _, rfl, e, by omega, by rw [Zat]; omega, by rw [Int.toNat_natCast, ZiI]; exact h⟩
theorem ZmC {x n : Nat} {k : Int} {w : T} {f : Nat → T} (e : σ x = some (.lst (TM.tab n f))) (h0 : 0 ≤ k) (hi : k < n) (h : N (Zab σ x (.lst (TM.tab n fun i => if i = k.toNat then w else f i)))) : PutP σ x w (.int k) N := ⟨_, _, rfl, e, h0, by rw [Zat]; omega, by rw [ZiI]; exact h⟩
theorem Zxq {x : Nat} {f i : PE} (h : Pk (f σ) fun w => Pk (i σ) fun k => PutP σ x w k N) : Psk (Za3 x [] f ZaD i σ) R N := by
 obtain ⟨w, e, k, e2, ts, m, rfl, h1, h2, h3, q⟩ := h
 refine ⟨none, _, ?_, by simp, fun _ => q⟩
 simp only [Za3, ZaD, Option.bind_some, e, e2, h1, ZcZ, ZfW]
 rw [if_pos ⟨h2, h3⟩]
 simp only [Option.map_some, Zgu]
noncomputable def Put2 (σ : TL) (x : Nat) (w a k : T) (N : TL → Prop) : Prop := ∃ ts us l m, a = .int l ∧ k = .int m ∧ σ x = some (.lst ts) ∧ 0 ≤ l ∧ ts[l.toNat]? = some (.lst us) ∧ 0 ≤ m ∧ m < us.length ∧ N (Zab σ x (.lst (ts.set l.toNat (.lst (us.set m.toNat w)))))
theorem Zqc {x n m i j : Nat} {w : T} {f : Nat → Nat → T} (e : σ x = some (.lst (TM.tab n fun a => .lst (TM.tab m (f a))))) (hi : i < n) (hj : j < m) (h : N (Zab σ x (.lst (TM.tab n fun a => .lst (TM.tab m fun b => if a = i ∧ b = j then w else f a b))))) : Put2 σ x w (.int i) (.int j) N := by
 refine ⟨_, TM.tab m (f i), i, j, rfl, rfl, e, by omega, ?_, by omega, by rw [Zat]; omega, ?_⟩
 ·rw [Int.toNat_natCast, ZbN hi]
 ·rw [Int.toNat_natCast, Int.toNat_natCast, ZiI, ZiI]
  have : (TM.tab n fun a => if a = i then T.lst (TM.tab m fun b => if b = j then w else f i b) else T.lst (TM.tab m (f a))) = TM.tab n fun a => .lst (TM.tab m fun b => if a = i ∧ b = j then w else f a b) := Zbj fun a _ => by
   by_cases q : a = i
   ·subst q; simp
   ·simp [q]
  rw [this]; exact h
theorem Zv3 {x : Nat} {f i j : PE} (h : Pk (f σ) fun w => Pk (i σ) fun a => Pk (j σ) fun k => Put2 σ x w a k N) : Psk (Za3 x [] f (Zbv ZaD i) j σ) R N := by
 obtain ⟨w, e, a, e1, k, e2, ts, us, l, m, rfl, rfl, h1, h0, h4, h2, h3, q⟩ := h
 refine ⟨none, _, ?_, by simp, fun _ => q⟩
 have hl := (Zz6.mp h4).1
 simp only [Za3, ZaD, Zbv, Option.bind_some, e, e1, e2, h1, List.nil_append, ZcZ, ZfW, Zep h0 (show l < ts.length by omega), h4]
 rw [if_pos ⟨h2, h3⟩]
 simp only [Option.map_some, Zgu]
theorem Zv4 {i j : Nat} {t : T} {o : Option T} (h : j ≠ i) (e : σ j = o) : Zab σ i t j = o := by simp [Zab, h, e]
theorem ZuX {j : Nat} {J : List Nat} {o : Option T} (h : j ∉ J) (e : σ j = o) : ZcU σ J j = o := by simp [ZcU, h, e]
end
end TM
end
section
set_option autoImplicit false
namespace TM
open PySem PM
inductive Pln : Nat → T → Prop where
 | none {n : Nat} : Pln n .none
 | int {n : Nat} {i : Int} : Pln n (.int i)
 | str {n : Nat} {x : Str} : PyData.strOk x = true → Pln n (.str x)
 | tup {n : Nat} {ts : List T} : (∀ t ∈ ts, Pln n t) → Pln (n + 1) (.tup ts)
 | lst {n : Nat} {ts : List T} : (∀ t ∈ ts, Pln n t) → Pln (n + 1) (.lst ts)
mutual
noncomputable def dd : T → PyData
 | .none => .none
 | .bool b => .bool b
 | .int i => .int i
 | .str x => .str x
 | .tup ts => .tuple (dds ts)
 | .lst ts => .list (dds ts)
noncomputable def dds : List T → List PyData
 | [] => []
 | t :: ts => dd t :: dds ts
end
theorem Znn {f : T → Option PyData} : ∀ {ts : List T}, (∀ t ∈ ts, f t = some (dd t)) → ZeU f ts = some (dds ts)
 | [], _ => rfl
 | t :: ts, h => by simp only [ZeU, h t Zz5, Znn fun t m => h t (Zz2 _ m), Option.bind_some, dds]
theorem ZnI : ∀ {ts : List T}, (∀ t ∈ ts, PyData.canLay0 (dd t) = true) → PyData.canLayAll0 (dds ts) = true
 | [], _ => rfl
 | t :: ts, h => by simp only [dds, PyData.canLayAll0, h t Zz5, ZnI fun t m => h t (Zz2 _ m), Bool.and_self]
theorem ZnJ {n : Nat} : ∀ {ts : List T}, (∀ t ∈ ts, PyData.depth (dd t) ≤ n) → PyData.depthAll (dds ts) ≤ n
 | [], _ => by simp [dds, PyData.depthAll]
 | t :: ts, h => by
  have h1 := h t Zz5
  have h2 := ZnJ fun t m => h t (Zz2 _ m)
  simp only [dds, PyData.depthAll]
  omega
theorem Pln.dat {n : Nat} {t : T} (h : Pln n t) : Zc0 n t = some (dd t) ∧ PyData.canLay0 (dd t) = true ∧ PyData.depth (dd t) ≤ n := by
 induction h with
 | @none n => cases n <;> exact ⟨rfl, rfl, by simp [dd, PyData.depth]⟩
 | @int n i => cases n <;> exact ⟨rfl, rfl, by simp [dd, PyData.depth]⟩
 | @str n x h => cases n <;> exact ⟨rfl, by simpa [dd, PyData.canLay0] using h, by simp [dd, PyData.depth]⟩
 | @tup n ts _ ih =>
  refine ⟨?_, ?_, ?_⟩
  ·simp only [Zc0, Znn fun t m => (ih t m).1, Option.map_some, dd]
  ·simp only [dd, PyData.canLay0]; exact ZnI fun t m => (ih t m).2.1
  ·simp only [dd, PyData.depth]
   have := ZnJ fun t m => (ih t m).2.2
   omega
 | @lst n ts _ ih =>
  refine ⟨?_, ?_, ?_⟩
  ·simp only [Zc0, Znn fun t m => (ih t m).1, Option.map_some, dd]
  ·simp only [dd, PyData.canLay0]; exact ZnI fun t m => (ih t m).2.1
  ·simp only [dd, PyData.depth]
   have := ZnJ fun t m => (ih t m).2.2
   omega
theorem ZnK : ∀ {ts us : List T}, (∀ t ∈ ts, ∀ u ∈ us, (PyData.eqv (dd t) (dd u) = true ↔ t = u)) → (PyData.eqvAll (dds ts) (dds us) = true ↔ ts = us)
 | [], [], _ => by simp [dds, PyData.eqvAll]
 | [], _ :: _, _ => by simp [dds, PyData.eqvAll]
 | _ :: _, [], _ => by simp [dds, PyData.eqvAll]
 | t :: ts, u :: us, h => by
  simp only [dds, PyData.eqvAll, Bool.and_eq_true, h t Zz5 u Zz5, ZnK fun t m u n => h t (Zz2 _ m) u (Zz2 _ n), List.cons.injEq]
theorem Pln.eqv {n : Nat} {t : T} (h : Pln n t) : ∀ {m : Nat} {u : T}, Pln m u → (PyData.eqv (dd t) (dd u) = true ↔ t = u) := by
 induction h with
 | none => intro m u h; cases h <;> simp [dd, PyData.eqv]
 | int => intro m u h; cases h <;> simp [dd, PyData.eqv]
 | str _ => intro m u h; cases h <;> simp [dd, PyData.eqv]
 | tup hs ih =>
  intro m u h
  cases h with
  | tup hu => simp only [dd, PyData.eqv, T.tup.injEq]; exact ZnK fun t a u b => ih t a (hu u b)
  | none => simp [dd, PyData.eqv]
  | int => simp [dd, PyData.eqv]
  | str => simp [dd, PyData.eqv]
  | lst => simp [dd, PyData.eqv]
 | lst hs ih =>
  intro m u h
  cases h with
  | lst hu => simp only [dd, PyData.eqv, T.lst.injEq]; exact ZnK fun t a u b => ih t a (hu u b)
  | none => simp [dd, PyData.eqv]
  | int => simp [dd, PyData.eqv]
  | str => simp [dd, PyData.eqv]
  | tup => simp [dd, PyData.eqv]
theorem Pln.mono {n : Nat} {t : T} (h : Pln n t) : ∀ {m : Nat}, n ≤ m → Pln m t := by
 induction h with
 | none => intro m _; exact .none
 | int => intro m _; exact .int
 | str h => intro m _; exact .str h
 | tup hs ih =>
  intro m hm
  cases m with
  | zero => omega
  | succ m => exact .tup fun t a => ih t a (by omega)
 | lst hs ih =>
  intro m hm
  cases m with
  | zero => omega
  | succ m => exact .lst fun t a => ih t a (by omega)
theorem ZqM {n m : Nat} {a b : T} (ha : Pln n a) (hb : Pln m b) (hn : n ≤ 8 := by decide) (hm : m ≤ 8 := by decide) : Zet a b = some (dec (a = b)) := by
 have ha := ha.mono hn
 have hb := hb.mono hm
 obtain ⟨a1, a2, a3⟩ := ha.dat
 obtain ⟨b1, b2, b3⟩ := hb.dat
 unfold Zet Zb9
 rw [a1, b1]
 simp only [Option.bind_some]
 rw [if_pos ⟨by simp only [SeqAt.shaped, a2, Bool.true_and, decide_eq_true_eq]; omega, by simp only [SeqAt.shaped, b2, Bool.true_and, decide_eq_true_eq]; omega⟩, Zob (ha.eqv hb)]
section
variable {Q : T → Prop}
theorem ZfJ {n m : Nat} {a b : T} (ha : Pln n a) (hb : Pln m b) (h : Q (.bool (dec (a = b)))) (hn : n ≤ 8 := by decide) (hm : m ≤ 8 := by decide) : Pk (qEq a b) Q := ⟨_, by simp only [qEq, ZqM ha hb hn hm, Option.map_some], h⟩
theorem Zoe {n m : Nat} {a b : T} (ha : Pln n a) (hb : Pln m b) (h : Q (.bool (!dec (a = b)))) (hn : n ≤ 8 := by decide) (hm : m ≤ 8 := by decide) : Pk (qNe a b) Q := ⟨_, by simp only [qNe, ZqM ha hb hn hm, Option.map_some], h⟩
end
theorem ZcP {α : Type} {n : Nat} {f : Nat → α} {x : α} (h : x ∈ tab n f) : ∃ i, i < n ∧ x = f i := by
 obtain ⟨i, hi, e⟩ := Zz11.mp h
 exact ⟨i, List.mem_range.mp hi, e.symm⟩
theorem ZpO {n : Nat} {f : Nat → T} (h : ∀ i, i < n → (f i).flat = true) : T.flats (tab n f) = true := by
 have key : ∀ l : List T, (∀ t ∈ l, t.flat = true) → T.flats l = true := fun l => by
  induction l with
  | nil => intro _; rfl
  | cons t l ih => intro h; simp only [T.flats, h t Zz5, ih fun t m => h t (Zz2 _ m), Bool.and_self]
 exact key _ fun t m => by obtain ⟨i, hi, rfl⟩ := ZcP m; exact h i hi
theorem Zpu {n : Nat} {f : Nat → T} (h : ∀ i, i < n → (f i).flat = true) : T.flatIn (.lst (tab n f)) = true := ZpO h
noncomputable def oT : Option Int → T
 | none => .none
 | some x => .int x
noncomputable def Z5 (q : Int × Int) : T := .tup [.int q.1, .int q.2]
noncomputable def Zjx (n : Nat) (x : Nat → Int) : T := .lst (tab n fun i => .int (x i))
noncomputable def Zay (n : Nat) (b : Nat → Option Int) : T := .lst (tab n fun j => oT (b j))
noncomputable def Z8 (n : Nat) (G : Nat → Nat → Option Int) : T := .lst (tab n fun i => Zay n (G i))
noncomputable def Za5 (n : Nat) (R : Nat → Int × Int) : T := .lst (tab n fun i => Z5 (R i))
noncomputable def ZR (n : Nat) (G : Nat → Nat → Option Int) (R : Nat → Int × Int) : T := .tup [Z8 (n + 1) G, Za5 n R]
theorem Zbg : oT none = .none := rfl
theorem Zap {c : Int} : oT (some c) = .int c := rfl
theorem ZeK {b : Option Int} : (oT b).flat = true := by cases b <;> rfl
theorem Ziv {q : Int × Int} : (Z5 q).flat = true := rfl
theorem oT_inj {a b : Option Int} : oT a = oT b ↔ a = b := by cases a <;> cases b <;> simp [oT]
theorem Zem {n k : Nat} {f : Nat → T} (h : ∀ i, i < k → Pln n (f i)) : Pln (n + 1) (.lst (tab k f)) := .lst fun t m => by obtain ⟨i, hi, rfl⟩ := ZcP m; exact h i hi
theorem Zg8 {n : Nat} {b : Option Int} : Pln n (oT b) := by cases b; exact .none; exact .int
theorem Zrq {n : Nat} {q : Int × Int} : Pln (n + 1) (Z5 q) := .tup fun t m => by
 simp at m; rcases m with rfl | rfl <;> exact .int
theorem ZqN {n : Nat} {b : Nat → Option Int} : Pln 1 (Zay n b) := Zem fun _ _ => Zg8
theorem ZuY {n : Nat} {G : Nat → Nat → Option Int} : Pln 2 (Z8 n G) := Zem fun _ _ => ZqN
theorem ZuZ {n : Nat} {R : Nat → Int × Int} : Pln 2 (Za5 n R) := Zem fun _ _ => Zrq
theorem Zno {n : Nat} {G : Nat → Nat → Option Int} {R : Nat → Int × Int} : Pln 3 (ZR n G R) := .tup fun t m => by
 simp at m; rcases m with rfl | rfl
 ·exact ZuY
 ·exact ZuZ
theorem ZbB {σ : TL} {i : Nat} {t : T} : Zab σ i t i = some t := by simp [Zab]
end TM
end
section
set_option autoImplicit false
namespace PM
open PySem PySem.W PySem.Calls PyProof.Rows PyProof PyProof.Rows.LCg PyProof.Rows.LCp
noncomputable def sNo : Sm := fun _ _ => none
noncomputable def inD (d : PyData) : PyData → Option Bool
 | .list xs => if PyData.canLayAll0 xs = true ∧ d.canLay0 = true ∧ d.depth ≤ 64 then some (xs.any fun y => PyData.eqv y d) else none
 | .tuple xs => if PyData.canLayAll0 xs = true ∧ d.canLay0 = true ∧ d.depth ≤ 64 then some (xs.any fun y => PyData.eqv y d) else none
 | _ => none
noncomputable def ZoD (a b : V) (H : Hp) : Option Bool := (toD H Zb9 a).bind fun d => (toD H Zb9 b).bind fun e => inD d e
noncomputable def oIn (a b : V) (H : Hp) : Option (V × Hp) := (ZoD a b H).map fun c => (.bool c, H)
noncomputable def ZgW (a : Nat) : Nx := fun i H => H[a]?.bind fun vs => match vs[i]? with
 | some x => some (some (.tup [.int i, x]))
 | none => if i = vs.length then some none else none
noncomputable def Zjm (f : Ex) : Src := fun ρ H => (f ρ H).bind fun p => match p.1 with
 | .ref a => p.2[a]?.map fun vs => (ZgW a, vs.length + 1, p.2)
 | _ => none
section
variable {prog : Program} {w : World} {Γ : Cx}
theorem ZxW {st : Stmt} : S1 prog w Γ st sNo := fun W ρ H fr s Q E r rp hf post => by cases hf
theorem ZfP : Op2 prog w (compareOp .In) oIn := by
 intro Γ W ρ H fr s Q E a b x y v H' r hx hy ho post
 obtain ⟨c, e1, e2⟩ := Zz1.mp ho
 cases e2
 obtain ⟨d, h1, e1⟩ := Zz0.mp e1
 obtain ⟨e, h2, e1⟩ := Zz0.mp e1
 obtain ⟨as, R1⟩ := Zfo r Zb9 a x d hx h1
 obtain ⟨bs, R2⟩ := Zfo r Zb9 b y e hy h2
 have hu := Γ.hu
 unfold inD at e1
 split at e1
 ·split at e1
  ·rename_i hs
   cases e1
   exact SeqAt.in_list_reads R2 R1 hs.1 hs.2.1 (by omega) (post W s.heap s.toks _ (.refl W) r (.bool _))
  ·cases e1
 ·split at e1
  ·rename_i hs
   cases e1
   exact SeqAt.in_tuple_reads R2 R1 hs.1 hs.2.1 (by omega) (post W s.heap s.toks _ (.refl W) r (.bool _))
  ·cases e1
 ·cases e1
noncomputable def ES (e it l : Addr) (i : Nat) (h : Heap) : Prop := (∃ old, IsEnum h e it i old) ∧ h.IsListIter it l i
theorem ES.at {e it l : Addr} {i : Nat} {h h' : Heap} (x : ES e it l i h) (k : ∀ a ∈ [e, it], ∀ o, h.get? a = some o → h'.get? a = some o) : ES e it l i h' := by
 obtain ⟨⟨old, h1⟩, h2⟩ := x
 exact ⟨⟨old, k e (by simp) _ h1⟩, h2.at fun o x => k it (by simp) o x⟩
theorem ES.have {e it l : Addr} {i : Nat} {h : Heap} (x : ES e it l i h) : ∀ a ∈ [e, it], ∃ o, h.get? a = some o := by
 obtain ⟨⟨old, h1⟩, o, h2, _⟩ := x
 intro a ha
 simp at ha
 rcases ha with rfl | rfl
 ·exact ⟨_, h1⟩
 ·exact ⟨_, h2⟩
noncomputable def EIt (e it l : Addr) (i : Nat) (fs : List (Addr × Obj)) : Prop := fs.map (·.1) = [e, it] ∧ ∀ h : Heap, (∀ q ∈ fs, h.get? q.1 = some q.2) → ES e it l i h
theorem ZqO {e it l : Addr} {i : Nat} {h : Heap} (x : ES e it l i h) : ∃ fs, EIt e it l i fs ∧ ∀ q ∈ fs, h.get? q.1 = some q.2 := by
 obtain ⟨fs, h1, h2⟩ := ZoC h [e, it] x.have
 refine ⟨fs, ⟨h1, fun h' k => x.at fun a ha o ho => ?_⟩, h2⟩
 rw [← h1] at ha
 obtain ⟨q, hq, eq⟩ := Zz11.mp ha
 have := h2 q hq
 rw [eq, ho] at this
 cases this
 exact eq ▸ k q hq
theorem Zv5 {W0 : Wd} {e it l : Addr} {a : Nat} (ea : W0.pi[a]? = some l) (hei : e ≠ it) (hle : l ≠ e) (hli : l ≠ it) :
  Itr2 prog w Γ W0 (.ref e) [e, it] (EIt e it l) (ZgW a) := by
 refine ⟨fun i fs h => h.1, ?_, ?_, ?_, ?_⟩
 ·intro i H v hh
  obtain ⟨vs, e1, hh⟩ := Zz0.mp hh
  split at hh
  ·cases hh
   exact ⟨_, _, rfl⟩
  ·split at hh <;> cases hh
 ·intro i W ρ H fr fs s Q E va vb le r ap hit hn post
  obtain ⟨vs, e1, hh⟩ := Zz0.mp hn
  have hv : va = .int i ∧ vs[i]? = some vb := by
   split at hh
   ·rename_i x h1
    cases hh
    exact ⟨rfl, h1⟩
   ·split at hh <;> cases hh
  obtain ⟨_, xs, k1, g1, v1⟩ := r.at e1 (le.at ea)
  obtain ⟨x, hx, rx⟩ := v1.at hv.2
  have st : ES e it l i s.heap := hit.2 _ fun q hq => r.frAt (Zz4 _ hq)
  have Wk := WalksT.enumerate (prog := prog) (w := w) (A := Γ.A) Γ.hh e it l hei hle hli xs.toArray
  have isl1 : s.heap.IsList l xs.toArray := ⟨_, g1, rfl, k1, rfl⟩
  have hi : i < xs.toArray.size := by
   have h1 := (Zz6.mp hx).1
   simpa using h1
  refine Wk.item i s Q E hi ⟨st.1, st.2, isl1⟩ fun T vals h1 t1 hp hT hTup hmid keep1 => post T h1 t1 ?_
  intro elts k pos s1 Q1 E1 es1 q1
  subst es1
  have hTw := Wk.apart i T _ hmid
  refine Wk.go elts k pos i T _ Q1 E1 hmid fun h2 st2 keep2 => ?_
  obtain ⟨tk, x', hx', ev⟩ := hp
  have ex : x' = x := by
   have : xs[i]? = some x' := by simpa using hx'
   rw [hx] at this
   exact (Option.some.inj this).symm
  subst ex ev
  obtain ⟨fs', hit', at'⟩ := ZqO (h := h2) (⟨st2.1, st2.2.1⟩ : ES e it l (i + 1) h2)
  obtain ⟨oT, gT, cT, nT, dT⟩ := hTup
  refine q1 fs' h2 (.int i tk) x' hit' ?_ ⟨oT, keep2 T oT hTw gT, cT, nT, dT⟩ (by rw [hv.1]; exact .int _ _) rx
  refine r.swap (fs' := fs') (fun q hq t ht => ?_) (fun c o hc e => ?_) fun q hq => ⟨at' q hq, ?_⟩
  ·exact ap _ (hit.1 ▸ List.mem_map_of_mem hq) t ht
  ·rw [hit.1] at hc
   exact keep2 c o hc (keep1 c o hc e)
  ·rw [hit.1, ← hit'.1]
   exact List.mem_map_of_mem hq
 ·intro i W ρ H fr fs s Q E le r ap hit hn post
  obtain ⟨vs, e1, hh⟩ := Zz0.mp hn
  obtain ⟨_, xs, k1, g1, v1⟩ := r.at e1 (le.at ea)
  have hi : i = vs.length := by
   split at hh
   ·cases hh
   ·split at hh
    ·assumption
    ·cases hh
  have st : ES e it l i s.heap := hit.2 _ fun q hq => r.frAt (Zz4 _ hq)
  have Wk := WalksT.enumerate (prog := prog) (w := w) (A := Γ.A) Γ.hh e it l hei hle hli xs.toArray
  have hm : xs.toArray.size = i := by simp [v1.length, hi]
  refine Wk.done s Q E (by rw [hm]; exact ⟨st.1, st.2, ⟨_, g1, rfl, k1, rfl⟩⟩) fun h' tk keep => post h' tk ?_
  have := r.swap (fs' := []) (fun q hq t ht => ap _ (hit.1 ▸ List.mem_map_of_mem hq) t ht) (fun c o hc e => keep c o (by rw [hit.1] at hc; exact hc) e) (fun q hq => nomatch hq)
  exact this
 ·intro i W ρ H fr fs s Q E o le r hit hn q
  obtain ⟨vs, e1, hh⟩ := Zz0.mp hn
  obtain ⟨_, xs, k1, g1, v1⟩ := r.at e1 (le.at ea)
  have st : ES e it l i s.heap := hit.2 _ fun q hq => r.frAt (Zz4 _ hq)
  have Wk := WalksT.enumerate (prog := prog) (w := w) (A := Γ.A) Γ.hh e it l hei hle hli xs.toArray
  exact Wk.self i s Q E ⟨st.1, st.2, ⟨_, g1, rfl, k1, rfl⟩⟩ q
theorem Zu0 {x : Str} {np pos : Pos} {e1 : Expr} {f : Ex} (hn : Nm prog w Γ x (.type "enumerate")) (h1 : J prog w Γ e1 f)
  (he : starEach [e1] Γ.env = (false, eval e1 Γ.env) :: starEach [] Γ.env := by rfl) (hp : ∀ pos, (backTo pos (starEach [] Γ.env)).any (·.1) = false := by intro _; rfl) : JI2 prog w Γ (.Call (.Name x np) [e1] [] pos) (Zjm f) := by
 intro W ρ H fr s Q E nx n H' r hf post
 obtain ⟨p, a1, hf⟩ := Zz0.mp hf
 refine wpAny_Call_ofName (hn.use r ?_)
 refine PySem.Pv.callWith_type1 (wpAny_items_cons (h1 W ρ H fr s _ E _ _ r a1 fun W1 k1 t1 y1 l1 r1 v1 => wpAny_items_nil ?_) he) he (hp pos)
 obtain ⟨u1, H1⟩ := p
 simp only at hf v1 r1
 cases u1 <;> first | (cases hf; done) | skip
 rename_i b1
 obtain ⟨vs, c1, c3⟩ := Zz1.mp hf
 cases c3
 cases v1 with
 | @ref _ m1 ea =>
 obtain ⟨_, xs, n1, g1, w1⟩ := r1.at c1 ea
 have isl1 : k1.IsList m1 xs.toArray := ⟨_, g1, rfl, n1, rfl⟩
 refine call_enumerate_list (s := { s with heap := k1, toks := t1 }) isl1 fun h₁ hE hI hsz up => ?_
 have hlt : m1 < k1.objs.size := Heap.lt_size g1
 have Wk := WalksT.enumerate (prog := prog) (w := w) (A := Γ.A) Γ.hh (k1.objs.size + 1) k1.objs.size m1 (Nat.succ_ne_self _) (Nat.ne_of_lt (Nat.lt_succ_of_lt hlt)) (Nat.ne_of_lt hlt) xs.toArray
 have zs : ES (k1.objs.size + 1) k1.objs.size m1 0 h₁ := ⟨⟨_, hE⟩, hI⟩
 refine Wk.self 0 _ _ _ ⟨⟨_, hE⟩, hI, isl1.at fun o e => up _ o e⟩ ?_
 obtain ⟨fs, hit, at'⟩ := ZqO zs
 obtain ⟨r3, ap3⟩ := r1.more (fs := fs) (h' := h₁) (fun b o e => up b o e) (fun q hq => ⟨at' q hq, by
  have : q.1 ∈ fs.map (·.1) := List.mem_map_of_mem hq
  rw [hit.1] at this
  simp at this
  rcases this with e | e <;> rw [e] <;> omega⟩)
 refine post W1 h₁ t1 _ _ _ fs l1 hit r3 (fun b hb t ht => ?_) (Zv5 ea (Nat.succ_ne_self _) (Nat.ne_of_lt (Nat.lt_succ_of_lt hlt)) (Nat.ne_of_lt hlt)) ?_
 ·rw [← hit.1] at hb
  obtain ⟨q, hq, e⟩ := Zz11.mp hb
  exact e ▸ ap3 q hq t ht
 ·simp only [ZgW, c1, Option.bind_some]
  cases q : vs[0]? with
  | some x => exact ⟨_, rfl⟩
  | none =>
   have : vs.length = 0 := by simpa using q
   simp [this]
theorem Zxr {e1 e2 e3 : Expr} {es : List Expr} {pos : Pos} {f g : Ex} (h1 : J prog w Γ e1 f) (h2 : J prog w Γ (.BoolOp .And (e2 :: e3 :: es) pos) g) (he : eval (.BoolOp .And (e1 :: e2 :: e3 :: es) pos) Γ.env = (do
  let v ← eval e1 Γ.env
  standAt pos
  let t ← holding [v] (truthy v)
  match BoolOp.And, t with
  | .And, false | .Or, true => pure v
  | _, _ => eval (.BoolOp .And (e2 :: e3 :: es) pos) Γ.env) := by rfl) : J prog w Γ (.BoolOp .And (e1 :: e2 :: e3 :: es) pos) (Zdx f g) := by
 intro W ρ H fr s Q E v H' r hf post
 obtain ⟨p, a1, hf⟩ := Zz0.mp hf
 obtain ⟨b, a2, a3⟩ := Zz0.mp hf
 rw [he]
 refine wpAny_bind (wpAny_mono (h1 W ρ H fr s (fun x s₁ => wpAny (model prog w) Γ.A (truthy x) (fun t s₂ => if t then wpAny (model prog w) Γ.A (eval (.BoolOp .And (e2 :: e3 :: es) pos) Γ.env) Q E s₂ else Q x s₂) E s₁) E _ _ r a1 fun W1 k1 t1 x l1 r1 x1 => ?_) (fun v s₁ h₁ => wpAny_bind (wpAny_standAt (wpAny_bind (wpAny_holding (wpAny_mono h₁ (fun t s₂ h₂ => ?_) fun _ _ x => x))))) fun _ _ x => x)
 ·refine truth Γ W1 ρ _ fr _ _ E _ x b r1 x1 a2 fun W2 k2 t2 l2 r2 => ?_
  cases b with
  | true => exact h2 W2 ρ _ fr _ Q E _ H' r2 a3 fun W3 k3 t3 z l3 r3 z3 => post W3 k3 t3 z ((l1.trans l2).trans l3) r3 z3
  | false =>
   cases a3
   exact post W2 k2 t2 x (l1.trans l2) r2 (x1.mono l2)
 ·cases t with
  | false => exact wpAny_pure h₂
  | true => exact h₂
end
end PM
end
section
set_option autoImplicit false
namespace TM
open PySem PM
noncomputable def Zhh (a b : T) : Option Bool := (Zc0 Zb9 a).bind fun d => (Zc0 Zb9 b).bind fun e => inD d e
noncomputable def qIn (a b : T) : Option T := (Zhh a b).map .bool
theorem Zxs {H : Hp} {v1 v2 : V} {t1 t2 : T} {F1 F2 : List Nat} (r1 : RF H v1 t1 F1) (r2 : RF H v2 t2 F2) : ZoD v1 v2 H = Zhh t1 t2 := by
 simp only [ZoD, Zhh, Zi1 Zb9 _ _ _ r1, Zi1 Zb9 _ _ _ r2]
theorem Ze2 : OA2 oIn qIn := fun H v1 v2 t1 t2 t F1 F2 r1 r2 h => by
 obtain ⟨c, h1, h⟩ := Zz1.mp h
 subst h
 exact ⟨_, by simp only [oIn, Zxs r1 r2, h1, Option.map_some], .bool _⟩
theorem Zrr {d : T} : ∀ {ts : List T}, (∀ t ∈ ts, (PyData.eqv (dd t) (dd d) = true ↔ t = d)) → ((dds ts).any fun y => PyData.eqv y (dd d)) = dec (d ∈ ts)
 | [], _ => by simp [dds, Zbx]
 | t :: ts, h => by
  have ih := Zrr (d := d) (ts := ts) fun t m => h t (Zz2 _ m)
  simp only [dds, List.any_cons, ih]
  symm
  apply Zob
  rw [Bool.or_eq_true, h t Zz5, dec_iff]
  simp [eq_comm]
theorem Zxt {n m : Nat} {a : T} {ts : List T} (ha : Pln n a) (hb : Pln m (.lst ts)) (hn : n ≤ 8 := by decide) (hm : m ≤ 8 := by decide) : Zhh a (.lst ts) = some (dec (a ∈ ts)) := by
 have ha := ha.mono hn
 have hb := hb.mono hm
 obtain ⟨a1, a2, a3⟩ := ha.dat
 obtain ⟨b1, b2, b3⟩ := hb.dat
 unfold Zhh Zb9
 rw [a1, b1]
 simp only [Option.bind_some, dd, inD]
 simp only [dd, PyData.canLay0] at b2
 rw [if_pos ⟨b2, a2, by omega⟩, Zrr]
 intro t m
 cases hb with
 | lst hs => exact (hs t m).eqv ha
section
variable {Q : T → Prop}
theorem ZfQ {n m : Nat} {a : T} {ts : List T} (ha : Pln n a) (hb : Pln m (.lst ts)) (h : Q (.bool (dec (a ∈ ts)))) (hn : n ≤ 8 := by decide) (hm : m ≤ 8 := by decide) : Pk (qIn a (.lst ts)) Q := ⟨_, by simp only [qIn, Zxt ha hb hn hm, Option.map_some], h⟩
end
noncomputable def ZeV (ts : List T) : List T := List.zipWith (fun i t => .tup [.int (i : Nat), t]) (List.range ts.length) ts
noncomputable def Zjn (p : PE) : PG := fun σ => (p σ).bind fun t => match t with
 | .lst ts => some (ZeV ts)
 | _ => none
theorem Zu1 {ts : List T} : (ZeV ts).length = ts.length := by simp [ZeV]
theorem Zqd {H : Hp} : ∀ {vs : List V} {ts : List T} {F : List Nat} (k : Nat), RFs H vs ts F → RFs H (List.zipWith (fun i v => V.tup [.int (i : Nat), v]) (List.range' k ts.length) vs) (List.zipWith (fun i t => T.tup [.int (i : Nat), t]) (List.range' k ts.length) ts) F
 | _, _, _, _, .nil => .nil
 | _, _, _, k, .cons a b => by
  rw [List.length_cons, List.range'_succ]
  have h1 : RF H (V.tup [.int (k : Nat), _]) (T.tup [.int (k : Nat), _]) _ := .tup (.cons (.int _) (.one a))
  simpa using RFs.cons h1 (Zqd (k + 1) b)
theorem Zv6 {O N : List Nat} {u : Bool} {e : Ex} {p : PE} (x : E O N u e p) : Gs O N (Zjm e) (Zjn p) := fun c ρ σ H Φ ts s h => by
 obtain ⟨t1, h1, h⟩ := Zz0.mp h
 obtain ⟨v, X, F, a1, a2, a3, a4⟩ := x c ρ σ H Φ t1 s h1
 have hlt := a2.lt
 cases a2 with
 | none => cases h
 | bool => cases h
 | int => cases h
 | str => cases h
 | tup => cases h
 | @ref b vs us F' e1 hs =>
  cases h
  have hl := hs.length
  refine ⟨ZgW b, X, List.zipWith (fun i v => V.tup [.int (i : Nat), v]) (List.range us.length) vs, F', b :: F', by simp only [Zjm, a1, Option.bind_some, e1, Option.map_some, Zu1, hl], ?_, fun _ m => List.mem_cons_of_mem _ m, fun a m => ⟨hlt a m, a3 a m⟩, fun K hK i hi => ?_⟩
  ·have := Zqd 0 hs
   unfold ZeV
   rw [List.range_eq_range']
   exact this
  ·simp only [ZgW, hK b Zz5, e1, Option.bind_some, List.getElem?_zipWith]
   simp only [List.length_zipWith, List.length_range] at hi
   by_cases q : i < vs.length
   ·rw [List.getElem?_eq_getElem q, List.getElem?_range (by omega)]
   ·rw [List.getElem?_eq_none (by omega), List.getElem?_eq_none (by simp; omega)]
    simp
    omega
theorem Zu2 {n : Nat} {f : Nat → T} : ZeV (tab n f) = tab n fun i => .tup [.int (i : Nat), f i] := by
 unfold ZeV
 rw [Zat]
 have : List.range n = tab n fun i => i := by simp [tab]
 rw [this, ZqJ, Nat.min_self]
section
variable {σ : TL} {L : List T → Prop}
noncomputable def EnP (x : T) (L : List T → Prop) : Prop := ∃ ts, x = .lst ts ∧ L (ZeV ts)
theorem Zv7 {f : PE} (h : Pk (f σ) fun t => EnP t L) : Pl (Zjn f σ) L := by
 obtain ⟨t, a, ts, rfl, q⟩ := h; exact ⟨_, by simp only [Zjn, a, Option.bind_some], q⟩
theorem Zv8 {n : Nat} {f : Nat → T} (h : L (TM.tab n fun i => .tup [.int (i : Nat), f i])) : EnP (.lst (TM.tab n f)) L := ⟨_, rfl, by rw [Zu2]; exact h⟩
end
noncomputable def Zjo (g : PG) (put : T → TL → Option TL) (b : PS) : PS := fun σ => (g σ).bind fun ts => if ts = [] then none else Ze1 put b σ ts
end TM
end
section
set_option autoImplicit false
namespace PM
open PySem PySem.W PySem.Calls PyProof.Rows PyProof
noncomputable def ZgX (o1 o2 : V → V → Hp → Option (V × Hp)) (f g h : Ex) : Ts := fun ρ H => (f ρ H).bind fun p => (g ρ p.2).bind fun q => (o1 p.1 q.1 q.2).bind fun u => (ZcW u.1 u.2).bind fun b => if b then (h ρ u.2).bind fun x => (o2 q.1 x.1 x.2).bind fun y => (ZcW y.1 y.2).map fun c => (c, y.2) else some (false, u.2)
section
variable {prog : Program} {w : World} {Γ : Cx}
theorem Zu3 {e1 e2 e3 : Expr} {op1 op2 : CmpOp} {pos : Pos} {f g h : Ex} {o1 o2 : V → V → Hp → Option (V × Hp)} (h1 : J prog w Γ e1 f) (h2 : J prog w Γ e2 g) (h3 : J prog w Γ e3 h) (k1 : Op2 prog w (compareOp op1) o1) (k2 : Op2 prog w (compareOp op2) o2) (hm : lastMarks [op1, op2] [e2, e3] = false := by with_unfolding_all rfl) : JT prog w Γ (.Compare e1 [op1, op2] [e2, e3] pos) (ZgX o1 o2 f g h) := by
 intro W ρ H fr s Q E b H' r hf post
 obtain ⟨p, a1, hf⟩ := Zz0.mp hf
 obtain ⟨q, a2, hf⟩ := Zz0.mp hf
 obtain ⟨u, a3, hf⟩ := Zz0.mp hf
 obtain ⟨c, a4, hf⟩ := Zz0.mp hf
 refine isTrue_chain (h1 W ρ H fr s _ E _ _ r a1 fun W1 n1 t1 x l1 r1 x1 => ?_) hm
 refine test_link (h2 W1 ρ _ fr _ _ E _ _ r1 a2 fun W2 n2 t2 y l2 r2 y2 => ?_)
 refine k1 Γ W2 ρ _ fr _ _ E _ _ x y _ _ r2 (x1.mono l2) y2 a3 fun W3 n3 t3 z l3 r3 z3 => ?_
 refine truth Γ W3 ρ _ fr _ _ E _ z c r3 z3 a4 fun W4 n4 t4 l4 r4 => ?_
 cases c with
 | false =>
  cases hf
  exact post W4 n4 t4 (((l1.trans l2).trans l3).trans l4) r4
 | true =>
  simp only [if_true] at hf
  obtain ⟨v, a5, hf⟩ := Zz0.mp hf
  obtain ⟨v2, a6, hf⟩ := Zz0.mp hf
  obtain ⟨d, a7, a8⟩ := Zz1.mp hf
  cases a8
  refine test_last (h3 W4 ρ _ fr _ _ E _ _ r4 a5 fun W5 n5 t5 y5 l5 r5 x5 => ?_)
  refine k2 Γ W5 ρ _ fr _ _ E _ _ y y5 _ _ r5 (((y2.mono l3).mono l4).mono l5) x5 a6 fun W6 n6 t6 z6 l6 r6 x6 => ?_
  exact truth Γ W6 ρ _ fr _ _ E _ z6 b r6 x6 a7 fun W7 n7 t7 l7 r7 => post W7 n7 t7 ((((((l1.trans l2).trans l3).trans l4).trans l5).trans l6).trans l7) r7
end
end PM
end
section
set_option autoImplicit false
namespace TM
open PySem PM
section
variable {O N M K : List Nat} {u u' u'' : Bool}
noncomputable def ZgY (q1 q2 : T → T → Option T) (p1 p2 p3 : PE) : PB := fun σ => (p1 σ).bind fun x => (p2 σ).bind fun y => (q1 x y).bind fun z => (Zb5 z).bind fun b => if b then (p3 σ).bind fun v => (q2 y v).bind Zb5 else some false
theorem Zu4 {e1 e2 e3 : Ex} {p1 p2 p3 : PE} {q1 q2 : T → T → Option T} {o1 o2 : V → V → Hp → Option (V × Hp)} (k1 : OA2 o1 q1) (k2 : OA2 o2 q2) (x : E O N u e1 p1) (y : E O M u' e2 p2) (z : E O K u'' e3 p3) : Bt O (ZgX o1 o2 e1 e2 e3) (ZgY q1 q2 p1 p2 p3) := fun c ρ σ H Φ b s h => by
 obtain ⟨t1, h1, h⟩ := Zz0.mp h
 obtain ⟨t2, h2, h⟩ := Zz0.mp h
 obtain ⟨t3, h3, h⟩ := Zz0.mp h
 obtain ⟨b0, h4, h⟩ := Zz0.mp h
 obtain ⟨v1, X, F, a1, a2, _, _⟩ := x c ρ σ H Φ t1 s h1
 obtain ⟨v2, Y, G, b1, b2, _, _⟩ := y c ρ σ (H ++ X) Φ t2 (s.ext X) h2
 obtain ⟨v3, c1, c2⟩ := k1 _ v1 v2 t1 t2 t3 F G (a2.ext Y) b2 h3
 have d1 := Zej c2 h4
 cases b0 with
 | false =>
  cases h
  exact ⟨X ++ Y, by simp only [ZgX, a1, b1, Option.bind_some, c1, d1]; simp⟩
 | true =>
  simp only [if_true] at h
  obtain ⟨t5, h5, h⟩ := Zz0.mp h
  obtain ⟨t6, h6, h⟩ := Zz0.mp h
  obtain ⟨v5, Z, F5, e1, e2, _, _⟩ := z c ρ σ (H ++ X ++ Y) Φ t5 ((s.ext X).ext Y) h5
  obtain ⟨v6, f1, f2⟩ := k2 _ v2 v5 t2 t5 t6 G F5 (b2.ext Z) e2 h6
  have g1 := Zej f2 h
  exact ⟨X ++ Y ++ Z, by simp only [ZgX, a1, b1, Option.bind_some, c1, d1, if_true, e1, f1, g1, Option.map_some]; simp⟩
noncomputable def OIn (o : List V → Hp → Option (V × Hp)) (q : List T → Option T) : Prop := ∀ (H : Hp) (vs : List V) (ts : List T) (t : T) (F1 : List Nat), RFs H vs ts F1 → q ts = some t → ∃ v F, o vs H = some (v, H) ∧ RF H v t F ∧ F.Sublist F1
theorem Zv9 {n : Nat} {es : Exs} {ps : PEs} {q : List T → Option T} {o : List V → Hp → Option (V × Hp)} (k : OIn o q) (x : Es O N u n es ps) : E O N u (Zv o es) (Zs q ps) := fun c ρ σ H Φ t s h => by
 obtain ⟨ts, h1, h⟩ := Zz0.mp h
 obtain ⟨_, vs, X, F, a1, a2, a3, a4⟩ := x c ρ σ H Φ ts s h1
 obtain ⟨w, G, b1, b2, b3⟩ := k _ vs ts t F a2 h
 exact ⟨w, X, G, by simp only [Zv, a1, Option.bind_some, b1], b2, fun a m => a3 a (b3.subset m), fun hu => (a4 hu).sublist b3⟩
theorem Zu5 : OIn ZfC ZiG := fun H vs ts t F r h => by
 unfold ZiG at h
 split at h
 ·obtain ⟨v, rfl, r'⟩ := r.one_inv
  cases r' with
  | @ref a vs1 _ F1 e hs => cases h; exact ⟨.tup vs1, F1, by simp only [ZfC, e, Option.map_some], .tup hs, List.sublist_cons_self _ _⟩
 ·obtain ⟨v, rfl, r'⟩ := r.one_inv
  cases r' with
  | @tup vs1 _ _ hs => cases h; exact ⟨.tup vs1, _, by simp only [ZfC], .tup hs, List.Sublist.refl _⟩
 ·cases h
end
theorem Zxu {O O1 R J Ns : List Nat} {fr : Bool} {g : Src} {q : PG} {put : V → Lc → Option Lc} {pput : T → TL → Option TL} {b : Sm} {qb : PS} (hg : Gs O Ns g q) (hj : PutOk O J put pput) (hj1 : PutOk O1 J put pput) (hJ : ∀ i ∈ J, i ∉ O) (hJ1 : ∀ i ∈ J, i ∉ O1) (hN : ∀ i ∈ Ns, i ∉ O) (hb : S O O1 R fr b qb) (hb1 : S O1 O1 R fr b qb) : S O O1 R fr (ZaN g put b) (Zjo q pput qb) := fun c ρ σ H Φ r s h => by
 obtain ⟨ts, h1, h⟩ := Zz0.mp h
 obtain ⟨nx, X, vs, F, G, g1, g2, g3, g4, g5⟩ := hg c ρ σ H Φ ts s h1
 split at h
 ·cases h
 ·rename_i hne
  cases ts with
  | nil => exact absurd rfl hne
  | cons t rs =>
   cases g2 with
   | @cons v _ F1 ws _ F2 a b' =>
   have sx := s.ext X
   have hsrc : ∀ a ∈ G, c.H0.length ≤ a ∨ c.P a := fun a m => s.from_src (g4 a m).2
   have hoff : ∀ a ∈ G, ¬ Held O σ Φ a := fun a m ⟨k, hk, ⟨t, e⟩, q⟩ => s.from_off hN (g4 a m).2 hk e q
   obtain ⟨σ1, p0, h⟩ := Zz0.mp h
   obtain ⟨r1, h2, h⟩ := Zz0.mp h
   obtain ⟨ρ1, Φ1, p1, s1, p3, p4⟩ := hj c ρ σ (H ++ X) Φ v t F1 σ1 sx a (fun x m => hsrc x (g3 x (Zz4 _ m))) (fun k hk t' e x m q => hoff x (g3 x (Zz4 _ q)) ⟨k, hk, ⟨t', e⟩, m⟩) p0
   have hh : ∀ x, Held O σ1 Φ1 x → Held O σ Φ x := fun x ⟨k, hk, ⟨t', e⟩, m⟩ => by
    obtain ⟨q1, q2⟩ := p3 k fun q => hJ k q hk
    exact ⟨k, hk, ⟨t', q1 ▸ e⟩, q2 ▸ m⟩
   obtain ⟨ρ2, K2, Φ2, w1, w2, w3⟩ := hb c ρ1 σ1 (H ++ X) Φ1 r1 s1 h2
   have e0 : nx 0 (H ++ X) = some (some v) := by have := g5 (H ++ X) (fun _ _ => rfl) 0 (Nat.zero_le _); simpa using this
   have estep : ZaN g put b ρ H = (b ρ1 (H ++ X)).bind fun q => match q.1 with
     | some _ => some q
     | none => Zdt nx put b (rs.length + 1) 1 q.2.1 q.2.2 := by
    simp only [ZaN, g1, Option.bind_some, List.length_cons]
    show (nx 0 (H ++ X)).bind _ = _
    rw [e0]
    first | (simp only [Option.bind_some, p1]; done) | (simp only [Option.bind_some, p1]; rfl)
   rw [estep]
   refine Aft.grow (X := X) ?_
   rcases w3 with ⟨k1, k2, k3, k4⟩ | ⟨t', v', F', k1, k2, k3⟩
   ·rw [k1] at h
    have hG2 : ∀ a ∈ G, K2[a]? = (H ++ X)[a]? := fun x m => w2 x (g4 x m).1 fun q => hoff x m (hh x q)
    have hoff2 : ∀ a ∈ G, ¬ Held O1 r1.2 Φ2 a := fun x m q => by
     rcases k4 x q with q | q
     ·have := (g4 x m).1; omega
     ·exact hoff x m (hh x q)
    have ih := Znl hj1 hJ1 hb1 (H1 := H ++ X) (fun a m => (g4 a m).1) hsrc g5 rs ws 1 ρ2 r1.2 K2 Φ2 F2 r (fun j => by rw [Nat.add_comm]; simp) (by simp; omega) k3 w1 hG2 hoff2 (b'.frame fun x m => hG2 x (g3 x (Zz3 _ m))) (fun x m => g3 x (Zz3 _ m)) h
    rw [k2]
    simp only [Option.bind_some]
    obtain ⟨ρ3, K3, Φ3, l1, l2, l3⟩ := ih
    refine ⟨ρ3, K3, Φ3, by omega, fun x hx hn => ?_, ?_⟩
    ·rw [l2 x (by omega) fun q => (k4 x q).elim (fun q => by omega) fun q => hn (hh x q), w2 x hx fun q => hn (hh x q)]
    ·rcases l3 with ⟨m1, m2, m3, m4⟩ | l
     ·refine .inl ⟨m1, m2, m3, fun x q => ?_⟩
      rcases m4 x q with q | q
      ·exact .inl (by omega)
      ·exact (k4 x q).imp id (hh x)
     ·exact .inr l
   ·rw [k1] at h
    cases h
    refine ⟨ρ2, K2, Φ2, w1, fun x hx hn => w2 x hx fun q => hn (hh x q), .inr ⟨t', v', F', k1, ?_, k3⟩⟩
    rw [k2]
    rfl
section
variable {σ : TL} {Q : T → Prop} {B : Bool → Prop} {R : T → Prop} {N : TL → Prop}
theorem Zu6 {q1 q2 : T → T → Option T} {f g h : PE} (k : Pk (f σ) fun x => Pk (g σ) fun y => Pk (q1 x y) fun z => Pb (Zb5 z) fun b => (b = true → Pk (h σ) fun v => Pk (q2 y v) fun w => Pb (Zb5 w) B) ∧ (b = false → B false)) : Pb (ZgY q1 q2 f g h σ) B := by
 obtain ⟨x, a1, y, a2, z, a3, b, a4, k1, k2⟩ := k
 cases b with
 | false => exact ⟨false, by simp [ZgY, a1, a2, a3, a4], k2 rfl⟩
 | true =>
  obtain ⟨v, b1, w, b2, c, b3, q⟩ := k1 rfl
  exact ⟨c, by simp [ZgY, a1, a2, a3, a4, b1, b2, b3], q⟩
theorem Zwa {g : PG} {j n : Nat} {a : Nat → T} {b : PS} (hn : 0 < n) (hg : Pl (g σ) fun ts => ts = tab n a) (P : Nat → TL → Prop) (h0 : P 0 σ) (h1 : ∀ i σ, i < n → P i σ → Psk (b (Zab σ j (a i))) R (P (i + 1))) (h2 : ∀ σ, P n σ → N σ) : Psk (Zjo g (Zad j) b σ) R N := by
 obtain ⟨o, s, e, q⟩ := ZbV (R := R) (N := N) (b := b) (j := j) hg P h0 h1 h2
 obtain ⟨ts, e1, rfl⟩ := hg
 refine ⟨o, s, ?_, q⟩
 have hne : tab n a ≠ [] := fun h => by have := congrArg List.length h; rw [Zat] at this; simp at this; omega
 simp only [Zjo, e1, Option.bind_some, hne, if_false]
 simpa only [ZaC, e1, Option.bind_some] using e
end
end TM
end
section
set_option autoImplicit false
namespace TM
open PySem PM
theorem Zuf {fr : Bool} : SimF fr (fun _ _ => none) (fun _ => none) := by
 intro H vs ts t F1 hp r h
 cases h
end TM
end
section
set_option autoImplicit false
namespace TM
open PySem PM
noncomputable def Keep0 (g : Sm) : Prop := ∀ ρ H r, g ρ H = some r → r.2.1 0 = ρ 0
theorem Keep0.next : Keep0 Z2 := fun ρ H r h => by cases h; rfl
theorem ZmD {e : Ex} : Keep0 (ZcA e) := fun ρ H r h => by
 obtain ⟨_, _, q⟩ := Zz1.mp h
 subst q; rfl
theorem Keep0.ret {e : Ex} : Keep0 (ZH e) := fun ρ H r h => by
 obtain ⟨_, _, q⟩ := Zz1.mp h
 subst q; rfl
theorem Keep0.put {f o i : Ex} : Keep0 (ZbJ f o i) := fun ρ H r h => by
 obtain ⟨_, _, h⟩ := Zz0.mp h
 obtain ⟨_, _, h⟩ := Zz0.mp h
 obtain ⟨_, _, h⟩ := Zz0.mp h
 obtain ⟨_, _, q⟩ := Zz1.mp h
 subst q; rfl
theorem Keep0.seq {a b : Sm} (x : Keep0 a) (y : Keep0 b) : Keep0 (Zw a b) := fun ρ H r h => by
 obtain ⟨r1, e1, h⟩ := Zz0.mp h
 have h1 := x ρ H r1 e1
 split at h
 ·cases h; exact h1
 ·exact (y _ _ _ h).trans h1
theorem ZmE {t : Ts} {a b : Sm} (x : Keep0 a) (y : Keep0 b) : Keep0 (ZX t a b) := fun ρ H r h => by
 obtain ⟨p, _, h⟩ := Zz0.mp h
 split at h
 ·exact x _ _ _ h
 ·exact y _ _ _ h
theorem Keep0.set {i : Nat} {e : Ex} (hi : 0 ≠ i) : Keep0 (ZO i e) := fun ρ H r h => by
 obtain ⟨_, _, q⟩ := Zz1.mp h
 subst q
 simp [upd, hi]
noncomputable def SimM (f : List V → Hp → Option (V × Hp)) (p : List T → Option T) : Prop := ∀ (H : Hp) (v : V) (vs : List V) (t : T) (ts : List T) (t' : T) (F0 F1 : List Nat), 0 < H.length → RF H v t F0 → F0.Nodup → 0 ∉ F0 → RFs H vs ts F1 → (∀ a ∈ F0, a ∉ F1) → p (t :: ts) = some t' →
 ∃ w H' F', f (v :: vs) H = some (w, H') ∧ H.length ≤ H'.length ∧ (∀ a, a < H.length → a ∉ F0 → H'[a]? = H[a]?) ∧ RF H' v t' F' ∧ F'.Nodup ∧ ∀ a ∈ F', H.length ≤ a ∨ a ∈ F0
noncomputable def Ze3 (n : Nat) (q : PS) : List T → Option T := fun ts => if ts.length = n then (q fun i => ts[i]?).bind fun r => r.2 0 else none
theorem ZnL {O' : List Nat} {n : Nat} {g : Sm} {q : PS} (h : S [0] O' [0] false g q) (h0 : 0 ∈ O') (hk : Keep0 g) : SimM (Zaa n g) (Ze3 n q) := fun H v vs t ts t' F0 F1 hp r0 nd n0 rs dj e => by
 unfold Ze3 at e
 split at e
 ·rename_i hl
  obtain ⟨r1, e1, e2⟩ := Zz0.mp e
  obtain ⟨Φ, hΦ⟩ := rs.slots
  have st : St ⟨H, F0, fun a => a ∈ F0 ∨ a ∈ F1⟩ [0] (fun i => (v :: vs)[i]?) (fun i => (t :: ts)[i]?) H (fun i => match i with | 0 => F0 | i + 1 => Φ i) := by
   refine ⟨fun i u e => ?_, fun i u e a m => ?_, fun i hi u e => ?_, Nat.le_refl _, fun a _ _ => rfl, hp, n0⟩
   ·cases i with
    | zero => simp at e; subst e; exact ⟨v, rfl, r0⟩
    | succ i =>
     simp at e
     obtain ⟨w, h1, h2, _⟩ := hΦ i u e
     exact ⟨w, by simpa using h1, h2⟩
   ·cases i with
    | zero => exact .inr (.inl m)
    | succ i =>
     simp at e
     obtain ⟨w, h1, h2, h3⟩ := hΦ i u e
     exact .inr (.inr (h3 a m))
   ·have : i = 0 := by simpa using hi
    subst this
    refine ⟨nd, fun a m => .inr m, fun j u' hj ej a m => ?_⟩
    cases j with
    | zero => exact absurd rfl hj
    | succ j =>
     simp at ej
     obtain ⟨w, h1, h2, h3⟩ := hΦ j u' ej
     exact fun q => dj a m (h3 a q)
  obtain ⟨ρ', H', Φ', h1, h2, h3⟩ := h _ _ _ _ _ _ st e1
  have hv : (v :: vs).length = n := by rw [← hl]; simp [rs.length]
  have go : ∀ (o : Option V) (O2 : List Nat), 0 ∈ O2 → g (fun i => (v :: vs)[i]?) H = some (o, ρ', H') → St ⟨H, F0, fun a => a ∈ F0 ∨ a ∈ F1⟩ O2 ρ' r1.2 H' Φ' → ∃ w H' F', Zaa n g (v :: vs) H = some (w, H') ∧ H.length ≤ H'.length ∧ (∀ a, a < H.length → a ∉ F0 → H'[a]? = H[a]?) ∧ RF H' v t' F' ∧ F'.Nodup ∧ ∀ a ∈ F', H.length ≤ a ∨ a ∈ F0 := by
   intro o O2 hO eg s2
   obtain ⟨v', ev, rv⟩ := s2.slot 0 t' e2
   have kk := hk _ _ _ eg
   have : v' = v := by
    have k2 : ρ' 0 = some v := kk
    rw [ev] at k2
    cases k2
    rfl
   subst this
   obtain ⟨o1, o2, _⟩ := s2.own 0 hO t' e2
   exact ⟨o.getD .none, H', Φ' 0, by simp only [Zaa, hv, if_true, eg, Option.map_some], h1, s2.keep, rv, o1, o2⟩
  rcases h3 with ⟨k1, k2, k3, k4⟩ | ⟨u, v', F', k1, k2, k3, k4, k5, k6⟩
  ·exact go none O' h0 k2 k3
  ·exact go (some v') [0] List.mem_cons_self k2 k4
 ·cases e
noncomputable def Zeu (x : Nat) (p : List T → Option T) (ps : PEs) : PS := fun σ => (ps σ).bind fun ts => (σ x).bind fun t => (p (t :: ts)).map fun t' => (none, Zab σ x t')
section
variable {O O' R N : List Nat} {fr u : Bool}
theorem ZgZ {x n : Nat} {f : List V → Hp → Option (V × Hp)} {p : List T → Option T} {es : Exs} {ps : PEs} (hx : x ∈ O) (k : SimM f p) (y : Es O N u n es ps) (hN : x ∉ N) (hO : ∀ j ∈ O', j ∈ O) : S O O' R fr (ZcA (Zv f (Zf (Zb x) es))) (Zeu x p ps) := fun c ρ σ H Φ r s q => by
 obtain ⟨ts, h1, q⟩ := Zz0.mp q
 obtain ⟨t, h2, q⟩ := Zz0.mp q
 obtain ⟨t', h3, q⟩ := Zz1.mp q
 subst q
 obtain ⟨v, ev, rv⟩ := s.slot x t h2
 obtain ⟨o1, o2, o3⟩ := s.own x hx t h2
 have hlow : ∀ k t, σ k = some t → ∀ a ∈ Φ k, a < H.length := fun k t e a m => by
  obtain ⟨_, _, r⟩ := s.slot k t e
  exact r.lt a m
 obtain ⟨_, vs, X, F, a1, a2, a3, _⟩ := y c ρ σ H Φ ts s h1
 have hp : 0 < (H ++ X).length := by have := s.pos; have := s.len; rw [List.length_append]; omega
 have hlen : (H ++ X).length = H.length + X.length := List.length_append
 have dj : ∀ a ∈ Φ x, a ∉ F := fun a m q => by
  rcases a3 a q with h | ⟨j, hj, ⟨tj, ej⟩, mj⟩
  ·have := hlow x t h2 a m; omega
  ·exact o3 j tj (fun e => hN (e ▸ hj)) ej a m mj
 obtain ⟨w, H', F', b1, b2, b3, b4, b5, b6⟩ := k (H ++ X) v vs t ts t' (Φ x) F hp (rv.ext X) o1 (fun m => ZnF s hx h2 m rfl) a2 dj h3
 have same : ∀ a, a < H.length → a ∉ Φ x → H'[a]? = H[a]? := fun a ha hn => by
  rw [b3 a (by omega) hn, List.getElem?_append_left ha]
 have eg : ZcA (Zv f (Zf (Zb x) es)) ρ H = some (none, ρ, H') := by
  simp only [ZcA, Zv, Zf, Zb, ev, Option.map_some, Option.bind_some, a1, b1]
 refine ⟨ρ, H', Zao Φ x F', by omega, fun a ha hn => same a ha fun m => hn ⟨x, hx, ⟨t, h2⟩, m⟩, .inl ⟨rfl, eg, ⟨fun i u' e => ?_, fun i u' e a m => ?_, fun i hi u' e => ?_, by have := s.len; omega, fun a ha hn => ?_, s.pos, s.f0⟩, fun a hh => ?_⟩⟩
 ·by_cases c1 : i = x
  ·subst c1
   simp only [Zab, if_true, Option.some.injEq] at e
   subst e
   exact ⟨v, ev, by simpa [Zao] using b4⟩
  ·simp only [Zab, c1, if_false] at e
   obtain ⟨v2, e2, r2⟩ := s.slot i u' e
   refine ⟨v2, e2, ?_⟩
   simp only [Zao, c1, if_false]
   exact r2.frame fun a m => same a (hlow i u' e a m) fun q => o3 i u' c1 e a q m
 ·by_cases c1 : i = x
  ·subst c1
   simp only [Zao, if_true] at m
   rcases b6 a m with h | h
   ·exact .inl (by have := s.len; omega)
   ·exact s.src i t h2 a h
  ·simp only [Zab, c1, if_false] at e
   simp only [Zao, c1, if_false] at m
   exact s.src i u' e a m
 ·by_cases c1 : i = x
  ·subst c1
   refine ⟨by simpa [Zao] using b5, fun a m => ?_, fun j u2 hj ej a m => ?_⟩
   ·simp only [Zao, if_true] at m
    rcases b6 a m with h | h
    ·exact .inl (by have := s.len; omega)
    ·exact o2 a h
   ·simp only [Zao, if_true] at m
    simp only [Zab, hj, if_false] at ej
    simp only [Zao, hj, if_false]
    intro q
    have hq := hlow j u2 ej a q
    rcases b6 a m with h | h
    ·omega
    ·exact o3 j u2 hj ej a h q
  ·simp only [Zab, c1, if_false] at e
   obtain ⟨q1, q2, q3⟩ := s.own i (hO i hi) u' e
   refine ⟨by simpa [Zao, c1] using q1, fun a m => ?_, fun j u2 hj ej a m => ?_⟩
   ·simp only [Zao, c1, if_false] at m
    exact q2 a m
   ·simp only [Zao, c1, if_false] at m
    by_cases c2 : j = x
    ·subst c2
     simp only [Zao, if_true]
     intro q
     have hm := hlow i u' e a m
     rcases b6 a q with h | h
     ·omega
     ·exact q3 j t hj h2 a m h
    ·simp only [Zab, c2, if_false] at ej
     simp only [Zao, c2, if_false]
     exact q3 j u2 hj ej a m
 ·have hs := s.keep a ha hn
  rw [same a (by have := s.len; omega) fun m => ?_]
  ·exact hs
  ·rcases o2 a m with h | h
   ·omega
   ·exact hn h
 ·obtain ⟨j, hj, ⟨u', e⟩, m⟩ := hh
  by_cases c1 : j = x
  ·subst c1
   simp only [Zao, if_true] at m
   rcases b6 a m with h | h
   ·exact .inl (by omega)
   ·exact .inr ⟨j, hx, ⟨t, h2⟩, h⟩
  ·simp only [Zab, c1, if_false] at e
   simp only [Zao, c1, if_false] at m
   exact .inr ⟨j, hO j hj, ⟨u', e⟩, m⟩
end
section
variable {σ : TL} {R : T → Prop} {N : TL → Prop}
theorem Zg0 {x : Nat} {p : List T → Option T} {ps : PEs} {t : T} (e : σ x = some t) (h : Pl (ps σ) fun ts => Pk (p (t :: ts)) fun t' => N (Zab σ x t')) : Psk (Zeu x p ps σ) R N := by
 obtain ⟨ts, e1, t', e2, q⟩ := h
 exact ⟨none, Zab σ x t', by simp only [Zeu, e1, e, Option.bind_some, e2, Option.map_some], by simp, fun _ => q⟩
theorem ZnM {n : Nat} {q : PS} {ts : List T} {Q : T → Prop} (hn : ts.length = n) (h : Psk (q fun i => ts[i]?) (fun _ => False) fun σ => ∃ t, σ 0 = some t ∧ Q t) : Pk (Ze3 n q ts) Q := by
 obtain ⟨o, s, e, h1, h2⟩ := h
 cases o with
 | none =>
  obtain ⟨t, e2, q2⟩ := h2 rfl
  exact ⟨t, by simp only [Ze3, hn, if_true, e, Option.bind_some, e2], q2⟩
 | some u => exact absurd (h1 u rfl) (by simp)
end
end TM
end
section
set_option autoImplicit false
namespace PM
open PySem PySem.W PySem.Calls PyProof.Rows PyProof PyProof.Rows.LCg PyProof.Rows.LCp
section
variable {prog : Program} {w : World} {Γ : Cx}
theorem Ztc {elt iter : Expr} {x x₂ y : Str} {px px₂ tp py pos spos : Pos} {kt : Nat} {scope : Scope} {cl : List (Str × Addr)} {t t₂ i : Nat} {g : Src} {f : Ex} (hy : Sto prog w Γ y i) (hg : JI2 prog w Γ iter g) (hel : ∀ C ρ, J prog w (ZbA Γ scope cl C [(x, t), (x₂, t₂)] ρ) elt f)
  (hsw : swapsWith (.ListComp elt [⟨.Tuple [.Name x px, .Name x₂ px₂] kt tp, iter, [], 0⟩] scope pos) (some (.Name y py)) spos.line Γ.env = pure true)
  (hclos : closureFor scope Γ.env = pure cl) (hcell : ∀ y ∈ scope.names, y.2 ≠ .cell) (hkind : scope.kind = .function) (hnames : ∀ y ∈ scope.names, y.2 = .local → scope.names.lookup y.1 = some .local) (hx : scope.names.lookup x = some .local) (hx₂ : scope.names.lookup x₂ = some .local) (hxx : x ≠ x₂) (htt : t ≠ t₂) (hs : ∀ x, foldedSetIterable iter Γ.env x = pure x := by intro _; rfl) :
  S1 prog w Γ (.Assign [.Name y py] (.ListComp elt [⟨.Tuple [.Name x px, .Name x₂ px₂] kt tp, iter, [], 0⟩] scope pos) spos) (ZO i (ZaJ g (ZcB t t₂) Zan f)) := by
 intro W ρ H fr s Q E r rp hf post
 obtain ⟨p, e0, e9⟩ := Zz1.mp hf
 cases e9
 obtain ⟨z, e1, hf⟩ := Zz0.mp e0
 obtain ⟨q, e2, e3⟩ := Zz1.mp hf
 cases e3
 rw [exec_Assign_Name_used _ _ _ _ hsw]
 refine wpAny_bind (wpAny_standAt (wpAny_bind ?_))
 show wpAny _ Γ.A (do let _ ← comprehension (.ListComp elt [⟨.Tuple [.Name x px, .Name x₂ px₂] kt tp, iter, [], 0⟩] scope pos) scope Γ.env _ (newList []) false (eval iter Γ.env) (some (assign (.Name y py) Γ.env))) _ _ s
 refine wpAny_bind (wpAny_mono (wpAny_comprehension_free (use := some (assign (.Name y py) Γ.env)) (Q := fun _ s' => Q .next s') rfl hs hclos hkind hnames ?_) (fun _ s' h' => wpAny_pure (wpAny_pure h')) fun _ _ e => e)
 refine Zps (RR := fun acc C => compPost (model prog w) Γ.A E (some (assign (.Name y py) Γ.env)) (fun _ s' => Q .next s') acc C) hg hel hcell hkind hx hx₂ hxx htt rp (q := q) (by rw [e1]; exact e2) fun W2 h' tk' C D oC m₂ ys l2 hC hv hl aD aC cd r3 => ?_
 have r4 : Rep Γ W2 ρ q.2 ((D, lst ys) :: (C, oC) :: fr) h' := r3.less fun t ht => by
  rcases Zz7.mp ht with e | ht
  ·exact e ▸ List.mem_cons_of_mem _ Zz5
  ·rcases Zz7.mp ht with e | ht
   ·exact e ▸ List.mem_cons_self
   ·exact Zz2 _ (Zz2 _ ht)
 obtain ⟨W5, l5, r5, v5⟩ := Zgs r4 (fun t ht => by
  rcases Zz7.mp ht with e | ht
  ·rw [e]
   exact cd.symm
  ·exact aD t ht) hv hl
 refine wpAny_assign_Name (hy W5 ρ _ _ _ _ _ _ _ r5 v5 fun h6 t6 r6 => ?_)
 refine ⟨m₂, hC.ns (r6.frAt (q := (C, oC)) Zz5), fun h'' sb => ?_⟩
 have r7 : Rep Γ W5 (upd ρ i (.ref q.2.length)) (q.2 ++ [q.1]) ([] ++ fr) h'' :=
  Rep.swap (fs := [(C, oC)]) (fs' := []) r6 (fun q hq t ht => by rw [List.mem_singleton.mp hq]; exact aC t ht) (fun b o hb e => sb.extBut b o (fun z => hb (by simp [z])) e) fun q hq => nomatch hq
 exact post W5 h'' t6 (l2.trans l5) r7
end
end PM
end
section
set_option autoImplicit false
namespace PM
open PySem PySem.W PySem.Calls PyProof.Rows PyProof
noncomputable def Zdw (ns : List Int) : List Int := ns.mergeSort fun a b => decide (a ≤ b)
theorem Zqe {ns ms : List Int} (h1 : ms.Perm ns) (h2 : ms.Pairwise (· ≤ ·)) : ms = Zdw ns := by
 refine List.Perm.eq_of_pairwise (le := fun a b : Int => a ≤ b) (fun a b _ _ h h' => Int.le_antisymm h h') h2 ?_ (h1.trans (List.mergeSort_perm ns _).symm)
 have := List.pairwise_mergeSort (le := fun a b : Int => decide (a ≤ b)) (fun a b c h h' => by simp at *; omega) (fun a b => by simp; omega) ns
 unfold Zdw
 simpa using this
theorem Zug {ns : List Int} : (Zdw ns).length = ns.length := (List.mergeSort_perm ns _).length_eq
theorem ZnN {W : Wd} : ∀ {vs : List V} {xs : List Value} {ks : List Int}, VRs W vs xs → ZdG vs = some ks → IntsAre xs ks := by
 intro vs
 induction vs with
 | nil => intro xs ks h e; cases h; cases e; exact .nil
 | cons v vs ih =>
  intro xs ks h e
  cases h with
  | cons a b =>
   cases v with
   | int i =>
    obtain ⟨js, e1, e2⟩ := Zz1.mp e
    subst e2
    cases a with
    | int _ t => exact .cons i t (ih b e1)
   | none => cases e
   | bool => cases e
   | str => cases e
   | tup => cases e
   | ref => cases e
theorem ZqP {W : Wd} : ∀ {xs : List Value} {ks : List Int}, IntsAre xs ks → VRs W (ks.map V.int) xs
 | _, _, .nil => .nil
 | _, _, .cons n t r => .cons (.int n t) (ZqP r)
noncomputable def ZgN : List V → Hp → Option (V × Hp)
 | [.ref a], H => H[a]?.bind fun vs => (ZdG vs).bind fun ns => if vs.length < 64 then some (.ref H.length, H ++ [(Zdw ns).map V.int]) else none
 | _, _ => none
section
variable {prog : Program} {w : World}
theorem Zuh : OpN prog w (fun xs => call (.builtin "sorted") xs) ZgN := by
 intro Γ W ρ H fr s Q E as xs v H' r hx ho post
 unfold ZgN at ho
 split at ho
 ·obtain ⟨vs, e1, ho⟩ := Zz0.mp ho
  obtain ⟨ks, e3, ho⟩ := Zz0.mp ho
  split at ho
  ·rename_i h64
   cases ho
   obtain ⟨x, ex, rx⟩ := hx.one
   subst ex
   cases rx with
   | @ref _ a ea =>
    obtain ⟨hl, ys, k, hg, hv⟩ := r.at e1 ea
    have isl : s.heap.IsList a ys.toArray := ⟨_, hg, rfl, k, rfl⟩
    refine sorted_ints isl (ZnN hv e3) (by rw [hv.length]; exact h64) fun out ms a1 a2 a3 => ?_
    have em := Zqe a2 a3
    subst em
    obtain ⟨q, hq⟩ := sortedAll_at s.heap ys out
    have hlen : ks.length = vs.length := by rw [← hv.length]; exact (ZnN hv e3).length.symm
    obtain ⟨r2, ap⟩ := r.more (h' := sortedAll s.heap ys out) (fs := [(s.heap.objs.size + 1, Zb8 out.toList q)]) (fun b o hb => sortedAll_old hb) (fun u hu => by
     rw [List.mem_singleton.mp hu]
     refine ⟨?_, Nat.le_succ _⟩
     rw [hq])
    obtain ⟨W2, l2, r3, v3⟩ := Zgs r2 (fun t ht => ap _ Zz5 t ht) (ZqP a1) (by rw [List.length_map, Zug, hlen]; exact hl)
    exact post W2 _ s.toks _ l2 r3 v3
  ·cases ho
 ·cases ho
end
end PM
namespace PM
open PySem PySem.W PySem.Calls PyProof.Rows PyProof PySem.SeqAt
open SeqRoads2 MeetsSeq3 MeetsSeq2 MeetsSeq AutoSeq1
theorem Zty (l : Addr) (its : Array Value) (n : Nat) (dd : Option Addr) (sl : Array (Option Value)) (x : Value) (tk : Tok) (e : Value → Bool) (j : Nat) (hj : j < its.size) (h1 : 1 ≤ j) (small : (j : Int) < 2 ^ 63 - 1)
  (hit : e its[j] = true) (no : ∀ m (hm : m < its.size), 1 ≤ m → m < j → e its[m] = false) :
  Meets (Builtin.«list.index» ⟨[.ref l, x, .int 1 tk], []⟩) fun A R s => s.heap.get? l = some { cls := .type "list", dict := dd, data := .seq its n, slots := sl } ∧ (∀ y, y ∈ its → EqAt A.in1 s y x (e y)) ∧ R (.ok (.ret (.int j s.toks))) { s with toks := s.toks + 1 } := by
 intro prog w A R s h
 obtain ⟨hp, g, d, tk', os⟩ := s
 obtain ⟨hq0, he, h⟩ := h
 wp_walk using wpAny_loadPart' hq0
 have b1 : ((fun i : Int => if i < 0 then max 0 (i + (its.size : Int)) else i) ((some (1 : Int)).getD 0)) = ((1 : Nat) : Int) := by simp
 have b2 : ((fun i : Int => if i < 0 then max 0 (i + (its.size : Int)) else i) ((Option.none : Option Int).getD (2 ^ 63 - 1))) = 2 ^ 63 - 1 := by simp
 rw [b1, b2]
 refine ⟨plainId_quiet plain_index_loop _, codeAny_builtin entry_index_loop ?_⟩
 rw [Around.under_plainId plain_index_loop _]; exact index_loopAt l its n dd sl x e (2 ^ 63 - 1) j hj small hit _ 1 rfl h1 no prog w A R _ ⟨hq0, he, h⟩
section
variable {prog : Program} {w : World} {A : Around} {E : Value → Shared → Prop} {s : Shared}
theorem Ztd {l : Addr} {vs : List Value} {ns : List Int} {k : Int} {t t' : Tok} {Q : Value → Shared → Prop} (hl : s.heap.IsList l vs.toArray) (hi : IntsAre vs ns) (hn : ns.length ≤ 100000) (hk : k ∈ ns.drop 1)
  (h : Q (.int ((1 + (ns.drop 1).idxOf k : Nat)) s.toks) { s with toks := s.toks + 1 }) : wpAny (model prog w) A (call (.builtin "list.index") [.ref l, .int k t, .int 1 t']) Q E s := by
 obtain ⟨⟨c0, dd, da, sl⟩, ho, ec, n, ed⟩ := id hl
 simp only at ec ed
 subst ec ed
 have hlen := hi.length
 have hj : (ns.drop 1).idxOf k < (ns.drop 1).length := List.idxOf_lt_length_iff.mpr hk
 have hj' : 1 + (ns.drop 1).idxOf k < ns.length := by rw [List.length_drop] at hj; omega
 refine call_meets PySem.F.slot_list_index ⟨_, ho, rfl⟩ PySem.F.entry_list_index (PySem.F.args_list_index_3 _ _ _) (Zty l vs.toArray n dd sl (.int k t) t' (isInt k) (1 + (ns.drop 1).idxOf k) (by simpa [hlen] using hj') (by omega) (by omega) ?_ ?_) ⟨ho, fun y hy => (eq_isInt k t hi y (by simpa using hy)).at _ _, h⟩
 ·show isInt k vs[1 + (ns.drop 1).idxOf k] = true
  rw [isInt_at k hi _ (by omega) hj']
  have := List.getElem_idxOf hj
  rw [List.getElem_drop] at this
  simpa using this
 ·intro m hm h1 h2
  show isInt k vs[m] = false
  rw [isInt_at k hi m (by simpa using hm) (by have := hm; simp [hlen] at this; omega)]
  have hm' : m - 1 < (ns.drop 1).length := by rw [List.length_drop]; omega
  have := ne_of_lt_idxOf (k := k) (ns := ns.drop 1) (j := m - 1) (by omega) hm'
  rw [List.getElem_drop] at this
  simpa [show 1 + (m - 1) = m by omega] using this
end
noncomputable def Zi5 : V → V → V → Hp → Option (V × Hp)
 | .ref a, .int k, .int b, H => H[a]?.bind fun vs => (ZdG vs).bind fun ns => if b = 1 ∧ k ∈ ns.drop 1 then some (.int ((1 + (ns.drop 1).idxOf k : Nat) : Int), H) else none
 | _, _, _, _ => none
noncomputable def Zg1 (f g h : Ex) : Ex := fun ρ H => (f ρ H).bind fun p => (g ρ p.2).bind fun q => (h ρ q.2).bind fun u => Zi5 p.1 q.1 u.1 u.2
section
variable {prog : Program} {w : World} {Γ : Cx}
theorem Zte {a b c : V} {H : Hp} {r : V × Hp} (h : Zi5 a b c H = some r) : ∃ i k vs ns, a = .ref i ∧ b = .int k ∧ c = .int 1 ∧ H[i]? = some vs ∧ ZdG vs = some ns ∧ k ∈ ns.drop 1 ∧ r = (.int ((1 + (ns.drop 1).idxOf k : Nat) : Int), H) := by
 unfold Zi5 at h
 split at h
 ·obtain ⟨vs, e1, h⟩ := Zz0.mp h
  obtain ⟨ns, e2, h⟩ := Zz0.mp h
  split at h
  ·rename_i q
   cases h
   obtain ⟨rfl, q⟩ := q
   exact ⟨_, _, vs, ns, rfl, rfl, rfl, e1, e2, q, rfl⟩
  ·cases h
 ·cases h
theorem J.index {o e1 e2 : Expr} {apos pos : Pos} {f g k : Ex} (ho : J prog w Γ o f) (h1 : J prog w Γ e1 g) (h2 : J prog w Γ e2 k) (hbase : attributeBase o "index" Γ.env (eval o Γ.env) = eval o Γ.env := by rfl)
  (hline : (apos.endLine == pos.line) = true := by rfl) (htrees : backTo pos (starEach [e1, e2] Γ.env) = [(false, eval e1 Γ.env), (false, eval e2 Γ.env)] := by rfl) (hstay : ∀ ρ H p, f ρ H = some p → ∀ q, g ρ p.2 = some q → p.2 = q.2 := by intro _ _ _ _ _ h; cases h; rfl) (hstay2 : ∀ ρ H p, g ρ H = some p → ∀ q, k ρ p.2 = some q → p.2 = q.2 := by intro _ _ _ _ _ h; cases h; rfl) : J prog w Γ (.Call (.Attribute o "index" apos) [e1, e2] [] pos) (Zg1 f g k) := by
 intro W ρ H fr s Q E v H' r hx post
 obtain ⟨p, x1, hx⟩ := Zz0.mp hx
 obtain ⟨q, x2, hx⟩ := Zz0.mp hx
 obtain ⟨u, x3, x4⟩ := Zz0.mp hx
 obtain ⟨i, kk, vs, ns, ea, eb, ec, hvs, hns, hmem, er⟩ := Zte x4
 refine wpAny_Call_method2_late hbase hline htrees (ho W ρ H fr s _ E _ _ r x1 fun W1 k1 t1 x l1 r1 y1 => ?_)
 rw [ea] at y1
 have s1 := hstay ρ H p x1 q x2
 have s2 := hstay2 ρ p.2 q x2 u x3
 cases y1 with
 | @ref _ a aa =>
 obtain ⟨hl, xs, n, hg, hv⟩ := r1.at (by rw [s1, s2]; exact hvs) aa
 refine ⟨"list", "list.index", PySem.F.plainAttrs_list, PySem.F.slot_list_index, PySem.F.type_list_index, (show k1.IsList a xs.toArray from ⟨_, hg, rfl, n, rfl⟩).typeIs, fun b eb => by cases eb; exact ⟨_, hg, rfl⟩, ?_⟩
 refine Calls.callWith_builtin rfl (Calls.evalArgs_plain (Calls.spliced_cons ?_))
 refine h1 W1 ρ _ fr _ _ E _ _ r1 x2 fun W2 k2 t2 y l2 r2 y2 => Calls.spliced_cons ?_
 refine h2 W2 ρ _ fr _ _ E _ _ r2 x3 fun W3 k3 t3 z l3 r3 z3 => Calls.spliced_nil ?_
 rw [eb] at y2
 rw [ec] at z3
 cases y2 with
 | int _ ty =>
 cases z3 with
 | int _ tz =>
 obtain ⟨hl3, xs3, n3, hg3, hv3⟩ := r3.at hvs (l3.at (l2.at aa))
 rw [Zbn] at hl3
 have hI := ZnN hv3 hns
 refine Ztd ⟨_, hg3, rfl, n3, rfl⟩ hI (by rw [← hI.length, hv3.length]; omega) hmem ?_
 have := post W3 k3 (t3 + 1) (.int ((1 + (ns.drop 1).idxOf kk : Nat) : Int) t3) ((l1.trans l2).trans l3)
 cases er
 exact this r3 (.int _ _)
end
end PM
end
section
set_option autoImplicit false
namespace TM
open PySem PM
theorem Zqf {H : Hp} : ∀ ks : List Int, RFs H (ks.map V.int) (ks.map T.int) []
 | [] => .nil
 | k :: ks => .cons (.int k) (Zqf ks)
noncomputable def ZiN : List T → Option T
 | [.lst ts] => (Zdu ts).bind fun ns => if ts.length < 64 then some (.lst ((Zdw ns).map T.int)) else none
 | _ => none
theorem Zu7 : OCn ZgN ZiN := fun H vs ts t F hp r h => by
 unfold ZiN at h
 split at h
 ·obtain ⟨v, rfl, r'⟩ := r.one_inv
  cases r' with
  | ref e hs =>
   obtain ⟨ks, h1, h⟩ := Zz0.mp h
   split at h
   ·rename_i h64
    cases h
    refine ⟨_, [(Zdw ks).map V.int], _, ?_, Ze0 (Zqf (Zdw ks)), fun a m => ?_, fun _ => ?_⟩
    ·simp only [ZgN, e, Option.bind_some, ZiF hs h1]
     rw [if_pos (by rw [hs.length]; exact h64)]
    ·rcases Zz7.mp m with rfl | m
     ·exact .inl (Zz10 _)
     ·cases m
    ·simp
   ·cases h
 ·cases h
noncomputable def Zg2 (p q r : PE) : PE := fun σ => (p σ).bind fun t => (q σ).bind fun k => (r σ).bind fun b => match t, k, b with
 | .lst ts, .int k, .int b => (Zdu ts).bind fun ns => if b = 1 ∧ k ∈ ns.drop 1 then some (.int ((1 + (ns.drop 1).idxOf k : Nat) : Int)) else none
 | _, _, _ => none
section
variable {O N M K : List Nat} {u u' u'' : Bool}
theorem E.index {e1 e2 e3 : Ex} {p1 p2 p3 : PE} (x : E O N u e1 p1) (y : E O M u' e2 p2) (z : E O K u'' e3 p3) : E O [] true (Zg1 e1 e2 e3) (Zg2 p1 p2 p3) := fun c ρ σ H Φ t s h => by
 obtain ⟨t1, h1, h⟩ := Zz0.mp h
 obtain ⟨t2, h2, h⟩ := Zz0.mp h
 obtain ⟨t3, h3, h⟩ := Zz0.mp h
 obtain ⟨v1, X, F1, a1, a2, _, _⟩ := x c ρ σ H Φ t1 s h1
 obtain ⟨v2, Y, F2, b1, b2, _, _⟩ := y c ρ σ (H ++ X) Φ t2 (s.ext X) h2
 obtain ⟨v3, Z, F3, c1, c2, _, _⟩ := z c ρ σ (H ++ X ++ Y) Φ t3 ((s.ext X).ext Y) h3
 have a3 := (a2.ext Y).ext Z
 split at h
 ·obtain ⟨ns, e1, h⟩ := Zz0.mp h
  split at h
  ·rename_i hc
   cases h
   cases b2
   cases c2
   cases a3 with
   | ref e hs =>
    refine ⟨_, X ++ Y ++ Z, [], ?_, .int _, by simp, by simp⟩
    have e' := e
    simp only [Zg1, a1, b1, c1, Option.bind_some, Zi5, e', ZiF hs e1]
    rw [if_pos hc]
    simp
  ·cases h
 ·cases h
end
section
variable {σ : TL} {Q : T → Prop}
end
end TM
end
section
set_option autoImplicit false
namespace TM
open PySem PM
theorem Zpv {nx : Nx} {put : V → Lc → Option Lc} {b : Sm} (hp : ∀ v ρ ρ', put v ρ = some ρ' → ρ' 0 = ρ 0) (hb : Keep0 b) : ∀ n i, Keep0 (Zdt nx put b n i)
 | 0, _ => fun _ _ _ h => by cases h
 | n + 1, i => fun ρ H r h => by
  obtain ⟨o, _, h⟩ := Zz0.mp h
  split at h
  ·cases h; rfl
  ·obtain ⟨ρ1, e1, h⟩ := Zz0.mp h
   obtain ⟨q, e2, h⟩ := Zz0.mp h
   have k := (hb _ _ _ e2).trans (hp _ _ _ e1)
   split at h
   ·cases h; exact k
   ·exact (Zpv hp hb n (i + 1) _ _ _ h).trans k
theorem ZpP {g : Src} {put : V → Lc → Option Lc} {b : Sm} (hp : ∀ v ρ ρ', put v ρ = some ρ' → ρ' 0 = ρ 0) (hb : Keep0 b) : Keep0 (ZaN g put b) := fun ρ H r h => by
 obtain ⟨z, _, h⟩ := Zz0.mp h
 exact Zpv hp hb _ _ _ _ _ h
theorem Zpw {i : Nat} (hi : 0 ≠ i) : ∀ v ρ ρ', PM.put1 i v ρ = some ρ' → ρ' 0 = ρ 0 := fun v ρ ρ' h => by
 cases h
 simp [upd, hi]
end TM
end
section
set_option autoImplicit false
namespace PM
open PySem PySem.W PySem.Calls PyProof.Rows PyProof PySem.Spec
section
variable {prog : Program} {w : World} {Γ : Cx}
theorem ln1 {α : Type _} : ∀ {xs : List α}, xs.length = 1 → ∃ x0, xs = [x0]
 | [x0], _ => ⟨x0, rfl⟩
theorem ln2 {α : Type _} : ∀ {xs : List α}, xs.length = 2 → ∃ x0 x1, xs = [x0, x1]
 | [x0, x1], _ => ⟨x0, x1, rfl⟩
theorem ln3 {α : Type _} : ∀ {xs : List α}, xs.length = 3 → ∃ x0 x1 x2, xs = [x0, x1, x2]
 | [x0, x1, x2], _ => ⟨x0, x1, x2, rfl⟩
theorem ln4 {α : Type _} : ∀ {xs : List α}, xs.length = 4 → ∃ x0 x1 x2 x3, xs = [x0, x1, x2, x3]
 | [x0, x1, x2, x3], _ => ⟨x0, x1, x2, x3, rfl⟩
theorem ln5 {α : Type _} : ∀ {xs : List α}, xs.length = 5 → ∃ x0 x1 x2 x3 x4, xs = [x0, x1, x2, x3, x4]
 | [x0, x1, x2, x3, x4], _ => ⟨x0, x1, x2, x3, x4, rfl⟩
theorem ln6 {α : Type _} : ∀ {xs : List α}, xs.length = 6 → ∃ x0 x1 x2 x3 x4 x5, xs = [x0, x1, x2, x3, x4, x5]
 | [x0, x1, x2, x3, x4, x5], _ => ⟨x0, x1, x2, x3, x4, x5, rfl⟩
theorem ln7 {α : Type _} : ∀ {xs : List α}, xs.length = 7 → ∃ x0 x1 x2 x3 x4 x5 x6, xs = [x0, x1, x2, x3, x4, x5, x6]
 | [x0, x1, x2, x3, x4, x5, x6], _ => ⟨x0, x1, x2, x3, x4, x5, x6, rfl⟩
theorem jI {k : Int} {n : Nat} {pos : Pos} : J prog w Γ (.Constant (.int k) n pos) (Zl k) := J.int _ _ _
theorem jN {n : Nat} {pos : Pos} : J prog w Γ (.Constant .none n pos) Z1 := J.none _ _
theorem jB {b : Bool} {n : Nat} {pos : Pos} : J prog w Γ (.Constant (.bool b) n pos) (Zb6 b) := J.bool _ _ _
theorem jS {x : Str} {n : Nat} {pos : Pos} : J prog w Γ (.Constant (.str x) n pos) (ZeY x) := J.str _ _ _
theorem cO {elt iter : Expr} {x : Str} {px : Pos} {ifs : List Expr} {scope : Scope} {pos : Pos} {cl : List (Str × Addr)} {t : Nat} {g : Src} {c : Ts} {f : Ex} (hg : JI prog w Γ iter g) (hel : ∀ C ρ, J prog w (ZbA Γ scope cl C [(x, t)] ρ) elt f) (hif : ∀ C ρ, JF prog w (ZbA Γ scope cl C [(x, t)] ρ) ifs c)
  (hclos : closureFor scope Γ.env = pure cl := by with_unfolding_all rfl) (hcell : ∀ y ∈ scope.names, y.2 ≠ .cell := by decide) (hkind : scope.kind = .function := by exact rfl) (hnames : ∀ y ∈ scope.names, y.2 = .local → scope.names.lookup y.1 = some .local := by decide) (hx : scope.names.lookup x = some .local := by exact rfl) (hs : ∀ x, foldedSetIterable iter Γ.env x = pure x := by intro _; rfl) :
  J prog w Γ (.ListComp elt [⟨.Name x px, iter, ifs, 0⟩] scope pos) (ZaJ g (put1 t) c f) := ZwM hg hel hif hclos hcell hkind hnames hx hs
theorem cT {elt iter : Expr} {x x₂ : Str} {px px₂ tp : Pos} {kt : Nat} {scope : Scope} {pos : Pos} {cl : List (Str × Addr)} {t t₂ : Nat} {g : Src} {f : Ex} (hg : JI2 prog w Γ iter g) (hel : ∀ C ρ, J prog w (ZbA Γ scope cl C [(x, t), (x₂, t₂)] ρ) elt f)
  (hclos : closureFor scope Γ.env = pure cl := by with_unfolding_all rfl) (hcell : ∀ y ∈ scope.names, y.2 ≠ .cell := by decide) (hkind : scope.kind = .function := by exact rfl) (hnames : ∀ y ∈ scope.names, y.2 = .local → scope.names.lookup y.1 = some .local := by decide) (hx : scope.names.lookup x = some .local := by exact rfl) (hx₂ : scope.names.lookup x₂ = some .local := by exact rfl) (hxx : x ≠ x₂ := by decide) (htt : t ≠ t₂ := by decide) (hs : ∀ x, foldedSetIterable iter Γ.env x = pure x := by intro _; rfl) :
  J prog w Γ (.ListComp elt [⟨.Tuple [.Name x px, .Name x₂ px₂] kt tp, iter, [], 0⟩] scope pos) (ZaJ g (ZcB t t₂) Zan f) := Zvz hg hel hclos hcell hkind hnames hx hx₂ hxx htt hs
theorem sO {elt iter : Expr} {x y : Str} {px py pos spos : Pos} {ifs : List Expr} {scope : Scope} {cl : List (Str × Addr)} {t i : Nat} {g : Src} {c : Ts} {f : Ex} (hy : Sto prog w Γ y i) (hg : JI prog w Γ iter g) (hel : ∀ C ρ, J prog w (ZbA Γ scope cl C [(x, t)] ρ) elt f) (hif : ∀ C ρ, JF prog w (ZbA Γ scope cl C [(x, t)] ρ) ifs c)
  (hsw : swapsWith (.ListComp elt [⟨.Name x px, iter, ifs, 0⟩] scope pos) (some (.Name y py)) spos.line Γ.env = pure true := by rfl)
  (hclos : closureFor scope Γ.env = pure cl := by with_unfolding_all rfl) (hcell : ∀ y ∈ scope.names, y.2 ≠ .cell := by decide) (hkind : scope.kind = .function := by exact rfl) (hnames : ∀ y ∈ scope.names, y.2 = .local → scope.names.lookup y.1 = some .local := by decide) (hx : scope.names.lookup x = some .local := by exact rfl) (hs : ∀ x, foldedSetIterable iter Γ.env x = pure x := by intro _; rfl) :
  S1 prog w Γ (.Assign [.Name y py] (.ListComp elt [⟨.Name x px, iter, ifs, 0⟩] scope pos) spos) (ZO i (ZaJ g (put1 t) c f)) := Ztv hy hg hel hif hsw hclos hcell hkind hnames hx hs
theorem sT {elt iter : Expr} {x x₂ y : Str} {px px₂ tp py pos spos : Pos} {kt : Nat} {scope : Scope} {cl : List (Str × Addr)} {t t₂ i : Nat} {g : Src} {f : Ex} (hy : Sto prog w Γ y i) (hg : JI2 prog w Γ iter g) (hel : ∀ C ρ, J prog w (ZbA Γ scope cl C [(x, t), (x₂, t₂)] ρ) elt f)
  (hsw : swapsWith (.ListComp elt [⟨.Tuple [.Name x px, .Name x₂ px₂] kt tp, iter, [], 0⟩] scope pos) (some (.Name y py)) spos.line Γ.env = pure true := by rfl)
  (hclos : closureFor scope Γ.env = pure cl := by with_unfolding_all rfl) (hcell : ∀ y ∈ scope.names, y.2 ≠ .cell := by decide) (hkind : scope.kind = .function := by exact rfl) (hnames : ∀ y ∈ scope.names, y.2 = .local → scope.names.lookup y.1 = some .local := by decide) (hx : scope.names.lookup x = some .local := by exact rfl) (hx₂ : scope.names.lookup x₂ = some .local := by exact rfl) (hxx : x ≠ x₂ := by decide) (htt : t ≠ t₂ := by decide) (hs : ∀ x, foldedSetIterable iter Γ.env x = pure x := by intro _; rfl) :
  S1 prog w Γ (.Assign [.Name y py] (.ListComp elt [⟨.Tuple [.Name x px, .Name x₂ px₂] kt tp, iter, [], 0⟩] scope pos) spos) (ZO i (ZaJ g (ZcB t t₂) Zan f)) := Ztc hy hg hel hsw hclos hcell hkind hnames hx hx₂ hxx htt hs
end
section
variable {prog : Program} {w : World} {dp un : Nat} {gd : Option (List Code)} {cn : Str} {cs : Scope} {L a : Addr} {ccd : Value} {cl : List (Str × Addr)} {outer : List Env} {h₀ : Heap} {hu : un + 200 < cLine} {names : List Str}
theorem vL {x : Str} {i : Nat} {pos : Pos} (hi : names[i]? = some x := by rfl) (hx : cs.names.lookup x = some .local := by exact rfl) (hk : cs.kind = .function := by exact rfl) (hd : (x == ("__debug__" : Str)) = false := by exact rfl) : J prog w (ZbY dp un gd cn cs L a ccd cl outer h₀ hu names) (.Name x pos) (Zb i) := Zji (ZwK hi hx hk hd)
theorem vC {x : Str} {i : Nat} {pos : Pos} (hi : names[i]? = some x := by rfl) (hx : cs.names.lookup x = some .cell := by exact rfl) (hk : cs.kind = .function := by exact rfl) (hd : (x == ("__debug__" : Str)) = false := by exact rfl) : J prog w (ZbY dp un gd cn cs L a ccd cl outer h₀ hu names) (.Name x pos) (Zb i) := Zji (ZwL hi hx hk hd)
theorem sL {x : Str} {i : Nat} (nd : names.Nodup := by decide) (hi : names[i]? = some x := by rfl) (hx : cs.names.lookup x = some .local := by exact rfl) (hk : cs.kind = .function := by exact rfl) : Sto prog w (ZbY dp un gd cn cs L a ccd cl outer h₀ hu names) x i := Zvw nd hi hx hk
theorem sC {x : Str} {i : Nat} (nd : names.Nodup := by decide) (hi : names[i]? = some x := by rfl) (hx : cs.names.lookup x = some .cell := by exact rfl) (hk : cs.kind = .function := by exact rfl) (hcl : (cl.lookup x).isSome = true := by exact rfl) : Sto prog w (ZbY dp un gd cn cs L a ccd cl outer h₀ hu names) x i := Zvx nd hi hx hk hcl
end
section
variable {prog : Program} {w : World} {K : Frag} {p : Program} {loose : List Str} {mean : ExcName → Option Value} {mg mb : Str → Option Value} {Γ : Cx} {dp un : Nat}
theorem nB {x : Str} {v : Value} (clr : Clr K p loose mean mg mb Γ dp un) (e : nsIn K mainGlobals x = some Option.none := by k_is) (hv : bootBuiltins x = some v := by boot_by_name) (hn : x ≠ "__name__" := by decide) (hg : Γ.env.globals = mainGlobals := by exact rfl) (hb : Γ.env.builtins = builtinsNs := by exact rfl) (hk : Γ.env.scope.kind = .function := by exact rfl) (hx : Γ.env.kindOf x = some .globalImplicit := by exact rfl) (hd : (x == ("__debug__" : Str)) = false := by exact rfl) : Nm prog w Γ x v := ZuL clr e hv hn hg hb hk hx hd
theorem cF {x : Str} {np pos : Pos} {f : Addr} {room : Nat} {e : Expr} {es : List Expr} {g : Exs} {o : List V → Hp → Option (V × Hp)} (clr : Clr K p loose mean mg mb Γ dp un) (D : Def prog w K p loose mean mg mb f room o) (h : Js prog w Γ (e :: es) g)
  (en : nsIn K mainGlobals x = some (some (.ref f)) := by k_is) (hg : Γ.env.globals = mainGlobals := by exact rfl) (hk : Γ.env.scope.kind = .function := by exact rfl) (hx : Γ.env.kindOf x = some .globalImplicit := by exact rfl) (hd0 : (x == ("__debug__" : Str)) = false := by exact rfl)
  (hkeep : keepIn K (.ref f) = true := by k_is) (hd : dp + room < recursionLimit := by omega) (hu : un + 10 * room + 300 < cLine := by omega)
  (he : starEach (e :: es) Γ.env = (false, eval e Γ.env) :: starEach es Γ.env := by rfl) (hp : ∀ pos, (backTo pos (starEach es Γ.env)).any (·.1) = false := by intro _; rfl) : J prog w Γ (.Call (.Name x np) (e :: es) [] pos) (Zv o g) := ZvA clr (ZwQ clr en hg hk hx hd0) hkeep D hd hu h he hp
theorem Dof {name qual : Str} {params : Arguments} {body : List Stmt} {scope : Scope} {dV kV doc pm cdv ct oc : Value} {an od : Option Addr} {osl : Array (Option Value)} {f : Addr} {names : List Str} {n room : Nat} {g : Sm}
  (hbody : ∀ (dp un : Nat) (gd : Option (List Code)) (L : Addr) (outer : List Env) (h₀ : Heap) (hu : un + 200 < cLine), Clr K p loose mean mg mb (ZbY dp un gd qual scope L f cdv (cellsFrom (L + 1) scope.names []) outer h₀ hu names) dp un → dp + room < recursionLimit → un + 10 * room + 300 < cLine →
   Ss prog w (ZbY dp un gd qual scope L f cdv (cellsFrom (L + 1) scope.names []) outer h₀ hu names) body g)
  (ho : K.lookup f = some ⟨oc, od, .func (fnOf name qual params body scope dV kV doc pm an cdv ct), osl⟩ := by k_is) (hcd : codeIn K cdv qual = true := by k_is) (nd : names.Nodup := by decide) (hn : n ≤ names.length := by decide)
  (hbind : ∀ s xs, xs.length = n → BindsTo s (fnOf name qual params body scope dV kV doc pm an cdv ct) ⟨xs, []⟩ ((names.take n).zip xs) := by
   intro s xs hx
   first
   | (obtain ⟨x0, rfl⟩ := ln1 hx; exact BindsTo.of_eq rfl)
   | (obtain ⟨x0, x1, rfl⟩ := ln2 hx; exact BindsTo.of_eq rfl)
   | (obtain ⟨x0, x1, x2, rfl⟩ := ln3 hx; exact BindsTo.of_eq rfl)
   | (obtain ⟨x0, x1, x2, x3, rfl⟩ := ln4 hx; exact BindsTo.of_eq rfl)
   | (obtain ⟨x0, x1, x2, x3, x4, rfl⟩ := ln5 hx; exact BindsTo.of_eq rfl)
   | (obtain ⟨x0, x1, x2, x3, x4, x5, rfl⟩ := ln6 hx; exact BindsTo.of_eq rfl)
   | (obtain ⟨x0, x1, x2, x3, x4, x5, x6, rfl⟩ := ln7 hx; exact BindsTo.of_eq rfl)) (hkinds : ∀ x ∈ names.take n, scope.names.lookup x = some .local ∨ scope.names.lookup x = some .cell := by decide) (hone : ((cellsFrom 0 scope.names []).map (·.1)).Nodup := by decide +kernel)
  (hco : scope.isCoroutine = false := by exact rfl) (hgen : scope.isGenerator = false := by exact rfl) (hk : scope.kind = .function := by exact rfl) :
  Def prog w K p loose mean mg mb f (room + 1) (Zaa n g) := Zrj ho hcd nd hn hbind hkinds hone hco hgen hk hbody
end
section
variable {prog : Program} {w : World} {Γ : Cx} {scope : Scope} {cl : List (Str × Addr)} {C : Addr} {ts : List (Str × Nat)} {ρ0 : Lc}
theorem vO {x : Str} {t : Nat} {pos : Pos} (hm : (x, t) ∈ ts := by first | exact Zz5 | exact Zz2 _ Zz5) (hk : scope.kind = .function := by exact rfl) (hl : (compEnvC scope cl C Γ.env).kindOf x = some .local := by exact rfl) (hd : (x == ("__debug__" : Str)) = false := by exact rfl) : J prog w (ZbA Γ scope cl C ts ρ0) (.Name x pos) (Zb t) := Zji (ZvC hm hk hl hd)
end
section
variable {prog : Program} {w : World} {dp un : Nat} {gd : Option (List Code)} {cn : Str} {cs : Scope} {L a : Addr} {ccd : Value} {clf : List (Str × Addr)} {outer : List Env} {h₀ : Heap} {hu : un + 200 < cLine} {names : List Str} {scope : Scope} {cl : List (Str × Addr)} {C : Addr} {ts : List (Str × Nat)} {ρ0 : Lc}
theorem vD {x : Str} {i : Nat} {pos : Pos} (hi : names[i]? = some x := by rfl) (hx : cs.names.lookup x = some .cell := by exact rfl) (hne : ∀ p ∈ ts, p.2 ≠ i := by decide) (hcl : cl.lookup x = clf.lookup x := by exact rfl) (hk : scope.kind = .function := by exact rfl) (hl : (compEnvC scope cl C (envX cn cs L a ccd clf)).kindOf x = some .cell := by exact rfl) (hd : (x == ("__debug__" : Str)) = false := by exact rfl) :
  J prog w (ZbA (ZbY dp un gd cn cs L a ccd clf outer h₀ hu names) scope cl C ts ρ0) (.Name x pos) (Zb i) := Zji (ZvD hi hx hne hcl hk hl hd)
end
end PM
end
section
open PySem PM TM
namespace L
variable {H : Hp} {a : V} {t : T} {F : List Nat} {ρ : Lc} {σ : TL}
noncomputable def Zk9 : Sm := Zw (ZO 2 (Zj Zai (Zj ZaY (Zj ZaY (Zb 1) (Zb 1)) (Zl 7919)) (Zl 11))) (Zw (ZX (ZG (Zj oGt (Zv ZaK (Zf (Zb 0) Zo)) (Zl 0))) (ZO 2 (Zj Zai (Zb 2) (Zj Zu (Zb 0) (Zj oMod (Zb 1) (Zv ZaK (Zf (Zb 0) Zo)))))) Z2) (ZH (Zb 2)))
noncomputable def ZhM := Zaa 2 Zk9
noncomputable def Zla : PS := (Zt (ZJ 2 (Ze Zah (Ze ZaG (Ze ZaG (Za 1) (Za 1)) (Zk 7919)) (Zk 11))) (Zt (ZQ (ZE (Ze qGt (Zs Zas (Zd (Za 0) Zn)) (Zk 0))) (ZJ 2 (Ze Zah (Za 2) (Ze Zr (Za 0) (Ze Zbc (Za 1) (Zs Zas (Zd (Za 0) Zn)))))) ZV) (ZF (Za 2))))
noncomputable def Zge := Zac 2 Zla
theorem Zpd : SimF false ZhM Zge := Zag (show S [] [] [] false Zk9 Zla from (Zz (ZZ (O' := []) (Zae Zam (Zae Zba (Zae Zba (Zc 1) (Zc 1)) (Zm _)) (Zm _))) (Zz (Z4 (ZK (ZD Zdz (Zax ZaW (Zh (Zc 0) Zp)) (Zm _))) (ZZ (O' := []) (Zae Zam (Zc 2) (ZB ZA (Zc 0) (ZD Zbq (Zc 1) (Zax ZaW (Zh (Zc 0) Zp)))))) Z7) (ZW (Zc 2)))))
noncomputable def ZlP : Sm := ZH (Zj oMod (Zj oMod (Zj ZaY (Zv ZhM (Zf (Zb 0) (Zf (Zb 1) Zo))) (Zl 48271)) (Zl 2147483647)) (Zb 2))
noncomputable def Zb3 := Zaa 3 ZlP
noncomputable def ZlQ : PS := (ZF (Ze Zbc (Ze Zbc (Ze ZaG (Zs Zge (Zd (Za 0) (Zd (Za 1) Zn))) (Zk 48271)) (Zk 2147483647)) (Za 2)))
noncomputable def ZbS := Zac 3 ZlQ
theorem Zce : SimF false Zb3 ZbS := Zag (show S [] [] [] false ZlP ZlQ from (ZW (ZD Zbq (ZD Zbq (Zae Zba (ZL Zpd (Zh (Zc 0) (Zh (Zc 1) Zp))) (Zm _)) (Zm _)) (Zc 2))))
noncomputable def ZkE : Sm := Zw (ZO 2 (Zv ZhM (Zf (Zb 0) (Zf (Zb 1) Zo)))) (Zw (ZO 3 (Zj Zu (Zcc (Zf (Zl 3) (Zf (Zl 9) (Zf (Zj oPow (Zl 10) (Zl 9)) (Zf (Zj oPow (Zl 10) (Zl 40)) Zo))))) (Zj oMod (Zj oMod (Zj ZaY (Zb 2) (Zl 69621)) (Zl 2147483629)) (Zl 4)))) (ZH (Zj Zbm (Zj oMod (Zj ZaY (Zb 2) (Zj oPow (Zl 48271) (Zl 9))) (Zj Zai (Zj ZaY (Zl 2) (Zb 3)) (Zl 1))) (Zb 3))))
noncomputable def Zey := Zaa 2 ZkE
noncomputable def ZkF : PS := (Zt (ZJ 2 (Zs Zge (Zd (Za 0) (Zd (Za 1) Zn)))) (Zt (ZJ 3 (Ze Zr (Zb7 (Zd (Zk 3) (Zd (Zk 9) (Zd (Ze Zdy (Zk 10) (Zk 9)) (Zd (Ze Zdy (Zk 10) (Zk 40)) Zn))))) (Ze Zbc (Ze Zbc (Ze ZaG (Za 2) (Zk 69621)) (Zk 2147483629)) (Zk 4)))) (ZF (Ze Za6 (Ze Zbc (Ze ZaG (Za 2) (Ze Zdy (Zk 48271) (Zk 9))) (Ze Zah (Ze ZaG (Zk 2) (Za 3)) (Zk 1))) (Za 3)))))
noncomputable def Zed := Zac 2 ZkF
theorem Zf7 : SimF false Zey Zed := Zag (show S [] [] [] false ZkE ZkF from (Zz (ZZ (O' := []) (ZL Zpd (Zh (Zc 0) (Zh (Zc 1) Zp)))) (Zz (ZZ (O' := []) (ZB ZA (E.list (Zh (Zm _) (Zh (Zm _) (Zh (ZD Zot (Zm _) (Zm _)) (Zh (ZD Zot (Zm _) (Zm _)) Zp))))) (ZD Zbq (ZD Zbq (Zae Zba (Zc 2) (Zm _)) (Zm _)) (Zm _)))) (ZW (ZD Zbw (ZD Zbq (Zae Zba (Zc 2) (ZD Zot (Zm _) (Zm _))) (Zae Zam (Zae Zba (Zm _) (Zc 3)) (Zm _))) (Zc 3))))))
noncomputable def Zlb : Sm := Zw (ZO 2 (Zv Zb3 (Zf (Zb 0) (Zf (Zb 1) (Zf (Zl 42) Zo))))) (Zw (ZX (ZG (Zj oLt (Zj oMod (Zb 2) (Zl 6)) (Zl 2))) (ZH (Z1)) Z2) (Zw (ZX (ZG (Zj oLt (Zj oMod (Zb 2) (Zl 6)) (Zl 4))) (ZH (Zl 0)) Z2) (Zw (ZX (ZG (Zj oEq (Zj oMod (Zb 2) (Zl 6)) (Zl 4))) (ZH (Zj oDiv (Zb 2) (Zl 6))) Z2) (ZH (Zv Zdd (Zf (Zv Zey (Zf (Zb 0) (Zf (Zb 1) Zo))) Zo))))))
noncomputable def Zlc := Zaa 2 Zlb
noncomputable def Zld : PS := (Zt (ZJ 2 (Zs ZbS (Zd (Za 0) (Zd (Za 1) (Zd (Zk 42) Zn))))) (Zt (ZQ (ZE (Ze qLt (Ze Zbc (Za 2) (Zk 6)) (Zk 2))) (ZF (ZT)) ZV) (Zt (ZQ (ZE (Ze qLt (Ze Zbc (Za 2) (Zk 6)) (Zk 4))) (ZF (Zk 0)) ZV) (Zt (ZQ (ZE (Ze qEq (Ze Zbc (Za 2) (Zk 6)) (Zk 4))) (ZF (Ze ZcC (Za 2) (Zk 6))) ZV) (ZF (Zs Zde (Zd (Zs Zed (Zd (Za 0) (Zd (Za 1) Zn))) Zn)))))))
noncomputable def ZhN := Zac 2 Zld
theorem Ztf : SimF false Zlc ZhN := Zag (show S [] [] [] false Zlb Zld from (Zz (ZZ (O' := []) (ZL Zce (Zh (Zc 0) (Zh (Zc 1) (Zh (Zm _) Zp))))) (Zz (Z4 (ZK (ZD Zcr (ZD Zbq (Zc 2) (Zm _)) (Zm _))) (ZW (Z9)) Z7) (Zz (Z4 (ZK (ZD Zcr (ZD Zbq (Zc 2) (Zm _)) (Zm _))) (ZW (Zm _)) Z7) (Zz (Z4 (ZK (ZD ZaO (ZD Zbq (Zc 2) (Zm _)) (Zm _))) (ZW (ZD Zda (Zc 2) (Zm _))) Z7) (ZW (Zax Zd7 (Zh (ZL Zf7 (Zh (Zc 0) (Zh (Zc 1) Zp))) Zp))))))))
noncomputable def Zkd : Sm := Zw (ZX (ZG (Zj oEq (Zb 0) (Zl 0))) (ZH (ZaS (Zf (Zl 0) (Zf (Zb 1) Zo)))) Z2) (ZH (ZaS (Zf (Zb 0) (Zf (Zj oMod (Zb 1) (Zb 0)) Zo))))
noncomputable def ZdN := Zaa 2 Zkd
noncomputable def Zke : PS := (Zt (ZQ (ZE (Ze qEq (Za 0) (Zk 0))) (ZF (ZaV (Zd (Zk 0) (Zd (Za 1) Zn)))) ZV) (ZF (ZaV (Zd (Za 0) (Zd (Ze Zbc (Za 1) (Za 0)) Zn)))))
noncomputable def ZdB := Zac 2 Zke
theorem Zew : SimF false ZdN ZdB := Zag (show S [] [] [] false Zkd Zke from (Zz (Z4 (ZK (ZD ZaO (Zc 0) (Zm _))) (ZW (E.tup (Zh (Zm _) (Zh (Zc 1) Zp)))) Z7) (ZW (E.tup (Zh (Zc 0) (Zh (ZD Zbq (Zc 1) (Zc 0)) Zp))))))
noncomputable def ZlR : Sm := Zw (ZO 3 (Zv Zb3 (Zf (Zb 0) (Zf (Zb 1) (Zf (Zl 60) Zo))))) (Zw (ZX (ZG (Zj oLt (Zj oMod (Zb 3) (Zl 5)) (Zl 2))) (ZH (ZaS (Zf (Zl 1) (Zf (Zl 0) Zo)))) Z2) (Zw (ZX (ZG (Zj oEq (Zj oMod (Zb 3) (Zl 5)) (Zl 2))) (ZH (ZaS (Zf (Zl 0) (Zf (Zb 2) Zo)))) Z2) (Zw (ZX (ZG (Zj oEq (Zj oMod (Zb 3) (Zl 5)) (Zl 3))) (ZH (Zv ZdN (Zf (Zj Zai (Zj oDiv (Zb 3) (Zl 5)) (Zl 1)) (Zf (Zb 2) Zo)))) Z2) (ZH (Zv ZdN (Zf (Zv Zdd (Zf (Zv Zey (Zf (Zb 0) (Zf (Zb 1) Zo))) Zo)) (Zf (Zb 2) Zo)))))))
noncomputable def ZlS := Zaa 3 ZlR
noncomputable def ZlT : PS := (Zt (ZJ 3 (Zs ZbS (Zd (Za 0) (Zd (Za 1) (Zd (Zk 60) Zn))))) (Zt (ZQ (ZE (Ze qLt (Ze Zbc (Za 3) (Zk 5)) (Zk 2))) (ZF (ZaV (Zd (Zk 1) (Zd (Zk 0) Zn)))) ZV) (Zt (ZQ (ZE (Ze qEq (Ze Zbc (Za 3) (Zk 5)) (Zk 2))) (ZF (ZaV (Zd (Zk 0) (Zd (Za 2) Zn)))) ZV) (Zt (ZQ (ZE (Ze qEq (Ze Zbc (Za 3) (Zk 5)) (Zk 3))) (ZF (Zs ZdB (Zd (Ze Zah (Ze ZcC (Za 3) (Zk 5)) (Zk 1)) (Zd (Za 2) Zn)))) ZV) (ZF (Zs ZdB (Zd (Zs Zde (Zd (Zs Zed (Zd (Za 0) (Zd (Za 1) Zn))) Zn)) (Zd (Za 2) Zn))))))))
noncomputable def Zh3 := Zac 3 ZlT
theorem Ztz : SimF false ZlS Zh3 := Zag (show S [] [] [] false ZlR ZlT from (Zz (ZZ (O' := []) (ZL Zce (Zh (Zc 0) (Zh (Zc 1) (Zh (Zm _) Zp))))) (Zz (Z4 (ZK (ZD Zcr (ZD Zbq (Zc 3) (Zm _)) (Zm _))) (ZW (E.tup (Zh (Zm _) (Zh (Zm _) Zp)))) Z7) (Zz (Z4 (ZK (ZD ZaO (ZD Zbq (Zc 3) (Zm _)) (Zm _))) (ZW (E.tup (Zh (Zm _) (Zh (Zc 2) Zp)))) Z7) (Zz (Z4 (ZK (ZD ZaO (ZD Zbq (Zc 3) (Zm _)) (Zm _))) (ZW (ZL Zew (Zh (Zae Zam (ZD Zda (Zc 3) (Zm _)) (Zm _)) (Zh (Zc 2) Zp)))) Z7) (ZW (ZL Zew (Zh (Zax Zd7 (Zh (ZL Zf7 (Zh (Zc 0) (Zh (Zc 1) Zp))) Zp)) (Zh (Zc 2) Zp)))))))))
noncomputable def ZlU : Sm := Zw (ZO 3 (Zj Zai (Zcc (Zf (Zl 0) Zo)) (Zb 2))) (Zw (ZO 4 (Zv ZaK (Zf (Zb 3) Zo))) (Zw (ZO 5 (Zcc Zo)) (Zw (ZaN (ZaQ (Zf (Zb 4) Zo)) (put1 6) (Zw (ZO 7 (Zcc Zo)) (Zw (ZaN (ZaQ (Zf (Zb 4) Zo)) (put1 8) (Zw (ZO 9 (Zv Zlc (Zf (Zb 0) (Zf (Zj Zai (Zj Zai (Zb 1) (Zj ZaY (Zb 6) (Zb 4))) (Zb 8)) Zo)))) (Zw (ZX (ZG (Zj Zbu (Zb 9) (Z1))) (ZO 9 (Zj Zai (Zj Zbm (Zj Zu (Zb 3) (Zb 6)) (Zj Zu (Zb 3) (Zb 8))) (Zb 9))) Z2) (ZcA (ZeJ (Zb 7) (Zb 9)))))) (Zw (ZbJ (Zl 0) (Zb 7) (Zb 6)) (ZcA (ZeJ (Zb 5) (Zb 7))))))) (ZH (ZaS (Zf (Zb 5) (Zf (ZaJ (ZaQ (Zf (Zj Zbm (Zb 4) (Zl 1)) Zo)) (put1 100) Zan (Zv ZlS (Zf (Zb 0) (Zf (Zj Zai (Zj Zai (Zb 1) (Zj ZaY (Zb 4) (Zb 4))) (Zb 100)) (Zf (Zj Zu (Zb 2) (Zb 100)) Zo))))) Zo)))))))
noncomputable def ZlV := Zaa 3 ZlU
noncomputable def ZlW : PS := (Zt (ZJ 3 (Ze Zah (Zb7 (Zd (Zk 0) Zn)) (Za 2))) (Zt (ZJ 4 (Zs Zas (Zd (Za 3) Zn))) (Zt (ZJ 5 (Zb7 Zn)) (Zt (ZaC (ZaF (Zd (Za 4) Zn)) (Zad 6) (Zt (ZJ 7 (Zb7 Zn)) (Zt (ZaC (ZaF (Zd (Za 4) Zn)) (Zad 8) (Zt (ZJ 9 (Zs ZhN (Zd (Za 0) (Zd (Ze Zah (Ze Zah (Za 1) (Ze ZaG (Za 6) (Za 4))) (Za 8)) Zn)))) (Zt (ZQ (ZE (Ze ZaP (Za 9) (ZT))) (ZJ 9 (Ze Zah (Ze Za6 (Ze Zr (Za 3) (Za 6)) (Ze Zr (Za 3) (Za 8))) (Za 9))) ZV) (Zc1 7 [] ZaD (ZbW (Za 9)))))) (Zt (Za3 7 [] (Zk 0) ZaD (Za 6)) (Zc1 5 [7] ZaD (Za 7)))))) (ZF (ZaV (Zd (Za 5) (Zd (Zaq (ZaF (Zd (Ze Za6 (Za 4) (Zk 1)) Zn)) (Zad 100) Zaf (ZbW (Zs Zh3 (Zd (Za 0) (Zd (Ze Zah (Ze Zah (Za 1) (Ze ZaG (Za 4) (Za 4))) (Za 100)) (Zd (Ze Zr (Za 2) (Za 100)) Zn)))))) Zn))))))))
noncomputable def Zh4 := Zac 3 ZlW
theorem ZtA : SimF true ZlV Zh4 := Zag (show S [] [5] [] true ZlU ZlW from (Zz (ZZ (O' := []) (Zae Zam (E.list (Zh (Zm _) Zp)) (Zc 2))) (Zz (ZZ (O' := []) (Zax ZaW (Zh (Zc 3) Zp))) (Zz (Zco (O' := [5]) (E.list Zp)) (Zz (Zbb (Gs.range (Zh (Zc 4) Zp)) PutOk.one (by decide) (by decide) (Zz (Zco (O' := [5, 7]) (Za9 (O' := []) (E.list Zp))) (Zz (Zbb (Gs.range (Zh (Zc 4) Zp)) PutOk.one (by decide) (by decide) (Zz (ZZ (O' := [5, 7]) (ZL Ztf (Zh (Zc 0) (Zh (Zae Zam (Zae Zam (Zc 1) (Zae Zba (Zc 6) (Zc 4))) (Zc 8)) Zp)))) (Zz (Z4 (ZK (ZD ZbM (Zc 9) (Z9))) (ZZ (O' := [5, 7]) (Zae Zam (ZD Zbw (ZB ZA (Zc 3) (Zc 6)) (ZB ZA (Zc 3) (Zc 8))) (Zc 9))) Z7) (Zjk (O' := [5, 7]) (by decide) ZbD (Za9 (O' := [5]) (E.flat (Zc 9))) (by decide) (by decide))))) (Zz (S.put (O' := [5, 7]) (by decide) (Za9 (O' := [5]) (Zm _)) ZbD (Zc 6) (by decide) (by decide)) (Zjk (O' := [5]) (by decide) ZbD (Za9 (O' := [7]) (E.own (by decide))) (by decide) (by decide)))))) (Za8 (E.tup (ZgF (E.own (by decide)) (ZgF (Zdo (Gs.range (Zh (ZD Zbw (Zc 4) (Zm _)) Zp)) PutOk.one (by decide) Zaz (Za9 (O' := []) (E.flat (ZL Ztz (Zh (Zc 0) (Zh (Zae Zam (Zae Zam (Zc 1) (Zae Zba (Zc 4) (Zc 4))) (Zc 100)) (Zh (ZB ZA (Zc 2) (Zc 100)) Zp))))))) Zp (by decide) (by decide)) (by decide) (by decide)))))))))
noncomputable def ZlX : Sm := Zw (ZX (ZG (Zj oIs (Zb 0) (Z1))) (ZH (Z1)) Z2) (ZH (ZaS (Zf (ZaJ (Zbz (Zj Zu (Zb 0) (Zl 0))) (put1 100) Zan (Zv Zcv (Zf (Zb 100) Zo))) (Zf (Zv Zcv (Zf (Zj Zu (Zb 0) (Zl 1)) Zo)) Zo))))
noncomputable def Zh5 := Zaa 1 ZlX
noncomputable def Zh6 : PS := (Zt (ZQ (ZE (Ze qIs (Za 0) (ZT))) (ZF (ZT)) ZV) (ZF (ZaV (Zd (Zaq (ZaE (Ze Zr (Za 0) (Zk 0))) (Zad 100) Zaf (Zs Zcg (Zd (Za 100) Zn))) (Zd (Zs Zcg (Zd (Ze Zr (Za 0) (Zk 1)) Zn)) Zn)))))
noncomputable def ZcG := Zac 1 Zh6
theorem Zpx : SimF false Zh5 ZcG := Zag (show S [] [] [] false ZlX Zh6 from (Zz (Z4 (ZK (ZD Zbs (Zc 0) (Z9))) (ZW (Z9)) Z7) (ZW (E.tup (Zh (Zcb (Gs.seq (ZB ZA (Zc 0) (Zm _))) PutOk.one (by decide) Zaz (ZiD Zdn (Zh (Zc 100) Zp))) (Zh (ZiD Zdn (Zh (ZB ZA (Zc 0) (Zm _)) Zp)) Zp))))))
noncomputable def Zle : Sm := ZH (eOr (Zj oIs (Zb 1) (Z1)) (Zdx (Zj Zbu (Zb 0) (Z1)) (Zj oLe (Zb 0) (Zb 1))))
noncomputable def ZhO := Zaa 2 Zle
noncomputable def Zlf : PS := (ZF ((pOr (Ze qIs (Za 1) (ZT)) ((ZdK (Ze ZaP (Za 0) (ZT)) (Ze qLe (Za 0) (Za 1)))))))
noncomputable def Zgf := Zac 2 Zlf
theorem Zpe : SimF false ZhO Zgf := Zag (show S [] [] [] false Zle Zlf from (ZW ((Zx5 (E.sh (ZD Zbs (Zc 1) (Z9))) (E.sh ((ZfO (E.sh (ZD ZbM (Zc 0) (Z9))) (E.sh (ZD Zjv (Zc 0) (Zc 1))))))))))
noncomputable def ZlY : Sm := Zw (ZX (ZG (Zj oEq (Zj Zu (Zb 0) (Zl 0)) (Zl 0))) (ZH (Zj oEq (Zb 1) (Zj Zu (Zb 0) (Zl 1)))) Z2) (ZH (Zj oEq (Zj oMod (Zb 1) (Zj Zu (Zb 0) (Zl 0))) (Zj Zu (Zb 0) (Zl 1))))
noncomputable def ZeD := Zaa 2 ZlY
noncomputable def ZlZ : PS := (Zt (ZQ (ZE (Ze qEq (Ze Zr (Za 0) (Zk 0)) (Zk 0))) (ZF (Ze qEq (Za 1) (Ze Zr (Za 0) (Zk 1)))) ZV) (ZF (Ze qEq (Ze Zbc (Za 1) (Ze Zr (Za 0) (Zk 0))) (Ze Zr (Za 0) (Zk 1)))))
noncomputable def Zef := Zac 2 ZlZ
theorem Zgj : SimF false ZeD Zef := Zag (show S [] [] [] false ZlY ZlZ from (Zz (Z4 (ZK (ZD ZaO (ZB ZA (Zc 0) (Zm _)) (Zm _))) (ZW (ZD ZaO (Zc 1) (ZB ZA (Zc 0) (Zm _)))) Z7) (ZW (ZD ZaO (ZD Zbq (Zc 1) (ZB ZA (Zc 0) (Zm _))) (ZB ZA (Zc 0) (Zm _))))))
noncomputable def Zkf : Sm := Zw (ZX (ZG (Zj oEq (Zj Zu (Zb 1) (Zl 0)) (Zl 0))) (ZH (Zj oEq (Zb 0) (Zb 1))) Z2) (ZH (Zdx (Zj oEq (Zj oMod (Zj Zu (Zb 0) (Zl 0)) (Zj Zu (Zb 1) (Zl 0))) (Zl 0)) (Zv ZeD (Zf (Zb 1) (Zf (Zj Zu (Zb 0) (Zl 1)) Zo)))))
noncomputable def Zkg := Zaa 2 Zkf
noncomputable def ZoV : PS := (Zt (ZQ (ZE (Ze qEq (Ze Zr (Za 1) (Zk 0)) (Zk 0))) (ZF (Ze qEq (Za 0) (Za 1))) ZV) (ZF ((ZdK (Ze qEq (Ze Zbc (Ze Zr (Za 0) (Zk 0)) (Ze Zr (Za 1) (Zk 0))) (Zk 0)) (Zs Zef (Zd (Za 1) (Zd (Ze Zr (Za 0) (Zk 1)) Zn)))))))
noncomputable def ZoW := Zac 2 ZoV
theorem Zsv : SimF false Zkg ZoW := Zag (show S [] [] [] false Zkf ZoV from (Zz (Z4 (ZK (ZD ZaO (ZB ZA (Zc 1) (Zm _)) (Zm _))) (ZW (ZD ZaO (Zc 0) (Zc 1))) Z7) (ZW ((ZfO (E.sh (ZD ZaO (ZD Zbq (ZB ZA (Zc 0) (Zm _)) (ZB ZA (Zc 1) (Zm _))) (Zm _))) (E.sh (ZL Zgj (Zh (Zc 1) (Zh (ZB ZA (Zc 0) (Zm _)) Zp)))))))))
noncomputable def ZmF : Sm := Zw (ZO 0 (Zv Zdd (Zf (Zb 0) Zo))) (Zw (ZO 1 (Zv Zdd (Zf (Zb 1) Zo))) (Zw (Zc5 (ZG (Zj oNe (Zb 1) (Zl 0))) (Zw (ZO 2 (Zj oMod (Zb 0) (Zb 1))) (Zw (ZO 0 (Zb 1)) (ZO 1 (Zb 2)))) 1000000) (ZH (Zb 0))))
noncomputable def Zgv := Zaa 2 ZmF
noncomputable def ZmG : PS := (Zt (ZJ 0 (Zs Zde (Zd (Za 0) Zn))) (Zt (ZJ 1 (Zs Zde (Zd (Za 1) Zn))) (Zt (Zdq (ZE (Ze qNe (Za 1) (Zk 0))) (Zt (ZJ 2 (Ze Zbc (Za 0) (Za 1))) (Zt (ZJ 0 (Za 1)) (ZJ 1 (Za 2)))) 1000000) (ZF (Za 0)))))
noncomputable def Zfp := Zac 2 ZmG
theorem ZmH : SimF false Zgv Zfp := Zag (show S [] [] [] false ZmF ZmG from (Zz (ZZ (O' := []) (Zax Zd7 (Zh (Zc 0) Zp))) (Zz (ZZ (O' := []) (Zax Zd7 (Zh (Zc 1) Zp))) (Zz (ZfE (ZK (ZD ZbQ (Zc 1) (Zm _))) (Zz (ZZ (O' := []) (ZD Zbq (Zc 0) (Zc 1))) (Zz (ZZ (O' := []) (Zc 1)) (ZZ (O' := []) (Zc 2)))) 1000000) (ZW (Zc 0))))))
noncomputable def ZkG : Sm := Zw (ZO 3 (ZaJ (Zbz (Zj Zu (Zb 2) (Zl 0))) (put1 100) Zan (Zv Zcv (Zf (Zb 100) Zo)))) (Zw (ZO 4 (Zv Zcv (Zf (Zj Zu (Zb 2) (Zl 1)) Zo))) (Zw (ZO 5 (Zv Zb3 (Zf (Zb 0) (Zf (Zb 1) (Zf (Zv ZaK (Zf (Zb 3) Zo)) Zo))))) (Zw (ZO 6 (Zv Zb3 (Zf (Zb 0) (Zf (Zj Zai (Zb 1) (Zl 1)) (Zf (Zv ZaK (Zf (Zb 3) Zo)) Zo))))) (Zw (ZO 7 (Zv Zb3 (Zf (Zb 0) (Zf (Zj Zai (Zb 1) (Zl 2)) (Zf (Zl 5) Zo))))) (Zw (ZX (Zau (ZG (Zj oLt (Zb 7) (Zl 3))) (Zau (ZG (Zj oNe (Zb 5) (Zb 6))) (Zau (ZG (Zj oIs (Zj Zu (Zj Zu (Zb 3) (Zb 5)) (Zb 6)) (Z1))) Zan))) (ZbJ (Zv Zey (Zf (Zb 0) (Zf (Zj Zai (Zb 1) (Zl 3)) Zo))) (Zj Zu (Zb 3) (Zb 5)) (Zb 6)) (ZX (Zau (ZG (Zj oLt (Zb 7) (Zl 3))) (Zau (ZG (Zj oNe (Zb 5) (Zb 6))) Zan)) (ZbJ (Zj Zbm (Zj Zbm (Zj Zu (Zj Zu (Zb 3) (Zb 5)) (Zb 6)) (Zl 1)) (Zv Zb3 (Zf (Zb 0) (Zf (Zj Zai (Zb 1) (Zl 3)) (Zf (Zl 4) Zo))))) (Zj Zu (Zb 3) (Zb 5)) (Zb 6)) (ZX (ZG (Zj oGt (Zv ZaK (Zf (Zb 4) Zo)) (Zl 0))) (Zw (ZO 8 (Zv Zb3 (Zf (Zb 0) (Zf (Zb 1) (Zf (Zv ZaK (Zf (Zb 4) Zo)) Zo))))) (Zw (ZO 9 (Zj Zu (Zb 4) (Zb 8))) (ZbJ (Zv ZdN (Zf (Zj ZaY (Zj Zu (Zb 9) (Zl 0)) (Zj Zai (Zl 1) (Zj oMod (Zb 7) (Zl 2)))) (Zf (Zj Zai (Zj Zu (Zb 9) (Zl 1)) (Zv Zb3 (Zf (Zb 0) (Zf (Zj Zai (Zb 1) (Zl 3)) (Zf (Zl 3) Zo))))) Zo))) (Zb 4) (Zb 8)))) Z2))) (ZH (ZaS (Zf (Zb 3) (Zf (Zb 4) Zo)))))))))
noncomputable def ZkH := Zaa 3 ZkG
noncomputable def ZkI : PS := (Zt (ZJ 3 (Zaq (ZaE (Ze Zr (Za 2) (Zk 0))) (Zad 100) Zaf (pFl (Zs Zcg (Zd (Za 100) Zn))))) (Zt (ZJ 4 (pFl (Zs Zcg (Zd (Ze Zr (Za 2) (Zk 1)) Zn)))) (Zt (ZJ 5 (Zs ZbS (Zd (Za 0) (Zd (Za 1) (Zd (Zs Zas (Zd (Za 3) Zn)) Zn))))) (Zt (ZJ 6 (Zs ZbS (Zd (Za 0) (Zd (Ze Zah (Za 1) (Zk 1)) (Zd (Zs Zas (Zd (Za 3) Zn)) Zn))))) (Zt (ZJ 7 (Zs ZbS (Zd (Za 0) (Zd (Ze Zah (Za 1) (Zk 2)) (Zd (Zk 5) Zn))))) (Zt (ZQ (Zaj (ZE (Ze qLt (Za 7) (Zk 3))) (Zaj (ZE (Ze qNe (Za 5) (Za 6))) (Zaj (ZE (Ze qIs (Ze Zr (Ze Zr (Za 3) (Za 5)) (Za 6)) (ZT))) Zaf))) (Za3 3 [] (ZbW (Zs Zed (Zd (Za 0) (Zd (Ze Zah (Za 1) (Zk 3)) Zn)))) (Zbv ZaD (Za 5)) (Za 6)) (ZQ (Zaj (ZE (Ze qLt (Za 7) (Zk 3))) (Zaj (ZE (Ze qNe (Za 5) (Za 6))) Zaf)) (Za3 3 [] (Ze Za6 (Ze Za6 (Ze Zr (Ze Zr (Za 3) (Za 5)) (Za 6)) (Zk 1)) (Zs ZbS (Zd (Za 0) (Zd (Ze Zah (Za 1) (Zk 3)) (Zd (Zk 4) Zn))))) (Zbv ZaD (Za 5)) (Za 6)) (ZQ (ZE (Ze qGt (Zs Zas (Zd (Za 4) Zn)) (Zk 0))) (Zt (ZJ 8 (Zs ZbS (Zd (Za 0) (Zd (Za 1) (Zd (Zs Zas (Zd (Za 4) Zn)) Zn))))) (Zt (ZJ 9 (ZbW (Ze Zr (Za 4) (Za 8)))) (Za3 4 [] (ZbW (Zs ZdB (Zd (Ze ZaG (Ze Zr (Za 9) (Zk 0)) (Ze Zah (Zk 1) (Ze Zbc (Za 7) (Zk 2)))) (Zd (Ze Zah (Ze Zr (Za 9) (Zk 1)) (Zs ZbS (Zd (Za 0) (Zd (Ze Zah (Za 1) (Zk 3)) (Zd (Zk 3) Zn))))) Zn)))) ZaD (Za 8)))) ZV))) (ZF (ZaV (Zd (Za 3) (Zd (Za 4) Zn))))))))))
noncomputable def ZhD := Zac 3 ZkI
theorem ZsT : SimF false ZkH ZhD := Zag (show S [] [3, 4] [] false ZkG ZkI from (Zz (Zco (O' := [3]) (Zdo (Gs.seq (ZB ZA (Zc 2) (Zm _))) PutOk.one (by decide) Zaz (Zek Zdn (Zh (Zc 100) Zp)))) (Zz (Zco (O' := [3, 4]) (Za9 (O' := []) (Zek Zdn (Zh (ZB ZA (Zc 2) (Zm _)) Zp)))) (Zz (ZZ (O' := [3, 4]) (ZL Zce (Zh (Zc 0) (Zh (Zc 1) (Zh (Zax ZaW (Zh (Zc 3) Zp)) Zp))))) (Zz (ZZ (O' := [3, 4]) (ZL Zce (Zh (Zc 0) (Zh (Zae Zam (Zc 1) (Zm _)) (Zh (Zax ZaW (Zh (Zc 3) Zp)) Zp))))) (Zz (ZZ (O' := [3, 4]) (ZL Zce (Zh (Zc 0) (Zh (Zae Zam (Zc 1) (Zm _)) (Zh (Zm _) Zp))))) (Zz (Z4 (ZaB (ZK (ZD Zcr (Zc 7) (Zm _))) (ZaB (ZK (ZD ZbQ (Zc 5) (Zc 6))) (ZaB (ZK (ZD Zbs (ZB ZA (ZB ZA (Zc 3) (Zc 5)) (Zc 6)) (Z9))) Zaz))) (S.put (O' := [3, 4]) (by decide) (Za9 (O' := [4]) (E.flat (ZL Zf7 (Zh (Zc 0) (Zh (Zae Zam (Zc 1) (Zm _)) Zp))))) (Zc6 ZbD (Zc 5)) (Zc 6) (by decide) (by decide)) (Z4 (ZaB (ZK (ZD Zcr (Zc 7) (Zm _))) (ZaB (ZK (ZD ZbQ (Zc 5) (Zc 6))) Zaz)) (S.put (O' := [3, 4]) (by decide) (Za9 (O' := [4]) (ZD Zbw (ZD Zbw (ZB ZA (ZB ZA (Zc 3) (Zc 5)) (Zc 6)) (Zm _)) (ZL Zce (Zh (Zc 0) (Zh (Zae Zam (Zc 1) (Zm _)) (Zh (Zm _) Zp)))))) (Zc6 ZbD (Zc 5)) (Zc 6) (by decide) (by decide)) (Z4 (ZK (ZD Zdz (Zax ZaW (Zh (Zc 4) Zp)) (Zm _))) (Zz (ZZ (O' := [3, 4]) (ZL Zce (Zh (Zc 0) (Zh (Zc 1) (Zh (Zax ZaW (Zh (Zc 4) Zp)) Zp))))) (Zz (ZZ (O' := [3, 4]) (Za9 (O' := []) (E.flat (ZB ZA (Zc 4) (Zc 8))))) (S.put (O' := [3, 4]) (by decide) (Za9 (O' := [3]) (E.flat (ZL Zew (Zh (Zae Zba (ZB ZA (Zc 9) (Zm _)) (Zae Zam (Zm _) (ZD Zbq (Zc 7) (Zm _)))) (Zh (Zae Zam (ZB ZA (Zc 9) (Zm _)) (ZL Zce (Zh (Zc 0) (Zh (Zae Zam (Zc 1) (Zm _)) (Zh (Zm _) Zp))))) Zp))))) ZbD (Zc 8) (by decide) (by decide)))) Z7))) (ZW (E.tup (Zh (Zc 3) (Zh (Zc 4) Zp)))))))))))
noncomputable def ZmI : Sm := Zw (ZO 2 (Zv Zdd (Zf (Zb 0) Zo))) (Zw (ZO 3 (Zv Zdd (Zf (Zb 1) Zo))) (Zw (Zc5 (ZG (Zj oNe (Zb 3) (Zl 0))) (Zw (ZO 4 (Zj oMod (Zb 2) (Zb 3))) (Zw (ZO 2 (Zb 3)) (ZO 3 (Zb 4)))) 1000000) (ZH (Zb 2))))
noncomputable def Zgw := Zaa 2 ZmI
noncomputable def ZmJ : PS := (Zt (ZJ 2 (Zs Zde (Zd (Za 0) Zn))) (Zt (ZJ 3 (Zs Zde (Zd (Za 1) Zn))) (Zt (Zdq (ZE (Ze qNe (Za 3) (Zk 0))) (Zt (ZJ 4 (Ze Zbc (Za 2) (Za 3))) (Zt (ZJ 2 (Za 3)) (ZJ 3 (Za 4)))) 1000000) (ZF (Za 2)))))
noncomputable def Zfq := Zac 2 ZmJ
theorem ZmK : SimF false Zgw Zfq := Zag (show S [] [] [] false ZmI ZmJ from (Zz (ZZ (O' := []) (Zax Zd7 (Zh (Zc 0) Zp))) (Zz (ZZ (O' := []) (Zax Zd7 (Zh (Zc 1) Zp))) (Zz (ZfE (ZK (ZD ZbQ (Zc 3) (Zm _))) (Zz (ZZ (O' := []) (ZD Zbq (Zc 2) (Zc 3))) (Zz (ZZ (O' := []) (Zc 3)) (ZZ (O' := []) (Zc 4)))) 1000000) (ZW (Zc 2))))))
noncomputable def Zof : Sm := Zw (ZX (ZG (Zj oLt (Zb 0) (Zl 0))) (PM.sNo) Z2) (Zw (ZX (ZG (Zj oEq (Zb 0) (Zl 0))) (ZH (ZaS (Zf (Zl 0) (Zf (Zb 1) Zo)))) Z2) (ZH (ZaS (Zf (Zb 0) (Zf (Zj oMod (Zb 1) (Zb 0)) Zo)))))
noncomputable def ZfK := Zaa 2 Zof
noncomputable def Zog : PS := (Zt (ZQ (ZE (Ze qLt (Za 0) (Zk 0))) (qNo) ZV) (Zt (ZQ (ZE (Ze qEq (Za 0) (Zk 0))) (ZF (ZaV (Zd (Zk 0) (Zd (Za 1) Zn)))) ZV) (ZF (ZaV (Zd (Za 0) (Zd (Ze Zbc (Za 1) (Za 0)) Zn))))))
noncomputable def ZeP := Zac 2 Zog
theorem Zi6 : SimF false ZfK ZeP := Zag (show S [] [] [] false Zof Zog from (Zz (Z4 (ZK (ZD Zcr (Zc 0) (Zm _))) (Zx6 (O' := [])) Z7) (Zz (Z4 (ZK (ZD ZaO (Zc 0) (Zm _))) (ZW (E.tup (Zh (Zm _) (Zh (Zc 1) Zp)))) Z7) (ZW (E.tup (Zh (Zc 0) (Zh (ZD Zbq (Zc 1) (Zc 0)) Zp)))))))
noncomputable def ZmL : Sm := Zw (ZO 2 (Zj oMod (Zb 0) (Zb 1))) (Zw (ZO 3 (Zb 1)) (Zw (ZO 4 (Zl 1)) (Zw (ZO 5 (Zl 0)) (Zw (Zc5 (ZG (Zj oNe (Zb 3) (Zl 0))) (Zw (ZO 6 (Zj oDiv (Zb 2) (Zb 3))) (Zw (ZO 7 (Zj Zbm (Zb 2) (Zj ZaY (Zb 6) (Zb 3)))) (Zw (ZO 8 (Zj Zbm (Zb 4) (Zj ZaY (Zb 6) (Zb 5)))) (Zw (ZO 2 (Zb 3)) (Zw (ZO 4 (Zb 5)) (Zw (ZO 3 (Zb 7)) (ZO 5 (Zb 8)))))))) 1000000) (ZH (Zj oMod (Zb 4) (Zb 1)))))))
noncomputable def ZmM := Zaa 2 ZmL
noncomputable def ZmN : PS := (Zt (ZJ 2 (Ze Zbc (Za 0) (Za 1))) (Zt (ZJ 3 (Za 1)) (Zt (ZJ 4 (Zk 1)) (Zt (ZJ 5 (Zk 0)) (Zt (Zdq (ZE (Ze qNe (Za 3) (Zk 0))) (Zt (ZJ 6 (Ze ZcC (Za 2) (Za 3))) (Zt (ZJ 7 (Ze Za6 (Za 2) (Ze ZaG (Za 6) (Za 3)))) (Zt (ZJ 8 (Ze Za6 (Za 4) (Ze ZaG (Za 6) (Za 5)))) (Zt (ZJ 2 (Za 3)) (Zt (ZJ 4 (Za 5)) (Zt (ZJ 3 (Za 7)) (ZJ 5 (Za 8)))))))) 1000000) (ZF (Ze Zbc (Za 4) (Za 1))))))))
noncomputable def Zil := Zac 2 ZmN
theorem Zui : SimF false ZmM Zil := Zag (show S [] [] [] false ZmL ZmN from (Zz (ZZ (O' := []) (ZD Zbq (Zc 0) (Zc 1))) (Zz (ZZ (O' := []) (Zc 1)) (Zz (ZZ (O' := []) (Zm _)) (Zz (ZZ (O' := []) (Zm _)) (Zz (ZfE (ZK (ZD ZbQ (Zc 3) (Zm _))) (Zz (ZZ (O' := []) (ZD Zda (Zc 2) (Zc 3))) (Zz (ZZ (O' := []) (ZD Zbw (Zc 2) (Zae Zba (Zc 6) (Zc 3)))) (Zz (ZZ (O' := []) (ZD Zbw (Zc 4) (Zae Zba (Zc 6) (Zc 5)))) (Zz (ZZ (O' := []) (Zc 3)) (Zz (ZZ (O' := []) (Zc 5)) (Zz (ZZ (O' := []) (Zc 7)) (ZZ (O' := []) (Zc 8)))))))) 1000000) (ZW (ZD Zbq (Zc 4) (Zc 1)))))))))
noncomputable def Zl0 : Sm := Zw (ZX (ZG (Zj oEq (Zj Zu (Zb 0) (Zl 0)) (Zl 0))) (ZH (eIf (ZG (Zv ZeD (Zf (Zb 1) (Zf (Zj Zu (Zb 0) (Zl 1)) Zo)))) (Zb 0) (Z1))) Z2) (Zw (ZX (ZG (Zj oEq (Zj Zu (Zb 1) (Zl 0)) (Zl 0))) (ZH (eIf (ZG (Zv ZeD (Zf (Zb 0) (Zf (Zj Zu (Zb 1) (Zl 1)) Zo)))) (Zb 1) (Z1))) Z2) (Zw (ZO 2 (Zv Zgw (Zf (Zj Zu (Zb 0) (Zl 0)) (Zf (Zj Zu (Zb 1) (Zl 0)) Zo)))) (Zw (ZO 3 (Zj Zbm (Zj Zu (Zb 1) (Zl 1)) (Zj Zu (Zb 0) (Zl 1)))) (Zw (ZX (ZG (Zj oNe (Zj oMod (Zb 3) (Zb 2)) (Zl 0))) (ZH (Z1)) Z2) (Zw (ZO 4 (Zj oDiv (Zj Zu (Zb 1) (Zl 0)) (Zb 2))) (Zw (ZO 5 (Zj ZaY (Zj oDiv (Zb 3) (Zb 2)) (Zv ZmM (Zf (Zj oDiv (Zj Zu (Zb 0) (Zl 0)) (Zb 2)) (Zf (Zb 4) Zo))))) (ZH (Zv ZfK (Zf (Zj ZaY (Zj Zu (Zb 0) (Zl 0)) (Zb 4)) (Zf (Zj Zai (Zj Zu (Zb 0) (Zl 1)) (Zj ZaY (Zj Zu (Zb 0) (Zl 0)) (Zb 5))) Zo))))))))))
noncomputable def Zh7 := Zaa 2 Zl0
noncomputable def Zl1 : PS := (Zt (ZQ (ZE (Ze qEq (Ze Zr (Za 0) (Zk 0)) (Zk 0))) (ZF (pIf (ZE (Zs Zef (Zd (Za 1) (Zd (Ze Zr (Za 0) (Zk 1)) Zn)))) (Za 0) (ZT))) ZV) (Zt (ZQ (ZE (Ze qEq (Ze Zr (Za 1) (Zk 0)) (Zk 0))) (ZF (pIf (ZE (Zs Zef (Zd (Za 0) (Zd (Ze Zr (Za 1) (Zk 1)) Zn)))) (Za 1) (ZT))) ZV) (Zt (ZJ 2 (Zs Zfq (Zd (Ze Zr (Za 0) (Zk 0)) (Zd (Ze Zr (Za 1) (Zk 0)) Zn)))) (Zt (ZJ 3 (Ze Za6 (Ze Zr (Za 1) (Zk 1)) (Ze Zr (Za 0) (Zk 1)))) (Zt (ZQ (ZE (Ze qNe (Ze Zbc (Za 3) (Za 2)) (Zk 0))) (ZF (ZT)) ZV) (Zt (ZJ 4 (Ze ZcC (Ze Zr (Za 1) (Zk 0)) (Za 2))) (Zt (ZJ 5 (Ze ZaG (Ze ZcC (Za 3) (Za 2)) (Zs Zil (Zd (Ze ZcC (Ze Zr (Za 0) (Zk 0)) (Za 2)) (Zd (Za 4) Zn))))) (ZF (Zs ZeP (Zd (Ze ZaG (Ze Zr (Za 0) (Zk 0)) (Za 4)) (Zd (Ze Zah (Ze Zr (Za 0) (Zk 1)) (Ze ZaG (Ze Zr (Za 0) (Zk 0)) (Za 5))) Zn)))))))))))
noncomputable def Zgk := Zac 2 Zl1
theorem Zpy : SimF false Zh7 Zgk := Zag (show S [] [] [] false Zl0 Zl1 from (Zz (Z4 (ZK (ZD ZaO (ZB ZA (Zc 0) (Zm _)) (Zm _))) (ZW (ZeT (ZK (ZL Zgj (Zh (Zc 1) (Zh (ZB ZA (Zc 0) (Zm _)) Zp)))) (E.sh (Zc 0)) (E.sh (Z9)))) Z7) (Zz (Z4 (ZK (ZD ZaO (ZB ZA (Zc 1) (Zm _)) (Zm _))) (ZW (ZeT (ZK (ZL Zgj (Zh (Zc 0) (Zh (ZB ZA (Zc 1) (Zm _)) Zp)))) (E.sh (Zc 1)) (E.sh (Z9)))) Z7) (Zz (ZZ (O' := []) (ZL ZmK (Zh (ZB ZA (Zc 0) (Zm _)) (Zh (ZB ZA (Zc 1) (Zm _)) Zp)))) (Zz (ZZ (O' := []) (ZD Zbw (ZB ZA (Zc 1) (Zm _)) (ZB ZA (Zc 0) (Zm _)))) (Zz (Z4 (ZK (ZD ZbQ (ZD Zbq (Zc 3) (Zc 2)) (Zm _))) (ZW (Z9)) Z7) (Zz (ZZ (O' := []) (ZD Zda (ZB ZA (Zc 1) (Zm _)) (Zc 2))) (Zz (ZZ (O' := []) (Zae Zba (ZD Zda (Zc 3) (Zc 2)) (ZL Zui (Zh (ZD Zda (ZB ZA (Zc 0) (Zm _)) (Zc 2)) (Zh (Zc 4) Zp))))) (ZW (ZL Zi6 (Zh (Zae Zba (ZB ZA (Zc 0) (Zm _)) (Zc 4)) (Zh (Zae Zam (ZB ZA (Zc 0) (Zm _)) (Zae Zba (ZB ZA (Zc 0) (Zm _)) (Zc 5))) Zp))))))))))))
noncomputable def Zlg : Sm := ZH (Zv ZfK (Zf (Zv Zgw (Zf (Zj Zu (Zb 0) (Zl 0)) (Zf (Zj Zu (Zb 1) (Zl 0)) Zo))) (Zf (Zj Zai (Zj Zu (Zb 0) (Zl 1)) (Zj Zu (Zb 1) (Zl 1))) Zo)))
noncomputable def Zgg := Zaa 2 Zlg
noncomputable def Zlh : PS := (ZF (Zs ZeP (Zd (Zs Zfq (Zd (Ze Zr (Za 0) (Zk 0)) (Zd (Ze Zr (Za 1) (Zk 0)) Zn))) (Zd (Ze Zah (Ze Zr (Za 0) (Zk 1)) (Ze Zr (Za 1) (Zk 1))) Zn))))
noncomputable def Zfc := Zac 2 Zlh
theorem Zli : SimF false Zgg Zfc := Zag (show S [] [] [] false Zlg Zlh from (ZW (ZL Zi6 (Zh (ZL ZmK (Zh (ZB ZA (Zc 0) (Zm _)) (Zh (ZB ZA (Zc 1) (Zm _)) Zp))) (Zh (Zae Zam (ZB ZA (Zc 0) (Zm _)) (ZB ZA (Zc 1) (Zm _))) Zp)))))
noncomputable def ZkJ : Sm := ZH (Zv ZfK (Zf (Zj ZaY (Zj Zu (Zb 0) (Zl 0)) (Zv Zdd (Zf (Zb 1) Zo))) (Zf (Zj ZaY (Zj Zu (Zb 0) (Zl 1)) (Zb 1)) Zo)))
noncomputable def Zf8 := Zaa 2 ZkJ
noncomputable def ZkK : PS := (ZF (Zs ZeP (Zd (Ze ZaG (Ze Zr (Za 0) (Zk 0)) (Zs Zde (Zd (Za 1) Zn))) (Zd (Ze ZaG (Ze Zr (Za 0) (Zk 1)) (Za 1)) Zn))))
noncomputable def Zfa := Zac 2 ZkK
theorem ZkL : SimF false Zf8 Zfa := Zag (show S [] [] [] false ZkJ ZkK from (ZW (ZL Zi6 (Zh (Zae Zba (ZB ZA (Zc 0) (Zm _)) (Zax Zd7 (Zh (Zc 1) Zp))) (Zh (Zae Zba (ZB ZA (Zc 0) (Zm _)) (Zc 1)) Zp)))))
noncomputable def ZkM : Sm := Zw (ZX (ZG (Zj oEq (Zj Zu (Zb 0) (Zl 0)) (Zl 0))) (ZH (eIf (ZG (Zj oLe (Zj Zu (Zb 0) (Zl 1)) (Zb 1))) (Zj Zu (Zb 0) (Zl 1)) (Z1))) Z2) (ZH (Zj Zbm (Zb 1) (Zj oMod (Zj Zbm (Zb 1) (Zj Zu (Zb 0) (Zl 1))) (Zj Zu (Zb 0) (Zl 0)))))
noncomputable def ZkN := Zaa 2 ZkM
noncomputable def ZkO : PS := (Zt (ZQ (ZE (Ze qEq (Ze Zr (Za 0) (Zk 0)) (Zk 0))) (ZF (pIf (ZE (Ze qLe (Ze Zr (Za 0) (Zk 1)) (Za 1))) (Ze Zr (Za 0) (Zk 1)) (ZT))) ZV) (ZF (Ze Za6 (Za 1) (Ze Zbc (Ze Za6 (Za 1) (Ze Zr (Za 0) (Zk 1))) (Ze Zr (Za 0) (Zk 0))))))
noncomputable def ZhE := Zac 2 ZkO
theorem ZsU : SimF false ZkN ZhE := Zag (show S [] [] [] false ZkM ZkO from (Zz (Z4 (ZK (ZD ZaO (ZB ZA (Zc 0) (Zm _)) (Zm _))) (ZW (ZeT (ZK (ZD Zjv (ZB ZA (Zc 0) (Zm _)) (Zc 1))) (E.sh (ZB ZA (Zc 0) (Zm _))) (E.sh (Z9)))) Z7) (ZW (ZD Zbw (Zc 1) (ZD Zbq (ZD Zbw (Zc 1) (ZB ZA (Zc 0) (Zm _))) (ZB ZA (Zc 0) (Zm _)))))))
noncomputable def Znp : Sm := ZH (eIf (ZG (Zv ZhO (Zf (Zb 0) (Zf (Zb 1) Zo)))) (Zb 0) (Zb 1))
noncomputable def Ziw := Zaa 2 Znp
noncomputable def Znq : PS := (ZF (pIf (ZE (Zs Zgf (Zd (Za 0) (Zd (Za 1) Zn)))) (Za 0) (Za 1)))
noncomputable def ZgG := Zac 2 Znq
theorem Zqg : SimF false Ziw ZgG := Zag (show S [] [] [] false Znp Znq from (ZW (ZeT (ZK (ZL Zpe (Zh (Zc 0) (Zh (Zc 1) Zp)))) (E.sh (Zc 0)) (E.sh (Zc 1)))))
noncomputable def Zl2 : Sm := Zw (ZX (tOr (ZG (Zj oIs (Zb 0) (Z1))) (tOr (ZG (Zj oIs (Zb 1) (Z1))) Zcn)) (ZH (Z1)) Z2) (ZH (Zj Zai (Zb 0) (Zb 1)))
noncomputable def Zeg := Zaa 2 Zl2
noncomputable def Zl3 : PS := (Zt (ZQ (bOr (ZE (Ze qIs (Za 0) (ZT))) (bOr (ZE (Ze qIs (Za 1) (ZT))) Zcf)) (ZF (ZT)) ZV) (ZF (Ze Zah (Za 0) (Za 1))))
noncomputable def ZdT := Zac 2 Zl3
theorem Zfg : SimF false Zeg ZdT := Zag (show S [] [] [] false Zl2 Zl3 from (Zz (Z4 (Zbi (ZK (ZD Zbs (Zc 0) (Z9))) (Zbi (ZK (ZD Zbs (Zc 1) (Z9))) ZcO)) (ZW (Z9)) Z7) (ZW (Zae Zam (Zc 0) (Zc 1)))))
noncomputable def ZjC : Sm := ZH (ZaJ (Zd8 (Zb 0) (Zb 2)) (ZcB 100 101) Zan (Zv Ziw (Zf (Zb 100) (Zf (Zv Zeg (Zf (Zb 1) (Zf (Zb 101) Zo))) Zo))))
noncomputable def ZjD := Zaa 3 ZjC
noncomputable def ZjE : PS := (ZF (Zaq (Zea (Za 0) (Za 2)) (ZcY 100 101) Zaf (ZbW (Zs ZgG (Zd (Za 100) (Zd (Zs ZdT (Zd (Za 1) (Zd (Za 101) Zn))) Zn))))))
noncomputable def Zhj := Zac 3 ZjE
theorem ZrZ : SimF true ZjD Zhj := Zag (show S [] [] [] true ZjC ZjE from (Za8 (Zdo (Gs.zip (Zc 0) (Zc 2)) PutOk.two (by decide) Zaz (E.flat (ZL Zqg (Zh (Zc 100) (Zh (ZL Zfg (Zh (Zc 1) (Zh (Zc 101) Zp))) Zp)))))))
noncomputable def Zlj : Sm := ZH (ZaJ (Zbz (Zb 0)) (put1 100) Zan (Zv ZjD (Zf (Zb 100) (Zf (Zj Zu (Zb 100) (Zb 1)) (Zf (Zj Zu (Zb 0) (Zb 1)) Zo)))))
noncomputable def Zlk := Zaa 2 Zlj
noncomputable def Zll : PS := (ZF (Zaq (ZaE (Za 0)) (Zad 100) Zaf (Zs Zhj (Zd (Za 100) (Zd (Ze Zr (Za 100) (Za 1)) (Zd (Ze Zr (Za 0) (Za 1)) Zn))))))
noncomputable def ZhP := Zac 2 Zll
theorem Zpf : SimF true Zlk ZhP := Zag (show S [] [] [] true Zlj Zll from (Za8 (Zdo (Gs.seq (Zc 0)) PutOk.one (by decide) Zaz (ZbP ZrZ (Zh (Zc 100) (Zh (ZB ZA (Zc 100) (Zc 1)) (Zh (ZB ZA (Zc 0) (Zc 1)) Zp)))))))
noncomputable def ZjX : Sm := ZH (Zv Zhe (Zf (ZaJ (ZaQ (Zf (Zv ZaK (Zf (Zb 0) Zo)) Zo)) (put1 100) Zan (Zj oLt (Zj Zu (Zj Zu (Zb 0) (Zb 100)) (Zb 100)) (Zl 0))) Zo))
noncomputable def ZjY := Zaa 1 ZjX
noncomputable def ZjZ : PS := (ZF (Zs Zhf (Zd (Zaq (ZaF (Zd (Zs Zas (Zd (Za 0) Zn)) Zn)) (Zad 100) Zaf (Ze qLt (Ze Zr (Ze Zr (Za 0) (Za 100)) (Za 100)) (Zk 0))) Zn)))
noncomputable def Zhp := Zac 1 ZjZ
theorem ZoP : SimF false ZjY Zhp := Zag (show S [] [] [] false ZjX ZjZ from (ZW (Zax ZxL (Zh (Zcb (Gs.range (Zh (Zax ZaW (Zh (Zc 0) Zp)) Zp)) PutOk.one (by decide) Zaz (ZD Zcr (ZB ZA (ZB ZA (Zc 0) (Zc 100)) (Zc 100)) (Zm _))) Zp))))
noncomputable def Znr : Sm := Zw (ZO 1 (Zb 0)) (Zw (ZaN (ZaQ (Zf (Zv ZaK (Zf (Zb 0) Zo)) Zo)) (put1 2) (Zw (ZO 1 (Zv Zlk (Zf (Zb 1) (Zf (Zb 2) Zo)))) (ZX (ZG (Zv ZjY (Zf (Zb 1) Zo))) (ZH (Z1)) Z2))) (ZH (Zb 1)))
noncomputable def Zfx := Zaa 1 Znr
noncomputable def Zns : PS := (Zt (ZJ 1 (Za 0)) (Zt (Zjo (ZaF (Zd (Zs Zas (Zd (Za 0) Zn)) Zn)) (Zad 2) (Zt (ZJ 1 (Zs ZhP (Zd (Za 1) (Zd (Za 2) Zn)))) (ZQ (ZE (Zs Zhp (Zd (Za 1) Zn))) (ZF (ZT)) ZV))) (ZF (Za 1))))
noncomputable def ZgH := Zac 1 Zns
theorem Zu8 : SimF true Zfx ZgH := Zag (show S [] [1] [] true Znr Zns from (Zz (ZZ (O' := []) (Zc 0)) (Zz (Zxu (Gs.range (Zh (Zax ZaW (Zh (Zc 0) Zp)) Zp)) PutOk.one PutOk.one (by decide) (by decide) (by decide) (Zz (Zco (O' := [1]) (ZbP Zpf (Zh (Zc 1) (Zh (Zc 2) Zp)))) (Z4 (ZK (ZL ZoP (Zh (Zc 1) Zp))) (Za8 (Z9)) Z7)) (Zz (Zco (O' := [1]) (Za9 (O' := []) (ZbP Zpf (Zh (Zc 1) (Zh (Zc 2) Zp))))) (Z4 (ZK (ZL ZoP (Zh (Zc 1) Zp))) (Za8 (Z9)) Z7))) (Za8 (E.own (by decide))))))
noncomputable def Zlm : Sm := ZH (Zdx (eIs "int" (Zb 0)) (Zjq (eIs "bool" (Zb 0))))
noncomputable def Zgh := Zaa 1 Zlm
noncomputable def Zln : PS := (ZF ((ZdK (pIs "int" (Za 0)) (Zjt (pIs "bool" (Za 0))))))
noncomputable def Zfd := Zac 1 Zln
theorem Zlo : SimF false Zgh Zfd := Zag (show S [] [] [] false Zlm Zln from (ZW ((ZfO (E.sh (Zd9 (Zc 0))) (E.sh (ZxJ (Zd9 (Zc 0))))))))
noncomputable def Zl4 : Sm := Zw (ZX (tOr (Zcq (ZG (eIs "list" (Zb 0)))) (tOr (ZG (Zj oNe (Zv ZaK (Zf (Zb 0) Zo)) (Zb 1))) Zcn)) (ZH (Zb6 false)) Z2) (Zw (ZaN (ZaQ (Zf (Zb 1) Zo)) (put1 2) (Zw (ZX (tOr (Zcq (ZG (eIs "list" (Zj Zu (Zb 0) (Zb 2))))) (tOr (ZG (Zj oNe (Zv ZaK (Zf (Zj Zu (Zb 0) (Zb 2)) Zo)) (Zb 1))) Zcn)) (ZH (Zb6 false)) Z2) (Zw (ZaN (Zbz (Zj Zu (Zb 0) (Zb 2))) (put1 3) (ZX (Zau (ZG (Zj Zbu (Zb 3) (Z1))) (Zau (Zcq (ZG (Zv Zgh (Zf (Zb 3) Zo)))) Zan)) (ZH (Zb6 false)) Z2)) (ZX (ZG (Zj oNe (Zj Zu (Zj Zu (Zb 0) (Zb 2)) (Zb 2)) (Zl 0))) (ZH (Zb6 false)) Z2)))) (ZH (Zb6 true)))
noncomputable def Zl5 := Zaa 2 Zl4
noncomputable def Zl6 : PS := (Zt (ZQ (bOr (ZbZ (ZE (pIs "list" (Za 0)))) (bOr (ZE (Ze qNe (Zs Zas (Zd (Za 0) Zn)) (Za 1))) Zcf)) (ZF (ZbE false)) ZV) (Zt (ZaC (ZaF (Zd (Za 1) Zn)) (Zad 2) (Zt (ZQ (bOr (ZbZ (ZE (pIs "list" (Ze Zr (Za 0) (Za 2))))) (bOr (ZE (Ze qNe (Zs Zas (Zd (Ze Zr (Za 0) (Za 2)) Zn)) (Za 1))) Zcf)) (ZF (ZbE false)) ZV) (Zt (ZaC (ZaE (Ze Zr (Za 0) (Za 2))) (Zad 3) (ZQ (Zaj (ZE (Ze ZaP (Za 3) (ZT))) (Zaj (ZbZ (ZE (Zs Zfd (Zd (Za 3) Zn)))) Zaf)) (ZF (ZbE false)) ZV)) (ZQ (ZE (Ze qNe (Ze Zr (Ze Zr (Za 0) (Za 2)) (Za 2)) (Zk 0))) (ZF (ZbE false)) ZV)))) (ZF (ZbE true))))
noncomputable def Zh8 := Zac 2 Zl6
theorem ZtB : SimF false Zl5 Zh8 := Zag (show S [] [] [] false Zl4 Zl6 from (Zz (Z4 (Zbi (ZcR (ZK (Zd9 (Zc 0)))) (Zbi (ZK (ZD ZbQ (Zax ZaW (Zh (Zc 0) Zp)) (Zc 1))) ZcO)) (ZW (E.bool _)) Z7) (Zz (Zbb (Gs.range (Zh (Zc 1) Zp)) PutOk.one (by decide) (by decide) (Zz (Z4 (Zbi (ZcR (ZK (Zd9 (ZB ZA (Zc 0) (Zc 2))))) (Zbi (ZK (ZD ZbQ (Zax ZaW (Zh (ZB ZA (Zc 0) (Zc 2)) Zp)) (Zc 1))) ZcO)) (ZW (E.bool _)) Z7) (Zz (Zbb (Gs.seq (ZB ZA (Zc 0) (Zc 2))) PutOk.one (by decide) (by decide) (Z4 (ZaB (ZK (ZD ZbM (Zc 3) (Z9))) (ZaB (ZcR (ZK (ZL Zlo (Zh (Zc 3) Zp)))) Zaz)) (ZW (E.bool _)) Z7)) (Z4 (ZK (ZD ZbQ (ZB ZA (ZB ZA (Zc 0) (Zc 2)) (Zc 2)) (Zm _))) (ZW (E.bool _)) Z7)))) (ZW (E.bool _)))))
noncomputable def Zj0 : Sm := ZH (ZaS (Zf (Zv Zeg (Zf (Zj Zu (Zb 0) (Zl 0)) (Zf (Zj Zu (Zb 1) (Zl 0)) Zo))) (Zf (Zv Zeg (Zf (Zj Zu (Zb 0) (Zl 1)) (Zf (Zj Zu (Zb 1) (Zl 1)) Zo))) Zo)))
noncomputable def Zj1 := Zaa 2 Zj0
noncomputable def Zj2 : PS := (ZF (ZaV (Zd (Zs ZdT (Zd (Ze Zr (Za 0) (Zk 0)) (Zd (Ze Zr (Za 1) (Zk 0)) Zn))) (Zd (Zs ZdT (Zd (Ze Zr (Za 0) (Zk 1)) (Zd (Ze Zr (Za 1) (Zk 1)) Zn))) Zn))))
noncomputable def Zhq := Zac 2 Zj2
theorem Zsg : SimF false Zj1 Zhq := Zag (show S [] [] [] false Zj0 Zj2 from (ZW (E.tup (Zh (ZL Zfg (Zh (ZB ZA (Zc 0) (Zm _)) (Zh (ZB ZA (Zc 1) (Zm _)) Zp))) (Zh (ZL Zfg (Zh (ZB ZA (Zc 0) (Zm _)) (Zh (ZB ZA (Zc 1) (Zm _)) Zp))) Zp)))))
noncomputable def Zlp : Sm := Zw (ZX (ZG (Zj oIs (Zb 0) (Z1))) (ZH (Z1)) Z2) (ZH (Zj ZaY (Zb 0) (Zb 1)))
noncomputable def Zfe := Zaa 2 Zlp
noncomputable def Zlq : PS := (Zt (ZQ (ZE (Ze qIs (Za 0) (ZT))) (ZF (ZT)) ZV) (ZF (Ze ZaG (Za 0) (Za 1))))
noncomputable def ZeA := Zac 2 Zlq
theorem ZhQ : SimF false Zfe ZeA := Zag (show S [] [] [] false Zlp Zlq from (Zz (Z4 (ZK (ZD Zbs (Zc 0) (Z9))) (ZW (Z9)) Z7) (ZW (Zae Zba (Zc 0) (Zc 1)))))
noncomputable def ZjF : Sm := Zw (ZX (ZG (Zj oEq (Zb 1) (Zl 0))) (ZH (ZaS (Zf (Zl 0) (Zf (Zl 0) Zo)))) Z2) (Zw (ZO 2 (Zv Zfe (Zf (Zj Zu (Zb 0) (Zl 0)) (Zf (Zb 1) Zo)))) (Zw (ZO 3 (Zv Zfe (Zf (Zj Zu (Zb 0) (Zl 1)) (Zf (Zb 1) Zo)))) (Zw (ZX (ZG (Zj oLt (Zb 1) (Zl 0))) (ZH (ZaS (Zf (Zb 3) (Zf (Zb 2) Zo)))) Z2) (ZH (ZaS (Zf (Zb 2) (Zf (Zb 3) Zo)))))))
noncomputable def ZjG := Zaa 2 ZjF
noncomputable def ZjH : PS := (Zt (ZQ (ZE (Ze qEq (Za 1) (Zk 0))) (ZF (ZaV (Zd (Zk 0) (Zd (Zk 0) Zn)))) ZV) (Zt (ZJ 2 (Zs ZeA (Zd (Ze Zr (Za 0) (Zk 0)) (Zd (Za 1) Zn)))) (Zt (ZJ 3 (Zs ZeA (Zd (Ze Zr (Za 0) (Zk 1)) (Zd (Za 1) Zn)))) (Zt (ZQ (ZE (Ze qLt (Za 1) (Zk 0))) (ZF (ZaV (Zd (Za 3) (Zd (Za 2) Zn)))) ZV) (ZF (ZaV (Zd (Za 2) (Zd (Za 3) Zn))))))))
noncomputable def Zhk := Zac 2 ZjH
theorem Zr0 : SimF false ZjG Zhk := Zag (show S [] [] [] false ZjF ZjH from (Zz (Z4 (ZK (ZD ZaO (Zc 1) (Zm _))) (ZW (E.tup (Zh (Zm _) (Zh (Zm _) Zp)))) Z7) (Zz (ZZ (O' := []) (ZL ZhQ (Zh (ZB ZA (Zc 0) (Zm _)) (Zh (Zc 1) Zp)))) (Zz (ZZ (O' := []) (ZL ZhQ (Zh (ZB ZA (Zc 0) (Zm _)) (Zh (Zc 1) Zp)))) (Zz (Z4 (ZK (ZD Zcr (Zc 1) (Zm _))) (ZW (E.tup (Zh (Zc 3) (Zh (Zc 2) Zp)))) Z7) (ZW (E.tup (Zh (Zc 2) (Zh (Zc 3) Zp)))))))))
noncomputable def Zkh : Sm := Zw (ZO 2 (ZaS (Zf (Zj Zu (Zb 0) (Zl 0)) (Zf (Zj Zu (Zb 0) (Zl 0)) Zo)))) (Zw (ZaN (Zd8 (ZdJ (Zb 0) 1) (Zb 1)) (ZcB 3 4) (ZO 2 (Zv Zj1 (Zf (Zb 2) (Zf (Zv ZjG (Zf (Zb 4) (Zf (Zb 3) Zo))) Zo))))) (ZH (Zb 2)))
noncomputable def Zki := Zaa 2 Zkh
noncomputable def Zkj : PS := (Zt (ZJ 2 (ZaV (Zd (Ze Zr (Za 0) (Zk 0)) (Zd (Ze Zr (Za 0) (Zk 0)) Zn)))) (Zt (ZaC (Zea (Zdv (Za 0) 1) (Za 1)) (ZcY 3 4) (ZJ 2 (Zs Zhq (Zd (Za 2) (Zd (Zs Zhk (Zd (Za 4) (Zd (Za 3) Zn))) Zn))))) (ZF (Za 2))))
noncomputable def Zhv := Zac 2 Zkj
theorem Zsw : SimF false Zki Zhv := Zag (show S [] [] [] false Zkh Zkj from (Zz (ZZ (O' := []) (E.tup (Zh (ZB ZA (Zc 0) (Zm _)) (Zh (ZB ZA (Zc 0) (Zm _)) Zp)))) (Zz (Zbb (Gs.zip (ZgV (Zc 0)) (Zc 1)) PutOk.two (by decide) (by decide) (ZZ (O' := []) (ZL Zsg (Zh (Zc 2) (Zh (ZL Zr0 (Zh (Zc 4) (Zh (Zc 3) Zp))) Zp))))) (ZW (Zc 2)))))
noncomputable def Zl7 : Sm := Zw (ZO 2 (ZaS (Zf (Zl 0) (Zf (Zj Zu (Zb 0) (Zl 0)) Zo)))) (Zw (ZaN (Zd8 (ZdJ (Zb 0) 1) (Zb 1)) (ZcB 3 4) (ZO 2 (Zv Zgg (Zf (Zb 2) (Zf (Zv Zf8 (Zf (Zb 4) (Zf (Zb 3) Zo))) Zo))))) (ZH (Zb 2)))
noncomputable def Zfh := Zaa 2 Zl7
noncomputable def Zl8 : PS := (Zt (ZJ 2 (ZaV (Zd (Zk 0) (Zd (Ze Zr (Za 0) (Zk 0)) Zn)))) (Zt (ZaC (Zea (Zdv (Za 0) 1) (Za 1)) (ZcY 3 4) (ZJ 2 (Zs Zfc (Zd (Za 2) (Zd (Zs Zfa (Zd (Za 4) (Zd (Za 3) Zn))) Zn))))) (ZF (Za 2))))
noncomputable def ZeE := Zac 2 Zl8
theorem Zh9 : SimF false Zfh ZeE := Zag (show S [] [] [] false Zl7 Zl8 from (Zz (ZZ (O' := []) (E.tup (Zh (Zm _) (Zh (ZB ZA (Zc 0) (Zm _)) Zp)))) (Zz (Zbb (Gs.zip (ZgV (Zc 0)) (Zc 1)) PutOk.two (by decide) (by decide) (ZZ (O' := []) (ZL Zli (Zh (Zc 2) (Zh (ZL ZkL (Zh (Zc 4) (Zh (Zc 3) Zp))) Zp))))) (ZW (Zc 2)))))
noncomputable def ZmO : Sm := ZH (Zdx (Zj Zbu (Zb 0) (Z1)) (Zdx (Zj Zbu (Zb 1) (Z1)) (Zj oGt (Zb 0) (Zb 1))))
noncomputable def ZmP := Zaa 2 ZmO
noncomputable def ZmQ : PS := (ZF ((ZdK (Ze ZaP (Za 0) (ZT)) (ZdK (Ze ZaP (Za 1) (ZT)) (Ze qGt (Za 0) (Za 1))))))
noncomputable def Zfr := Zac 2 ZmQ
theorem Zuj : SimF false ZmP Zfr := Zag (show S [] [] [] false ZmO ZmQ from (ZW ((ZfO (E.sh (ZD ZbM (Zc 0) (Z9))) (ZfO (E.sh (ZD ZbM (Zc 1) (Z9))) (E.sh (ZD Zdz (Zc 0) (Zc 1))))))))
noncomputable def Zkk : Sm := ZH (Zj Zai (Zcc (Zf (ZaS (Zf (Zl 0) (Zf (Zl 0) Zo))) Zo)) (Zb 0))
noncomputable def Ze8 := Zaa 1 Zkk
noncomputable def Zkl : PS := (ZF (Ze Zah (Zb7 (Zd (ZaV (Zd (Zk 0) (Zd (Zk 0) Zn))) Zn)) (Za 0)))
noncomputable def Ze9 := Zac 1 Zkl
theorem Zkm : SimF false Ze8 Ze9 := Zag (show S [] [] [] false Zkk Zkl from (ZW (Zae Zam (E.list (Zh (E.tup (Zh (Zm _) (Zh (Zm _) Zp))) Zp)) (Zc 0))))
noncomputable def Zj3 : Sm := Zw (ZO 3 (Zj Zu (Zb 1) (Zb 2))) (Zw (ZaN (Zjm (Zb 1)) (ZcB 4 5) (ZX (Zau (ZG (Zj Zbu (Zb 3) (Z1))) (Zau (ZG (Zj oEq (Zv Zeg (Zf (Zj Zu (Zj Zu (Zb 0) (Zb 2)) (Zb 4)) (Zf (Zj Zu (Zj Zu (Zb 0) (Zb 4)) (Zb 2)) Zo))) (Zl 0))) Zan)) (ZO 3 (Zv Zh7 (Zf (Zb 3) (Zf (Zv Zgg (Zf (Zb 5) (Zf (ZaS (Zf (Zl 0) (Zf (Zj Zu (Zj Zu (Zb 0) (Zb 2)) (Zb 4)) Zo))) Zo))) Zo)))) Z2)) (ZH (Zb 3)))
noncomputable def Zf0 := Zaa 3 Zj3
noncomputable def Zj4 : PS := (Zt (ZJ 3 (Ze Zr (Za 1) (Za 2))) (Zt (ZaC (Zjn (Za 1)) (ZcY 4 5) (ZQ (Zaj (ZE (Ze ZaP (Za 3) (ZT))) (Zaj (ZE (Ze qEq (Zs ZdT (Zd (Ze Zr (Ze Zr (Za 0) (Za 2)) (Za 4)) (Zd (Ze Zr (Ze Zr (Za 0) (Za 4)) (Za 2)) Zn))) (Zk 0))) Zaf)) (ZJ 3 (Zs Zgk (Zd (Za 3) (Zd (Zs Zfc (Zd (Za 5) (Zd (ZaV (Zd (Zk 0) (Zd (Ze Zr (Ze Zr (Za 0) (Za 2)) (Za 4)) Zn))) Zn))) Zn)))) ZV)) (ZF (Za 3))))
noncomputable def Zev := Zac 3 Zj4
theorem ZoQ : SimF false Zf0 Zev := Zag (show S [] [] [] false Zj3 Zj4 from (Zz (ZZ (O' := []) (ZB ZA (Zc 1) (Zc 2))) (Zz (Zbb (Zv6 (Zc 1)) PutOk.two (by decide) (by decide) (Z4 (ZaB (ZK (ZD ZbM (Zc 3) (Z9))) (ZaB (ZK (ZD ZaO (ZL Zfg (Zh (ZB ZA (ZB ZA (Zc 0) (Zc 2)) (Zc 4)) (Zh (ZB ZA (ZB ZA (Zc 0) (Zc 4)) (Zc 2)) Zp))) (Zm _))) Zaz)) (ZZ (O' := []) (ZL Zpy (Zh (Zc 3) (Zh (ZL Zli (Zh (Zc 5) (Zh (E.tup (Zh (Zm _) (Zh (ZB ZA (ZB ZA (Zc 0) (Zc 2)) (Zc 4)) Zp))) Zp))) Zp)))) Z7)) (ZW (Zc 3)))))
noncomputable def Zf2 : Sm := Zw (ZX (ZG (Zj oIs (Zb 0) (Z1))) (ZH (Z1)) Z2) (Zw (ZO 1 (Zv Ze8 (Zf (Zj Zu (Zb 0) (Zl 1)) Zo))) (Zw (ZO 2 (ZaJ (ZaQ (Zf (Zl 1) (Zf (Zv ZaK (Zf (Zb 1) Zo)) Zo))) (put1 100) Zan (Zv Zf0 (Zf (Zj Zu (Zb 0) (Zl 0)) (Zf (Zb 1) (Zf (Zb 100) Zo)))))) (Zw (ZX (ZG (Zj oIn (Z1) (Zb 2))) (ZH (Z1)) Z2) (ZH (ZaS (Zf (Zj Zu (Zb 0) (Zl 0)) (Zf (Zb 2) Zo)))))))
noncomputable def Zec := Zaa 1 Zf2
noncomputable def Zf3 : PS := (Zt (ZQ (ZE (Ze qIs (Za 0) (ZT))) (ZF (ZT)) ZV) (Zt (ZJ 1 (Zs Ze9 (Zd (Ze Zr (Za 0) (Zk 1)) Zn))) (Zt (ZJ 2 (Zaq (ZaF (Zd (Zk 1) (Zd (Zs Zas (Zd (Za 1) Zn)) Zn))) (Zad 100) Zaf (Zs Zev (Zd (Ze Zr (Za 0) (Zk 0)) (Zd (Za 1) (Zd (Za 100) Zn)))))) (Zt (ZQ (ZE (Ze qIn (ZT) (Za 2))) (ZF (ZT)) ZV) (ZF (ZaV (Zd (Ze Zr (Za 0) (Zk 0)) (Zd (Za 2) Zn))))))))
noncomputable def ZdO := Zac 1 Zf3
theorem Zsx : SimF false Zec ZdO := Zag (show S [] [] [] false Zf2 Zf3 from (Zz (Z4 (ZK (ZD Zbs (Zc 0) (Z9))) (ZW (Z9)) Z7) (Zz (ZZ (O' := []) (ZL Zkm (Zh (ZB ZA (Zc 0) (Zm _)) Zp))) (Zz (ZZ (O' := []) (Zcb (Gs.range (Zh (Zm _) (Zh (Zax ZaW (Zh (Zc 1) Zp)) Zp))) PutOk.one (by decide) Zaz (ZL ZoQ (Zh (ZB ZA (Zc 0) (Zm _)) (Zh (Zc 1) (Zh (Zc 100) Zp)))))) (Zz (Z4 (ZK (ZD Ze2 (Z9) (Zc 2))) (ZW (Z9)) Z7) (ZW (E.tup (Zh (ZB ZA (Zc 0) (Zm _)) (Zh (Zc 2) Zp)))))))))
noncomputable def Zi7 : Sm := Zw (ZX (ZG (Zj oIs (Zb 0) (Z1))) (ZH (Z1)) Z2) (Zw (ZO 1 (Zv Zfx (Zf (Zj Zu (Zb 0) (Zl 0)) Zo))) (Zw (ZX (ZG (Zj oIs (Zb 1) (Z1))) (ZH (Z1)) Z2) (ZH (ZaS (Zf (Zb 1) (Zf (Zj Zu (Zb 0) (Zl 1)) Zo))))))
noncomputable def Zen := Zaa 1 Zi7
noncomputable def Zi8 : PS := (Zt (ZQ (ZE (Ze qIs (Za 0) (ZT))) (ZF (ZT)) ZV) (Zt (ZJ 1 (Zs ZgH (Zd (Ze Zr (Za 0) (Zk 0)) Zn))) (Zt (ZQ (ZE (Ze qIs (Za 1) (ZT))) (ZF (ZT)) ZV) (ZF (ZaV (Zd (Za 1) (Zd (Ze Zr (Za 0) (Zk 1)) Zn)))))))
noncomputable def Zeo := Zac 1 Zi8
noncomputable def Zoh : Sm := ZH (Zv Zec (Zf (Zv Zen (Zf (Zb 0) Zo)) Zo))
noncomputable def ZfL := Zaa 1 Zoh
noncomputable def Zi9 : PS := (ZF (Zs ZdO (Zd (Zs Zeo (Zd (Za 0) Zn)) Zn)))
noncomputable def ZgO : T → Bool
 | .none => true
 | .tup [_, .lst ts] => T.flats ts
 | _ => false
noncomputable def ZeQ : List T → Option T := fun ts => (Zac 1 Zi9 ts).bind fun t => if ZgO t then some t else none
theorem Zrs (hp : 0 < H.length) (r : RF H a t F) : St ⟨H, [], fun x => x ∈ F⟩ [] (fun i => [a][i]?) (fun i => [t][i]?) H (fun _ => F) := by
 refine ⟨fun i u e => ?_, fun i u e x m => .inr m, fun i hi => (nomatch hi), Nat.le_refl _, fun x _ _ => rfl, hp, by simp⟩
 cases i with
 | zero => cases e; exact ⟨a, rfl, r⟩
 | succ i => simp at e
theorem ZqQ (e : ρ 0 = some a) (r : RF H a t F) (ht : t ≠ .none) : ZX (ZG (Zj oIs (Zb 0) (Z1))) (ZH (Z1)) Z2 ρ H = some (none, ρ, H) := by
 cases r <;> first | exact absurd rfl ht | simp [ZX, ZG, Zj, Zb, e, Z1, oIs, ZcW, Z2]
theorem ZqR (e : σ 0 = some t) (ht : t ≠ .none) : ZQ (ZE (Ze qIs (Za 0) (ZT))) (ZF (ZT)) ZV σ = some (none, σ) := by
 cases t <;> first | exact absurd rfl ht | simp [ZQ, ZE, Ze, Za, e, ZT, qIs, Zb5, ZV]
theorem ZqS (e : σ 0 = some .none) : ZQ (ZE (Ze qIs (Za 0) (ZT))) (ZF (ZT)) ZV σ = some (some .none, σ) := by
 simp [ZQ, ZE, Ze, Za, e, ZT, qIs, Zb5, ZF]
theorem ZoE {a b : PS} {σ1 : TL} (h : a σ = some (none, σ1)) : Zt a b σ = b σ1 := by simp only [Zt, h, Option.bind_some]
theorem ZrR {a b : PS} {σ1 : TL} (h : a σ = some (some t, σ1)) : Zt a b σ = some (some t, σ1) := by simp only [Zt, h, Option.bind_some]
theorem ZeW {a b : Sm} {ρ1 : Lc} {H1 : Hp} (h : a ρ H = some (none, ρ1, H1)) : Zw a b ρ H = b ρ1 H1 := by simp only [Zw, h, Option.bind_some]
theorem ZxX {a b : Sm} {ρ1 : Lc} {H1 : Hp} {v : V} (h : a ρ H = some (some v, ρ1, H1)) : Zw a b ρ H = some (some v, ρ1, H1) := by simp only [Zw, h, Option.bind_some]
theorem ZtC {u : T} (hp : 0 < H.length) (r : RF H a t F) (h : Zeo [t] = some u) :
  (u = .none ∧ ∃ X, Zen [a] H = some (.none, H ++ X)) ∨ ∃ w0 v1 u0 u1 X F0 F1, u = .tup [u0, u1] ∧ Zen [a] H = some (.tup [w0, v1], H ++ X) ∧ RF (H ++ X) w0 u0 F0 ∧ F0.Nodup ∧ (∀ x ∈ F0, H.length ≤ x) ∧ RF (H ++ X) v1 u1 F1 := by
 have st := Zrs hp r
 unfold Zeo Zac at h
 simp only [List.length_cons, List.length_nil, Nat.zero_add, if_true] at h
 obtain ⟨r1, h, h0⟩ := Zz1.mp h
 unfold Zi8 at h
 by_cases hn : t = .none
 ·subst hn
  rw [ZrR (ZqS rfl)] at h
  cases h
  cases h0
  cases r
  exact .inl ⟨rfl, [], by simp [Zen, Zaa, Zi7, Zw, ZX, ZG, Zj, Zb, Z1, oIs, ZcW, ZH]⟩
 ·rw [ZoE (ZqR (σ := fun i => [t][i]?) rfl hn)] at h
  have ev : ∀ b : Sm, Zw (ZX (ZG (Zj oIs (Zb 0) (Z1))) (ZH (Z1)) Z2) b (fun i => [a][i]?) H = b (fun i => [a][i]?) H := fun b => ZeW (ZqQ rfl r hn)
  obtain ⟨r2, h1', h⟩ := Zz0.mp h
  obtain ⟨u0, h1, e1⟩ := Zz1.mp h1'
  subst e1
  have x1 : E [] [] true (Zv Zfx (Zf (Zj Zu (Zb 0) (Zl 0)) Zo)) (Zs ZgH (Zd (Ze Zr (Za 0) (Zk 0)) Zn)) := ZbP Zu8 (Zh (ZB ZA (Zc 0) (Zm _)) Zp)
  obtain ⟨w0, X, F0, a1, a2, a3, a4⟩ := x1 _ _ _ _ _ _ st h1
  have new : ∀ x ∈ F0, H.length ≤ x := fun x m => (a3 x m).nil
  have e2 : ZO 1 (Zv Zfx (Zf (Zj Zu (Zb 0) (Zl 0)) Zo)) (fun i => [a][i]?) H = some (none, upd (fun i => [a][i]?) 1 w0, H ++ X) := by simp only [ZO, a1, Option.map_some]
  simp only at h
  have ev2 : ∀ b : Sm, Zw (ZO 1 (Zv Zfx (Zf (Zj Zu (Zb 0) (Zl 0)) Zo))) b (fun i => [a][i]?) H = b (upd (fun i => [a][i]?) 1 w0) (H ++ X) := fun b => ZeW e2
  have fin : ∀ o, Zw (ZX (ZG (Zj oIs (Zb 1) (Z1))) (ZH (Z1)) Z2) (ZH (ZaS (Zf (Zb 1) (Zf (Zj Zu (Zb 0) (Zl 1)) Zo)))) (upd (fun i => [a][i]?) 1 w0) (H ++ X) = some o → Zen [a] H = some (o.1.getD .none, o.2.2) := fun o ho => by
   unfold Zen Zaa Zi7
   simp only [List.length_cons, List.length_nil, Nat.zero_add, if_true]
   rw [ev, ev2, ho]
   rfl
  by_cases hu : u0 = .none
  ·subst hu
   cases a2
   obtain ⟨r3, h2, h⟩ := Zz0.mp h
   have : r3 = (some .none, Zab (fun i => [t][i]?) 1 .none) := by
    have := h2
    simp [ZQ, ZE, Ze, Za, Zab, ZT, qIs, Zb5, ZF] at this
    exact this.symm
   subst this
   cases h
   cases h0
   refine .inl ⟨rfl, X, fin (some .none, upd (fun i => [a][i]?) 1 .none, H ++ X) ?_⟩
   exact ZxX (by simp [ZX, ZG, Zj, Zb, upd, Z1, oIs, ZcW, ZH])
  ·have e3 : ZX (ZG (Zj oIs (Zb 1) (Z1))) (ZH (Z1)) Z2 (upd (fun i => [a][i]?) 1 w0) (H ++ X) = some (none, upd (fun i => [a][i]?) 1 w0, H ++ X) := by
    cases a2 <;> first | exact (hu rfl).elim | simp [ZX, ZG, Zj, Zb, upd, Z1, oIs, ZcW, Z2]
   have e4 : ZQ (ZE (Ze qIs (Za 1) (ZT))) (ZF (ZT)) ZV (Zab (fun i => [t][i]?) 1 u0) = some (none, Zab (fun i => [t][i]?) 1 u0) := by
    cases u0 <;> first | exact (hu rfl).elim | simp [ZQ, ZE, Ze, Za, Zab, ZT, qIs, Zb5, ZV]
   rw [ZoE e4] at h
   obtain ⟨u', h5, h6⟩ := Zz1.mp h
   subst h6
   obtain ⟨us, h7, h8⟩ := Zz1.mp h5
   subst h8
   obtain ⟨q0, g1, h9⟩ := Zz0.mp h7
   obtain ⟨qs, g2, h10⟩ := Zz0.mp h9
   cases h10
   obtain ⟨q1, g3, g6⟩ := Zz0.mp g2
   obtain ⟨qs', g4, g7⟩ := Zz0.mp g6
   cases g7
   cases g4
   have eq0 : q0 = u0 := by
    have : Zab (fun i => [t][i]?) 1 u0 1 = some q0 := g1
    simp [Zab] at this
    exact this.symm
   subst eq0
   have g5 : Zr t (.int 1) = some q1 := by
    have := g3
    simpa [Ze, Za, Zab, Zk] using this
   obtain ⟨v1, F1, b1, b2, b3⟩ := ZA _ _ _ _ _ _ _ _ (r.ext X) (RF.int (H := H ++ X) 1) g5
   cases h0
   refine .inr ⟨w0, v1, q0, q1, X, F0, F1, rfl, fin (some (.tup [w0, v1]), upd (fun i => [a][i]?) 1 w0, H ++ X) ?_, a2, a4 rfl, new, b2⟩
   rw [ZeW e3]
   simp [ZH, ZaS, Zf, Zb, upd, Zj, Zl, b1, Zo, Zbn]
theorem ZpQ {put : T → TL → Option TL} {f : PE} {σ : TL} : ∀ {ts us : List T}, Zcy put Zaf f σ ts = some us → T.flats us = true → Zcy put Zaf (ZbW f) σ ts = some us
 | [], _, h, _ => h
 | t :: ts, us, h, hf => by
  obtain ⟨σ1, h1, h⟩ := Zz0.mp h
  simp only [Zaf, Option.bind_some, if_true] at h
  obtain ⟨x, h2, h⟩ := Zz0.mp h
  obtain ⟨xs, h3, h⟩ := Zz1.mp h
  subst h
  simp only [T.flats, Bool.and_eq_true] at hf
  simp only [Zcy, h1, Option.bind_some, Zaf, if_true, ZbW, h2, hf.1, ZpQ h3 hf.2, Option.map_some]
theorem Zpz {u : T} (hp : 0 < H.length) (r : RF H a t F) (h : ZdO [t] = some u) (ok : ZgO u = true) :
  (u = .none ∧ ∃ X, Zec [a] H = some (.none, H ++ X)) ∨ ∃ w0 w1 u0 u1 X F1, u = .tup [u0, u1] ∧ Zu a (.int 0) H = some (w0, H) ∧ Zr t (.int 0) = some u0 ∧ Zec [a] H = some (.tup [w0, w1], H ++ X) ∧ RF (H ++ X) w1 u1 F1 ∧ F1.Nodup ∧ (∀ x ∈ F1, H.length ≤ x) := by
 have st := Zrs hp r
 have hfull := h
 unfold ZdO Zac at h
 simp only [List.length_cons, List.length_nil, Nat.zero_add, if_true] at h
 obtain ⟨r1, h, h0⟩ := Zz1.mp h
 unfold Zf3 at h
 by_cases hn : t = .none
 ·subst hn
  rw [ZrR (ZqS rfl)] at h
  cases h
  cases h0
  cases r
  exact .inl ⟨rfl, [], by simp [Zec, Zaa, Zf2, Zw, ZX, ZG, Zj, Zb, Z1, oIs, ZcW, ZH]⟩
 ·rw [ZoE (ZqR (σ := fun i => [t][i]?) rfl hn)] at h
  have ev : ∀ b : Sm, Zw (ZX (ZG (Zj oIs (Zb 0) (Z1))) (ZH (Z1)) Z2) b (fun i => [a][i]?) H = b (fun i => [a][i]?) H := fun b => ZeW (ZqQ rfl r hn)
  obtain ⟨r2, h1', h⟩ := Zz0.mp h
  obtain ⟨t1, h1, e1⟩ := Zz1.mp h1'
  subst e1
  have x1 : E [] ([0] ++ []) false (Zv Ze8 (Zf (Zj Zu (Zb 0) (Zl 1)) Zo)) (Zs Ze9 (Zd (Ze Zr (Za 0) (Zk 1)) Zn)) := ZL Zkm (Zh (ZB ZA (Zc 0) (Zm _)) Zp)
  obtain ⟨v1, X1, Fr, a1, a2, a3, _⟩ := x1 _ _ _ _ _ _ st h1
  have st1 := (st.ext X1).put (j := 1) (by simp) a2 (fun x m => st.from_src (a3 x m)) (fun i hi => (nomatch hi))
  have ev1 : ∀ b : Sm, Zw (ZO 1 (Zv Ze8 (Zf (Zj Zu (Zb 0) (Zl 1)) Zo))) b (fun i => [a][i]?) H = b (upd (fun i => [a][i]?) 1 v1) (H ++ X1) := fun b => ZeW (by simp only [ZO, a1, Option.map_some])
  simp only at h
  obtain ⟨r3, h2', h⟩ := Zz0.mp h
  obtain ⟨t2, h2, e2⟩ := Zz1.mp h2'
  subst e2
  simp only at h
  generalize hσ : Zab (fun i => [t][i]?) 1 t1 = σ1 at *
  generalize hρ : upd (fun i => [a][i]?) 1 v1 = ρ1 at *
  have hρ0 : ρ1 0 = some a := by rw [← hρ]; simp [upd]
  have hσ0 : σ1 0 = some t := by rw [← hσ]; simp [Zab]
  have x2 : ∀ ts, T.flats ts = true → Zaq (ZaF (Zd (Zk 1) (Zd (Zs Zas (Zd (Za 1) Zn)) Zn))) (Zad 100) Zaf (Zs Zev (Zd (Ze Zr (Za 0) (Zk 0)) (Zd (Za 1) (Zd (Za 100) Zn)))) σ1 = some (.lst ts) → ∃ w X G, ZaJ (ZaQ (Zf (Zl 1) (Zf (Zv ZaK (Zf (Zb 1) Zo)) Zo))) (put1 100) Zan (Zv Zf0 (Zf (Zj Zu (Zb 0) (Zl 0)) (Zf (Zb 1) (Zf (Zb 100) Zo)))) ρ1 (H ++ X1) = some (w, H ++ X1 ++ X) ∧ RF (H ++ X1 ++ X) w (.lst ts) G ∧ G.Nodup ∧ ∀ x ∈ G, (H ++ X1).length ≤ x := fun ts hf he => by
   have y : E [] [] true (ZaJ (ZaQ (Zf (Zl 1) (Zf (Zv ZaK (Zf (Zb 1) Zo)) Zo))) (put1 100) Zan (Zv Zf0 (Zf (Zj Zu (Zb 0) (Zl 0)) (Zf (Zb 1) (Zf (Zb 100) Zo))))) (Zaq (ZaF (Zd (Zk 1) (Zd (Zs Zas (Zd (Za 1) Zn)) Zn))) (Zad 100) Zaf (ZbW (Zs Zev (Zd (Ze Zr (Za 0) (Zk 0)) (Zd (Za 1) (Zd (Za 100) Zn)))))) := Zdo (Gs.range (Zh (Zm _) (Zh (Zax ZaW (Zh (Zc 1) Zp)) Zp))) PutOk.one (by decide) Zaz (E.flat (ZL ZoQ (Zh (ZB ZA (Zc 0) (Zm _)) (Zh (Zc 1) (Zh (Zc 100) Zp)))))
   have he2 : Zaq (ZaF (Zd (Zk 1) (Zd (Zs Zas (Zd (Za 1) Zn)) Zn))) (Zad 100) Zaf (ZbW (Zs Zev (Zd (Ze Zr (Za 0) (Zk 0)) (Zd (Za 1) (Zd (Za 100) Zn))))) σ1 = some (.lst ts) := by
    obtain ⟨zs, g1, g2⟩ := Zz0.mp he
    split at g2
    ·rename_i hl
     obtain ⟨us, g3, g4⟩ := Zz1.mp g2
     cases g4
     simp only [Zaq, g1, Option.bind_some]
     rw [if_pos hl, ZpQ g3 hf]
     rfl
    ·cases g2
   obtain ⟨w, X, G, b1, b2, b3, b4⟩ := y _ _ _ _ _ _ st1 he2
   exact ⟨w, X, G, b1, b2, b4 rfl, fun x m => (b3 x m).nil⟩
  obtain ⟨ts, rfl⟩ : ∃ ts, t2 = .lst ts := by
   obtain ⟨zs, g1, g2⟩ := Zz0.mp h2
   split at g2
   ·obtain ⟨us, g3, g4⟩ := Zz1.mp g2
    exact ⟨us, g4.symm⟩
   ·cases g2
  by_cases hu : u = .none
  ·subst hu
   obtain ⟨v, X, G, c1, c2, _⟩ := Zsx H [a] [t] .none F hp (RFs.one r) hfull
   cases c2
   exact .inl ⟨rfl, X, c1⟩
  ·obtain ⟨r4, h3, h⟩ := Zz0.mp h
   obtain ⟨b, h4, h5⟩ := Zz0.mp h3
   cases b with
   | true =>
    simp only [if_true] at h5
    cases h5
    cases h
    cases h0
    exact absurd rfl hu
   | false =>
    cases h5
    simp only at h
    obtain ⟨u', h6, h7⟩ := Zz1.mp h
    subst h7
    obtain ⟨us, h8, h9⟩ := Zz1.mp h6
    subst h9
    obtain ⟨q0, g1, h10⟩ := Zz0.mp h8
    obtain ⟨qs, g2, h11⟩ := Zz0.mp h10
    cases h11
    obtain ⟨q1, g3, g6⟩ := Zz0.mp g2
    obtain ⟨qs', g4, g7⟩ := Zz0.mp g6
    cases g7
    cases g4
    have eq1 : q1 = .lst ts := by
     have : Zab σ1 2 (.lst ts) 2 = some q1 := g3
     simp [Zab] at this
     exact this.symm
    subst eq1
    have g5 : Zr t (.int 0) = some q0 := by
     have := g1
     simpa [Ze, Za, Zab, Zk, hσ0] using this
    cases h0
    obtain ⟨w, X, G, b1, b2, b3, b4⟩ := x2 ts ok h2
    obtain ⟨w0, F0, i1, i2, i3⟩ := ZA _ _ _ _ _ _ _ _ r (RF.int (H := H) 0) g5
    have st2 := (st1.ext X).put (j := 2) (by simp) b2 (fun x m => .inl (by have := b4 x m; simp at this; show H.length ≤ x; omega)) (fun i hi => (nomatch hi))
    have bt : Bt [] (ZG (Zj oIn (Z1) (Zb 2))) (ZE (Ze qIn (ZT) (Za 2))) := ZK (ZD Ze2 Z9 (Zc 2))
    obtain ⟨Y, k1⟩ := bt _ _ _ _ _ _ st2 h4
    refine .inr ⟨w0, w, q0, .lst ts, X1 ++ X ++ Y, G, rfl, i1, g5, ?_, by rw [← List.append_assoc, ← List.append_assoc]; exact b2.ext Y, b3, fun x m => by have := b4 x m; simp at this; omega⟩
    unfold Zec Zaa Zf2
    simp only [List.length_cons, List.length_nil, Nat.zero_add, if_true]
    rw [ev, ev1, ZeW (ρ1 := upd ρ1 2 w) (H1 := H ++ X1 ++ X) (by simp only [ZO, b1, Option.map_some]), ZeW (ρ1 := upd ρ1 2 w) (H1 := H ++ X1 ++ X ++ Y) (by simp only [ZX, k1, Option.bind_some]; rfl)]
    have hidx := (ZmA i1 (X1 ++ X ++ Y)).2
    have hr : (upd ρ1 2 w) 0 = some a := by simp [upd, hρ0]
    have h2w : (upd ρ1 2 w) 2 = some w := by simp [upd]
    simp only [← List.append_assoc] at hidx ⊢
    generalize H ++ X1 ++ X ++ Y = K at *
    have e5 : ZaS (Zf (Zj Zu (Zb 0) (Zl 0)) (Zf (Zb 2) Zo)) (upd ρ1 2 w) K = some (.tup [w0, w], K) := by
     simp only [ZaS, Zf, Zj, Zb, hr, h2w, Zl, Zo, Option.map_some, Option.bind_some, hidx]
     rw [if_pos (by rw [Zbn]; simp)]
    simp only [ZH, e5, Option.map_some]
    rfl
theorem Zrt : SimF true ZfL ZeQ := fun H vs ts t F1 hp r h => by
 obtain ⟨t', h1, h2⟩ := Zz0.mp h
 by_cases ok : ZgO t' = true
 ·rw [if_pos ok] at h2
  cases h2
  unfold Zac at h1
  split at h1
  ·rename_i hl
   obtain ⟨t0, rfl⟩ : ∃ t0, ts = [t0] := List.length_eq_one_iff.mp hl
   obtain ⟨a, rfl, r0⟩ := r.one_inv
   obtain ⟨r1, h3, h4⟩ := Zz1.mp h1
   obtain ⟨u, h5, h6⟩ := Zz1.mp h3
   subst h6
   cases h4
   obtain ⟨us, h7, h8⟩ := Zz0.mp h5
   obtain ⟨q0, g1, h9⟩ := Zz0.mp h7
   obtain ⟨qs, g2, h10⟩ := Zz0.mp h9
   cases h10
   cases g2
   have g3 : Zeo [t0] = some q0 := by
    have := g1
    simpa [Zs, Zd, Za, Zn] using this
   have g4 : ZdO [q0] = some u := h8
   have run : ∀ v1 X1 v2 X2, Zen [a] H = some (v1, H ++ X1) → Zec [v1] (H ++ X1) = some (v2, H ++ X1 ++ X2) → ZfL [a] H = some (v2, H ++ (X1 ++ X2)) := fun v1 X1 v2 X2 e1 e2 => by
    simp [ZfL, Zaa, Zoh, ZH, Zv, Zf, Zb, Zo, e1, e2]
   rcases ZtC hp r0 g3 with ⟨rfl, X, e1⟩ | ⟨w0, v1, u0, u1, X, F0, F2, rfl, e1, a1, a2, a3, a4⟩
   ·have hp2 : 0 < (H ++ X).length := by rw [List.length_append]; omega
    rcases Zpz hp2 (.none (H := H ++ X)) g4 ok with ⟨rfl, Y, e2⟩ | ⟨_, _, _, _, _, _, _, e2, _⟩
    ·exact ⟨.none, X ++ Y, [], run _ _ _ _ e1 e2, .none, by simp, by simp⟩
    ·cases e2
   ·have hp2 : 0 < (H ++ X).length := by rw [List.length_append]; omega
    rcases Zpz hp2 (.tup (.cons a1 (.one a4))) g4 ok with ⟨rfl, Y, e2⟩ | ⟨x0, w1, y0, y1, Y, F1', rfl, e3, e4, e2, b1, b2, b3⟩
    ·exact ⟨.none, X ++ Y, [], run _ _ _ _ e1 e2, .none, by simp, by simp⟩
    ·have ex : x0 = w0 := by
      have : Zu (.tup [w0, v1]) (.int 0) (H ++ X) = some (w0, H ++ X) := by simp [Zu, seqIndex?]
      rw [this] at e3
      cases e3
      rfl
     have ey : y0 = u0 := by
      have : Zr (.tup [u0, u1]) (.int 0) = some u0 := by simp [Zr, seqIndex?]
      rw [this] at e4
      cases e4
      rfl
     subst ex ey
     have nd : (F0 ++ F1').Nodup := by
      rw [List.nodup_append]
      refine ⟨a2, b2, fun x hx y hy e => ?_⟩
      have := a1.lt x hx
      have := b3 y hy
      omega
     have nw : ∀ x ∈ F0 ++ F1', H.length ≤ x := fun x m => by
      rcases Zz8.mp m with m | m
      ·exact a3 x m
      ·have := b3 x m; rw [List.length_append] at this; omega
     exact ⟨.tup [x0, w1], X ++ Y, F0 ++ F1', run _ _ _ _ e1 e2, by rw [← List.append_assoc]; exact .tup (.cons (a1.ext Y) (.one b1)), fun x m => .inl (nw x m), fun _ => ⟨nd, nw⟩⟩
  ·cases h1
 ·rw [if_neg ok] at h2
  cases h2
noncomputable def ZjI : Sm := Zw (ZX (ZG (Zj Zbu (Zb 0) (Z1))) (ZH (Zv ZkN (Zf (Zb 1) (Zf (Zb 0) Zo)))) Z2) (Zw (ZX (ZG (Zj oEq (Zj Zu (Zb 1) (Zl 0)) (Zl 0))) (ZH (Zj Zu (Zb 1) (Zl 1))) Z2) (ZH (Z1)))
noncomputable def ZjJ := Zaa 2 ZjI
noncomputable def ZjK : PS := (Zt (ZQ (ZE (Ze ZaP (Za 0) (ZT))) (ZF (Zs ZhE (Zd (Za 1) (Zd (Za 0) Zn)))) ZV) (Zt (ZQ (ZE (Ze qEq (Ze Zr (Za 1) (Zk 0)) (Zk 0))) (ZF (Ze Zr (Za 1) (Zk 1))) ZV) (ZF (ZT))))
noncomputable def Zhl := Zac 2 ZjK
theorem Zr1 : SimF false ZjJ Zhl := Zag (show S [] [] [] false ZjI ZjK from (Zz (Z4 (ZK (ZD ZbM (Zc 0) (Z9))) (ZW (ZL ZsU (Zh (Zc 1) (Zh (Zc 0) Zp)))) Z7) (Zz (Z4 (ZK (ZD ZaO (ZB ZA (Zc 1) (Zm _)) (Zm _))) (ZW (ZB ZA (Zc 1) (Zm _))) Z7) (ZW (Z9)))))
noncomputable def Zkn : Sm := Zw (ZO 3 (Zcc Zo)) (Zw (ZaN (Zd8 (Zb 0) (Zb 2)) (ZcB 4 5) (Zw (ZO 6 (Zv ZjJ (Zf (Zb 4) (Zf (Zv Zgg (Zf (Zb 1) (Zf (Zv Zf8 (Zf (Zb 5) (Zf (eUn Zbr (Zl 1)) Zo))) Zo))) Zo)))) (Zw (ZX (Zau (ZG (Zj oIs (Zb 6) (Z1))) (Zau (ZG (Zj Zbu (Zb 4) (Z1))) Zan)) (ZH (Z1)) Z2) (ZcA (ZeJ (Zb 3) (Zb 6)))))) (ZH (Zb 3)))
noncomputable def Zko := Zaa 3 Zkn
noncomputable def Zkp : PS := (Zt (ZJ 3 (Zb7 Zn)) (Zt (ZaC (Zea (Za 0) (Za 2)) (ZcY 4 5) (Zt (ZJ 6 (Zs Zhl (Zd (Za 4) (Zd (Zs Zfc (Zd (Za 1) (Zd (Zs Zfa (Zd (Za 5) (Zd (pUn Zbd (Zk 1)) Zn))) Zn))) Zn)))) (Zt (ZQ (Zaj (ZE (Ze qIs (Za 6) (ZT))) (Zaj (ZE (Ze ZaP (Za 4) (ZT))) Zaf)) (ZF (ZT)) ZV) (Zc1 3 [] ZaD (ZbW (Za 6)))))) (ZF (Za 3))))
noncomputable def Zhw := Zac 3 Zkp
theorem Zsy : SimF false Zko Zhw := Zag (show S [] [3] [] false Zkn Zkp from (Zz (Zco (O' := [3]) (E.list Zp)) (Zz (Zbb (Gs.zip (Zc 0) (Zc 2)) PutOk.two (by decide) (by decide) (Zz (ZZ (O' := [3]) (ZL Zr1 (Zh (Zc 4) (Zh (ZL Zli (Zh (Zc 1) (Zh (ZL ZkL (Zh (Zc 5) (Zh (ZbF ZbG (Zm _)) Zp))) Zp))) Zp)))) (Zz (Z4 (ZaB (ZK (ZD Zbs (Zc 6) (Z9))) (ZaB (ZK (ZD ZbM (Zc 4) (Z9))) Zaz)) (ZW (Z9)) Z7) (Zjk (O' := [3]) (by decide) ZbD (Za9 (O' := []) (E.flat (Zc 6))) (by decide) (by decide))))) (ZW (Zc 3)))))
noncomputable def ZmR : Sm := Zw (ZX (ZG (Zj oIs (Zb 0) (Z1))) (ZH (Z1)) Z2) (Zw (ZO 1 (Zv Ze8 (Zf (Zj Zu (Zb 0) (Zl 1)) Zo))) (Zw (ZO 2 (ZaJ (Zd8 (Zj Zu (Zb 0) (Zl 0)) (Zb 1)) (ZcB 100 101) Zan (Zv Zko (Zf (Zb 100) (Zf (Zb 101) (Zf (Zb 1) Zo)))))) (Zw (ZX (ZG (Zj oIn (Z1) (Zb 2))) (ZH (Z1)) Z2) (ZH (ZaS (Zf (Zb 2) (Zf (Zj Zu (Zb 0) (Zl 1)) Zo)))))))
noncomputable def ZmS := Zaa 1 ZmR
noncomputable def Zim : PS := (Zt (ZQ (ZE (Ze qIs (Za 0) (ZT))) (ZF (ZT)) ZV) (Zt (ZJ 1 (Zs Ze9 (Zd (Ze Zr (Za 0) (Zk 1)) Zn))) (Zt (ZJ 2 (Zaq (Zea (Ze Zr (Za 0) (Zk 0)) (Za 1)) (ZcY 100 101) Zaf (Zs Zhw (Zd (Za 100) (Zd (Za 101) (Zd (Za 1) Zn)))))) (Zt (ZQ (ZE (Ze qIn (ZT) (Za 2))) (ZF (ZT)) ZV) (ZF (ZaV (Zd (Za 2) (Zd (Ze Zr (Za 0) (Zk 1)) Zn))))))))
noncomputable def Zfs := Zac 1 Zim
theorem Zuk : SimF false ZmS Zfs := Zag (show S [] [] [] false ZmR Zim from (Zz (Z4 (ZK (ZD Zbs (Zc 0) (Z9))) (ZW (Z9)) Z7) (Zz (ZZ (O' := []) (ZL Zkm (Zh (ZB ZA (Zc 0) (Zm _)) Zp))) (Zz (ZZ (O' := []) (Zcb (Gs.zip (ZB ZA (Zc 0) (Zm _)) (Zc 1)) PutOk.two (by decide) Zaz (ZL Zsy (Zh (Zc 100) (Zh (Zc 101) (Zh (Zc 1) Zp)))))) (Zz (Z4 (ZK (ZD Ze2 (Z9) (Zc 2))) (ZW (Z9)) Z7) (ZW (E.tup (Zh (Zc 2) (Zh (ZB ZA (Zc 0) (Zm _)) Zp)))))))))
noncomputable def ZnO : Sm := ZH (Zv ZfL (Zf (Zv ZmS (Zf (Zv ZfL (Zf (Zb 0) Zo)) Zo)) Zo))
noncomputable def ZiO := Zaa 1 ZnO
noncomputable def ZnP : PS := (ZF (Zs ZeQ (Zd (Zs Zfs (Zd (Zs ZeQ (Zd (Za 0) Zn)) Zn)) Zn)))
noncomputable def ZdY := Zac 1 ZnP
theorem ZqT : SimF true ZiO ZdY := Zag (show S [] [] [] true ZnO ZnP from (Za8 (ZbP Zrt (Zh (ZL Zuk (Zh (ZL Zrt (Zh (Zc 0) Zp)) Zp)) Zp))))
noncomputable def Zjz : Sm := Zw (ZO 1 (Zv ZaK (Zf (Zb 0) Zo))) (Zw (ZO 2 (ZaJ (Zbz (Zb 0)) (put1 100) Zan (Zv Zcv (Zf (Zb 100) Zo)))) (Zw (ZO 3 (Zl 1)) (Zw (Zc5 (ZG (Zj oLt (Zb 3) (Zb 1))) (Zw (ZO 4 (ZaJ (Zbz (Zb 2)) (put1 102) Zan (Zv Zcv (Zf (Zb 102) Zo)))) (Zw (ZaN (ZaQ (Zf (Zb 1) Zo)) (put1 5) (ZaN (ZaQ (Zf (Zb 1) Zo)) (put1 6) (ZaN (ZaQ (Zf (Zb 1) Zo)) (put1 7) (ZX (Zau (ZG (Zj Zbu (Zj Zu (Zj Zu (Zb 4) (Zb 5)) (Zb 7)) (Z1))) (Zau (ZG (Zj Zbu (Zj Zu (Zj Zu (Zb 4) (Zb 7)) (Zb 6)) (Z1))) Zan)) (Zw (ZO 8 (Zj Zai (Zj Zu (Zj Zu (Zb 4) (Zb 5)) (Zb 7)) (Zj Zu (Zj Zu (Zb 4) (Zb 7)) (Zb 6)))) (ZX (tOr (ZG (Zj oIs (Zj Zu (Zj Zu (Zb 2) (Zb 5)) (Zb 6)) (Z1))) (tOr (ZG (Zj oLt (Zb 8) (Zj Zu (Zj Zu (Zb 2) (Zb 5)) (Zb 6)))) Zcn)) (ZbJ (Zb 8) (Zj Zu (Zb 2) (Zb 5)) (Zb 6)) Z2)) Z2)))) (ZO 3 (Zj ZaY (Zl 2) (Zb 3))))) 1000000) (Zw (ZaN (ZaQ (Zf (Zb 1) Zo)) (put1 5) (ZX (ZG (Zj oLt (Zj Zu (Zj Zu (Zb 2) (Zb 5)) (Zb 5)) (Zl 0))) (ZH (Z1)) Z2)) (ZH (Zb 2))))))
noncomputable def Zhi := Zaa 1 Zjz
noncomputable def ZjA : PS := (Zt (ZJ 1 (Zs Zas (Zd (Za 0) Zn))) (Zt (ZJ 2 (Zaq (ZaE (Za 0)) (Zad 100) Zaf (pFl (Zs Zcg (Zd (Za 100) Zn))))) (Zt (ZJ 3 (Zk 1)) (Zt (Zdq (ZE (Ze qLt (Za 3) (Za 1))) (Zt (ZJ 4 (Zaq (ZaE (Za 2)) (Zad 102) Zaf (pFl (Zs Zcg (Zd (Za 102) Zn))))) (Zt (ZaC (ZaF (Zd (Za 1) Zn)) (Zad 5) (ZaC (ZaF (Zd (Za 1) Zn)) (Zad 6) (ZaC (ZaF (Zd (Za 1) Zn)) (Zad 7) (ZQ (Zaj (ZE (Ze ZaP (Ze Zr (Ze Zr (Za 4) (Za 5)) (Za 7)) (ZT))) (Zaj (ZE (Ze ZaP (Ze Zr (Ze Zr (Za 4) (Za 7)) (Za 6)) (ZT))) Zaf)) (Zt (ZJ 8 (Ze Zah (Ze Zr (Ze Zr (Za 4) (Za 5)) (Za 7)) (Ze Zr (Ze Zr (Za 4) (Za 7)) (Za 6)))) (ZQ (bOr (ZE (Ze qIs (Ze Zr (Ze Zr (Za 2) (Za 5)) (Za 6)) (ZT))) (bOr (ZE (Ze qLt (Za 8) (Ze Zr (Ze Zr (Za 2) (Za 5)) (Za 6)))) Zcf)) (Za3 2 [] (ZbW (Za 8)) (Zbv ZaD (Za 5)) (Za 6)) ZV)) ZV)))) (ZJ 3 (Ze ZaG (Zk 2) (Za 3))))) 1000000) (Zt (ZaC (ZaF (Zd (Za 1) Zn)) (Zad 5) (ZQ (ZE (Ze qLt (Ze Zr (Ze Zr (Za 2) (Za 5)) (Za 5)) (Zk 0))) (ZF (ZT)) ZV)) (ZF (Za 2)))))))
noncomputable def Ze5 := Zac 1 ZjA
theorem ZoH : SimF false Zhi Ze5 := Zag (show S [] [2] [] false Zjz ZjA from (Zz (ZZ (O' := []) (Zax ZaW (Zh (Zc 0) Zp))) (Zz (Zco (O' := [2]) (Zdo (Gs.seq (Zc 0)) PutOk.one (by decide) Zaz (Zek Zdn (Zh (Zc 100) Zp)))) (Zz (ZZ (O' := [2]) (Zm _)) (Zz (ZfE (ZK (ZD Zcr (Zc 3) (Zc 1))) (Zz (ZZ (O' := [2]) (Za9 (O' := []) (Zdo (Gs.seq (Zc 2)) PutOk.one (by decide) Zaz (Zek Zdn (Zh (Zc 102) Zp))))) (Zz (Zbb (Gs.range (Zh (Zc 1) Zp)) PutOk.one (by decide) (by decide) (Zbb (Gs.range (Zh (Zc 1) Zp)) PutOk.one (by decide) (by decide) (Zbb (Gs.range (Zh (Zc 1) Zp)) PutOk.one (by decide) (by decide) (Z4 (ZaB (ZK (ZD ZbM (ZB ZA (ZB ZA (Zc 4) (Zc 5)) (Zc 7)) (Z9))) (ZaB (ZK (ZD ZbM (ZB ZA (ZB ZA (Zc 4) (Zc 7)) (Zc 6)) (Z9))) Zaz)) (Zz (ZZ (O' := [2]) (Zae Zam (ZB ZA (ZB ZA (Zc 4) (Zc 5)) (Zc 7)) (ZB ZA (ZB ZA (Zc 4) (Zc 7)) (Zc 6)))) (Z4 (Zbi (ZK (ZD Zbs (ZB ZA (ZB ZA (Zc 2) (Zc 5)) (Zc 6)) (Z9))) (Zbi (ZK (ZD Zcr (Zc 8) (ZB ZA (ZB ZA (Zc 2) (Zc 5)) (Zc 6)))) ZcO)) (S.put (O' := [2]) (by decide) (Za9 (O' := []) (E.flat (Zc 8))) (Zc6 ZbD (Zc 5)) (Zc 6) (by decide) (by decide)) Z7)) Z7)))) (ZZ (O' := [2]) (Zae Zba (Zm _) (Zc 3))))) 1000000) (Zz (Zbb (Gs.range (Zh (Zc 1) Zp)) PutOk.one (by decide) (by decide) (Z4 (ZK (ZD Zcr (ZB ZA (ZB ZA (Zc 2) (Zc 5)) (Zc 5)) (Zm _))) (ZW (Z9)) Z7)) (ZW (Zc 2))))))))
noncomputable def ZmT : Sm := Zw (ZO 2 (Zj Zu (Zb 0) (Zl 0))) (Zw (ZO 3 (Zj Zu (Zb 1) (Zl 0))) (Zw (ZO 4 (Zl 1)) (Zw (ZO 5 (Zl 0)) (Zw (Zc5 (ZG (Zj oNe (Zb 3) (Zl 0))) (Zw (ZO 6 (Zj oDiv (Zb 2) (Zb 3))) (Zw (ZO 7 (Zj Zbm (Zb 2) (Zj ZaY (Zb 6) (Zb 3)))) (Zw (ZO 2 (Zb 3)) (Zw (ZO 3 (Zb 7)) (Zw (ZO 7 (Zj Zbm (Zb 4) (Zj ZaY (Zb 6) (Zb 5)))) (Zw (ZO 4 (Zb 5)) (ZO 5 (Zb 7)))))))) 1000000) (Zw (ZO 8 (Zj Zbm (Zj Zu (Zb 1) (Zl 1)) (Zj Zu (Zb 0) (Zl 1)))) (Zw (ZX (ZG (Zj oEq (Zb 2) (Zl 0))) (Zw (ZX (ZG (Zj oNe (Zb 8) (Zl 0))) (ZH (Z1)) Z2) (ZH (Zb 0))) Z2) (Zw (ZX (ZG (Zj oNe (Zj oMod (Zb 8) (Zb 2)) (Zl 0))) (ZH (Z1)) Z2) (ZH (Zv ZdN (Zf (Zj ZaY (Zj oDiv (Zj Zu (Zb 0) (Zl 0)) (Zb 2)) (Zj Zu (Zb 1) (Zl 0))) (Zf (Zj Zai (Zj Zu (Zb 0) (Zl 1)) (Zj ZaY (Zj ZaY (Zj Zu (Zb 0) (Zl 0)) (Zb 4)) (Zj oDiv (Zb 8) (Zb 2)))) Zo)))))))))))
noncomputable def Zin := Zaa 2 ZmT
noncomputable def ZmU : PS := (Zt (ZJ 2 (Ze Zr (Za 0) (Zk 0))) (Zt (ZJ 3 (Ze Zr (Za 1) (Zk 0))) (Zt (ZJ 4 (Zk 1)) (Zt (ZJ 5 (Zk 0)) (Zt (Zdq (ZE (Ze qNe (Za 3) (Zk 0))) (Zt (ZJ 6 (Ze ZcC (Za 2) (Za 3))) (Zt (ZJ 7 (Ze Za6 (Za 2) (Ze ZaG (Za 6) (Za 3)))) (Zt (ZJ 2 (Za 3)) (Zt (ZJ 3 (Za 7)) (Zt (ZJ 7 (Ze Za6 (Za 4) (Ze ZaG (Za 6) (Za 5)))) (Zt (ZJ 4 (Za 5)) (ZJ 5 (Za 7)))))))) 1000000) (Zt (ZJ 8 (Ze Za6 (Ze Zr (Za 1) (Zk 1)) (Ze Zr (Za 0) (Zk 1)))) (Zt (ZQ (ZE (Ze qEq (Za 2) (Zk 0))) (Zt (ZQ (ZE (Ze qNe (Za 8) (Zk 0))) (ZF (ZT)) ZV) (ZF (Za 0))) ZV) (Zt (ZQ (ZE (Ze qNe (Ze Zbc (Za 8) (Za 2)) (Zk 0))) (ZF (ZT)) ZV) (ZF (Zs ZdB (Zd (Ze ZaG (Ze ZcC (Ze Zr (Za 0) (Zk 0)) (Za 2)) (Ze Zr (Za 1) (Zk 0))) (Zd (Ze Zah (Ze Zr (Za 0) (Zk 1)) (Ze ZaG (Ze ZaG (Ze Zr (Za 0) (Zk 0)) (Za 4)) (Ze ZcC (Za 8) (Za 2)))) Zn))))))))))))
noncomputable def Zgx := Zac 2 ZmU
theorem ZpR : SimF false Zin Zgx := Zag (show S [] [] [] false ZmT ZmU from (Zz (ZZ (O' := []) (ZB ZA (Zc 0) (Zm _))) (Zz (ZZ (O' := []) (ZB ZA (Zc 1) (Zm _))) (Zz (ZZ (O' := []) (Zm _)) (Zz (ZZ (O' := []) (Zm _)) (Zz (ZfE (ZK (ZD ZbQ (Zc 3) (Zm _))) (Zz (ZZ (O' := []) (ZD Zda (Zc 2) (Zc 3))) (Zz (ZZ (O' := []) (ZD Zbw (Zc 2) (Zae Zba (Zc 6) (Zc 3)))) (Zz (ZZ (O' := []) (Zc 3)) (Zz (ZZ (O' := []) (Zc 7)) (Zz (ZZ (O' := []) (ZD Zbw (Zc 4) (Zae Zba (Zc 6) (Zc 5)))) (Zz (ZZ (O' := []) (Zc 5)) (ZZ (O' := []) (Zc 7)))))))) 1000000) (Zz (ZZ (O' := []) (ZD Zbw (ZB ZA (Zc 1) (Zm _)) (ZB ZA (Zc 0) (Zm _)))) (Zz (Z4 (ZK (ZD ZaO (Zc 2) (Zm _))) (Zz (Z4 (ZK (ZD ZbQ (Zc 8) (Zm _))) (ZW (Z9)) Z7) (ZW (Zc 0))) Z7) (Zz (Z4 (ZK (ZD ZbQ (ZD Zbq (Zc 8) (Zc 2)) (Zm _))) (ZW (Z9)) Z7) (ZW (ZL Zew (Zh (Zae Zba (ZD Zda (ZB ZA (Zc 0) (Zm _)) (Zc 2)) (ZB ZA (Zc 1) (Zm _))) (Zh (Zae Zam (ZB ZA (Zc 0) (Zm _)) (Zae Zba (Zae Zba (ZB ZA (Zc 0) (Zm _)) (Zc 4)) (ZD Zda (Zc 8) (Zc 2)))) Zp)))))))))))))
noncomputable def ZkP : Sm := Zw (ZO 2 (Zj Zai (Zcc (Zf (ZaS (Zf (Zl 0) (Zf (Zl 0) Zo))) Zo)) (Zb 1))) (Zw (ZO 3 (Zj Zai (Zcc (Zf (ZaS (Zf (Zl 0) (Zf (Zl 0) Zo))) Zo)) (Zb 1))) (Zw (ZaN (ZaQ (Zf (Zl 1) (Zf (Zv ZaK (Zf (Zb 2) Zo)) Zo))) (put1 4) (ZaN (ZaQ (Zf (Zv ZaK (Zf (Zb 2) Zo)) Zo)) (put1 5) (Zw (ZO 6 (Zj Zu (Zj Zu (Zb 0) (Zb 4)) (Zb 5))) (ZX (Zau (ZG (Zj oNe (Zb 4) (Zb 5))) (Zau (ZG (Zj Zbu (Zb 6) (Z1))) (Zau (ZG (Zj oEq (Zj Zu (Zj Zu (Zb 0) (Zb 5)) (Zb 4)) (eUn Zbr (Zb 6)))) (Zau (ZG (Zj Zbu (Zj Zu (Zb 3) (Zb 4)) (Z1))) Zan)))) (ZbJ (Zv Zin (Zf (Zj Zu (Zb 3) (Zb 4)) (Zf (Zv ZdN (Zf (Zj Zu (Zj Zu (Zb 2) (Zb 5)) (Zl 0)) (Zf (Zj Zai (Zj Zu (Zj Zu (Zb 2) (Zb 5)) (Zl 1)) (Zb 6)) Zo))) Zo))) (Zb 3) (Zb 4)) Z2)))) (Zw (ZX (ZG (Zj oIn (Z1) (Zb 3))) (ZH (Z1)) Z2) (ZH (ZdJ (Zb 3) 1)))))
noncomputable def ZhF := Zaa 2 ZkP
noncomputable def ZkQ : PS := (Zt (ZJ 2 (Ze Zah (Zb7 (Zd (ZaV (Zd (Zk 0) (Zd (Zk 0) Zn))) Zn)) (Za 1))) (Zt (ZJ 3 (pFl (Ze Zah (Zb7 (Zd (ZaV (Zd (Zk 0) (Zd (Zk 0) Zn))) Zn)) (Za 1)))) (Zt (ZaC (ZaF (Zd (Zk 1) (Zd (Zs Zas (Zd (Za 2) Zn)) Zn))) (Zad 4) (ZaC (ZaF (Zd (Zs Zas (Zd (Za 2) Zn)) Zn)) (Zad 5) (Zt (ZJ 6 (Ze Zr (Ze Zr (Za 0) (Za 4)) (Za 5))) (ZQ (Zaj (ZE (Ze qNe (Za 4) (Za 5))) (Zaj (ZE (Ze ZaP (Za 6) (ZT))) (Zaj (ZE (Ze qEq (Ze Zr (Ze Zr (Za 0) (Za 5)) (Za 4)) (pUn Zbd (Za 6)))) (Zaj (ZE (Ze ZaP (Ze Zr (Za 3) (Za 4)) (ZT))) Zaf)))) (Za3 3 [] (ZbW (Zs Zgx (Zd (Ze Zr (Za 3) (Za 4)) (Zd (Zs ZdB (Zd (Ze Zr (Ze Zr (Za 2) (Za 5)) (Zk 0)) (Zd (Ze Zah (Ze Zr (Ze Zr (Za 2) (Za 5)) (Zk 1)) (Za 6)) Zn))) Zn)))) ZaD (Za 4)) ZV)))) (Zt (ZQ (ZE (Ze qIn (ZT) (Za 3))) (ZF (ZT)) ZV) (ZF (Zdv (Za 3) 1))))))
noncomputable def Zf9 := Zac 2 ZkQ
theorem Zo1 : SimF false ZhF Zf9 := Zag (show S [] [3] [] false ZkP ZkQ from (Zz (ZZ (O' := []) (Zae Zam (E.list (Zh (E.tup (Zh (Zm _) (Zh (Zm _) Zp))) Zp)) (Zc 1))) (Zz (Zco (O' := [3]) (Zoa Zam (E.list (Zh (E.tup (Zh (Zm _) (Zh (Zm _) Zp))) Zp)) (Zc 1))) (Zz (Zbb (Gs.range (Zh (Zm _) (Zh (Zax ZaW (Zh (Zc 2) Zp)) Zp))) PutOk.one (by decide) (by decide) (Zbb (Gs.range (Zh (Zax ZaW (Zh (Zc 2) Zp)) Zp)) PutOk.one (by decide) (by decide) (Zz (ZZ (O' := [3]) (ZB ZA (ZB ZA (Zc 0) (Zc 4)) (Zc 5))) (Z4 (ZaB (ZK (ZD ZbQ (Zc 4) (Zc 5))) (ZaB (ZK (ZD ZbM (Zc 6) (Z9))) (ZaB (ZK (ZD ZaO (ZB ZA (ZB ZA (Zc 0) (Zc 5)) (Zc 4)) (ZbF ZbG (Zc 6)))) (ZaB (ZK (ZD ZbM (ZB ZA (Zc 3) (Zc 4)) (Z9))) Zaz)))) (S.put (O' := [3]) (by decide) (Za9 (O' := []) (E.flat (ZL ZpR (Zh (ZB ZA (Zc 3) (Zc 4)) (Zh (ZL Zew (Zh (ZB ZA (ZB ZA (Zc 2) (Zc 5)) (Zm _)) (Zh (Zae Zam (ZB ZA (ZB ZA (Zc 2) (Zc 5)) (Zm _)) (Zc 6)) Zp))) Zp))))) ZbD (Zc 4) (by decide) (by decide)) Z7)))) (Zz (Z4 (ZK (ZD Ze2 (Z9) (Zc 3))) (ZW (Z9)) Z7) (ZW (ZgV (Zc 3))))))))
noncomputable def Zkq : Sm := Zw (ZO 2 (Zj Zai (Zcc (Zf (ZaS (Zf (Zl 0) (Zf (Zl 0) Zo))) Zo)) (Zb 1))) (Zw (ZO 3 (ZaJ (Zbz (Zb 0)) (put1 100) Zan (Zv Zcv (Zf (Zb 100) Zo)))) (Zw (ZaN (ZaQ (Zf (Zv ZaK (Zf (Zb 2) Zo)) Zo)) (put1 4) (ZaN (ZaQ (Zf (Zv ZaK (Zf (Zb 2) Zo)) Zo)) (put1 5) (Zw (ZO 6 (Zv Zgv (Zf (Zj Zu (Zj Zu (Zb 2) (Zb 4)) (Zl 0)) (Zf (Zj Zu (Zj Zu (Zb 2) (Zb 5)) (Zl 0)) Zo)))) (Zw (ZO 7 (Zj Zbm (Zj Zu (Zj Zu (Zb 2) (Zb 4)) (Zl 1)) (Zj Zu (Zj Zu (Zb 2) (Zb 5)) (Zl 1)))) (Zw (ZO 8 (Zj Zu (Zj Zu (Zb 0) (Zb 4)) (Zb 5))) (ZX (Zau (ZG (Zj oNe (Zb 4) (Zb 5))) (Zau (ZG (Zj oEq (Zb 6) (Zl 0))) Zan)) (Zw (ZX (Zau (ZG (Zj Zbu (Zb 8) (Z1))) (Zau (ZG (Zj oLt (Zb 8) (Zb 7))) Zan)) (ZH (Z1)) Z2) (ZbJ (Zb 7) (Zj Zu (Zb 3) (Zb 4)) (Zb 5))) (ZX (Zau (ZG (Zj oNe (Zb 4) (Zb 5))) (Zau (ZG (Zj Zbu (Zb 8) (Z1))) Zan)) (ZbJ (Zj Zbm (Zb 8) (Zj oMod (Zj Zbm (Zb 8) (Zb 7)) (Zb 6))) (Zj Zu (Zb 3) (Zb 4)) (Zb 5)) Z2))))))) (ZH (Zb 3))))
noncomputable def Zkr := Zaa 2 Zkq
noncomputable def Zks : PS := (Zt (ZJ 2 (Ze Zah (Zb7 (Zd (ZaV (Zd (Zk 0) (Zd (Zk 0) Zn))) Zn)) (Za 1))) (Zt (ZJ 3 (Zaq (ZaE (Za 0)) (Zad 100) Zaf (pFl (Zs Zcg (Zd (Za 100) Zn))))) (Zt (ZaC (ZaF (Zd (Zs Zas (Zd (Za 2) Zn)) Zn)) (Zad 4) (ZaC (ZaF (Zd (Zs Zas (Zd (Za 2) Zn)) Zn)) (Zad 5) (Zt (ZJ 6 (Zs Zfp (Zd (Ze Zr (Ze Zr (Za 2) (Za 4)) (Zk 0)) (Zd (Ze Zr (Ze Zr (Za 2) (Za 5)) (Zk 0)) Zn)))) (Zt (ZJ 7 (Ze Za6 (Ze Zr (Ze Zr (Za 2) (Za 4)) (Zk 1)) (Ze Zr (Ze Zr (Za 2) (Za 5)) (Zk 1)))) (Zt (ZJ 8 (Ze Zr (Ze Zr (Za 0) (Za 4)) (Za 5))) (ZQ (Zaj (ZE (Ze qNe (Za 4) (Za 5))) (Zaj (ZE (Ze qEq (Za 6) (Zk 0))) Zaf)) (Zt (ZQ (Zaj (ZE (Ze ZaP (Za 8) (ZT))) (Zaj (ZE (Ze qLt (Za 8) (Za 7))) Zaf)) (ZF (ZT)) ZV) (Za3 3 [] (ZbW (Za 7)) (Zbv ZaD (Za 4)) (Za 5))) (ZQ (Zaj (ZE (Ze qNe (Za 4) (Za 5))) (Zaj (ZE (Ze ZaP (Za 8) (ZT))) Zaf)) (Za3 3 [] (Ze Za6 (Za 8) (Ze Zbc (Ze Za6 (Za 8) (Za 7)) (Za 6))) (Zbv ZaD (Za 4)) (Za 5)) ZV))))))) (ZF (Za 3)))))
noncomputable def Zhx := Zac 2 Zks
theorem Zsz : SimF false Zkr Zhx := Zag (show S [] [3] [] false Zkq Zks from (Zz (ZZ (O' := []) (Zae Zam (E.list (Zh (E.tup (Zh (Zm _) (Zh (Zm _) Zp))) Zp)) (Zc 1))) (Zz (Zco (O' := [3]) (Zdo (Gs.seq (Zc 0)) PutOk.one (by decide) Zaz (Zek Zdn (Zh (Zc 100) Zp)))) (Zz (Zbb (Gs.range (Zh (Zax ZaW (Zh (Zc 2) Zp)) Zp)) PutOk.one (by decide) (by decide) (Zbb (Gs.range (Zh (Zax ZaW (Zh (Zc 2) Zp)) Zp)) PutOk.one (by decide) (by decide) (Zz (ZZ (O' := [3]) (ZL ZmH (Zh (ZB ZA (ZB ZA (Zc 2) (Zc 4)) (Zm _)) (Zh (ZB ZA (ZB ZA (Zc 2) (Zc 5)) (Zm _)) Zp)))) (Zz (ZZ (O' := [3]) (ZD Zbw (ZB ZA (ZB ZA (Zc 2) (Zc 4)) (Zm _)) (ZB ZA (ZB ZA (Zc 2) (Zc 5)) (Zm _)))) (Zz (ZZ (O' := [3]) (ZB ZA (ZB ZA (Zc 0) (Zc 4)) (Zc 5))) (Z4 (ZaB (ZK (ZD ZbQ (Zc 4) (Zc 5))) (ZaB (ZK (ZD ZaO (Zc 6) (Zm _))) Zaz)) (Zz (Z4 (ZaB (ZK (ZD ZbM (Zc 8) (Z9))) (ZaB (ZK (ZD Zcr (Zc 8) (Zc 7))) Zaz)) (ZW (Z9)) Z7) (S.put (O' := [3]) (by decide) (Za9 (O' := []) (E.flat (Zc 7))) (Zc6 ZbD (Zc 4)) (Zc 5) (by decide) (by decide))) (Z4 (ZaB (ZK (ZD ZbQ (Zc 4) (Zc 5))) (ZaB (ZK (ZD ZbM (Zc 8) (Z9))) Zaz)) (S.put (O' := [3]) (by decide) (Za9 (O' := []) (ZD Zbw (Zc 8) (ZD Zbq (ZD Zbw (Zc 8) (Zc 7)) (Zc 6)))) (Zc6 ZbD (Zc 4)) (Zc 5) (by decide) (by decide)) Z7))))))) (ZW (Zc 3))))))
noncomputable def Zlr : Sm := Zw (ZX (ZG (Zj oIs (Zb 0) (Z1))) (ZH (Z1)) Z2) (Zw (ZO 1 (Zv Zhi (Zf (Zj Zu (Zb 0) (Zl 0)) Zo))) (Zw (ZX (ZG (Zj oIs (Zb 1) (Z1))) (ZH (Z1)) Z2) (Zw (ZO 2 (Zv ZhF (Zf (Zb 1) (Zf (Zj Zu (Zb 0) (Zl 1)) Zo)))) (Zw (ZX (ZG (Zj oIs (Zb 2) (Z1))) (ZH (Z1)) Z2) (Zw (ZO 1 (Zv Zkr (Zf (Zb 1) (Zf (Zb 2) Zo)))) (Zw (ZX (ZG (Zj oIs (Zb 1) (Z1))) (ZH (Z1)) Z2) (Zw (ZO 1 (Zv Zhi (Zf (Zb 1) Zo))) (Zw (ZX (ZG (Zj oIs (Zb 1) (Z1))) (ZH (Z1)) Z2) (Zw (ZO 2 (Zv ZhF (Zf (Zb 1) (Zf (Zb 2) Zo)))) (Zw (ZX (ZG (Zj oIs (Zb 2) (Z1))) (ZH (Z1)) Z2) (ZH (ZaS (Zf (Zb 1) (Zf (Zb 2) Zo))))))))))))))
noncomputable def ZhR := Zaa 1 Zlr
noncomputable def Zls : PS := (Zt (ZQ (ZE (Ze qIs (Za 0) (ZT))) (ZF (ZT)) ZV) (Zt (ZJ 1 (Zs Ze5 (Zd (Ze Zr (Za 0) (Zk 0)) Zn))) (Zt (ZQ (ZE (Ze qIs (Za 1) (ZT))) (ZF (ZT)) ZV) (Zt (ZJ 2 (Zs Zf9 (Zd (Za 1) (Zd (Ze Zr (Za 0) (Zk 1)) Zn)))) (Zt (ZQ (ZE (Ze qIs (Za 2) (ZT))) (ZF (ZT)) ZV) (Zt (ZJ 1 (Zs Zhx (Zd (Za 1) (Zd (Za 2) Zn)))) (Zt (ZQ (ZE (Ze qIs (Za 1) (ZT))) (ZF (ZT)) ZV) (Zt (ZJ 1 (Zs Ze5 (Zd (Za 1) Zn))) (Zt (ZQ (ZE (Ze qIs (Za 1) (ZT))) (ZF (ZT)) ZV) (Zt (ZJ 2 (Zs Zf9 (Zd (Za 1) (Zd (Za 2) Zn)))) (Zt (ZQ (ZE (Ze qIs (Za 2) (ZT))) (ZF (ZT)) ZV) (ZF (ZaV (Zd (Za 1) (Zd (Za 2) Zn)))))))))))))))
noncomputable def ZdQ := Zac 1 Zls
theorem Zpg : SimF false ZhR ZdQ := Zag (show S [] [] [] false Zlr Zls from (Zz (Z4 (ZK (ZD Zbs (Zc 0) (Z9))) (ZW (Z9)) Z7) (Zz (ZZ (O' := []) (ZL ZoH (Zh (ZB ZA (Zc 0) (Zm _)) Zp))) (Zz (Z4 (ZK (ZD Zbs (Zc 1) (Z9))) (ZW (Z9)) Z7) (Zz (ZZ (O' := []) (ZL Zo1 (Zh (Zc 1) (Zh (ZB ZA (Zc 0) (Zm _)) Zp)))) (Zz (Z4 (ZK (ZD Zbs (Zc 2) (Z9))) (ZW (Z9)) Z7) (Zz (ZZ (O' := []) (ZL Zsz (Zh (Zc 1) (Zh (Zc 2) Zp)))) (Zz (Z4 (ZK (ZD Zbs (Zc 1) (Z9))) (ZW (Z9)) Z7) (Zz (ZZ (O' := []) (ZL ZoH (Zh (Zc 1) Zp))) (Zz (Z4 (ZK (ZD Zbs (Zc 1) (Z9))) (ZW (Z9)) Z7) (Zz (ZZ (O' := []) (ZL Zo1 (Zh (Zc 1) (Zh (Zc 2) Zp)))) (Zz (Z4 (ZK (ZD Zbs (Zc 2) (Z9))) (ZW (Z9)) Z7) (ZW (E.tup (Zh (Zc 1) (Zh (Zc 2) Zp))))))))))))))))
noncomputable def Zlt : Sm := Zw (ZX (tOr (Zcq (ZG (eIs "tuple" (Zb 0)))) (tOr (ZG (Zj oNe (Zv ZaK (Zf (Zb 0) Zo)) (Zl 2))) (tOr (Zcq (ZG (Zv Zl5 (Zf (Zj Zu (Zb 0) (Zl 0)) (Zf (Zj Zai (Zb 1) (Zl 1)) Zo))))) Zcn))) (ZH (Zb6 false)) Z2) (Zw (ZX (tOr (Zcq (ZG (eIs "list" (Zj Zu (Zb 0) (Zl 1))))) (tOr (ZG (Zj oNe (Zv ZaK (Zf (Zj Zu (Zb 0) (Zl 1)) Zo)) (Zb 1))) Zcn)) (ZH (Zb6 false)) Z2) (Zw (ZaN (Zbz (Zj Zu (Zb 0) (Zl 1))) (put1 2) (Zw (ZX (tOr (Zcq (ZG (eIs "tuple" (Zb 2)))) (tOr (ZG (Zj oNe (Zv ZaK (Zf (Zb 2) Zo)) (Zl 2))) Zcn)) (ZH (Zb6 false)) Z2) (Zw (ZX (tOr (Zcq (ZG (Zv Zgh (Zf (Zj Zu (Zb 2) (Zl 0)) Zo)))) (tOr (Zcq (ZG (Zv Zgh (Zf (Zj Zu (Zb 2) (Zl 1)) Zo)))) Zcn)) (ZH (Zb6 false)) Z2) (ZX (tOr (ZG (Zj oLt (Zj Zu (Zb 2) (Zl 0)) (Zl 0))) (tOr (Zau (ZG (Zj oGt (Zj Zu (Zb 2) (Zl 0)) (Zl 0))) (Zau (Zcq (ZgX oLe oLt (Zl 0) (Zj Zu (Zb 2) (Zl 1)) (Zj Zu (Zb 2) (Zl 0)))) Zan)) Zcn)) (ZH (Zb6 false)) Z2)))) (ZH (Zb6 true))))
noncomputable def Zlu := Zaa 2 Zlt
noncomputable def Zlv : PS := (Zt (ZQ (bOr (ZbZ (ZE (pIs "tuple" (Za 0)))) (bOr (ZE (Ze qNe (Zs Zas (Zd (Za 0) Zn)) (Zk 2))) (bOr (ZbZ (ZE (Zs Zh8 (Zd (Ze Zr (Za 0) (Zk 0)) (Zd (Ze Zah (Za 1) (Zk 1)) Zn))))) Zcf))) (ZF (ZbE false)) ZV) (Zt (ZQ (bOr (ZbZ (ZE (pIs "list" (Ze Zr (Za 0) (Zk 1))))) (bOr (ZE (Ze qNe (Zs Zas (Zd (Ze Zr (Za 0) (Zk 1)) Zn)) (Za 1))) Zcf)) (ZF (ZbE false)) ZV) (Zt (ZaC (ZaE (Ze Zr (Za 0) (Zk 1))) (Zad 2) (Zt (ZQ (bOr (ZbZ (ZE (pIs "tuple" (Za 2)))) (bOr (ZE (Ze qNe (Zs Zas (Zd (Za 2) Zn)) (Zk 2))) Zcf)) (ZF (ZbE false)) ZV) (Zt (ZQ (bOr (ZbZ (ZE (Zs Zfd (Zd (Ze Zr (Za 2) (Zk 0)) Zn)))) (bOr (ZbZ (ZE (Zs Zfd (Zd (Ze Zr (Za 2) (Zk 1)) Zn)))) Zcf)) (ZF (ZbE false)) ZV) (ZQ (bOr (ZE (Ze qLt (Ze Zr (Za 2) (Zk 0)) (Zk 0))) (bOr (Zaj (ZE (Ze qGt (Ze Zr (Za 2) (Zk 0)) (Zk 0))) (Zaj (ZbZ (ZgY qLe qLt (Zk 0) (Ze Zr (Za 2) (Zk 1)) (Ze Zr (Za 2) (Zk 0)))) Zaf)) Zcf)) (ZF (ZbE false)) ZV)))) (ZF (ZbE true)))))
noncomputable def ZhS := Zac 2 Zlv
theorem Ztg : SimF false Zlu ZhS := Zag (show S [] [] [] false Zlt Zlv from (Zz (Z4 (Zbi (ZcR (ZK (Zd9 (Zc 0)))) (Zbi (ZK (ZD ZbQ (Zax ZaW (Zh (Zc 0) Zp)) (Zm _))) (Zbi (ZcR (ZK (ZL ZtB (Zh (ZB ZA (Zc 0) (Zm _)) (Zh (Zae Zam (Zc 1) (Zm _)) Zp))))) ZcO))) (ZW (E.bool _)) Z7) (Zz (Z4 (Zbi (ZcR (ZK (Zd9 (ZB ZA (Zc 0) (Zm _))))) (Zbi (ZK (ZD ZbQ (Zax ZaW (Zh (ZB ZA (Zc 0) (Zm _)) Zp)) (Zc 1))) ZcO)) (ZW (E.bool _)) Z7) (Zz (Zbb (Gs.seq (ZB ZA (Zc 0) (Zm _))) PutOk.one (by decide) (by decide) (Zz (Z4 (Zbi (ZcR (ZK (Zd9 (Zc 2)))) (Zbi (ZK (ZD ZbQ (Zax ZaW (Zh (Zc 2) Zp)) (Zm _))) ZcO)) (ZW (E.bool _)) Z7) (Zz (Z4 (Zbi (ZcR (ZK (ZL Zlo (Zh (ZB ZA (Zc 2) (Zm _)) Zp)))) (Zbi (ZcR (ZK (ZL Zlo (Zh (ZB ZA (Zc 2) (Zm _)) Zp)))) ZcO)) (ZW (E.bool _)) Z7) (Z4 (Zbi (ZK (ZD Zcr (ZB ZA (Zc 2) (Zm _)) (Zm _))) (Zbi (ZaB (ZK (ZD Zdz (ZB ZA (Zc 2) (Zm _)) (Zm _))) (ZaB (ZcR (Zu4 Zjv Zcr (Zm _) (ZB ZA (Zc 2) (Zm _)) (ZB ZA (Zc 2) (Zm _)))) Zaz)) ZcO)) (ZW (E.bool _)) Z7)))) (ZW (E.bool _))))))
noncomputable def Zl9 : Sm := Zw (ZX (ZG (Zj oIs (Zb 1) (Z1))) (ZH (Zj oIs (Zb 0) (Z1))) Z2) (ZH (Zdx (Zv Zlu (Zf (Zb 0) (Zf (Zv ZaK (Zf (Zj Zu (Zb 1) (Zl 1)) Zo)) Zo))) (Zj oEq (Zb 0) (Zb 1))))
noncomputable def Zma := Zaa 2 Zl9
noncomputable def Zia : PS := (Zt (ZQ (ZE (Ze qIs (Za 1) (ZT))) (ZF (Ze qIs (Za 0) (ZT))) ZV) (ZF ((ZdK (Zs ZhS (Zd (Za 0) (Zd (Zs Zas (Zd (Ze Zr (Za 1) (Zk 1)) Zn)) Zn))) (Ze qEq (Za 0) (Za 1))))))
noncomputable def ZdU := Zac 2 Zia
theorem ZtD : SimF false Zma ZdU := Zag (show S [] [] [] false Zl9 Zia from (Zz (Z4 (ZK (ZD Zbs (Zc 1) (Z9))) (ZW (ZD Zbs (Zc 0) (Z9))) Z7) (ZW ((ZfO (E.sh (ZL Ztg (Zh (Zc 0) (Zh (Zax ZaW (Zh (ZB ZA (Zc 1) (Zm _)) Zp)) Zp)))) (E.sh (ZD ZaO (Zc 0) (Zc 1))))))))
noncomputable def ZnQ (F : List V → Hp → Option (V × Hp)) : Sm := Zw (ZX (ZG (eIs "list" (Zb 0))) (ZH (ZaJ (Zbz (Zb 0)) (put1 100) Zan (Zv F (Zf (Zb 100) Zo)))) Z2) (Zw (ZX (ZG (eIs "tuple" (Zb 0))) (ZH (Zv ZfC (Zf (ZaJ (Zbz (Zb 0)) (put1 102) Zan (Zv F (Zf (Zb 102) Zo))) Zo))) Z2) (ZH (Zb 0)))
noncomputable def Zfy : Nat → List V → Hp → Option (V × Hp)
 | 0 => fun _ _ => none
 | n + 1 => Zaa 1 (ZnQ (Zfy n))
noncomputable def ZgP : List V → Hp → Option (V × Hp) := Zfy 9
noncomputable def ZfF (F : List T → Option T) : PS := (Zt (ZQ (ZE (pIs "list" (Za 0))) (ZF (Zaq (ZaE (Za 0)) (Zad 100) Zaf (Zs F (Zd (Za 100) Zn)))) ZV) (Zt (ZQ (ZE (pIs "tuple" (Za 0))) (ZF (Zs ZiG (Zd (Zaq (ZaE (Za 0)) (Zad 102) Zaf (Zs F (Zd (Za 102) Zn))) Zn))) ZV) (ZF (ZbW (Za 0)))))
noncomputable def ZeI : Nat → List T → Option T
 | 0 => fun _ => none
 | n + 1 => Zac 1 (ZfF (ZeI n))
noncomputable def ZfG : List T → Option T := ZeI 9
theorem Znt : ∀ n : Nat, SimF true (Zfy n) (ZeI n)
 | 0 => Zuf
 | n + 1 => Zag (show S [] [] [] true (ZnQ (Zfy n)) (ZfF (ZeI n)) from (Zz (Z4 (ZK (Zd9 (Zc 0))) (Za8 (Zdo (Gs.seq (Zc 0)) PutOk.one (by decide) Zaz (ZbP (Znt n) (Zh (Zc 100) Zp)))) Z7) (Zz (Z4 (ZK (Zd9 (Zc 0))) (Za8 (Zv9 Zu5 (ZgF (Zdo (Gs.seq (Zc 0)) PutOk.one (by decide) Zaz (ZbP (Znt n) (Zh (Zc 102) Zp))) Zp (by decide) (by decide)))) Z7) (Za8 (E.flat (Zc 0))))))
theorem ZnR : SimF true ZgP ZfG := Znt 9
noncomputable def Zib : Sm := ZbJ (Zv Ziw (Zf (Zj Zu (Zj Zu (Zb 0) (Zb 1)) (Zb 2)) (Zf (Zb 3) Zo))) (Zj Zu (Zb 0) (Zb 1)) (Zb 2)
noncomputable def Zgl := Zaa 4 Zib
noncomputable def Zmb : PS := (Za3 0 [] (ZbW (Zs ZgG (Zd (Ze Zr (Ze Zr (Za 0) (Za 1)) (Za 2)) (Zd (Za 3) Zn)))) (Zbv ZaD (Za 1)) (Za 2))
noncomputable def Zfi := Ze3 4 Zmb
theorem Zmc : SimM Zgl Zfi := ZnL (show S [0] [0] [0] false Zib Zmb from (S.put (O' := [0]) (by decide) (Za9 (O' := []) (E.flat (ZL Zqg (Zh (ZB ZA (ZB ZA (Zc 0) (Zc 1)) (Zc 2)) (Zh (Zc 3) Zp))))) (Zc6 ZbD (Zc 1)) (Zc 2) (by decide) (by decide))) (by decide) (by unfold Zib; repeat' first | exact Keep0.next | exact ZmD | exact Keep0.ret | exact Keep0.put | apply Keep0.seq | apply ZmE | exact Keep0.set (by decide))
noncomputable def ZmV : Sm := Zw (ZO 3 (Zj Zai (Zcc (Zf (Zv Zey (Zf (Zb 0) (Zf (Zb 1) Zo))) Zo)) (Zj ZaY (Zcc (Zf (Zl 0) Zo)) (Zb 2)))) (Zw (ZO 4 (Zv Zb3 (Zf (Zb 0) (Zf (Zb 1) (Zf (Zl 6) Zo))))) (Zw (ZX (tOr (ZG (Zj oEq (Zb 4) (Zl 0))) (tOr (ZG (Zj oEq (Zb 2) (Zl 0))) Zcn)) (ZH (Zb 3)) Z2) (Zw (ZO 5 (Zj Zai (Zl 1) (Zv Zb3 (Zf (Zb 0) (Zf (Zj Zai (Zb 1) (Zl 1)) (Zf (Zb 2) Zo)))))) (Zw (ZX (ZG (Zj oEq (Zb 4) (Zl 1))) (ZbJ (Zj Zbm (Zv Zb3 (Zf (Zb 0) (Zf (Zj Zai (Zb 1) (Zl 2)) (Zf (Zl 13) Zo)))) (Zl 6)) (Zb 3) (Zb 5)) Z2) (Zw (ZX (tOr (ZG (Zj oEq (Zb 4) (Zl 2))) (tOr (ZG (Zj oEq (Zb 4) (Zl 3))) Zcn)) (Zw (ZO 6 (Zj Zai (Zl 1) (Zv Zb3 (Zf (Zb 0) (Zf (Zj Zai (Zb 1) (Zl 2)) (Zf (Zb 2) Zo)))))) (Zw (ZbJ (Zl 1) (Zb 3) (Zb 5)) (ZbJ (Zj Zbm (Zj Zu (Zb 3) (Zb 6)) (Zl 1)) (Zb 3) (Zb 6)))) Z2) (Zw (ZX (ZG (Zj oEq (Zb 4) (Zl 4))) (ZaN (ZaQ (Zf (Zb 2) Zo)) (put1 7) (ZbJ (Zj Zbm (Zv Zb3 (Zf (Zb 0) (Zf (Zj Zai (Zj Zai (Zb 1) (Zl 1)) (Zb 7)) (Zf (Zl 7) Zo)))) (Zl 3)) (Zb 3) (Zj Zai (Zb 7) (Zl 1)))) Z2) (Zw (ZX (ZG (Zj oEq (Zb 4) (Zl 5))) (ZaN (ZaQ (Zf (Zb 2) Zo)) (put1 7) (ZbJ (Zj Zbm (Zv Zb3 (Zf (Zb 0) (Zf (Zj Zai (Zj Zai (Zb 1) (Zl 1)) (Zb 7)) (Zf (Zl 2000000001) Zo)))) (Zl 1000000000)) (Zb 3) (Zj Zai (Zb 7) (Zl 1)))) Z2) (ZH (Zb 3)))))))))
noncomputable def ZmW := Zaa 3 ZmV
noncomputable def ZmX : PS := (Zt (ZJ 3 (pFl (Ze Zah (Zb7 (Zd (Zs Zed (Zd (Za 0) (Zd (Za 1) Zn))) Zn)) (Ze ZaG (Zb7 (Zd (Zk 0) Zn)) (Za 2))))) (Zt (ZJ 4 (Zs ZbS (Zd (Za 0) (Zd (Za 1) (Zd (Zk 6) Zn))))) (Zt (ZQ (bOr (ZE (Ze qEq (Za 4) (Zk 0))) (bOr (ZE (Ze qEq (Za 2) (Zk 0))) Zcf)) (ZF (Za 3)) ZV) (Zt (ZJ 5 (Ze Zah (Zk 1) (Zs ZbS (Zd (Za 0) (Zd (Ze Zah (Za 1) (Zk 1)) (Zd (Za 2) Zn)))))) (Zt (ZQ (ZE (Ze qEq (Za 4) (Zk 1))) (Za3 3 [] (Ze Za6 (Zs ZbS (Zd (Za 0) (Zd (Ze Zah (Za 1) (Zk 2)) (Zd (Zk 13) Zn)))) (Zk 6)) ZaD (Za 5)) ZV) (Zt (ZQ (bOr (ZE (Ze qEq (Za 4) (Zk 2))) (bOr (ZE (Ze qEq (Za 4) (Zk 3))) Zcf)) (Zt (ZJ 6 (Ze Zah (Zk 1) (Zs ZbS (Zd (Za 0) (Zd (Ze Zah (Za 1) (Zk 2)) (Zd (Za 2) Zn)))))) (Zt (Za3 3 [] (Zk 1) ZaD (Za 5)) (Za3 3 [] (Ze Za6 (Ze Zr (Za 3) (Za 6)) (Zk 1)) ZaD (Za 6)))) ZV) (Zt (ZQ (ZE (Ze qEq (Za 4) (Zk 4))) (ZaC (ZaF (Zd (Za 2) Zn)) (Zad 7) (Za3 3 [] (Ze Za6 (Zs ZbS (Zd (Za 0) (Zd (Ze Zah (Ze Zah (Za 1) (Zk 1)) (Za 7)) (Zd (Zk 7) Zn)))) (Zk 3)) ZaD (Ze Zah (Za 7) (Zk 1)))) ZV) (Zt (ZQ (ZE (Ze qEq (Za 4) (Zk 5))) (ZaC (ZaF (Zd (Za 2) Zn)) (Zad 7) (Za3 3 [] (Ze Za6 (Zs ZbS (Zd (Za 0) (Zd (Ze Zah (Ze Zah (Za 1) (Zk 1)) (Za 7)) (Zd (Zk 2000000001) Zn)))) (Zk 1000000000)) ZaD (Ze Zah (Za 7) (Zk 1)))) ZV) (ZF (Za 3))))))))))
noncomputable def Zio := Zac 3 ZmX
theorem Zul : SimF true ZmW Zio := Zag (show S [] [3] [] true ZmV ZmX from (Zz (Zco (O' := [3]) (Zoa Zam (E.list (Zh (ZL Zf7 (Zh (Zc 0) (Zh (Zc 1) Zp))) Zp)) (Zae Zba (E.list (Zh (Zm _) Zp)) (Zc 2)))) (Zz (ZZ (O' := [3]) (ZL Zce (Zh (Zc 0) (Zh (Zc 1) (Zh (Zm _) Zp))))) (Zz (Z4 (Zbi (ZK (ZD ZaO (Zc 4) (Zm _))) (Zbi (ZK (ZD ZaO (Zc 2) (Zm _))) ZcO)) (Za8 (E.own (by decide))) Z7) (Zz (ZZ (O' := [3]) (Zae Zam (Zm _) (ZL Zce (Zh (Zc 0) (Zh (Zae Zam (Zc 1) (Zm _)) (Zh (Zc 2) Zp)))))) (Zz (Z4 (ZK (ZD ZaO (Zc 4) (Zm _))) (S.put (O' := [3]) (by decide) (Za9 (O' := []) (ZD Zbw (ZL Zce (Zh (Zc 0) (Zh (Zae Zam (Zc 1) (Zm _)) (Zh (Zm _) Zp)))) (Zm _))) ZbD (Zc 5) (by decide) (by decide)) Z7) (Zz (Z4 (Zbi (ZK (ZD ZaO (Zc 4) (Zm _))) (Zbi (ZK (ZD ZaO (Zc 4) (Zm _))) ZcO)) (Zz (ZZ (O' := [3]) (Zae Zam (Zm _) (ZL Zce (Zh (Zc 0) (Zh (Zae Zam (Zc 1) (Zm _)) (Zh (Zc 2) Zp)))))) (Zz (S.put (O' := [3]) (by decide) (Za9 (O' := []) (Zm _)) ZbD (Zc 5) (by decide) (by decide)) (S.put (O' := [3]) (by decide) (Za9 (O' := []) (ZD Zbw (ZB ZA (Zc 3) (Zc 6)) (Zm _))) ZbD (Zc 6) (by decide) (by decide)))) Z7) (Zz (Z4 (ZK (ZD ZaO (Zc 4) (Zm _))) (Zbb (Gs.range (Zh (Zc 2) Zp)) PutOk.one (by decide) (by decide) (S.put (O' := [3]) (by decide) (Za9 (O' := []) (ZD Zbw (ZL Zce (Zh (Zc 0) (Zh (Zae Zam (Zae Zam (Zc 1) (Zm _)) (Zc 7)) (Zh (Zm _) Zp)))) (Zm _))) ZbD (Zae Zam (Zc 7) (Zm _)) (by decide) (by decide))) Z7) (Zz (Z4 (ZK (ZD ZaO (Zc 4) (Zm _))) (Zbb (Gs.range (Zh (Zc 2) Zp)) PutOk.one (by decide) (by decide) (S.put (O' := [3]) (by decide) (Za9 (O' := []) (ZD Zbw (ZL Zce (Zh (Zc 0) (Zh (Zae Zam (Zae Zam (Zc 1) (Zm _)) (Zc 7)) (Zh (Zm _) Zp)))) (Zm _))) ZbD (Zae Zam (Zc 7) (Zm _)) (by decide) (by decide))) Z7) (Za8 (E.own (by decide))))))))))))
noncomputable def Zj5 : Sm := Zw (ZO 2 (ZaJ (ZaQ (Zf (Zl 1) (Zf (Zv ZaK (Zf (Zb 1) Zo)) Zo))) (put1 100) (ZG (Zj oGt (Zj Zu (Zb 1) (Zb 100)) (Zl 0))) (Zb 100))) (Zw (ZO 3 (ZaJ (ZaQ (Zf (Zl 1) (Zf (Zv ZaK (Zf (Zb 1) Zo)) Zo))) (put1 102) (ZG (Zj oLt (Zj Zu (Zb 1) (Zb 102)) (Zl 0))) (Zb 102))) (Zw (ZX (Zau (ZG (Zj oEq (Zv ZaK (Zf (Zb 2) Zo)) (Zl 1))) (Zau (ZG (Zj oEq (Zv ZaK (Zf (Zb 3) Zo)) (Zl 1))) (Zau (ZG (Zj oEq (Zj Zu (Zb 1) (Zj Zu (Zb 2) (Zl 0))) (Zl 1))) (Zau (ZG (Zj oEq (Zj Zu (Zb 1) (Zj Zu (Zb 3) (Zl 0))) (eUn Zbr (Zl 1)))) Zan)))) (Zw (ZX (ZG (Zj oIs (Zj Zu (Zj Zu (Zj Zu (Zb 0) (Zl 0)) (Zj Zu (Zb 2) (Zl 0))) (Zj Zu (Zb 3) (Zl 0))) (Z1))) (ZH (Z1)) Z2) (ZH (Zj Zai (Zj Zu (Zj Zu (Zj Zu (Zb 0) (Zl 0)) (Zj Zu (Zb 2) (Zl 0))) (Zj Zu (Zb 3) (Zl 0))) (Zj Zu (Zb 1) (Zl 0))))) Z2) (Zw (ZO 4 (Zj Zai (ZaJ (Zbz (Zb 2)) (put1 104) Zan (Zj Zu (Zj Zu (Zj Zu (Zb 0) (Zl 0)) (Zb 104)) (Zl 0))) (ZaJ (Zbz (Zb 3)) (put1 106) Zan (Zj Zu (Zj Zu (Zj Zu (Zb 0) (Zl 0)) (Zl 0)) (Zb 106))))) (Zw (ZX (ZG (Zj oIn (Z1) (Zb 4))) (ZH (Z1)) Z2) (Zw (ZO 5 (Zj Zu (Zb 1) (Zl 0))) (Zw (ZaN (Zbz (Zb 2)) (put1 6) (ZO 5 (Zj Zai (Zb 5) (Zj ZaY (Zj Zu (Zb 1) (Zb 6)) (Zj Zu (Zj Zu (Zj Zu (Zb 0) (Zl 0)) (Zb 6)) (Zl 0)))))) (Zw (ZaN (Zbz (Zb 3)) (put1 6) (ZO 5 (Zj Zbm (Zb 5) (Zj ZaY (Zj Zu (Zb 1) (Zb 6)) (Zj Zu (Zj Zu (Zj Zu (Zb 0) (Zl 0)) (Zl 0)) (Zb 6)))))) (ZH (Zb 5)))))))))
noncomputable def Ze7 := Zaa 2 Zj5
noncomputable def Zj6 : PS := (Zt (ZJ 2 (Zaq (ZaF (Zd (Zk 1) (Zd (Zs Zas (Zd (Za 1) Zn)) Zn))) (Zad 100) (ZE (Ze qGt (Ze Zr (Za 1) (Za 100)) (Zk 0))) (Za 100))) (Zt (ZJ 3 (Zaq (ZaF (Zd (Zk 1) (Zd (Zs Zas (Zd (Za 1) Zn)) Zn))) (Zad 102) (ZE (Ze qLt (Ze Zr (Za 1) (Za 102)) (Zk 0))) (Za 102))) (Zt (ZQ (Zaj (ZE (Ze qEq (Zs Zas (Zd (Za 2) Zn)) (Zk 1))) (Zaj (ZE (Ze qEq (Zs Zas (Zd (Za 3) Zn)) (Zk 1))) (Zaj (ZE (Ze qEq (Ze Zr (Za 1) (Ze Zr (Za 2) (Zk 0))) (Zk 1))) (Zaj (ZE (Ze qEq (Ze Zr (Za 1) (Ze Zr (Za 3) (Zk 0))) (pUn Zbd (Zk 1)))) Zaf)))) (Zt (ZQ (ZE (Ze qIs (Ze Zr (Ze Zr (Ze Zr (Za 0) (Zk 0)) (Ze Zr (Za 2) (Zk 0))) (Ze Zr (Za 3) (Zk 0))) (ZT))) (ZF (ZT)) ZV) (ZF (Ze Zah (Ze Zr (Ze Zr (Ze Zr (Za 0) (Zk 0)) (Ze Zr (Za 2) (Zk 0))) (Ze Zr (Za 3) (Zk 0))) (Ze Zr (Za 1) (Zk 0))))) ZV) (Zt (ZJ 4 (Ze Zah (Zaq (ZaE (Za 2)) (Zad 104) Zaf (Ze Zr (Ze Zr (Ze Zr (Za 0) (Zk 0)) (Za 104)) (Zk 0))) (Zaq (ZaE (Za 3)) (Zad 106) Zaf (Ze Zr (Ze Zr (Ze Zr (Za 0) (Zk 0)) (Zk 0)) (Za 106))))) (Zt (ZQ (ZE (Ze qIn (ZT) (Za 4))) (ZF (ZT)) ZV) (Zt (ZJ 5 (Ze Zr (Za 1) (Zk 0))) (Zt (ZaC (ZaE (Za 2)) (Zad 6) (ZJ 5 (Ze Zah (Za 5) (Ze ZaG (Ze Zr (Za 1) (Za 6)) (Ze Zr (Ze Zr (Ze Zr (Za 0) (Zk 0)) (Za 6)) (Zk 0)))))) (Zt (ZaC (ZaE (Za 3)) (Zad 6) (ZJ 5 (Ze Za6 (Za 5) (Ze ZaG (Ze Zr (Za 1) (Za 6)) (Ze Zr (Ze Zr (Ze Zr (Za 0) (Zk 0)) (Zk 0)) (Za 6)))))) (ZF (Za 5))))))))))
noncomputable def ZdM := Zac 2 Zj6
theorem Zhr : SimF false Ze7 ZdM := Zag (show S [] [] [] false Zj5 Zj6 from (Zz (ZZ (O' := []) (Zcb (Gs.range (Zh (Zm _) (Zh (Zax ZaW (Zh (Zc 1) Zp)) Zp))) PutOk.one (by decide) (ZK (ZD Zdz (ZB ZA (Zc 1) (Zc 100)) (Zm _))) (Zc 100))) (Zz (ZZ (O' := []) (Zcb (Gs.range (Zh (Zm _) (Zh (Zax ZaW (Zh (Zc 1) Zp)) Zp))) PutOk.one (by decide) (ZK (ZD Zcr (ZB ZA (Zc 1) (Zc 102)) (Zm _))) (Zc 102))) (Zz (Z4 (ZaB (ZK (ZD ZaO (Zax ZaW (Zh (Zc 2) Zp)) (Zm _))) (ZaB (ZK (ZD ZaO (Zax ZaW (Zh (Zc 3) Zp)) (Zm _))) (ZaB (ZK (ZD ZaO (ZB ZA (Zc 1) (ZB ZA (Zc 2) (Zm _))) (Zm _))) (ZaB (ZK (ZD ZaO (ZB ZA (Zc 1) (ZB ZA (Zc 3) (Zm _))) (ZbF ZbG (Zm _)))) Zaz)))) (Zz (Z4 (ZK (ZD Zbs (ZB ZA (ZB ZA (ZB ZA (Zc 0) (Zm _)) (ZB ZA (Zc 2) (Zm _))) (ZB ZA (Zc 3) (Zm _))) (Z9))) (ZW (Z9)) Z7) (ZW (Zae Zam (ZB ZA (ZB ZA (ZB ZA (Zc 0) (Zm _)) (ZB ZA (Zc 2) (Zm _))) (ZB ZA (Zc 3) (Zm _))) (ZB ZA (Zc 1) (Zm _))))) Z7) (Zz (ZZ (O' := []) (Zae Zam (Zcb (Gs.seq (Zc 2)) PutOk.one (by decide) Zaz (ZB ZA (ZB ZA (ZB ZA (Zc 0) (Zm _)) (Zc 104)) (Zm _))) (Zcb (Gs.seq (Zc 3)) PutOk.one (by decide) Zaz (ZB ZA (ZB ZA (ZB ZA (Zc 0) (Zm _)) (Zm _)) (Zc 106))))) (Zz (Z4 (ZK (ZD Ze2 (Z9) (Zc 4))) (ZW (Z9)) Z7) (Zz (ZZ (O' := []) (ZB ZA (Zc 1) (Zm _))) (Zz (Zbb (Gs.seq (Zc 2)) PutOk.one (by decide) (by decide) (ZZ (O' := []) (Zae Zam (Zc 5) (Zae Zba (ZB ZA (Zc 1) (Zc 6)) (ZB ZA (ZB ZA (ZB ZA (Zc 0) (Zm _)) (Zc 6)) (Zm _)))))) (Zz (Zbb (Gs.seq (Zc 3)) PutOk.one (by decide) (by decide) (ZZ (O' := []) (ZD Zbw (Zc 5) (Zae Zba (ZB ZA (Zc 1) (Zc 6)) (ZB ZA (ZB ZA (ZB ZA (Zc 0) (Zm _)) (Zm _)) (Zc 6)))))) (ZW (Zc 5)))))))))))
noncomputable def ZjL : Sm := ZH (Zj oEq (Zv ZgN (Zf (ZaJ (Zbz (ZdJ (Zb 0) 1)) (put1 100) (ZG (Zj oNe (Zb 100) (Zl 0))) (Zb 100)) Zo)) (Zcc (Zf (eUn Zbr (Zl 1)) (Zf (Zl 1) Zo))))
noncomputable def ZjM := Zaa 1 ZjL
noncomputable def ZjN : PS := (ZF (Ze qEq (Zs ZiN (Zd (Zaq (ZaE (Zdv (Za 0) 1)) (Zad 100) (ZE (Ze qNe (Za 100) (Zk 0))) (Za 100)) Zn)) (Zb7 (Zd (pUn Zbd (Zk 1)) (Zd (Zk 1) Zn)))))
noncomputable def Zhm := Zac 1 ZjN
theorem Zr2 : SimF false ZjM Zhm := Zag (show S [] [] [] false ZjL ZjN from (ZW (ZD ZaO (ZiD Zu7 (Zh (Zcb (Gs.seq (ZgV (Zc 0))) PutOk.one (by decide) (ZK (ZD ZbQ (Zc 100) (Zm _))) (Zc 100)) Zp)) (E.list (Zh (ZbF ZbG (Zm _)) (Zh (Zm _) Zp))))))
noncomputable def Zj7 : Sm := Zw (ZO 1 (Zj Zu (Zb 0) (Zl 0))) (ZH (ZaJ (ZaQ (Zf (Zl 1) (Zf (Zv ZaK (Zf (Zb 1) Zo)) Zo))) (put1 100) Zan (ZaS (Zf (Zv Zfe (Zf (Zj Zu (Zj Zu (Zb 1) (Zl 0)) (Zb 100)) (Zf (eUn Zbr (Zl 1)) Zo))) (Zf (Zj Zu (Zj Zu (Zb 1) (Zb 100)) (Zl 0)) Zo)))))
noncomputable def Zj8 := Zaa 1 Zj7
noncomputable def Zj9 : PS := (Zt (ZJ 1 (Ze Zr (Za 0) (Zk 0))) (ZF (Zaq (ZaF (Zd (Zk 1) (Zd (Zs Zas (Zd (Za 1) Zn)) Zn))) (Zad 100) Zaf (ZaV (Zd (Zs ZeA (Zd (Ze Zr (Ze Zr (Za 1) (Zk 0)) (Za 100)) (Zd (pUn Zbd (Zk 1)) Zn))) (Zd (Ze Zr (Ze Zr (Za 1) (Za 100)) (Zk 0)) Zn))))))
noncomputable def Zhs := Zac 1 Zj9
theorem Zsh : SimF false Zj8 Zhs := Zag (show S [] [] [] false Zj7 Zj9 from (Zz (ZZ (O' := []) (ZB ZA (Zc 0) (Zm _))) (ZW (Zcb (Gs.range (Zh (Zm _) (Zh (Zax ZaW (Zh (Zc 1) Zp)) Zp))) PutOk.one (by decide) Zaz (E.tup (Zh (ZL ZhQ (Zh (ZB ZA (ZB ZA (Zc 1) (Zm _)) (Zc 100)) (Zh (ZbF ZbG (Zm _)) Zp))) (Zh (ZB ZA (ZB ZA (Zc 1) (Zc 100)) (Zm _)) Zp)))))))
noncomputable def Zmd : Sm := Zw (ZX (ZG (Zv ZjM (Zf (Zb 1) Zo))) (ZH (Zv Zeg (Zf (Zj Zu (Zj Zu (Zj Zu (Zb 0) (Zl 0)) (Zg1 (Zb 1) (Zl 1) (Zl 1))) (Zg1 (Zb 1) (eUn Zbr (Zl 1)) (Zl 1))) (Zf (Zj Zu (Zb 1) (Zl 0)) Zo)))) Z2) (ZH (Zj Zu (Zv Zki (Zf (Zb 1) (Zf (Zv Zj8 (Zf (Zb 0) Zo)) Zo))) (Zl 1)))
noncomputable def Zgm := Zaa 2 Zmd
noncomputable def Zme : PS := (Zt (ZQ (ZE (Zs Zhm (Zd (Za 1) Zn))) (ZF (Zs ZdT (Zd (Ze Zr (Ze Zr (Ze Zr (Za 0) (Zk 0)) (Zg2 (Za 1) (Zk 1) (Zk 1))) (Zg2 (Za 1) (pUn Zbd (Zk 1)) (Zk 1))) (Zd (Ze Zr (Za 1) (Zk 0)) Zn)))) ZV) (ZF (Ze Zr (Zs Zhv (Zd (Za 1) (Zd (Zs Zhs (Zd (Za 0) Zn)) Zn))) (Zk 1))))
noncomputable def Zfj := Zac 2 Zme
theorem Zmf : SimF false Zgm Zfj := Zag (show S [] [] [] false Zmd Zme from (Zz (Z4 (ZK (ZL Zr2 (Zh (Zc 1) Zp))) (ZW (ZL Zfg (Zh (ZB ZA (ZB ZA (ZB ZA (Zc 0) (Zm _)) (E.index (Zc 1) (Zm _) (Zm _))) (E.index (Zc 1) (ZbF ZbG (Zm _)) (Zm _))) (Zh (ZB ZA (Zc 1) (Zm _)) Zp)))) Z7) (ZW (ZB ZA (ZL Zsw (Zh (Zc 1) (Zh (ZL Zsh (Zh (Zc 0) Zp)) Zp))) (Zm _)))))
noncomputable def Zlw : Sm := ZH (ZaJ (Zbz (Zb 0)) (put1 100) Zan (Zj ZaY (Zb 100) (Zb 1)))
noncomputable def ZdR := Zaa 2 Zlw
noncomputable def Zlx : PS := (ZF (Zaq (ZaE (Za 0)) (Zad 100) Zaf (Ze ZaG (Za 100) (Za 1))))
noncomputable def ZdC := Zac 2 Zlx
theorem ZeB : SimF false ZdR ZdC := Zag (show S [] [] [] false Zlw Zlx from (ZW (Zcb (Gs.seq (Zc 0)) PutOk.one (by decide) Zaz (Zae Zba (Zc 100) (Zc 1)))))
noncomputable def ZnS : Sm := ZH (Zv Zfe (Zf (Zv Zgm (Zf (Zb 0) (Zf (Zv ZdR (Zf (Zb 1) (Zf (eUn Zbr (Zl 1)) Zo))) Zo))) (Zf (eUn Zbr (Zl 1)) Zo)))
noncomputable def ZnT := Zaa 2 ZnS
noncomputable def ZnU : PS := (ZF (Zs ZeA (Zd (Zs Zfj (Zd (Za 0) (Zd (Zs ZdC (Zd (Za 1) (Zd (pUn Zbd (Zk 1)) Zn))) Zn))) (Zd (pUn Zbd (Zk 1)) Zn))))
noncomputable def ZgQ := Zac 2 ZnU
theorem Zwb : SimF false ZnT ZgQ := Zag (show S [] [] [] false ZnS ZnU from (ZW (ZL ZhQ (Zh (ZL Zmf (Zh (Zc 0) (Zh (ZL ZeB (Zh (Zc 1) (Zh (ZbF ZbG (Zm _)) Zp))) Zp))) (Zh (ZbF ZbG (Zm _)) Zp)))))
noncomputable def Zly : Sm := ZH (Zj Zai (Zj Zu (Zb 0) (Zl 0)) (Zv Zhc (Zf (ZaJ (ZaQ (Zf (Zv ZaK (Zf (Zb 1) Zo)) Zo)) (put1 100) Zan (Zj ZaY (Zj Zu (Zb 0) (Zj Zai (Zb 100) (Zl 1))) (Zj Zu (Zb 1) (Zb 100)))) Zo)))
noncomputable def Zlz := Zaa 2 Zly
noncomputable def ZlA : PS := (ZF (Ze Zah (Ze Zr (Za 0) (Zk 0)) (Zs Zjw (Zd (Zaq (ZaF (Zd (Zs Zas (Zd (Za 1) Zn)) Zn)) (Zad 100) Zaf (Ze ZaG (Ze Zr (Za 0) (Ze Zah (Za 100) (Zk 1))) (Ze Zr (Za 1) (Za 100)))) Zn))))
noncomputable def ZhT := Zac 2 ZlA
theorem Zth : SimF false Zlz ZhT := Zag (show S [] [] [] false Zly ZlA from (ZW (Zae Zam (ZB ZA (Zc 0) (Zm _)) (Zax ZxK (Zh (Zcb (Gs.range (Zh (Zax ZaW (Zh (Zc 1) Zp)) Zp)) PutOk.one (by decide) Zaz (Zae Zba (ZB ZA (Zc 0) (Zae Zam (Zc 100) (Zm _))) (ZB ZA (Zc 1) (Zc 100)))) Zp)))))
noncomputable def Zmg : Sm := ZH (ZaJ (Zd8 (Zb 0) (Zb 1)) (ZcB 100 101) Zan (Zj Zai (Zb 100) (Zb 101)))
noncomputable def Zmh := Zaa 2 Zmg
noncomputable def Zmi : PS := (ZF (Zaq (Zea (Za 0) (Za 1)) (ZcY 100 101) Zaf (Ze Zah (Za 100) (Za 101))))
noncomputable def Zic := Zac 2 Zmi
theorem ZtE : SimF false Zmh Zic := Zag (show S [] [] [] false Zmg Zmi from (ZW (Zcb (Gs.zip (Zc 0) (Zc 1)) PutOk.two (by decide) Zaz (Zae Zam (Zc 100) (Zc 101)))))
noncomputable def Zmj : Sm := ZH (Zv Zmh (Zf (Zb 0) (Zf (Zv ZdR (Zf (Zb 1) (Zf (eUn Zbr (Zl 1)) Zo))) Zo)))
noncomputable def Zgn := Zaa 2 Zmj
noncomputable def Zmk : PS := (ZF (Zs Zic (Zd (Za 0) (Zd (Zs ZdC (Zd (Za 1) (Zd (pUn Zbd (Zk 1)) Zn))) Zn))))
noncomputable def Zfk := Zac 2 Zmk
theorem Zml : SimF false Zgn Zfk := Zag (show S [] [] [] false Zmj Zmk from (ZW (ZL ZtE (Zh (Zc 0) (Zh (ZL ZeB (Zh (Zc 1) (Zh (ZbF ZbG (Zm _)) Zp))) Zp)))))
noncomputable def ZmY : Sm := ZH (ZaJ (ZaQ (Zf (Zj Zai (Zb 1) (Zl 1)) Zo)) (put1 100) Zan (eIf (Zau (ZG (Zj oGt (Zb 0) (Zl 0))) (Zau (ZG (Zj oEq (Zb 100) (Zb 0))) Zan)) (Zl 1) (Zl 0)))
noncomputable def Zft := Zaa 2 ZmY
noncomputable def ZmZ : PS := (ZF (Zaq (ZaF (Zd (Ze Zah (Za 1) (Zk 1)) Zn)) (Zad 100) Zaf (pIf (Zaj (ZE (Ze qGt (Za 0) (Zk 0))) (Zaj (ZE (Ze qEq (Za 100) (Za 0))) Zaf)) (Zk 1) (Zk 0))))
noncomputable def ZeG := Zac 2 ZmZ
theorem Zip : SimF false Zft ZeG := Zag (show S [] [] [] false ZmY ZmZ from (ZW (Zcb (Gs.range (Zh (Zae Zam (Zc 1) (Zm _)) Zp)) PutOk.one (by decide) Zaz (ZeT (ZaB (ZK (ZD Zdz (Zc 0) (Zm _))) (ZaB (ZK (ZD ZaO (Zc 100) (Zc 0))) Zaz)) (E.sh (Zm _)) (E.sh (Zm _))))))
noncomputable def Zka : Sm := Zw (ZO 2 (Zl 0)) (Zw (ZO 3 (Zj Zu (Zb 0) (Zl 0))) (Zw (ZaN (ZaQ (Zf (Zv ZaK (Zf (Zb 1) Zo)) Zo)) (put1 4) (Zw (ZO 2 (Zv Zgv (Zf (Zb 2) (Zf (Zj ZaY (Zj Zu (Zb 0) (Zj Zai (Zb 4) (Zl 1))) (Zj Zu (Zj Zu (Zb 1) (Zb 4)) (Zl 0))) Zo)))) (ZO 3 (Zj Zai (Zb 3) (Zj ZaY (Zj Zu (Zb 0) (Zj Zai (Zb 4) (Zl 1))) (Zj Zu (Zj Zu (Zb 1) (Zb 4)) (Zl 1))))))) (ZH (Zv ZdN (Zf (Zb 2) (Zf (Zb 3) Zo))))))
noncomputable def Zht := Zaa 2 Zka
noncomputable def Zkb : PS := (Zt (ZJ 2 (Zk 0)) (Zt (ZJ 3 (Ze Zr (Za 0) (Zk 0))) (Zt (ZaC (ZaF (Zd (Zs Zas (Zd (Za 1) Zn)) Zn)) (Zad 4) (Zt (ZJ 2 (Zs Zfp (Zd (Za 2) (Zd (Ze ZaG (Ze Zr (Za 0) (Ze Zah (Za 4) (Zk 1))) (Ze Zr (Ze Zr (Za 1) (Za 4)) (Zk 0))) Zn)))) (ZJ 3 (Ze Zah (Za 3) (Ze ZaG (Ze Zr (Za 0) (Ze Zah (Za 4) (Zk 1))) (Ze Zr (Ze Zr (Za 1) (Za 4)) (Zk 1))))))) (ZF (Zs ZdB (Zd (Za 2) (Zd (Za 3) Zn)))))))
noncomputable def Zf1 := Zac 2 Zkb
theorem ZoR : SimF false Zht Zf1 := Zag (show S [] [] [] false Zka Zkb from (Zz (ZZ (O' := []) (Zm _)) (Zz (ZZ (O' := []) (ZB ZA (Zc 0) (Zm _))) (Zz (Zbb (Gs.range (Zh (Zax ZaW (Zh (Zc 1) Zp)) Zp)) PutOk.one (by decide) (by decide) (Zz (ZZ (O' := []) (ZL ZmH (Zh (Zc 2) (Zh (Zae Zba (ZB ZA (Zc 0) (Zae Zam (Zc 4) (Zm _))) (ZB ZA (ZB ZA (Zc 1) (Zc 4)) (Zm _))) Zp)))) (ZZ (O' := []) (Zae Zam (Zc 3) (Zae Zba (ZB ZA (Zc 0) (Zae Zam (Zc 4) (Zm _))) (ZB ZA (ZB ZA (Zc 1) (Zc 4)) (Zm _))))))) (ZW (ZL Zew (Zh (Zc 2) (Zh (Zc 3) Zp))))))))
noncomputable def ZkR : Sm := ZH (Zv Zeg (Zf (Zv Zgm (Zf (Zb 0) (Zf (Zv Zgn (Zf (Zb 1) (Zf (Zb 2) Zo))) Zo))) (Zf (Zb 3) Zo)))
noncomputable def ZhG := Zaa 4 ZkR
noncomputable def ZkS : PS := (ZF (Zs ZdT (Zd (Zs Zfj (Zd (Za 0) (Zd (Zs Zfk (Zd (Za 1) (Zd (Za 2) Zn))) Zn))) (Zd (Za 3) Zn))))
noncomputable def Zga := Zac 4 ZkS
theorem Zo2 : SimF false ZhG Zga := Zag (show S [] [] [] false ZkR ZkS from (ZW (ZL Zfg (Zh (ZL Zmf (Zh (Zc 0) (Zh (ZL Zml (Zh (Zc 1) (Zh (Zc 2) Zp))) Zp))) (Zh (Zc 3) Zp)))))
noncomputable def Zhy : Sm := Zw (ZO 4 (Zv ZaK (Zf (Zj Zu (Zb 1) (Zl 1)) Zo))) (ZaN (ZaQ (Zf (Zj Zai (Zb 4) (Zl 1)) Zo)) (put1 5) (ZaN (ZaQ (Zf (Zj Zai (Zb 4) (Zl 1)) Zo)) (put1 6) (Zw (ZO 7 (Zv Zgn (Zf (Zv Zft (Zf (Zb 5) (Zf (Zb 4) Zo))) (Zf (Zv Zft (Zf (Zb 6) (Zf (Zb 4) Zo))) Zo)))) (ZcA (Zv Zgl (Zf (Zb 0) (Zf (Zb 5) (Zf (Zb 6) (Zf (Zv ZhG (Zf (Zb 1) (Zf (Zb 7) (Zf (Zb 2) (Zf (Zb 3) Zo))))) Zo)))))))))
noncomputable def Zkt := Zaa 4 Zhy
noncomputable def Zku : PS := (Zt (ZJ 4 (Zs Zas (Zd (Ze Zr (Za 1) (Zk 1)) Zn))) (ZaC (ZaF (Zd (Ze Zah (Za 4) (Zk 1)) Zn)) (Zad 5) (ZaC (ZaF (Zd (Ze Zah (Za 4) (Zk 1)) Zn)) (Zad 6) (Zt (ZJ 7 (Zs Zfk (Zd (Zs ZeG (Zd (Za 5) (Zd (Za 4) Zn))) (Zd (Zs ZeG (Zd (Za 6) (Zd (Za 4) Zn))) Zn)))) (Zeu 0 Zfi (Zd (Za 5) (Zd (Za 6) (Zd (Zs Zga (Zd (Za 1) (Zd (Za 7) (Zd (Za 2) (Zd (Za 3) Zn))))) Zn))))))))
noncomputable def Zhz := Ze3 4 Zku
theorem ZsA : SimM Zkt Zhz := ZnL (show S [0] [0] [0] false Zhy Zku from (Zz (ZZ (O' := [0]) (Zax ZaW (Zh (ZB ZA (Zc 1) (Zm _)) Zp))) (Zbb (Gs.range (Zh (Zae Zam (Zc 4) (Zm _)) Zp)) PutOk.one (by decide) (by decide) (Zbb (Gs.range (Zh (Zae Zam (Zc 4) (Zm _)) Zp)) PutOk.one (by decide) (by decide) (Zz (ZZ (O' := [0]) (ZL Zml (Zh (ZL Zip (Zh (Zc 5) (Zh (Zc 4) Zp))) (Zh (ZL Zip (Zh (Zc 6) (Zh (Zc 4) Zp))) Zp)))) (ZgZ (O' := [0]) (by decide) Zmc (Zh (Zc 5) (Zh (Zc 6) (Zh (ZL Zo2 (Zh (Zc 1) (Zh (Zc 7) (Zh (Zc 2) (Zh (Zc 3) Zp))))) Zp))) (by decide) (by decide))))))) (by decide) (by unfold Zhy; repeat' first | exact Keep0.next | exact ZmD | exact Keep0.ret | exact Keep0.put | apply Keep0.seq | apply ZmE | exact Keep0.set (by decide) | apply ZpP (Zpw (by decide)))
noncomputable def ZkT : Sm := Zw (ZX (ZG (Zj oIs (Zb 0) (Z1))) (ZH (Z1)) Z2) (ZH (Zj oDiv (Zb 0) (Zb 1)))
noncomputable def ZhH := Zaa 2 ZkT
noncomputable def ZkU : PS := (Zt (ZQ (ZE (Ze qIs (Za 0) (ZT))) (ZF (ZT)) ZV) (ZF (Ze ZcC (Za 0) (Za 1))))
noncomputable def Zgb := Zac 2 ZkU
theorem Zo3 : SimF false ZhH Zgb := Zag (show S [] [] [] false ZkT ZkU from (Zz (Z4 (ZK (ZD Zbs (Zc 0) (Z9))) (ZW (Z9)) Z7) (ZW (ZD Zda (Zc 0) (Zc 1)))))
noncomputable def ZhA : Sm := Zw (ZO 4 (Zv ZaK (Zf (Zj Zu (Zb 1) (Zl 1)) Zo))) (ZaN (ZaQ (Zf (Zl 1) (Zf (Zj Zai (Zb 4) (Zl 1)) Zo))) (put1 5) (Zw (ZO 6 (Zj Zu (Zb 2) (Zb 5))) (Zw (ZO 7 (Zv ZhG (Zf (Zb 1) (Zf (Zv ZdR (Zf (Zv Zft (Zf (Zb 5) (Zf (Zb 4) Zo))) (Zf (Zb 6) Zo))) (Zf (Zb 2) (Zf (Zb 3) Zo)))))) (Zw (ZX (ZG (Zj oGt (Zb 6) (Zl 0))) (ZcA (Zv Zgl (Zf (Zb 0) (Zf (Zb 5) (Zf (Zl 0) (Zf (Zv ZhH (Zf (Zb 7) (Zf (Zb 6) Zo))) Zo)))))) Z2) (ZX (ZG (Zj oLt (Zb 6) (Zl 0))) (ZcA (Zv Zgl (Zf (Zb 0) (Zf (Zl 0) (Zf (Zb 5) (Zf (Zv ZhH (Zf (Zb 7) (Zf (eUn Zbr (Zb 6)) Zo))) Zo)))))) Z2)))))
noncomputable def Zkv := Zaa 4 ZhA
noncomputable def Zkw : PS := (Zt (ZJ 4 (Zs Zas (Zd (Ze Zr (Za 1) (Zk 1)) Zn))) (ZaC (ZaF (Zd (Zk 1) (Zd (Ze Zah (Za 4) (Zk 1)) Zn))) (Zad 5) (Zt (ZJ 6 (Ze Zr (Za 2) (Za 5))) (Zt (ZJ 7 (Zs Zga (Zd (Za 1) (Zd (Zs ZdC (Zd (Zs ZeG (Zd (Za 5) (Zd (Za 4) Zn))) (Zd (Za 6) Zn))) (Zd (Za 2) (Zd (Za 3) Zn)))))) (Zt (ZQ (ZE (Ze qGt (Za 6) (Zk 0))) (Zeu 0 Zfi (Zd (Za 5) (Zd (Zk 0) (Zd (Zs Zgb (Zd (Za 7) (Zd (Za 6) Zn))) Zn)))) ZV) (ZQ (ZE (Ze qLt (Za 6) (Zk 0))) (Zeu 0 Zfi (Zd (Zk 0) (Zd (Za 5) (Zd (Zs Zgb (Zd (Za 7) (Zd (pUn Zbd (Za 6)) Zn))) Zn)))) ZV))))))
noncomputable def ZhB := Ze3 4 Zkw
theorem ZsB : SimM Zkv ZhB := ZnL (show S [0] [0] [0] false ZhA Zkw from (Zz (ZZ (O' := [0]) (Zax ZaW (Zh (ZB ZA (Zc 1) (Zm _)) Zp))) (Zbb (Gs.range (Zh (Zm _) (Zh (Zae Zam (Zc 4) (Zm _)) Zp))) PutOk.one (by decide) (by decide) (Zz (ZZ (O' := [0]) (ZB ZA (Zc 2) (Zc 5))) (Zz (ZZ (O' := [0]) (ZL Zo2 (Zh (Zc 1) (Zh (ZL ZeB (Zh (ZL Zip (Zh (Zc 5) (Zh (Zc 4) Zp))) (Zh (Zc 6) Zp))) (Zh (Zc 2) (Zh (Zc 3) Zp)))))) (Zz (Z4 (ZK (ZD Zdz (Zc 6) (Zm _))) (ZgZ (O' := [0]) (by decide) Zmc (Zh (Zc 5) (Zh (Zm _) (Zh (ZL Zo3 (Zh (Zc 7) (Zh (Zc 6) Zp))) Zp))) (by decide) (by decide)) Z7) (Z4 (ZK (ZD Zcr (Zc 6) (Zm _))) (ZgZ (O' := [0]) (by decide) Zmc (Zh (Zm _) (Zh (Zc 5) (Zh (ZL Zo3 (Zh (Zc 7) (Zh (ZbF ZbG (Zc 6)) Zp))) Zp))) (by decide) (by decide)) Z7))))))) (by decide) (by unfold ZhA; repeat' first | exact Keep0.next | exact ZmD | exact Keep0.ret | exact Keep0.put | apply Keep0.seq | apply ZmE | exact Keep0.set (by decide) | apply ZpP (Zpw (by decide)))
noncomputable def Zm0 : Sm := Zw (ZX (tOr (ZG (Zj oIs (Zb 0) (Z1))) (tOr (ZG (Zv ZmP (Zf (Zv ZnT (Zf (Zb 0) (Zf (Zb 1) Zo))) (Zf (Zb 2) Zo)))) Zcn)) (ZH (Z1)) Z2) (Zw (ZO 3 (Zv ZgP (Zf (Zj Zu (Zb 0) (Zl 0)) Zo))) (Zw (ZcA (Zv Zkt (Zf (Zb 3) (Zf (Zb 0) (Zf (Zb 1) (Zf (Zb 2) Zo)))))) (Zw (ZcA (Zv Zkv (Zf (Zb 3) (Zf (Zb 0) (Zf (Zb 1) (Zf (Zb 2) Zo)))))) (ZH (Zv ZiO (Zf (ZaS (Zf (Zb 3) (Zf (Zj Zu (Zb 0) (Zl 1)) Zo))) Zo))))))
noncomputable def ZeH := Zaa 3 Zm0
noncomputable def Zgy : PS := (Zt (ZQ (bOr (ZE (Ze qIs (Za 0) (ZT))) (bOr (ZE (Zs Zfr (Zd (Zs ZgQ (Zd (Za 0) (Zd (Za 1) Zn))) (Zd (Za 2) Zn)))) Zcf)) (ZF (ZT)) ZV) (Zt (ZJ 3 (Zs ZfG (Zd (Ze Zr (Za 0) (Zk 0)) Zn))) (Zt (Zeu 3 Zhz (Zd (Za 0) (Zd (Za 1) (Zd (Za 2) Zn)))) (Zt (Zeu 3 ZhB (Zd (Za 0) (Zd (Za 1) (Zd (Za 2) Zn)))) (ZF (Zs ZdY (Zd (ZaV (Zd (Za 3) (Zd (Ze Zr (Za 0) (Zk 1)) Zn))) Zn)))))))
noncomputable def ZcH := Zac 3 Zgy
theorem Zgz : SimF true ZeH ZcH := Zag (show S [] [3] [] true Zm0 Zgy from (Zz (Z4 (Zbi (ZK (ZD Zbs (Zc 0) (Z9))) (Zbi (ZK (ZL Zuj (Zh (ZL Zwb (Zh (Zc 0) (Zh (Zc 1) Zp))) (Zh (Zc 2) Zp)))) ZcO)) (Za8 (Z9)) Z7) (Zz (Zco (O' := [3]) (ZbP ZnR (Zh (ZB ZA (Zc 0) (Zm _)) Zp))) (Zz (ZgZ (O' := [3]) (by decide) ZsA (Zh (Zc 0) (Zh (Zc 1) (Zh (Zc 2) Zp))) (by decide) (by decide)) (Zz (ZgZ (O' := [3]) (by decide) ZsB (Zh (Zc 0) (Zh (Zc 1) (Zh (Zc 2) Zp))) (by decide) (by decide)) (Za8 (ZbP ZqT (Zh (E.tup (Zh (Zc 3) (Zh (ZB ZA (Zc 0) (Zm _)) Zp))) Zp))))))))
noncomputable def ZkV : Sm := Zw (ZX (ZG (Zb 2)) (ZH (Zv ZeH (Zf (Zb 0) (Zf (Zb 1) (Zf (eUn Zbr (Zl 1)) Zo))))) Z2) (ZH (Zv ZeH (Zf (Zb 0) (Zf (Zv ZdR (Zf (Zb 1) (Zf (eUn Zbr (Zl 1)) Zo))) (Zf (Zl 0) Zo)))))
noncomputable def ZkW := Zaa 3 ZkV
noncomputable def Zo4 : PS := (Zt (ZQ (ZE (Za 2)) (ZF (Zs ZcH (Zd (Za 0) (Zd (Za 1) (Zd (pUn Zbd (Zk 1)) Zn))))) ZV) (ZF (Zs ZcH (Zd (Za 0) (Zd (Zs ZdC (Zd (Za 1) (Zd (pUn Zbd (Zk 1)) Zn))) (Zd (Zk 0) Zn))))))
noncomputable def Zo5 := Zac 3 Zo4
theorem ZsV : SimF true ZkW Zo5 := Zag (show S [] [] [] true ZkV Zo4 from (Zz (Z4 (ZK (Zc 2)) (Za8 (ZbP Zgz (Zh (Zc 0) (Zh (Zc 1) (Zh (ZbF ZbG (Zm _)) Zp))))) Z7) (Za8 (ZbP Zgz (Zh (Zc 0) (Zh (ZL ZeB (Zh (Zc 1) (Zh (ZbF ZbG (Zm _)) Zp))) (Zh (Zm _) Zp)))))))
noncomputable def ZjO : Sm := ZH (Zv ZfK (Zf (Zv Zgw (Zf (Zj Zu (Zb 0) (Zl 0)) (Zf (Zb 1) Zo))) (Zf (Zj Zu (Zb 0) (Zl 1)) Zo)))
noncomputable def Zhn := Zaa 2 ZjO
noncomputable def ZjP : PS := (ZF (Zs ZeP (Zd (Zs Zfq (Zd (Ze Zr (Za 0) (Zk 0)) (Zd (Za 1) Zn))) (Zd (Ze Zr (Za 0) (Zk 1)) Zn))))
noncomputable def ZfY := Zac 2 ZjP
theorem ZoL : SimF false Zhn ZfY := Zag (show S [] [] [] false ZjO ZjP from (ZW (ZL Zi6 (Zh (ZL ZmK (Zh (ZB ZA (Zc 0) (Zm _)) (Zh (Zc 1) Zp))) (Zh (ZB ZA (Zc 0) (Zm _)) Zp)))))
noncomputable def Zkx : Sm := Zw (ZO 4 (Zj Zu (Zb 1) (Zb 3))) (Zw (ZO 5 (Zj Zu (Zb 0) (Zj Zbm (Zb 3) (Zl 1)))) (Zw (ZX (ZG (Zj oNe (Zv Zdd (Zf (Zb 4) Zo)) (Zl 1))) (ZH (Zb 5)) Z2) (Zw (ZO 6 (Zv Zgn (Zf (Zb 1) (Zf (Zv ZdR (Zf (Zv Zft (Zf (Zb 3) (Zf (Zv ZaK (Zf (Zb 0) Zo)) Zo))) (Zf (Zb 4) Zo))) Zo)))) (ZH (Zv Zh7 (Zf (Zb 5) (Zf (Zv Zhn (Zf (Zv Zf8 (Zf (Zv Zfh (Zf (Zb 6) (Zf (Zb 0) Zo))) (Zf (eUn Zbr (Zb 4)) Zo))) (Zf (Zb 2) Zo))) Zo)))))))
noncomputable def Zky := Zaa 4 Zkx
noncomputable def Zkz : PS := (Zt (ZJ 4 (Ze Zr (Za 1) (Za 3))) (Zt (ZJ 5 (Ze Zr (Za 0) (Ze Za6 (Za 3) (Zk 1)))) (Zt (ZQ (ZE (Ze qNe (Zs Zde (Zd (Za 4) Zn)) (Zk 1))) (ZF (Za 5)) ZV) (Zt (ZJ 6 (Zs Zfk (Zd (Za 1) (Zd (Zs ZdC (Zd (Zs ZeG (Zd (Za 3) (Zd (Zs Zas (Zd (Za 0) Zn)) Zn))) (Zd (Za 4) Zn))) Zn)))) (ZF (Zs Zgk (Zd (Za 5) (Zd (Zs ZfY (Zd (Zs Zfa (Zd (Zs ZeE (Zd (Za 6) (Zd (Za 0) Zn))) (Zd (pUn Zbd (Za 4)) Zn))) (Zd (Za 2) Zn))) Zn))))))))
noncomputable def Zf4 := Zac 4 Zkz
theorem ZsC : SimF false Zky Zf4 := Zag (show S [] [] [] false Zkx Zkz from (Zz (ZZ (O' := []) (ZB ZA (Zc 1) (Zc 3))) (Zz (ZZ (O' := []) (ZB ZA (Zc 0) (ZD Zbw (Zc 3) (Zm _)))) (Zz (Z4 (ZK (ZD ZbQ (Zax Zd7 (Zh (Zc 4) Zp)) (Zm _))) (ZW (Zc 5)) Z7) (Zz (ZZ (O' := []) (ZL Zml (Zh (Zc 1) (Zh (ZL ZeB (Zh (ZL Zip (Zh (Zc 3) (Zh (Zax ZaW (Zh (Zc 0) Zp)) Zp))) (Zh (Zc 4) Zp))) Zp)))) (ZW (ZL Zpy (Zh (Zc 5) (Zh (ZL ZoL (Zh (ZL ZkL (Zh (ZL Zh9 (Zh (Zc 6) (Zh (Zc 0) Zp))) (Zh (ZbF ZbG (Zc 4)) Zp))) (Zh (Zc 2) Zp))) Zp)))))))))
noncomputable def ZlB : Sm := Zw (ZX (ZG (Zj oIs (Zb 0) (Z1))) (ZH (Z1)) Z2) (Zw (ZO 3 (ZaJ (ZaQ (Zf (Zl 1) (Zf (Zv ZaK (Zf (Zb 1) Zo)) Zo))) (put1 100) Zan (Zv Zky (Zf (Zj Zu (Zb 0) (Zl 1)) (Zf (Zb 1) (Zf (Zb 2) (Zf (Zb 100) Zo))))))) (Zw (ZX (ZG (Zj oIn (Z1) (Zb 3))) (ZH (Z1)) Z2) (ZH (Zv ZiO (Zf (ZaS (Zf (Zj Zu (Zb 0) (Zl 0)) (Zf (Zb 3) Zo))) Zo)))))
noncomputable def ZhU := Zaa 3 ZlB
noncomputable def ZhV : PS := (Zt (ZQ (ZE (Ze qIs (Za 0) (ZT))) (ZF (ZT)) ZV) (Zt (ZJ 3 (Zaq (ZaF (Zd (Zk 1) (Zd (Zs Zas (Zd (Za 1) Zn)) Zn))) (Zad 100) Zaf (Zs Zf4 (Zd (Ze Zr (Za 0) (Zk 1)) (Zd (Za 1) (Zd (Za 2) (Zd (Za 100) Zn))))))) (Zt (ZQ (ZE (Ze qIn (ZT) (Za 3))) (ZF (ZT)) ZV) (ZF (Zs ZdY (Zd (ZaV (Zd (Ze Zr (Za 0) (Zk 0)) (Zd (Za 3) Zn))) Zn))))))
noncomputable def Zdh := Zac 3 ZhV
theorem Zph : SimF true ZhU Zdh := Zag (show S [] [] [] true ZlB ZhV from (Zz (Z4 (ZK (ZD Zbs (Zc 0) (Z9))) (Za8 (Z9)) Z7) (Zz (ZZ (O' := []) (Zcb (Gs.range (Zh (Zm _) (Zh (Zax ZaW (Zh (Zc 1) Zp)) Zp))) PutOk.one (by decide) Zaz (ZL ZsC (Zh (ZB ZA (Zc 0) (Zm _)) (Zh (Zc 1) (Zh (Zc 2) (Zh (Zc 100) Zp))))))) (Zz (Z4 (ZK (ZD Ze2 (Z9) (Zc 3))) (Za8 (Z9)) Z7) (Za8 (ZbP ZqT (Zh (E.tup (Zh (ZB ZA (Zc 0) (Zm _)) (Zh (Zc 3) Zp))) Zp)))))))
noncomputable def ZlC : Sm := Zw (ZX (Zcq (ZG (Zv ZeD (Zf (Zv Zhn (Zf (Zv Zfh (Zf (Zb 1) (Zf (Zj Zu (Zb 0) (Zl 1)) Zo))) (Zf (Zb 2) Zo))) (Zf (Zl 0) Zo))))) (ZH (Z1)) Z2) (ZH (Zv ZhU (Zf (Zb 0) (Zf (Zb 1) (Zf (Zb 2) Zo)))))
noncomputable def ZhW := Zaa 3 ZlC
noncomputable def Zpi : PS := (Zt (ZQ (ZbZ (ZE (Zs Zef (Zd (Zs ZfY (Zd (Zs ZeE (Zd (Za 1) (Zd (Ze Zr (Za 0) (Zk 1)) Zn))) (Zd (Za 2) Zn))) (Zd (Zk 0) Zn))))) (ZF (ZT)) ZV) (ZF (Zs Zdh (Zd (Za 0) (Zd (Za 1) (Zd (Za 2) Zn))))))
noncomputable def ZlD := Zac 3 Zpi
theorem Zpj : SimF true ZhW ZlD := Zag (show S [] [] [] true ZlC Zpi from (Zz (Z4 (ZcR (ZK (ZL Zgj (Zh (ZL ZoL (Zh (ZL Zh9 (Zh (Zc 1) (Zh (ZB ZA (Zc 0) (Zm _)) Zp))) (Zh (Zc 2) Zp))) (Zh (Zm _) Zp))))) (Za8 (Z9)) Z7) (Za8 (ZbP Zph (Zh (Zc 0) (Zh (Zc 1) (Zh (Zc 2) Zp)))))))
noncomputable def ZjQ : Sm := Zw (ZX (ZG (Zv Zkg (Zf (Zv Zfh (Zf (Zb 1) (Zf (Zj Zu (Zb 0) (Zl 1)) Zo))) (Zf (ZaS (Zf (Zb 2) (Zf (Zl 0) Zo))) Zo)))) (ZH (Z1)) Z2) (Zw (ZX (ZG (Zj oEq (Zb 2) (Zl 2))) (ZH (Zv ZhW (Zf (Zb 0) (Zf (Zj Zai (Zcc (Zf (Zj Zai (Zj Zu (Zb 1) (Zl 0)) (Zl 1)) Zo)) (ZdJ (Zb 1) 1)) (Zf (Zl 2) Zo))))) Z2) (ZH (Zv ZgP (Zf (Zb 0) Zo))))
noncomputable def ZjR := Zaa 3 ZjQ
noncomputable def ZoM : PS := (Zt (ZQ (ZE (Zs ZoW (Zd (Zs ZeE (Zd (Za 1) (Zd (Ze Zr (Za 0) (Zk 1)) Zn))) (Zd (ZaV (Zd (Za 2) (Zd (Zk 0) Zn))) Zn)))) (ZF (ZT)) ZV) (Zt (ZQ (ZE (Ze qEq (Za 2) (Zk 2))) (ZF (Zs ZlD (Zd (Za 0) (Zd (Ze Zah (Zb7 (Zd (Ze Zah (Ze Zr (Za 1) (Zk 0)) (Zk 1)) Zn)) (Zdv (Za 1) 1)) (Zd (Zk 2) Zn))))) ZV) (ZF (Zs ZfG (Zd (Za 0) Zn)))))
noncomputable def ZoN := Zac 3 ZoM
theorem Zr3 : SimF true ZjR ZoN := Zag (show S [] [] [] true ZjQ ZoM from (Zz (Z4 (ZK (ZL Zsv (Zh (ZL Zh9 (Zh (Zc 1) (Zh (ZB ZA (Zc 0) (Zm _)) Zp))) (Zh (E.tup (Zh (Zc 2) (Zh (Zm _) Zp))) Zp)))) (Za8 (Z9)) Z7) (Zz (Z4 (ZK (ZD ZaO (Zc 2) (Zm _))) (Za8 (ZbP Zpj (Zh (Zc 0) (Zh (Zae Zam (E.list (Zh (Zae Zam (ZB ZA (Zc 1) (Zm _)) (Zm _)) Zp)) (ZgV (Zc 1))) (Zh (Zm _) Zp))))) Z7) (Za8 (ZbP ZnR (Zh (Zc 0) Zp))))))
noncomputable def ZlE : Sm := Zw (ZX (Zcq (ZG (Zv ZeD (Zf (Zv Zfh (Zf (Zb 1) (Zf (Zj Zu (Zb 0) (Zl 1)) Zo))) (Zf (Zl 0) Zo))))) (ZH (Z1)) Z2) (Zw (ZO 2 (Zv ZeH (Zf (Zv ZeH (Zf (Zb 0) (Zf (Zb 1) (Zf (Zl 0) Zo)))) (Zf (Zv ZdR (Zf (Zb 1) (Zf (eUn Zbr (Zl 1)) Zo))) (Zf (Zl 0) Zo))))) (ZH (Zv ZhU (Zf (Zb 2) (Zf (Zb 1) (Zf (Zl 0) Zo))))))
noncomputable def ZlF := Zaa 2 ZlE
noncomputable def ZhX : PS := (Zt (ZQ (ZbZ (ZE (Zs Zef (Zd (Zs ZeE (Zd (Za 1) (Zd (Ze Zr (Za 0) (Zk 1)) Zn))) (Zd (Zk 0) Zn))))) (ZF (ZT)) ZV) (Zt (ZJ 2 (Zs ZcH (Zd (Zs ZcH (Zd (Za 0) (Zd (Za 1) (Zd (Zk 0) Zn)))) (Zd (Zs ZdC (Zd (Za 1) (Zd (pUn Zbd (Zk 1)) Zn))) (Zd (Zk 0) Zn))))) (ZF (Zs Zdh (Zd (Za 2) (Zd (Za 1) (Zd (Zk 0) Zn)))))))
noncomputable def Zee := Zac 2 ZhX
theorem Zti : SimF true ZlF Zee := Zag (show S [] [] [] true ZlE ZhX from (Zz (Z4 (ZcR (ZK (ZL Zgj (Zh (ZL Zh9 (Zh (Zc 1) (Zh (ZB ZA (Zc 0) (Zm _)) Zp))) (Zh (Zm _) Zp))))) (Za8 (Z9)) Z7) (Zz (ZZ (O' := []) (ZL Zgz (Zh (ZL Zgz (Zh (Zc 0) (Zh (Zc 1) (Zh (Zm _) Zp)))) (Zh (ZL ZeB (Zh (Zc 1) (Zh (ZbF ZbG (Zm _)) Zp))) (Zh (Zm _) Zp))))) (Za8 (ZbP Zph (Zh (Zc 2) (Zh (Zc 1) (Zh (Zm _) Zp))))))))
noncomputable def Zmm : Sm := Zw (ZX (Zau (ZG (Zj Zbu (Zb 0) (Z1))) (Zau (ZG (Zv ZhO (Zf (Zv Zgm (Zf (Zb 0) (Zf (Zb 1) Zo))) (Zf (Zl 0) Zo)))) Zan)) (ZH (Zv ZeH (Zf (Zb 0) (Zf (Zb 1) (Zf (eUn Zbr (Zl 1)) Zo))))) Z2) (ZH (Zb 0))
noncomputable def Zid := Zaa 2 Zmm
noncomputable def Zgo : PS := (Zt (ZQ (Zaj (ZE (Ze ZaP (Za 0) (ZT))) (Zaj (ZE (Zs Zgf (Zd (Zs Zfj (Zd (Za 0) (Zd (Za 1) Zn))) (Zd (Zk 0) Zn)))) Zaf)) (ZF (Zs ZcH (Zd (Za 0) (Zd (Za 1) (Zd (pUn Zbd (Zk 1)) Zn))))) ZV) (ZF (Za 0)))
noncomputable def ZdD := Zac 2 Zgo
theorem ZpA : SimF false Zid ZdD := Zag (show S [] [] [] false Zmm Zgo from (Zz (Z4 (ZaB (ZK (ZD ZbM (Zc 0) (Z9))) (ZaB (ZK (ZL Zpe (Zh (ZL Zmf (Zh (Zc 0) (Zh (Zc 1) Zp))) (Zh (Zm _) Zp)))) Zaz)) (ZW (ZL Zgz (Zh (Zc 0) (Zh (Zc 1) (Zh (ZbF ZbG (Zm _)) Zp))))) Z7) (ZW (Zc 0))))
noncomputable def ZjS : Sm := ZH (Zv ZgP (Zf (Zv Zid (Zf (Zv Zid (Zf (Zb 0) (Zf (Zb 1) Zo))) (Zf (Zv ZdR (Zf (Zb 1) (Zf (eUn Zbr (Zl 1)) Zo))) Zo))) Zo))
noncomputable def ZjT := Zaa 2 ZjS
noncomputable def ZjU : PS := (ZF (Zs ZfG (Zd (Zs ZdD (Zd (Zs ZdD (Zd (Za 0) (Zd (Za 1) Zn))) (Zd (Zs ZdC (Zd (Za 1) (Zd (pUn Zbd (Zk 1)) Zn))) Zn))) Zn)))
noncomputable def Ze6 := Zac 2 ZjU
theorem Zr4 : SimF true ZjT Ze6 := Zag (show S [] [] [] true ZjS ZjU from (Za8 (ZbP ZnR (Zh (ZL ZpA (Zh (ZL ZpA (Zh (Zc 0) (Zh (Zc 1) Zp))) (Zh (ZL ZeB (Zh (Zc 1) (Zh (ZbF ZbG (Zm _)) Zp))) Zp))) Zp))))
noncomputable def Zoi : Sm := Zw (ZX (ZG (Zj oIs (Zb 0) (Z1))) (ZH (Z1)) Z2) (Zw (ZX (ZG (Zj oEq (Zj Zu (Zb 1) (Zl 0)) (ZeY (Str.ofString "under")))) (ZH (Zv ZkW (Zf (Zb 0) (Zf (Zj Zu (Zb 1) (Zl 1)) (Zf (Zb 2) Zo))))) Z2) (Zw (ZX (ZG (Zj oEq (Zj Zu (Zb 1) (Zl 0)) (ZeY (Str.ofString "same")))) (ZH (eIf (ZG (Zb 2)) (Zv ZlF (Zf (Zb 0) (Zf (Zj Zu (Zb 1) (Zl 1)) Zo))) (Zv ZjT (Zf (Zb 0) (Zf (Zj Zu (Zb 1) (Zl 1)) Zo))))) Z2) (ZH (eIf (ZG (Zb 2)) (Zv ZhW (Zf (Zb 0) (Zf (Zj Zu (Zb 1) (Zl 1)) (Zf (Zj Zu (Zb 1) (Zl 2)) Zo)))) (Zv ZjR (Zf (Zb 0) (Zf (Zj Zu (Zb 1) (Zl 1)) (Zf (Zj Zu (Zb 1) (Zl 2)) Zo))))))))
noncomputable def Zoj := Zaa 3 Zoi
noncomputable def Zja : PS := (Zt (ZQ (ZE (Ze qIs (Za 0) (ZT))) (ZF (ZT)) ZV) (Zt (ZQ (ZE (Ze qEq (Ze Zr (Za 1) (Zk 0)) (ZfU (Str.ofString "under")))) (ZF (Zs Zo5 (Zd (Za 0) (Zd (Ze Zr (Za 1) (Zk 1)) (Zd (Za 2) Zn))))) ZV) (Zt (ZQ (ZE (Ze qEq (Ze Zr (Za 1) (Zk 0)) (ZfU (Str.ofString "same")))) (ZF (pIf (ZE (Za 2)) (Zs Zee (Zd (Za 0) (Zd (Ze Zr (Za 1) (Zk 1)) Zn))) (Zs Ze6 (Zd (Za 0) (Zd (Ze Zr (Za 1) (Zk 1)) Zn))))) ZV) (ZF (pIf (ZE (Za 2)) (Zs ZlD (Zd (Za 0) (Zd (Ze Zr (Za 1) (Zk 1)) (Zd (Ze Zr (Za 1) (Zk 2)) Zn)))) (Zs ZoN (Zd (Za 0) (Zd (Ze Zr (Za 1) (Zk 1)) (Zd (Ze Zr (Za 1) (Zk 2)) Zn)))))))))
noncomputable def Zd4 := Zac 3 Zja
theorem Zxv : SimF true Zoj Zd4 := Zag (show S [] [] [] true Zoi Zja from (Zz (Z4 (ZK (ZD Zbs (Zc 0) (Z9))) (Za8 (Z9)) Z7) (Zz (Z4 (ZK (ZD ZaO (ZB ZA (Zc 1) (Zm _)) (E.str _))) (Za8 (ZbP ZsV (Zh (Zc 0) (Zh (ZB ZA (Zc 1) (Zm _)) (Zh (Zc 2) Zp))))) Z7) (Zz (Z4 (ZK (ZD ZaO (ZB ZA (Zc 1) (Zm _)) (E.str _))) (Za8 (ZeT (ZK (Zc 2)) (ZbP Zti (Zh (Zc 0) (Zh (ZB ZA (Zc 1) (Zm _)) Zp))) (ZbP Zr4 (Zh (Zc 0) (Zh (ZB ZA (Zc 1) (Zm _)) Zp))))) Z7) (Za8 (ZeT (ZK (Zc 2)) (ZbP Zpj (Zh (Zc 0) (Zh (ZB ZA (Zc 1) (Zm _)) (Zh (ZB ZA (Zc 1) (Zm _)) Zp)))) (ZbP Zr3 (Zh (Zc 0) (Zh (ZB ZA (Zc 1) (Zm _)) (Zh (ZB ZA (Zc 1) (Zm _)) Zp))))))))))
noncomputable def Zmn : Sm := Zw (ZO 3 (Zv Zcv (Zf (Zb 0) Zo))) (Zw (ZX (ZG (Zj oGt (Zb 1) (Zl 0))) (ZbJ (Zj Zai (Zj Zu (Zb 3) (Zb 1)) (Zb 2)) (Zb 3) (Zb 1)) Z2) (ZH (Zb 3)))
noncomputable def Zfl := Zaa 3 Zmn
noncomputable def Zmo : PS := (Zt (ZJ 3 (pFl (Zs Zcg (Zd (Za 0) Zn)))) (Zt (ZQ (ZE (Ze qGt (Za 1) (Zk 0))) (Za3 3 [] (pFl (Ze Zah (Ze Zr (Za 3) (Za 1)) (Za 2))) ZaD (Za 1)) ZV) (ZF (Za 3))))
noncomputable def Zeh := Zac 3 Zmo
theorem Zie : SimF false Zfl Zeh := Zag (show S [] [3] [] false Zmn Zmo from (Zz (Zco (O' := [3]) (Zek Zdn (Zh (Zc 0) Zp))) (Zz (Z4 (ZK (ZD Zdz (Zc 1) (Zm _))) (S.put (O' := [3]) (by decide) (Za9 (O' := []) (Zoa Zam (ZB ZA (Zc 3) (Zc 1)) (Zc 2))) ZbD (Zc 1) (by decide) (by decide)) Z7) (ZW (Zc 3)))))
noncomputable def ZkX : Sm := Zw (ZX (ZG (Zj oIs (Zb 0) (Z1))) (ZH (Zb 1)) Z2) (Zw (ZX (ZG (Zj oIs (Zb 1) (Z1))) (ZH (Zb 0)) Z2) (ZH (Zv Zjh (Zf (Zb 0) (Zf (Zb 1) Zo)))))
noncomputable def Zgc := Zaa 2 ZkX
noncomputable def ZkY : PS := (Zt (ZQ (ZE (Ze qIs (Za 0) (ZT))) (ZF (Za 1)) ZV) (Zt (ZQ (ZE (Ze qIs (Za 1) (ZT))) (ZF (Za 0)) ZV) (ZF (Zs Zjj (Zd (Za 0) (Zd (Za 1) Zn))))))
noncomputable def Zez := Zac 2 ZkY
theorem ZkZ : SimF false Zgc Zez := Zag (show S [] [] [] false ZkX ZkY from (Zz (Z4 (ZK (ZD Zbs (Zc 0) (Z9))) (ZW (Zc 1)) Z7) (Zz (Z4 (ZK (ZD Zbs (Zc 1) (Z9))) (ZW (Zc 0)) Z7) (ZW (Zax ZwW (Zh (Zc 0) (Zh (Zc 1) Zp)))))))
noncomputable def ZkA : Sm := Zw (ZX (ZG (Zj oIs (Zb 0) (Z1))) (ZH (Z1)) Z2) (Zw (ZO 3 (ZaJ (Zbz (Zb 1)) (put1 100) Zan (eUn Zbr (Zb 100)))) (Zw (ZO 4 (Zv Ze7 (Zf (Zb 0) (Zf (Zb 3) Zo)))) (Zw (ZX (Zau (ZG (Zj Zbu (Zb 4) (Z1))) (Zau (ZG (Zj oGt (eUn Zbr (Zb 4)) (Zb 2))) Zan)) (ZH (Z1)) Z2) (Zw (ZO 5 (ZaJ (Zbz (Zj Zu (Zb 0) (Zl 0))) (put1 102) Zan (Zv Zcv (Zf (Zb 102) Zo)))) (Zw (ZaN (ZaQ (Zf (Zv ZaK (Zf (Zb 5) Zo)) Zo)) (put1 6) (ZaN (ZaQ (Zf (Zv ZaK (Zf (Zb 5) Zo)) Zo)) (put1 7) (Zw (ZO 4 (Zv Ze7 (Zf (Zb 0) (Zf (Zv Zfl (Zf (Zv Zfl (Zf (Zb 3) (Zf (Zb 6) (Zf (Zl 1) Zo)))) (Zf (Zb 7) (Zf (eUn Zbr (Zl 1)) Zo)))) Zo)))) (ZX (Zau (ZG (Zj oNe (Zb 6) (Zb 7))) (Zau (ZG (Zj Zbu (Zb 4) (Z1))) Zan)) (ZbJ (Zv Zgc (Zf (Zj Zu (Zj Zu (Zb 5) (Zb 6)) (Zb 7)) (Zf (Zj Zai (Zb 4) (Zb 2)) Zo))) (Zj Zu (Zb 5) (Zb 6)) (Zb 7)) Z2)))) (Zw (ZaN (ZaQ (Zf (Zl 1) (Zf (Zv ZaK (Zf (Zb 5) Zo)) Zo))) (put1 6) (Zw (ZO 4 (Zv Ze7 (Zf (Zb 0) (Zf (Zv Zfl (Zf (Zb 3) (Zf (Zb 6) (Zf (Zj Zu (Zb 1) (Zb 6)) Zo)))) Zo)))) (Zw (ZX (Zau (ZG (Zj oGt (Zj Zu (Zb 1) (Zb 6)) (Zl 0))) (Zau (ZG (Zj Zbu (Zb 4) (Z1))) Zan)) (ZbJ (Zv Zgc (Zf (Zj Zu (Zj Zu (Zb 5) (Zb 6)) (Zl 0)) (Zf (Zj oDiv (Zj Zai (Zb 4) (Zb 2)) (Zj Zu (Zb 1) (Zb 6))) Zo))) (Zj Zu (Zb 5) (Zb 6)) (Zl 0)) Z2) (ZX (Zau (ZG (Zj oLt (Zj Zu (Zb 1) (Zb 6)) (Zl 0))) (Zau (ZG (Zj Zbu (Zb 4) (Z1))) Zan)) (ZbJ (Zv Zgc (Zf (Zj Zu (Zj Zu (Zb 5) (Zl 0)) (Zb 6)) (Zf (Zj oDiv (Zj Zai (Zb 4) (Zb 2)) (Zv Zdd (Zf (Zj Zu (Zb 1) (Zb 6)) Zo))) Zo))) (Zj Zu (Zb 5) (Zl 0)) (Zb 6)) Z2)))) (ZH (Zv ZhR (Zf (ZaS (Zf (Zb 5) (Zf (Zj Zu (Zb 0) (Zl 1)) Zo))) Zo)))))))))
noncomputable def Zf5 := Zaa 3 ZkA
noncomputable def Zf6 : PS := (Zt (ZQ (ZE (Ze qIs (Za 0) (ZT))) (ZF (ZT)) ZV) (Zt (ZJ 3 (Zaq (ZaE (Za 1)) (Zad 100) Zaf (pUn Zbd (Za 100)))) (Zt (ZJ 4 (Zs ZdM (Zd (Za 0) (Zd (Za 3) Zn)))) (Zt (ZQ (Zaj (ZE (Ze ZaP (Za 4) (ZT))) (Zaj (ZE (Ze qGt (pUn Zbd (Za 4)) (Za 2))) Zaf)) (ZF (ZT)) ZV) (Zt (ZJ 5 (Zaq (ZaE (Ze Zr (Za 0) (Zk 0))) (Zad 102) Zaf (pFl (Zs Zcg (Zd (Za 102) Zn))))) (Zt (ZaC (ZaF (Zd (Zs Zas (Zd (Za 5) Zn)) Zn)) (Zad 6) (ZaC (ZaF (Zd (Zs Zas (Zd (Za 5) Zn)) Zn)) (Zad 7) (Zt (ZJ 4 (Zs ZdM (Zd (Za 0) (Zd (Zs Zeh (Zd (Zs Zeh (Zd (Za 3) (Zd (Za 6) (Zd (Zk 1) Zn)))) (Zd (Za 7) (Zd (pUn Zbd (Zk 1)) Zn)))) Zn)))) (ZQ (Zaj (ZE (Ze qNe (Za 6) (Za 7))) (Zaj (ZE (Ze ZaP (Za 4) (ZT))) Zaf)) (Za3 5 [] (ZbW (Zs Zez (Zd (Ze Zr (Ze Zr (Za 5) (Za 6)) (Za 7)) (Zd (Ze Zah (Za 4) (Za 2)) Zn)))) (Zbv ZaD (Za 6)) (Za 7)) ZV)))) (Zt (ZaC (ZaF (Zd (Zk 1) (Zd (Zs Zas (Zd (Za 5) Zn)) Zn))) (Zad 6) (Zt (ZJ 4 (Zs ZdM (Zd (Za 0) (Zd (Zs Zeh (Zd (Za 3) (Zd (Za 6) (Zd (Ze Zr (Za 1) (Za 6)) Zn)))) Zn)))) (Zt (ZQ (Zaj (ZE (Ze qGt (Ze Zr (Za 1) (Za 6)) (Zk 0))) (Zaj (ZE (Ze ZaP (Za 4) (ZT))) Zaf)) (Za3 5 [] (ZbW (Zs Zez (Zd (Ze Zr (Ze Zr (Za 5) (Za 6)) (Zk 0)) (Zd (Ze ZcC (Ze Zah (Za 4) (Za 2)) (Ze Zr (Za 1) (Za 6))) Zn)))) (Zbv ZaD (Za 6)) (Zk 0)) ZV) (ZQ (Zaj (ZE (Ze qLt (Ze Zr (Za 1) (Za 6)) (Zk 0))) (Zaj (ZE (Ze ZaP (Za 4) (ZT))) Zaf)) (Za3 5 [] (ZbW (Zs Zez (Zd (Ze Zr (Ze Zr (Za 5) (Zk 0)) (Za 6)) (Zd (Ze ZcC (Ze Zah (Za 4) (Za 2)) (Zs Zde (Zd (Ze Zr (Za 1) (Za 6)) Zn))) Zn)))) (Zbv ZaD (Zk 0)) (Za 6)) ZV)))) (ZF (Zs ZdQ (Zd (ZaV (Zd (Za 5) (Zd (Ze Zr (Za 0) (Zk 1)) Zn))) Zn))))))))))
noncomputable def ZcF := Zac 3 Zf6
theorem ZkB : SimF false Zf5 ZcF := Zag (show S [] [5] [] false ZkA Zf6 from (Zz (Z4 (ZK (ZD Zbs (Zc 0) (Z9))) (ZW (Z9)) Z7) (Zz (ZZ (O' := []) (Zcb (Gs.seq (Zc 1)) PutOk.one (by decide) Zaz (ZbF ZbG (Zc 100)))) (Zz (ZZ (O' := []) (ZL Zhr (Zh (Zc 0) (Zh (Zc 3) Zp)))) (Zz (Z4 (ZaB (ZK (ZD ZbM (Zc 4) (Z9))) (ZaB (ZK (ZD Zdz (ZbF ZbG (Zc 4)) (Zc 2))) Zaz)) (ZW (Z9)) Z7) (Zz (Zco (O' := [5]) (Zdo (Gs.seq (ZB ZA (Zc 0) (Zm _))) PutOk.one (by decide) Zaz (Zek Zdn (Zh (Zc 102) Zp)))) (Zz (Zbb (Gs.range (Zh (Zax ZaW (Zh (Zc 5) Zp)) Zp)) PutOk.one (by decide) (by decide) (Zbb (Gs.range (Zh (Zax ZaW (Zh (Zc 5) Zp)) Zp)) PutOk.one (by decide) (by decide) (Zz (ZZ (O' := [5]) (ZL Zhr (Zh (Zc 0) (Zh (ZL Zie (Zh (ZL Zie (Zh (Zc 3) (Zh (Zc 6) (Zh (Zm _) Zp)))) (Zh (Zc 7) (Zh (ZbF ZbG (Zm _)) Zp)))) Zp)))) (Z4 (ZaB (ZK (ZD ZbQ (Zc 6) (Zc 7))) (ZaB (ZK (ZD ZbM (Zc 4) (Z9))) Zaz)) (S.put (O' := [5]) (by decide) (Za9 (O' := []) (E.flat (ZL ZkZ (Zh (ZB ZA (ZB ZA (Zc 5) (Zc 6)) (Zc 7)) (Zh (Zae Zam (Zc 4) (Zc 2)) Zp))))) (Zc6 ZbD (Zc 6)) (Zc 7) (by decide) (by decide)) Z7)))) (Zz (Zbb (Gs.range (Zh (Zm _) (Zh (Zax ZaW (Zh (Zc 5) Zp)) Zp))) PutOk.one (by decide) (by decide) (Zz (ZZ (O' := [5]) (ZL Zhr (Zh (Zc 0) (Zh (ZL Zie (Zh (Zc 3) (Zh (Zc 6) (Zh (ZB ZA (Zc 1) (Zc 6)) Zp)))) Zp)))) (Zz (Z4 (ZaB (ZK (ZD Zdz (ZB ZA (Zc 1) (Zc 6)) (Zm _))) (ZaB (ZK (ZD ZbM (Zc 4) (Z9))) Zaz)) (S.put (O' := [5]) (by decide) (Za9 (O' := []) (E.flat (ZL ZkZ (Zh (ZB ZA (ZB ZA (Zc 5) (Zc 6)) (Zm _)) (Zh (ZD Zda (Zae Zam (Zc 4) (Zc 2)) (ZB ZA (Zc 1) (Zc 6))) Zp))))) (Zc6 ZbD (Zc 6)) (Zm _) (by decide) (by decide)) Z7) (Z4 (ZaB (ZK (ZD Zcr (ZB ZA (Zc 1) (Zc 6)) (Zm _))) (ZaB (ZK (ZD ZbM (Zc 4) (Z9))) Zaz)) (S.put (O' := [5]) (by decide) (Za9 (O' := []) (E.flat (ZL ZkZ (Zh (ZB ZA (ZB ZA (Zc 5) (Zm _)) (Zc 6)) (Zh (ZD Zda (Zae Zam (Zc 4) (Zc 2)) (Zax Zd7 (Zh (ZB ZA (Zc 1) (Zc 6)) Zp))) Zp))))) (Zc6 ZbD (Zm _)) (Zc 6) (by decide) (by decide)) Z7)))) (ZW (ZL Zpg (Zh (E.tup (Zh (Zc 5) (Zh (ZB ZA (Zc 0) (Zm _)) Zp))) Zp)))))))))))
noncomputable def Zmp : Sm := Zw (ZO 3 (Zv Zcv (Zf (Zj Zu (Zb 0) (Zl 1)) Zo))) (Zw (ZaN (ZaQ (Zf (Zl 1) (Zf (Zv ZaK (Zf (Zb 1) Zo)) Zo))) (put1 4) (Zw (ZO 5 (Zj Zu (Zb 1) (Zb 4))) (ZX (tOr (ZG (Zj oEq (Zb 5) (Zl 1))) (tOr (ZG (Zj oEq (Zb 5) (eUn Zbr (Zl 1)))) Zcn)) (Zw (ZO 6 (Zv Zht (Zf (Zv Zfl (Zf (Zb 1) (Zf (Zb 4) (Zf (eUn Zbr (Zb 5)) Zo)))) (Zf (Zj Zu (Zb 0) (Zl 1)) Zo)))) (Zw (ZO 6 (Zv ZdN (Zf (Zv Zgv (Zf (Zj Zu (Zb 6) (Zl 0)) (Zf (Zb 2) Zo))) (Zf (Zj ZaY (eUn Zbr (Zb 5)) (Zj Zu (Zb 6) (Zl 1))) Zo)))) (ZbJ (Zv Zin (Zf (Zj Zu (Zb 3) (Zj Zbm (Zb 4) (Zl 1))) (Zf (Zb 6) Zo))) (Zb 3) (Zj Zbm (Zb 4) (Zl 1))))) Z2))) (Zw (ZX (ZG (Zj oIn (Z1) (Zb 3))) (ZH (Z1)) Z2) (ZH (Zv ZhR (Zf (ZaS (Zf (Zj Zu (Zb 0) (Zl 0)) (Zf (Zb 3) Zo))) Zo)))))
noncomputable def Zmq := Zaa 3 Zmp
noncomputable def Zmr : PS := (Zt (ZJ 3 (pFl (Zs Zcg (Zd (Ze Zr (Za 0) (Zk 1)) Zn)))) (Zt (ZaC (ZaF (Zd (Zk 1) (Zd (Zs Zas (Zd (Za 1) Zn)) Zn))) (Zad 4) (Zt (ZJ 5 (Ze Zr (Za 1) (Za 4))) (ZQ (bOr (ZE (Ze qEq (Za 5) (Zk 1))) (bOr (ZE (Ze qEq (Za 5) (pUn Zbd (Zk 1)))) Zcf)) (Zt (ZJ 6 (Zs Zf1 (Zd (Zs Zeh (Zd (Za 1) (Zd (Za 4) (Zd (pUn Zbd (Za 5)) Zn)))) (Zd (Ze Zr (Za 0) (Zk 1)) Zn)))) (Zt (ZJ 6 (Zs ZdB (Zd (Zs Zfp (Zd (Ze Zr (Za 6) (Zk 0)) (Zd (Za 2) Zn))) (Zd (Ze ZaG (pUn Zbd (Za 5)) (Ze Zr (Za 6) (Zk 1))) Zn)))) (Za3 3 [] (ZbW (Zs Zgx (Zd (Ze Zr (Za 3) (Ze Za6 (Za 4) (Zk 1))) (Zd (Za 6) Zn)))) ZaD (Ze Za6 (Za 4) (Zk 1))))) ZV))) (Zt (ZQ (ZE (Ze qIn (ZT) (Za 3))) (ZF (ZT)) ZV) (ZF (Zs ZdQ (Zd (ZaV (Zd (Ze Zr (Za 0) (Zk 0)) (Zd (Za 3) Zn))) Zn))))))
noncomputable def Zei := Zac 3 Zmr
theorem ZtF : SimF false Zmq Zei := Zag (show S [] [3] [] false Zmp Zmr from (Zz (Zco (O' := [3]) (Zek Zdn (Zh (ZB ZA (Zc 0) (Zm _)) Zp))) (Zz (Zbb (Gs.range (Zh (Zm _) (Zh (Zax ZaW (Zh (Zc 1) Zp)) Zp))) PutOk.one (by decide) (by decide) (Zz (ZZ (O' := [3]) (ZB ZA (Zc 1) (Zc 4))) (Z4 (Zbi (ZK (ZD ZaO (Zc 5) (Zm _))) (Zbi (ZK (ZD ZaO (Zc 5) (ZbF ZbG (Zm _)))) ZcO)) (Zz (ZZ (O' := [3]) (ZL ZoR (Zh (ZL Zie (Zh (Zc 1) (Zh (Zc 4) (Zh (ZbF ZbG (Zc 5)) Zp)))) (Zh (ZB ZA (Zc 0) (Zm _)) Zp)))) (Zz (ZZ (O' := [3]) (ZL Zew (Zh (ZL ZmH (Zh (ZB ZA (Zc 6) (Zm _)) (Zh (Zc 2) Zp))) (Zh (Zae Zba (ZbF ZbG (Zc 5)) (ZB ZA (Zc 6) (Zm _))) Zp)))) (S.put (O' := [3]) (by decide) (Za9 (O' := []) (E.flat (ZL ZpR (Zh (ZB ZA (Zc 3) (ZD Zbw (Zc 4) (Zm _))) (Zh (Zc 6) Zp))))) ZbD (ZD Zbw (Zc 4) (Zm _)) (by decide) (by decide)))) Z7))) (Zz (Z4 (ZK (ZD Ze2 (Z9) (Zc 3))) (ZW (Z9)) Z7) (ZW (ZL Zpg (Zh (E.tup (Zh (ZB ZA (Zc 0) (Zm _)) (Zh (Zc 3) Zp))) Zp)))))))
noncomputable def ZjV : Sm := Zw (ZX (ZG (Zj oNe (Zj Zu (Zv Zht (Zf (Zb 1) (Zf (Zj Zu (Zb 0) (Zl 1)) Zo))) (Zl 1)) (Zl 0))) (ZH (Z1)) Z2) (Zw (ZO 2 (Zv Zf5 (Zf (Zv Zf5 (Zf (Zb 0) (Zf (Zb 1) (Zf (Zl 0) Zo)))) (Zf (ZaJ (Zbz (Zb 1)) (put1 100) Zan (eUn Zbr (Zb 100))) (Zf (Zl 0) Zo))))) (Zw (ZX (ZG (Zj oIs (Zb 2) (Z1))) (ZH (Z1)) Z2) (ZH (Zv Zmq (Zf (Zb 2) (Zf (Zb 1) (Zf (Zl 0) Zo)))))))
noncomputable def ZjW := Zaa 2 ZjV
noncomputable def Zho : PS := (Zt (ZQ (ZE (Ze qNe (Ze Zr (Zs Zf1 (Zd (Za 1) (Zd (Ze Zr (Za 0) (Zk 1)) Zn))) (Zk 1)) (Zk 0))) (ZF (ZT)) ZV) (Zt (ZJ 2 (Zs ZcF (Zd (Zs ZcF (Zd (Za 0) (Zd (Za 1) (Zd (Zk 0) Zn)))) (Zd (Zaq (ZaE (Za 1)) (Zad 100) Zaf (pUn Zbd (Za 100))) (Zd (Zk 0) Zn))))) (Zt (ZQ (ZE (Ze qIs (Za 2) (ZT))) (ZF (ZT)) ZV) (ZF (Zs Zei (Zd (Za 2) (Zd (Za 1) (Zd (Zk 0) Zn))))))))
noncomputable def Zdg := Zac 2 Zho
theorem Zr5 : SimF false ZjW Zdg := Zag (show S [] [] [] false ZjV Zho from (Zz (Z4 (ZK (ZD ZbQ (ZB ZA (ZL ZoR (Zh (Zc 1) (Zh (ZB ZA (Zc 0) (Zm _)) Zp))) (Zm _)) (Zm _))) (ZW (Z9)) Z7) (Zz (ZZ (O' := []) (ZL ZkB (Zh (ZL ZkB (Zh (Zc 0) (Zh (Zc 1) (Zh (Zm _) Zp)))) (Zh (Zcb (Gs.seq (Zc 1)) PutOk.one (by decide) Zaz (ZbF ZbG (Zc 100))) (Zh (Zm _) Zp))))) (Zz (Z4 (ZK (ZD Zbs (Zc 2) (Z9))) (ZW (Z9)) Z7) (ZW (ZL ZtF (Zh (Zc 2) (Zh (Zc 1) (Zh (Zm _) Zp)))))))))
noncomputable def Zk0 : Sm := Zw (ZaN (Zbz (Zcc (Zf (Zb 1) (Zf (ZaJ (Zbz (Zb 1)) (put1 100) Zan (eUn Zbr (Zb 100))) Zo)))) (put1 2) (ZX (ZG (Zj Zbu (Zb 0) (Z1))) (Zw (ZO 3 (Zv Ze7 (Zf (Zb 0) (Zf (Zb 2) Zo)))) (ZX (Zau (ZG (Zj Zbu (Zb 3) (Z1))) (Zau (ZG (Zj oLe (Zb 3) (Zl 0))) Zan)) (ZO 0 (Zv Zf5 (Zf (Zb 0) (Zf (Zb 2) (Zf (eUn Zbr (Zl 1)) Zo))))) Z2)) Z2)) (ZH (Zb 0))
noncomputable def Zk1 := Zaa 2 Zk0
noncomputable def Zk2 : PS := (Zt (ZaC (ZaE (Zb7 (Zd (Za 1) (Zd (Zaq (ZaE (Za 1)) (Zad 100) Zaf (pUn Zbd (Za 100))) Zn)))) (Zad 2) (ZQ (ZE (Ze ZaP (Za 0) (ZT))) (Zt (ZJ 3 (Zs ZdM (Zd (Za 0) (Zd (Za 2) Zn)))) (ZQ (Zaj (ZE (Ze ZaP (Za 3) (ZT))) (Zaj (ZE (Ze qLe (Za 3) (Zk 0))) Zaf)) (ZJ 0 (Zs ZcF (Zd (Za 0) (Zd (Za 2) (Zd (pUn Zbd (Zk 1)) Zn))))) ZV)) ZV)) (ZF (Za 0)))
noncomputable def ZdP := Zac 2 Zk2
theorem ZsW : SimF false Zk1 ZdP := Zag (show S [] [] [] false Zk0 Zk2 from (Zz (Zbb (Gs.seq (E.list (Zh (Zc 1) (Zh (Zcb (Gs.seq (Zc 1)) PutOk.one (by decide) Zaz (ZbF ZbG (Zc 100))) Zp)))) PutOk.one (by decide) (by decide) (Z4 (ZK (ZD ZbM (Zc 0) (Z9))) (Zz (ZZ (O' := []) (ZL Zhr (Zh (Zc 0) (Zh (Zc 2) Zp)))) (Z4 (ZaB (ZK (ZD ZbM (Zc 3) (Z9))) (ZaB (ZK (ZD Zjv (Zc 3) (Zm _))) Zaz)) (ZZ (O' := []) (ZL ZkB (Zh (Zc 0) (Zh (Zc 2) (Zh (ZbF ZbG (Zm _)) Zp))))) Z7)) Z7)) (ZW (Zc 0))))
noncomputable def Znu : Sm := Zw (ZO 1 (Zj Zu (Zcc (Zf (Zl 0) (Zf (Zl 1) (Zf (Zl 2) (Zf (Zl 1) (Zf (Zl 2) (Zf (Zl 1) (Zf (Zl 2) (Zf (Zl 1) (Zf (Zl 3) Zo)))))))))) (Zv Zb3 (Zf (Zb 0) (Zf (Zl 0) (Zf (Zl 9) Zo)))))) (Zw (ZO 2 (ZaJ (ZaQ (Zf (Zb 1) Zo)) (put1 100) Zan (Zv Zey (Zf (Zb 0) (Zf (Zj Zai (Zl 2) (Zb 100)) Zo))))) (Zw (ZO 3 (Zv ZlV (Zf (Zb 0) (Zf (Zl 14) (Zf (Zb 2) Zo))))) (Zw (ZO 4 (Zv ZmW (Zf (Zb 0) (Zf (Zl 8) (Zf (Zb 1) Zo))))) (Zw (ZX (ZG (Zj oGt (Zv Zb3 (Zf (Zb 0) (Zf (Zl 7) (Zf (Zl 4) Zo)))) (Zl 0))) (ZbJ (Zj Zbm (Zj Zai (Zj Zbm (Zj Zu (Zb 4) (Zl 0)) (Zv Zlz (Zf (Zb 4) (Zf (Zb 2) Zo)))) (Zv Zb3 (Zf (Zb 0) (Zf (Zl 6) (Zf (Zl 5) Zo))))) (Zl 2)) (Zb 4) (Zl 0)) Z2) (Zw (ZO 5 (ZaS (Zf (ZeY (Str.ofString "same")) (Zf (Zv Zcv (Zf (Zb 4) Zo)) Zo)))) (Zw (ZO 6 (Zv Zb3 (Zf (Zb 0) (Zf (Zl 1) (Zf (Zl 55) Zo))))) (Zw (ZX (ZG (Zj oEq (Zj oMod (Zb 6) (Zl 5)) (Zl 1))) (ZO 3 (Zv ZkH (Zf (Zb 0) (Zf (Zl 40) (Zf (Zb 3) Zo))))) Z2) (Zw (ZX (ZG (Zj oEq (Zj oMod (Zb 6) (Zl 11)) (Zl 4))) (ZO 3 (Z1)) Z2) (Zw (ZO 7 (Zv Zh5 (Zf (Zb 3) Zo))) (Zw (ZaN (Zbz (Zcc (Zf (Zb6 true) (Zf (Zb6 false) Zo)))) (put1 8) (Zw (ZO 9 (Z1)) (Zw (ZX (Zau (ZG (Zj Zbu (Zb 7) (Z1))) (Zau (ZG (Zb 8)) Zan)) (ZO 9 (Zv ZjW (Zf (Zb 7) (Zf (Zb 4) Zo)))) Z2) (Zw (ZX (Zau (ZG (Zj Zbu (Zb 7) (Z1))) (Zau (Zcq (ZG (Zb 8))) Zan)) (ZO 9 (Zv Zh5 (Zf (Zv Zk1 (Zf (Zb 7) (Zf (Zb 4) Zo))) Zo))) Z2) (Zw (ZO 10 (Zv Zoj (Zf (Zb 3) (Zf (Zb 5) (Zf (Zb 8) Zo))))) (Zw (ZX (tOr (ZG (Zj oNe (Zj Zu (Zb 5) (Zl 1)) (Zb 4))) (tOr (Zcq (ZG (Zv Zma (Zf (Zb 10) (Zf (Zb 9) Zo))))) Zcn)) (ZH (Zb6 false)) Z2) (Zw (ZX (ZG (Zj Zbu (Zb 10) (Z1))) (Zw (ZbJ (Zl 7) (Zj Zu (Zj Zu (Zb 10) (Zl 0)) (Zl 0)) (Zl 0)) (ZcA (ZeJ (Zj Zu (Zb 10) (Zl 1)) (ZaS (Zf (Zl 7) (Zf (Zl 7) Zo)))))) Z2) (ZX (ZG (Zj oNe (Zb 3) (Zb 7))) (ZH (Zb6 false)) Z2)))))))) (ZH (Zb6 true))))))))))))
noncomputable def Zqh := Zaa 1 Znu
noncomputable def Znv : PS := (Zt (ZJ 1 (Ze Zr (Zb7 (Zd (Zk 0) (Zd (Zk 1) (Zd (Zk 2) (Zd (Zk 1) (Zd (Zk 2) (Zd (Zk 1) (Zd (Zk 2) (Zd (Zk 1) (Zd (Zk 3) Zn)))))))))) (Zs ZbS (Zd (Za 0) (Zd (Zk 0) (Zd (Zk 9) Zn)))))) (Zt (ZJ 2 (Zaq (ZaF (Zd (Za 1) Zn)) (Zad 100) Zaf (Zs Zed (Zd (Za 0) (Zd (Ze Zah (Zk 2) (Za 100)) Zn))))) (Zt (ZJ 3 (Zs Zh4 (Zd (Za 0) (Zd (Zk 14) (Zd (Za 2) Zn))))) (Zt (ZJ 4 (Zs Zio (Zd (Za 0) (Zd (Zk 8) (Zd (Za 1) Zn))))) (Zt (ZQ (ZE (Ze qGt (Zs ZbS (Zd (Za 0) (Zd (Zk 7) (Zd (Zk 4) Zn)))) (Zk 0))) (Za3 4 [] (Ze Za6 (Ze Zah (Ze Za6 (Ze Zr (Za 4) (Zk 0)) (Zs ZhT (Zd (Za 4) (Zd (Za 2) Zn)))) (Zs ZbS (Zd (Za 0) (Zd (Zk 6) (Zd (Zk 5) Zn))))) (Zk 2)) ZaD (Zk 0)) ZV) (Zt (ZJ 5 (ZaV (Zd (ZfU (Str.ofString "same")) (Zd (Zs Zcg (Zd (Za 4) Zn)) Zn)))) (Zt (ZJ 6 (Zs ZbS (Zd (Za 0) (Zd (Zk 1) (Zd (Zk 55) Zn))))) (Zt (ZQ (ZE (Ze qEq (Ze Zbc (Za 6) (Zk 5)) (Zk 1))) (ZJ 3 (Zs ZhD (Zd (Za 0) (Zd (Zk 40) (Zd (Za 3) Zn))))) ZV) (Zt (ZQ (ZE (Ze qEq (Ze Zbc (Za 6) (Zk 11)) (Zk 4))) (ZJ 3 (ZT)) ZV) (Zt (ZJ 7 (Zs ZcG (Zd (Za 3) Zn))) (Zt (ZaC (ZaE (Zb7 (Zd (ZbE true) (Zd (ZbE false) Zn)))) (Zad 8) (Zt (ZJ 9 (ZT)) (Zt (ZQ (Zaj (ZE (Ze ZaP (Za 7) (ZT))) (Zaj (ZE (Za 8)) Zaf)) (ZJ 9 (Zs Zdg (Zd (Za 7) (Zd (Za 4) Zn)))) ZV) (Zt (ZQ (Zaj (ZE (Ze ZaP (Za 7) (ZT))) (Zaj (ZbZ (ZE (Za 8))) Zaf)) (ZJ 9 (Zs ZcG (Zd (Zs ZdP (Zd (Za 7) (Zd (Za 4) Zn))) Zn))) ZV) (Zt (ZJ 10 (Zs Zd4 (Zd (Za 3) (Zd (Za 5) (Zd (Za 8) Zn))))) (Zt (ZQ (bOr (ZE (Ze qNe (Ze Zr (Za 5) (Zk 1)) (Za 4))) (bOr (ZbZ (ZE (Zs ZdU (Zd (Za 10) (Zd (Za 9) Zn))))) Zcf)) (ZF (ZbE false)) ZV) (Zt (ZQ (ZE (Ze ZaP (Za 10) (ZT))) (Zt (Za3 10 [] (Zk 7) (Zbv (Zbv ZaD (Zk 0)) (Zk 0)) (Zk 0)) (Zc1 10 [] (Zbv ZaD (Zk 1)) (ZaV (Zd (Zk 7) (Zd (Zk 7) Zn))))) ZV) (ZQ (ZE (Ze qNe (Za 3) (Za 7))) (ZF (ZbE false)) ZV)))))))) (ZF (ZbE true)))))))))))))
noncomputable def Znw := Zac 1 Znv
theorem Zu9 : SimF false Zqh Znw := Zag (show S [] [] [] false Znu Znv from (Zz (ZZ (O' := []) (ZB ZA (E.list (Zh (Zm _) (Zh (Zm _) (Zh (Zm _) (Zh (Zm _) (Zh (Zm _) (Zh (Zm _) (Zh (Zm _) (Zh (Zm _) (Zh (Zm _) Zp)))))))))) (ZL Zce (Zh (Zc 0) (Zh (Zm _) (Zh (Zm _) Zp)))))) (Zz (ZZ (O' := []) (Zcb (Gs.range (Zh (Zc 1) Zp)) PutOk.one (by decide) Zaz (ZL Zf7 (Zh (Zc 0) (Zh (Zae Zam (Zm _) (Zc 100)) Zp))))) (Zz (ZZ (O' := []) (ZL ZtA (Zh (Zc 0) (Zh (Zm _) (Zh (Zc 2) Zp))))) (Zz (Zco (O' := [4]) (ZbP Zul (Zh (Zc 0) (Zh (Zm _) (Zh (Zc 1) Zp))))) (Zz (Z4 (ZK (ZD Zdz (ZL Zce (Zh (Zc 0) (Zh (Zm _) (Zh (Zm _) Zp)))) (Zm _))) (S.put (O' := [4]) (by decide) (Za9 (O' := []) (ZD Zbw (Zae Zam (ZD Zbw (ZB ZA (Zc 4) (Zm _)) (ZL Zth (Zh (Zc 4) (Zh (Zc 2) Zp)))) (ZL Zce (Zh (Zc 0) (Zh (Zm _) (Zh (Zm _) Zp))))) (Zm _))) ZbD (Zm _) (by decide) (by decide)) Z7) (Zz (ZZ (O' := []) (E.tup (Zh (E.str _) (Zh (ZiD Zdn (Zh (Zc 4) Zp)) Zp)))) (Zz (ZZ (O' := []) (ZL Zce (Zh (Zc 0) (Zh (Zm _) (Zh (Zm _) Zp))))) (Zz (Z4 (ZK (ZD ZaO (ZD Zbq (Zc 6) (Zm _)) (Zm _))) (ZZ (O' := []) (ZL ZsT (Zh (Zc 0) (Zh (Zm _) (Zh (Zc 3) Zp))))) Z7) (Zz (Z4 (ZK (ZD ZaO (ZD Zbq (Zc 6) (Zm _)) (Zm _))) (ZZ (O' := []) (Z9)) Z7) (Zz (ZZ (O' := []) (ZL Zpx (Zh (Zc 3) Zp))) (Zz (Zbb (Gs.seq (E.list (Zh (E.bool _) (Zh (E.bool _) Zp)))) PutOk.one (by decide) (by decide) (ZwY (O1 := [10]) (Zz (ZZ (O' := []) (Z9)) (Zz (Z4 (ZaB (ZK (ZD ZbM (Zc 7) (Z9))) (ZaB (ZK (Zc 8)) Zaz)) (ZZ (O' := []) (ZL Zr5 (Zh (Zc 7) (Zh (Zc 4) Zp)))) Z7) (Zz (Z4 (ZaB (ZK (ZD ZbM (Zc 7) (Z9))) (ZaB (ZcR (ZK (Zc 8))) Zaz)) (ZZ (O' := []) (ZL Zpx (Zh (ZL ZsW (Zh (Zc 7) (Zh (Zc 4) Zp))) Zp))) Z7) (Zz (Zco (O' := [10]) (ZbP Zxv (Zh (Zc 3) (Zh (Zc 5) (Zh (Zc 8) Zp))))) (Zz (Z4 (Zbi (ZK (ZD ZbQ (ZB ZA (Zc 5) (Zm _)) (Zc 4))) (Zbi (ZcR (ZK (ZL ZtD (Zh (Zc 10) (Zh (Zc 9) Zp))))) ZcO)) (ZW (E.bool _)) Z7) (Zz (Z4 (ZK (ZD ZbM (Zc 10) (Z9))) (Zz (S.put (O' := [10]) (by decide) (Za9 (O' := []) (Zm _)) (Zc6 (Zc6 ZbD (Zm _)) (Zm _)) (Zm _) (by decide) (by decide)) (Zjk (O' := [10]) (by decide) (Zc6 ZbD (Zm _)) (Za9 (O' := []) (E.tup (ZgF (Zm _) (ZgF (Zm _) Zp (by decide) (by decide)) (by decide) (by decide)))) (by decide) (by decide))) Z7) (Z4 (ZK (ZD ZbQ (Zc 3) (Zc 7))) (ZW (E.bool _)) Z7))))))) (by decide))) (ZW (E.bool _))))))))))))))
end L
end
section
set_option autoImplicit false
open PySem PySem.W PyProof.Rows PM TM My
local macro_rules | `(tactic| walk_at "tkrd") => `(tactic| first | with_reducible assumption | with_reducible exact ZbB | ((with_reducible apply Zv4); decide; walk_at "tkrd") | ((with_reducible apply ZuX); decide; walk_at "tkrd") | exact rfl | assumption)
local macro_rules | `(tactic| walk_at "tkyes") => `(tactic| first | rfl | (with_reducible assumption) | (simp only [Bool.not_eq_true', Bool.not_eq_false', decide_eq_true_eq, decide_eq_false_iff_not, beq_iff_eq, beq_eq_false_iff_ne, ne_eq, Bool.not_true, Bool.not_false, not_false_eq_true, not_true_eq_false, bne_iff_ne, Decidable.not_not, List.length_map] <;> first | done | omega | assumption))
local macro_rules | `(tactic| walk_at "tkflat") => `(tactic| first | rfl | exact ZeK | exact Ziv | exact Zpu fun i hi => by first | rfl | exact ZeK | exact Ziv)
local macro_rules | `(tactic| walk_at "tkop") => `(tactic| first | with_reducible refine Zro ?_ | with_reducible refine Zxe ?_ | with_reducible refine Zxf ?_ | with_reducible refine ZxR ?_ | with_reducible refine ZxS ?_ | with_reducible refine ZxT ?_ | with_reducible refine tk_ge ?_ | with_reducible refine Zxh ?_ | with_reducible refine tk_max ?_ | with_reducible refine Zxi ?_ | with_reducible refine ZxU ?_ | with_reducible refine ZxV ?_ | with_reducible refine tk_eqb ?_ | with_reducible refine tk_neb ?_ | with_reducible refine Zxj ?_ | with_reducible refine Zxk ?_ | with_reducible refine Zxl ?_ | with_reducible refine Zxm ?_ | with_reducible refine ZvQ ?_ | with_reducible refine ZvR ?_ | with_reducible refine tk_notl ?_ | with_reducible refine ZvS ?_ | with_reducible refine ZvT ?_ | with_reducible refine Zxn ?_ | with_reducible refine ZvU ?_ | ((with_reducible apply ZvV); (first | assumption | omega)) | ((with_reducible apply ZvW); (first | decide | omega); (first | decide | omega)) | ((with_reducible apply ZvX); (first | decide | omega); rfl) | ((with_reducible apply ZiK); (first | decide | omega); rfl) | ((with_reducible apply ZqK); omega) | with_reducible refine ZuS ?_ | with_reducible refine tk_list1t ?_ | with_reducible refine ZvY ?_ | with_reducible refine tk_all ?_ | with_reducible refine Zxo ?_ | ((with_reducible apply Zxg); (first | decide | omega)))
local macro_rules | `(tactic| walk_at "tk1") => `(tactic| first | with_reducible refine Zw4 ?_ | with_reducible refine ZxM ?_ | with_reducible refine ZvJ ?_ | with_reducible refine Zw5 ?_ | with_reducible refine Zw6 ?_ | with_reducible refine ZvK ?_ | with_reducible refine ZvI ?_ | with_reducible refine ZvL ?_ | with_reducible refine ZxN ?_ | with_reducible refine ZxO ?_ | with_reducible refine Zw7 ?_ | with_reducible refine Zw8 ?_ | with_reducible refine ZxP ?_ | with_reducible refine ZxQ ?_ | with_reducible refine Zw9 ?_ | with_reducible refine ZvM ?_ | with_reducible refine ZvN ?_ | with_reducible refine ZuR ?_ | with_reducible refine ZvO ?_ | with_reducible refine Zxa ?_ | with_reducible refine Ztx ?_ | with_reducible refine tk_truth_n ?_ | with_reducible refine ZvP ?_ | with_reducible refine Zxb ?_ | with_reducible refine Zi2 ?_ | with_reducible refine tk_exp ?_ | with_reducible refine ZeO ?_ | with_reducible refine Zoc ?_ | with_reducible refine Zw0 ?_ | with_reducible refine Zw1 ?_ | with_reducible refine ZvH ?_ | with_reducible refine Zw2 ?_ | ((with_reducible apply Zw3); walk_at "tkrd") | ((with_reducible apply Zxc); walk_at "tkyes") | ((with_reducible apply Zxd); walk_at "tkyes") | ((with_reducible apply Zi3); rfl) | (refine And.intro (show T.flat _ = true by walk_at "tkflat") ?_) | (refine And.intro (show T.flatIn _ = true by walk_at "tkflat") ?_) | with_reducible refine ZiL ?_ | with_reducible refine Sq.lst ?_ | with_reducible refine Sq.tup ?_ | with_reducible refine ZuV ?_ | ((with_reducible apply Rn.one); omega) | with_reducible refine Zod ?_ | with_reducible refine Zv7 ?_ | with_reducible refine Zv8 ?_ | with_reducible refine Zu6 ?_ | with_reducible refine Zi.eq ?_ | with_reducible refine Zi.mn ?_ | with_reducible refine Zxp ?_ | with_reducible refine Zv2 ?_ | with_reducible refine Zxq ?_ | with_reducible refine Zv3 ?_ | ((with_reducible apply Zv0); walk_at "tkrd"; (first | (rw [Zat]; omega) | (simp; done))) | ((with_reducible apply Zv1); walk_at "tkrd"; (first | (rw [Zat]; omega) | (simp; done))) | ((with_reducible apply ZuW); walk_at "tkrd"; (first | assumption | omega)) | ((with_reducible apply Zqc); walk_at "tkrd"; (first | assumption | omega); (first | assumption | omega)) | walk_at "tkop")
local macro_rules | `(tactic| walk_at "zz") => `(tactic| repeat' walk_at "tk1")
local macro_rules | `(tactic| walk_at "zr") => `(tactic| walk_at "tkrd")
namespace L
open PySem PySem.W PyProof.Rows PM TM My
variable {a v : Option Int} {b i j k k' m n t : Nat} {ns : List Int} {c x : Nat → Int} {K K' M M' d r top y : Int} {A B F G G2 w Γ : Nat → Nat → Option Int} {σ : TL} {f g : PE} {Q : T → Prop} {R R' R2 S : Nat → Int × Int} {p q : Int × Int} {β : Type} {o : Option (Int × Int)} {ts : List T} {D D1 D2 T0 : T} {done done' : Nat → Nat → Nat → Prop} {N : TL → Prop} {l : List Nat}
section
variable {Q : T → Prop}
theorem Zx7 (h : Q (.int T9)) : Pk (Zdy (.int 10) (.int 9)) Q := by
 have := ZxI []
 simp only [oPow] at this
 split at this
 ·rename_i hc
  refine ⟨_, by simp only [Zdy]; rw [if_pos hc], ?_⟩
  simp only [Option.some.injEq, Prod.mk.injEq, V.int.injEq, and_true] at this
  rw [this]; exact h
 ·cases this
theorem ZxY (h : Q (.int T40)) : Pk (Zdy (.int 10) (.int 40)) Q := by
 have := ZwV []
 simp only [oPow] at this
 split at this
 ·rename_i hc
  refine ⟨_, by simp only [Zdy]; rw [if_pos hc], ?_⟩
  simp only [Option.some.injEq, Prod.mk.injEq, V.int.injEq, and_true] at this
  rw [this]; exact h
 ·cases this
theorem ZxZ (h : Q (.int M9)) : Pk (Zdy (.int 48271) (.int 9)) Q := by
 have := ZwU []
 simp only [oPow] at this
 split at this
 ·rename_i hc
  refine ⟨_, by simp only [Zdy]; rw [if_pos hc], ?_⟩
  simp only [Option.some.injEq, Prod.mk.injEq, V.int.injEq, and_true] at this
  rw [this]; exact h
 ·cases this
theorem ZdZ {a b : Int} (h1 : -(2 ^ 64) < b) (h2 : b < 2 ^ 64) (h : Q (.int (a * b))) : Pk (ZaG (.int a) (.int b)) Q := ZbU (Zub h1 h2) h
theorem ZqU {a b : Int} (h1 : -(2 ^ 64) < a) (h2 : a < 2 ^ 64) (h : Q (.int (a * b))) : Pk (ZaG (.int a) (.int b)) Q := ZbU (Ztw h1 h2) h
end
noncomputable def scr (ns : List Int) : T := .lst (ns.map T.int)
noncomputable def Lay (ns : List Int) : Prop := PyData.layable0 (.list (ns.map .int)) = true
noncomputable def Zcw (ns : List Int) (k : Int) : Int := k * k * 7919 + 11 + (if 0 < ns.length then cellAt ns (k.fmod ns.length) 0 else 0)
theorem Zqi {k : Int} (h0 : 0 ≤ k) (h9 : k ≤ 10000) : Zge [scr ns, .int k] = some (.int (Zcw ns k)) := by
 apply Pk.eq
 unfold Zge Zla Zcw scr
 by_cases hl : 0 < ns.length
 ·have a := Int.fmod_nonneg_of_pos k (show (0 : Int) < ns.length by omega)
  have b := Int.fmod_lt_of_pos k (show (0 : Int) < ns.length by omega)
  have e : (ns.map T.int).length = ns.length := by simp
  walk_at "zz"
  refine ZdZ (by omega) (by omega) ?_
  walk_at "zz"
  refine ZdZ (by omega) (by omega) ?_
  walk_at "zz"
  refine ZiK (t := .int (cellAt ns (k.fmod ns.length) 0)) (by rw [e]; omega) ?_ ?_
  ·rw [e, List.getElem?_map, List.getElem?_eq_getElem (by omega), cellAt_def]
   simp only [Option.map_some, T.int.injEq, Option.some.injEq]
   rw [List.getD_eq_getElem?_getD, List.getElem?_eq_getElem (by omega)]
   rfl
  walk_at "zz"
  rw [if_pos hl]
 ·walk_at "zz"
  refine ZdZ (by omega) (by omega) ?_
  walk_at "zz"
  refine ZdZ (by omega) (by omega) ?_
  walk_at "zz"
  rw [if_neg hl]
  simp
theorem ZtG {k : Int} (hL : Lay ns) (h0 : 0 ≤ k) (h9 : k ≤ 10000) : Builtin.Int.intBits (Zcw ns k) ≤ 2 ^ 21 := by
 unfold Zcw
 have h1 : 0 ≤ k * k := Int.mul_nonneg h0 h0
 have h2 : k * k ≤ 10000 * 10000 := Int.mul_le_mul h9 h9 h0 (by decide)
 have hb : Builtin.Int.intBits (k * k * 7919 + 11) ≤ 2 ^ 20 := Nat.le_trans (intBits_le_64 (by omega) (by omega)) (by decide)
 have hc : Builtin.Int.intBits (if 0 < ns.length then cellAt ns (k.fmod ns.length) 0 else 0) ≤ 2 ^ 20 := by
  split
  ·exact (cell_at hL _).bits
  ·exact bits_zero
 exact Nat.le_trans (PM.ZuO hb hc) (by decide)
noncomputable def Zby (ns : List Int) (k many : Int) : Int := ((Zcw ns k * 48271).fmod 2147483647).fmod many
theorem Zcl (ns : List Int) (k : Int) {many : Int} (h : 0 < many) : 0 ≤ Zby ns k many ∧ Zby ns k many < many := ⟨Int.fmod_nonneg_of_pos _ h, Int.fmod_lt_of_pos _ h⟩
theorem Zcm {k many : Int} (h0 : 0 ≤ k) (h9 : k ≤ 10000) (hm : 0 < many) : ZbS [scr ns, .int k, .int many] = some (.int (Zby ns k many)) := by
 apply Pk.eq
 unfold ZbS ZlQ
 walk_at "zz"
 refine ZI (Zqi h0 h9) ?_
 walk_at "zz"
 refine ZdZ (by decide) (by decide) ?_
 walk_at "zz"
 rfl
noncomputable def Zd5 (ns : List Int) (k : Int) : Int := [3, 9, T9, T40].getD (((Zcw ns k * 69621).fmod 2147483629).fmod 4).toNat 0
theorem Zqj (ns : List Int) (k : Int) : 0 < Zd5 ns k ∧ Zd5 ns k ≤ T40 := by
 unfold Zd5
 have a := Int.fmod_nonneg_of_pos ((Zcw ns k * 69621).fmod 2147483629) (show (0 : Int) < 4 by decide)
 have b := Int.fmod_lt_of_pos ((Zcw ns k * 69621).fmod 2147483629) (show (0 : Int) < 4 by decide)
 generalize ((Zcw ns k * 69621).fmod 2147483629).fmod 4 = i at a b
 have h9 := T9_eq
 have h40 := Zi0
 have : i = 0 ∨ i = 1 ∨ i = 2 ∨ i = 3 := by omega
 obtain rfl | rfl | rfl | rfl := this
 ·show 0 < 3 ∧ 3 ≤ T40; omega
 ·show 0 < 9 ∧ 9 ≤ T40; omega
 ·show 0 < T9 ∧ T9 ≤ T40; omega
 ·show 0 < T40 ∧ T40 ≤ T40; omega
noncomputable def Zcs (ns : List Int) (k : Int) : Int := (Zcw ns k * M9).fmod (2 * Zd5 ns k + 1) - Zd5 ns k
theorem Zru (ns : List Int) (k : Int) : -T40 ≤ Zcs ns k ∧ Zcs ns k ≤ T40 := by
 obtain ⟨a, b⟩ := Zqj ns k
 have h1 := Int.fmod_nonneg_of_pos (Zcw ns k * M9) (show 0 < 2 * Zd5 ns k + 1 by omega)
 have h2 := Int.fmod_lt_of_pos (Zcw ns k * M9) (show 0 < 2 * Zd5 ns k + 1 by omega)
 unfold Zcs
 omega
theorem ZgA {k : Int} (hL : Lay ns) (h0 : 0 ≤ k) (h9 : k ≤ 10000) : Zed [scr ns, .int k] = some (.int (Zcs ns k)) := by
 apply Pk.eq
 unfold Zed ZkF
 have hb := Zp8 (ZtG hL h0 h9) ZvF
 obtain ⟨r0, r1⟩ := Zqj ns k
 have a := Int.fmod_nonneg_of_pos ((Zcw ns k * 69621).fmod 2147483629) (show (0 : Int) < 4 by decide)
 have b := Int.fmod_lt_of_pos ((Zcw ns k * 69621).fmod 2147483629) (show (0 : Int) < 4 by decide)
 walk_at "zz"
 refine ZI (Zqi h0 h9) ?_
 walk_at "zz"
 refine Zx7 ?_
 walk_at "zz"
 refine ZxY ?_
 walk_at "zz"
 refine ZdZ (by decide) (by decide) ?_
 walk_at "zz"
 refine ZiK (t := .int (Zd5 ns k)) (by omega) ?_ ?_
 ·unfold Zd5
  have : (((Zcw ns k * 69621).fmod 2147483629).fmod 4).toNat < 4 := by omega
  generalize (((Zcw ns k * 69621).fmod 2147483629).fmod 4).toNat = i at this
  match i, this with
  | 0, _ => rfl
  | 1, _ => rfl
  | 2, _ => rfl
  | 3, _ => rfl
 walk_at "zz"
 refine ZxZ ?_
 walk_at "zz"
 refine ZbU hb ?_
 walk_at "zz"
 refine ZqU (by decide) (by decide) ?_
 walk_at "zz"
 rfl
noncomputable def Zbe (a : Int) : Int := if a < 0 then -a else a
theorem ZdE (a : Int) : 0 ≤ Zbe a := by unfold Zbe; split <;> omega
noncomputable def Zdr (ns : List Int) (k : Int) : Option Int :=
 if (Zby ns k 42).fmod 6 < 2 then none else if (Zby ns k 42).fmod 6 < 4 then some 0 else if (Zby ns k 42).fmod 6 = 4 then some ((Zby ns k 42).fdiv 6) else some (Zbe (Zcs ns k))
theorem Zva (ns : List Int) (k : Int) {c : Int} (h : Zdr ns k = some c) : 0 ≤ c ∧ c ≤ T40 := by
 have h40 := Zi0
 unfold Zdr at h
 split at h
 ·cases h
 ·split at h
  ·cases h; omega
  ·split at h
   ·cases h
    obtain ⟨p0, p1⟩ := Zcl ns k (show (0 : Int) < 42 by decide)
    rw [Int.fdiv_eq_ediv_of_nonneg _ (by decide)]
    omega
   ·cases h
    have := Zru ns k
    have := ZdE (Zcs ns k)
    unfold Zbe at *
    split at * <;> omega
theorem ZpS {a b : Int} (h0 : 0 ≤ b) (h1 : b < 2 ^ 30) : Builtin.divisionGoesByPylong a b = false := PyProof.noPylong_small (by omega)
theorem Zvb {k : Int} (hL : Lay ns) (h0 : 0 ≤ k) (h9 : k ≤ 10000) : ZhN [scr ns, .int k] = some (oT (Zdr ns k)) := by
 apply Pk.eq
 unfold ZhN Zld Zdr
 obtain ⟨p0, p1⟩ := Zcl ns k (show (0 : Int) < 42 by decide)
 walk_at "zz"
 refine ZI (Zcm h0 h9 (by decide)) ?_
 walk_at "zz"
 refine ⟨fun c => ?_, fun c => ?_⟩
 ·walk_at "zz"
  rw [if_pos (by simpa using c)]; rfl
 rw [if_neg (by simpa using c)]
 walk_at "zz"
 refine ⟨fun c => ?_, fun c => ?_⟩
 ·walk_at "zz"
  rw [if_pos (by simpa using c)]; rfl
 rw [if_neg (by simpa using c)]
 walk_at "zz"
 refine ⟨fun c => ?_, fun c => ?_⟩
 ·walk_at "zz"
  refine Zc7 (by decide) (ZpS (by decide) (by decide)) ?_
  rw [if_pos (by simpa using c)]; rfl
 rw [if_neg (by simpa using c)]
 walk_at "zz"
 refine ZI (ZgA hL h0 h9) ?_
 walk_at "zz"
 rfl
noncomputable def RestOk (q : Int × Int) : Prop := q.1 = 0 ∨ (0 < q.1 ∧ 0 ≤ q.2 ∧ q.2 < q.1)
noncomputable def ZaI (m r : Int) : Int × Int := if m = 0 then (0, r) else (m, r.fmod m)
theorem Zct {m : Int} (h : 0 ≤ m) (r : Int) : RestOk (ZaI m r) := by
 unfold RestOk ZaI
 split
 ·exact .inl rfl
 ·exact .inr ⟨by show 0 < m; omega, Int.fmod_nonneg_of_pos _ (by omega), Int.fmod_lt_of_pos _ (by omega)⟩
theorem ZeF {m : Int} : ZdB [.int m, .int r] = some (Z5 (ZaI m r)) := by
 apply Pk.eq
 unfold ZdB Zke ZaI
 by_cases c : m = 0
 ·walk_at "zz"
  rw [if_pos c]; rfl
 ·walk_at "zz"
  rw [if_neg c]; rfl
noncomputable def Zeq (ns : List Int) (k x : Int) : Int × Int :=
 if (Zby ns k 60).fmod 5 < 2 then (1, 0) else if (Zby ns k 60).fmod 5 = 2 then (0, x) else if (Zby ns k 60).fmod 5 = 3 then ZaI ((Zby ns k 60).fdiv 5 + 1) x else ZaI (Zbe (Zcs ns k)) x
noncomputable def Zav (q : Int × Int) (x : Int) : Prop := (q.1 = 0 → x = q.2) ∧ (0 < q.1 → (x - q.2).emod q.1 = 0)
theorem Zqk (ns : List Int) (k : Int) : 0 ≤ (Zby ns k 60).fdiv 5 ∧ (Zby ns k 60).fdiv 5 < 12 := by
 obtain ⟨p0, p1⟩ := Zcl ns k (show (0 : Int) < 60 by decide)
 rw [Int.fdiv_eq_ediv_of_nonneg _ (by decide)]
 omega
theorem Zvc (ns : List Int) (k x : Int) : RestOk (Zeq ns k x) := by
 have := Zqk ns k
 unfold Zeq
 split
 ·exact .inr ⟨by decide, by decide, by decide⟩
 ·split
  ·exact .inl rfl
  ·split
   ·exact Zct (by omega) x
   ·exact Zct (ZdE _) x
theorem Zwc {k x : Int} (hL : Lay ns) (h0 : 0 ≤ k) (h9 : k ≤ 10000) : Zh3 [scr ns, .int k, .int x] = some (Z5 (Zeq ns k x)) := by
 apply Pk.eq
 unfold Zh3 ZlT Zeq
 obtain ⟨p0, p1⟩ := Zcl ns k (show (0 : Int) < 60 by decide)
 walk_at "zz"
 refine ZI (Zcm h0 h9 (by decide)) ?_
 walk_at "zz"
 refine ⟨fun c => ?_, fun c => ?_⟩
 ·walk_at "zz"
  rw [if_pos (by simpa using c)]; rfl
 rw [if_neg (by simpa using c)]
 walk_at "zz"
 refine ⟨fun c => ?_, fun c => ?_⟩
 ·walk_at "zz"
  rw [if_pos (by simpa using c)]; rfl
 rw [if_neg (by simpa using c)]
 walk_at "zz"
 refine ⟨fun c => ?_, fun c => ?_⟩
 ·walk_at "zz"
  refine Zc7 (by decide) (ZpS (by decide) (by decide)) ?_
  walk_at "zz"
  refine ZI ZeF ?_
  rw [if_pos (by simpa using c)]
 rw [if_neg (by simpa using c)]
 walk_at "zz"
 refine ZI (ZgA hL h0 h9) ?_
 walk_at "zz"
 exact ZI ZeF rfl
noncomputable def ZaR (x : Nat → Int) : Nat → Int := cn 0 x
theorem Zxw (x : Nat → Int) : cn (T.int 0) (fun i => T.int (x i)) = fun i => T.int (ZaR x i) := by
 funext i; cases i <;> rfl
noncomputable def Zcz (ns : List Int) (k : Int) (n : Nat) (x : Nat → Int) (i j : Nat) : Option Int := if j = i then some 0 else (Zdr ns (k + i * (n + 1 : Nat) + j)).map fun c => ZaR x i - ZaR x j + c
noncomputable def ZfR (ns : List Int) (k : Int) (n : Nat) (x : Nat → Int) (t : Nat) : Int × Int := Zeq ns (k + (n + 1 : Nat) * (n + 1 : Nat) + t) (x t)
theorem ZtH (ns : List Int) (k : Int) (n : Nat) (x : Nat → Int) (i : Nat) : Zcz ns k n x i i = some 0 := by simp [Zcz]
theorem Zvd (ns : List Int) (k : Int) (n : Nat) (x : Nat → Int) (i : Nat) : (fun j => if j = i then T.int 0 else oT ((Zdr ns (k + i * (n + 1 : Nat) + j)).map fun c => ZaR x i - ZaR x j + c)) = fun j => oT (Zcz ns k n x i j) := by
 funext j
 unfold Zcz
 split <;> rfl
theorem Zwd {k : Int} (hL : Lay ns) (h0 : 0 ≤ k) (h9 : k ≤ 1000) (hn : n ≤ 9) : Zh4 [scr ns, .int k, Zjx n x] = some (ZR n (Zcz ns k n x) (ZfR ns k n x)) := by
 apply Pk.eq
 unfold Zh4 ZlW Zjx
 have hq : ((n + 1 : Nat) : Int) * ((n + 1 : Nat) : Int) ≤ 10 * 10 := Int.mul_le_mul (by omega) (by omega) (by omega) (by decide)
 have hq0 : (0 : Int) ≤ ((n + 1 : Nat) : Int) * ((n + 1 : Nat) : Int) := Int.mul_nonneg (by omega) (by omega)
 walk_at "zz"
 rw [Zxw]
 refine ZbV (n := n + 1) (a := fun i => .int i) (P := fun i σ => σ 0 = some (scr ns) ∧ σ 1 = some (.int k) ∧ σ 2 = some (.lst (tab n fun i => .int (x i))) ∧ σ 3 = some (.lst (tab (n + 1) fun i => .int (ZaR x i))) ∧ σ 4 = some (.int (n + 1 : Nat)) ∧ σ 5 = some (.lst (tab i fun i => Zay (n + 1) (Zcz ns k n x i)))) ?_ ⟨rfl, rfl, rfl, rfl, rfl, rfl⟩ ?_ ?_
 ·walk_at "zz"
  rfl
 ·rintro i σ hi ⟨e0, e1, e2, e3, e4, e5⟩
  walk_at "zz"
  refine ZbV (n := n + 1) (a := fun i => .int i) (P := fun j σ => σ 0 = some (scr ns) ∧ σ 1 = some (.int k) ∧ σ 2 = some (.lst (tab n fun i => .int (x i))) ∧ σ 3 = some (.lst (tab (n + 1) fun i => .int (ZaR x i))) ∧ σ 4 = some (.int (n + 1 : Nat)) ∧ σ 5 = some (.lst (tab i fun i => Zay (n + 1) (Zcz ns k n x i))) ∧ σ 6 = some (.int i) ∧ σ 7 = some (.lst (tab j fun j => oT ((Zdr ns (k + i * (n + 1 : Nat) + j)).map fun c => ZaR x i - ZaR x j + c)))) ?_ ⟨?_, ?_, ?_, ?_, ?_, ?_, ?_, ?_⟩ ?_ ?_
  ·walk_at "zz"
   rfl
  all_goals first | walk_at "zr" | skip
  ·rintro j σ hj ⟨e0, e1, e2, e3, e4, e5, e6, e7⟩
   have hb1 : (0 : Int) ≤ i * ((n + 1 : Nat) : Int) := Int.mul_nonneg (by omega) (by omega)
   have hb2 : (i : Int) * ((n + 1 : Nat) : Int) ≤ 10 * 10 := Int.mul_le_mul (by omega) (by omega) (by omega) (by decide)
   walk_at "zz"
   refine ZdZ (by omega) (by omega) ?_
   walk_at "zz"
   refine ZI (Zvb hL (by omega) (by omega)) ?_
   have key : ∀ w, w = oT ((Zdr ns (k + i * (n + 1 : Nat) + j)).map fun c => ZaR x i - ZaR x j + c) → tab j (fun j => oT ((Zdr ns (k + i * (n + 1 : Nat) + j)).map fun c => ZaR x i - ZaR x j + c)) ++ [w] = tab (j + 1) fun j => oT ((Zdr ns (k + i * (n + 1 : Nat) + j)).map fun c => ZaR x i - ZaR x j + c) := fun w e => by
    rw [e]; exact ZdX
   cases hs : Zdr ns (k + ↑i * ↑(n + 1) + ↑j) with
   | none =>
    simp only [Zbg, Zap]
    walk_at "zz"
    rw [key _ (by rw [hs]; rfl)]
    refine ⟨?_, ?_, ?_, ?_, ?_, ?_, ?_, ?_⟩ <;> walk_at "zr"
   | some c =>
    simp only [Zbg, Zap]
    walk_at "zz"
    rw [key _ (by rw [hs]; rfl)]
    refine ⟨?_, ?_, ?_, ?_, ?_, ?_, ?_, ?_⟩ <;> walk_at "zr"
  ·rintro σ ⟨e0, e1, e2, e3, e4, e5, e6, e7⟩
   walk_at "zz"
   rw [Zvd, show tab i (fun i => Zay (n + 1) (Zcz ns k n x i)) ++ [T.lst (tab (n + 1) fun j => oT (Zcz ns k n x i j))] = tab (i + 1) fun i => Zay (n + 1) (Zcz ns k n x i) from ZdX (f := fun i => Zay (n + 1) (Zcz ns k n x i))]
   refine ⟨?_, ?_, ?_, ?_, ?_, ?_⟩ <;> walk_at "zr"
 ·rintro σ ⟨e0, e1, e2, e3, e4, e5⟩
  walk_at "zz"
  refine Zck (n := n) (a := fun i => .int i) (b := fun t => Z5 (ZfR ns k n x t)) (by omega) ?_ (fun t ht => ?_) ?_
  ·walk_at "zz"
   refine Zjl n (by omega) (by omega) rfl
  ·walk_at "zz"
   refine ZdZ (by omega) (by omega) ?_
   walk_at "zz"
   exact ZI (Zwc hL (by omega) (by omega)) ⟨Ziv, rfl⟩
  walk_at "zz"
  rfl
noncomputable def Za1 (n : Nat) (G : Nat → Nat → Option Int) (R : Nat → Int × Int) (x : Nat → Int) : Prop := (∀ i j, i < n + 1 → j < n + 1 → ∀ b, G i j = some b → ZaR x i - ZaR x j ≤ b) ∧ ∀ t, t < n → Zav (R t) (x t)
noncomputable def Zx8 (n : Nat) (G : Nat → Nat → Option Int) (R : Nat → Int × Int) : Prop := (∀ i, i < n + 1 → G i i = some 0) ∧ ∀ t, t < n → RestOk (R t)
theorem Zum (ns : List Int) (k : Int) (n : Nat) (x : Nat → Int) : Zx8 n (Zcz ns k n x) (ZfR ns k n x) := ⟨fun i _ => ZtH ns k n x i, fun t _ => Zvc ns _ _⟩
theorem Zun (hn : n < 10000) (e : Pk (g σ) fun t => t = Z8 n G) (h : Q (Z8 n G)) : Pk (Zaq (ZaE g) (Zad j) Zaf (Zs Zcg (Zd (Za j) Zn)) σ) Q := by
 refine Zck (n := n) (a := fun i => Zay n (G i)) (b := fun i => Zay n (G i)) hn ?_ (fun i hi => ?_) h
 ·refine ZiL (e.mono ?_)
  rintro _ rfl
  exact Sq.lst rfl
 ·unfold Zay
  walk_at "zz"
  rfl
theorem ZqV (hn : n ≤ 100) : ZcG [ZR n G R] = some (ZR n G R) := by
 apply Pk.eq
 unfold ZcG Zh6 ZR Za5
 walk_at "zz"
 refine Zun (n := n + 1) (G := G) (by omega) ?_ ?_
 ·walk_at "zz"
  rfl
 walk_at "zz"
 rfl
theorem ZpT : ZcG [.none] = some .none := by
 apply Pk.eq
 unfold ZcG Zh6
 walk_at "zz"
 rfl
noncomputable def leO (a b : Option Int) : Prop := ∀ y, b = some y → ∃ x, a = some x ∧ x ≤ y
theorem Zdl : leO a none := fun _ e => by cases e
theorem leO_some {x : Int} : leO (some x) (some y) ↔ x ≤ y := ⟨fun h => by obtain ⟨z, e, q⟩ := h y rfl; cases e; exact q, fun h z e => by cases e; exact ⟨x, rfl, h⟩⟩
theorem ZiQ : ¬ leO none (some y) := fun h => by obtain ⟨z, e, _⟩ := h y rfl; cases e
theorem Zk3 {b : Option Int} : Zgf [oT a, oT b] = some (.bool (dec (leO a b))) := by
 apply Pk.eq
 unfold Zgf Zlf
 cases b with
 | none =>
  simp only [Zbg]
  walk_at "zz"
  rw [Za0 Zdl]
 | some y =>
  cases a with
  | none =>
   simp only [Zbg, Zap]
   walk_at "zz"
   rw [Zbx ZiQ]
  | some x =>
   simp only [Zap]
   walk_at "zz"
   rw [ZmB leO_some, Zh2]
noncomputable def RIn (p q : Int × Int) : Prop := if q.1 = 0 then p = q else p.1 % q.1 = 0 ∧ (p.2 - q.2) % q.1 = 0
theorem Zwe (h : 0 < q.1 ∧ 0 ≤ q.2 ∧ q.2 < q.1) (x : Int) : x.fmod q.1 = q.2 ↔ (x - q.2) % q.1 = 0 := by
 rw [Int.fmod_eq_emod_of_nonneg _ (by omega)]
 constructor
 ·intro e
  rw [← e, Int.sub_emod, Int.emod_emod, Int.sub_self]
  simp
 ·intro e
  have : x % q.1 = q.2 % q.1 := Int.emod_eq_emod_iff_emod_sub_eq_zero.mpr e
  rw [this, Int.emod_eq_of_lt h.2.1 h.2.2]
theorem Zwf (h : RestOk q) (x : Int) : (if q.1 = 0 then x = q.2 else x.fmod q.1 = q.2) ↔ Zav q x := by
 unfold Zav
 rcases h with h | h
 ·rw [if_pos h]; simp [h]
 ·rw [if_neg (by omega), Zwe h]
  have h1 : ¬ q.1 = 0 := by omega
  simp only [h1, false_implies, true_and, h.1, true_implies]
  rfl
theorem ZhY {x : Int} (h : RestOk q) : Zef [Z5 q, .int x] = some (.bool (dec (Zav q x))) := by
 apply Pk.eq
 unfold Zef ZlZ Z5
 rw [← ZmB (Zwf h x)]
 by_cases c : q.1 = 0
 ·walk_at "zz"
  rw [if_pos c, Zh2]
 ·walk_at "zz"
  rw [if_neg c, Zh2]
noncomputable def Zcx (n : Nat) (G : Nat → Nat → Option Int) (R : Nat → Int × Int) (G' : Nat → Nat → Option Int) (R' : Nat → Int × Int) : Prop := (∀ i, i < n + 1 → ∀ j, j < n + 1 → leO (G i j) (G' i j)) ∧ ∀ t, t < n → RIn (R t) (R' t)
noncomputable def Eu (m : Nat) (a b : Int) : Prop := 0 ≤ a ∧ 0 ≤ b ∧ ∃ k : Nat, a * b < 2 ^ k ∧ m = 2 * k + if a < b then 1 else 0
theorem Eu.step {a b : Int} (h : Eu m a b) (hb : b ≠ 0) : ∃ m', m' < m ∧ Eu m' b (a % b) := by
 obtain ⟨h0, h1, k, h2, h3⟩ := h
 have hb' : 0 < b := by omega
 have r0 := Int.emod_nonneg a hb
 have r1 := Int.emod_lt_of_pos a hb'
 by_cases q : a < b
 ·rw [if_pos q] at h3
  have e : a % b = a := Int.emod_eq_of_lt h0 q
  rw [e]
  exact ⟨2 * k, by omega, h1, h0, k, by rw [Int.mul_comm]; exact h2, by rw [if_neg (by omega)]; omega⟩
 ·rw [if_neg q] at h3
  have hd := Int.emod_add_mul_ediv a b
  have hq : 1 ≤ a / b := Int.le_ediv_of_mul_le hb' (by omega)
  have hm : b * 1 ≤ b * (a / b) := Int.mul_le_mul_of_nonneg_left hq h1
  have h2r : 2 * (a % b) < a := by omega
  have hp : b * (2 * (a % b)) < b * a := Int.mul_lt_mul_of_pos_left h2r hb'
  have hk : k ≠ 0 := by
   rintro rfl
   have : 0 < a * b := Int.mul_pos (by omega) hb'
   simp at h2
   omega
  obtain ⟨k', rfl⟩ : ∃ k', k = k' + 1 := ⟨k - 1, by omega⟩
  refine ⟨2 * k', by omega, h1, r0, k', ?_, by rw [if_neg (by omega)]; omega⟩
  have e1 : b * (2 * (a % b)) = 2 * (b * (a % b)) := by rw [← Int.mul_assoc, Int.mul_comm b 2, Int.mul_assoc]
  have e2 : a * b = b * a := Int.mul_comm _ _
  rw [Int.pow_succ] at h2
  omega
theorem Zix {a b : Int} (ha : 0 ≤ a) (hb : 0 ≤ b) (ha2 : a < 2 ^ 200000) (hb2 : b < 2 ^ 200000) : ∃ m, m < 1000000 ∧ Eu m a b := by
 refine ⟨_, ?_, ha, hb, 400000, ?_, rfl⟩
 ·split <;> omega
 ·have h1 : a * b ≤ a * 2 ^ 200000 := Int.mul_le_mul_of_nonneg_left (by omega) ha
  have h2 : a * 2 ^ 200000 < 2 ^ 200000 * 2 ^ 200000 := Int.mul_lt_mul_of_pos_right ha2 (Int.pow_pos (by decide))
  have h3 : (2 : Int) ^ 200000 * 2 ^ 200000 = 2 ^ 400000 := by rw [← Int.pow_add]
  omega
theorem ZgI {a b : Int} (hb : 0 < b) : Int.gcd b (a % b) = Int.gcd a b := by
 rw [Int.gcd_comm a b, Int.emod_def, Int.gcd_sub_mul_left_right]
theorem ZqW {a b : Int} : Int.gcd (Zbe a) (Zbe b) = Int.gcd a b := by
 unfold Zbe Int.gcd
 split <;> split <;> simp
theorem ZiR {a : Int} (h : a.natAbs < 2 ^ k) : Zbe a < 2 ^ k := by
 have : ((a.natAbs : Nat) : Int) < 2 ^ k := by exact_mod_cast h
 unfold Zbe
 split <;> omega
theorem Zms {a b : Int} (ha : a.natAbs < 2 ^ 200000) (hb : b.natAbs < 2 ^ 200000) : Zfp [.int a, .int b] = some (.int (Int.gcd a b)) := by
 apply Pk.eq
 unfold Zfp ZmG
 walk_at "zz"
 obtain ⟨m, hm, eu⟩ := Zix (ZdE a) (ZdE b) (ZiR ha) (ZiR hb)
 refine Zfw (fun m σ => ∃ c d : Int, σ 0 = some (.int c) ∧ σ 1 = some (.int d) ∧ Eu m c d ∧ Int.gcd c d = Int.gcd a b) _ _ ?_ 1000000 (m := m) ⟨Zbe a, Zbe b, by walk_at "zr", by walk_at "zr", eu, ZqW⟩ hm
 rintro m σ ⟨c, d, e0, e1, eu, eg⟩
 walk_at "zz"
 refine ⟨fun h => ?_, fun h => ?_⟩
 ·have hd : d ≠ 0 := by simpa using h
  have hd0 : 0 ≤ d := eu.2.1
  walk_at "zz"
  rw [Int.fmod_eq_emod_of_nonneg _ hd0]
  obtain ⟨m', h1, h2⟩ := eu.step hd
  exact ⟨m', h1, d, c % d, by walk_at "zr", by walk_at "zr", h2, by rw [ZgI (by omega)]; exact eg⟩
 ·have hd : d = 0 := by simpa using h
  subst hd
  walk_at "zz"
  rw [← eg, Int.gcd_zero_right]
  have := eu.1
  congr 1
  omega
theorem ZiS (ns : List Int) (k : Int) : (Zcs ns k).natAbs < 2 ^ 134 := by
 have h := Zru ns k
 have h2 := Zi0
 have : (2 : Nat) ^ 134 = 21778071482940061661655974875633165533184 := by decide
 omega
theorem ZbT {a : Nat} (h : a < 2 ^ i) (hij : i ≤ j) : a < 2 ^ j := Nat.lt_of_lt_of_le h (Nat.pow_le_pow_right (by decide) hij)
noncomputable def SmG (k n : Nat) (G : Nat → Nat → Option Int) : Prop := ∀ i j, i < n + 1 → j < n + 1 → ∀ b, G i j = some b → b.natAbs < 2 ^ k
noncomputable def SmR (k n : Nat) (R : Nat → Int × Int) : Prop := ∀ t, t < n → (R t).1.natAbs < 2 ^ k ∧ (R t).2.natAbs < 2 ^ k
theorem ZhI {m : Int} (h0 : 0 ≤ m) (hm : m.natAbs < 2 ^ k) (hr : r.natAbs < 2 ^ k) : (ZaI m r).1.natAbs < 2 ^ k ∧ (ZaI m r).2.natAbs < 2 ^ k := by
 unfold ZaI
 split
 ·exact ⟨Nat.two_pow_pos k, hr⟩
 ·have h1 := Int.fmod_nonneg_of_pos r (show 0 < m by omega)
  have h2 := Int.fmod_lt_of_pos r (show 0 < m by omega)
  exact ⟨hm, by show (r.fmod m).natAbs < _; omega⟩
theorem Znx (a : Int) : (Zbe a).natAbs = a.natAbs := by unfold Zbe; split <;> omega
theorem Ztj {k x : Int} (hx : x.natAbs < 2 ^ 134) : (Zeq ns k x).1.natAbs < 2 ^ 134 ∧ (Zeq ns k x).2.natAbs < 2 ^ 134 := by
 have h := Zqk ns k
 have h2 := ZiS ns k
 have e : (2 : Nat) ^ 134 = 21778071482940061661655974875633165533184 := by decide
 unfold Zeq
 split
 ·exact ⟨by show (1 : Nat) < _; omega, by show (0 : Nat) < _; omega⟩
 ·split
  ·exact ⟨by show (0 : Nat) < _; omega, hx⟩
  ·split
   ·exact ZhI (by omega) (by omega) hx
   ·exact ZhI (ZdE _) (by rw [Znx]; exact h2) hx
theorem ZpB (hx : ∀ i, i < n → (x i).natAbs < 2 ^ k) (i : Nat) (hi : i < n + 1) : (ZaR x i).natAbs < 2 ^ k := by
 cases i with
 | zero => exact Nat.two_pow_pos k
 | succ i => exact hx i (by omega)
theorem Zve {k : Int} (hx : ∀ i, i < n → (x i).natAbs < 2 ^ 134) : SmG 136 n (Zcz ns k n x) := by
 intro i j hi hj b h
 have e : (2 : Nat) ^ 134 = 21778071482940061661655974875633165533184 := by decide
 have e2 : (2 : Nat) ^ 136 = 4 * 21778071482940061661655974875633165533184 := by decide
 have h40 := Zi0
 have h1 := ZpB hx i hi
 have h2 := ZpB hx j hj
 unfold Zcz at h
 split at h
 ·cases h; exact Nat.two_pow_pos _
 ·obtain ⟨c, h3, h4⟩ := Zz1.mp h
  have := Zva ns _ h3
  subst h4
  omega
theorem Zql {k : Int} (hx : ∀ i, i < n → (x i).natAbs < 2 ^ 134) : SmR 134 n (ZfR ns k n x) := fun t ht => Ztj (hx t ht)
theorem Zvf : RIn q q := by
 unfold RIn
 split
 ·rfl
 ·simp
theorem Zuo {g : PG} {a : Nat → T} (e : β → T) (P : Nat → β → Prop) (hn : n < 10000) (hg : Pl (g σ) fun ts => ts = tab n a) (hf : ∀ i, i < n → Pk (f (Zab σ j (a i))) fun t => ∃ y, t = e y ∧ P i y) (d : β) (h : ∀ y : Nat → β, (∀ i, i < n → P i (y i)) → Q (.lst (tab n fun i => e (y i)))) : Pk (Zaq g (Zad j) Zaf f σ) Q := by
 have hc : ∃ y : Nat → β, ∀ i, i < n → Pk (f (Zab σ j (a i))) (fun t => t = e (y i)) ∧ P i (y i) := by
  have hx : ∀ i, ∃ y : β, i < n → Pk (f (Zab σ j (a i))) (fun t => t = e y) ∧ P i y := fun i => by
   by_cases q : i < n
   ·obtain ⟨t, e1, y, e2, p⟩ := hf i q
    exact ⟨y, fun _ => ⟨⟨t, e1, e2⟩, p⟩⟩
   ·exact ⟨d, fun h => absurd h q⟩
  exact ⟨fun i => Classical.choose (hx i), fun i => Classical.choose_spec (hx i)⟩
 obtain ⟨y, hy⟩ := hc
 exact Zck hn hg (fun i hi => (hy i hi).1) (h y fun i hi => (hy i hi).2)
theorem Zif (hn : n < 10000) (e : Pk (g σ) fun t => t = Z8 n G) (h : Q (Z8 n G)) : Pk (Zaq (ZaE g) (Zad j) Zaf (pFl (Zs Zcg (Zd (Za j) Zn))) σ) Q := by
 refine Zck (n := n) (a := fun i => Zay n (G i)) (b := fun i => Zay n (G i)) hn ?_ (fun i hi => ?_) h
 ·refine ZiL (e.mono ?_)
  rintro _ rfl
  exact Sq.lst rfl
 ·unfold Zay
  walk_at "zz"
  rfl
noncomputable def Zb0 (G : Nat → Nat → Option Int) (i j : Nat) (v : Option Int) : Nat → Nat → Option Int := fun a b => if a = i ∧ b = j then v else G a b
theorem Zd6 : T.lst (tab n fun a => T.lst (tab n fun b => if a = i ∧ b = j then oT v else oT (G a b))) = Z8 n (Zb0 G i j v) := by
 unfold Z8 Zay Zb0
 congr 2
 funext a
 congr 2
 funext b
 split <;> rfl
theorem ZiT : Zb0 G i j v i j = v := by simp [Zb0]
theorem ZgR {a : Nat} (h : ¬ (a = i ∧ b = j)) : Zb0 G i j v a b = G a b := by simp [Zb0, h]
theorem ZcI : leO a a := fun y e => ⟨y, e, Int.le_refl y⟩
theorem Zcu {b c : Option Int} (h : leO a b) (k : leO b c) : leO a c := fun y e => by
 obtain ⟨x, e1, l1⟩ := k y e
 obtain ⟨w, e2, l2⟩ := h x e1
 exact ⟨w, e2, by omega⟩
theorem Zjb {k : Int} (h0 : 0 ≤ k) (h1 : k < n) : ∃ i : Nat, k = i ∧ i < n := ⟨k.toNat, by omega, by omega⟩
theorem Zmt {a b : Int} (ha : a.natAbs < 2 ^ 200000) (hb : b.natAbs < 2 ^ 200000) : Zfq [.int a, .int b] = some (.int (Int.gcd a b)) := by
 apply Pk.eq
 unfold Zfq ZmJ
 walk_at "zz"
 obtain ⟨m, hm, eu⟩ := Zix (ZdE a) (ZdE b) (ZiR ha) (ZiR hb)
 refine Zfw (fun m σ => ∃ c d : Int, σ 2 = some (.int c) ∧ σ 3 = some (.int d) ∧ Eu m c d ∧ Int.gcd c d = Int.gcd a b) _ _ ?_ 1000000 (m := m) ⟨Zbe a, Zbe b, by walk_at "zr", by walk_at "zr", eu, ZqW⟩ hm
 rintro m σ ⟨c, d, e0, e1, eu, eg⟩
 walk_at "zz"
 refine ⟨fun h => ?_, fun h => ?_⟩
 ·have hd : d ≠ 0 := by simpa using h
  have hd0 : 0 ≤ d := eu.2.1
  walk_at "zz"
  rw [Int.fmod_eq_emod_of_nonneg _ hd0]
  obtain ⟨m', h1, h2⟩ := eu.step hd
  exact ⟨m', h1, d, c % d, by walk_at "zr", by walk_at "zr", h2, by rw [ZgI (by omega)]; exact eg⟩
 ·have hd : d = 0 := by simpa using h
  subst hd
  walk_at "zz"
  rw [← eg, Int.gcd_zero_right]
  have := eu.1
  congr 1
  omega
noncomputable def Bd (k : Nat) (x : Int) : Prop := x.natAbs < 2 ^ k
theorem Bd.mono {x : Int} (h : Bd i x) (hij : i ≤ j) : Bd j x := ZbT h hij
theorem Zb4 {x : Int} (h : Bd i x) (k : Bd j y) (hi : i ≤ 1000000) (hj : j ≤ 1000000) : mulOk x y = true := Zp8 (Nat.le_trans (PyProof.Rows.intBits_le h) (Nat.le_trans hi (by decide))) (Nat.le_trans (PyProof.Rows.intBits_le k) (Nat.le_trans hj (by decide)))
theorem Bd.mul {x : Int} (h : Bd i x) (k : Bd j y) : Bd (i + j) (x * y) := by
 unfold Bd at *
 rw [Int.natAbs_mul, Nat.pow_add]
 exact Nat.mul_lt_mul'' h k
theorem Bd.add {x : Int} (h : Bd i x) (k : Bd i y) : Bd (i + 1) (x + y) := by
 unfold Bd at *
 rw [Nat.pow_succ]
 omega
theorem Bd.sub {x : Int} (h : Bd i x) (k : Bd i y) : Bd (i + 1) (x - y) := by
 unfold Bd at *
 rw [Nat.pow_succ]
 omega
theorem ZdH {x : Int} (h : Bd i y) (hi : i ≤ 9000) : Builtin.divisionGoesByPylong x y = false := by
 refine PyProof.noPylong_of_log2 ?_
 by_cases h0 : y.natAbs = 0
 ·rw [h0]; decide +kernel
 ·exact Nat.lt_of_lt_of_le ((Nat.log2_lt h0).mpr h) hi
theorem Zdb {x : Int} (h : Bd i y) (h0 : 0 ≤ x) (h1 : x ≤ y) : Bd i x := by unfold Bd at *; omega
theorem Zeb (h : 1 ≤ i) : Bd i 1 := ZbT (i := 1) (by decide) h
theorem ZcL : Bd i 0 := Nat.two_pow_pos i
theorem ZtI {a b : Int} (hb : 0 < b) (kb : Bd k b) (hk : k ≤ 8000) (ha : 0 ≤ a) (hg : Int.gcd a b = 1) : Pk (Zil [.int a, .int b]) fun t => ∃ x : Int, t = .int x ∧ 0 ≤ x ∧ x < b ∧ ∃ q, a * x = 1 + b * q := by
 unfold Zil ZmN
 walk_at "zz"
 rw [Int.fmod_eq_emod_of_nonneg _ (by omega)]
 have r0 := Int.emod_nonneg a (show b ≠ 0 by omega)
 have r1 := Int.emod_lt_of_pos a hb
 have hlt : ∀ x : Int, 0 ≤ x → x ≤ b → x < 2 ^ 200000 := fun x h0 h1 => by
  have h2 : b.natAbs < 2 ^ 200000 := ZbT kb (by omega)
  have h3 : ((b.natAbs : Nat) : Int) < 2 ^ 200000 := by exact_mod_cast h2
  omega
 obtain ⟨m, hm, eu⟩ := Zix r0 (show 0 ≤ b by omega) (hlt _ r0 (by omega)) (hlt b (by omega) (by omega))
 have hg0 : Int.gcd (a % b) b = 1 := by
  rw [Int.gcd_comm, ZgI hb]; exact hg
 refine Zfw (fun m σ => ∃ l r s t : Int, σ 1 = some (.int b) ∧ σ 2 = some (.int l) ∧ σ 3 = some (.int r) ∧ σ 4 = some (.int s) ∧ σ 5 = some (.int t) ∧ Eu m l r ∧ Int.gcd l r = 1 ∧ l ≤ b ∧ r ≤ b ∧ (∃ q, s * a = l + b * q) ∧ (∃ q, t * a = r + b * q) ∧ (s.natAbs : Int) * r + (t.natAbs : Int) * l ≤ b ∧ (1 ≤ l ∨ t = 0)) _ _ ?_ 1000000 (m := m) ⟨a % b, b, 1, 0, by walk_at "zr", by walk_at "zr", by walk_at "zr", by walk_at "zr", by walk_at "zr", eu, hg0, by omega, by omega, ⟨a / b, ?_⟩, ⟨-1, by omega⟩, by simp, .inr rfl⟩ hm
 ·rintro m σ ⟨l, r, s, t, e1, e2, e3, e4, e5, eu, gl, lb, rb, ⟨q1, h1⟩, ⟨q2, h2⟩, hb1, hl⟩
  walk_at "zz"
  refine ⟨fun h => ?_, fun h => ?_⟩
  ·have hr : r ≠ 0 := by simpa using h
   have hr0 : 0 ≤ r := eu.2.1
   have hl0 : 0 ≤ l := eu.1
   have hrp : 0 < r := by omega
   have kr : Bd k r := Zdb kb hr0 rb
   have kl : Bd k l := Zdb kb hl0 lb
   have hdiv0 : 0 ≤ l / r := Int.ediv_nonneg hl0 hr0
   have hdiv1 : l / r ≤ l := Int.ediv_le_self _ hl0
   have ks : (s.natAbs : Int) ≤ b := by
    have : (s.natAbs : Int) * 1 ≤ (s.natAbs : Int) * r := Int.mul_le_mul_of_nonneg_left (by omega) (by omega)
    have : 0 ≤ (t.natAbs : Int) * l := Int.mul_nonneg (by omega) hl0
    omega
   have kt : (t.natAbs : Int) ≤ b := by
    rcases hl with hl | hl
    ·have : (t.natAbs : Int) * 1 ≤ (t.natAbs : Int) * l := Int.mul_le_mul_of_nonneg_left (by omega) (by omega)
     have : 0 ≤ (s.natAbs : Int) * r := Int.mul_nonneg (by omega) hr0
     omega
    ·rw [hl]; simp; omega
   have kt' : Bd k t := by unfold Bd at *; omega
   have kd : Bd k (l / r) := Zdb kl hdiv0 hdiv1
   walk_at "zz"
   refine Zc7 hr (ZdH kr (by omega)) ?_
   rw [Int.fdiv_eq_ediv_of_nonneg _ hr0]
   walk_at "zz"
   refine ZbU (Zb4 kd kr (by omega) (by omega)) ?_
   walk_at "zz"
   refine ZbU (Zb4 kd kt' (by omega) (by omega)) ?_
   walk_at "zz"
   have hover : l - l / r * r = l % r := by
    have := Int.emod_add_mul_ediv l r
    rw [Int.mul_comm r (l / r)] at this
    omega
   rw [hover]
   obtain ⟨m', hm1, hm2⟩ := eu.step hr
   have o0 := Int.emod_nonneg l hr
   have o1 := Int.emod_lt_of_pos l hrp
   refine ⟨m', hm1, r, l % r, t, s - l / r * t, by walk_at "zr", by walk_at "zr", by walk_at "zr", by walk_at "zr", by walk_at "zr", hm2, by rw [ZgI hrp]; exact gl, rb, by omega, ⟨q2, h2⟩, ⟨q1 - l / r * q2, ?_⟩, ?_, .inl (by omega)⟩
   ·rw [Int.sub_mul, h1, Int.mul_assoc, h2, Int.mul_add, Int.mul_sub, ← hover]
    have e1 : b * (l / r * q2) = l / r * (b * q2) := by rw [← Int.mul_assoc, Int.mul_comm b, Int.mul_assoc]
    rw [e1]
    omega
   ·have ht : ((s - l / r * t).natAbs : Int) ≤ (s.natAbs : Int) + l / r * (t.natAbs : Int) := by
     have h3 : (s - l / r * t).natAbs ≤ s.natAbs + (l / r * t).natAbs := by omega
     have h4 : (l / r * t).natAbs = (l / r).natAbs * t.natAbs := Int.natAbs_mul ..
     have h5 : (((l / r).natAbs * t.natAbs : Nat) : Int) = l / r * (t.natAbs : Int) := by
      rw [Int.natCast_mul, Int.natAbs_of_nonneg hdiv0]
     rw [h4] at h3
     omega
    have h6 : ((s - l / r * t).natAbs : Int) * r ≤ ((s.natAbs : Int) + l / r * (t.natAbs : Int)) * r := Int.mul_le_mul_of_nonneg_right ht hr0
    have h7 : ((s.natAbs : Int) + l / r * (t.natAbs : Int)) * r = (s.natAbs : Int) * r + (t.natAbs : Int) * (l / r * r) := by
     rw [Int.add_mul, Int.mul_comm (l / r) (t.natAbs : Int), Int.mul_assoc]
    have h8 : (t.natAbs : Int) * (l % r) + (t.natAbs : Int) * (l / r * r) = (t.natAbs : Int) * l := by
     rw [← Int.mul_add, ← hover]
     congr 1
     omega
    omega
  ·have hr : r = 0 := by simpa using h
   subst hr
   rw [Int.gcd_zero_right] at gl
   have hl1 : l = 1 := by have := eu.1; omega
   subst hl1
   walk_at "zz"
   rw [Int.fmod_eq_emod_of_nonneg _ (by omega)]
   refine ⟨s % b, rfl, Int.emod_nonneg _ (by omega), Int.emod_lt_of_pos _ hb, q1 - s / b * a, ?_⟩
   have h3 := Int.emod_add_mul_ediv s b
   have h4 : s % b = s - b * (s / b) := by omega
   rw [h4, Int.mul_sub, Int.mul_comm a s, h1, Int.mul_sub]
   have e1 : a * (b * (s / b)) = b * (s / b * a) := by rw [Int.mul_comm a, Int.mul_assoc]
   rw [e1]
   omega
 ·have h3 := Int.emod_add_mul_ediv a b
  rw [Int.one_mul]
  omega
theorem ZhJ {m : Int} (h : 0 ≤ m) : ZeP [.int m, .int r] = some (Z5 (ZaI m r)) := by
 apply Pk.eq
 unfold ZeP Zog ZaI
 by_cases c : m = 0
 ·walk_at "zz"
  rw [if_pos c]; rfl
 ·walk_at "zz"
  rw [if_neg c]; rfl
theorem Zbk (h : 0 ≤ q.1) (x : Int) : Zav q x ↔ q.1 ∣ x - q.2 := by
 unfold Zav
 by_cases c : q.1 = 0
 ·rw [c]
  simp
  omega
 ·have : 0 < q.1 := by omega
  simp only [c, false_implies, true_and, this, true_implies]
  exact (Int.dvd_iff_emod_eq_zero).symm
theorem Zup {m : Int} (h : 0 ≤ m) : 0 ≤ (ZaI m r).1 := by unfold ZaI; split <;> simp [h]
theorem Zdi {m : Int} (h : 0 ≤ m) (x : Int) : Zav (ZaI m r) x ↔ m ∣ x - r := by
 rw [Zbk (Zup h)]
 unfold ZaI
 split
 ·rename_i c; subst c; rfl
 ·show m ∣ x - r.fmod m ↔ _
  rw [Int.fmod_eq_emod_of_nonneg _ h]
  have h1 : x - r % m = (x - r) + m * (r / m) := by have := Int.emod_add_mul_ediv r m; omega
  rw [h1]
  constructor
  ·intro q
   have := Int.dvd_sub q (Int.dvd_mul_right m (r / m))
   rwa [Int.add_sub_cancel] at this
  ·intro q
   exact Int.dvd_add q (Int.dvd_mul_right m (r / m))
theorem RestOk.nn (h : RestOk q) : 0 ≤ q.1 := by rcases h with h | h <;> omega
theorem RestOk.self (h : RestOk q) : Zav q q.2 := by rw [Zbk h.nn]; simp
theorem ZhZ (hp : RestOk p) (hq : RestOk q) (h : ∀ x, Zav p x ↔ Zav q x) : p = q := by
 have e1 : ∀ x, p.1 ∣ x - p.2 ↔ q.1 ∣ x - q.2 := fun x => by rw [← Zbk hp.nn, ← Zbk hq.nn]; exact h x
 have a1 : q.1 ∣ p.2 - q.2 := (e1 p.2).mp (by simp)
 have a2 : q.1 ∣ p.2 + p.1 - q.2 := (e1 (p.2 + p.1)).mp (by rw [show p.2 + p.1 - p.2 = p.1 by omega]; exact Int.dvd_refl _)
 have b1 : p.1 ∣ q.2 - p.2 := (e1 q.2).mpr (by simp)
 have b2 : p.1 ∣ q.2 + q.1 - p.2 := (e1 (q.2 + q.1)).mpr (by rw [show q.2 + q.1 - q.2 = q.1 by omega]; exact Int.dvd_refl _)
 have c1 : q.1 ∣ p.1 := by have := Int.dvd_sub a2 a1; rwa [show p.2 + p.1 - q.2 - (p.2 - q.2) = p.1 by omega] at this
 have c2 : p.1 ∣ q.1 := by have := Int.dvd_sub b2 b1; rwa [show q.2 + q.1 - p.2 - (q.2 - p.2) = q.1 by omega] at this
 have em : p.1 = q.1 := Int.dvd_antisymm hp.nn hq.nn c2 c1
 have er : p.2 = q.2 := by
  rcases hp with hp | hp
  ·rw [hp] at em
   rw [← em] at a1
   have := Int.zero_dvd.mp a1
   omega
  ·rcases hq with hq | hq
   ·omega
   ·rw [← em] at a1 hq
    obtain ⟨k, hk⟩ := a1
    have : k = 0 := by
     rcases Int.lt_trichotomy k 0 with h | h | h
     ·have : p.1 * k ≤ p.1 * (-1) := Int.mul_le_mul_of_nonneg_left (by omega) (by omega)
      omega
     ·exact h
     ·have : p.1 * 1 ≤ p.1 * k := Int.mul_le_mul_of_nonneg_left (by omega) (by omega)
      omega
    subst this
    simp at hk
    omega
 exact Prod.ext em er
noncomputable def RBd (k : Nat) (q : Int × Int) : Prop := Bd k q.1 ∧ Bd k q.2
theorem ZgB {m : Int} (h0 : 0 ≤ m) (hm : Bd k m) (hr : Bd k r) : RBd k (ZaI m r) := ZhI h0 hm hr
noncomputable def ZbH (p q : Int × Int) : Int × Int := ZaI (Int.gcd p.1 q.1) (p.2 + q.2)
theorem Ziy (p q : Int × Int) : RestOk (ZbH p q) := Zct (by omega) _
theorem Zk4 (hk : k ≤ 200000) (hp : Bd k p.1) (hq : Bd k q.1) : Zfc [Z5 p, Z5 q] = some (Z5 (ZbH p q)) := by
 apply Pk.eq
 unfold Zfc Zlh Z5 ZbH
 walk_at "zz"
 refine ZI (Zmt (ZbT hp hk) (ZbT hq hk)) ?_
 walk_at "zz"
 exact ZI (ZhJ (by omega)) rfl
noncomputable def ZcK (p : Int × Int) (k : Int) : Int × Int := ZaI (p.1 * Zbe k) (p.2 * k)
theorem ZkC {c : Int} (hk : k ≤ 200000) (hp0 : 0 ≤ p.1) (hp : RBd k p) (hc : Bd k c) : Zfa [Z5 p, .int c] = some (Z5 (ZcK p c)) := by
 apply Pk.eq
 unfold Zfa ZkK Z5 ZcK
 have ha : Bd k (Zbe c) := by unfold Bd at *; rw [Znx]; exact hc
 walk_at "zz"
 refine ZbU (Zb4 hp.1 ha (by omega) (by omega)) ?_
 walk_at "zz"
 refine ZbU (Zb4 hp.2 hc (by omega) (by omega)) ?_
 walk_at "zz"
 exact ZI (ZhJ (Int.mul_nonneg hp0 (ZdE c))) rfl
noncomputable def ZdI (p : Int × Int) (top : Int) : Option Int := if p.1 = 0 then (if p.2 ≤ top then some p.2 else none) else some (top - (top - p.2) % p.1)
theorem ZsD (hp : 0 ≤ p.1) : ZhE [Z5 p, .int top] = some (oT (ZdI p top)) := by
 apply Pk.eq
 unfold ZhE ZkO Z5 ZdI
 by_cases c : p.1 = 0
 ·rw [if_pos c]
  by_cases d : p.2 ≤ top
  ·walk_at "zz"
   rw [if_pos d]; rfl
  ·walk_at "zz"
   rw [if_neg d]; rfl
 ·rw [if_neg c]
  walk_at "zz"
  rw [Int.fmod_eq_emod_of_nonneg _ hp]
  rfl
noncomputable def oR : Option (Int × Int) → T
 | none => .none
 | some q => Z5 q
noncomputable def Met (p q : Int × Int) (o : Option (Int × Int)) : Prop := match o with
 | none => ∀ x, ¬ (Zav p x ∧ Zav q x)
 | some r => RestOk r ∧ (∀ x, Zav r x ↔ Zav p x ∧ Zav q x)
theorem ZpC {a b : Option (Int × Int)} (ha : Met p q a) (hb : Met p q b) : a = b := by
 cases a with
 | none =>
  cases b with
  | none => rfl
  | some r => exact absurd ((hb.2 r.2).mp hb.1.self) (ha r.2)
 | some s =>
  cases b with
  | none => exact absurd ((ha.2 s.2).mp ha.1.self) (hb s.2)
  | some r => rw [ZhZ ha.1 hb.1 fun x => (ha.2 x).trans (hb.2 x).symm]
theorem ZlG (hk : k ≤ 8000) (op : RestOk p) (oq : RestOk q) (bp : RBd k p) (bq : RBd k q) : Pk (Zgk [Z5 p, Z5 q]) fun t => ∃ o, t = oR o ∧ Met p q o ∧ ∀ r, o = some r → (r = p ∨ r = q ∨ (p.1 ≠ 0 ∧ q.1 ≠ 0 ∧ r.1 = Int.lcm p.1 q.1)) := by
 unfold Zgk Zl1
 have ep : Z5 p = .tup [.int p.1, .int p.2] := rfl
 have eq : Z5 q = .tup [.int q.1, .int q.2] := rfl
 have np := op.nn
 have nq := oq.nn
 by_cases c1 : p.1 = 0
 ·rw [ep]
  walk_at "zz"
  refine ZI (ZhY oq) ?_
  walk_at "zz"
  have hone : ∀ x, Zav p x ↔ x = p.2 := fun x => by rw [Zbk np, c1, Int.zero_dvd]; omega
  refine ⟨fun e => ?_, fun e => ?_⟩
  ·walk_at "zz"
   refine ⟨some p, rfl, ⟨op, fun x => ⟨fun h => ⟨h, ?_⟩, fun h => h.1⟩⟩, fun r e => by cases e; exact .inl rfl⟩
   rw [(hone x).mp h]; exact dec_iff.mp e
  ·walk_at "zz"
   refine ⟨none, rfl, fun x h => ?_, by simp⟩
   have := (hone x).mp h.1
   subst this
   have h2 := Za0 h.2
   rw [h2] at e
   cases e
 by_cases c2 : q.1 = 0
 ·have hone : ∀ x, Zav q x ↔ x = q.2 := fun x => by rw [Zbk nq, c2, Int.zero_dvd]; omega
  rw [ep, eq]
  walk_at "zz"
  rw [← ep]
  refine ZI (ZhY op) ?_
  walk_at "zz"
  refine ⟨fun e => ?_, fun e => ?_⟩
  ·walk_at "zz"
   refine ⟨some q, rfl, ⟨oq, fun x => ⟨fun h => ⟨?_, h⟩, fun h => h.2⟩⟩, fun r e => by cases e; exact .inr (.inl rfl)⟩
   rw [(hone x).mp h]; exact dec_iff.mp e
  ·walk_at "zz"
   refine ⟨none, rfl, fun x h => ?_, by simp⟩
   have := (hone x).mp h.2
   subst this
   have h2 := Za0 h.1
   rw [h2] at e
   cases e
 ·have pp : 0 < p.1 := by omega
  have pq : 0 < q.1 := by omega
  obtain ⟨g, hg⟩ : ∃ g : Nat, Int.gcd p.1 q.1 = g := ⟨_, rfl⟩
  have hg0 : 0 < (g : Int) := by
   have : Int.gcd p.1 q.1 ≠ 0 := fun h => c1 (Int.gcd_eq_zero_iff.mp h).1
   omega
  have gp : (g : Int) ∣ p.1 := by rw [← hg]; exact Int.gcd_dvd_left ..
  have gq : (g : Int) ∣ q.1 := by rw [← hg]; exact Int.gcd_dvd_right ..
  obtain ⟨a, ea⟩ := gp
  obtain ⟨b, eb⟩ := gq
  have ha : 0 < a := by
   rcases Int.lt_trichotomy a 0 with h | h | h
   ·have := Int.mul_neg_of_pos_of_neg hg0 h; omega
   ·subst h; simp at ea; omega
   ·exact h
  have hb : 0 < b := by
   rcases Int.lt_trichotomy b 0 with h | h | h
   ·have := Int.mul_neg_of_pos_of_neg hg0 h; omega
   ·subst h; simp at eb; omega
   ·exact h
  have da : p.1 / g = a := by rw [ea]; exact Int.mul_ediv_cancel_left _ (by omega)
  have db : q.1 / g = b := by rw [eb]; exact Int.mul_ediv_cancel_left _ (by omega)
  have kg : Bd k (g : Int) := Zdb bp.1 (by omega) (by
   rw [ea]
   have : (g : Int) * 1 ≤ g * a := Int.mul_le_mul_of_nonneg_left (by omega) (by omega)
   omega)
  have kb : Bd k b := Zdb bq.1 (by omega) (by
   rw [eb]
   have : 1 * b ≤ g * b := Int.mul_le_mul_of_nonneg_right (by omega) (by omega)
   omega)
  have cop : Int.gcd a b = 1 := by
   have h1 := Int.gcd_mul_left (g : Int) a b
   rw [← ea, ← eb, hg, Int.natAbs_natCast] at h1
   have h2 : g * 1 = g * Int.gcd a b := by omega
   exact (Nat.eq_of_mul_eq_mul_left (by omega) h2).symm
  rw [ep, eq]
  walk_at "zz"
  refine ZI (Zmt (ZbT bp.1 (by omega)) (ZbT bq.1 (by omega))) ?_
  rw [hg]
  walk_at "zz"
  rw [Int.fmod_eq_emod_of_nonneg _ (by omega)]
  by_cases c3 : (q.2 - p.2) % (g : Int) = 0
  ·obtain ⟨d, ed⟩ := Int.dvd_of_emod_eq_zero c3
   have dd : (q.2 - p.2) / g = d := by rw [ed]; exact Int.mul_ediv_cancel_left _ (by omega)
   have kd : Bd (k + 1) d := by
    have h1 : Bd (k + 1) (q.2 - p.2) := Bd.sub bq.2 bp.2
    unfold Bd at *
    rw [ed, Int.natAbs_mul] at h1
    have : 1 * d.natAbs ≤ (g : Int).natAbs * d.natAbs := Nat.mul_le_mul_right _ (by omega)
    omega
   walk_at "zz"
   refine Zc7 (by omega) (ZdH kg (by omega)) ?_
   rw [Int.fdiv_eq_ediv_of_nonneg _ (by omega), db]
   walk_at "zz"
   refine Zc7 (by omega) (ZdH kg (by omega)) ?_
   rw [Int.fdiv_eq_ediv_of_nonneg _ (by omega), dd]
   walk_at "zz"
   refine Zc7 (by omega) (ZdH kg (by omega)) ?_
   rw [Int.fdiv_eq_ediv_of_nonneg _ (by omega), da]
   walk_at "zz"
   refine (ZtI hb kb hk (by omega) cop).mono ?_
   rintro _ ⟨y, rfl, y0, y1, z, hz⟩
   have ky : Bd k y := Zdb kb y0 (by omega)
   walk_at "zz"
   refine ZbU (Zb4 kd ky (by omega) (by omega)) ?_
   walk_at "zz"
   refine ZbU (Zb4 bp.1 kb (by omega) (by omega)) ?_
   walk_at "zz"
   refine ZbU (Zb4 bp.1 (Bd.mul kd ky) (by omega) (by omega)) ?_
   walk_at "zz"
   have hL : (p.1 * b).natAbs = Int.lcm p.1 q.1 := by
    have h1 := Int.gcd_mul_lcm p.1 q.1
    rw [hg] at h1
    have h2 : p.1.natAbs * q.1.natAbs = g * (p.1 * b).natAbs := by
     rw [Int.natAbs_mul]
     conv => lhs; rw [show q.1.natAbs = g * b.natAbs by rw [eb, Int.natAbs_mul, Int.natAbs_natCast]]
     rw [← Nat.mul_assoc, Nat.mul_comm p.1.natAbs g, Nat.mul_assoc]
    have h3 : g * Int.lcm p.1 q.1 = g * (p.1 * b).natAbs := by omega
    exact (Nat.eq_of_mul_eq_mul_left (by omega) h3).symm
   have hpb : 0 < p.1 * b := Int.mul_pos pp hb
   refine ZI (ZhJ (by omega)) ⟨some _, rfl, ⟨Zct (by omega) _, fun x => ?_⟩, fun r e => ?_⟩
   ·rw [Zdi (by omega), Zbk np, Zbk nq]
    have hx0 : p.1 * (d * y) = (q.2 - p.2) + q.1 * (d * z) := by
     rw [ed, ea, eb]
     have : (g : Int) * a * (d * y) = g * d * (a * y) := by
      rw [Int.mul_assoc, Int.mul_assoc, Int.mul_left_comm a d y]
     rw [this, hz, Int.mul_add, Int.mul_one]
     congr 1
     rw [Int.mul_assoc, Int.mul_assoc, Int.mul_left_comm d b z]
    constructor
    ·intro h
     have h1 : p.1 ∣ x - (p.2 + p.1 * (d * y)) := Int.dvd_trans (Int.dvd_mul_right _ _) h
     have h2 : q.1 ∣ x - (p.2 + p.1 * (d * y)) := Int.dvd_trans ⟨a, by rw [ea, eb]; rw [Int.mul_assoc, Int.mul_assoc, Int.mul_comm a b]⟩ h
     refine ⟨?_, ?_⟩
     ·have := Int.dvd_add h1 (Int.dvd_mul_right p.1 (d * y))
      rwa [show x - (p.2 + p.1 * (d * y)) + p.1 * (d * y) = x - p.2 by omega] at this
     ·have := Int.dvd_add h2 (Int.dvd_mul_right q.1 (d * z))
      rwa [show x - (p.2 + p.1 * (d * y)) + q.1 * (d * z) = x - q.2 by omega] at this
    ·rintro ⟨h1, h2⟩
     have h3 : p.1 ∣ x - (p.2 + p.1 * (d * y)) := by
      have := Int.dvd_sub h1 (Int.dvd_mul_right p.1 (d * y))
      rwa [show x - p.2 - p.1 * (d * y) = x - (p.2 + p.1 * (d * y)) by omega] at this
     have h4 : q.1 ∣ x - (p.2 + p.1 * (d * y)) := by
      have := Int.dvd_sub h2 (Int.dvd_mul_right q.1 (d * z))
      rwa [show x - q.2 - q.1 * (d * z) = x - (p.2 + p.1 * (d * y)) by omega] at this
     have h5 := Int.lcm_dvd (Int.dvd_natAbs.mpr h3) (Int.dvd_natAbs.mpr h4)
     rw [← hL] at h5
     have h6 : (((p.1 * b).natAbs : Nat) : Int) ∣ (((x - (p.2 + p.1 * (d * y))).natAbs : Nat) : Int) := Int.natCast_dvd_natCast.mpr h5
     exact Int.natAbs_dvd.mp (Int.dvd_natAbs.mp h6)
   ·cases e
    refine .inr (.inr ⟨c1, c2, ?_⟩)
    unfold ZaI
    rw [if_neg (by omega)]
    show p.1 * b = _
    rw [← hL]
    omega
  ·walk_at "zz"
   refine ⟨none, rfl, fun x h => c3 ?_, by simp⟩
   rw [Zbk np, Zbk nq] at h
   have h1 : (g : Int) ∣ x - p.2 := Int.dvd_trans ⟨a, ea⟩ h.1
   have h2 : (g : Int) ∣ x - q.2 := Int.dvd_trans ⟨b, eb⟩ h.2
   have h3 := Int.dvd_sub h1 h2
   rw [show x - p.2 - (x - q.2) = q.2 - p.2 by omega] at h3
   exact Int.emod_eq_zero_of_dvd h3
theorem Zjc {a b : Int} (ha : Bd k a) (hb : Bd k b) : Bd k ((Int.gcd a b : Nat) : Int) := by
 unfold Bd at *
 rw [Int.natAbs_natCast]
 by_cases z : a = 0
 ·rw [z, Int.gcd_zero_left]; exact hb
 ·exact Nat.lt_of_le_of_lt (Nat.gcd_le_left _ (by omega)) ha
noncomputable def Za2 (a b : Option Int) : Option Int := if dec (leO a b) then a else b
noncomputable def Zak : Option Int → Option Int → Option Int
 | some a, some b => some (a + b)
 | _, _ => none
theorem addO_some {b : Option Int} {c : Int} : Zak a b = some c ↔ ∃ x y, a = some x ∧ b = some y ∧ x + y = c := by
 cases a <;> cases b <;> simp [Zak]
theorem leO_total {b : Option Int} (h : ¬ leO a b) : leO b a := by
 cases a with
 | none => exact Zdl
 | some x =>
  cases b with
  | none => exact absurd Zdl h
  | some y => rw [leO_some] at h ⊢; omega
theorem ZfM {b : Option Int} : leO (Za2 a b) a := by
 unfold Za2
 split
 ·exact ZcI
 ·rename_i h; exact leO_total fun q => h (Za0 q)
theorem Zrv {b : Option Int} : leO (Za2 a b) b := by
 unfold Za2
 split
 ·rename_i h; exact dec_iff.mp h
 ·exact ZcI
theorem ZeL (a b : Option Int) : Za2 a b = a ∨ Za2 a b = b := by
 unfold Za2; split <;> simp
theorem ZsX {b : Option Int} (h : leO a b) (k : leO b a) : a = b := by
 cases a with
 | none =>
  cases b with
  | none => rfl
  | some y => exact absurd h ZiQ
 | some x =>
  cases b with
  | none => exact absurd k ZiQ
  | some y => rw [leO_some] at h k; rw [show x = y by omega]
theorem Zel {b : Option Int} (h : leO a b) : Za2 a b = a := by unfold Za2; rw [Za0 h]; rfl
theorem Zfu {b c d : Option Int} (h : leO a c) (k : leO b d) : leO (Zak a b) (Zak c d) := by
 intro y e
 obtain ⟨p, q, rfl, rfl, rfl⟩ := addO_some.mp e
 obtain ⟨p', rfl, l1⟩ := h p rfl
 obtain ⟨q', rfl, l2⟩ := k q rfl
 exact ⟨p' + q', rfl, by omega⟩
theorem Zrw : Zak a (some 0) = a := by cases a <;> simp [Zak]
theorem Zrx : Zak (some 0) a = a := by cases a <;> simp [Zak]
theorem Zgp {b c : Option Int} : Zak (Zak a b) c = Zak a (Zak b c) := by cases a <;> cases b <;> cases c <;> simp [Zak, Int.add_assoc]
theorem Zff {b : Option Int} : ZdT [oT a, oT b] = some (oT (Zak a b)) := by
 apply Pk.eq
 unfold ZdT Zl3
 cases a with
 | none =>
  rw [Zbg]
  walk_at "zz"
  rfl
 | some x =>
  cases b with
  | none =>
   rw [Zbg, Zap]
   walk_at "zz"
   rfl
  | some y =>
   rw [Zap, Zap]
   walk_at "zz"
   rfl
theorem ZpU {b : Option Int} : ZgG [oT a, oT b] = some (oT (Za2 a b)) := by
 apply Pk.eq
 unfold ZgG Znq Za2
 walk_at "zz"
 refine ZI Zk3 ?_
 walk_at "zz"
 refine ⟨fun e => ?_, fun e => ?_⟩
 ·walk_at "zz"
  rw [e]; rfl
 ·walk_at "zz"
  rw [e]; rfl
noncomputable def Zb1 (G : Nat → Nat → Option Int) (m : Nat) : Nat → Nat → Option Int := fun i j => Za2 (G i j) (Zak (G i m) (G m j))
theorem ZrT {a b : Nat → Option Int} {c : Option Int} (hn : n < 10000) : Zhj [Zay n a, oT c, Zay n b] = some (Zay n fun j => Za2 (a j) (Zak c (b j))) := by
 apply Pk.eq
 unfold Zhj ZjE Zay
 walk_at "zz"
 refine Znm (n := n) (a := fun j => oT (a j)) (b := fun j => oT (b j)) (c := fun j => oT (Za2 (a j) (Zak c (b j)))) hn ?_ (fun j hj => ?_) ?_
 ·walk_at "zz"
  rfl
 ·walk_at "zz"
  refine ZI Zff ?_
  walk_at "zz"
  exact ZI ZpU ⟨ZeK, rfl⟩
 rfl
theorem ZsY (hn : n < 10000) (hm : m < n) : ZhP [Z8 n G, .int m] = some (Z8 n (Zb1 G m)) := by
 apply Pk.eq
 unfold ZhP Zll Z8
 walk_at "zz"
 refine Zck (n := n) (a := fun i => Zay n (G i)) (b := fun i => Zay n (Zb1 G m i)) hn ?_ (fun i hi => ?_) ?_
 ·walk_at "zz"
  rfl
 ·have h : Zay n (G i) = .lst (tab n fun j => oT (G i j)) := rfl
  rw [h]
  walk_at "zz"
  rw [← h]
  exact ZI (ZrT hn) rfl
 rfl
noncomputable def Neg (n : Nat) (G : Nat → Nat → Option Int) : Prop := ∃ i, i < n ∧ ∃ b, G i i = some b ∧ b < 0
theorem Zvg (hn : n ≤ 1000) (hd : ∀ i, i < n → ∃ b, G i i = some b) : Zhp [Z8 n G] = some (.bool (dec (Neg n G))) := by
 apply Pk.eq
 unfold Zhp ZjZ Z8 Zay
 walk_at "zz"
 refine Zck (n := n) (a := fun i => .int i) (b := fun i => .bool (dec (∃ b, G i i = some b ∧ b < 0))) (by omega) ?_ (fun i hi => ?_) ?_
 ·walk_at "zz"
  rfl
 ·walk_at "zz"
  obtain ⟨b, e⟩ := hd i hi
  rw [e, Zap]
  walk_at "zz"
  rw [Zh2]
  congr 1
  refine ZmB ⟨fun h => ⟨b, rfl, h⟩, ?_⟩
  rintro ⟨c, e, h⟩
  cases e
  exact h
 walk_at "zz"
 rfl
noncomputable def clG (G : Nat → Nat → Option Int) : Nat → Nat → Nat → Option Int
 | 0 => G
 | m + 1 => Zb1 (clG G m) m
theorem Zqm (h : ∃ b, G i i = some b) : ∃ b, Zb1 G m i i = some b := by
 obtain ⟨b, e⟩ := h
 have := ZfM (a := G i i) (b := Zak (G i m) (G m i))
 rw [e] at this
 obtain ⟨c, e2, _⟩ := this b rfl
 exact ⟨c, by unfold Zb1; rw [e]; exact e2⟩
theorem ZnV {n : Nat} {G : Nat → Nat → Option Int} (hd : ∀ i, i < n → ∃ b, G i i = some b) : ∀ m i, i < n → ∃ b, clG G m i i = some b
 | 0 => hd
 | m + 1 => fun i hi => Zqm (ZnV hd m i hi)
theorem Zuq (h0 : 0 < n) (hn : n ≤ 1000) (hd : ∀ i, i < n → ∃ b, G i i = some b) : Pk (ZgH [Z8 n G]) fun t => (t = Z8 n (clG G n) ∧ ∀ m, m < n → ¬ Neg n (clG G (m + 1))) ∨ (t = .none ∧ ∃ m, m < n ∧ Neg n (clG G (m + 1))) := by
 unfold ZgH Zns
 have hg : Z8 n G = .lst (tab n fun i => Zay n (G i)) := rfl
 walk_at "zz"
 refine Zwa (n := n) (a := fun i => .int i) h0 ?_ (P := fun i σ => σ 1 = some (Z8 n (clG G i)) ∧ ∀ m, m < i → ¬ Neg n (clG G (m + 1))) ⟨rfl, by omega⟩ ?_ ?_
 ·walk_at "zz"
  rw [hg]
  walk_at "zz"
  rfl
 ·rintro i σ hi ⟨e1, e2⟩
  walk_at "zz"
  refine ZI (ZsY (by omega) hi) ?_
  walk_at "zz"
  refine ZI (Zvg hn fun a ha => Zqm (ZnV hd i a ha)) ?_
  walk_at "zz"
  refine ⟨fun e => ?_, fun e => ?_⟩
  ·walk_at "zz"
   exact .inr ⟨rfl, i, hi, dec_iff.mp e⟩
  ·walk_at "zz"
   refine ⟨by walk_at "zr", fun m hm => ?_⟩
   by_cases q : m = i
   ·subst q
    intro h
    have h2 : dec (Neg n (Zb1 (clG G m) m)) = true := Za0 h
    rw [h2] at e
    cases e
   ·exact e2 m (by omega)
 ·rintro σ ⟨e1, e2⟩
  walk_at "zz"
  exact .inl ⟨rfl, e2⟩
theorem Zg9 {G : Nat → Nat → Option Int} : ∀ m i j, leO (clG G m i j) (G i j)
 | 0 => fun _ _ => ZcI
 | m + 1 => fun i j => Zcu ZfM (Zg9 m i j)
theorem ZeM (hd : ∀ i, i < n → G i i = some 0) (hn : ∀ k, k < m → ¬ Neg n (clG G (k + 1))) : ∀ i, i < n → clG G m i i = some 0 := by
 intro i hi
 obtain ⟨b, e⟩ := ZnV (fun i hi => ⟨0, hd i hi⟩) m i hi
 have h := Zg9 m i i (G := G)
 rw [hd i hi, e] at h
 have h1 := leO_some.mp h
 have h2 : ¬ b < 0 := fun q => by
  cases m with
  | zero => have := hd i hi; rw [show clG G 0 i i = G i i from rfl, this] at e; cases e; omega
  | succ m => exact hn m (by omega) ⟨i, hi, b, e, q⟩
 rw [e, show b = 0 by omega]
theorem Zok {n : Nat} {G : Nat → Nat → Option Int} (hd : ∀ i, i < n → G i i = some 0) : ∀ m, m ≤ n → (∀ k, k < m → ¬ Neg n (clG G (k + 1))) → ∀ k, k < m → ∀ i j, i < n → j < n → leO (clG G m i j) (Zak (clG G m i k) (clG G m k j))
 | 0, _, _, k, hk => by omega
 | m + 1, hm, hn, k, hk => by
  intro i j hi hj
  have z := ZeM hd (fun k hk => hn k (by omega) : ∀ k, k < m → _)
  have ih := Zok hd m (by omega) (fun k hk => hn k (by omega))
  generalize hD : clG G m = D at z ih
  have hs : clG G (m + 1) = Zb1 D m := by rw [← hD]; rfl
  rw [hs]
  have zm := z m (by omega)
  have cm : ∀ a, Zb1 D m a m = D a m := fun a => by unfold Zb1; rw [zm, Zrw]; exact Zel ZcI
  have rm : ∀ b, Zb1 D m m b = D m b := fun b => by unfold Zb1; rw [zm, Zrx]; exact Zel ZcI
  by_cases q : k = m
  ·subst q
   rw [cm, rm]
   exact Zrv
  ·have hk' : k < m := by omega
   have t1 := ih k hk' i j hi hj
   have t2 := ih k hk' i m hi (by omega)
   have t3 := ih k hk' m j (by omega) hj
   have t4 := ih k hk' m m (by omega) (by omega)
   rw [zm] at t4
   have dn : leO (Zb1 D m i j) (Zak (D i m) (D m j)) := Zrv
   have d0 : leO (Zb1 D m i j) (D i j) := ZfM
   rcases ZeL (D i k) (Zak (D i m) (D m k)) with e1 | e1 <;> rcases ZeL (D k j) (Zak (D k m) (D m j)) with e2 | e2
   ·rw [show Zb1 D m i k = _ from e1, show Zb1 D m k j = _ from e2]
    exact Zcu d0 t1
   ·rw [show Zb1 D m i k = _ from e1, show Zb1 D m k j = _ from e2, ← Zgp]
    exact Zcu dn (Zfu t2 ZcI)
   ·rw [show Zb1 D m i k = _ from e1, show Zb1 D m k j = _ from e2, Zgp]
    exact Zcu dn (Zfu ZcI t3)
   ·rw [show Zb1 D m i k = _ from e1, show Zb1 D m k j = _ from e2, Zgp, ← Zgp (a := D m k)]
    refine Zcu dn (Zfu ZcI ?_)
    have := Zfu t4 (ZcI (a := D m j))
    rwa [Zrx] at this
noncomputable def Zha (n : Nat) (G : Nat → Nat → Option Int) (y : Nat → Int) : Prop := ∀ i j, i < n → j < n → ∀ b, G i j = some b → y i - y j ≤ b
theorem Zny {n : Nat} {G : Nat → Nat → Option Int} {y : Nat → Int} (h : Zha n G y) : ∀ m, m ≤ n → Zha n (clG G m) y
 | 0, _ => h
 | m + 1, hm => by
  have ih := Zny h m (by omega)
  intro i j hi hj b e
  rcases ZeL (clG G m i j) (Zak (clG G m i m) (clG G m m j)) with e1 | e1
  ·rw [show clG G (m + 1) i j = _ from e1] at e; exact ih i j hi hj b e
  ·rw [show clG G (m + 1) i j = _ from e1] at e
   obtain ⟨p, q, h1, h2, h3⟩ := addO_some.mp e
   have := ih i m hi (by omega) p h1
   have := ih m j (by omega) hj q h2
   omega
theorem Zur {y : Nat → Int} (h : Zha n G y) : ¬ Neg n G := by
 rintro ⟨i, hi, b, e, hb⟩
 have := h i i hi hi b e
 omega
theorem ZpD (h : Za1 n G R x) : Zha (n + 1) G (ZaR x) := fun i j hi hj b e => h.1 i j hi hj b e
theorem Zm1 {k : Int} : Zfd [.int k] = some (.bool true) := by
 apply Pk.eq
 unfold Zfd Zln
 walk_at "zz"
 rfl
theorem Zwg (hn : n ≤ 1000) (hd : ∀ i, i < n → G i i = some 0) : Zh8 [Z8 n G, .int n] = some (.bool true) := by
 apply Pk.eq
 unfold Zh8 Zl6 Z8 Zay
 walk_at "zz"
 refine ZbV (n := n) (a := fun i => .int i) (P := fun i σ => σ 0 = some (Z8 n G) ∧ σ 1 = some (.int n)) ?_ ⟨rfl, rfl⟩ ?_ ?_
 ·walk_at "zz"
  rfl
 ·rintro i σ hi ⟨e0, e1⟩
  unfold Z8 Zay at e0
  walk_at "zz"
  refine ZbV (n := n) (a := fun j => oT (G i j)) (P := fun j σ => σ 0 = some (Z8 n G) ∧ σ 1 = some (.int n) ∧ σ 2 = some (.int i)) ?_ ⟨by walk_at "zr", by walk_at "zr", by walk_at "zr"⟩ ?_ ?_
  ·walk_at "zz"
   rfl
  ·rintro j σ hj ⟨f0, f1, f2⟩
   cases G i j with
   | none =>
    rw [Zbg]
    walk_at "zz"
    exact ⟨by walk_at "zr", by walk_at "zr", by walk_at "zr"⟩
   | some b =>
    rw [Zap]
    walk_at "zz"
    refine ZI Zm1 ?_
    walk_at "zz"
    exact ⟨by walk_at "zr", by walk_at "zr", by walk_at "zr"⟩
  ·rintro σ ⟨f0, f1, f2⟩
   unfold Z8 Zay at f0
   walk_at "zz"
   rw [hd i hi, Zap]
   walk_at "zz"
   exact ⟨by walk_at "zr", by walk_at "zr"⟩
 ·rintro σ ⟨e0, e1⟩
  walk_at "zz"
  rfl
section
variable {Q : T → Prop}
theorem Zm2 {p : PE} (h : Pk (p σ) fun t => ∃ ts, t = .lst ts ∧ Q (.lst (ts.drop k))) : Pk (Zdv p k σ) Q := by
 obtain ⟨_, e, ts, rfl, q⟩ := h
 exact ⟨_, by simp only [Zdv, e, Option.bind_some], q⟩
end
noncomputable abbrev Sp := Option Int × Option Int
noncomputable def spT (s : Sp) : T := .tup [oT s.1, oT s.2]
noncomputable def SBd (k : Nat) (s : Sp) : Prop := (∀ x, s.1 = some x → Bd k x) ∧ ∀ x, s.2 = some x → Bd k x
theorem ZqX {x : Int} (h : Bd k x) : Bd k (Zbe x) := by unfold Zbe; unfold Bd at *; split <;> omega
noncomputable def InS (s : Sp) (x : Int) : Prop := (∀ l, s.1 = some l → l ≤ x) ∧ ∀ h, s.2 = some h → x ≤ h
theorem ZhK {k : Int} (hi : i ≤ 100000) (ha : ∀ x, a = some x → Bd i x) (hk : Bd i k) : ZeA [oT a, .int k] = some (oT (a.map fun x => x * k)) := by
 apply Pk.eq
 unfold ZeA Zlq
 cases a with
 | none =>
  simp only [Zbg, Option.map_none]
  walk_at "zz"
  rfl
 | some x =>
  simp only [Zap, Option.map_some]
  walk_at "zz"
  refine ZbU (Zb4 (ha x rfl) hk (by omega) (by omega)) ?_
  rfl
noncomputable def ZcS (s : Sp) (k : Int) : Sp := if k = 0 then (some 0, some 0) else if k < 0 then (s.2.map fun x => x * k, s.1.map fun x => x * k) else (s.1.map fun x => x * k, s.2.map fun x => x * k)
theorem ZrU {s : Sp} {k : Int} (hi : i ≤ 100000) (hs : SBd i s) (hk : Bd i k) : Zhk [spT s, .int k] = some (spT (ZcS s k)) := by
 apply Pk.eq
 unfold Zhk ZjH ZcS spT
 by_cases c : k = 0
 ·walk_at "zz"
  rw [if_pos c]
  rfl
 ·rw [if_neg c]
  walk_at "zz"
  refine ZI (ZhK hi hs.1 hk) ?_
  walk_at "zz"
  refine ZI (ZhK hi hs.2 hk) ?_
  by_cases d : k < 0
  ·walk_at "zz"
   rw [if_pos d]
  ·walk_at "zz"
   rw [if_neg d]
noncomputable def Zov (s u : Sp) : Sp := (Zak s.1 u.1, Zak s.2 u.2)
theorem Zr6 {s u : Sp} : Zhq [spT s, spT u] = some (spT (Zov s u)) := by
 apply Pk.eq
 unfold Zhq Zj2 spT
 walk_at "zz"
 refine ZI Zff ?_
 walk_at "zz"
 refine ZI Zff ?_
 walk_at "zz"
 rfl
noncomputable def ZcE (c : Nat → Int) (S : Nat → Sp) : Nat → Sp
 | 0 => (some (c 0), some (c 0))
 | j + 1 => Zov (ZcE c S j) (ZcS (S j) (c (j + 1)))
theorem Znz {f : Nat → T} : (tab (n + 1) f).drop 1 = tab n fun i => f (i + 1) := by
 apply List.ext_getElem
 ·simp [tab]
 ·intro i h1 h2
  simp [tab]
theorem Zsi {S : Nat → Sp} (hn : n ≤ 100) (hi : i ≤ 100000) (bc : ∀ j, j < n + 1 → Bd i (c j)) (bS : ∀ j, j < n → SBd i (S j)) : Zhv [.lst (tab (n + 1) fun j => .int (c j)), .lst (tab n fun j => spT (S j))] = some (spT (ZcE c S n)) := by
 apply Pk.eq
 unfold Zhv Zkj
 walk_at "zz"
 refine ZiM (n := n) (a := fun j => .int (c (j + 1))) (c := fun j => spT (S j)) (P := fun j σ => σ 2 = some (spT (ZcE c S j))) ?_ rfl ?_ ?_
 ·refine Zod ?_
  refine Zm2 ?_
  walk_at "zz"
  refine ⟨_, rfl, ?_⟩
  rw [Znz]
  walk_at "zz"
  rfl
 ·rintro j σ hj e2
  walk_at "zz"
  refine ZI (ZrU hi (bS j hj) (bc (j + 1) (by omega))) ?_
  walk_at "zz"
  refine ZI Zr6 ?_
  walk_at "zz"
  exact ZbB
 ·rintro σ e2
  walk_at "zz"
  rfl
noncomputable def Za4 (c : Nat → Int) (R : Nat → Int × Int) : Nat → Int × Int
 | 0 => (0, c 0)
 | j + 1 => ZbH (Za4 c R j) (ZcK (R j) (c (j + 1)))
noncomputable def ZbR (c : Nat → Int) (R : Nat → Int × Int) : Nat → Int
 | 0 => 0
 | j + 1 => Int.gcd (ZbR c R j) (c (j + 1) * (R j).1)
noncomputable def Zcd (c : Nat → Int) (R : Nat → Int × Int) : Nat → Int
 | 0 => c 0
 | j + 1 => Zcd c R j + c (j + 1) * (R j).2
theorem Zd0 (c : Nat → Int) (R : Nat → Int × Int) : ∀ j, 0 ≤ ZbR c R j
 | 0 => by show (0 : Int) ≤ 0; decide
 | j + 1 => by show (0 : Int) ≤ ((Int.gcd _ _ : Nat) : Int); omega
theorem ZiU {c : Nat → Int} {R : Nat → Int × Int} {n i : Nat} (bc : ∀ j, j < n + 1 → Bd i (c j)) (bR : ∀ j, j < n → RBd i (R j)) : ∀ j, j ≤ n → Bd (i + i) (ZbR c R j)
 | 0, _ => ZcL
 | j + 1, h => Zjc (ZiU bc bR j (by omega)) ((bc (j + 1) (by omega)).mul (bR j (by omega)).1)
theorem ZqY {c : Nat → Int} {R : Nat → Int × Int} {n i : Nat} (bc : ∀ j, j < n + 1 → Bd i (c j)) (bR : ∀ j, j < n → RBd i (R j)) : ∀ j, j ≤ n → Bd (i + i + j) (Zcd c R j)
 | 0, _ => (bc 0 (by omega)).mono (by omega)
 | j + 1, h => (ZqY bc bR j (by omega)).add (((bc (j + 1) (by omega)).mul (bR j (by omega)).2).mono (by omega))
theorem Zo6 {m a b : Int} (h : 0 ≤ m) (hd : m ∣ a - b) : ZaI m a = ZaI m b := by
 refine ZhZ (Zct h _) (Zct h _) fun x => ?_
 rw [Zdi h, Zdi h]
 constructor
 ·intro q
  have := Int.dvd_add q hd
  rwa [show x - a + (a - b) = x - b by omega] at this
 ·intro q
  have := Int.dvd_sub q hd
  rwa [show x - b - (a - b) = x - a by omega] at this
theorem Zig {m : Int} (h : 0 ≤ m) : m ∣ (ZaI m r).2 - r := by
 have := (Zdi (r := r) h (ZaI m r).2).mp (Zct h r).self
 exact this
theorem ZdV {m : Int} : (ZaI m r).1 = m := by
 unfold ZaI
 split
 ·rename_i h; exact h.symm
 ·rfl
theorem Zdp {c : Nat → Int} {R : Nat → Int × Int} {n : Nat} (ok : ∀ j, j < n → RestOk (R j)) : ∀ j, j ≤ n → Za4 c R j = ZaI (ZbR c R j) (Zcd c R j)
 | 0, _ => rfl
 | j + 1, h => by
  have ih := Zdp (c := c) ok j (by omega)
  have h0 := Zd0 c R j
  have hr := (ok j (by omega)).nn
  show ZbH (Za4 c R j) (ZcK (R j) (c (j + 1))) = _
  rw [ih]
  unfold ZbH ZcK
  rw [ZdV, ZdV]
  have hab : 0 ≤ (R j).1 * Zbe (c (j + 1)) := Int.mul_nonneg hr (ZdE _)
  have eg : ((Int.gcd (ZbR c R j) ((R j).1 * Zbe (c (j + 1))) : Nat) : Int) = ZbR c R (j + 1) := by
   show _ = ((Int.gcd (ZbR c R j) (c (j + 1) * (R j).1) : Nat) : Int)
   congr 1
   unfold Int.gcd
   rw [Int.natAbs_mul, Int.natAbs_mul, Znx, Nat.mul_comm]
  rw [eg]
  have h1 : ZbR c R (j + 1) ∣ ZbR c R j := Int.gcd_dvd_left ..
  have h2 : ZbR c R (j + 1) ∣ (R j).1 * Zbe (c (j + 1)) := by rw [← eg]; exact Int.gcd_dvd_right ..
  refine Zo6 (Zd0 _ _ _) ?_
  have a1 := Int.dvd_trans h1 (Zig (r := Zcd c R j) h0)
  have a2 := Int.dvd_trans h2 (Zig (r := (R j).2 * c (j + 1)) hab)
  have := Int.dvd_add a1 a2
  rw [show Zcd c R (j + 1) = Zcd c R j + c (j + 1) * (R j).2 from rfl, Int.mul_comm (c (j + 1))]
  generalize (ZaI (ZbR c R j) (Zcd c R j)).2 = u at *
  generalize (ZaI ((R j).1 * Zbe (c (j + 1))) ((R j).2 * c (j + 1))).2 = v at *
  generalize (R j).2 * c (j + 1) = z at *
  rwa [show u - Zcd c R j + (v - z) = u + v - (Zcd c R j + z) by omega] at this
theorem ZpE {b : Option Int} : Zfr [oT a, oT b] = some (.bool (dec (∃ x y, a = some x ∧ b = some y ∧ y < x))) := by
 apply Pk.eq
 unfold Zfr ZmQ
 cases a with
 | none =>
  rw [Zbg]
  walk_at "zz"
  rw [Zbx (by rintro ⟨x, y, h, _⟩; cases h)]
 | some x =>
  cases b with
  | none =>
   rw [Zbg, Zap]
   walk_at "zz"
   rw [Zbx (by rintro ⟨x, y, _, h, _⟩; cases h)]
  | some y =>
   rw [Zap, Zap]
   walk_at "zz"
   congr 1
   by_cases h : y < x
   ·rw [Za0 ⟨x, y, rfl, rfl, h⟩]; simp [h]
   ·rw [Zbx (by rintro ⟨x', y', h1, h2, h3⟩; cases h1; cases h2; exact h h3)]; simp [h]
theorem Zus {s : Sp} {x k : Int} (h : InS s x) : InS (ZcS s k) (k * x) := by
 unfold ZcS
 obtain ⟨a, b⟩ := s
 by_cases c : k = 0
 ·rw [if_pos c, c, Int.zero_mul]
  exact ⟨fun l e => by cases e; omega, fun l e => by cases e; omega⟩
 ·rw [if_neg c]
  by_cases d : k < 0
  ·rw [if_pos d]
   refine ⟨fun l e => ?_, fun l e => ?_⟩
   ·cases b with
    | none => cases e
    | some y =>
     cases e
     have := h.2 y rfl
     show y * k ≤ k * x
     rw [Int.mul_comm]
     exact Int.mul_le_mul_of_nonpos_left (a := k) (by omega) this
   ·cases a with
    | none => cases e
    | some y =>
     cases e
     have := h.1 y rfl
     show k * x ≤ y * k
     rw [Int.mul_comm y]
     exact Int.mul_le_mul_of_nonpos_left (a := k) (by omega) this
  ·rw [if_neg d]
   refine ⟨fun l e => ?_, fun l e => ?_⟩
   ·cases a with
    | none => cases e
    | some y =>
     cases e
     have := h.1 y rfl
     show y * k ≤ k * x
     rw [Int.mul_comm]
     exact Int.mul_le_mul_of_nonneg_left this (show 0 ≤ k by omega)
   ·cases b with
    | none => cases e
    | some y =>
     cases e
     have := h.2 y rfl
     show k * x ≤ y * k
     rw [Int.mul_comm y]
     exact Int.mul_le_mul_of_nonneg_left this (show 0 ≤ k by omega)
theorem Zvh {s u : Sp} {x : Int} (h : InS s x) (k : InS u y) : InS (Zov s u) (x + y) := by
 refine ⟨fun l e => ?_, fun l e => ?_⟩
 ·obtain ⟨a, b, h1, h2, rfl⟩ := addO_some.mp e
  have := h.1 a h1
  have := k.1 b h2
  omega
 ·obtain ⟨a, b, h1, h2, rfl⟩ := addO_some.mp e
  have := h.2 a h1
  have := k.2 b h2
  omega
noncomputable def Z0 (R : Nat → Int × Int) : Nat → Int × Int := cn (0, 0) R
theorem Zow (R : Nat → Int × Int) : cn (T.tup [.int 0, .int 0]) (fun i => Z5 (R i)) = fun i => Z5 (Z0 R i) := by
 funext i; cases i <;> rfl
theorem ZoS (hn : n < 9000) : Ze9 [Za5 n R] = some (Za5 (n + 1) (Z0 R)) := by
 apply Pk.eq
 unfold Ze9 Zkl Za5
 walk_at "zz"
 rw [Zow]
noncomputable def RB (M : Int) (k : Nat) (q : Int × Int) : Prop := RestOk q ∧ (q.1 = 0 ∨ q.1 ∣ M) ∧ Bd k q.2
theorem RB.mono (h : RB M i q) (hij : i ≤ j) : RB M j q := ⟨h.1, h.2.1, h.2.2.mono hij⟩
theorem RB.bd (hM : 0 < M) (bM : Bd k M) (h : RB M k q) : RBd k q := by
 refine ⟨?_, h.2.2⟩
 rcases h.2.1 with e | e
 ·rw [e]; exact ZcL
 ·exact Zdb bM h.1.nn (Int.le_of_dvd hM e)
theorem Zdm (h : ∀ t, t < n → RB M k (R t)) : ∀ i, i < n + 1 → RB M k (Z0 R i)
 | 0, _ => ⟨.inl rfl, .inl rfl, ZcL⟩
 | i + 1, hi => h i (by omega)
noncomputable def ZcV (n : Nat) (G : Nat → Nat → Option Int) (R : Nat → Int × Int) (i : Nat) (m : Nat) (x : Int) : Prop := Zav (Z0 R i) x ∧ ∀ j, j < m → ∀ a b, G i j = some a → G j i = some b → a + b = 0 → Zav (Z0 R j) (x - a)
noncomputable def Zc8 (n : Nat) (G : Nat → Nat → Option Int) (R : Nat → Int × Int) (M : Int) (k : Nat) (i m : Nat) (o : Option (Int × Int)) : Prop := match o with
 | none => ∀ x, ¬ ZcV n G R i m x
 | some q => RB M k q ∧ ∀ x, Zav q x ↔ ZcV n G R i m x
theorem Zpk (h : RestOk q) (a x : Int) : Zav (ZbH q (0, a)) x ↔ Zav q (x - a) := by
 unfold ZbH
 rw [Zdi (by omega), Zbk h.nn]
 simp only [Int.gcd_zero_right]
 rw [Int.natAbs_of_nonneg h.nn, show x - (q.2 + a) = x - a - q.2 by omega]
theorem Zr7 (hn : n ≤ 100) (hi : i < n + 1) (hk : k ≤ 7000) (hM : 0 < M) (bM : Bd k M) (bG : ∀ a b c, a < n + 1 → b < n + 1 → G a b = some c → Bd k c) (hR : ∀ t, t < n → RB M k (R t)) : Pk (Zev [Z8 (n + 1) G, Za5 (n + 1) (Z0 R), .int i]) fun t => ∃ o, t = oR o ∧ Zc8 n G R M (k + 1) i (n + 1) o := by
 unfold Zev Zj4
 have hF := Zdm hR
 have bM1 : Bd (k + 1) M := bM.mono (by omega)
 have hr : Za5 (n + 1) (Z0 R) = .lst (tab (n + 1) fun i => Z5 (Z0 R i)) := rfl
 rw [hr]
 walk_at "zz"
 refine ZiM (n := n + 1) (a := fun j => .int j) (c := fun j => Z5 (Z0 R j)) (P := fun m σ => ∃ o, σ 0 = some (Z8 (n + 1) G) ∧ σ 1 = some (.lst (tab (n + 1) fun i => Z5 (Z0 R i))) ∧ σ 2 = some (.int i) ∧ σ 3 = some (oR o) ∧ Zc8 n G R M (k + 1) i m o) ?_ ⟨some (Z0 R i), by walk_at "zr", by walk_at "zr", by walk_at "zr", by walk_at "zr", (hF i hi).mono (by omega), fun x => ⟨fun h => ⟨h, by omega⟩, fun h => h.1⟩⟩ ?_ ?_
 ·walk_at "zz"
  rfl
 ·rintro j σ hj ⟨o, e0, e1, e2, e3, ho⟩
  unfold Z8 Zay at e0
  cases o with
  | none =>
   have e3' : σ 3 = some .none := e3
   clear e3
   walk_at "zz"
   refine ⟨none, by walk_at "zr", by walk_at "zr", by walk_at "zr", by walk_at "zr", fun x h => ho x ⟨h.1, fun j' hj' => h.2 j' (by omega)⟩⟩
  | some q =>
   have e3' : σ 3 = some (.tup [.int q.1, .int q.2]) := e3
   clear e3
   walk_at "zz"
   refine ZI Zff ?_
   walk_at "zz"
   refine ZfJ (Zg8 (n := 0)) (.int (n := 0)) ?_
   walk_at "zz"
   have stay : (∀ a b, G i j = some a → G j i = some b → ¬ a + b = 0) → Zc8 n G R M (k + 1) i (j + 1) (some q) := fun h => ⟨ho.1, fun x => (ho.2 x).trans ⟨fun hx => ⟨hx.1, fun j' hj' a b ha hb hab => by
     by_cases q' : j' = j
     ·subst q'; exact absurd hab (h a b ha hb)
     ·exact hx.2 j' (by omega) a b ha hb hab⟩, fun hx => ⟨hx.1, fun j' hj' => hx.2 j' (by omega)⟩⟩⟩
   refine ⟨fun e => ?_, fun e => ?_⟩
   ·have e' := dec_iff.mp e
    rw [← Zap, oT_inj] at e'
    obtain ⟨a, b, ha, hb, hab⟩ := addO_some.mp e'
    walk_at "zz"
    rw [ha, Zap]
    have hj2 := hF j hj
    have ba := bG i j a hi hj ha
    refine ZI (Zk4 (p := Z0 R j) (q := (0, a)) (k := k) (by omega) (hj2.bd hM bM).1 ZcL) ?_
    have hpl : RB M (k + 1) (ZbH (Z0 R j) (0, a)) := by
     refine ⟨Ziy _ _, ?_, ?_⟩
     ·unfold ZbH ZaI
      simp only [Int.gcd_zero_right]
      rw [Int.natAbs_of_nonneg hj2.1.nn]
      split
      ·exact .inl rfl
      ·exact hj2.2.1
     ·have hm := (hj2.bd hM bM).1
      refine (ZgB (k := k + 1) (by omega) ?_ (Bd.add hj2.2.2 ba)).2
      simp only [Int.gcd_zero_right]
      rw [Int.natAbs_of_nonneg hj2.1.nn]
      exact hm.mono (by omega)
    walk_at "zz"
    refine (ZlG (p := q) (q := ZbH (Z0 R j) (0, a)) (k := k + 1) (by omega) ho.1.1 hpl.1 (ho.1.bd hM bM1) (hpl.bd hM bM1)).mono ?_
    rintro _ ⟨o', rfl, mt, wh⟩
    refine ⟨o', by walk_at "zr", by walk_at "zr", by walk_at "zr", by walk_at "zr", ?_⟩
    have hset : ∀ x, (Zav q x ∧ Zav (ZbH (Z0 R j) (0, a)) x) ↔ ZcV n G R i (j + 1) x := fun x => by
     rw [ho.2 x, Zpk hj2.1]
     constructor
     ·rintro ⟨h1, h2⟩
      refine ⟨h1.1, fun j' hj' c d hc hd hcd => ?_⟩
      by_cases q' : j' = j
      ·subst q'; rw [ha] at hc; cases hc; exact h2
      ·exact h1.2 j' (by omega) c d hc hd hcd
     ·intro h
      exact ⟨⟨h.1, fun j' hj' => h.2 j' (by omega)⟩, h.2 j (by omega) a b ha hb hab⟩
    cases o' with
    | none => exact fun x hx => mt x ((hset x).mpr hx)
    | some r =>
     refine ⟨⟨mt.1, ?_, ?_⟩, fun x => (mt.2 x).trans (hset x)⟩
     ·rcases wh r rfl with h | h | ⟨h1, h2, h3⟩
      ·rw [h]; exact ho.1.2.1
      ·rw [h]; exact hpl.2.1
      ·right
       rw [h3]
       exact Int.coe_lcm_dvd (ho.1.2.1.resolve_left h1) (hpl.2.1.resolve_left h2)
     ·rcases wh r rfl with h | h | ⟨h1, h2, h3⟩
      ·rw [h]; exact ho.1.2.2
      ·rw [h]; exact hpl.2.2
      ·rcases mt.1 with z | z
       ·have : (Int.lcm q.1 (ZbH (Z0 R j) (0, a)).1) ≠ 0 := Int.lcm_ne_zero h1 h2
        omega
       ·have hd : r.1 ∣ M := by
         rw [h3]
         exact Int.coe_lcm_dvd (ho.1.2.1.resolve_left h1) (hpl.2.1.resolve_left h2)
        exact Zdb bM1 z.2.1 (by have := Int.le_of_dvd hM hd; omega)
   ·walk_at "zz"
    refine ⟨some q, by walk_at "zr", by walk_at "zr", by walk_at "zr", by walk_at "zr", stay fun a b ha hb hab => ?_⟩
    have : dec (oT (Zak (G i j) (G j i)) = .int 0) = true := Za0 (by rw [ha, hb]; simp [Zak, oT, hab])
    rw [this] at e
    cases e
 ·rintro σ ⟨o, e0, e1, e2, e3, ho⟩
  walk_at "zz"
  exact ⟨o, rfl, ho⟩
theorem Zry : ZcD 1 1 1 = some [] := by
 unfold ZcD
 rw [if_pos (by decide +kernel)]
 rfl
theorem Zjp : Pln 1 (oR o) := by
 cases o with
 | none => exact .none
 | some q => exact Zrq
theorem oR_none : oR o = .none ↔ o = none := by cases o <;> simp [oR, Z5]
noncomputable def Hand (n : Nat) (G : Nat → Nat → Option Int) (R R' : Nat → Int × Int) (M : Int) (k : Nat) : Prop := ∀ t, t < n → RB M k (R' t) ∧ ∀ x, Zav (R' t) x ↔ ZcV n G R (t + 1) (n + 1) x
theorem Zsj (hn : n ≤ 100) (hk : k ≤ 7000) (hM : 0 < M) (bM : Bd k M) (bG : ∀ a b c, a < n + 1 → b < n + 1 → G a b = some c → Bd k c) (hR : ∀ t, t < n → RB M k (R t)) : Pk (ZdO [ZR n G R]) fun t => (∃ R', t = ZR n G R' ∧ Hand n G R R' M (k + 1)) ∨ (t = .none ∧ ∃ i, i < n ∧ ∀ x, ¬ ZcV n G R (i + 1) (n + 1) x) := by
 unfold ZdO Zf3
 have ht : ZR n G R = .tup [Z8 (n + 1) G, Za5 n R] := rfl
 rw [ht]
 walk_at "zz"
 refine ZI (ZoS (by omega)) ?_
 have hr : Za5 (n + 1) (Z0 R) = .lst (tab (n + 1) fun i => Z5 (Z0 R i)) := rfl
 walk_at "zz"
 refine Zuo oR (fun t o => Zc8 n G R M (k + 1) (t + 1) (n + 1) o) (n := n) (a := fun i => .int (i + 1)) (by omega) ?_ (fun t ht => ?_) none (fun y hy => ?_)
 ·by_cases h0 : n = 0
  ·subst h0
   exact ⟨[], ZgM (a := 1) (b := 1) rfl Zry, rfl⟩
  ·rw [hr]
   walk_at "zz"
   refine Rn.two 1 n (by decide) (by omega) (by omega) (by omega) ?_
   refine Zbj fun i _ => ?_
   congr 1
   omega
 ·walk_at "zz"
  refine (Zr7 (i := t + 1) hn (by omega) hk hM bM bG hR).mono ?_
  rintro _ ⟨o, rfl, ho⟩
  exact ⟨o, rfl, ho⟩
 ·walk_at "zz"
  refine ZfQ (.none (n := 0)) (Zem (n := 1) fun i _ => Zjp) ?_
  by_cases hc : ∃ i, i < n ∧ y i = none
  ·obtain ⟨i, hi, ei⟩ := hc
   rw [Za0 (show T.none ∈ tab n fun i => oR (y i) from List.mem_of_getElem? (i := i) (by rw [ZbN hi, ei]; rfl))]
   walk_at "zz"
   refine .inr ⟨rfl, i, hi, ?_⟩
   have := hy i hi
   rw [ei] at this
   exact this
  ·rw [Zbx (show ¬ T.none ∈ tab n fun i => oR (y i) from fun h => by
    obtain ⟨i, hi, e⟩ := ZcP h
    exact hc ⟨i, hi, oR_none.mp e.symm⟩)]
   walk_at "zz"
   have hs : ∀ i, i < n → y i = some ((y i).getD (1, 0)) := fun i hi => by
    cases e : y i with
    | none => exact absurd ⟨i, hi, e⟩ hc
    | some q => rfl
   refine .inl ⟨fun i => (y i).getD (1, 0), ?_, fun t ht => ?_⟩
   ·unfold ZR Za5
    congr 4
    refine Zbj fun i hi => ?_
    conv => lhs; rw [hs i hi]
    rfl
   ·have := hy t ht
    rw [hs t ht] at this
    exact this
theorem ZoI : ZdO [.none] = some .none := by
 apply Pk.eq
 unfold ZdO Zf3
 walk_at "zz"
 rfl
noncomputable def ZbK (R : Nat → Int × Int) (i j : Nat) : Int × Int := ZbH (Z0 R i) (ZcK (Z0 R j) (-1))
noncomputable def Zb2 (b : Option Int) (q : Int × Int) : Option Int := match b with
 | some b => ZdI q b
 | none => if q.1 = 0 then some q.2 else none
noncomputable def ZaT (G : Nat → Nat → Option Int) (R : Nat → Int × Int) : Nat → Nat → Option Int := fun i j => Zb2 (G i j) (ZbK R i j)
noncomputable def ZdF (n : Nat) (G : Nat → Nat → Option Int) (R : Nat → Int × Int) : Prop := ∃ i j, i < n + 1 ∧ j < n + 1 ∧ ∃ b, G i j = some b ∧ ZaT G R i j = none
theorem ZrV {b : Option Int} (hq : 0 ≤ q.1) : Zhl [oT b, Z5 q] = some (oT (Zb2 b q)) := by
 apply Pk.eq
 unfold Zhl ZjK Zb2
 cases b with
 | none =>
  have ep : Z5 q = .tup [.int q.1, .int q.2] := rfl
  rw [Zbg, ep]
  by_cases c : q.1 = 0
  ·walk_at "zz"
   simp [c, oT]
  ·walk_at "zz"
   simp [c, oT]
 | some b =>
  rw [Zap]
  walk_at "zz"
  exact ZI (ZsD hq) rfl
theorem Zsk {b : Nat → Option Int} (hn : n ≤ 100) (hi : i < n + 1) (hk : k ≤ 7000) (hM : 0 < M) (bM : Bd k M) (hR : ∀ t, t < n → RB M k (R t)) : Pk (Zhw [Zay (n + 1) b, Z5 (Z0 R i), Za5 (n + 1) (Z0 R)]) fun t => (t = Zay (n + 1) (fun j => Zb2 (b j) (ZbK R i j)) ∧ ∀ j, j < n + 1 → ∀ c, b j = some c → Zb2 (b j) (ZbK R i j) ≠ none) ∨ (t = .none ∧ ∃ j, j < n + 1 ∧ ∃ c, b j = some c ∧ Zb2 (b j) (ZbK R i j) = none) := by
 unfold Zhw Zkp
 have hF := Zdm hR
 have hb : Zay (n + 1) b = .lst (tab (n + 1) fun j => oT (b j)) := rfl
 have hr : Za5 (n + 1) (Z0 R) = .lst (tab (n + 1) fun i => Z5 (Z0 R i)) := rfl
 rw [hb, hr]
 walk_at "zz"
 refine ZiM (n := n + 1) (a := fun j => oT (b j)) (c := fun j => Z5 (Z0 R j)) (P := fun m σ => σ 1 = some (Z5 (Z0 R i)) ∧ σ 3 = some (.lst (tab m fun j => oT (Zb2 (b j) (ZbK R i j)))) ∧ ∀ j, j < m → ∀ c, b j = some c → Zb2 (b j) (ZbK R i j) ≠ none) ?_ ⟨by walk_at "zr", by walk_at "zr", by omega⟩ ?_ ?_
 ·walk_at "zz"
  rfl
 ·rintro j σ hj ⟨e1, e3, st⟩
  have h1 := hF i hi
  have h2 := hF j hj
  have b1 := h1.bd hM bM
  have b2 := h2.bd hM bM
  have bt : Bd (k + 1) (ZcK (Z0 R j) (-1)).1 := by
   refine (ZgB (k := k + 1) (Int.mul_nonneg h2.1.nn (ZdE _)) ?_ ?_).1
   ·have := Bd.mul b2.1 (show Bd 1 (Zbe (-1)) by unfold Bd; decide); exact this
   ·have := Bd.mul b2.2 (show Bd 1 (-1) by unfold Bd; decide); exact this
  walk_at "zz"
  refine ZI (ZkC (p := Z0 R j) (c := -1) (k := k + 1) (by omega) h2.1.nn ⟨b2.1.mono (by omega), b2.2.mono (by omega)⟩ (show Bd (k + 1) (-1) from (show Bd 1 (-1) by unfold Bd; decide).mono (by omega))) ?_
  walk_at "zz"
  refine ZI (Zk4 (k := k + 1) (by omega) (b1.1.mono (by omega)) bt) ?_
  walk_at "zz"
  refine ZI (ZrV (Ziy _ _).nn) ?_
  have hd : ZbH (Z0 R i) (ZcK (Z0 R j) (-1)) = ZbK R i j := rfl
  rw [hd]
  walk_at "zz"
  have app : ∀ w, w = oT (Zb2 (b j) (ZbK R i j)) → tab j (fun j => oT (Zb2 (b j) (ZbK R i j))) ++ [w] = tab (j + 1) fun j => oT (Zb2 (b j) (ZbK R i j)) := fun w e => by rw [e]; exact ZdX
  cases hl : Zb2 (b j) (ZbK R i j) with
  | none =>
   rw [Zbg]
   walk_at "zz"
   cases hbj : b j with
   | none =>
    rw [Zbg]
    walk_at "zz"
    rw [app _ (by rw [hl]; rfl)]
    refine ⟨by walk_at "zr", by walk_at "zr", fun j' hj' c hc => ?_⟩
    by_cases q : j' = j
    ·subst q; rw [hbj] at hc; cases hc
    ·exact st j' (by omega) c hc
   | some c =>
    rw [Zap]
    walk_at "zz"
    exact .inr ⟨rfl, j, hj, c, hbj, hl⟩
  | some v =>
   rw [Zap]
   walk_at "zz"
   rw [app _ (by rw [hl]; rfl)]
   refine ⟨by walk_at "zr", by walk_at "zr", fun j' hj' c hc => ?_⟩
   by_cases q : j' = j
   ·subst q; rw [hl]; simp
   ·exact st j' (by omega) c hc
 ·rintro σ ⟨e1, e3, st⟩
  walk_at "zz"
  exact .inl ⟨rfl, st⟩
noncomputable def ZfX (n : Nat) : Option (Nat → Option Int) → T
 | none => .none
 | some b => Zay n b
theorem Zwh {o : Option (Nat → Option Int)} : Pln 1 (ZfX n o) := by
 cases o with
 | none => exact .none
 | some q => exact ZqN
theorem ZtJ {g : PG} {a b : Nat → T} (e : β → T) (P : Nat → β → Prop) (hn : n < 10000) (hg : Pl (g σ) fun ts => ts = tab n fun i => .tup [a i, b i]) (hf : ∀ i, i < n → Pk (f (Zab (Zab σ j (a i)) k (b i))) fun t => ∃ y, t = e y ∧ P i y) (d : β) (h : ∀ y : Nat → β, (∀ i, i < n → P i (y i)) → Q (.lst (tab n fun i => e (y i)))) : Pk (Zaq g (ZcY j k) Zaf f σ) Q := by
 have hc : ∃ y : Nat → β, ∀ i, i < n → Pk (f (Zab (Zab σ j (a i)) k (b i))) (fun t => t = e (y i)) ∧ P i (y i) := by
  have hx : ∀ i, ∃ y : β, i < n → Pk (f (Zab (Zab σ j (a i)) k (b i))) (fun t => t = e y) ∧ P i y := fun i => by
   by_cases q : i < n
   ·obtain ⟨t, e1, y, e2, p⟩ := hf i q
    exact ⟨y, fun _ => ⟨⟨t, e1, e2⟩, p⟩⟩
   ·exact ⟨d, fun h => absurd h q⟩
  exact ⟨fun i => Classical.choose (hx i), fun i => Classical.choose_spec (hx i)⟩
 obtain ⟨y, hy⟩ := hc
 exact Znm hn hg (fun i hi => (hy i hi).1) (h y fun i hi => (hy i hi).2)
theorem oRow_none {o : Option (Nat → Option Int)} : ZfX n o = .none ↔ o = none := by cases o <;> simp [ZfX, Zay]
theorem ZtK (hn : n ≤ 100) (hk : k ≤ 7000) (hM : 0 < M) (bM : Bd k M) (hR : ∀ t, t < n → RB M k (R t)) : Pk (Zfs [ZR n G R]) fun t => (t = ZR n (ZaT G R) R ∧ ¬ ZdF n G R) ∨ (t = .none ∧ ZdF n G R) := by
 unfold Zfs Zim
 have ht : ZR n G R = .tup [.lst (tab (n + 1) fun i => Zay (n + 1) (G i)), Za5 n R] := rfl
 rw [ht]
 walk_at "zz"
 refine ZI (ZoS (by omega)) ?_
 have hr : Za5 (n + 1) (Z0 R) = .lst (tab (n + 1) fun i => Z5 (Z0 R i)) := rfl
 walk_at "zz"
 refine ZtJ (ZfX (n + 1)) (fun i o => match o with
  | none => ∃ j, j < n + 1 ∧ ∃ c, G i j = some c ∧ ZaT G R i j = none
  | some b => b = ZaT G R i ∧ ∀ j, j < n + 1 → ∀ c, G i j = some c → ZaT G R i j ≠ none) (n := n + 1) (a := fun i => Zay (n + 1) (G i)) (b := fun i => Z5 (Z0 R i)) (by omega) ?_ (fun i hi => ?_) none (fun y hy => ?_)
 ·rw [hr]
  walk_at "zz"
  rfl
 ·walk_at "zz"
  refine (Zsk hn hi hk hM bM hR).mono ?_
  rintro t (⟨rfl, h⟩ | ⟨rfl, h⟩)
  ·exact ⟨some (ZaT G R i), rfl, rfl, h⟩
  ·exact ⟨none, rfl, h⟩
 ·walk_at "zz"
  refine ZfQ (.none (n := 0)) (Zem (n := 1) fun i _ => Zwh) ?_
  by_cases hc : ∃ i, i < n + 1 ∧ y i = none
  ·obtain ⟨i, hi, ei⟩ := hc
   rw [Za0 (show T.none ∈ tab (n + 1) fun i => ZfX (n + 1) (y i) from List.mem_of_getElem? (i := i) (by rw [ZbN hi, ei]; rfl))]
   walk_at "zz"
   have := hy i hi
   rw [ei] at this
   obtain ⟨j, hj, c, h1, h2⟩ := this
   exact .inr ⟨rfl, i, j, hi, hj, c, h1, h2⟩
  ·rw [Zbx (show ¬ T.none ∈ tab (n + 1) fun i => ZfX (n + 1) (y i) from fun h => by
    obtain ⟨i, hi, e⟩ := ZcP h
    exact hc ⟨i, hi, oRow_none.mp e.symm⟩)]
   walk_at "zz"
   have hs : ∀ i, i < n + 1 → y i = some (ZaT G R i) ∧ ∀ j, j < n + 1 → ∀ c, G i j = some c → ZaT G R i j ≠ none := fun i hi => by
    have := hy i hi
    cases e : y i with
    | none => exact absurd ⟨i, hi, e⟩ hc
    | some b => rw [e] at this; exact ⟨by rw [this.1], this.2⟩
   refine .inl ⟨?_, ?_⟩
   ·unfold ZR Z8
    congr 3
    refine Zbj fun i hi => ?_
    rw [(hs i hi).1]
    rfl
   ·rintro ⟨i, j, hi, hj, c, h1, h2⟩
    exact (hs i hi).2 j hj c h1 h2
theorem ZsZ : Zfs [.none] = some .none := by
 apply Pk.eq
 unfold Zfs Zim
 walk_at "zz"
 rfl
theorem Zut : Zeo [.none] = some .none := by
 apply Pk.eq
 unfold Zeo Zi8
 walk_at "zz"
 rfl
noncomputable def Zch (n : Nat) (G : Nat → Nat → Option Int) : Prop := ∃ m, m < n ∧ Neg n (clG G (m + 1))
theorem Zwi (hn : n ≤ 100) (hd : ∀ i, i < n + 1 → G i i = some 0) : Pk (Zeo [ZR n G R]) fun t => (t = ZR n (clG G (n + 1)) R ∧ ¬ Zch (n + 1) G) ∨ (t = .none ∧ Zch (n + 1) G) := by
 unfold Zeo Zi8
 have ht : ZR n G R = .tup [Z8 (n + 1) G, Za5 n R] := rfl
 rw [ht]
 walk_at "zz"
 refine (Zuq (n := n + 1) (by omega) (by omega) fun i hi => ⟨0, hd i hi⟩).mono ?_
 rintro t (⟨rfl, h⟩ | ⟨rfl, h⟩)
 ·have hg : Z8 (n + 1) (clG G (n + 1)) = .lst (tab (n + 1) fun i => Zay (n + 1) (clG G (n + 1) i)) := rfl
  rw [hg]
  walk_at "zz"
  exact .inl ⟨rfl, fun ⟨m, hm, q⟩ => h m hm q⟩
 ·walk_at "zz"
  exact .inr ⟨rfl, h⟩
noncomputable def BdG (n k : Nat) (G : Nat → Nat → Option Int) : Prop := ∀ a b c, a < n → b < n → G a b = some c → Bd k c
theorem Zer {n k : Nat} {G : Nat → Nat → Option Int} (h : BdG n k G) : ∀ m, m ≤ n → BdG n (k + m) (clG G m)
 | 0, _ => h
 | m + 1, hm => fun a b c ha hb e => by
  have ih := Zer h m (by omega)
  rcases ZeL (clG G m a b) (Zak (clG G m a m) (clG G m m b)) with e1 | e1
  ·rw [show clG G (m + 1) a b = _ from e1] at e
   exact (ih a b c ha hb e).mono (by omega)
  ·rw [show clG G (m + 1) a b = _ from e1] at e
   obtain ⟨p, q, h1, h2, rfl⟩ := addO_some.mp e
   exact Bd.add (ih a m p ha (by omega) h1) (ih m b q (by omega) hb h2)
theorem ZpF (h : RestOk q) : ZcK q (-1) = ZaI q.1 (-q.2) := by
 unfold ZcK
 rw [show Zbe (-1) = 1 from rfl, Int.mul_one, Int.mul_neg, Int.mul_one]
theorem Zmu {m : Int} : (ZaI m r).1 = m := by
 unfold ZaI; split
 ·rename_i c; exact c.symm
 ·rfl
theorem ZgJ (hi : RestOk (Z0 R i)) (hj : RestOk (Z0 R j)) (x : Int) : Zav (ZbK R i j) x ↔ ((Int.gcd (Z0 R i).1 (Z0 R j).1 : Nat) : Int) ∣ x - ((Z0 R i).2 - (Z0 R j).2) := by
 unfold ZbK ZbH
 rw [Zdi (by omega), ZpF hj, Zmu]
 have hr := Zdi hj.nn (r := -(Z0 R j).2) (ZaI (Z0 R j).1 (-(Z0 R j).2)).2
 have hs := (hr.mp (Zct hj.nn _).self)
 generalize (ZaI (Z0 R j).1 (-(Z0 R j).2)).2 = s at *
 have hg : ((Int.gcd (Z0 R i).1 (Z0 R j).1 : Nat) : Int) ∣ s - -(Z0 R j).2 := Int.dvd_trans (Int.gcd_dvd_right ..) hs
 constructor
 ·intro h
  have := Int.dvd_add h hg
  rwa [show x - ((Z0 R i).2 + s) + (s - -(Z0 R j).2) = x - ((Z0 R i).2 - (Z0 R j).2) by omega] at this
 ·intro h
  have := Int.dvd_sub h hg
  rwa [show x - ((Z0 R i).2 - (Z0 R j).2) - (s - -(Z0 R j).2) = x - ((Z0 R i).2 + s) by omega] at this
theorem Zm3 {b c : Int} (h0 : RestOk q) (h : ZdI q b = some c) : c ≤ b ∧ Zav q c ∧ (q.1 = 0 ∨ b - c < q.1) := by
 unfold ZdI at h
 split at h
 ·rename_i z
  split at h
  ·cases h
   exact ⟨by assumption, h0.self, .inl z⟩
  ·cases h
 ·rename_i z
  cases h
  have hp : 0 < q.1 := by have := h0.nn; omega
  have h1 := Int.emod_nonneg (b - q.2) z
  have h2 := Int.emod_lt_of_pos (b - q.2) hp
  refine ⟨by omega, ?_, .inr (by omega)⟩
  rw [Zbk h0.nn]
  have h3 := Int.emod_add_mul_ediv (b - q.2) q.1
  exact ⟨(b - q.2) / q.1, by omega⟩
theorem Zmv {b x : Int} (h0 : RestOk q) (hx : Zav q x) (hb : x ≤ b) : ∃ c, ZdI q b = some c ∧ x ≤ c := by
 unfold ZdI
 rw [Zbk h0.nn] at hx
 split
 ·rename_i z
  rw [z, Int.zero_dvd] at hx
  rw [if_pos (by omega)]
  exact ⟨_, rfl, by omega⟩
 ·rename_i z
  have hp : 0 < q.1 := by have := h0.nn; omega
  refine ⟨_, rfl, ?_⟩
  obtain ⟨t, ht⟩ := hx
  have h3 := Int.emod_add_mul_ediv (b - q.2) q.1
  have h2 := Int.emod_lt_of_pos (b - q.2) hp
  have h4 : t ≤ (b - q.2) / q.1 := Int.le_ediv_of_mul_le hp (by rw [Int.mul_comm]; omega)
  have h5 : q.1 * t ≤ q.1 * ((b - q.2) / q.1) := Int.mul_le_mul_of_nonneg_left h4 (by omega)
  omega
theorem Zd1 (R : Nat → Int × Int) (i j : Nat) : RestOk (ZbK R i j) := Ziy _ _
theorem Zwj (h : ∀ b, G i j = some b → ZaT G R i j ≠ none) : leO (ZaT G R i j) (G i j) := by
 intro b e
 have hn := h b e
 unfold ZaT at hn ⊢
 rw [e] at hn ⊢
 cases hc : Zb2 (some b) (ZbK R i j) with
 | none => exact absurd hc hn
 | some c => exact ⟨c, rfl, (Zm3 (Zd1 R i j) hc).1⟩
theorem Zol (hM : 0 < M) (bM : Bd k M) (hG : BdG (n + 1) k G) (hR : ∀ t, t < n → RB M k (R t)) : BdG (n + 1) (k + 1) (ZaT G R) := by
 intro i j c hi hj e
 have h1 := Zdm hR i hi
 have h2 := Zdm hR j hj
 have hd1 : (ZbK R i j).1 = ((Int.gcd (Z0 R i).1 (Z0 R j).1 : Nat) : Int) := by
  unfold ZbK ZbH
  rw [Zmu, ZpF h2.1, Zmu]
 have hb1 := (h1.bd hM bM).1
 have hb2 := (h2.bd hM bM).1
 have hm : Bd k (ZbK R i j).1 := by
  rw [hd1]
  by_cases z : (Z0 R i).1 = 0
  ·rw [z, Int.gcd_zero_left]
   unfold Bd at *
   simpa using hb2
  ·have := Int.gcd_le_natAbs_left (b := (Z0 R j).1) z
   unfold Bd at *
   simp only [Int.natAbs_natCast]
   omega
 unfold ZaT Zb2 at e
 cases hg : G i j with
 | some b =>
  rw [hg] at e
  obtain ⟨u1, u2, u3⟩ := Zm3 (Zd1 R i j) e
  have hbb := hG i j b hi hj hg
  rcases u3 with z | z
  ·have hx := (ZgJ h1.1 h2.1 c).mp u2
   rw [hd1] at z
   rw [z, Int.zero_dvd] at hx
   have : c = (Z0 R i).2 - (Z0 R j).2 := by omega
   rw [this]
   exact Bd.sub h1.2.2 h2.2.2
  ·unfold Bd at *
   rw [Nat.pow_succ]
   omega
 | none =>
  rw [hg] at e
  simp only at e
  split at e
  ·rename_i z
   cases e
   have hx := (ZgJ h1.1 h2.1 (ZbK R i j).2).mp (Zd1 R i j).self
   rw [hd1] at z
   rw [z, Int.zero_dvd] at hx
   have : (ZbK R i j).2 = (Z0 R i).2 - (Z0 R j).2 := by omega
   rw [this]
   exact Bd.sub h1.2.2 h2.2.2
  ·cases e
noncomputable def Zfz (n : Nat) (C : Nat → Nat → Option Int) (R : Nat → Int × Int) : Prop := ∃ i, i < n ∧ ∀ x, ¬ ZcV n C R (i + 1) (n + 1) x
theorem ZqZ (h : Pk (Zac 1 Zi9 ts) fun t => ZgO t = true ∧ Q t) : Pk (ZeQ ts) Q := by
 obtain ⟨t, e, o, q⟩ := h
 exact ⟨t, by simp only [ZeQ, e, Option.bind_some, o, if_true], q⟩
theorem Zwk : ZgO (ZR n G R) = true := ZpO fun _ _ => Ziv
theorem Zq0 (hn : n ≤ 100) (hk : k + n + 1 ≤ 7000) (hM : 0 < M) (bM : Bd k M) (hd : ∀ i, i < n + 1 → G i i = some 0) (bG : BdG (n + 1) k G) (hR : ∀ t, t < n → RB M k (R t)) : Pk (ZeQ [ZR n G R]) fun t => (∃ R', t = ZR n (clG G (n + 1)) R' ∧ ¬ Zch (n + 1) G ∧ Hand n (clG G (n + 1)) R R' M (k + n + 2)) ∨ (t = .none ∧ (Zch (n + 1) G ∨ (¬ Zch (n + 1) G ∧ Zfz n (clG G (n + 1)) R))) := by
 refine ZqZ ?_
 unfold Zi9
 walk_at "zz"
 refine (Zwi hn hd).mono ?_
 rintro t (⟨rfl, h⟩ | ⟨rfl, h⟩)
 ·walk_at "zz"
  refine (Zsj (k := k + n + 1) hn hk hM (bM.mono (by omega)) (Zer bG (n + 1) (by omega)) (fun t ht => (hR t ht).mono (by omega))).mono ?_
  rintro t (⟨R', rfl, h2⟩ | ⟨rfl, h2⟩)
  ·exact ⟨Zwk, .inl ⟨R', rfl, h, h2⟩⟩
  ·exact ⟨rfl, .inr ⟨rfl, .inr ⟨h, h2⟩⟩⟩
 ·walk_at "zz"
  exact ZI ZoI ⟨rfl, .inr ⟨rfl, .inl h⟩⟩
theorem ZpV : ZeQ [.none] = some .none := by
 apply Pk.eq
 refine ZqZ ?_
 unfold Zi9
 walk_at "zz"
 refine ZI Zut ?_
 walk_at "zz"
 exact ZI ZoI ⟨rfl, rfl⟩
theorem Ziz (hR : ∀ i, i < n + 1 → RestOk (Z0 R i)) (hd : ∀ i, i < n + 1 → G i i = some 0) : ∀ i, i < n + 1 → ZaT G R i i = some 0 := by
 intro i hi
 unfold ZaT Zb2
 rw [hd i hi]
 have h0 : Zav (ZbK R i i) 0 := (ZgJ (hR i hi) (hR i hi) 0).mpr (by simp)
 obtain ⟨c, e, hc⟩ := Zmv (Zd1 R i i) h0 (Int.le_refl 0)
 have := (Zm3 (Zd1 R i i) e).1
 show ZdI (ZbK R i i) 0 = some 0
 rw [e, show c = 0 by omega]
structure Sharp (n : Nat) (G : Nat → Nat → Option Int) (R : Nat → Int × Int) (G2 : Nat → Nat → Option Int) (R2 : Nat → Int × Int) (M : Int) (k : Nat) : Prop where
 go : ∃ R1, ¬ Zch (n + 1) G ∧ Hand n (clG G (n + 1)) R R1 M k ∧ ¬ ZdF n (clG G (n + 1)) R1 ∧ ¬ Zch (n + 1) (ZaT (clG G (n + 1)) R1) ∧ G2 = clG (ZaT (clG G (n + 1)) R1) (n + 1) ∧ Hand n G2 R1 R2 M k
noncomputable def Zfv (n : Nat) (G : Nat → Nat → Option Int) (R : Nat → Int × Int) (M : Int) (k : Nat) : Prop := Zch (n + 1) G ∨ (¬ Zch (n + 1) G ∧ Zfz n (clG G (n + 1)) R) ∨ ∃ R1, ¬ Zch (n + 1) G ∧ Hand n (clG G (n + 1)) R R1 M k ∧ (ZdF n (clG G (n + 1)) R1 ∨ (¬ ZdF n (clG G (n + 1)) R1 ∧ (Zch (n + 1) (ZaT (clG G (n + 1)) R1) ∨ (¬ Zch (n + 1) (ZaT (clG G (n + 1)) R1) ∧ Zfz n (clG (ZaT (clG G (n + 1)) R1) (n + 1)) R1))))
theorem Hand.mono (h : Hand n G R R' M i) (hij : i ≤ j) : Hand n G R R' M j := fun t ht => ⟨(h t ht).1.mono hij, (h t ht).2⟩
theorem Zvi (hn : n ≤ 100) (hk : k + 2 * n + 4 ≤ 7000) (hM : 0 < M) (bM : Bd k M) (hd : ∀ i, i < n + 1 → G i i = some 0) (bG : BdG (n + 1) k G) (hR : ∀ t, t < n → RB M k (R t)) : Pk (ZdY [ZR n G R]) fun t => (∃ G2 R2, t = ZR n G2 R2 ∧ Sharp n G R G2 R2 M (k + 2 * n + 5)) ∨ (t = .none ∧ Zfv n G R M (k + n + 2)) := by
 unfold ZdY ZnP
 walk_at "zz"
 refine (Zq0 hn (by omega) hM bM hd bG hR).mono ?_
 rintro t (⟨R1, rfl, nr, h1⟩ | ⟨rfl, h⟩)
 ·have hR1 : ∀ t, t < n → RB M (k + n + 2) (R1 t) := fun t ht => (h1 t ht).1
  have hF1 := Zdm hR1
  have z1 := ZeM hd (m := n + 1) fun m hm q => nr ⟨m, hm, q⟩
  walk_at "zz"
  refine (ZtK hn (by omega) hM (bM.mono (by omega)) hR1).mono ?_
  rintro t (⟨rfl, nl⟩ | ⟨rfl, fl⟩)
  ·walk_at "zz"
   have bG1 : BdG (n + 1) (k + n + 3) (ZaT (clG G (n + 1)) R1) := Zol hM (bM.mono (by omega)) (fun a b c ha hb e => (Zer bG (n + 1) (by omega) a b c ha hb e).mono (by omega)) hR1
   refine (Zq0 (k := k + n + 3) hn (by omega) hM (bM.mono (by omega)) (Ziz (fun i hi => (hF1 i hi).1) z1) bG1 (fun t ht => (hR1 t ht).mono (by omega))).mono ?_
   rintro t (⟨R2, rfl, nr2, h2⟩ | ⟨rfl, h2⟩)
   ·exact .inl ⟨_, R2, rfl, ⟨R1, nr, h1.mono (by omega), nl, nr2, rfl, h2.mono (by omega)⟩⟩
   ·exact .inr ⟨rfl, .inr (.inr ⟨R1, nr, h1, .inr ⟨nl, h2⟩⟩)⟩
  ·walk_at "zz"
   exact ZI ZpV (.inr ⟨rfl, .inr (.inr ⟨R1, nr, h1, .inl fl⟩)⟩)
 ·walk_at "zz"
  refine ZI ZsZ ?_
  walk_at "zz"
  refine ZI ZpV (.inr ⟨rfl, ?_⟩)
  rcases h with h | h
  ·exact .inl h
  ·exact .inr (.inl h)
theorem Zgq (h : Za1 n G R x) : Za1 n (clG G (n + 1)) R x := ⟨fun i j hi hj b e => Zny (ZpD h) (n + 1) (by omega) i j hi hj b e, h.2⟩
theorem Zpl (h : Za1 n G R x) : ¬ Zch (n + 1) G := fun ⟨m, hm, q⟩ => Zur (Zny (ZpD h) (m + 1) (by omega)) q
theorem Zm4 (h : Za1 n G R x) : ∀ i, i < n + 1 → Zav (Z0 R i) (ZaR x i)
 | 0, _ => ⟨fun _ => rfl, fun q => absurd q (show ¬ (0 : Int) < 0 by decide)⟩
 | i + 1, hi => h.2 i (by omega)
theorem ZpW (h : Za1 n G R x) (ht : t < n) : ZcV n G R (t + 1) (n + 1) (x t) := by
 refine ⟨h.2 t ht, fun j hj a b ha hb hab => ?_⟩
 have h1 := h.1 (t + 1) j (by omega) hj a ha
 have h2 := h.1 j (t + 1) hj (by omega) b hb
 have h3 : ZaR x (t + 1) = x t := rfl
 rw [h3] at h1 h2
 rw [show x t - a = ZaR x j by omega]
 exact Zm4 h j hj
theorem ZlH (h : Za1 n G R x) (q : Hand n G R R' M k) : Za1 n G R' x := ⟨h.1, fun t ht => ((q t ht).2 _).mpr (ZpW h ht)⟩
theorem Zqn (hR : ∀ i, i < n + 1 → RestOk (Z0 R i)) (h : Za1 n G R x) (hi : i < n + 1) (hj : j < n + 1) : Zav (ZbK R i j) (ZaR x i - ZaR x j) := by
 rw [ZgJ (hR i hi) (hR j hj)]
 have h1 := (Zbk (hR i hi).nn _).mp (Zm4 h i hi)
 have h2 := (Zbk (hR j hj).nn _).mp (Zm4 h j hj)
 have h3 := Int.dvd_sub (Int.dvd_trans (Int.gcd_dvd_left (b := (Z0 R j).1) ..) h1) (Int.dvd_trans (Int.gcd_dvd_right (a := (Z0 R i).1) ..) h2)
 rwa [show ZaR x i - (Z0 R i).2 - (ZaR x j - (Z0 R j).2) = ZaR x i - ZaR x j - ((Z0 R i).2 - (Z0 R j).2) by omega] at h3
theorem ZtL (hR : ∀ i, i < n + 1 → RestOk (Z0 R i)) (h : Za1 n G R x) : ¬ ZdF n G R := by
 rintro ⟨i, j, hi, hj, b, e, hn⟩
 obtain ⟨c, e2, _⟩ := Zmv (Zd1 R i j) (Zqn hR h hi hj) (h.1 i j hi hj b e)
 unfold ZaT Zb2 at hn
 rw [e] at hn
 simp only at hn
 rw [e2] at hn
 cases hn
theorem Zqo (hR : ∀ i, i < n + 1 → RestOk (Z0 R i)) (h : Za1 n G R x) : Za1 n (ZaT G R) R x := by
 refine ⟨fun i j hi hj b e => ?_, h.2⟩
 have hd := Zqn hR h hi hj
 unfold ZaT Zb2 at e
 cases hg : G i j with
 | some c =>
  rw [hg] at e
  simp only at e
  obtain ⟨d, e2, hle⟩ := Zmv (Zd1 R i j) hd (h.1 i j hi hj c hg)
  rw [e2] at e
  cases e
  exact hle
 | none =>
  rw [hg] at e
  simp only at e
  split at e
  ·rename_i z
   cases e
   rw [Zbk (Zd1 R i j).nn, z, Int.zero_dvd] at hd
   omega
  ·cases e
theorem ZtM (h : Za1 n G R x) (s : Sharp n G R G2 R2 M k) : Za1 n G2 R2 x := by
 obtain ⟨R1, h1, h2, h3, h4, rfl, h6⟩ := s.go
 have l1 := ZlH (Zgq h) h2
 have hF := Zdm fun t ht => (h2 t ht).1
 exact ZlH (Zgq (Zqo (fun i hi => (hF i hi).1) l1)) h6
theorem Ztk (h : Za1 n G R x) : ¬ Zfv n G R M k := by
 have hf : ∀ {G : Nat → Nat → Option Int} {R : Nat → Int × Int}, Za1 n G R x → ¬ Zfz n G R := fun h ⟨i, hi, q⟩ => q _ (ZpW h hi)
 rintro (q | ⟨_, q⟩ | ⟨R1, _, h2, q⟩)
 ·exact Zpl h q
 ·exact hf (Zgq h) q
 ·have l1 := ZlH (Zgq h) h2
  have hF := Zdm fun t ht => (h2 t ht).1
  have l2 := Zqo (fun i hi => (hF i hi).1) l1
  rcases q with q | ⟨_, q | ⟨_, q⟩⟩
  ·exact ZtL (fun i hi => (hF i hi).1) l1 q
  ·exact Zpl l2 q
  ·exact hf (Zgq l2) q
theorem ZpG (hk : k ≤ 8000) (op : RestOk p) (oq : RestOk q) (bp : RBd k p) (bq : RBd k q) : Pk (Zgx [Z5 p, Z5 q]) fun t => ∃ o, t = oR o ∧ Met p q o := by
 unfold Zgx ZmU
 have ep : Z5 p = .tup [.int p.1, .int p.2] := rfl
 have eq : Z5 q = .tup [.int q.1, .int q.2] := rfl
 have np := op.nn
 have nq := oq.nn
 rw [ep, eq]
 walk_at "zz"
 have hlt : ∀ x : Int, 0 ≤ x → Bd k x → x < 2 ^ 200000 := fun x h0 h1 => by
  have h2 : x.natAbs < 2 ^ 200000 := ZbT h1 (by omega)
  have h3 : ((x.natAbs : Nat) : Int) < 2 ^ 200000 := by exact_mod_cast h2
  omega
 obtain ⟨m, hm, eu⟩ := Zix np nq (hlt _ np bp.1) (hlt _ nq bq.1)
 refine Zfw (fun m σ => ∃ l r s t : Int, σ 0 = some (.tup [.int p.1, .int p.2]) ∧ σ 1 = some (.tup [.int q.1, .int q.2]) ∧ σ 2 = some (.int l) ∧ σ 3 = some (.int r) ∧ σ 4 = some (.int s) ∧ σ 5 = some (.int t) ∧ Eu m l r ∧ Int.gcd l r = Int.gcd p.1 q.1 ∧ Bd k l ∧ Bd k r ∧ (∃ z, s * p.1 = l + q.1 * z) ∧ (∃ z, t * p.1 = r + q.1 * z) ∧ Bd (k + 1) s ∧ Bd (k + 1) t ∧ (s.natAbs : Int) * r + (t.natAbs : Int) * l ≤ q.1 ∧ (1 ≤ l ∨ t = 0)) _ _ ?_ 1000000 (m := m) ⟨p.1, q.1, 1, 0, by walk_at "zr", by walk_at "zr", by walk_at "zr", by walk_at "zr", by walk_at "zr", by walk_at "zr", eu, rfl, bp.1, bq.1, ⟨0, by omega⟩, ⟨-1, by omega⟩, Zeb (by omega), ZcL, by simp, .inr rfl⟩ hm
 rintro m σ ⟨l, r, s, t, e0, e1, e2, e3, e4, e5, eu, gl, kl, kr, ⟨z1, h1⟩, ⟨z2, h2⟩, ks, kt, hb1, hl⟩
 walk_at "zz"
 refine ⟨fun h => ?_, fun h => ?_⟩
 ·have hr : r ≠ 0 := by simpa using h
  have hr0 : 0 ≤ r := eu.2.1
  have hl0 : 0 ≤ l := eu.1
  have hrp : 0 < r := by omega
  have hdiv0 : 0 ≤ l / r := Int.ediv_nonneg hl0 hr0
  have hdiv1 : l / r ≤ l := Int.ediv_le_self _ hl0
  have kd : Bd k (l / r) := Zdb kl hdiv0 hdiv1
  walk_at "zz"
  refine Zc7 hr (ZdH kr (by omega)) ?_
  rw [Int.fdiv_eq_ediv_of_nonneg _ hr0]
  walk_at "zz"
  refine ZbU (Zb4 kd kr (by omega) (by omega)) ?_
  walk_at "zz"
  refine ZbU (Zb4 kd kt (by omega) (by omega)) ?_
  walk_at "zz"
  have hover : l - l / r * r = l % r := by
   have := Int.emod_add_mul_ediv l r
   rw [Int.mul_comm r (l / r)] at this
   omega
  rw [hover]
  obtain ⟨m', hm1, hm2⟩ := eu.step hr
  have o0 := Int.emod_nonneg l hr
  have o1 := Int.emod_lt_of_pos l hrp
  have ht : ((s - l / r * t).natAbs : Int) ≤ (s.natAbs : Int) + l / r * (t.natAbs : Int) := by
   have h3 : (s - l / r * t).natAbs ≤ s.natAbs + (l / r * t).natAbs := by omega
   have h4 : (l / r * t).natAbs = (l / r).natAbs * t.natAbs := Int.natAbs_mul ..
   have h5 : (((l / r).natAbs * t.natAbs : Nat) : Int) = l / r * (t.natAbs : Int) := by
    rw [Int.natCast_mul, Int.natAbs_of_nonneg hdiv0]
   rw [h4] at h3
   omega
  have h6 : ((s - l / r * t).natAbs : Int) * r ≤ ((s.natAbs : Int) + l / r * (t.natAbs : Int)) * r := Int.mul_le_mul_of_nonneg_right ht hr0
  have h7 : ((s.natAbs : Int) + l / r * (t.natAbs : Int)) * r = (s.natAbs : Int) * r + (t.natAbs : Int) * (l / r * r) := by
   rw [Int.add_mul, Int.mul_comm (l / r) (t.natAbs : Int), Int.mul_assoc]
  have h8 : (t.natAbs : Int) * (l % r) + (t.natAbs : Int) * (l / r * r) = (t.natAbs : Int) * l := by
   rw [← Int.mul_add, ← hover]
   congr 1
   omega
  have h9 : (t.natAbs : Int) * (l % r) + ((s - l / r * t).natAbs : Int) * r ≤ q.1 := by omega
  have hpos : 0 ≤ (t.natAbs : Int) * (l % r) := Int.mul_nonneg (by omega) o0
  have kn : Bd (k + 1) (s - l / r * t) := by
   have h10 : ((s - l / r * t).natAbs : Int) * 1 ≤ ((s - l / r * t).natAbs : Int) * r := Int.mul_le_mul_of_nonneg_left (by omega) (by omega)
   have h11 : ((s - l / r * t).natAbs : Int) ≤ q.1 := by omega
   have h12 := bq.1
   unfold Bd at *
   rw [Nat.pow_succ]
   omega
  refine ⟨m', hm1, r, l % r, t, s - l / r * t, by walk_at "zr", by walk_at "zr", by walk_at "zr", by walk_at "zr", by walk_at "zr", by walk_at "zr", hm2, by rw [ZgI hrp]; exact gl, kr, Zdb kr o0 (by omega), ⟨z2, h2⟩, ⟨z1 - l / r * z2, ?_⟩, kt, kn, h9, .inl (by omega)⟩
  rw [Int.sub_mul, h1, Int.mul_assoc, h2, Int.mul_add, Int.mul_sub, ← hover]
  have e1 : q.1 * (l / r * z2) = l / r * (q.1 * z2) := by rw [← Int.mul_assoc, Int.mul_comm q.1, Int.mul_assoc]
  rw [e1]
  omega
 ·have hr : r = 0 := by simpa using h
  subst hr
  rw [Int.gcd_zero_right] at gl
  have hl0 := eu.1
  have hlg : l = (Int.gcd p.1 q.1 : Nat) := by omega
  walk_at "zz"
  by_cases c : l = 0
  ·have hz : p.1 = 0 ∧ q.1 = 0 := Int.gcd_eq_zero_iff.mp (by omega)
   have hp1 : ∀ x, Zav p x ↔ x = p.2 := fun x => by rw [Zbk np, hz.1, Int.zero_dvd]; omega
   have hq1 : ∀ x, Zav q x ↔ x = q.2 := fun x => by rw [Zbk nq, hz.2, Int.zero_dvd]; omega
   walk_at "zz"
   by_cases d : q.2 - p.2 = 0
   ·walk_at "zz"
    refine ⟨some p, rfl, op, fun x => ?_⟩
    rw [hp1, hq1]
    omega
   ·walk_at "zz"
    refine ⟨none, rfl, fun x hx => ?_⟩
    rw [hp1, hq1] at hx
    omega
  ·have hlp : 0 < l := by omega
   obtain ⟨a, ea⟩ : l ∣ p.1 := by rw [hlg]; exact Int.gcd_dvd_left ..
   obtain ⟨b, eb⟩ : l ∣ q.1 := by rw [hlg]; exact Int.gcd_dvd_right ..
   walk_at "zz"
   rw [Int.fmod_eq_emod_of_nonneg _ (by omega)]
   by_cases c3 : (q.2 - p.2) % l = 0
   ·obtain ⟨d, ed⟩ := Int.dvd_of_emod_eq_zero c3
    have da : p.1 / l = a := by rw [ea]; exact Int.mul_ediv_cancel_left _ (by omega)
    have dd : (q.2 - p.2) / l = d := by rw [ed]; exact Int.mul_ediv_cancel_left _ (by omega)
    have ha0 : 0 ≤ a := by rw [← da]; exact Int.ediv_nonneg np (by omega)
    have ka : Bd k a := Zdb bp.1 ha0 (by rw [← da]; exact Int.ediv_le_self _ np)
    have kdd : Bd (k + 1) d := by
     have h1 : Bd (k + 1) (q.2 - p.2) := Bd.sub bq.2 bp.2
     unfold Bd at *
     rw [ed, Int.natAbs_mul] at h1
     have : 1 * d.natAbs ≤ l.natAbs * d.natAbs := Nat.mul_le_mul_right _ (by omega)
     omega
    walk_at "zz"
    refine Zc7 (by omega) (ZdH kl (by omega)) ?_
    rw [Int.fdiv_eq_ediv_of_nonneg _ (by omega), da]
    walk_at "zz"
    refine ZbU (Zb4 ka bq.1 (by omega) (by omega)) ?_
    walk_at "zz"
    refine ZbU (Zb4 bp.1 ks (by omega) (by omega)) ?_
    walk_at "zz"
    refine Zc7 (by omega) (ZdH kl (by omega)) ?_
    rw [Int.fdiv_eq_ediv_of_nonneg _ (by omega), dd]
    walk_at "zz"
    refine ZbU (Zb4 (Bd.mul bp.1 ks) kdd (by omega) (by omega)) ?_
    walk_at "zz"
    have hm0 : 0 ≤ a * q.1 := Int.mul_nonneg ha0 nq
    refine ZI ZeF ⟨some _, rfl, Zct hm0 _, fun x => ?_⟩
    rw [Zdi hm0, Zbk np, Zbk nq]
    have hx0 : p.1 * s * d = (q.2 - p.2) + q.1 * (z1 * d) := by
     rw [Int.mul_comm p.1 s, h1, Int.add_mul, ed, Int.mul_assoc]
    have hpm : p.1 ∣ a * q.1 := ⟨b, by rw [ea, eb]; rw [Int.mul_left_comm, Int.mul_assoc]⟩
    have hqm : q.1 ∣ a * q.1 := Int.dvd_mul_left _ _
    constructor
    ·intro hx
     have g1 := Int.dvd_trans hpm hx
     have g2 := Int.dvd_trans hqm hx
     refine ⟨?_, ?_⟩
     ·have := Int.dvd_add g1 (show p.1 ∣ p.1 * s * d from ⟨s * d, by rw [Int.mul_assoc]⟩)
      rwa [show x - (p.2 + p.1 * s * d) + p.1 * s * d = x - p.2 by omega] at this
     ·have := Int.dvd_add g2 (Int.dvd_mul_right q.1 (z1 * d))
      rwa [show x - (p.2 + p.1 * s * d) + q.1 * (z1 * d) = x - q.2 by omega] at this
    ·rintro ⟨g1, g2⟩
     have g3 : p.1 ∣ x - (p.2 + p.1 * s * d) := by
      have := Int.dvd_sub g1 (show p.1 ∣ p.1 * s * d from ⟨s * d, by rw [Int.mul_assoc]⟩)
      rwa [show x - p.2 - p.1 * s * d = x - (p.2 + p.1 * s * d) by omega] at this
     have g4 : q.1 ∣ x - (p.2 + p.1 * s * d) := by
      have := Int.dvd_sub g2 (Int.dvd_mul_right q.1 (z1 * d))
      rwa [show x - q.2 - q.1 * (z1 * d) = x - (p.2 + p.1 * s * d) by omega] at this
     have g5 := Int.coe_lcm_dvd g3 g4
     have g6 : (a * q.1).natAbs = Int.lcm p.1 q.1 := by
      have k1 := Int.gcd_mul_lcm p.1 q.1
      have k2 : (l.natAbs) * (a * q.1).natAbs = p.1.natAbs * q.1.natAbs := by
       rw [Int.natAbs_mul, ← Nat.mul_assoc]
       congr 1
       rw [← Int.natAbs_mul, ← ea]
      have k3 : Int.gcd p.1 q.1 = l.natAbs := by omega
      rw [k3] at k1
      exact Nat.eq_of_mul_eq_mul_left (show 0 < l.natAbs by omega) (by omega)
     rw [← g6] at g5
     exact Int.natAbs_dvd.mp g5
   ·walk_at "zz"
    refine ⟨none, rfl, fun x hx => c3 ?_⟩
    rw [Zbk np, Zbk nq] at hx
    have g1 : l ∣ x - p.2 := Int.dvd_trans ⟨a, ea⟩ hx.1
    have g2 : l ∣ x - q.2 := Int.dvd_trans ⟨b, eb⟩ hx.2
    have g3 := Int.dvd_sub g1 g2
    rw [show x - p.2 - (x - q.2) = q.2 - p.2 by omega] at g3
    exact Int.emod_eq_zero_of_dvd g3
theorem Zrz (hk : k ≤ 8000) (op : RestOk p) (oq : RestOk q) (bp : RBd k p) (bq : RBd k q) (h : Met p q o) : ∀ r, o = some r → (r = p ∨ r = q ∨ (p.1 ≠ 0 ∧ q.1 ≠ 0 ∧ r.1 = Int.lcm p.1 q.1)) := by
 obtain ⟨t, _, o', rfl, h', wh⟩ := ZlG hk op oq bp bq
 rw [ZpC h h']
 exact wh
theorem Zuu (q : Int × Int) (h : 0 ≤ q.1) (a : Int) : ZaI q.1 (q.2 + a) = ZbH q (0, a) := by
 unfold ZbH
 simp only [Int.gcd_zero_right]
 rw [Int.natAbs_of_nonneg h]
theorem Zm5 (ho : Zc8 n G R M k i j o) (h : ∀ a b x, G i j = some a → G j i = some b → a + b = 0 → ZcV n G R i j x → Zav (Z0 R j) (x - a)) : Zc8 n G R M k i (j + 1) o := by
 have hs : ∀ x, ZcV n G R i j x ↔ ZcV n G R i (j + 1) x := fun x => ⟨fun hx => ⟨hx.1, fun j' hj' a b ha hb hab => by
     by_cases q' : j' = j
     ·subst q'; exact h a b x ha hb hab hx
     ·exact hx.2 j' (by omega) a b ha hb hab⟩, fun hx => ⟨hx.1, fun j' hj' => hx.2 j' (by omega)⟩⟩
 cases o with
 | none => exact fun x hx => ho x ((hs x).mpr hx)
 | some q => exact ⟨ho.1, fun x => (ho.2 x).trans (hs x)⟩
theorem Zq1 {a : Int} (hM : 0 < M) (bM : Bd k M) (h : RB M k q) (ba : Bd k a) : RB M (k + 1) (ZbH q (0, a)) := by
 refine ⟨Ziy _ _, ?_, ?_⟩
 ·unfold ZbH ZaI
  simp only [Int.gcd_zero_right]
  rw [Int.natAbs_of_nonneg h.1.nn]
  split
  ·exact .inl rfl
  ·exact h.2.1
 ·have hm := (h.bd hM bM).1
  refine (ZgB (k := k + 1) (by omega) ?_ (Bd.add h.2.2 ba)).2
  simp only [Int.gcd_zero_right]
  rw [Int.natAbs_of_nonneg h.1.nn]
  exact hm.mono (by omega)
theorem Zuv {o' : Option (Int × Int)} {a b : Int} (hk : k ≤ 7000) (hM : 0 < M) (bM : Bd k M) (ha : G i j = some a) (hb : G j i = some b) (hab : a + b = 0) (ba : Bd k a) (hj2 : RB M k (Z0 R j)) (ho : Zc8 n G R M (k + 1) i j (some q)) (mt : Met q (ZbH (Z0 R j) (0, a)) o') : Zc8 n G R M (k + 1) i (j + 1) o' := by
 have bM1 : Bd (k + 1) M := bM.mono (by omega)
 have hpl := Zq1 hM bM hj2 ba
 have wh := Zrz (k := k + 1) (by omega) ho.1.1 hpl.1 (ho.1.bd hM bM1) (hpl.bd hM bM1) mt
 have hset : ∀ x, (Zav q x ∧ Zav (ZbH (Z0 R j) (0, a)) x) ↔ ZcV n G R i (j + 1) x := fun x => by
  rw [ho.2 x, Zpk hj2.1]
  constructor
  ·rintro ⟨h1, h2⟩
   refine ⟨h1.1, fun j' hj' c d hc hd hcd => ?_⟩
   by_cases q' : j' = j
   ·subst q'; rw [ha] at hc; cases hc; exact h2
   ·exact h1.2 j' (by omega) c d hc hd hcd
  ·intro h
   exact ⟨⟨h.1, fun j' hj' => h.2 j' (by omega)⟩, h.2 j (by omega) a b ha hb hab⟩
 cases o' with
 | none => exact fun x hx => mt x ((hset x).mpr hx)
 | some r =>
  refine ⟨⟨mt.1, ?_, ?_⟩, fun x => (mt.2 x).trans (hset x)⟩
  ·rcases wh r rfl with h | h | ⟨h1, h2, h3⟩
   ·rw [h]; exact ho.1.2.1
   ·rw [h]; exact hpl.2.1
   ·right
    rw [h3]
    exact Int.coe_lcm_dvd (ho.1.2.1.resolve_left h1) (hpl.2.1.resolve_left h2)
  ·rcases wh r rfl with h | h | ⟨h1, h2, h3⟩
   ·rw [h]; exact ho.1.2.2
   ·rw [h]; exact hpl.2.2
   ·rcases mt.1 with z | z
    ·have : (Int.lcm q.1 (ZbH (Z0 R j) (0, a)).1) ≠ 0 := Int.lcm_ne_zero h1 h2
     omega
    ·have hd : r.1 ∣ M := by
      rw [h3]
      exact Int.coe_lcm_dvd (ho.1.2.1.resolve_left h1) (hpl.2.1.resolve_left h2)
     exact Zdb bM1 z.2.1 (by have := Int.le_of_dvd hM hd; omega)
theorem Zwl {p : PE} (h : Pk (p σ) fun t => ∃ ts, t = .lst ts ∧ Q (.lst (ts.drop k))) : Pk (Zdv p k σ) Q := by
 obtain ⟨t, e, ts, rfl, q⟩ := h
 exact ⟨_, by simp only [Zdv, e, Option.bind_some], q⟩
theorem Zuw {f : Nat → T} : (tab (n + 1) f).drop 1 = tab n fun i => f (i + 1) := by
 apply List.ext_getElem?
 intro i
 rw [List.getElem?_drop]
 by_cases h : i < n
 ·rw [ZbN h, Nat.add_comm 1 i, ZbN (by omega)]
 ·rw [List.getElem?_eq_none (by rw [Zat]; omega), List.getElem?_eq_none (by rw [Zat]; omega)]
theorem ZoX (hn : n ≤ 100) (hk : k ≤ 7000) (hM : 0 < M) (bM : Bd k M) (bG : ∀ a b c, a < n + 1 → b < n + 1 → G a b = some c → Bd k c) (hR : ∀ t, t < n → RB M k (R t)) : Pk (Zf9 [Z8 (n + 1) G, Za5 n R]) fun t => (∃ R', t = Za5 n R' ∧ Hand n G R R' M (k + 1)) ∨ (t = .none ∧ Zfz n G R) := by
 unfold Zf9 ZkQ
 have hF := Zdm hR
 have bM1 : Bd (k + 1) M := bM.mono (by omega)
 have hr : Za5 n R = .lst (tab n fun i => Z5 (R i)) := rfl
 rw [hr]
 walk_at "zz"
 rw [Zow]
 walk_at "zz"
 refine ZbV (n := n) (a := fun i => .int ((i + 1 : Nat) : Int)) (P := fun m σ => ∃ F : Nat → Option (Int × Int), σ 0 = some (Z8 (n + 1) G) ∧ σ 2 = some (.lst (tab (n + 1) fun i => Z5 (Z0 R i))) ∧ σ 3 = some (.lst (tab (n + 1) fun i => oR (F i))) ∧ F 0 = some (0, 0) ∧ (∀ a, a < m → Zc8 n G R M (k + 1) (a + 1) (n + 1) (F (a + 1))) ∧ ∀ a, m ≤ a → a < n → F (a + 1) = some (R a)) ?_ ⟨fun i => some (Z0 R i), by walk_at "zr", by walk_at "zr", by walk_at "zr", rfl, by omega, fun _ _ _ => rfl⟩ ?_ ?_
 ·by_cases h0 : n = 0
  ·subst h0
   exact ⟨[], ZgM (a := 1) (b := 1) rfl Zry, rfl⟩
  ·walk_at "zz"
   refine Rn.two 1 n (by decide) (by omega) (by omega) (by omega) ?_
   refine Zbj fun i _ => ?_
   congr 1
   omega
 ·rintro i σ hi ⟨F, e0, e2, e3, z0, h1, h2⟩
  have hself : (fun a => oR (F a)) = fun a => oR (if a = i + 1 then F (i + 1) else F a) := funext fun a => by split <;> simp_all
  rw [hself] at e3
  refine ZbV (n := n + 1) (a := fun j => .int j) (P := fun j σ => ∃ o, σ 0 = some (Z8 (n + 1) G) ∧ σ 2 = some (.lst (tab (n + 1) fun i => Z5 (Z0 R i))) ∧ σ 3 = some (.lst (tab (n + 1) fun a => oR (if a = i + 1 then o else F a))) ∧ σ 4 = some (.int ((i + 1 : Nat) : Int)) ∧ Zc8 n G R M (k + 1) (i + 1) j o) ?_ ⟨F (i + 1), by walk_at "zr", by walk_at "zr", by walk_at "zr", by walk_at "zr", ?_⟩ ?_ ?_
  ·walk_at "zz"
   rfl
  ·rw [h2 i (by omega) hi]
   exact ⟨(hF (i + 1) (by omega)).mono (by omega), fun x => ⟨fun h => ⟨h, by omega⟩, fun h => h.1⟩⟩
  ·rintro j σ hj ⟨o, f0, f2, f3, f4, ho⟩
   unfold Z8 Zay at f0
   walk_at "zz"
   have fin : ∀ σ' : TL, σ' 0 = σ 0 → σ' 2 = σ 2 → σ' 3 = σ 3 → σ' 4 = σ 4 → Zc8 n G R M (k + 1) (i + 1) (j + 1) o → ∃ o, σ' 0 = some (Z8 (n + 1) G) ∧ σ' 2 = some (.lst (tab (n + 1) fun i => Z5 (Z0 R i))) ∧ σ' 3 = some (.lst (tab (n + 1) fun a => oR (if a = i + 1 then o else F a))) ∧ σ' 4 = some (.int ((i + 1 : Nat) : Int)) ∧ Zc8 n G R M (k + 1) (i + 1) (j + 1) o := fun σ' g0 g2 g3 g4 h => ⟨o, g0.trans f0, g2.trans f2, g3.trans f3, g4.trans f4, h⟩
   refine ⟨fun c => ?_, fun c => ⟨fun h => (nomatch h), fun _ => ?_⟩⟩
   ·have cne : i + 1 ≠ j := fun q => of_decide_eq_true c (by omega)
    cases hg : G (i + 1) j with
    | none =>
     rw [Zbg]
     walk_at "zz"
     exact fin _ rfl rfl rfl rfl (Zm5 ho fun a b x ha => by rw [hg] at ha; cases ha)
    | some a =>
     rw [Zap]
     walk_at "zz"
     refine ZfJ (Zg8 (n := 0)) (.int (n := 0)) ?_
     walk_at "zz"
     refine ⟨fun e => ?_, fun e => ?_⟩
     ·have e' := dec_iff.mp e
      rw [← Zap, oT_inj] at e'
      cases o with
      | none =>
       walk_at "zz"
       rw [if_pos rfl, show oR none = T.none from rfl]
       walk_at "zz"
       exact fin _ rfl rfl rfl rfl fun x hx => ho x ⟨hx.1, fun j' hj' => hx.2 j' (by omega)⟩
      | some q =>
       walk_at "zz"
       rw [if_pos rfl, show oR (some q) = T.tup [.int q.1, .int q.2] from rfl]
       walk_at "zz"
       rw [if_pos rfl]
       have hj2 := hF j hj
       have ba := bG (i + 1) j a (by omega) hj hg
       have hpl := Zq1 hM bM hj2 ba
       have eq : Z5 (Z0 R j) = .tup [.int (Z0 R j).1, .int (Z0 R j).2] := rfl
       rw [eq]
       walk_at "zz"
       rw [eq]
       walk_at "zz"
       refine ZI ZeF ?_
       rw [Zuu _ hj2.1.nn]
       walk_at "zz"
       refine (ZpG (p := q) (q := ZbH (Z0 R j) (0, a)) (k := k + 1) (by omega) ho.1.1 hpl.1 (ho.1.bd hM bM1) (hpl.bd hM bM1)).mono ?_
       rintro _ ⟨o', rfl, mt⟩
       refine ⟨by cases o' <;> rfl, ?_⟩
       walk_at "zz"
       refine ⟨o', by walk_at "zr", by walk_at "zr", ?_, by walk_at "zr", Zuv hk hM bM hg e' (by omega) ba hj2 ho mt⟩
       refine (show _ = _ from ZbB).trans ?_
       congr 2
       refine Zbj fun a _ => ?_
       split <;> rfl
     ·walk_at "zz"
      refine fin _ rfl rfl rfl rfl (Zm5 ho fun a' b x ha hb hab hx => ?_)
      rw [hg] at ha
      cases ha
      have : dec (oT (G j (i + 1)) = .int (-a)) = true := Za0 (by rw [hb, Zap]; congr 1; omega)
      rw [this] at e
      cases e
   ·walk_at "zz"
    refine fin _ rfl rfl rfl rfl (Zm5 ho fun a b x ha hb hab hx => ?_)
    have cj : i + 1 = j := by
     have := of_decide_eq_false c
     omega
    subst cj
    rw [ha] at hb
    cases hb
    rw [show x - a = x by omega]
    exact hx.1
  ·rintro σ ⟨o, f0, f2, f3, f4, ho⟩
   refine ⟨fun a => if a = i + 1 then o else F a, f0, f2, f3, by simp [z0], fun a ha => ?_, fun a ha hb => ?_⟩
   ·by_cases q : a = i
    ·subst q; simpa using ho
    ·simpa [q] using h1 a (by omega)
   ·simpa [show a ≠ i by omega] using h2 a (by omega) hb
 ·rintro σ ⟨F, e0, e2, e3, z0, h1, -⟩
  walk_at "zz"
  refine ZfQ (.none (n := 0)) (Zem (n := 1) fun i _ => Zjp) ?_
  by_cases hc : ∃ i, i < n ∧ F (i + 1) = none
  ·obtain ⟨i, hi, ei⟩ := hc
   rw [Za0 (show T.none ∈ tab (n + 1) fun i => oR (F i) from List.mem_of_getElem? (i := i + 1) (by rw [ZbN (by omega), ei]; rfl))]
   walk_at "zz"
   refine .inr ⟨rfl, i, hi, ?_⟩
   have := h1 i hi
   rw [ei] at this
   exact this
  ·rw [Zbx (show ¬ T.none ∈ tab (n + 1) fun i => oR (F i) from fun h => by
    obtain ⟨i, hi, e⟩ := ZcP h
    have e' := oR_none.mp e.symm
    cases i with
    | zero => rw [z0] at e'; cases e'
    | succ i => exact hc ⟨i, by omega, e'⟩)]
   walk_at "zz"
   refine Zwl ?_
   walk_at "zz"
   refine ⟨_, rfl, ?_⟩
   rw [Zuw]
   have hs : ∀ i, i < n → F (i + 1) = some ((F (i + 1)).getD (1, 0)) := fun i hi => by
    cases e : F (i + 1) with
    | none => exact absurd ⟨i, hi, e⟩ hc
    | some q => rfl
   refine .inl ⟨fun i => (F (i + 1)).getD (1, 0), ?_, fun t ht => ?_⟩
   ·unfold Za5
    congr 1
    refine Zbj fun i hi => ?_
    conv => lhs; rw [hs i hi]
    rfl
   ·have := h1 t ht
    rw [hs t ht] at this
    exact this
theorem Zwm (hi : RestOk (Z0 R i)) (hj : RestOk (Z0 R j)) : ZbK R i j = ZaI (Int.gcd (Z0 R i).1 (Z0 R j).1 : Nat) ((Z0 R i).2 - (Z0 R j).2) :=
 ZhZ (Zd1 R i j) (Zct (by omega) _) fun x => (ZgJ hi hj x).trans (Zdi (by omega) x).symm
theorem Zwn (hi : RestOk (Z0 R i)) (hj : RestOk (Z0 R j)) : ZaT G R i j = if ((Int.gcd (Z0 R i).1 (Z0 R j).1 : Nat) : Int) = 0 then (match G i j with | none => some ((Z0 R i).2 - (Z0 R j).2) | some b => if (Z0 R i).2 - (Z0 R j).2 ≤ b then some ((Z0 R i).2 - (Z0 R j).2) else none) else (match G i j with | none => none | some b => some (b - (b - ((Z0 R i).2 - (Z0 R j).2)) % (Int.gcd (Z0 R i).1 (Z0 R j).1 : Nat))) := by
 unfold ZaT
 rw [Zwm hi hj]
 generalize ((Int.gcd (Z0 R i).1 (Z0 R j).1 : Nat) : Int) = m at *
 generalize (Z0 R i).2 - (Z0 R j).2 = r
 unfold ZaI
 by_cases c : m = 0
 ·rw [if_pos c, if_pos c]
  cases G i j with
  | none => simp [Zb2]
  | some b => simp [Zb2, ZdI]
 ·rw [if_neg c, if_neg c]
  cases G i j with
  | none => simp [Zb2, c]
  | some b =>
   have : (b - r.fmod m) % m = (b - r) % m := by
    have h1 : m ∣ (b - r.fmod m) - (b - r) := by
     have := Int.mul_fdiv_add_fmod r m
     exact ⟨r.fdiv m, by omega⟩
    exact Int.emod_eq_emod_iff_emod_sub_eq_zero.mpr (Int.emod_eq_zero_of_dvd h1)
   simp [Zb2, ZdI, c, this]
noncomputable def ZfS (n : Nat) (G : Nat → Nat → Option Int) (R : Nat → Int × Int) (F : Nat → Nat → Option Int) (i j : Nat) : Prop := ∀ a b, a < n + 1 → b < n + 1 → ((a < i ∨ (a = i ∧ b < j)) → F a b = ZaT G R a b ∧ ∀ c, G a b = some c → ZaT G R a b ≠ none) ∧ (¬ (a < i ∨ (a = i ∧ b < j)) → F a b = G a b)
theorem ZpH (h : ZfS n G R F i j) (e : G i j = ZaT G R i j) : ZfS n G R F i (j + 1) := fun a b ha hb => by
 obtain ⟨h1, h2⟩ := h a b ha hb
 refine ⟨fun q => ?_, fun q => h2 (by omega)⟩
 by_cases q' : a = i ∧ b = j
 ·obtain ⟨rfl, rfl⟩ := q'
  rw [h2 (by omega)]
  exact ⟨e, fun c hc => by rw [← e, hc]; simp⟩
 ·exact h1 (by omega)
theorem Zm6 {v : Int} (h : ZfS n G R F i j) (e : ZaT G R i j = some v) : ZfS n G R (Zb0 F i j (some v)) i (j + 1) := fun a b ha hb => by
 obtain ⟨h1, h2⟩ := h a b ha hb
 by_cases q' : a = i ∧ b = j
 ·obtain ⟨rfl, rfl⟩ := q'
  rw [ZiT]
  exact ⟨fun _ => ⟨e.symm, fun c _ => by rw [e]; simp⟩, fun q => by omega⟩
 ·rw [ZgR q']
  exact ⟨fun q => h1 (by omega), fun q => h2 (by omega)⟩
theorem Zsl (hn : n ≤ 100) (hk : k ≤ 7000) (hM : 0 < M) (bM : Bd k M) (hR : ∀ t, t < n → RB M k (R t)) (hd : ∀ i, i < n + 1 → G i i = some 0) : Pk (Zhx [Z8 (n + 1) G, Za5 n R]) fun t => (t = Z8 (n + 1) (ZaT G R) ∧ ¬ ZdF n G R) ∨ (t = .none ∧ ZdF n G R) := by
 unfold Zhx Zks
 have hF := Zdm hR
 have hlz := Ziz (fun i hi => (hF i hi).1) hd
 have hr : Za5 n R = .lst (tab n fun i => Z5 (R i)) := rfl
 rw [hr]
 walk_at "zz"
 rw [Zow]
 refine Zif (n := n + 1) (G := G) (by omega) ?_ ?_
 ·walk_at "zz"
  rfl
 walk_at "zz"
 refine ZbV (n := n + 1) (a := fun i => .int i) (P := fun i σ => ∃ F, σ 0 = some (Z8 (n + 1) G) ∧ σ 2 = some (.lst (tab (n + 1) fun i => Z5 (Z0 R i))) ∧ σ 3 = some (Z8 (n + 1) F) ∧ ZfS n G R F i 0) ?_ ⟨G, by walk_at "zr", by walk_at "zr", by walk_at "zr", fun a b _ _ => ⟨fun q => by omega, fun _ => rfl⟩⟩ ?_ ?_
 ·walk_at "zz"
  rfl
 ·rintro i σ hi ⟨F, e0, e2, e3, lt⟩
  refine ZbV (n := n + 1) (a := fun i => .int i) (P := fun j σ => ∃ F, σ 0 = some (Z8 (n + 1) G) ∧ σ 2 = some (.lst (tab (n + 1) fun i => Z5 (Z0 R i))) ∧ σ 3 = some (Z8 (n + 1) F) ∧ σ 4 = some (.int i) ∧ ZfS n G R F i j) ?_ ⟨F, by walk_at "zr", by walk_at "zr", by walk_at "zr", by walk_at "zr", lt⟩ ?_ ?_
  ·walk_at "zz"
   rfl
  ·rintro j σ hj ⟨F, e0, e2, e3, e4, lt⟩
   have hi1 := hF i hi
   have hj1 := hF j hj
   have lw := Zwn (G := G) hi1.1 hj1.1
   have f0 : σ 0 = some (.lst (tab (n + 1) fun i => .lst (tab (n + 1) fun j => oT (G i j)))) := e0
   have f3 : σ 3 = some (.lst (tab (n + 1) fun i => .lst (tab (n + 1) fun j => oT (F i j)))) := e3
   have eqi : Z5 (Z0 R i) = .tup [.int (Z0 R i).1, .int (Z0 R i).2] := rfl
   have eqj : Z5 (Z0 R j) = .tup [.int (Z0 R j).1, .int (Z0 R j).2] := rfl
   clear e0 e3
   walk_at "zz"
   rw [eqi]
   walk_at "zz"
   rw [eqj]
   walk_at "zz"
   refine ZI (Zms (ZbT (hi1.bd hM bM).1 (by omega)) (ZbT (hj1.bd hM bM).1 (by omega))) ?_
   walk_at "zz"
   rw [eqi]
   walk_at "zz"
   rw [eqj]
   walk_at "zz"
   have hm0 : (0 : Int) ≤ ((Int.gcd (Z0 R i).1 (Z0 R j).1 : Nat) : Int) := by omega
   generalize ((Int.gcd (Z0 R i).1 (Z0 R j).1 : Nat) : Int) = m at *
   generalize (Z0 R i).2 - (Z0 R j).2 = r at *
   refine ⟨fun c => ?_, fun c => ⟨fun h => (nomatch h), fun _ => ?_⟩⟩
   ·have cne : (i : Int) ≠ j := of_decide_eq_true c
    by_cases cm : m = 0
    ·rw [if_pos cm] at lw
     walk_at "zz"
     cases hg : G i j with
     | none =>
      rw [hg] at lw
      rw [Zbg]
      walk_at "zz"
      rw [← Zap (c := r), Zd6]
      exact ⟨_, by walk_at "zr", by walk_at "zr", by walk_at "zr", by walk_at "zr", Zm6 lt lw⟩
     | some b =>
      rw [hg] at lw
      rw [Zap]
      walk_at "zz"
      by_cases cb : b < r
      ·walk_at "zz"
       refine .inr ⟨rfl, i, j, hi, hj, b, hg, ?_⟩
       rw [lw]
       exact if_neg (by omega)
      ·walk_at "zz"
       rw [← Zap (c := r), Zd6]
       exact ⟨_, by walk_at "zr", by walk_at "zr", by walk_at "zr", by walk_at "zr", Zm6 lt (by rw [lw]; exact if_pos (by omega))⟩
    ·rw [if_neg cm] at lw
     walk_at "zz"
     cases hg : G i j with
     | none =>
      rw [hg] at lw
      rw [Zbg]
      walk_at "zz"
      exact ⟨F, by walk_at "zr", by walk_at "zr", by walk_at "zr", by walk_at "zr", ZpH lt (by rw [hg, lw])⟩
     | some b =>
      rw [hg] at lw
      rw [Zap]
      walk_at "zz"
      rw [Int.fmod_eq_emod_of_nonneg _ hm0]
      walk_at "zz"
      rw [← Zap (c := b - (b - r) % m), Zd6]
      exact ⟨_, by walk_at "zr", by walk_at "zr", by walk_at "zr", by walk_at "zr", Zm6 lt lw⟩
   ·have ceq : i = j := by
     have := of_decide_eq_false c
     omega
    walk_at "zz"
    subst ceq
    exact ⟨F, by walk_at "zr", by walk_at "zr", by walk_at "zr", by walk_at "zr", ZpH lt (by rw [hd _ hi, hlz _ hi])⟩
  ·rintro σ ⟨F, e0, e2, e3, e4, lt⟩
   exact ⟨F, e0, e2, e3, fun a b ha hb => ⟨fun q => (lt a b ha hb).1 (by omega), fun q => (lt a b ha hb).2 (by omega)⟩⟩
 ·rintro σ ⟨F, e0, e2, e3, lt⟩
  walk_at "zz"
  refine .inl ⟨?_, ?_⟩
  ·unfold Z8 Zay
   congr 1
   refine Zbj fun a ha => ?_
   congr 1
   refine Zbj fun b hb => ?_
   rw [((lt a b ha hb).1 (by omega)).1]
  ·rintro ⟨a, b, ha, hb, c, hc, e⟩
   exact ((lt a b ha hb).1 (by omega)).2 c hc e
noncomputable def Zca (G : Nat → Nat → Option Int) : Nat → List Nat → Nat → Option Int
 | i, [], j => G i j
 | i, k :: l, j => Zak (G i k) (Zca G k l j)
theorem Zc2 (G : Nat → Nat → Option Int) : ∀ (i : Nat) (l1 : List Nat) (k : Nat) (l2 : List Nat) (j : Nat), Zca G i (l1 ++ k :: l2) j = Zak (Zca G i l1 k) (Zca G k l2 j)
 | i, [], k, l2, j => rfl
 | i, a :: l1, k, l2, j => by
  show Zak (G i a) (Zca G a (l1 ++ k :: l2) j) = Zak (Zak (G i a) (Zca G a l1 k)) (Zca G k l2 j)
  rw [Zc2 G a l1 k l2 j, Zgp]
theorem Zqp {n : Nat} {G C : Nat → Nat → Option Int} (hle : ∀ i j, i < n → j < n → leO (C i j) (G i j)) (tri : ∀ k i j, k < n → i < n → j < n → leO (C i j) (Zak (C i k) (C k j))) : ∀ (l : List Nat) (i j : Nat), (∀ a ∈ l, a < n) → i < n → j < n → leO (C i j) (Zca G i l j)
 | [], i, j, _, hi, hj => hle i j hi hj
 | k :: l, i, j, hl, hi, hj => by
  have hk := hl k Zz5
  exact Zcu (tri k i j hk hi hj) (Zfu (hle i k hi hk) (Zqp hle tri l k j (fun a m => hl a (Zz2 _ m)) hk hj))
theorem Zg3 {n : Nat} {G : Nat → Nat → Option Int} : ∀ (m : Nat), m ≤ n → ∀ i j c, clG G m i j = some c → ∃ l : List Nat, (∀ a ∈ l, a < n) ∧ Zca G i l j = some c
 | 0, _, i, j, c, h => ⟨[], by simp, h⟩
 | m + 1, hm, i, j, c, h => by
  rcases ZeL (clG G m i j) (Zak (clG G m i m) (clG G m m j)) with e | e
  ·rw [show clG G (m + 1) i j = _ from e] at h
   exact Zg3 (n := n) m (by omega) i j c h
  ·rw [show clG G (m + 1) i j = _ from e] at h
   obtain ⟨p, q, h1, h2, h3⟩ := addO_some.mp h
   obtain ⟨l1, a1, b1⟩ := Zg3 (n := n) m (by omega) i m p h1
   obtain ⟨l2, a2, b2⟩ := Zg3 (n := n) m (by omega) m j q h2
   refine ⟨l1 ++ m :: l2, fun a ha => ?_, by rw [Zc2, b1, b2]; simp [Zak, h3]⟩
   rcases Zz8.mp ha with ha | ha
   ·exact a1 a ha
   ·rcases Zz7.mp ha with rfl | ha
    ·omega
    ·exact a2 a ha
theorem Zm7 : ∀ (n : Nat) (l : List Nat), l.Nodup → (∀ a ∈ l, a < n) → l.length ≤ n
 | 0, l, _, h => by
  cases l with
  | nil => simp
  | cons a l => exact absurd (h a Zz5) (by omega)
 | n + 1, l, hn, h => by
  have h1 := Zm7 n (l.erase n) (hn.erase n) fun a ha => by
   have ha' := List.mem_of_mem_erase ha
   have := h a ha'
   have hne : a ≠ n := fun q => by
    subst q
    exact (List.Nodup.not_mem_erase hn) ha
   omega
  have h2 := List.length_erase_of_mem (a := n) (l := l)
  by_cases q : n ∈ l
  ·have := h2 q; have : 0 < l.length := List.length_pos_of_mem q; omega
  ·rw [List.erase_of_not_mem q] at h1; omega
theorem Zm8 : ∀ (l : List Nat), ¬ l.Nodup → ∃ k l1 l2 l3, l = l1 ++ k :: (l2 ++ k :: l3)
 | [], h => absurd List.nodup_nil h
 | a :: l, h => by
  by_cases q : a ∈ l
  ·obtain ⟨l2, l3, e⟩ := List.append_of_mem q
   exact ⟨a, [], l2, l3, by rw [e]; rfl⟩
  ·have : ¬ l.Nodup := fun n => h (List.nodup_cons.mpr ⟨q, n⟩)
   obtain ⟨k, l1, l2, l3, e⟩ := Zm8 l this
   exact ⟨k, a :: l1, l2, l3, by rw [e]; rfl⟩
theorem Zwo (pos : ∀ k l s, k < n → (∀ a ∈ l, a < n) → Zca G k l k = some s → 0 ≤ s) (hi : i < n) (hj : j < n) : ∀ (L : Nat) (l : List Nat) (s : Int), l.length = L → (∀ a ∈ l, a < n) → Zca G i l j = some s → ∃ l' s', l'.length + 1 ≤ n ∧ (∀ a ∈ l', a < n) ∧ Zca G i l' j = some s' ∧ s' ≤ s := by
 intro L
 induction L using Nat.strongRecOn with
 | _ L ih =>
  intro l s hL hl h
  by_cases q : i ∈ l
  ·obtain ⟨l1, l2, e⟩ := List.append_of_mem q
   subst e
   rw [Zc2] at h
   obtain ⟨p, r, h1, h2, h3⟩ := addO_some.mp h
   have hp := pos i l1 p hi (fun a ha => hl a (Zz4 _ ha)) h1
   obtain ⟨l', s', k1, k2, k3, k4⟩ := ih l2.length (by rw [← hL]; simp; omega) l2 r rfl (fun a ha => hl a (Zz3 _ (Zz2 _ ha))) h2
   exact ⟨l', s', k1, k2, k3, by omega⟩
  ·by_cases nd : l.Nodup
   ·have := Zm7 n (i :: l) (List.nodup_cons.mpr ⟨q, nd⟩) (fun a ha => by
     rcases Zz7.mp ha with rfl | ha
     ·exact hi
     ·exact hl a ha)
    exact ⟨l, s, by simpa using this, hl, h, by omega⟩
   ·obtain ⟨k, l1, l2, l3, e⟩ := Zm8 l nd
    subst e
    rw [Zc2] at h
    obtain ⟨p, r, h1, h2, h3⟩ := addO_some.mp h
    rw [Zc2] at h2
    obtain ⟨p2, r2, h4, h5, h6⟩ := addO_some.mp h2
    have hk : k < n := hl k (by simp)
    have hp := pos k l2 p2 hk (fun a ha => hl a (by simp [ha])) h4
    have h7 : Zca G i (l1 ++ k :: l3) j = some (p + r2) := by rw [Zc2, h1, h5]; rfl
    obtain ⟨l', s', k1, k2, k3, k4⟩ := ih (l1 ++ k :: l3).length (by rw [← hL]; simp; omega) (l1 ++ k :: l3) (p + r2) rfl (fun a ha => hl a (by simp at ha ⊢; rcases ha with h | h | h <;> simp [h])) h7
    exact ⟨l', s', k1, k2, k3, by omega⟩
theorem ZtN : ∀ (L : Nat) (i : Nat) (l : List Nat) (s : Int), l.length = L → i < n → (∀ a ∈ l, a < n) → Zca G i l i = some s → s < 0 → ∃ i' l' s', l'.length + 1 ≤ n ∧ i' < n ∧ (∀ a ∈ l', a < n) ∧ Zca G i' l' i' = some s' ∧ s' < 0 := by
 intro L
 induction L using Nat.strongRecOn with
 | _ L ih =>
  intro i l s hL hi hl h hs
  by_cases q : i ∈ l
  ·obtain ⟨l1, l2, e⟩ := List.append_of_mem q
   subst e
   rw [Zc2] at h
   obtain ⟨p, r, h1, h2, h3⟩ := addO_some.mp h
   by_cases hp : p < 0
   ·exact ih l1.length (by rw [← hL]; simp) i l1 p rfl hi (fun a ha => hl a (Zz4 _ ha)) h1 hp
   ·exact ih l2.length (by rw [← hL]; simp; omega) i l2 r rfl hi (fun a ha => hl a (Zz3 _ (Zz2 _ ha))) h2 (by omega)
  ·by_cases nd : l.Nodup
   ·have := Zm7 n (i :: l) (List.nodup_cons.mpr ⟨q, nd⟩) (fun a ha => by
     rcases Zz7.mp ha with rfl | ha
     ·exact hi
     ·exact hl a ha)
    exact ⟨i, l, s, by simpa using this, hi, hl, h, hs⟩
   ·obtain ⟨k, l1, l2, l3, e⟩ := Zm8 l nd
    subst e
    rw [Zc2] at h
    obtain ⟨p, r, h1, h2, h3⟩ := addO_some.mp h
    rw [Zc2] at h2
    obtain ⟨p2, r2, h4, h5, h6⟩ := addO_some.mp h2
    have hk : k < n := hl k (by simp)
    by_cases hp : p2 < 0
    ·exact ih l2.length (by rw [← hL]; simp; omega) k l2 p2 rfl hk (fun a ha => hl a (by simp [ha])) h4 hp
    ·have h7 : Zca G i (l1 ++ k :: l3) i = some (p + r2) := by rw [Zc2, h1, h5]; rfl
     exact ih (l1 ++ k :: l3).length (by rw [← hL]; simp; omega) i (l1 ++ k :: l3) (p + r2) rfl hi (fun a ha => hl a (by simp at ha ⊢; rcases ha with h | h | h <;> simp [h])) h7 (by omega)
noncomputable def Ze4 (n r : Nat) (G D : Nat → Nat → Option Int) : Prop := (∀ i j, i < n → j < n → ∀ c, D i j = some c → ∃ l : List Nat, (∀ a ∈ l, a < n) ∧ Zca G i l j = some c) ∧ ∀ (l : List Nat) i j, l.length + 1 ≤ r → (∀ a ∈ l, a < n) → i < n → j < n → leO (D i j) (Zca G i l j)
theorem Zvj : Ze4 n 1 G G := ⟨fun i j _ _ c h => ⟨[], by simp, h⟩, fun l i j h _ _ _ => by
 have : l = [] := List.length_eq_zero_iff.mp (by omega)
 subst this
 exact ZcI⟩
noncomputable def ZrM (n : Nat) (D D' : Nat → Nat → Option Int) : Prop := ∀ i j, i < n → j < n → leO (D' i j) (D i j) ∧ (∀ k, k < n → leO (D' i j) (Zak (D i k) (D k j))) ∧ (D' i j = D i j ∨ ∃ k, k < n ∧ D' i j = Zak (D i k) (D k j))
theorem ZtO {r : Nat} {D D' : Nat → Nat → Option Int} (h : Ze4 n r G D) (t : ZrM n D D') : Ze4 n (2 * r) G D' := by
 refine ⟨fun i j hi hj c e => ?_, fun l i j hl ha hi hj => ?_⟩
 ·obtain ⟨_, _, e1 | ⟨k, hk, e1⟩⟩ := t i j hi hj
  ·rw [e1] at e; exact h.1 i j hi hj c e
  ·rw [e1] at e
   obtain ⟨p, q, h1, h2, h3⟩ := addO_some.mp e
   obtain ⟨l1, a1, b1⟩ := h.1 i k hi hk p h1
   obtain ⟨l2, a2, b2⟩ := h.1 k j hk hj q h2
   refine ⟨l1 ++ k :: l2, fun a ha => ?_, by rw [Zc2, b1, b2]; simp [Zak, h3]⟩
   rcases Zz8.mp ha with ha | ha
   ·exact a1 a ha
   ·rcases Zz7.mp ha with rfl | ha
    ·exact hk
    ·exact a2 a ha
 ·obtain ⟨t1, t2, _⟩ := t i j hi hj
  by_cases q : l.length + 1 ≤ r
  ·exact Zcu t1 (h.2 l i j q ha hi hj)
  ·have hr : 1 ≤ r := by omega
   have hlt : r - 1 < l.length := by omega
   obtain ⟨k, l1, l2, e, hl1⟩ : ∃ k l1 l2, l = l1 ++ k :: l2 ∧ l1.length = r - 1 := ⟨l[r - 1], l.take (r - 1), l.drop r, by
    have e1 := (List.take_append_drop (r - 1) l).symm
    rw [List.drop_eq_getElem_cons hlt, show r - 1 + 1 = r by omega] at e1
    exact e1, by simp; omega⟩
   subst e
   have hk : k < n := ha k (by simp)
   rw [Zc2]
   refine Zcu (t2 k hk) (Zfu (h.2 l1 i k (by omega) (fun a m => ha a (Zz4 _ m)) hi hk) (h.2 l2 k j ?_ (fun a m => ha a (Zz3 _ (Zz2 _ m))) hk hj))
   simp at hl
   omega
theorem ZtP {r : Nat} {D : Nat → Nat → Option Int} (hd : ∀ i, i < n → G i i = some 0) (hr : n ≤ r) (b : Ze4 n r G D) (nn : ∀ m, m < n → ¬ Neg n (clG G (m + 1))) : ∀ i j, i < n → j < n → D i j = clG G n i j := by
 intro i j hi hj
 have low := Zqp (n := n) (G := G) (C := clG G n) (fun i j _ _ => Zg9 n i j) (fun k i j hk hi hj => Zok hd n (by omega) nn k hk i j hi hj)
 have zero := ZeM hd (m := n) nn
 have pos : ∀ k l s, k < n → (∀ a ∈ l, a < n) → Zca G k l k = some s → 0 ≤ s := fun k l s hk hl e => by
  have := low l k k hl hk hk
  rw [zero k hk, e] at this
  exact leO_some.mp this
 refine ZsX ?_ ?_
 ·intro c e
  obtain ⟨l, h1, h2⟩ := Zg3 n (Zz10 n) i j c e
  obtain ⟨l', s', k1, k2, k3, k4⟩ := Zwo pos hi hj _ l c rfl h1 h2
  have := b.2 l' i j (by omega) k2 hi hj
  rw [k3] at this
  obtain ⟨x, e1, e2⟩ := this s' rfl
  exact ⟨x, e1, by omega⟩
 ·intro c e
  obtain ⟨l, h1, h2⟩ := b.1 i j hi hj c e
  have := low l i j h1 hi hj
  rw [h2] at this
  exact this c rfl
theorem Zux {r : Nat} {D : Nat → Nat → Option Int} (hr : n ≤ r) (b : Ze4 n r G D) (hm : m < n) (ng : Neg n (clG G (m + 1))) : Neg n D := by
 obtain ⟨i, hi, c, e, hc⟩ := ng
 obtain ⟨l, h1, h2⟩ := Zg3 (n := n) (m + 1) (by omega) i i c e
 obtain ⟨i', l', s', k1, k2, k3, k4, k5⟩ := ZtN _ i l c rfl hi h1 h2 hc
 have := b.2 l' i' i' (by omega) k3 k2 k2
 rw [k4] at this
 obtain ⟨x, e1, e2⟩ := this s' rfl
 exact ⟨i', k2, x, e1, by omega⟩
noncomputable def ZdL (n : Nat) (D F : Nat → Nat → Option Int) (done : Nat → Nat → Nat → Prop) : Prop := ∀ a b, a < n → b < n → leO (F a b) (D a b) ∧ (F a b = D a b ∨ ∃ k, k < n ∧ F a b = Zak (D a k) (D k b)) ∧ ∀ k, k < n → done a b k → leO (F a b) (Zak (D a k) (D k b))
theorem Zm9 {D : Nat → Nat → Option Int} (h : ZdL n D F done) (hd : ∀ a b c, c < n → done' a b c → done a b c ∨ (a = i ∧ b = j ∧ c = k)) (hl : leO (F i j) (Zak (D i k) (D k j))) : ZdL n D F done' := fun a b ha hb => by
 obtain ⟨h1, h2, h3⟩ := h a b ha hb
 refine ⟨h1, h2, fun c hc q => ?_⟩
 rcases hd a b c hc q with q | ⟨rfl, rfl, rfl⟩
 ·exact h3 c hc q
 ·exact hl
theorem Zvk {D : Nat → Nat → Option Int} (h : ZdL n D F done) (hi : i < n) (hj : j < n) (hk : k < n) (hd : ∀ a b c, c < n → done' a b c → done a b c ∨ (a = i ∧ b = j ∧ c = k)) (hl : leO (Zak (D i k) (D k j)) (F i j)) : ZdL n D (Zb0 F i j (Zak (D i k) (D k j))) done' := fun a b ha hb => by
 by_cases q : a = i ∧ b = j
 ·obtain ⟨rfl, rfl⟩ := q
  obtain ⟨h1, h2, h3⟩ := h a b ha hb
  rw [ZiT]
  refine ⟨Zcu hl h1, .inr ⟨k, hk, rfl⟩, fun c hc q => ?_⟩
  rcases hd a b c hc q with q | ⟨_, _, rfl⟩
  ·exact Zcu hl (h3 c hc q)
  ·exact ZcI
 ·rw [ZgR q]
  obtain ⟨h1, h2, h3⟩ := h a b ha hb
  refine ⟨h1, h2, fun c hc q' => ?_⟩
  rcases hd a b c hc q' with q' | ⟨rfl, rfl, _⟩
  ·exact h3 c hc q'
  ·exact absurd ⟨rfl, rfl⟩ q
theorem ZgC {D : Nat → Nat → Option Int} (h : ZdL n D F done) (hd : ∀ a b c, a < n → b < n → c < n → done' a b c → done a b c) : ZdL n D F done' := fun a b ha hb => by
 obtain ⟨h1, h2, h3⟩ := h a b ha hb
 exact ⟨h1, h2, fun c hc q => h3 c hc (hd a b c ha hb hc q)⟩
theorem ZtQ {D : Nat → Nat → Option Int} (h : ZdL n D F fun _ _ _ => True) : ZrM n D F := fun a b ha hb => by
 obtain ⟨h1, h2, h3⟩ := h a b ha hb
 exact ⟨h1, fun k hk => h3 k hk trivial, h2⟩
theorem ZsE (h0 : 0 < n) (hn : n ≤ 100) (hd : ∀ i, i < n → G i i = some 0) : Pk (Ze5 [Z8 n G]) fun t => ∃ r D, n ≤ r ∧ Ze4 n r G D ∧ ((t = Z8 n D ∧ ¬ Neg n D) ∨ (t = .none ∧ Neg n D)) := by
 unfold Ze5 ZjA
 have hg : Z8 n G = .lst (tab n fun i => Zay n (G i)) := rfl
 walk_at "zz"
 rw [hg]
 walk_at "zz"
 refine Zif (n := n) (G := G) (by omega) ?_ ?_
 ·walk_at "zz"
  rfl
 walk_at "zz"
 refine Zfw (fun m σ => ∃ (r : Nat) (D : Nat → Nat → Option Int), σ 1 = some (.int n) ∧ σ 2 = some (Z8 n D) ∧ σ 3 = some (.int r) ∧ Ze4 n r G D ∧ 1 ≤ r ∧ r ≤ 2 * n ∧ m = 2 * n - r) _ _ ?_ 1000000 (m := 2 * n - 1) ⟨1, G, by walk_at "zr", by walk_at "zr", by walk_at "zr", Zvj, by omega, by omega, rfl⟩ (by omega)
 rintro m σ ⟨r, D, e1, e2, e3, bs, r1, r2, rfl⟩
 have hdD : ∀ i, i < n → ∃ b, D i i = some b := fun i hi => by
  have := bs.2 [] i i (by simpa using r1) (by simp) hi hi
  rw [show Zca G i [] i = some 0 from hd i hi] at this
  obtain ⟨x, e, _⟩ := this 0 rfl
  exact ⟨x, e⟩
 walk_at "zz"
 refine ⟨fun c => ?_, fun c => ?_⟩
 ·have hrn : r < n := by simpa using c
  walk_at "zz"
  refine Zif (n := n) (G := D) (by omega) ?_ ?_
  ·walk_at "zz"
   rfl
  walk_at "zz"
  refine ZbV (n := n) (a := fun i => .int i) (P := fun i σ => ∃ F, σ 1 = some (.int n) ∧ σ 2 = some (Z8 n F) ∧ σ 3 = some (.int r) ∧ σ 4 = some (Z8 n D) ∧ ZdL n D F fun a _ _ => a < i) ?_ ⟨D, by walk_at "zr", by walk_at "zr", by walk_at "zr", by walk_at "zr", fun a b _ _ => ⟨ZcI, .inl rfl, fun k _ q => by omega⟩⟩ ?_ ?_
  ·walk_at "zz"
   rfl
  ·rintro i σ hi ⟨F0, f1, f2, f3, f4, pt⟩
   refine ZbV (n := n) (a := fun i => .int i) (P := fun j σ => ∃ F, σ 1 = some (.int n) ∧ σ 2 = some (Z8 n F) ∧ σ 3 = some (.int r) ∧ σ 4 = some (Z8 n D) ∧ σ 5 = some (.int i) ∧ ZdL n D F fun a b _ => a < i ∨ (a = i ∧ b < j)) ?_ ⟨F0, by walk_at "zr", by walk_at "zr", by walk_at "zr", by walk_at "zr", by walk_at "zr", ZgC pt fun a b c _ _ _ q => by omega⟩ ?_ ?_
   ·walk_at "zz"
    rfl
   ·rintro j σ hj ⟨F1, f1, f2, f3, f4, f5, pt⟩
    refine ZbV (n := n) (a := fun i => .int i) (P := fun k σ => ∃ F, σ 1 = some (.int n) ∧ σ 2 = some (Z8 n F) ∧ σ 3 = some (.int r) ∧ σ 4 = some (Z8 n D) ∧ σ 5 = some (.int i) ∧ σ 6 = some (.int j) ∧ ZdL n D F fun a b c => a < i ∨ (a = i ∧ (b < j ∨ (b = j ∧ c < k)))) ?_ ⟨F1, by walk_at "zr", by walk_at "zr", by walk_at "zr", by walk_at "zr", by walk_at "zr", by walk_at "zr", ZgC pt fun a b c _ _ _ q => by omega⟩ ?_ ?_
    ·walk_at "zz"
     rfl
    ·rintro k σ hk ⟨F, f1, f2, f3, f4, f5, f6, pt⟩
     have hdn : ∀ a b c, c < n → (a < i ∨ (a = i ∧ (b < j ∨ (b = j ∧ c < k + 1)))) → (a < i ∨ (a = i ∧ (b < j ∨ (b = j ∧ c < k)))) ∨ (a = i ∧ b = j ∧ c = k) := fun a b c _ q => by omega
     have f2' := f2
     unfold Z8 Zay at f2 f4
     walk_at "zz"
     cases hik : D i k with
     | none =>
      rw [Zbg]
      walk_at "zz"
      exact ⟨F, by walk_at "zr", by walk_at "zr", by walk_at "zr", by walk_at "zr", by walk_at "zr", by walk_at "zr", Zm9 pt hdn (by rw [hik]; exact Zdl)⟩
     | some p =>
      rw [Zap]
      walk_at "zz"
      cases hkj : D k j with
      | none =>
       rw [Zbg]
       walk_at "zz"
       exact ⟨F, by walk_at "zr", by walk_at "zr", by walk_at "zr", by walk_at "zr", by walk_at "zr", by walk_at "zr", Zm9 pt hdn (by rw [hik, hkj]; exact Zdl)⟩
      | some q =>
       rw [Zap]
       walk_at "zz"
       rw [hik, hkj, Zap, Zap]
       have hs : Zak (D i k) (D k j) = some (p + q) := by rw [hik, hkj]; rfl
       have hset := Zvk pt hi hj hk hdn
       have hkeep := Zm9 pt hdn
       rw [hs] at hset hkeep
       clear f2'
       walk_at "zz"
       cases hij : F i j with
       | none =>
        rw [Zbg]
        walk_at "zz"
        rw [← Zap (c := p + q), Zd6]
        exact ⟨_, by walk_at "zr", by walk_at "zr", by walk_at "zr", by walk_at "zr", by walk_at "zr", by walk_at "zr", hset (by rw [hij]; exact Zdl)⟩
       | some g =>
        rw [Zap]
        walk_at "zz"
        rw [hij, Zap]
        walk_at "zz"
        by_cases hlt : p + q < g
        ·walk_at "zz"
         rw [← Zap (c := p + q), Zd6]
         exact ⟨_, by walk_at "zr", by walk_at "zr", by walk_at "zr", by walk_at "zr", by walk_at "zr", by walk_at "zr", hset (by rw [hij]; exact leO_some.mpr (by omega))⟩
        ·walk_at "zz"
         exact ⟨F, by walk_at "zr", by walk_at "zr", by walk_at "zr", by walk_at "zr", by walk_at "zr", by walk_at "zr", hkeep (by rw [hij]; exact leO_some.mpr (by omega))⟩
    ·rintro σ ⟨F, f1, f2, f3, f4, f5, f6, pt⟩
     exact ⟨F, f1, f2, f3, f4, f5, ZgC pt fun a b c _ _ hc q => by omega⟩
   ·rintro σ ⟨F, f1, f2, f3, f4, f5, pt⟩
    exact ⟨F, f1, f2, f3, f4, ZgC pt fun a b c _ hb _ q => by omega⟩
  ·rintro σ ⟨F, f1, f2, f3, f4, pt⟩
   walk_at "zz"
   refine ZqU (by decide) (by decide) ?_
   walk_at "zz"
   exact ⟨2 * n - 2 * r, by omega, 2 * r, F, by walk_at "zr", by walk_at "zr", by rw [show ((2 * r : Nat) : Int) = 2 * (r : Int) by omega]; walk_at "zr", ZtO bs (ZtQ (ZgC pt fun a b c ha _ _ _ => ha)), by omega, by omega, rfl⟩
 ·have hrn : n ≤ r := by simp at c; omega
  refine ZeO ?_
  refine ZbV (n := n) (a := fun i => .int i) (P := fun i σ => σ 2 = some (Z8 n D) ∧ ∀ a, a < i → ∀ b, D a a = some b → 0 ≤ b) ?_ ⟨e2, by omega⟩ ?_ ?_
  ·walk_at "zz"
   rfl
  ·rintro i σ hi ⟨f2, f3⟩
   unfold Z8 Zay at f2
   obtain ⟨b, eb⟩ := hdD i hi
   walk_at "zz"
   rw [eb, Zap]
   walk_at "zz"
   by_cases hb : b < 0
   ·walk_at "zz"
    exact ⟨r, D, hrn, bs, .inr ⟨rfl, i, hi, b, eb, hb⟩⟩
   ·walk_at "zz"
    refine ⟨by walk_at "zr", fun a ha c hc => ?_⟩
    by_cases q : a = i
    ·subst q; rw [eb] at hc; cases hc; omega
    ·exact f3 a (by omega) c hc
  ·rintro σ ⟨f2, f3⟩
   walk_at "zz"
   refine ⟨r, D, hrn, bs, .inl ⟨rfl, ?_⟩⟩
   rintro ⟨i, hi, b, eb, hb⟩
   have := f3 i hi b eb
   omega
theorem Zq2 (hn : n ≤ 99) (hd : ∀ i, i < n + 1 → G i i = some 0) : Pk (Ze5 [Z8 (n + 1) G]) fun t => (t = Z8 (n + 1) (clG G (n + 1)) ∧ ¬ Zch (n + 1) G) ∨ (t = .none ∧ Zch (n + 1) G) := by
 refine (ZsE (by omega) (by omega) hd).mono ?_
 rintro t ⟨r, D, hr, bs, h⟩
 by_cases hc : Zch (n + 1) G
 ·obtain ⟨m, hm, ng⟩ := hc
  have ng2 := Zux hr bs hm ng
  rcases h with ⟨_, h⟩ | ⟨h, _⟩
  ·exact absurd ng2 h
  ·exact .inr ⟨h, m, hm, ng⟩
 ·have nn : ∀ m, m < n + 1 → ¬ Neg (n + 1) (clG G (m + 1)) := fun m hm q => hc ⟨m, hm, q⟩
  have same := ZtP hd hr bs nn
  have hz := ZeM hd nn
  rcases h with ⟨h, _⟩ | ⟨_, i, hi, b, e, hb⟩
  ·refine .inl ⟨?_, hc⟩
   rw [h]
   unfold Z8 Zay
   congr 1
   refine Zbj fun i hi => ?_
   congr 1
   refine Zbj fun j hj => ?_
   rw [same i j hi hj]
  ·rw [same i i hi hi, hz i hi] at e
   cases e
   omega
theorem Zs0 (hn : n ≤ 99) (hk : k + 2 * n + 4 ≤ 7000) (hM : 0 < M) (bM : Bd k M) (hd : ∀ i, i < n + 1 → G i i = some 0) (bG : BdG (n + 1) k G) (hR : ∀ t, t < n → RB M k (R t)) : Pk (ZdQ [ZR n G R]) fun t => (∃ G2 R2, t = ZR n G2 R2 ∧ Sharp n G R G2 R2 M (k + 2 * n + 5)) ∨ (t = .none ∧ Zfv n G R M (k + n + 2)) := by
 unfold ZdQ Zls
 have ht : ZR n G R = .tup [Z8 (n + 1) G, Za5 n R] := rfl
 have hg : ∀ G, Z8 (n + 1) G = .lst (tab (n + 1) fun i => Zay (n + 1) (G i)) := fun _ => rfl
 have hr : ∀ R, Za5 n R = .lst (tab n fun i => Z5 (R i)) := fun _ => rfl
 rw [ht]
 walk_at "zz"
 refine (Zq2 hn hd).mono ?_
 rintro t (⟨rfl, nr⟩ | ⟨rfl, h⟩)
 ·rw [hg (clG G (n + 1))]
  walk_at "zz"
  rw [← hg (clG G (n + 1))]
  refine (ZoX (k := k + n + 1) (by omega) (by omega) hM (bM.mono (by omega)) (Zer bG (n + 1) (by omega)) (fun t ht => (hR t ht).mono (by omega))).mono ?_
  rintro t (⟨R1, rfl, h1⟩ | ⟨rfl, h⟩)
  ·have hR1 : ∀ t, t < n → RB M (k + n + 2) (R1 t) := fun t ht => (h1 t ht).1
   have hF1 := Zdm hR1
   have z1 := ZeM hd (m := n + 1) fun m hm q => nr ⟨m, hm, q⟩
   rw [hr R1]
   walk_at "zz"
   rw [← hr R1]
   refine (Zsl (k := k + n + 2) (by omega) (by omega) hM (bM.mono (by omega)) hR1 z1).mono ?_
   rintro t (⟨rfl, nl⟩ | ⟨rfl, fl⟩)
   ·have bG1 : BdG (n + 1) (k + n + 3) (ZaT (clG G (n + 1)) R1) := Zol hM (bM.mono (by omega)) (fun a b c ha hb e => (Zer bG (n + 1) (by omega) a b c ha hb e).mono (by omega)) hR1
    have z2 := Ziz (fun i hi => (hF1 i hi).1) z1
    rw [hg (ZaT (clG G (n + 1)) R1)]
    walk_at "zz"
    rw [← hg (ZaT (clG G (n + 1)) R1)]
    refine (Zq2 hn z2).mono ?_
    rintro t (⟨rfl, nr2⟩ | ⟨rfl, h2⟩)
    ·rw [hg (clG (ZaT (clG G (n + 1)) R1) (n + 1))]
     walk_at "zz"
     rw [← hg (clG (ZaT (clG G (n + 1)) R1) (n + 1))]
     refine (ZoX (k := k + n + 3 + n + 1) (by omega) (by omega) hM (bM.mono (by omega)) (fun a b c ha hb e => Zer bG1 (n + 1) (by omega) a b c ha hb e) (fun t ht => (hR1 t ht).mono (by omega))).mono ?_
     rintro t (⟨R2, rfl, h2⟩ | ⟨rfl, h2⟩)
     ·rw [hr R2]
      walk_at "zz"
      exact .inl ⟨_, R2, rfl, ⟨R1, nr, h1.mono (by omega), nl, nr2, rfl, h2.mono (by omega)⟩⟩
     ·walk_at "zz"
      exact .inr ⟨rfl, .inr (.inr ⟨R1, nr, h1, .inr ⟨nl, .inr ⟨nr2, h2⟩⟩⟩)⟩
    ·walk_at "zz"
     exact .inr ⟨rfl, .inr (.inr ⟨R1, nr, h1, .inr ⟨nl, .inl h2⟩⟩)⟩
   ·walk_at "zz"
    exact .inr ⟨rfl, .inr (.inr ⟨R1, nr, h1, .inl fl⟩)⟩
  ·walk_at "zz"
   exact .inr ⟨rfl, .inr (.inl ⟨nr, h⟩)⟩
 ·walk_at "zz"
  exact .inr ⟨rfl, .inl h⟩
noncomputable def SameG (n : Nat) (A B : Nat → Nat → Option Int) : Prop := ∀ i j, i < n → j < n → A i j = B i j
theorem ZiV {n : Nat} {A B : Nat → Nat → Option Int} (h : SameG n A B) : ∀ m, m ≤ n → SameG n (clG A m) (clG B m)
 | 0, _ => h
 | m + 1, hm => fun i j hi hj => by
  have ih := ZiV h m (by omega)
  show Za2 (clG A m i j) (Zak (clG A m i m) (clG A m m j)) = Za2 (clG B m i j) (Zak (clG B m i m) (clG B m m j))
  rw [ih i j hi hj, ih i m hi (by omega), ih m j (by omega) hj]
theorem Zuy (h : SameG n A B) (r : Zch n A) : Zch n B := by
 obtain ⟨m, hm, i, hi, b, e, hb⟩ := r
 exact ⟨m, hm, i, hi, b, by rw [← ZiV h (m + 1) (by omega) i i hi hi]; exact e, hb⟩
noncomputable def SameR (n : Nat) (R S : Nat → Int × Int) : Prop := ∀ t, t < n → R t = S t
theorem Ziq (h : SameR n R S) : ∀ i, i < n + 1 → Z0 R i = Z0 S i
 | 0, _ => rfl
 | i + 1, hi => h i (by omega)
theorem ZnA (h : SameG (n + 1) A B) (hr : SameR n R S) : SameG (n + 1) (ZaT A R) (ZaT B S) := fun i j hi hj => by
 unfold ZaT ZbK
 rw [h i j hi hj, Ziq hr i hi, Ziq hr j hj]
theorem Zs1 (h : SameG (n + 1) A B) (hr : SameR n R S) (q : ZdF n A R) : ZdF n B S := by
 obtain ⟨i, j, hi, hj, b, e, l⟩ := q
 exact ⟨i, j, hi, hj, b, by rw [← h i j hi hj]; exact e, by rw [← ZnA h hr i j hi hj]; exact l⟩
theorem Zk5 (h : SameG (n + 1) A B) (hr : SameR n R S) (hi : i < n + 1) {x : Int} (q : ZcV n A R i (n + 1) x) : ZcV n B S i (n + 1) x := by
 refine ⟨by rw [← Ziq hr i hi]; exact q.1, fun j hj a b ha hb hab => ?_⟩
 rw [← Ziq hr j hj]
 exact q.2 j hj a b (by rw [h i j hi hj]; exact ha) (by rw [h j i hj hi]; exact hb) hab
theorem SameG.symm (h : SameG n A B) : SameG n B A := fun i j hi hj => (h i j hi hj).symm
theorem SameR.symm {A B : Nat → Int × Int} (h : SameR n A B) : SameR n B A := fun i hi => (h i hi).symm
theorem Zna {S' : Nat → Int × Int} (h : SameG (n + 1) A B) (hr : SameR n R S) (a : Hand n A R R' M k) (b : Hand n B S S' M' k') : SameR n R' S' := fun t ht =>
 ZhZ (a t ht).1.1 (b t ht).1.1 fun x => ((a t ht).2 x).trans (Iff.trans ⟨Zk5 h hr (by omega), Zk5 h.symm hr.symm (by omega)⟩ ((b t ht).2 x).symm)
theorem ZpX (h : SameG (n + 1) A B) (hr : SameR n R S) (a : Hand n A R R' M k) : ¬ Zfz n B S := by
 rintro ⟨i, hi, q⟩
 exact q _ (Zk5 h hr (by omega) (((a i hi).2 _).mp (a i hi).1.1.self))
theorem Zfm : SameG n A A := fun _ _ _ _ => rfl
theorem Zmw {A : Nat → Int × Int} : SameR n A A := fun _ _ => rfl
theorem Zuz (h : SameG (n + 1) A B) (hr : SameR n R S) : ZR n A R = ZR n B S := by
 unfold ZR Z8 Za5 Zay
 have e1 : (tab (n + 1) fun i => T.lst (tab (n + 1) fun j => oT (A i j))) = tab (n + 1) fun i => T.lst (tab (n + 1) fun j => oT (B i j)) := Zbj fun i hi => by
  congr 1
  exact Zbj fun j hj => by rw [h i j hi hj]
 have e2 : (tab n fun i => Z5 (R i)) = tab n fun i => Z5 (S i) := Zbj fun i hi => by rw [hr i hi]
 rw [e1, e2]
theorem ZtR {G2' : Nat → Nat → Option Int} {R2' : Nat → Int × Int} (a : Sharp n G R G2 R2 M k) (b : Sharp n G R G2' R2' M' k') : ZR n G2 R2 = ZR n G2' R2' := by
 obtain ⟨R1, a1, a2, a3, a4, rfl, a6⟩ := a.go
 obtain ⟨S1, b1, b2, b3, b4, rfl, b6⟩ := b.go
 have r1 := Zna Zfm Zmw a2 b2
 have g2 := ZiV (ZnA (A := clG G (n + 1)) Zfm r1) (n + 1) (by omega)
 exact Zuz g2 (Zna g2 r1 a6 b6)
theorem ZpY (a : Sharp n G R G2 R2 M k) (b : Zfv n G R M' k') : False := by
 obtain ⟨R1, a1, a2, a3, a4, rfl, a6⟩ := a.go
 rcases b with b | ⟨_, b⟩ | ⟨S1, b1, b2, b⟩
 ·exact a1 b
 ·exact ZpX Zfm Zmw a2 b
 ·have r1 := Zna Zfm Zmw a2 b2
  have g1 := ZnA (A := clG G (n + 1)) Zfm r1
  rcases b with b | ⟨_, b | ⟨_, b⟩⟩
  ·exact a3 (Zs1 Zfm r1.symm b)
  ·exact a4 (Zuy g1.symm b)
  ·exact ZpX (ZiV g1 (n + 1) (by omega)) r1 a6 b
theorem ZtS {t u : T} (h : (∃ G2 R2, t = ZR n G2 R2 ∧ Sharp n G R G2 R2 M (k + 2 * n + 5)) ∨ (t = .none ∧ Zfv n G R M (k + n + 2))) (h' : (∃ G2 R2, u = ZR n G2 R2 ∧ Sharp n G R G2 R2 M (k + 2 * n + 5)) ∨ (u = .none ∧ Zfv n G R M (k + n + 2))) : t = u := by
 rcases h with ⟨A, B, rfl, h⟩ | ⟨rfl, h⟩
 ·rcases h' with ⟨C, D, rfl, h'⟩ | ⟨rfl, h'⟩
  ·exact ZtR h h'
  ·exact absurd h' fun q => ZpY h q
 ·rcases h' with ⟨C, D, rfl, h'⟩ | ⟨rfl, h'⟩
  ·exact absurd h fun q => ZpY h' q
  ·rfl
theorem ZtT (hn : n ≤ 100) (hd : ∀ i, i < n + 1 → G i i = some 0) (ok : ∀ t, t < n → RestOk (R t)) : ZhS [ZR n G R, .int n] = some (.bool true) := by
 apply Pk.eq
 unfold ZhS Zlv ZR Za5
 walk_at "zz"
 rw [show (n : Int) + 1 = ((n + 1 : Nat) : Int) by omega]
 refine ZI (Zwg (by omega) hd) ?_
 walk_at "zz"
 refine ZbV (n := n) (a := fun i => Z5 (R i)) (P := fun _ _ => True) ?_ trivial ?_ ?_
 ·walk_at "zz"
  rfl
 ·rintro t σ ht _
  have ho := ok t ht
  unfold Z5
  walk_at "zz"
  refine ZI Zm1 ?_
  walk_at "zz"
  refine ZI Zm1 ?_
  walk_at "zz"
  have h0 := ho.nn
  walk_at "zz"
  rcases ho with h | h
  ·walk_at "zz"
   trivial
  ·walk_at "zz"
   trivial
 ·rintro σ _
  walk_at "zz"
  rfl
theorem ZtU (hd : ∀ i, i < n + 1 → G i i = some 0) (s : Sharp n G R G2 R2 M k) : (∀ i, i < n + 1 → G2 i i = some 0) ∧ ∀ k, k < n + 1 → ∀ i j, i < n + 1 → j < n + 1 → leO (G2 i j) (Zak (G2 i k) (G2 k j)) := by
 obtain ⟨R1, h1, h2, h3, h4, rfl, h6⟩ := s.go
 have hF := Zdm fun t ht => (h2 t ht).1
 have z1 := ZeM hd (m := n + 1) fun m hm q => h1 ⟨m, hm, q⟩
 have z2 := Ziz (fun i hi => (hF i hi).1) z1
 exact ⟨ZeM z2 fun m hm q => h4 ⟨m, hm, q⟩, Zok z2 (n + 1) (by omega) fun m hm q => h4 ⟨m, hm, q⟩⟩
noncomputable def Zdc (R : Nat → Int × Int) : Nat → Int
 | 0 => 1
 | t + 1 => Zdc R t * (if (R t).1 = 0 then 1 else (R t).1)
theorem Zir {n : Nat} {R : Nat → Int × Int} (h : ∀ t, t < n → RestOk (R t)) : ∀ m, m ≤ n → 0 < Zdc R m
 | 0, _ => by show (0 : Int) < 1; decide
 | m + 1, hm => by
  have ih := Zir h m (by omega)
  have := (h m (by omega)).nn
  unfold Zdc
  refine Int.mul_pos ih ?_
  split
  ·decide
  ·omega
theorem Zis {R : Nat → Int × Int} : ∀ m t, t < m → (R t).1 = 0 ∨ (R t).1 ∣ Zdc R m
 | m + 1, t, ht => by
  by_cases z : (R t).1 = 0
  ·exact .inl z
  ·right
   unfold Zdc
   by_cases q : t = m
   ·subst q
    rw [if_neg z]
    exact Int.dvd_mul_left _ _
   ·exact Int.dvd_trans ((Zis m t (by omega)).resolve_left z) (Int.dvd_mul_right _ _)
theorem ZiA {n k : Nat} {R : Nat → Int × Int} (hk : 1 ≤ k) (h : ∀ t, t < n → Bd k (R t).1) : ∀ m, m ≤ n → Bd (k * m + 1) (Zdc R m)
 | 0, _ => by rw [Nat.mul_zero]; exact Zeb (by omega)
 | m + 1, hm => by
  have ih := ZiA hk h m (by omega)
  unfold Zdc
  have h2 : Bd k (if (R m).1 = 0 then 1 else (R m).1) := by
   split
   ·exact Zeb hk
   ·exact h m (by omega)
  have := Bd.mul ih h2
  rw [Nat.mul_succ]
  exact this.mono (by omega)
theorem ZuA {k : Int} {B : Nat} (hL : Lay ns) (h0 : 0 ≤ k) (h9 : k ≤ 1000) (hn : n ≤ 9) (hB2 : 134 ≤ B) (hR : ∀ t, t < n → RestOk (R t)) (sR : SmR B n R) (sG : SmG B n G) : Pk (ZhD [scr ns, .int k, ZR n G R]) fun t => ∃ G' R', t = ZR n G' R' ∧ (∀ i, i < n + 1 → G' i i = G i i) ∧ (∀ t, t < n → RestOk (R' t)) ∧ SmG (B + 1) n G' ∧ SmR (B + 1) n R' := by
 unfold ZhD ZkI
 have ht : ZR n G R = .tup [.lst (tab (n + 1) fun i => Zay (n + 1) (G i)), .lst (tab n fun i => Z5 (R i))] := rfl
 have e134 : (2 : Nat) ^ 134 = 21778071482940061661655974875633165533184 := by decide
 have hpB : (2 : Nat) ^ 134 ≤ 2 ^ B := Nat.pow_le_pow_right (by decide) hB2
 have hpB1 : (2 : Nat) ^ (B + 1) = 2 ^ B * 2 := Nat.pow_succ ..
 have sG1 : SmG (B + 1) n G := fun i j hi hj b h => ZbT (sG i j hi hj b h) (by omega)
 have sR1 : SmR (B + 1) n R := fun t ht => ⟨ZbT (sR t ht).1 (by omega), ZbT (sR t ht).2 (by omega)⟩
 rw [ht]
 walk_at "zz"
 refine Zif (n := n + 1) (G := G) (by omega) ?_ ?_
 ·walk_at "zz"
  rfl
 unfold Z8 Zay
 walk_at "zz"
 obtain ⟨p0, p1⟩ := Zcl ns k (show (0 : Int) < ((n + 1 : Nat) : Int) by omega)
 obtain ⟨i, ei, hi⟩ := Zjb p0 p1
 obtain ⟨p2, p3⟩ := Zcl ns (k + 1) (show (0 : Int) < ((n + 1 : Nat) : Int) by omega)
 obtain ⟨j, ej, hj⟩ := Zjb p2 p3
 obtain ⟨w0, w1⟩ := Zcl ns (k + 2) (show (0 : Int) < 5 by decide)
 obtain ⟨u0, u1⟩ := Zcl ns (k + 3) (show (0 : Int) < 4 by decide)
 obtain ⟨u2, u3⟩ := Zcl ns (k + 3) (show (0 : Int) < 3 by decide)
 refine ZI (Zcm h0 (by omega) (by omega)) ?_
 rw [ei]
 walk_at "zz"
 refine ZI (Zcm (by omega) (by omega) (by omega)) ?_
 rw [ej]
 walk_at "zz"
 refine ZI (Zcm (by omega) (by omega) (by omega)) ?_
 walk_at "zz"
 generalize Zby ns (k + 2) 5 = w at w0 w1
 by_cases hw : w < 3 ∧ i ≠ j
 ·have hij : (i : Int) ≠ (j : Int) := by omega
  have hw3 := hw.1
  have fin : ∀ v, (∀ b, v = some b → b.natAbs < 2 ^ (B + 1)) → (∀ a, a < n + 1 → Zb0 G i j v a a = G a a) ∧ SmG (B + 1) n (Zb0 G i j v) := fun v hv => by
   refine ⟨fun a ha => by rw [ZgR (by omega)], fun a b ha hb c hc => ?_⟩
   by_cases q : a = i ∧ b = j
   ·obtain ⟨rfl, rfl⟩ := q; rw [ZiT] at hc; exact hv c hc
   ·rw [ZgR q] at hc; exact sG1 a b ha hb c hc
  cases hg : G i j with
  | none =>
   walk_at "zz"
   rw [hg, Zbg]
   walk_at "zz"
   refine ZI (ZgA hL (by omega) (by omega)) ?_
   walk_at "zz"
   rw [← Zap (c := Zcs ns (k + 3)), Zd6]
   walk_at "zz"
   have := ZiS ns (k + 3)
   obtain ⟨f1, f2⟩ := fin (some (Zcs ns (k + 3))) (fun b e => by cases e; omega)
   exact ⟨Zb0 G i j (some (Zcs ns (k + 3))), R, rfl, f1, hR, f2, sR1⟩
  | some g =>
   walk_at "zz"
   rw [hg, Zap]
   walk_at "zz"
   rw [hg, Zap]
   walk_at "zz"
   refine ZI (Zcm (by omega) (by omega) (by omega)) ?_
   walk_at "zz"
   rw [← Zap (c := g - 1 - Zby ns (k + 3) 4), Zd6]
   walk_at "zz"
   have := sG i j (by omega) (by omega) g hg
   obtain ⟨f1, f2⟩ := fin (some (g - 1 - Zby ns (k + 3) 4)) (fun b e => by cases e; omega)
   exact ⟨Zb0 G i j _, R, rfl, f1, hR, f2, sR1⟩
 ·have hcase : (¬ w < 3) ∨ (w < 3 ∧ (i : Int) = (j : Int)) := by
   by_cases q : w < 3
   ·exact .inr ⟨q, by
     have : i = j := Classical.byContradiction fun h => hw ⟨q, h⟩
     rw [this]⟩
   ·exact .inl q
  clear hw
  rcases hcase with hw | ⟨hw, hij⟩
  all_goals
   by_cases hn0 : n = 0
   ·subst hn0
    walk_at "zz"
    exact ⟨G, R, rfl, fun _ _ => rfl, hR, sG1, sR1⟩
   ·have hnp : (0 : Int) < (n : Int) := by omega
    walk_at "zz"
    obtain ⟨q0, q1⟩ := Zcl ns k hnp
    obtain ⟨t, et, ht⟩ := Zjb q0 q1
    refine ZI (Zcm h0 (by omega) hnp) ?_
    rw [et]
    walk_at "zz"
    have hp : Z5 (R t) = .tup [.int (R t).1, .int (R t).2] := rfl
    rw [hp]
    walk_at "zz"
    obtain ⟨m0, m1⟩ : 0 ≤ w.fmod 2 ∧ w.fmod 2 < 2 := ⟨Int.fmod_nonneg_of_pos _ (by decide), Int.fmod_lt_of_pos _ (by decide)⟩
    refine ZdZ (by omega) (by omega) ?_
    walk_at "zz"
    refine ZI (Zcm (by omega) (by omega) (by omega)) ?_
    walk_at "zz"
    refine ZI ZeF ?_
    walk_at "zz"
    have hRt := hR t ht
    have hm0 : 0 ≤ (R t).1 := by rcases hRt with h | h <;> omega
    have sRt := sR t ht
    obtain ⟨c, hc, hc1⟩ : ∃ c, (R t).1 * (1 + w.fmod 2) = c ∧ 0 ≤ c ∧ c ≤ (R t).1 * 2 := ⟨_, rfl, Int.mul_nonneg hm0 (by omega), Int.mul_le_mul_of_nonneg_left (by omega) hm0⟩
    rw [hc]
    generalize hpp : ZaI c ((R t).2 + Zby ns (k + 3) 3) = pp
    have p1 : RestOk pp := by rw [← hpp]; exact Zct hc1.1 _
    have p2 : pp.1.natAbs < 2 ^ (B + 1) ∧ pp.2.natAbs < 2 ^ (B + 1) := by rw [← hpp]; exact ZhI hc1.1 (by omega) (by omega)
    refine ⟨G, fun s => if s = t then pp else R s, ?_, fun _ _ => rfl, fun s hs => ?_, sG1, fun s hs => ?_⟩
    ·unfold ZR Z8 Zay Za5
     congr 5
     funext s
     show (if s = t then Z5 pp else Z5 (R s)) = Z5 (if s = t then pp else R s)
     split <;> rfl
    ·show RestOk (if s = t then pp else R s)
     split
     ·exact p1
     ·exact hR s hs
    ·show (if s = t then pp else R s).1.natAbs < _ ∧ (if s = t then pp else R s).2.natAbs < _
     split
     ·exact p2
     ·exact sR1 s hs
theorem ZsF : ZdU [.none, .none] = some (.bool true) := by
 apply Pk.eq
 unfold ZdU Zia
 walk_at "zz"
 rfl
theorem ZsG (hn : n ≤ 100) (hd : ∀ i, i < n + 1 → G i i = some 0) (ok : ∀ t, t < n → RestOk (R t)) : ZdU [ZR n G R, ZR n G R] = some (.bool true) := by
 apply Pk.eq
 unfold ZdU Zia
 have ht : ZR n G R = .tup [Z8 (n + 1) G, .lst (tab n fun i => Z5 (R i))] := rfl
 rw [ht]
 walk_at "zz"
 rw [← ht]
 refine ZI (ZtT hn hd ok) ?_
 walk_at "zz"
 refine ZfJ Zno Zno ?_
 rw [Za0 rfl]
theorem Zx9 : ∃ g, ZcZ (ZfW 0 (.int 7)) [0, 0] (ZR n G R) = some (.tup [g, Za5 n R]) := by
 refine ⟨.lst ((tab (n + 1) fun i => T.lst (tab (n + 1) fun j => oT (G i j))).set 0 (.lst ((tab (n + 1) fun j => oT (G 0 j)).set 0 (.int 7)))), ?_⟩
 unfold ZR Z8 Zay
 simp only [ZcZ, List.length_cons, List.length_nil, Zat, Zep (show (0 : Int) ≤ 0 by decide) (show (0 : Int) < ((0 + 1 + 1 : Nat) : Int) by decide), Zep (show (0 : Int) ≤ 0 by decide) (show (0 : Int) < ((n + 1 : Nat) : Int) by omega), Option.bind_some, Int.toNat_zero, List.getElem?_cons_zero, ZbN (show 0 < n + 1 by omega), ZfW]
 rw [if_pos ⟨by omega, by omega⟩]
 rfl
theorem Zya {g w : T} (hn : n ≤ 100) : ∃ u, ZcZ (ZfV w) [1] (.tup [g, Za5 n R]) = some u := by
 refine ⟨.tup [g, .lst ((tab n fun i => Z5 (R i)) ++ [w])], ?_⟩
 unfold Za5
 simp only [ZcZ, List.length_cons, List.length_nil, Zep (show (0 : Int) ≤ 1 by decide) (show (1 : Int) < ((0 + 1 + 1 : Nat) : Int) by decide), Option.bind_some, ZfV, Zat, show (1 : Int).toNat = 1 from rfl, List.getElem?_cons_succ, List.getElem?_cons_zero]
 rw [if_pos (by rw [Zbn]; omega)]
 rfl
theorem Zwp {x : Nat} {P : T → Prop} (e : σ x = some (ZR n G R)) (h : ∀ g, N (Zab σ x (.tup [g, Za5 n R]))) : Psk (Za3 x [] (Zk 7) (Zbv (Zbv ZaD (Zk 0)) (Zk 0)) (Zk 0) σ) P N := by
 obtain ⟨g, hg⟩ := Zx9 (n := n) (G := G) (R := R)
 refine ⟨none, _, ?_, by simp, fun _ => h g⟩
 simp only [Za3, ZaD, Zbv, Zk, Option.bind_some, e, List.nil_append, List.cons_append, hg, Option.map_some, Zgu]
theorem Zwq {x : Nat} {P : T → Prop} {g : T} {w : T} (hn : n ≤ 100) (ef : f σ = some w) (e : σ x = some (.tup [g, Za5 n R])) (h : ∀ u, N (Zab σ x u)) : Psk (Zc1 x [] (Zbv ZaD (Zk 1)) f σ) P N := by
 obtain ⟨u, hu⟩ := Zya (n := n) (g := g) (w := w) (R := R) hn
 refine ⟨none, _, ?_, by simp, fun _ => h u⟩
 simp only [Zc1, ZaD, Zbv, Zk, Option.bind_some, e, ef, List.nil_append, hu, Option.map_some, Zgu]
inductive Dp : Nat → T → Prop where
 | none {n : Nat} : Dp n .none
 | int {n : Nat} {i : Int} : Dp n (.int i)
 | tup {n : Nat} {ts : List T} : (∀ t ∈ ts, Dp n t) → ts.length ≤ 10000 → Dp (n + 1) (.tup ts)
 | lst {n : Nat} {ts : List T} : (∀ t ∈ ts, Dp n t) → ts.length ≤ 10000 → Dp (n + 1) (.lst ts)
theorem Dp.mono {t : T} (h : Dp n t) : ∀ {m : Nat}, n ≤ m → Dp m t := by
 induction h with
 | none => intro m _; exact .none
 | int => intro m _; exact .int
 | tup hs hl ih =>
  intro m hm
  cases m with
  | zero => omega
  | succ m => exact .tup (fun t a => ih t a (by omega)) hl
 | lst hs hl ih =>
  intro m hm
  cases m with
  | zero => omega
  | succ m => exact .lst (fun t a => ih t a (by omega)) hl
theorem Zq3 {F : List T → Option T} (hg : ZaE g σ = some ts) (hl : ts.length ≤ 10000) (h : ∀ t ∈ ts, F [t] = some t) (q : Q (.lst ts)) : Pk (Zaq (ZaE g) (Zad j) Zaf (Zs F (Zd (Za j) Zn)) σ) Q := by
 refine ⟨.lst ts, ?_, q⟩
 have := ZpN (σ := σ) (j := j) (f := Zs F (Zd (Za j) Zn)) (h := fun t => t) (ts := ts) fun t m => by
  simp only [Zs, Zd, Za, Zn, ZbB, Option.bind_some, Option.map_some]
  exact h t m
 simp only [Zaq, hg, Option.bind_some, this]
 rw [if_pos (by rw [Zbn]; omega)]
 simp
theorem Zvl {t : T} (h : Dp n t) : ZeI (n + 1) [t] = some t := by
 induction h with
 | none => rfl
 | int => rfl
 | @tup n ts hs hl ih =>
  apply Pk.eq
  show Pk (Zac 1 (ZfF (ZeI (n + 1))) [.tup ts]) _
  unfold ZfF
  walk_at "zz"
  refine Zq3 (ts := ts) rfl hl ih ?_
  walk_at "zz"
  rfl
 | @lst n ts hs hl ih =>
  apply Pk.eq
  show Pk (Zac 1 (ZfF (ZeI (n + 1))) [.lst ts]) _
  unfold ZfF
  walk_at "zz"
  exact Zq3 (ts := ts) rfl hl ih rfl
theorem ZnB {t : T} (h : Dp 8 t) : ZfG [t] = some t := Zvl h
theorem ZrN : Dp n (oT a) := by cases a; exact .none; exact .int
theorem Zwr (hn : n ≤ 100) : Dp 3 (ZR n G R) := by
 refine .tup (fun t m => ?_) (by simp)
 simp at m
 rcases m with rfl | rfl
 ·refine .lst (fun t m => ?_) (by rw [Zat]; omega)
  obtain ⟨i, hi, rfl⟩ := ZcP m
  refine .lst (fun t m => ?_) (by rw [Zat]; omega)
  obtain ⟨j, hj, rfl⟩ := ZcP m
  exact ZrN
 ·refine .lst (fun t m => ?_) (by rw [Zat]; omega)
  obtain ⟨i, hi, rfl⟩ := ZcP m
  refine .tup (fun t m => ?_) (by simp)
  simp at m
  rcases m with rfl | rfl <;> exact .int
section
variable {σ : TL} {Q : T → Prop}
theorem Zws {a b : List T} (hl : a.length + b.length ≤ 10000) (h : Q (.lst (a ++ b))) : Pk (Zah (.lst a) (.lst b)) Q := by
 refine ⟨_, ?_, h⟩
 simp only [Zah]
 rw [if_pos (by rw [Zbn, List.length_append]; omega)]
theorem Zwt {a : T} (hn : n ≤ 1000) (h : Q (.lst (tab n fun _ => a))) : Pk (ZaG (.lst [a]) (.int n)) Q := by
 have e : ∀ n, Zhg [a] n = tab n fun _ => a := fun n => by
  induction n with
  | zero => rfl
  | succ n ih => show Zhg [a] n ++ [a] = _; rw [ih]; exact ZdX (f := fun _ => a)
 refine ⟨_, ?_, h⟩
 simp only [ZaG, List.length_cons, List.length_nil, Int.toNat_natCast, e]
 rw [if_pos ⟨by rw [Zbn]; omega, by omega, by omega⟩]
end
theorem Zq4 {x : Nat} {k l : Int} {w : T} {f : Nat → Nat → T} (e : σ x = some (.lst (tab n fun a => .lst (tab m (f a))))) (hk : k = i) (hl : l = j) (hi : i < n) (hj : j < m) (h : N (Zab σ x (.lst (tab n fun a => .lst (tab m fun b => if a = i ∧ b = j then w else f a b))))) : Put2 σ x w (.int k) (.int l) N := by
 subst hk hl
 exact Zqc e hi hj h
theorem Znb {w : T} (hw : w = oT v) : T.lst (tab n fun a => T.lst (tab n fun b => if a = i ∧ b = j then w else oT (G a b))) = T.lst (tab n fun a => T.lst (tab n fun b => oT (Zb0 G i j v a b))) := by
 subst hw
 exact Zd6
theorem Zcj {a b : PS} {R : T → Prop} (M : TL → Prop) (h1 : Psk (a σ) R M) (h2 : ∀ σ, M σ → Psk (b σ) R N) : Psk (Zt a b σ) R N := by
 obtain ⟨o, s, e, p, q⟩ := h1
 exact ZeO ⟨o, s, e, p, fun h => h2 s (q h)⟩
theorem Zwu {a : Nat} (h : a ≤ 4) : ZcD a a 1 = some [] := by
 have : a = 0 ∨ a = 1 ∨ a = 2 ∨ a = 3 ∨ a = 4 := by omega
 obtain rfl | rfl | rfl | rfl | rfl := this <;> (unfold ZcD; rw [if_pos (by decide +kernel)]; rfl)
theorem ZfA {g : PEs} {a : Nat} {L : List T → Prop} (ha : a ≤ 4) (hm : m ≤ 100) (e : g σ = some [.int a, .int (a + m)]) (h : L (tab m fun i => .int ((a + i : Nat) : Int))) : Pl (ZaF g σ) L := by
 cases m with
 | zero =>
  have e2 : ZcD (a : Int) ((a : Int) + ((0 : Nat) : Int)) 1 = some [] := by simpa using Zwu ha
  exact ⟨[], ZgM e e2, h⟩
 | succ m =>
  refine ⟨_, ZgM e (by have := ZqL (a := a) (n := m + 1) (by omega) (by omega); simpa using this), ?_⟩
  rw [show (tab (m + 1) fun i => T.int ((a : Int) + i)) = tab (m + 1) fun i => .int ((a + i : Nat) : Int) from Zbj fun i _ => by congr 1]
  exact h
theorem ZlI {N a : Nat} (ha : a < N) (hb : b < N) : Zfi [Z8 N Γ, .int a, .int b, oT v] = some (Z8 N (Zb0 Γ a b (Za2 (Γ a b) v))) := by
 apply Pk.eq
 unfold Zfi Zmb
 refine ZnM rfl ?_
 unfold Z8 Zay
 walk_at "zz"
 refine ZI ZpU ?_
 refine ⟨ZeK, ?_⟩
 walk_at "zz"
 refine ⟨_, ZbB, ?_⟩
 exact Zd6
noncomputable def ZY (n : Nat) (c : Nat → Int) : T := .lst (tab (n + 1) fun i => .int (c i))
theorem Zfb {k : Int} (hn : n ≤ 1000) (hb : b ≤ 100000) (bc : ∀ i, i < n + 1 → Bd b (c i)) (bk : Bd b k) : ZdC [ZY n c, .int k] = some (ZY n fun i => c i * k) := by
 apply Pk.eq
 unfold ZdC Zlx ZY
 walk_at "zz"
 refine Zck (n := n + 1) (a := fun i => .int (c i)) (b := fun i => .int (c i * k)) (by omega) ?_ (fun i hi => ?_) rfl
 ·walk_at "zz"
  rfl
 ·walk_at "zz"
  exact ZbU (Zb4 (bc i hi) bk (by omega) (by omega)) rfl
noncomputable def S40 (G : Nat → Nat → Option Int) (i : Nat) : Sp := ((G 0 (i + 1)).map fun y => y * (-1), G (i + 1) 0)
theorem Zr8 (hn : n ≤ 90) (hb : b ≤ 100000) (hb1 : 1 ≤ b) (bG : ∀ i j, i < n + 1 → j < n + 1 → ∀ y, G i j = some y → Bd b y) : Zhs [ZR n G R] = some (.lst (tab n fun i => spT (S40 G i))) := by
 apply Pk.eq
 unfold Zhs Zj9
 have ht : ZR n G R = .tup [.lst (tab (n + 1) fun i => .lst (tab (n + 1) fun j => oT (G i j))), .lst (tab n fun i => Z5 (R i))] := rfl
 rw [ht]
 walk_at "zz"
 refine Zck (n := n) (a := fun i => .int ((1 + i : Nat) : Int)) (b := fun i => spT (S40 G i)) (by omega) ?_ (fun i hi => ?_) rfl
 ·refine ZfA (a := 1) (m := n) (by omega) (by omega) ?_ rfl
  simp only [Zd, Zk, Zn, Zs, Za, Zab, Option.bind_some, if_true, Zas, Zat]
  congr 3
  congr 1
  omega
 ·have h1 : 1 + i < n + 1 := by omega
  have h0 : 0 < n + 1 := by omega
  walk_at "zz"
  refine ZI (ZhK hb (fun y e => bG 0 (1 + i) h0 h1 y e) (show Bd b (-1) by unfold Bd; have := Zeb hb1; unfold Bd at this; simpa using this)) ?_
  walk_at "zz"
  unfold spT S40
  rw [show 1 + i = i + 1 by omega]
  rfl
theorem Zpm {σ : TL} {j : Nat} {cnd : PB} {P : T → Bool} : ∀ {ts : List T}, (∀ t ∈ ts, cnd (Zab σ j t) = some (P t)) → Zcy (Zad j) cnd (Za j) σ ts = some (ts.filter P)
 | [], _ => rfl
 | t :: ts, h => by
  have ih := Zpm fun t m => h t (Zz2 _ m)
  have h0 := h t Zz5
  simp only [Zcy, Zad, Option.bind_some, h0, Za, ZbB, ih, Option.map_some, List.filter_cons]
  cases P t <;> rfl
theorem Znc {g : PG} {cnd : PB} {P : T → Bool} (hl : ts.length ≤ 10000) (hg : Pl (g σ) fun us => us = ts) (hc : ∀ t ∈ ts, Pb (cnd (Zab σ j t)) fun b => b = P t) (h : Q (.lst (ts.filter P))) : Pk (Zaq g (Zad j) cnd (Za j) σ) Q := by
 obtain ⟨us, e, rfl⟩ := hg
 refine ⟨_, ?_, h⟩
 have := Zpm (σ := σ) (j := j) (cnd := cnd) (P := P) (ts := us) fun t m => by
  obtain ⟨b, e1, rfl⟩ := hc t m
  exact e1
 simp only [Zaq, e, Option.bind_some, this, Option.map_some]
 rw [if_pos (by rw [Zbn]; omega)]
noncomputable def xsI (n : Nat) (c : Nat → Int) : List Int := tab n fun i => c (i + 1)
noncomputable def nzI (n : Nat) (c : Nat → Int) : List Int := (xsI n c).filter fun x => decide (x ≠ 0)
noncomputable def Df (n : Nat) (c : Nat → Int) : Prop := PM.Zdw (nzI n c) = [-1, 1]
theorem ZiB (ks : List Int) : Zdu (ks.map T.int) = some ks := by
 induction ks with
 | nil => rfl
 | cons k ks ih => simp [Zdu, ih]
theorem Ztl {a b : List Int} (h : a.map T.int = b.map T.int) : a = b := by
 have := congrArg Zdu h
 rw [ZiB, ZiB] at this
 simpa using this
theorem ZnW (ks : List Int) : Pln 1 (.lst (ks.map T.int)) := .lst fun t m => by
 obtain ⟨k, _, rfl⟩ := Zz11.mp m
 exact .int
theorem tab_map {α : Type} {f : Nat → α} {g : α → β} : (tab n f).map g = tab n fun i => g (f i) := by simp [tab]
theorem ZrW (hn : n ≤ 60) : Zhm [ZY n c] = some (.bool (dec (Df n c))) := by
 apply Pk.eq
 unfold Zhm ZjN ZY
 walk_at "zz"
 refine Znc (ts := (xsI n c).map T.int) (P := fun t => match t with | .int x => decide (x ≠ 0) | _ => false) (by simp [xsI, Zat]; omega) ?_ (fun t m => ?_) ?_
 ·refine ZiL ?_
  refine Zm2 ?_
  walk_at "zz"
  refine ⟨_, rfl, ?_⟩
  rw [Znz]
  refine Sq.lst ?_
  unfold xsI
  rw [tab_map]
 ·obtain ⟨x, _, rfl⟩ := Zz11.mp m
  walk_at "zz"
  rfl
 have ef : ((xsI n c).map T.int).filter (fun t => match t with | .int x => decide (x ≠ 0) | _ => false) = (nzI n c).map T.int := by
  unfold nzI
  rw [List.filter_map]
  rfl
 rw [ef]
 have hl : (nzI n c).length ≤ n := by
  unfold nzI
  refine Nat.le_trans (List.length_filter_le _ _) ?_
  simp [xsI, Zat]
 walk_at "zz"
 refine ⟨.lst ((PM.Zdw (nzI n c)).map T.int), ?_, ?_⟩
 ·simp only [ZiN, ZiB, Option.bind_some, List.length_map]
  rw [if_pos (by omega)]
 walk_at "zz"
 refine ZfJ (n := 1) (m := 1) (ZnW _) (ZnW [-1, 1]) ?_
 by_cases h : Df n c
 ·rw [Za0 h, Za0]
  show T.lst ((PM.Zdw (nzI n c)).map T.int) = _
  rw [show PM.Zdw (nzI n c) = [-1, 1] from h]
  rfl
 ·rw [Zbx h, Zbx]
  intro q
  refine h (Ztl ?_)
  simpa using q
noncomputable def ZaH (c : Nat → Int) : Nat → List Nat
 | 0 => []
 | n + 1 => ZaH c n ++ (if 0 < c (n + 1) then [n + 1] else [])
noncomputable def ZaL (c : Nat → Int) : Nat → List Nat
 | 0 => []
 | n + 1 => ZaL c n ++ (if c (n + 1) < 0 then [n + 1] else [])
theorem ups_mem {c : Nat → Int} : ∀ {n i : Nat}, i ∈ ZaH c n ↔ 1 ≤ i ∧ i ≤ n ∧ 0 < c i
 | 0, i => by simp [ZaH]; omega
 | n + 1, i => by
  simp only [ZaH, List.mem_append, ups_mem (n := n)]
  by_cases h : 0 < c (n + 1)
  ·simp only [h, if_true, List.mem_singleton]
   constructor
   ·rintro (⟨a, b, d⟩ | rfl)
    ·exact ⟨a, by omega, d⟩
    ·exact ⟨by omega, by omega, h⟩
   ·rintro ⟨a, b, d⟩
    by_cases q : i = n + 1
    ·exact .inr q
    ·exact .inl ⟨a, by omega, d⟩
  ·simp only [h, if_false, List.not_mem_nil, or_false]
   constructor
   ·rintro ⟨a, b, d⟩; exact ⟨a, by omega, d⟩
   ·rintro ⟨a, b, d⟩
    have : i ≠ n + 1 := fun q => h (q ▸ d)
    exact ⟨a, by omega, d⟩
theorem dns_mem {c : Nat → Int} : ∀ {n i : Nat}, i ∈ ZaL c n ↔ 1 ≤ i ∧ i ≤ n ∧ c i < 0
 | 0, i => by simp [ZaL]; omega
 | n + 1, i => by
  simp only [ZaL, List.mem_append, dns_mem (n := n)]
  by_cases h : c (n + 1) < 0
  ·simp only [h, if_true, List.mem_singleton]
   constructor
   ·rintro (⟨a, b, d⟩ | rfl)
    ·exact ⟨a, by omega, d⟩
    ·exact ⟨by omega, by omega, h⟩
   ·rintro ⟨a, b, d⟩
    by_cases q : i = n + 1
    ·exact .inr q
    ·exact .inl ⟨a, by omega, d⟩
  ·simp only [h, if_false, List.not_mem_nil, or_false]
   constructor
   ·rintro ⟨a, b, d⟩; exact ⟨a, by omega, d⟩
   ·rintro ⟨a, b, d⟩
    have : i ≠ n + 1 := fun q => h (q ▸ d)
    exact ⟨a, by omega, d⟩
theorem Zq5 {c : Nat → Int} : ∀ n, (ZaH c n).length ≤ n
 | 0 => Nat.le_refl 0
 | n + 1 => by
  have := Zq5 (c := c) n
  simp only [ZaH, List.length_append]
  split <;> simp <;> omega
theorem Zq6 {c : Nat → Int} : ∀ n, (ZaL c n).length ≤ n
 | 0 => Nat.le_refl 0
 | n + 1 => by
  have := Zq6 (c := c) n
  simp only [ZaL, List.length_append]
  split <;> simp <;> omega
theorem Zqq {c : Nat → Int} : ∀ n, (ZaH c n).map c = (xsI n c).filter fun x => decide (0 < x)
 | 0 => rfl
 | n + 1 => by
  have e : xsI (n + 1) c = xsI n c ++ [c (n + 1)] := (ZdX (n := n) (f := fun i => c (i + 1))).symm
  rw [e, List.filter_append, ← Zqq n]
  simp only [ZaH, List.map_append]
  by_cases h : 0 < c (n + 1) <;> simp [h]
theorem Zqr {c : Nat → Int} : ∀ n, (ZaL c n).map c = (xsI n c).filter fun x => decide (x < 0)
 | 0 => rfl
 | n + 1 => by
  have e : xsI (n + 1) c = xsI n c ++ [c (n + 1)] := (ZdX (n := n) (f := fun i => c (i + 1))).symm
  rw [e, List.filter_append, ← Zqr n]
  simp only [ZaL, List.map_append]
  by_cases h : c (n + 1) < 0 <;> simp [h]
theorem df_iff : Df n c ↔ (ZaH c n).map c = [1] ∧ (ZaL c n).map c = [-1] := by
 rw [Zqq, Zqr]
 have hp : (nzI n c).Perm ((xsI n c).filter (fun x => decide (0 < x)) ++ (xsI n c).filter (fun x => decide (x < 0))) := by
  unfold nzI
  generalize xsI n c = xs
  induction xs with
  | nil => exact List.Perm.refl _
  | cons x xs ih =>
   by_cases h1 : 0 < x
   ·have : x ≠ 0 := by omega
    have h2 : ¬ x < 0 := by omega
    simp only [List.filter_cons, h1, h2, this, decide_true, decide_false, ne_eq, not_false_eq_true, if_true, Bool.false_eq_true, if_false, List.cons_append]
    exact List.Perm.cons _ ih
   ·by_cases h2 : x < 0
    ·have : x ≠ 0 := by omega
     simp only [List.filter_cons, h1, h2, this, decide_true, decide_false, ne_eq, not_false_eq_true, if_true, Bool.false_eq_true, if_false]
     exact (List.Perm.cons _ ih).trans List.perm_middle.symm
    ·have : x = 0 := by omega
     subst this
     simpa using ih
 constructor
 ·intro h
  have hq : (nzI n c).Perm [-1, 1] := by
   have := List.mergeSort_perm (nzI n c) fun a b => decide (a ≤ b)
   rw [show (nzI n c).mergeSort (fun a b => decide (a ≤ b)) = [-1, 1] from h] at this
   exact this.symm
  have hf : ∀ q : Int → Bool, (∀ x, q x = true → x ≠ 0) → (xsI n c).filter q = (nzI n c).filter q := fun q hq => by
   unfold nzI
   rw [List.filter_filter]
   refine List.filter_congr fun x _ => ?_
   cases e : q x with
   | false => simp
   | true => simp [hq x e]
  rw [hf _ (fun x h => by simp at h; omega), hf _ (fun x h => by simp at h; omega)]
  have p1 := hq.filter fun x => decide (0 < x)
  have p2 := hq.filter fun x => decide (x < 0)
  exact ⟨List.perm_singleton.mp (by simpa using p1), List.perm_singleton.mp (by simpa using p2)⟩
 ·rintro ⟨h1, h2⟩
  rw [h1, h2] at hp
  unfold Df
  refine (PM.Zqe ?_ ?_).symm
  ·exact (hp.trans (List.Perm.swap (-1) 1 [])).symm
  ·simp
theorem Zqs {p q r : PE} (h : Pk (p σ) fun t => ∃ ks : List Int, t = .lst (ks.map T.int) ∧ Pk (q σ) fun u => ∃ k, u = .int k ∧ Pk (r σ) fun v => v = .int 1 ∧ k ∈ ks.drop 1 ∧ Q (.int ((1 + (ks.drop 1).idxOf k : Nat) : Int))) : Pk (Zg2 p q r σ) Q := by
 obtain ⟨_, e1, ks, rfl, _, e2, k, rfl, _, e3, rfl, hm, h⟩ := h
 refine ⟨_, ?_, h⟩
 simp only [Zg2, e1, e2, e3, Option.bind_some, ZiB]
 rw [if_pos ⟨trivial, hm⟩]
theorem ZiW : (tab (n + 1) c).drop 1 = xsI n c := by
 unfold xsI
 apply List.ext_getElem
 ·simp [tab]
 ·intro i h1 h2
  simp [tab]
theorem ZrA {k : Int} (h : l.map c = [k]) : ∃ u, l = [u] ∧ c u = k := by
 cases l with
 | nil => simp at h
 | cons a l =>
  cases l with
  | nil => exact ⟨a, rfl, by simpa using h⟩
  | cons b l => simp at h
theorem ZrO (hi : i < n) : (xsI n c)[i]? = some (c (i + 1)) := ZbN (f := fun i => c (i + 1)) hi
theorem ZrB {u : Nat} {k : Int} (h1 : 1 ≤ u) (h2 : u ≤ n) (hu : c u = k) (ho : ∀ i, 1 ≤ i → i ≤ n → c i = k → i = u) : 1 + (xsI n c).idxOf k = u ∧ k ∈ xsI n c := by
 have hm : k ∈ xsI n c := List.mem_of_getElem? (i := u - 1) (by rw [ZrO (by omega), show u - 1 + 1 = u by omega, hu])
 have hl : (xsI n c).idxOf k < (xsI n c).length := List.idxOf_lt_length_iff.mpr hm
 have hn : (xsI n c).length = n := Zat
 have hk := List.getElem_idxOf hl
 have hx : (xsI n c)[(xsI n c).idxOf k]? = some k := by rw [List.getElem?_eq_getElem hl, hk]
 rw [ZrO (by omega)] at hx
 have := ho ((xsI n c).idxOf k + 1) (by omega) (by omega) (by simpa using hx)
 exact ⟨by omega, hm⟩
theorem Zit (h : Df n c) : ∃ u d, ZaH c n = [u] ∧ ZaL c n = [d] ∧ c u = 1 ∧ c d = -1 ∧ u < n + 1 ∧ d < n + 1 ∧ 1 ≤ u ∧ 1 ≤ d ∧ 1 + (xsI n c).idxOf 1 = u ∧ 1 + (xsI n c).idxOf (-1) = d ∧ 1 ∈ xsI n c ∧ -1 ∈ xsI n c := by
 obtain ⟨h1, h2⟩ := df_iff.mp h
 obtain ⟨u, eu, hu⟩ := ZrA h1
 obtain ⟨d, ed, hd⟩ := ZrA h2
 have mu := ups_mem.mp (show u ∈ ZaH c n by rw [eu]; simp)
 have md := dns_mem.mp (show d ∈ ZaL c n by rw [ed]; simp)
 have a1 := ZrB mu.1 mu.2.1 hu fun i q1 q2 q3 => by
  have : i ∈ ZaH c n := ups_mem.mpr ⟨q1, q2, by omega⟩
  rw [eu] at this
  simpa using this
 have a2 := ZrB md.1 md.2.1 hd fun i q1 q2 q3 => by
  have : i ∈ ZaL c n := dns_mem.mpr ⟨q1, q2, by omega⟩
  rw [ed] at this
  simpa using this
 exact ⟨u, d, eu, ed, hu, hd, by omega, by omega, mu.1, md.1, a1.1, a2.1, a1.2, a2.2⟩
noncomputable def grt (n : Nat) (G : Nat → Nat → Option Int) (c : Nat → Int) : Option Int := if dec (Df n c) then Zak (G (1 + (xsI n c).idxOf 1) (1 + (xsI n c).idxOf (-1))) (some (c 0)) else (ZcE c (S40 G) n).2
noncomputable def GB (b n : Nat) (G : Nat → Nat → Option Int) : Prop := ∀ i j, i < n + 1 → j < n + 1 → ∀ y, G i j = some y → Bd b y
theorem ZrC (hG : GB b n G) : ∀ i, i < n → SBd b (S40 G i) := fun i hi => ⟨fun x e => by
 obtain ⟨y, e1, e2⟩ := Zz1.mp e
 have := hG 0 (i + 1) (by omega) (by omega) y e1
 subst e2
 unfold Bd at *
 omega, fun x e => hG (i + 1) 0 (by omega) (by omega) x e⟩
theorem ZlJ (hn : n ≤ 60) (hb : b ≤ 100000) (hb1 : 1 ≤ b) (hG : GB b n G) (bc : ∀ i, i < n + 1 → Bd b (c i)) : Zfj [ZR n G R, ZY n c] = some (oT (grt n G c)) := by
 apply Pk.eq
 unfold Zfj Zme grt
 have ht : ZR n G R = .tup [.lst (tab (n + 1) fun i => .lst (tab (n + 1) fun j => oT (G i j))), .lst (tab n fun i => Z5 (R i))] := rfl
 have hs : ZY n c = .lst ((tab (n + 1) c).map T.int) := by unfold ZY; rw [tab_map]
 walk_at "zz"
 refine ZI (ZrW hn) ?_
 by_cases h : Df n c
 ·obtain ⟨u, d, _, _, _, _, hu, hd, _, _, eu, ed, mu, md⟩ := Zit h
  rw [Za0 h]
  rw [ht]
  walk_at "zz"
  refine Zqs ?_
  walk_at "zz"
  refine ⟨tab (n + 1) c, hs, ?_⟩
  walk_at "zz"
  refine ⟨1, rfl, ?_⟩
  walk_at "zz"
  refine ⟨rfl, by rw [ZiW]; exact mu, ?_⟩
  rw [ZiW, eu]
  walk_at "zz"
  refine Zqs ?_
  walk_at "zz"
  refine ⟨tab (n + 1) c, hs, ?_⟩
  walk_at "zz"
  refine ⟨-1, rfl, ?_⟩
  walk_at "zz"
  refine ⟨rfl, by rw [ZiW]; exact md, ?_⟩
  rw [ZiW, ed]
  unfold ZY
  walk_at "zz"
  exact ZI (Zff (b := some (c (Int.toNat 0)))) rfl
 ·rw [Zbx h]
  walk_at "zz"
  refine ZI (Zr8 (by omega) hb hb1 hG) ?_
  walk_at "zz"
  refine ZI (Zsi (by omega) hb bc (ZrC hG)) ?_
  unfold spT
  walk_at "zz"
  rfl
theorem Zwv : ZY n (fun i => c i * -1) = ZY n fun i => -(c i) := by
 unfold ZY
 congr 1
 exact Zbj fun i _ => by show T.int (c i * -1) = T.int (-(c i)); congr 1; omega
theorem Zvm (hn : n ≤ 60) (hb : b ≤ 1000) (hb1 : 1 ≤ b) (hG : GB b n G) (bc : ∀ i, i < n + 1 → Bd b (c i)) (bg : ∀ y, grt n G (fun i => -(c i)) = some y → Bd 100000 y) : ZgQ [ZR n G R, ZY n c] = some (oT ((grt n G fun i => -(c i)).map fun y => y * -1)) := by
 apply Pk.eq
 unfold ZgQ ZnU
 have b1 : Bd b (-1) := by have := Zeb hb1; unfold Bd at *; simpa using this
 walk_at "zz"
 refine ZI (Zfb (by omega) (by omega) bc b1) ?_
 rw [Zwv]
 walk_at "zz"
 refine ZI (ZlJ hn (by omega) hb1 hG fun i hi => by have := bc i hi; show Bd b (-(c i)); unfold Bd at *; omega) ?_
 walk_at "zz"
 exact ZI (ZhK (i := 100000) (by decide) bg (b1.mono (by omega))) rfl
noncomputable def ZoF (c : Nat → Int) : T → Bool
 | .int i => decide (0 < c i.toNat)
 | _ => false
noncomputable def ZoG (c : Nat → Int) : T → Bool
 | .int i => decide (c i.toNat < 0)
 | _ => false
theorem Zqt {c : Nat → Int} : ∀ n, ((tab n fun i => T.int ((1 + i : Nat) : Int)).filter (ZoF c)) = (ZaH c n).map fun i => T.int (i : Nat)
 | 0 => rfl
 | n + 1 => by
  rw [← ZdX (n := n) (f := fun i => T.int ((1 + i : Nat) : Int)), List.filter_append, Zqt n]
  simp only [ZaH, List.map_append]
  congr 1
  rw [show 1 + n = n + 1 by omega]
  by_cases h : 0 < c (n + 1) <;> simp [ZoF, h]
theorem Zqu {c : Nat → Int} : ∀ n, ((tab n fun i => T.int ((1 + i : Nat) : Int)).filter (ZoG c)) = (ZaL c n).map fun i => T.int (i : Nat)
 | 0 => rfl
 | n + 1 => by
  rw [← ZdX (n := n) (f := fun i => T.int ((1 + i : Nat) : Int)), List.filter_append, Zqu n]
  simp only [ZaL, List.map_append]
  congr 1
  rw [show 1 + n = n + 1 by omega]
  by_cases h : c (n + 1) < 0 <;> simp [ZoG, h]
theorem Zqv {us : List Nat} {h : Nat → T} (hl : us.length ≤ 1000) (hg : Pk (g σ) fun t => t = .lst (us.map fun i => T.int (i : Nat))) (hf : ∀ i ∈ us, Pk (f (Zab σ j (.int (i : Nat)))) fun t => t = h i) (q : Q (.lst (us.map h))) : Pk (Zaq (ZaE g) (Zad j) Zaf f σ) Q := by
 obtain ⟨_, e, rfl⟩ := hg
 refine ⟨_, ?_, q⟩
 have hc : Zcy (Zad j) Zaf f σ (us.map fun i => T.int (i : Nat)) = some (us.map h) := by
  have key : ∀ l : List Nat, (∀ i ∈ l, i ∈ us) → Zcy (Zad j) Zaf f σ (l.map fun i => T.int (i : Nat)) = some (l.map h) := by
   intro l
   induction l with
   | nil => intro _; rfl
   | cons a l ih =>
    intro hm
    obtain ⟨_, e1, rfl⟩ := hf a (hm a Zz5)
    simp only [List.map_cons, Zcy, Zad, Option.bind_some, Zaf, if_true, e1, ih fun i m => hm i (Zz2 _ m), Option.map_some]
  exact key us fun i m => m
 simp only [Zaq, ZaE, e, Option.bind_some, hc, Option.map_some, List.length_map]
 rw [if_pos (by rw [Zbn]; omega)]
theorem Zq7 {b : PS} {us : List Nat} {R : T → Prop} (hg : Pk (g σ) fun t => t = .lst (us.map fun i => T.int (i : Nat))) (P : List Nat → TL → Prop) (h0 : P [] σ) (h1 : ∀ pre i σ, i ∈ us → P pre σ → Psk (b (Zab σ j (.int (i : Nat)))) R (P (pre ++ [i]))) (h2 : ∀ σ, P us σ → N σ) : Psk (ZaC (ZaE g) (Zad j) b σ) R N := by
 refine ZnH (ts := us.map fun i => T.int (i : Nat)) (P := fun k σ => P (us.take k) σ) ?_ (by simpa using h0) (fun k t σ hk hP => ?_) (fun σ h => h2 σ (by simpa using h))
 ·obtain ⟨_, e, rfl⟩ := hg
  exact ⟨_, by simp only [ZaE, e, Option.bind_some], rfl⟩
 ·rw [List.getElem?_map] at hk
  obtain ⟨i, ei, rfl⟩ := Zz1.mp hk
  rw [List.take_add_one, ei]
  exact h1 _ i σ (List.mem_of_getElem? ei) hP
noncomputable def sU (G : Nat → Nat → Option Int) (c : Nat → Int) (l : List Nat) : Int := (l.map fun i => c i * (G i 0).getD 0).sum
noncomputable def sD (G : Nat → Nat → Option Int) (c : Nat → Int) (l : List Nat) : Int := (l.map fun i => c i * (G 0 i).getD 0).sum
noncomputable def Zdf (G : Nat → Nat → Option Int) (c : Nat → Int) (n : Nat) : Prop := (∃ i ∈ ZaH c n, G i 0 = none) ∨ ∃ i ∈ ZaL c n, G 0 i = none
theorem Zq8 : sU G c (l ++ [i]) = sU G c l + c i * (G i 0).getD 0 := by simp [sU]
theorem Zq9 : sD G c (l ++ [i]) = sD G c l + c i * (G 0 i).getD 0 := by simp [sD]
theorem tot {G : Nat → Nat → Option Int} {c : Nat → Int} : ∀ n, (Zdf G c n → (ZcE c (S40 G) n).2 = none) ∧ (¬ Zdf G c n → (ZcE c (S40 G) n).2 = some (c 0 + sU G c (ZaH c n) - sD G c (ZaL c n)))
 | 0 => ⟨fun h => (by rcases h with ⟨i, m, _⟩ | ⟨i, m, _⟩ <;> cases m), fun _ => by simp [ZcE, sU, sD, ZaH, ZaL]⟩
 | n + 1 => by
  obtain ⟨ih1, ih2⟩ := tot (G := G) (c := c) n
  have step : (ZcE c (S40 G) (n + 1)).2 = Zak (ZcE c (S40 G) n).2 (ZcS (S40 G n) (c (n + 1))).2 := rfl
  rw [step]
  have mono : Zdf G c n → Zdf G c (n + 1) := fun h => h.imp (fun ⟨i, m, e⟩ => ⟨i, by simp only [ZaH, List.mem_append]; exact .inl m, e⟩) fun ⟨i, m, e⟩ => ⟨i, by simp only [ZaL, List.mem_append]; exact .inl m, e⟩
  rcases Int.lt_trichotomy (c (n + 1)) 0 with h | h | h
  ·have h0 : ¬ 0 < c (n + 1) := by omega
   have hz : ¬ c (n + 1) = 0 := by omega
   have eu : ZaH c (n + 1) = ZaH c n := by simp [ZaH, h0]
   have ed : ZaL c (n + 1) = ZaL c n ++ [n + 1] := by simp [ZaL, h]
   have et : (ZcS (S40 G n) (c (n + 1))).2 = (G 0 (n + 1)).map fun y => y * (-1) * c (n + 1) := by
    unfold ZcS S40
    rw [if_neg hz, if_pos h]
    cases G 0 (n + 1) <;> rfl
   rw [et]
   cases hg : G 0 (n + 1) with
   | none =>
    refine ⟨fun _ => ?_, fun q => absurd (.inr ⟨n + 1, by rw [ed]; simp, hg⟩) q⟩
    cases (ZcE c (S40 G) n).2 <;> rfl
   | some y =>
    have hl : Zdf G c (n + 1) → Zdf G c n := by
     rintro (⟨i, m, e⟩ | ⟨i, m, e⟩)
     ·rw [eu] at m; exact .inl ⟨i, m, e⟩
     ·rw [ed] at m
      rcases Zz8.mp m with m | m
      ·exact .inr ⟨i, m, e⟩
      ·rw [List.mem_singleton.mp m, hg] at e; cases e
    refine ⟨fun q => by rw [ih1 (hl q)]; rfl, fun q => ?_⟩
    rw [ih2 fun r => q (mono r), eu, ed, Zq9, hg]
    simp only [Zak, Option.map_some, Option.getD_some]
    congr 1
    have : y * (-1) * c (n + 1) = -(c (n + 1) * y) := by rw [Int.mul_neg, Int.mul_one, Int.neg_mul, Int.mul_comm]
    omega
  ·have h0 : ¬ 0 < c (n + 1) := by omega
   have h1 : ¬ c (n + 1) < 0 := by omega
   have eu : ZaH c (n + 1) = ZaH c n := by simp [ZaH, h0]
   have ed : ZaL c (n + 1) = ZaL c n := by simp [ZaL, h1]
   have et : (ZcS (S40 G n) (c (n + 1))).2 = some 0 := by unfold ZcS; rw [if_pos h]
   have el : Zdf G c (n + 1) ↔ Zdf G c n := by unfold Zdf; rw [eu, ed]
   rw [et, Zrw, el, eu, ed]
   exact ⟨ih1, ih2⟩
  ·have h1 : ¬ c (n + 1) < 0 := by omega
   have hz : ¬ c (n + 1) = 0 := by omega
   have eu : ZaH c (n + 1) = ZaH c n ++ [n + 1] := by simp [ZaH, h]
   have ed : ZaL c (n + 1) = ZaL c n := by simp [ZaL, h1]
   have et : (ZcS (S40 G n) (c (n + 1))).2 = (G (n + 1) 0).map fun y => y * c (n + 1) := by
    unfold ZcS S40
    rw [if_neg hz, if_neg h1]
   rw [et]
   cases hg : G (n + 1) 0 with
   | none =>
    refine ⟨fun _ => ?_, fun q => absurd (.inl ⟨n + 1, by rw [eu]; simp, hg⟩) q⟩
    cases (ZcE c (S40 G) n).2 <;> rfl
   | some y =>
    have hl : Zdf G c (n + 1) → Zdf G c n := by
     rintro (⟨i, m, e⟩ | ⟨i, m, e⟩)
     ·rw [eu] at m
      rcases Zz8.mp m with m | m
      ·exact .inl ⟨i, m, e⟩
      ·rw [List.mem_singleton.mp m, hg] at e; cases e
     ·rw [ed] at m; exact .inr ⟨i, m, e⟩
    refine ⟨fun q => by rw [ih1 (hl q)]; rfl, fun q => ?_⟩
    rw [ih2 fun r => q (mono r), eu, ed, Zq8, hg]
    simp only [Zak, Option.map_some, Option.getD_some]
    congr 1
    have : y * c (n + 1) = c (n + 1) * y := Int.mul_comm _ _
    omega
theorem Zsm (hn : n ≤ 60) (hb : b ≤ 100000) (hG : GB b n G) (bc : ∀ i, i < n + 1 → Bd b (c i)) (e0 : σ 0 = some (.tup [.lst (tab (n + 1) fun i => .lst (tab (n + 1) fun j => oT (G i j))), .lst (tab n fun i => Z5 (R i))])) (e1 : σ 1 = some (.lst (tab (n + 1) fun i => .int (c i)))) (e2 : σ 2 = some (.lst ((ZaH c n).map fun i => T.int (i : Nat)))) (e3 : σ 3 = some (.lst ((ZaL c n).map fun i => T.int (i : Nat)))) : Psk ((Zt (ZJ 4 (Ze Zah (Zaq (ZaE (Za 2)) (Zad 104) Zaf (Ze Zr (Ze Zr (Ze Zr (Za 0) (Zk 0)) (Za 104)) (Zk 0))) (Zaq (ZaE (Za 3)) (Zad 106) Zaf (Ze Zr (Ze Zr (Ze Zr (Za 0) (Zk 0)) (Zk 0)) (Za 106))))) (Zt (ZQ (ZE (Ze qIn (ZT) (Za 4))) (ZF (ZT)) ZV) (Zt (ZJ 5 (Ze Zr (Za 1) (Zk 0))) (Zt (ZaC (ZaE (Za 2)) (Zad 6) (ZJ 5 (Ze Zah (Za 5) (Ze ZaG (Ze Zr (Za 1) (Za 6)) (Ze Zr (Ze Zr (Ze Zr (Za 0) (Zk 0)) (Za 6)) (Zk 0)))))) (Zt (ZaC (ZaE (Za 3)) (Zad 6) (ZJ 5 (Ze Za6 (Za 5) (Ze ZaG (Ze Zr (Za 1) (Za 6)) (Ze Zr (Ze Zr (Ze Zr (Za 0) (Zk 0)) (Zk 0)) (Za 6)))))) (ZF (Za 5))))))) σ) (fun t => t = oT (ZcE c (S40 G) n).2) N := by
 have lu := Zq5 (c := c) n
 have ld := Zq6 (c := c) n
 have hu : ∀ i ∈ ZaH c n, i < n + 1 := fun i m => by have := ups_mem.mp m; omega
 have hd : ∀ i ∈ ZaL c n, i < n + 1 := fun i m => by have := dns_mem.mp m; omega
 have h0 : 0 < n + 1 := by omega
 walk_at "zz"
 refine Zqv (us := ZaH c n) (h := fun i => oT (G i 0)) (by omega) ?_ (fun i m => ?_) ?_
 ·walk_at "zz"
  rfl
 ·have := hu i m
  walk_at "zz"
  rfl
 refine Zqv (us := ZaL c n) (h := fun i => oT (G 0 i)) (by omega) ?_ (fun i m => ?_) ?_
 ·walk_at "zz"
  rfl
 ·have := hd i m
  walk_at "zz"
  rfl
 refine Zws (by simp; omega) ?_
 walk_at "zz"
 refine ZfQ (n := 0) (m := 1) .none (.lst fun t m => ?_) ?_
 ·rcases Zz8.mp m with m | m
  ·obtain ⟨i, _, rfl⟩ := Zz11.mp m; exact Zg8
  ·obtain ⟨i, _, rfl⟩ := Zz11.mp m; exact Zg8
 by_cases hl : Zdf G c n
 ·have hm : T.none ∈ (ZaH c n).map (fun i => oT (G i 0)) ++ (ZaL c n).map fun i => oT (G 0 i) := by
   rcases hl with ⟨i, m, e⟩ | ⟨i, m, e⟩
   ·exact Zz4 _ (Zz11.mpr ⟨i, m, by rw [e]; rfl⟩)
   ·exact Zz3 _ (Zz11.mpr ⟨i, m, by rw [e]; rfl⟩)
  rw [Za0 hm]
  walk_at "zz"
  rw [(tot n).1 hl]
  rfl
 ·have hm : ¬ T.none ∈ (ZaH c n).map (fun i => oT (G i 0)) ++ (ZaL c n).map fun i => oT (G 0 i) := fun m => hl (by
   rcases Zz8.mp m with m | m
   ·obtain ⟨i, m, e⟩ := Zz11.mp m
    exact .inl ⟨i, m, oT_inj.mp (by rw [e]; rfl)⟩
   ·obtain ⟨i, m, e⟩ := Zz11.mp m
    exact .inr ⟨i, m, oT_inj.mp (by rw [e]; rfl)⟩)
  have gu : ∀ i ∈ ZaH c n, ∃ y, G i 0 = some y := fun i m => by
   cases e : G i 0 with
   | none => exact absurd (.inl ⟨i, m, e⟩) hl
   | some y => exact ⟨y, rfl⟩
  have gd : ∀ i ∈ ZaL c n, ∃ y, G 0 i = some y := fun i m => by
   cases e : G 0 i with
   | none => exact absurd (.inr ⟨i, m, e⟩) hl
   | some y => exact ⟨y, rfl⟩
  rw [Zbx hm]
  walk_at "zz"
  refine Zq7 (us := ZaH c n) (P := fun pre σ' => σ' 0 = some (.tup [.lst (tab (n + 1) fun i => .lst (tab (n + 1) fun j => oT (G i j))), .lst (tab n fun i => Z5 (R i))]) ∧ σ' 1 = some (.lst (tab (n + 1) fun i => .int (c i))) ∧ σ' 3 = some (.lst ((ZaL c n).map fun i => T.int (i : Nat))) ∧ σ' 5 = some (.int (c 0 + sU G c pre))) ?_ ⟨by walk_at "zr", by walk_at "zr", by walk_at "zr", by simp [sU, Zab]⟩ ?_ ?_
  ·walk_at "zz"
   rfl
  ·rintro pre i σ' m ⟨f0, f1, f3, f5⟩
   have hi := hu i m
   obtain ⟨y, ey⟩ := gu i m
   have by_ : Bd b y := hG i 0 hi h0 y ey
   walk_at "zz"
   rw [show (Int.toNat 0) = 0 from rfl, ey, Zap]
   refine ZbU (Zb4 (bc i hi) by_ (by omega) (by omega)) ?_
   walk_at "zz"
   refine ⟨by walk_at "zr", by walk_at "zr", by walk_at "zr", ?_⟩
   rw [ZbB, Zq8, ey]
   simp only [Option.getD_some]
   congr 2
   omega
  rintro σ1 ⟨f0, f1, f3, f5⟩
  walk_at "zz"
  refine Zq7 (us := ZaL c n) (P := fun pre σ' => σ' 0 = some (.tup [.lst (tab (n + 1) fun i => .lst (tab (n + 1) fun j => oT (G i j))), .lst (tab n fun i => Z5 (R i))]) ∧ σ' 1 = some (.lst (tab (n + 1) fun i => .int (c i))) ∧ σ' 5 = some (.int (c 0 + sU G c (ZaH c n) - sD G c pre))) ?_ ⟨by walk_at "zr", by walk_at "zr", by simpa [sD] using f5⟩ ?_ ?_
  ·walk_at "zz"
   rfl
  ·rintro pre i σ' m ⟨g0, g1, g5⟩
   have hi := hd i m
   obtain ⟨y, ey⟩ := gd i m
   have by_ : Bd b y := hG 0 i h0 hi y ey
   walk_at "zz"
   rw [show (Int.toNat 0) = 0 from rfl, ey, Zap]
   refine ZbU (Zb4 (bc i hi) by_ (by omega) (by omega)) ?_
   walk_at "zz"
   refine ⟨by walk_at "zr", by walk_at "zr", ?_⟩
   rw [ZbB, Zq9, ey]
   simp only [Option.getD_some]
   congr 2
   omega
  rintro σ2 ⟨g0, g1, g5⟩
  walk_at "zz"
  rw [(tot n).2 hl]
  rfl
theorem Zs2 (hn : n ≤ 60) (hb : b ≤ 100000) (hG : GB b n G) (bc : ∀ i, i < n + 1 → Bd b (c i)) (e0 : σ 0 = some (.tup [.lst (tab (n + 1) fun i => .lst (tab (n + 1) fun j => oT (G i j))), .lst (tab n fun i => Z5 (R i))])) (e1 : σ 1 = some (.lst (tab (n + 1) fun i => .int (c i)))) (e2 : σ 2 = some (.lst ((ZaH c n).map fun i => T.int (i : Nat)))) (e3 : σ 3 = some (.lst ((ZaL c n).map fun i => T.int (i : Nat)))) : Psk ((Zt (ZQ (Zaj (ZE (Ze qEq (Zs Zas (Zd (Za 2) Zn)) (Zk 1))) (Zaj (ZE (Ze qEq (Zs Zas (Zd (Za 3) Zn)) (Zk 1))) (Zaj (ZE (Ze qEq (Ze Zr (Za 1) (Ze Zr (Za 2) (Zk 0))) (Zk 1))) (Zaj (ZE (Ze qEq (Ze Zr (Za 1) (Ze Zr (Za 3) (Zk 0))) (pUn Zbd (Zk 1)))) Zaf)))) (Zt (ZQ (ZE (Ze qIs (Ze Zr (Ze Zr (Ze Zr (Za 0) (Zk 0)) (Ze Zr (Za 2) (Zk 0))) (Ze Zr (Za 3) (Zk 0))) (ZT))) (ZF (ZT)) ZV) (ZF (Ze Zah (Ze Zr (Ze Zr (Ze Zr (Za 0) (Zk 0)) (Ze Zr (Za 2) (Zk 0))) (Ze Zr (Za 3) (Zk 0))) (Ze Zr (Za 1) (Zk 0))))) ZV) (Zt (ZJ 4 (Ze Zah (Zaq (ZaE (Za 2)) (Zad 104) Zaf (Ze Zr (Ze Zr (Ze Zr (Za 0) (Zk 0)) (Za 104)) (Zk 0))) (Zaq (ZaE (Za 3)) (Zad 106) Zaf (Ze Zr (Ze Zr (Ze Zr (Za 0) (Zk 0)) (Zk 0)) (Za 106))))) (Zt (ZQ (ZE (Ze qIn (ZT) (Za 4))) (ZF (ZT)) ZV) (Zt (ZJ 5 (Ze Zr (Za 1) (Zk 0))) (Zt (ZaC (ZaE (Za 2)) (Zad 6) (ZJ 5 (Ze Zah (Za 5) (Ze ZaG (Ze Zr (Za 1) (Za 6)) (Ze Zr (Ze Zr (Ze Zr (Za 0) (Zk 0)) (Za 6)) (Zk 0)))))) (Zt (ZaC (ZaE (Za 3)) (Zad 6) (ZJ 5 (Ze Za6 (Za 5) (Ze ZaG (Ze Zr (Za 1) (Za 6)) (Ze Zr (Ze Zr (Ze Zr (Za 0) (Zk 0)) (Zk 0)) (Za 6)))))) (ZF (Za 5)))))))) σ) (fun t => t = oT (grt n G c)) N := by
 by_cases h : Df n c
 ·obtain ⟨u, d, eu, ed, hcu, hcd, hu, hd, _, _, iu, id_, _, _⟩ := Zit h
  have hg : grt n G c = Zak (G u d) (some (c 0)) := by unfold grt; rw [Za0 h, iu, id_]; rfl
  rw [hg]
  rw [eu] at e2
  rw [ed] at e3
  simp only [List.map_cons, List.map_nil] at e2 e3
  walk_at "zz"
  cases hx : G u d with
  | none =>
   rw [Zbg]
   walk_at "zz"
   rfl
  | some y =>
   rw [Zap]
   walk_at "zz"
   rw [hx, Zap]
   walk_at "zz"
   rfl
 ·have hg : grt n G c = (ZcE c (S40 G) n).2 := by unfold grt; rw [Zbx h]; rfl
  rw [hg]
  refine Zcj (fun σ' => σ' = σ) ?_ ?_
  ·by_cases l1 : (ZaH c n).length = 1
   ·obtain ⟨u, eu⟩ := List.length_eq_one_iff.mp l1
    have hu : u < n + 1 := by have := ups_mem.mp (show u ∈ ZaH c n by rw [eu]; simp); omega
    by_cases l2 : (ZaL c n).length = 1
    ·obtain ⟨d, ed⟩ := List.length_eq_one_iff.mp l2
     have hd : d < n + 1 := by have := dns_mem.mp (show d ∈ ZaL c n by rw [ed]; simp); omega
     have hno : ¬ (c u = 1 ∧ c d = -1) := fun q => h (df_iff.mpr ⟨by rw [eu]; simp [q.1], by rw [ed]; simp [q.2]⟩)
     rw [eu] at e2
     rw [ed] at e3
     simp only [List.map_cons, List.map_nil] at e2 e3
     by_cases q1 : c u = 1
     ·have q2 : c d ≠ -1 := fun q => hno ⟨q1, q⟩
      walk_at "zz"
      rfl
     ·walk_at "zz"
      rfl
    ·rw [eu] at e2
     simp only [List.map_cons, List.map_nil] at e2
     have l3 : ((((ZaL c n).map fun i => T.int (i : Nat)).length : Nat) : Int) ≠ 1 := by rw [List.length_map]; omega
     walk_at "zz"
     rfl
   ·have l3 : ((((ZaH c n).map fun i => T.int (i : Nat)).length : Nat) : Int) ≠ 1 := by rw [List.length_map]; omega
    walk_at "zz"
    rfl
  ·rintro _ rfl
   exact Zsm hn hb hG bc e0 e1 e2 e3
theorem ZfZ (hn : n ≤ 60) (hb : b ≤ 100000) (hG : GB b n G) (bc : ∀ i, i < n + 1 → Bd b (c i)) : ZdM [ZR n G R, ZY n c] = some (oT (grt n G c)) := by
 apply Pk.eq
 unfold ZdM Zj6
 have ht : ZR n G R = .tup [.lst (tab (n + 1) fun i => .lst (tab (n + 1) fun j => oT (G i j))), .lst (tab n fun i => Z5 (R i))] := rfl
 rw [ht]
 unfold ZY
 refine Zi3 rfl ?_
 have rg : ∀ {σ : TL} {j : Nat}, σ 1 = some (.lst (tab (n + 1) fun i => .int (c i))) → Pl (ZaF (Zd (Zk 1) (Zd (Zs Zas (Zd (Za 1) Zn)) Zn)) σ) fun us => us = tab n fun i => T.int ((1 + i : Nat) : Int) := fun {σ} {j} e => by
  refine ZfA (a := 1) (m := n) (by omega) (by omega) ?_ rfl
  simp only [Zd, Zk, Zn, Zs, Za, e, Option.bind_some, Zas, Zat]
  congr 3
  congr 1
  omega
 refine Zcj (fun σ' => σ' 0 = some (.tup [.lst (tab (n + 1) fun i => .lst (tab (n + 1) fun j => oT (G i j))), .lst (tab n fun i => Z5 (R i))]) ∧ σ' 1 = some (.lst (tab (n + 1) fun i => .int (c i))) ∧ σ' 2 = some (.lst ((ZaH c n).map fun i => T.int (i : Nat)))) ?_ ?_
 ·refine Zi2 ?_
  refine Znc (ts := tab n fun i => T.int ((1 + i : Nat) : Int)) (P := ZoF c) (by rw [Zat]; omega) (rg (j := 0) rfl) (fun t m => ?_) ?_
  ·obtain ⟨i, hi, rfl⟩ := ZcP m
   have h1 : 1 + i < n + 1 := by omega
   walk_at "zz"
   show decide (0 < c (1 + i)) = decide (0 < c ((1 + i : Nat) : Int).toNat)
   rw [Int.toNat_natCast]
  ·rw [Zqt]
   exact ⟨rfl, rfl, ZbB⟩
 rintro σ1 ⟨f0, f1, f2⟩
 refine Zcj (fun σ' => σ' 0 = some (.tup [.lst (tab (n + 1) fun i => .lst (tab (n + 1) fun j => oT (G i j))), .lst (tab n fun i => Z5 (R i))]) ∧ σ' 1 = some (.lst (tab (n + 1) fun i => .int (c i))) ∧ σ' 2 = some (.lst ((ZaH c n).map fun i => T.int (i : Nat))) ∧ σ' 3 = some (.lst ((ZaL c n).map fun i => T.int (i : Nat)))) ?_ ?_
 ·refine Zi2 ?_
  refine Znc (ts := tab n fun i => T.int ((1 + i : Nat) : Int)) (P := ZoG c) (by rw [Zat]; omega) (rg (j := 0) f1) (fun t m => ?_) ?_
  ·obtain ⟨i, hi, rfl⟩ := ZcP m
   have h1 : 1 + i < n + 1 := by omega
   walk_at "zz"
   show decide (c (1 + i) < 0) = decide (c ((1 + i : Nat) : Int).toNat < 0)
   rw [Int.toNat_natCast]
  ·rw [Zqu]
   exact ⟨by walk_at "zr", by walk_at "zr", by walk_at "zr", ZbB⟩
 rintro σ2 ⟨g0, g1, g2, g3⟩
 exact Zs2 hn hb hG bc g0 g1 g2 g3
theorem Zra {b n : Nat} {c : Nat → Int} {S : Nat → Sp} (bc : ∀ i, i < n + 1 → Bd b (c i)) (bS : ∀ i, i < n → SBd b (S i)) : ∀ j, j ≤ n → ∀ y, (ZcE c S j).2 = some y → Bd (b + b + j + 1) y
 | 0, _, y, e => by cases e; exact (bc 0 (by omega)).mono (by omega)
 | j + 1, h, y, e => by
  obtain ⟨p, q, h1, h2, rfl⟩ := addO_some.mp (show Zak (ZcE c S j).2 (ZcS (S j) (c (j + 1))).2 = some y from e)
  have ih := Zra bc bS j (by omega) p h1
  have hq : Bd (b + b) q := by
   unfold ZcS at h2
   split at h2
   ·cases h2; exact ZcL
   ·split at h2
    ·obtain ⟨z, e1, rfl⟩ := Zz1.mp h2
     exact ((bS j (by omega)).1 z e1).mul (bc (j + 1) (by omega))
    ·obtain ⟨z, e1, rfl⟩ := Zz1.mp h2
     exact ((bS j (by omega)).2 z e1).mul (bc (j + 1) (by omega))
  exact (ih.add (hq.mono (by omega))).mono (by omega)
theorem ZgS (bc : ∀ i, i < n + 1 → Bd b (c i)) : ∀ i, i < n + 1 → Bd b (-(c i)) := fun i hi => by
 have := bc i hi
 unfold Bd at *
 omega
noncomputable def Zar (c : Nat → Int) (x : Nat → Int) : Nat → Int
 | 0 => c 0
 | j + 1 => Zar c x j + c (j + 1) * x j
theorem Zrb {c x : Nat → Int} : ∀ n, c 0 + (tab n fun i => c (i + 1) * x i).sum = Zar c x n
 | 0 => by simp [tab, Zar]
 | n + 1 => by
  rw [← ZdX (n := n) (f := fun i => c (i + 1) * x i), List.sum_append]
  have := Zrb (c := c) (x := x) n
  simp only [List.sum_cons, List.sum_nil, Zar]
  omega
theorem ZrD {c x : Nat → Int} {S : Nat → Sp} {n : Nat} (h : ∀ i, i < n → InS (S i) (x i)) : ∀ j, j ≤ n → InS (ZcE c S j) (Zar c x j)
 | 0, _ => ⟨fun l e => by cases e; exact Int.le_refl _, fun l e => by cases e; exact Int.le_refl _⟩
 | j + 1, hj => Zvh (ZrD h j (by omega)) (Zus (h j (by omega)))
theorem ZeN {c x : Nat → Int} : ∀ n, Zar (fun i => -(c i)) x n = -(Zar c x n)
 | 0 => rfl
 | n + 1 => by
  simp only [Zar, ZeN n, Int.neg_mul]
  omega
noncomputable def sV (c x : Nat → Int) (l : List Nat) : Int := (l.map fun i => c i * x (i - 1)).sum
theorem ZpZ {c x : Nat → Int} : ∀ n, Zar c x n = c 0 + sV c x (ZaH c n) + sV c x (ZaL c n)
 | 0 => by simp [Zar, sV, ZaH, ZaL]
 | n + 1 => by
  have ih := ZpZ (c := c) (x := x) n
  have sn : ∀ l, sV c x (l ++ [n + 1]) = sV c x l + c (n + 1) * x n := fun l => by simp [sV]
  simp only [Zar, ZaH, ZaL, ih]
  rcases Int.lt_trichotomy (c (n + 1)) 0 with h | h | h
  ·rw [if_neg (by omega), if_pos h, List.append_nil, sn]
   omega
  ·rw [if_neg (by omega), if_neg (by omega), List.append_nil, List.append_nil, h]
   omega
  ·rw [if_pos h, if_neg (by omega), List.append_nil, sn]
   omega
theorem Zjd (h : Za1 n G R x) (e : grt n G c = some y) : Zar c x n ≤ y := by
 unfold grt at e
 by_cases hd : Df n c
 ·rw [Za0 hd] at e
  obtain ⟨u, d, eu, ed, hcu, hcd, hu, hdn, hu1, hd1, iu, id_, _, _⟩ := Zit hd
  rw [iu, id_] at e
  obtain ⟨p, q, h1, h2, rfl⟩ := addO_some.mp (show Zak (G u d) (some (c 0)) = some y from e)
  cases h2
  have hb := h.1 u d hu hdn p h1
  rw [ZpZ, eu, ed]
  have f : ∀ i, 1 ≤ i → ZaR x i = x (i - 1) := fun i hi => by
   cases i with
   | zero => omega
   | succ i => rfl
  rw [f u hu1, f d hd1] at hb
  simp only [sV, List.map_cons, List.map_nil, List.sum_cons, List.sum_nil, hcu, hcd]
  omega
 ·rw [Zbx hd] at e
  refine (ZrD (S := S40 G) (n := n) (fun i hi => ⟨fun l el => ?_, fun r er => ?_⟩) n (Zz10 n)).2 y e
  ·obtain ⟨z, e1, rfl⟩ := Zz1.mp el
   have := h.1 0 (i + 1) (by omega) (by omega) z e1
   have f0 : ZaR x 0 = 0 := rfl
   have f1 : ZaR x (i + 1) = x i := rfl
   show z * (-1) ≤ x i
   omega
  ·have := h.1 (i + 1) 0 (by omega) (by omega) r er
   have f0 : ZaR x 0 = 0 := rfl
   have f1 : ZaR x (i + 1) = x i := rfl
   omega
theorem Zvn (hn : n ≤ 60) (hb : b ≤ 100000) (bc : ∀ i, i < n + 1 → Bd b (c i)) (bx : ∀ i, i < n → Bd b (x i)) : ZhT [ZY n c, Zjx n x] = some (.int (Zar c x n)) := by
 apply Pk.eq
 unfold ZhT ZlA ZY Zjx
 have h0 : 0 < n + 1 := by omega
 walk_at "zz"
 refine Zck (n := n) (a := fun i => .int i) (b := fun i => .int (c (i + 1) * x i)) (by omega) ?_ (fun i hi => ?_) ?_
 ·walk_at "zz"
  rfl
 ·walk_at "zz"
  rw [show ((i : Int) + 1).toNat = i + 1 by omega]
  exact ZbU (Zb4 (bc (i + 1) (by omega)) (bx i hi) (by omega) (by omega)) rfl
 walk_at "zz"
 refine ⟨.int (tab n fun i => c (i + 1) * x i).sum, by simp only [Zjw, ZuT, Option.map_some], ?_⟩
 walk_at "zz"
 rw [show (Int.toNat 0) = 0 from rfl, Zrb]
noncomputable def SumB (n : Nat) (c : Nat → Int) (K : Int) : Prop := Bd 140 (c 0) ∧ ∀ i, 1 ≤ i → i < n + 1 → -K ≤ c i ∧ c i ≤ K
theorem SumB.bd (h : SumB n c K) (hK : K ≤ 4000000000) : ∀ i, i < n + 1 → Bd 140 (c i) := fun i hi => by
 by_cases q : i = 0
 ·subst q; exact h.1
 ·have := h.2 i (by omega) hi
  exact ZbT (i := 33) (by omega) (by decide)
theorem SumB.mono (h : SumB n c K) (hK : K ≤ K') : SumB n c K' := ⟨h.1, fun i h1 h2 => by have := h.2 i h1 h2; omega⟩
theorem ZiX {x : Nat} {v k : Int} (e : σ x = some (.lst (tab (n + 1) fun i => .int (c i)))) (h0 : 1 ≤ k) (h1 : k < (n + 1 : Nat)) (bc : SumB n c K) (hK : K ≤ K') (v0 : -K' ≤ v) (v1 : v ≤ K') (h : ∀ c', SumB n c' K' → N (Zab σ x (.lst (tab (n + 1) fun i => .int (c' i))))) : PutP σ x (.int v) (.int k) N := by
 refine ZmC (n := n + 1) (f := fun i => .int (c i)) e (by omega) h1 ?_
 have := h (fun i => if i = k.toNat then v else c i) ⟨by show Bd 140 (if 0 = k.toNat then v else c 0); rw [if_neg (by omega)]; exact bc.1, fun i hi1 hi2 => by
  by_cases q : i = k.toNat
  ·simp only [q, if_true]; exact ⟨v0, v1⟩
  ·simp only [q, if_false]; have := bc.2 i hi1 hi2; omega⟩
 rw [show (tab (n + 1) fun i => if i = k.toNat then T.int v else T.int (c i)) = tab (n + 1) fun i => T.int (if i = k.toNat then v else c i) from Zbj fun i _ => by split <;> rfl]
 exact this
noncomputable def unC (i : Nat) : Nat → Int := fun k => if 0 < i ∧ k = i then 1 else 0
theorem Zih (hn : n ≤ 900) : ZeG [.int i, .int n] = some (ZY n (unC i)) := by
 apply Pk.eq
 unfold ZeG ZmZ ZY
 walk_at "zz"
 refine Zck (n := n + 1) (a := fun k => .int (k : Nat)) (b := fun k => .int (unC i k)) (by omega) ?_ (fun k hk => ?_) rfl
 ·walk_at "zz"
  exact Zjl (n + 1) (by omega) (by omega) rfl
 ·walk_at "zz"
  by_cases h : 0 < i
  ·refine ⟨fun _ => ?_, fun c => absurd c (by simp; omega)⟩
   walk_at "zz"
   by_cases q : k = i
   ·refine ⟨fun _ => ?_, fun c => absurd c (by simp [q])⟩
    walk_at "zz"
    show _ = T.int (unC i k)
    unfold unC
    rw [if_pos ⟨h, q⟩]
   ·refine ⟨fun c => absurd c (by simp; omega), fun _ => ?_⟩
    walk_at "zz"
    show _ = T.int (unC i k)
    unfold unC
    rw [if_neg (fun c => q c.2)]
  ·refine ⟨fun c => absurd c (by simp; omega), fun _ => ⟨fun c => absurd c (by decide), fun _ => ?_⟩⟩
   walk_at "zz"
   show _ = T.int (unC i k)
   unfold unC
   rw [if_neg (fun c => h c.1)]
theorem Ztm {d : Nat → Int} (hn : n ≤ 900) : Zic [ZY n c, ZY n d] = some (ZY n fun k => c k + d k) := by
 apply Pk.eq
 unfold Zic Zmi ZY
 walk_at "zz"
 refine Znm (n := n + 1) (a := fun i => .int (c i)) (b := fun i => .int (d i)) (c := fun i => .int (c i + d i)) (by omega) ?_ (fun i hi => ?_) rfl
 ·walk_at "zz"
  rfl
 ·walk_at "zz"
  rfl
theorem ZlK {d : Nat → Int} (hn : n ≤ 900) (hb1 : 1 ≤ b) (hb : b ≤ 100000) (bd : ∀ i, i < n + 1 → Bd b (d i)) : Zfk [ZY n c, ZY n d] = some (ZY n fun k => c k - d k) := by
 apply Pk.eq
 unfold Zfk Zmk
 walk_at "zz"
 refine ZI (Zfb (by omega) hb bd (show Bd b (-1) by unfold Bd; have := Zeb hb1; unfold Bd at this; simpa using this)) ?_
 walk_at "zz"
 refine ZI (Ztm hn) ?_
 walk_at "zz"
 have : (fun k => c k + d k * -1) = fun k => c k - d k := by funext k; omega
 rw [this]
theorem ZrP : unC 0 = fun _ => 0 := by funext k; unfold unC; rw [if_neg (by omega)]
theorem Zrc (hG : GB b n G) (bc : ∀ i, i < n + 1 → Bd b (c i)) : ∀ y, grt n G c = some y → Bd (b + b + n + 1) y := fun y e => by
 unfold grt at e
 by_cases h : Df n c
 ·rw [Za0 h] at e
  obtain ⟨u, d, _, _, _, _, hu, hd, _, _, iu, id_, _, _⟩ := Zit h
  rw [iu, id_] at e
  obtain ⟨p, q, h1, h2, rfl⟩ := addO_some.mp (show Zak (G u d) (some (c 0)) = some y from e)
  cases h2
  exact ((hG u d hu hd p h1).add (bc 0 (by omega))).mono (by omega)
 ·rw [Zbx h] at e
  exact (Zra bc (ZrC hG) n (Zz10 n) y e).mono (by omega)
theorem ZgT {c d x : Nat → Int} : ∀ n, Zar (fun k => c k - d k) x n = Zar c x n - Zar d x n
 | 0 => rfl
 | n + 1 => by
  simp only [Zar, ZgT n, Int.sub_mul]
  omega
theorem Zqw {x : Nat → Int} : ∀ n, Zar (fun _ => 0) x n = 0
 | 0 => rfl
 | n + 1 => by simp only [Zar, Zqw n, Int.zero_mul]; omega
theorem ZnX {c : Nat → Int} {R : Nat → Int × Int} {x : Nat → Int} {n : Nat} (ok : ∀ t, t < n → RestOk (R t)) (h : ∀ t, t < n → Zav (R t) (x t)) : ∀ j, j ≤ n → ZbR c R j ∣ Zar c x j - Zcd c R j
 | 0, _ => by show (0 : Int) ∣ c 0 - c 0; rw [Int.sub_self]; exact Int.dvd_zero _
 | j + 1, hj => by
  have h1 : ZbR c R (j + 1) ∣ ZbR c R j := Int.gcd_dvd_left ..
  have h2 : ZbR c R (j + 1) ∣ c (j + 1) * (R j).1 := Int.gcd_dvd_right ..
  obtain ⟨z, hz⟩ := (Zbk (ok j (by omega)).nn (x j)).mp (h j (by omega))
  have h3 := Int.dvd_add (Int.dvd_trans h1 (ZnX ok h j (by omega))) (Int.dvd_trans h2 (Int.dvd_mul_right _ z))
  rw [show Zar c x (j + 1) = Zar c x j + c (j + 1) * x j from rfl, show Zcd c R (j + 1) = Zcd c R j + c (j + 1) * (R j).2 from rfl, show x j = (R j).2 + (R j).1 * z by omega, Int.mul_add, ← Int.mul_assoc]
  generalize c (j + 1) * (R j).1 * z = u at *
  generalize c (j + 1) * (R j).2 = v at *
  rwa [show Zar c x j + (v + u) - (Zcd c R j + v) = Zar c x j - Zcd c R j + u by omega]
theorem Zp0 {kk : Int} {w at_ m lo : Int} (hk0 : 0 ≤ kk) (hk9 : kk ≤ 1000) (hm : 0 < m) (hn : n ≤ 9) (hK : K ≤ K') (hlo : -K' ≤ -lo) (hhi : m - 1 - lo ≤ K') (e0 : σ 0 = some (scr ns)) (e1 : σ 1 = some (.int kk)) (e2 : σ 2 = some (.int n)) (e4 : σ 4 = some (.int w)) (e5 : σ 5 = some (.int (1 + at_))) (e3 : σ 3 = some (.lst (tab (n + 1) fun i => .int (c i)))) (bc : SumB n c K) (h : ∀ σ' c', σ' 0 = some (scr ns) → σ' 1 = some (.int kk) → σ' 2 = some (.int n) → σ' 4 = some (.int w) → σ' 5 = some (.int (1 + at_)) → σ' 3 = some (.lst (tab (n + 1) fun i => .int (c' i))) → SumB n c' K' → N σ') (pm plo : PE) (epm : ∀ σ, pm σ = some (.int m)) (eplo : ∀ σ, plo σ = some (.int lo)) : Psk (ZaC (ZaF (Zd (Za 2) Zn)) (Zad 7) (Za3 3 [] (Ze Za6 (Zs ZbS (Zd (Za 0) (Zd (Ze Zah (Ze Zah (Za 1) (Zk 1)) (Za 7)) (Zd pm Zn)))) plo) ZaD (Ze Zah (Za 7) (Zk 1))) σ) Q N := by
 refine ZbV (n := n) (a := fun i => .int i) (P := fun _ σ' => σ' 0 = some (scr ns) ∧ σ' 1 = some (.int kk) ∧ σ' 2 = some (.int n) ∧ σ' 4 = some (.int w) ∧ σ' 5 = some (.int (1 + at_)) ∧ ∃ c', σ' 3 = some (.lst (tab (n + 1) fun i => .int (c' i))) ∧ SumB n c' K') ?_ ⟨e0, e1, e2, e4, e5, c, e3, bc.mono hK⟩ ?_ ?_
 ·walk_at "zz"
  rfl
 ·rintro i σ' hi ⟨f0, f1, f2, f4, f5, c', f3, bc'⟩
  obtain ⟨k0, k1⟩ := Zcl ns (kk + 1 + (i : Int)) hm
  walk_at "zz"
  refine ⟨_, epm _, ?_⟩
  walk_at "zz"
  refine ZI (Zcm (by omega) (by omega) hm) ?_
  refine ⟨_, eplo _, ?_⟩
  walk_at "zz"
  refine ZiX (n := n) (c := c') (K := K') (K' := K') (by walk_at "zr") (by omega) (by omega) bc' (Int.le_refl _) (by omega) (by omega) fun c2 bc2 => ?_
  exact ⟨by walk_at "zr", by walk_at "zr", by walk_at "zr", by walk_at "zr", by walk_at "zr", c2, ZbB, bc2⟩
 ·rintro σ' ⟨f0, f1, f2, f4, f5, c', f3, bc'⟩
  exact h σ' c' f0 f1 f2 f4 f5 f3 bc'
theorem Zx0 {kk : Int} (hk0 : 0 ≤ kk) (hk9 : kk ≤ 1000) (hL : Lay ns) (hn : n ≤ 9) : Pk (Zio [scr ns, .int kk, .int n]) fun t => ∃ c, t = ZY n c ∧ SumB n c 1000000000 := by
 unfold Zio ZmX
 have bn : Bd 140 (Zcs ns kk) := ZbT (ZiS ns kk) (by decide)
 obtain ⟨p0, p1⟩ := Zcl ns kk (show (0 : Int) < 6 by decide)
 refine Zi3 rfl ?_
 refine Zcj (fun σ' => σ' 0 = some (scr ns) ∧ σ' 1 = some (.int kk) ∧ σ' 2 = some (.int n) ∧ ∃ c, σ' 3 = some (.lst (tab (n + 1) fun i => .int (c i))) ∧ SumB n c 0) ?_ ?_
 ·walk_at "zz"
  refine ZI (ZgA hL (by omega) (by omega)) ?_
  walk_at "zz"
  refine Zwt (by omega) ?_
  refine ZqK (by omega) ?_
  rw [show cn (T.int (Zcs ns kk)) (fun _ => T.int 0) = fun i => T.int (cn (Zcs ns kk) (fun _ => 0) i) from by funext i; cases i <;> rfl]
  refine ⟨Zpu fun _ _ => rfl, ?_⟩
  refine ⟨rfl, rfl, rfl, _, ZbB, bn, fun i h1 h2 => ?_⟩
  cases i with
  | zero => omega
  | succ i => exact ⟨Int.le_refl 0, Int.le_refl 0⟩
 rintro σ1 ⟨e0, e1, e2, c, e3, bc⟩
 walk_at "zz"
 refine ZI (Zcm (by omega) (by omega) (by decide)) ?_
 by_cases hz : Zby ns kk 6 = 0 ∨ n = 0
 ·rcases hz with hz | hz
  ·walk_at "zz"
   exact ⟨c, rfl, bc.mono (by decide)⟩
  ·by_cases q : Zby ns kk 6 = 0
   ·walk_at "zz"
    exact ⟨c, rfl, bc.mono (by decide)⟩
   ·have : (n : Int) = 0 := by omega
    walk_at "zz"
    exact ⟨c, rfl, bc.mono (by decide)⟩
 have hz1 : Zby ns kk 6 ≠ 0 := fun q => hz (.inl q)
 have hn0 : (n : Int) ≠ 0 := fun q => hz (.inr (by omega))
 obtain ⟨a0, a1⟩ := Zcl ns (kk + 1) (show (0 : Int) < n by omega)
 walk_at "zz"
 refine ZI (Zcm (by omega) (by omega) (by omega)) ?_
 refine Zro ?_
 generalize Zby ns kk 6 = w at *
 generalize Zby ns (kk + 1) n = at_ at *
 let M : Int → TL → Prop := fun K σ' => σ' 0 = some (scr ns) ∧ σ' 1 = some (.int kk) ∧ σ' 2 = some (.int n) ∧ σ' 4 = some (.int w) ∧ σ' 5 = some (.int (1 + at_)) ∧ ∃ c, σ' 3 = some (.lst (tab (n + 1) fun i => .int (c i))) ∧ SumB n c K
 refine Zcj (M 6) ?_ ?_
 ·walk_at "zz"
  refine ⟨fun q => ?_, fun q => ?_⟩
  ·obtain ⟨k0, k1⟩ := Zcl ns (kk + 2) (show (0 : Int) < 13 by decide)
   walk_at "zz"
   refine ZI (Zcm (by omega) (by omega) (by decide)) ?_
   walk_at "zz"
   refine ZiX (n := n) (c := c) (K := 0) (K' := 6) (by walk_at "zr") (by omega) (by omega) bc (by decide) (by omega) (by omega) fun c' bc' => ?_
   exact ⟨by walk_at "zr", by walk_at "zr", by walk_at "zr", by walk_at "zr", by walk_at "zr", c', ZbB, bc'⟩
  ·walk_at "zz"
   exact ⟨by walk_at "zr", by walk_at "zr", by walk_at "zr", by walk_at "zr", by walk_at "zr", c, by walk_at "zr", bc.mono (by decide)⟩
 clear bc e3 c
 rintro σ2 ⟨f0, f1, f2, f4, f5, c1, f3, bc1⟩
 refine Zcj (M 7) ?_ ?_
 ·have go : Psk ((Zt (ZJ 6 (Ze Zah (Zk 1) (Zs ZbS (Zd (Za 0) (Zd (Ze Zah (Za 1) (Zk 2)) (Zd (Za 2) Zn)))))) (Zt (Za3 3 [] (Zk 1) ZaD (Za 5)) (Za3 3 [] (Ze Za6 (Ze Zr (Za 3) (Za 6)) (Zk 1)) ZaD (Za 6)))) σ2) (fun t => ∃ c, t = ZY n c ∧ SumB n c 1000000000) (M 7) := by
   obtain ⟨k0, k1⟩ := Zcl ns (kk + 2) (show (0 : Int) < n by omega)
   walk_at "zz"
   refine ZI (Zcm (by omega) (by omega) (by omega)) ?_
   generalize Zby ns (kk + 2) n = to_ at *
   walk_at "zz"
   refine ZiX (n := n) (c := c1) (K := 6) (K' := 6) (by walk_at "zr") (by omega) (by omega) bc1 (by decide) (by decide) (by decide) fun c' bc' => ?_
   have hto := bc'.2 (1 + to_).toNat (by omega) (by omega)
   walk_at "zz"
   refine ZiX (n := n) (c := c') (K := 6) (K' := 7) (by walk_at "zr") (by omega) (by omega) bc' (by decide) (by omega) (by omega) fun c2 bc2 => ?_
   exact ⟨by walk_at "zr", by walk_at "zr", by walk_at "zr", by walk_at "zr", by walk_at "zr", c2, ZbB, bc2⟩
  have no : M 7 σ2 := ⟨f0, f1, f2, f4, f5, c1, f3, bc1.mono (by decide)⟩
  by_cases q2 : w = 2
  ·refine Zoc ?_
   refine ⟨true, ?_, fun _ => go, fun e => by cases e⟩
   simp [bOr, ZE, Ze, Za, f4, Zk, qEq, ZiJ, Zb5, q2]
  ·by_cases q3 : w = 3
   ·refine Zoc ?_
    refine ⟨true, ?_, fun _ => go, fun e => by cases e⟩
    simp [bOr, ZE, Ze, Za, f4, Zk, qEq, ZiJ, Zb5, q3]
   ·walk_at "zz"
    exact no
 clear bc1 f3 c1
 clear f0 f1 f2 f4 f5
 rintro σ3 ⟨f0, f1, f2, f4, f5, c1, f3, bc1⟩
 refine Zcj (M 7) ?_ ?_
 ·walk_at "zz"
  refine ⟨fun q => ?_, fun q => ?_⟩
  ·exact Zp0 hk0 hk9 (m := 7) (lo := 3) (K := 7) (K' := 7) (by decide) hn (by decide) (by decide) (by decide) f0 f1 f2 f4 f5 f3 bc1 (fun σ' c' g0 g1 g2 g4 g5 g3 bc' => ⟨g0, g1, g2, g4, g5, c', g3, bc'⟩) _ _ (fun _ => rfl) (fun _ => rfl)
  ·walk_at "zz"
   exact ⟨f0, f1, f2, f4, f5, c1, f3, bc1⟩
 clear bc1 f3 c1
 clear f0 f1 f2 f4 f5
 rintro σ4 ⟨f0, f1, f2, f4, f5, c1, f3, bc1⟩
 refine Zcj (M 1000000000) ?_ ?_
 ·walk_at "zz"
  refine ⟨fun q => ?_, fun q => ?_⟩
  ·exact Zp0 hk0 hk9 (m := 2000000001) (lo := 1000000000) (K := 7) (K' := 1000000000) (by decide) hn (by decide) (by decide) (by decide) f0 f1 f2 f4 f5 f3 bc1 (fun σ' c' g0 g1 g2 g4 g5 g3 bc' => ⟨g0, g1, g2, g4, g5, c', g3, bc'⟩) _ _ (fun _ => rfl) (fun _ => rfl)
  ·walk_at "zz"
   exact ⟨f0, f1, f2, f4, f5, c1, f3, bc1.mono (by decide)⟩
 rintro σ5 ⟨g0, g1, g2, g4, g5, c2, g3, bc2⟩
 walk_at "zz"
 exact ⟨c2, rfl, bc2⟩
theorem ZrE {a : Nat} (h : 1 ≤ a) : unC a a = 1 := by unfold unC; rw [if_pos ⟨by omega, rfl⟩]
theorem Zom {a : Nat} (h : k ≠ a) : unC a k = 0 := by unfold unC; rw [if_neg (fun q => h q.2)]
theorem Zon (hp : RestOk p) (hq : RestOk q) (h : ∀ x, Zav p x → Zav q x) : RIn p q := by
 have e : ∀ x, p.1 ∣ x - p.2 → q.1 ∣ x - q.2 := fun x hx => (Zbk hq.nn x).mp (h x ((Zbk hp.nn x).mpr hx))
 have a1 : q.1 ∣ p.2 - q.2 := e p.2 (by simp)
 have a2 : q.1 ∣ p.2 + p.1 - q.2 := e (p.2 + p.1) (by rw [show p.2 + p.1 - p.2 = p.1 by omega]; exact Int.dvd_refl _)
 have c1 : q.1 ∣ p.1 := by have := Int.dvd_sub a2 a1; rwa [show p.2 + p.1 - q.2 - (p.2 - q.2) = p.1 by omega] at this
 unfold RIn
 split
 ·rename_i z
  rw [z, Int.zero_dvd] at a1 c1
  exact Prod.ext (by rw [c1, z]) (by omega)
 ·exact ⟨Int.emod_eq_zero_of_dvd c1, Int.emod_eq_zero_of_dvd a1⟩
theorem Zs3 (hR : ∀ t, t < n → RestOk (R t)) (s : Sharp n G R G2 R2 M k) : Zcx n G2 R2 G R := by
 obtain ⟨R1, h1, h2, h3, h4, rfl, h6⟩ := s.go
 refine ⟨fun i hi j hj => ?_, fun t ht => ?_⟩
 ·refine Zcu (Zg9 (n + 1) i j) (Zcu (Zwj fun b e q => h3 ⟨i, j, hi, hj, b, e, q⟩) (Zg9 (n + 1) i j))
 ·refine Zon (h6 t ht).1.1 (hR t ht) fun x hx => ?_
  have a := ((h6 t ht).2 x).mp hx
  have b := ((h2 t ht).2 x).mp a.1
  exact b.1
theorem ZrF {a : Nat} {x : Nat → Int} (h1 : 1 ≤ a) : ∀ n, Zar (unC a) x n = if a ≤ n then x (a - 1) else 0
 | 0 => by rw [if_neg (by omega)]; exact Zom (by omega)
 | n + 1 => by
  show Zar (unC a) x n + unC a (n + 1) * x n = _
  rw [ZrF h1 n]
  by_cases q : n + 1 = a
  ·subst q
   rw [ZrE h1, if_neg (by omega), if_pos (by omega), Nat.add_sub_cancel]; omega
  ·rw [Zom q, Int.zero_mul]
   by_cases g : a ≤ n
   ·rw [if_pos g, if_pos (by omega)]; omega
   ·rw [if_neg g, if_neg (by omega)]; rfl
noncomputable def DueOk (m : Nat) (D : T) : Prop := D = .none ∨ ∃ G R, D = ZR m G R ∧ (∀ i, i < m + 1 → G i i = some 0) ∧ ∀ t, t < m → RestOk (R t)
theorem DueOk.same (hm : m ≤ 100) (h : DueOk m D) : ZdU [D, D] = some (.bool true) := by
 rcases h with rfl | ⟨G, R, rfl, hd, ok⟩
 ·exact ZsF
 ·exact ZsG hm hd ok
theorem ZtV {K : Nat} (hM : 0 < M) (bM : Bd K M) (bG : BdG (n + 1) k G) (hk : k + n + 1 ≤ K) (s : Sharp n G R G2 R2 M K) : BdG (n + 1) (K + n + 2) G2 ∧ ∀ t, t < n → RBd K (R2 t) := by
 obtain ⟨R1, _, h1, _, _, rfl, h2⟩ := s.go
 refine ⟨?_, fun t ht => (h2 t ht).1.bd hM bM⟩
 have b1 : BdG (n + 1) K (clG G (n + 1)) := fun a b c ha hb e => (Zer bG (n + 1) (Zz10 _) a b c ha hb e).mono (by omega)
 have b2 := Zol hM bM b1 fun t ht => (h1 t ht).1
 exact fun a b c ha hb e => (Zer b2 (n + 1) (Zz10 _) a b c ha hb e).mono (by omega)
theorem Zww : (oR o).flat = true := by cases o <;> rfl
theorem Zxx {N : Nat} {ρ : Nat → Option (Int × Int)} : (tab N fun t => if t = k then oR o else oR (ρ t)) = tab N fun t => oR (if t = k then o else ρ t) := Zbj fun t _ => by
 by_cases c : t = k
 ·rw [if_pos c, if_pos c]
 ·rw [if_neg c, if_neg c]
theorem Znd {a : Nat} (h : v = Γ a b) : Zb0 Γ a b v = Γ := by
 funext i j
 by_cases c : i = a ∧ j = b
 ·obtain ⟨rfl, rfl⟩ := c
  rw [ZiT, h]
 ·rw [ZgR c]
theorem Zxy {b : Option Int} : Za2 none b = b := by
 unfold Za2
 by_cases c : leO none b
 ·rw [Za0 c]
  cases b with
  | none => rfl
  | some y => exact absurd c ZiQ
 ·rw [Zbx c]; rfl
theorem Zwx {x : Int} (h : y < x) : Za2 (some x) (some y) = some y := by
 unfold Za2
 rw [Zbx (by rw [leO_some]; omega)]
 rfl
noncomputable def apC (c : Nat → Int) (i j : Nat) : Nat → Int := fun k => unC i k - unC j k - c k
noncomputable def alC (c : Nat → Int) (i : Nat) : Nat → Int := fun k => unC i k * c i - c k
theorem ZeR : unC i k = 0 ∨ unC i k = 1 := by unfold unC; split; exact .inr rfl; exact .inl rfl
theorem Zox (hb : 1 ≤ b) (bc : ∀ i, i < n + 1 → Bd b (c i)) (i j : Nat) : ∀ k, k < n + 1 → Bd (b + 2) (apC c i j k) := fun k hk => by
 have h := bc k hk
 have h1 := ZeR (i := i) (k := k)
 have h2 := ZeR (i := j) (k := k)
 have h3 : 2 ≤ 2 ^ b := by
  have : 2 ^ 1 ≤ 2 ^ b := Nat.pow_le_pow_right (by decide) hb
  exact this
 unfold Bd apC at *
 rw [Nat.pow_add]
 omega
theorem Zoy (bc : ∀ i, i < n + 1 → Bd b (c i)) (i : Nat) (hi : i < n + 1) : ∀ k, k < n + 1 → Bd (b + 2) (alC c i k) := fun k hk => by
 have h := bc k hk
 have g := bc i hi
 unfold alC
 rcases ZeR (i := i) (k := k) with e | e
 ·rw [e, Int.zero_mul]; unfold Bd at *; rw [Nat.pow_add]; omega
 ·rw [e, Int.one_mul]; unfold Bd at *; rw [Nat.pow_add]; omega
theorem ZoY {d : Nat → Int} (hn : n ≤ 60) (hb : b ≤ 1000) (hb1 : 1 ≤ b) (hG : GB b n G) (bc : ∀ i, i < n + 1 → Bd b (c i)) (bd : ∀ i, i < n + 1 → Bd b (d i - c i)) : Zga [ZR n G R, ZY n d, ZY n c, .int top] = some (oT (Zak (grt n G fun k => d k - c k) (some top))) := by
 apply Pk.eq
 unfold Zga ZkS
 walk_at "zz"
 refine ZI (ZlK (by omega) hb1 (by omega) bc) ?_
 walk_at "zz"
 refine ZI (ZlJ hn (by omega) hb1 hG bd) ?_
 walk_at "zz"
 exact ZI (Zff (b := some top)) rfl
theorem ZpI {N : Nat} {G' : Nat → Nat → Option Int} (h : ∀ i j, i < N → j < N → G i j = G' i j) : Z8 N G = Z8 N G' := by
 unfold Z8 Zay
 rw [show (tab N fun i => T.lst (tab N fun j => oT (G i j))) = tab N fun i => T.lst (tab N fun j => oT (G' i j)) from Zbj fun i hi => by rw [Zbj fun j hj => by rw [h i j hi hj]]]
noncomputable def Wv (w G : Nat → Nat → Option Int) (i j : Nat) : Nat → Nat → Option Int := fun a b => if a < i ∨ (a = i ∧ b < j) then w a b else G a b
theorem Zoo : Zb0 (Wv w G i j) i j (w i j) = Wv w G i (j + 1) := by
 funext a b
 unfold Zb0 Wv
 by_cases h : a = i ∧ b = j
 ·rw [if_pos h, if_pos (by omega), h.1, h.2]
 ·rw [if_neg h]
  by_cases q : a < i ∨ (a = i ∧ b < j)
  ·rw [if_pos q, if_pos (by omega)]
  ·rw [if_neg q, if_neg (by omega)]
theorem Zoz : Wv w G i j i j = G i j := by unfold Wv; rw [if_neg (by omega)]
theorem Wv_row {N : Nat} : Z8 N (Wv w G i N) = Z8 N (Wv w G (i + 1) 0) := ZpI fun a b ha hb => by
 unfold Wv
 by_cases q : a < i ∨ (a = i ∧ b < N)
 ·rw [if_pos q, if_pos (by omega)]
 ·rw [if_neg q, if_neg (by omega)]
theorem ZrS : Wv w G 0 0 = G := by funext a b; unfold Wv; rw [if_neg (by omega)]
theorem Wv_all {N : Nat} : Z8 N (Wv w G N 0) = Z8 N w := ZpI fun a b ha hb => by unfold Wv; rw [if_pos (.inl ha)]
noncomputable def apW (n : Nat) (G : Nat → Nat → Option Int) (c : Nat → Int) (top : Int) (a b : Nat) : Option Int := if a = b then G a b else Za2 (G a b) (Zak (grt n G (apC c a b)) (some top))
theorem Zsn (hn : n ≤ 60) (hb : b ≤ 900) (hb1 : 1 ≤ b) (hG : GB b n G) (bc : ∀ i, i < n + 1 → Bd b (c i)) (hd : ∀ i, i < n + 1 → G i i = some 0) (hc : ∀ y, grt n G (fun k => -(c k)) = some y → -y ≤ top) : Zhz [Z8 (n + 1) G, ZR n G R, ZY n c, .int top] = some (Z8 (n + 1) (apW n G c top)) := by
 apply Pk.eq
 unfold Zhz Zku
 refine ZnM rfl ?_
 have ht : ZR n G R = .tup [Z8 (n + 1) G, .lst (tab n fun i => Z5 (R i))] := rfl
 have bu : ∀ i k, k < n + 1 → Bd b (unC i k) := fun i k _ => by
  rcases ZeR (i := i) (k := k) with e | e <;> rw [e]
  ·exact ZcL
  ·exact Zeb hb1
 have hw : ∀ i j, i < n + 1 → Za2 (G i j) (Zak (grt n G (apC c i j)) (some top)) = apW n G c top i j := fun i j hi => by
  unfold apW
  split
  ·rename_i e
   subst e
   rw [hd i hi]
   refine Zel ?_
   have : apC c i i = fun k => -(c k) := by funext k; unfold apC; omega
   rw [this]
   cases e : grt n G fun k => -(c k) with
   | none => exact Zdl
   | some y => exact leO_some.mpr (by have := hc y e; omega)
  ·rfl
 rw [ht]
 walk_at "zz"
 rw [← ht]
 refine ZbV (n := n + 1) (a := fun i => .int i) (P := fun i σ => σ 0 = some (Z8 (n + 1) (Wv (apW n G c top) G i 0)) ∧ σ 1 = some (ZR n G R) ∧ σ 2 = some (ZY n c) ∧ σ 3 = some (.int top) ∧ σ 4 = some (.int n)) ?_ ⟨by rw [ZrS]; rfl, rfl, rfl, rfl, rfl⟩ ?_ ?_
 ·walk_at "zz"
  exact Zjl (n + 1) (by omega) (by omega) rfl
 ·rintro i σ hi ⟨e0, e1, e2, e3, e4⟩
  refine ZbV (n := n + 1) (a := fun j => .int j) (P := fun j σ => σ 0 = some (Z8 (n + 1) (Wv (apW n G c top) G i j)) ∧ σ 1 = some (ZR n G R) ∧ σ 2 = some (ZY n c) ∧ σ 3 = some (.int top) ∧ σ 4 = some (.int n) ∧ σ 5 = some (.int i)) ?_ ⟨by walk_at "zr", by walk_at "zr", by walk_at "zr", by walk_at "zr", by walk_at "zr", by walk_at "zr"⟩ ?_ ?_
  ·walk_at "zz"
   exact Zjl (n + 1) (by omega) (by omega) rfl
  ·rintro j σ hj ⟨e0, e1, e2, e3, e4, e5⟩
   walk_at "zz"
   refine ZI (Zih (by omega)) ?_
   walk_at "zz"
   refine ZI (Zih (by omega)) ?_
   walk_at "zz"
   refine ZI (ZlK (b := b) (by omega) hb1 (by omega) (bu j)) ?_
   refine Zg0 (t := Z8 (n + 1) (Wv (apW n G c top) G i j)) (by walk_at "zr") ?_
   walk_at "zz"
   refine ZI (ZoY (b := b + 2) (d := fun k => unC i k - unC j k) hn (by omega) (by omega) (fun a b ha hb y e => (hG a b ha hb y e).mono (by omega)) (fun k hk => (bc k hk).mono (by omega)) (Zox hb1 bc i j)) ?_
   walk_at "zz"
   refine ZI (ZlI hi hj) ?_
   rw [Zoz, show (fun k => unC i k - unC j k - c k) = apC c i j from rfl, hw i j hi, Zoo]
   exact ⟨ZbB, by walk_at "zr", by walk_at "zr", by walk_at "zr", by walk_at "zr", by walk_at "zr"⟩
  ·rintro σ ⟨e0, e1, e2, e3, e4, e5⟩
   exact ⟨by rw [← Wv_row]; exact e0, e1, e2, e3, e4⟩
 ·rintro σ ⟨e0, e1, e2, e3, e4⟩
  exact ⟨_, e0, Wv_all⟩
theorem ZoZ {k : Int} (hi : i ≤ 9000) (hk0 : k ≠ 0) (hk : Bd i k) : Zgb [oT a, .int k] = some (oT (a.map fun x => x.fdiv k)) := by
 apply Pk.eq
 unfold Zgb ZkU
 cases a with
 | none =>
  simp only [Zbg]
  walk_at "zz"
  rfl
 | some x =>
  rw [Zap]
  walk_at "zz"
  refine Zc7 hk0 (ZdH hk hi) ?_
  rfl
noncomputable def prt (n : Nat) (G : Nat → Nat → Option Int) (c : Nat → Int) (top : Int) (i : Nat) : Option Int := (Zak (grt n G (alC c i)) (some top)).map fun y => y.fdiv (if c i < 0 then -(c i) else c i)
noncomputable def alW (n : Nat) (G : Nat → Nat → Option Int) (c : Nat → Int) (top : Int) (Γ : Nat → Nat → Option Int) (m : Nat) : Nat → Nat → Option Int := fun a b => if b = 0 ∧ 1 ≤ a ∧ a ≤ m ∧ 0 < c a then Za2 (Γ a 0) (prt n G c top a) else if a = 0 ∧ 1 ≤ b ∧ b ≤ m ∧ c b < 0 then Za2 (Γ 0 b) (prt n G c top b) else Γ a b
theorem ZrQ : alW n G c top Γ 0 = Γ := by
 funext a b
 unfold alW
 rw [if_neg (by omega), if_neg (by omega)]
theorem ZnY (h : 0 < c (m + 1)) : Zb0 (alW n G c top Γ m) (m + 1) 0 (Za2 (alW n G c top Γ m (m + 1) 0) (prt n G c top (m + 1))) = alW n G c top Γ (m + 1) := by
 have e : alW n G c top Γ m (m + 1) 0 = Γ (m + 1) 0 := by unfold alW; rw [if_neg (by omega), if_neg (by omega)]
 rw [e]
 funext a b
 unfold Zb0 alW
 by_cases q : a = m + 1 ∧ b = 0
 ·obtain ⟨rfl, rfl⟩ := q
  rw [if_pos ⟨rfl, rfl⟩, if_pos ⟨rfl, by omega, by omega, h⟩]
 ·have i1 : (b = 0 ∧ 1 ≤ a ∧ a ≤ m + 1 ∧ 0 < c a) ↔ (b = 0 ∧ 1 ≤ a ∧ a ≤ m ∧ 0 < c a) := by omega
  have i2 : (a = 0 ∧ 1 ≤ b ∧ b ≤ m + 1 ∧ c b < 0) ↔ (a = 0 ∧ 1 ≤ b ∧ b ≤ m ∧ c b < 0) := by
   by_cases g : b = m + 1
   ·subst g; omega
   ·omega
  rw [if_neg q]
  simp only [i1, i2]
theorem ZnZ (h : c (m + 1) < 0) : Zb0 (alW n G c top Γ m) 0 (m + 1) (Za2 (alW n G c top Γ m 0 (m + 1)) (prt n G c top (m + 1))) = alW n G c top Γ (m + 1) := by
 have e : alW n G c top Γ m 0 (m + 1) = Γ 0 (m + 1) := by unfold alW; rw [if_neg (by omega), if_neg (by omega)]
 rw [e]
 funext a b
 unfold Zb0 alW
 by_cases q : a = 0 ∧ b = m + 1
 ·obtain ⟨rfl, rfl⟩ := q
  rw [if_pos ⟨rfl, rfl⟩, if_neg (by omega), if_pos ⟨rfl, by omega, by omega, h⟩]
 ·have i1 : (b = 0 ∧ 1 ≤ a ∧ a ≤ m + 1 ∧ 0 < c a) ↔ (b = 0 ∧ 1 ≤ a ∧ a ≤ m ∧ 0 < c a) := by
   by_cases g : a = m + 1
   ·subst g; omega
   ·omega
  have i2 : (a = 0 ∧ 1 ≤ b ∧ b ≤ m + 1 ∧ c b < 0) ↔ (a = 0 ∧ 1 ≤ b ∧ b ≤ m ∧ c b < 0) := by omega
  rw [if_neg q]
  simp only [i1, i2]
theorem Zqx (h : c (m + 1) = 0) : alW n G c top Γ m = alW n G c top Γ (m + 1) := by
 funext a b
 unfold alW
 have i1 : (b = 0 ∧ 1 ≤ a ∧ a ≤ m + 1 ∧ 0 < c a) ↔ (b = 0 ∧ 1 ≤ a ∧ a ≤ m ∧ 0 < c a) := by
  by_cases g : a = m + 1
  ·subst g; omega
  ·omega
 have i2 : (a = 0 ∧ 1 ≤ b ∧ b ≤ m + 1 ∧ c b < 0) ↔ (a = 0 ∧ 1 ≤ b ∧ b ≤ m ∧ c b < 0) := by
  by_cases g : b = m + 1
  ·subst g; omega
  ·omega
 simp only [i1, i2]
theorem Zso (hn : n ≤ 60) (hb : b ≤ 900) (hb1 : 1 ≤ b) (hG : GB b n G) (bc : ∀ i, i < n + 1 → Bd b (c i)) : ZhB [Z8 (n + 1) Γ, ZR n G R, ZY n c, .int top] = some (Z8 (n + 1) (alW n G c top Γ n)) := by
 apply Pk.eq
 unfold ZhB Zkw
 refine ZnM rfl ?_
 have ht : ZR n G R = .tup [Z8 (n + 1) G, .lst (tab n fun i => Z5 (R i))] := rfl
 have bu : ∀ i k, k < n + 1 → Bd b (unC i k) := fun i k _ => by
  rcases ZeR (i := i) (k := k) with e | e <;> rw [e]
  ·exact ZcL
  ·exact Zeb hb1
 rw [ht]
 walk_at "zz"
 rw [← ht]
 refine ZbV (n := n) (a := fun i => .int ((1 + i : Nat) : Int)) (P := fun i σ => σ 0 = some (Z8 (n + 1) (alW n G c top Γ i)) ∧ σ 1 = some (ZR n G R) ∧ σ 2 = some (ZY n c) ∧ σ 3 = some (.int top) ∧ σ 4 = some (.int n)) ?_ ⟨by rw [ZrQ]; rfl, rfl, rfl, rfl, rfl⟩ ?_ ?_
 ·refine ZfA (a := 1) (m := n) (by omega) (by omega) ?_ rfl
  simp only [Zd, Zk, Zn, Ze, Za, Zab, Option.bind_some, if_true, Zah]
  congr 3
  congr 1
  omega
 ·rintro i σ hi ⟨e0, e1, e2, e3, e4⟩
  have h1 : 1 + i < n + 1 := by omega
  have hs : ZY n c = .lst (tab (n + 1) fun k => .int (c k)) := rfl
  rw [hs] at e2
  walk_at "zz"
  rw [← hs] at e2
  have ci := bc (1 + i) h1
  have hG2 : GB (b + 2) n G := fun a b ha hb y e => (hG a b ha hb y e).mono (by omega)
  have bc2 : ∀ k, k < n + 1 → Bd (b + 2) (c k) := fun k hk => (bc k hk).mono (by omega)
  refine ZI (Zih (by omega)) ?_
  walk_at "zz"
  refine ZI (Zfb (b := b) (by omega) (by omega) (bu (1 + i)) ci) ?_
  walk_at "zz"
  refine ZI (ZoY (b := b + 2) (d := fun k => unC (1 + i) k * c (1 + i)) hn (by omega) (by omega) hG2 bc2 (Zoy bc (1 + i) h1)) ?_
  rw [show (fun k => unC (1 + i) k * c (1 + i) - c k) = alC c (1 + i) from rfl]
  have hp : ∀ k, k = (if c (1 + i) < 0 then -(c (1 + i)) else c (1 + i)) → (Zak (grt n G (alC c (1 + i))) (some top)).map (fun y => y.fdiv k) = prt n G c top (1 + i) := fun k e => by unfold prt; rw [e]
  rw [Nat.add_comm 1 i] at *
  rcases Int.lt_trichotomy (c (i + 1)) 0 with q | q | q
  ·have q' : ¬ 0 < c (i + 1) := by omega
   walk_at "zz"
   refine Zg0 (t := Z8 (n + 1) (alW n G c top Γ i)) (by walk_at "zr") ?_
   walk_at "zz"
   refine ZI (ZoZ (i := b) (by omega) (by omega) (show Bd b (-(c (i + 1))) by unfold Bd at *; omega)) ?_
   walk_at "zz"
   refine ZI (ZlI (a := 0) (by omega) h1) ?_
   rw [hp _ (by rw [if_pos q]), ZnZ q]
   exact ⟨ZbB, by walk_at "zr", by walk_at "zr", by walk_at "zr", by walk_at "zr"⟩
  ·have q' : ¬ 0 < c (i + 1) := by omega
   have q'' : ¬ c (i + 1) < 0 := by omega
   walk_at "zz"
   rw [← Zqx q]
   exact ⟨by walk_at "zr", by walk_at "zr", by walk_at "zr", by walk_at "zr", by walk_at "zr"⟩
  ·have q' : ¬ c (i + 1) < 0 := by omega
   walk_at "zz"
   refine Zg0 (t := Z8 (n + 1) (alW n G c top Γ i)) (by walk_at "zr") ?_
   walk_at "zz"
   refine ZI (ZoZ (i := b) (by omega) (by omega) ci) ?_
   walk_at "zz"
   refine ZI (ZlI (b := 0) h1 (by omega)) ?_
   rw [hp _ (by rw [if_neg q']), ZnY q]
   walk_at "zz"
   exact ⟨by walk_at "zr", by walk_at "zr", by walk_at "zr", by walk_at "zr", by walk_at "zr"⟩
 ·rintro σ ⟨e0, e1, e2, e3, e4⟩
  exact ⟨_, e0, rfl⟩
theorem Zh0 {k : Int} (hn : n ≤ 60) (hi : i < n + 1) : Zeh [ZY n c, .int i, .int k] = some (ZY n fun a => c a + unC i a * k) := by
 apply Pk.eq
 unfold Zeh Zmo ZY
 by_cases h : (0 : Int) < (i : Int)
 ·walk_at "zz"
  show T.lst _ = T.lst _
  congr 1
  refine Zbj fun a _ => ?_
  show _ = T.int (c a + unC i a * k)
  by_cases q : a = i
  ·rw [if_pos q, q, ZrE (by omega), Int.one_mul]
  ·rw [if_neg q, Zom q, Int.zero_mul, Int.add_zero]
 ·walk_at "zz"
  show T.lst _ = T.lst _
  congr 1
  refine Zbj fun a _ => ?_
  have : i = 0 := by omega
  show T.int (c a) = T.int (c a + unC i a * k)
  rw [this, ZrP, Int.zero_mul, Int.add_zero]
theorem ZhC {b : Option Int} : Zez [oT a, oT b] = some (oT (Za2 a b)) := by
 apply Pk.eq
 unfold Zez ZkY
 cases a with
 | none =>
  simp only [Zbg]
  walk_at "zz"
  rw [Zxy]
 | some x =>
  rw [Zap]
  cases b with
  | none =>
   rw [Zbg]
   walk_at "zz"
   rw [Zel Zdl, Zap]
  | some y =>
   rw [Zap]
   walk_at "zz"
   by_cases h : y < x
   ·rw [if_pos h, Zwx h, Zap]
   ·rw [if_neg h, Zel (leO_some.mpr (by omega)), Zap]
noncomputable def amG (n : Nat) (G : Nat → Nat → Option Int) (c : Nat → Int) (top : Int) : Nat → Nat → Option Int := alW n G c top (apW n G c top) n
noncomputable def gT (N : Nat) (Γ : Nat → Nat → Option Int) : T := .lst (tab N fun a => .lst (tab N fun b => oT (Γ a b)))
theorem Zsp (hn : n ≤ 60) (hb : b ≤ 900) (hb1 : 1 ≤ b) (hG : GB b n G) (bc : ∀ i, i < n + 1 → Bd b (c i)) (hc : ∀ y, grt n G (fun k => -(c k)) = some y → -y ≤ top) (h : ZdQ [ZR n (amG n G c top) R] = some D) : ZcF [ZR n G R, ZY n c, .int top] = some D := by
 apply Pk.eq
 unfold ZcF Zf6
 have ht : ZR n G R = .tup [gT (n + 1) G, .lst (tab n fun i => Z5 (R i))] := rfl
 have hs : ZY n c = .lst (tab (n + 1) fun k => .int (c k)) := rfl
 have hG2 : GB (b + 2) n G := fun a b ha hb y e => (hG a b ha hb y e).mono (by omega)
 have cp : ∀ {σ : TL} {N : TL → Prop}, σ 0 = some (ZR n G R) → (∀ t, t = gT (n + 1) G → N (Zab σ 5 t)) → Psk (ZJ 5 (Zaq (ZaE (Ze Zr (Za 0) (Zk 0))) (Zad 102) Zaf (pFl (Zs Zcg (Zd (Za 102) Zn)))) σ) (fun t => t = D) N := fun e k => by
  rw [ht] at e
  unfold gT at e
  walk_at "zz"
  refine Zck (n := n + 1) (a := fun a => .lst (tab (n + 1) fun b => oT (G a b))) (b := fun a => .lst (tab (n + 1) fun b => oT (G a b))) (by omega) ?_ (fun a ha => ?_) ?_
  ·walk_at "zz"
   rfl
  ·walk_at "zz"
   rfl
  ·exact k _ rfl
 have hne : ∀ {Q : T → Prop}, Q (.bool false) → Pk (qIs (ZR n G R) .none) Q := fun h => ⟨_, by rw [ht]; rfl, h⟩
 rw [hs]
 walk_at "zz"
 refine hne ?_
 walk_at "zz"
 refine Zck (n := n + 1) (a := fun k => .int (c k)) (b := fun k => .int (-(c k))) (by omega) ?_ (fun k hk => ?_) ?_
 ·walk_at "zz"
  rfl
 ·walk_at "zz"
  rfl
 rw [show (T.lst (tab (n + 1) fun k => T.int (-(c k)))) = ZY n (fun k => -(c k)) from rfl]
 walk_at "zz"
 refine ZI (ZfZ (b := b) hn (by omega) hG (ZgS bc)) ?_
 refine Zcj (fun σ' => σ' 0 = some (ZR n G R) ∧ σ' 1 = some (.lst (tab (n + 1) fun k => .int (c k))) ∧ σ' 2 = some (.int top) ∧ σ' 3 = some (ZY n (fun k => -(c k)))) ?_ ?_
 ·cases e : grt n G (fun k => -(c k)) with
  | none =>
   rw [Zbg]
   walk_at "zz"
   exact ⟨by walk_at "zr", by walk_at "zr", by walk_at "zr", by walk_at "zr"⟩
  | some y =>
   have hy := hc y e
   have hy' : ¬ -y > top := by omega
   rw [Zap]
   walk_at "zz"
   exact ⟨by walk_at "zr", by walk_at "zr", by walk_at "zr", by walk_at "zr"⟩
 rintro σ1 ⟨e0, e1, e2, e3⟩
 have hli : ∀ {a b : Option Int}, Pk (Zez [oT a, oT b]) fun t => t = oT (Za2 a b) := ZI ZhC rfl
 refine ZeO ?_
 refine cp e0 fun t et => ?_
 subst et
 refine Zcj (fun σ' => σ' 0 = some (ZR n G R) ∧ σ' 1 = some (.lst (tab (n + 1) fun k => .int (c k))) ∧ σ' 2 = some (.int top) ∧ σ' 3 = some (ZY n (fun k => -(c k))) ∧ σ' 5 = some (gT (n + 1) (apW n G c top))) ?_ ?_
 ·refine ZbV (n := n + 1) (a := fun i => .int i) (P := fun i σ' => σ' 0 = some (ZR n G R) ∧ σ' 1 = some (.lst (tab (n + 1) fun k => .int (c k))) ∧ σ' 2 = some (.int top) ∧ σ' 3 = some (ZY n (fun k => -(c k))) ∧ σ' 5 = some (gT (n + 1) (Wv (apW n G c top) G i 0))) ?_ ⟨by walk_at "zr", by walk_at "zr", by walk_at "zr", by walk_at "zr", by rw [ZrS]; exact ZbB⟩ ?_ ?_
  ·unfold gT
   walk_at "zz"
   rfl
  ·rintro i σ hi ⟨f0, f1, f2, f3, f5⟩
   refine ZbV (n := n + 1) (a := fun j => .int j) (P := fun j σ' => σ' 0 = some (ZR n G R) ∧ σ' 1 = some (.lst (tab (n + 1) fun k => .int (c k))) ∧ σ' 2 = some (.int top) ∧ σ' 3 = some (ZY n (fun k => -(c k))) ∧ σ' 5 = some (gT (n + 1) (Wv (apW n G c top) G i j)) ∧ σ' 6 = some (.int i)) ?_ ⟨by walk_at "zr", by walk_at "zr", by walk_at "zr", by walk_at "zr", by walk_at "zr", by walk_at "zr"⟩ ?_ ?_
   ·unfold gT at f5
    walk_at "zz"
    rfl
   ·rintro j σ hj ⟨g0, g1, g2, g3, g5, g6⟩
    have ea : (fun a => -(c a) + unC i a * 1 + unC j a * -1) = apC c i j := by funext a; unfold apC; omega
    have same : apW n G c top i j = G i j → Wv (apW n G c top) G i (j + 1) = Wv (apW n G c top) G i j := fun e => by rw [← Zoo, Znd (by rw [Zoz, e])]
    walk_at "zz"
    refine ZI (Zh0 hn hi) ?_
    walk_at "zz"
    refine ZI (Zh0 hn hj) ?_
    rw [ea]
    walk_at "zz"
    refine ZI (ZfZ (b := b + 2) hn (by omega) hG2 (Zox hb1 bc i j)) ?_
    by_cases q : (i : Int) = j
    ·have q2 : i = j := by omega
     walk_at "zz"
     rw [same (by unfold apW; rw [if_pos q2])]
     exact ⟨by walk_at "zr", by walk_at "zr", by walk_at "zr", by walk_at "zr", by walk_at "zr", by walk_at "zr"⟩
    ·have q2 : ¬ i = j := by omega
     cases e : grt n G (apC c i j) with
     | none =>
      rw [Zbg]
      walk_at "zz"
      rw [same (by unfold apW; rw [if_neg q2, e]; exact Zel Zdl)]
      exact ⟨by walk_at "zr", by walk_at "zr", by walk_at "zr", by walk_at "zr", by walk_at "zr", by walk_at "zr"⟩
     | some y =>
      rw [Zap]
      unfold gT at g5
      walk_at "zz"
      refine ZI (ZhC (b := some (y + top))) ?_
      refine ⟨ZeK, ?_⟩
      walk_at "zz"
      rw [Znb (w := oT (Za2 (Wv (apW n G c top) G i j i j) (some (y + top)))) (v := apW n G c top i j) (by rw [Zoz]; unfold apW; rw [if_neg q2, e]; rfl), Zoo]
      exact ⟨by walk_at "zr", by walk_at "zr", by walk_at "zr", by walk_at "zr", ZbB, by walk_at "zr"⟩
   ·rintro σ ⟨g0, g1, g2, g3, g5, g6⟩
    exact ⟨g0, g1, g2, g3, by rw [show gT (n + 1) (Wv (apW n G c top) G (i + 1) 0) = gT (n + 1) (Wv (apW n G c top) G i (n + 1)) from Wv_row.symm]; exact g5⟩
  ·rintro σ ⟨g0, g1, g2, g3, g5⟩
   exact ⟨g0, g1, g2, g3, by rw [show gT (n + 1) (apW n G c top) = gT (n + 1) (Wv (apW n G c top) G (n + 1) 0) from Wv_all.symm]; exact g5⟩
 clear e0 e1 e2 e3
 rintro σ2 ⟨e0, e1, e2, e3, e5⟩
 refine Zcj (fun σ' => σ' 0 = some (ZR n G R) ∧ σ' 5 = some (gT (n + 1) (amG n G c top))) ?_ ?_
 ·refine ZbV (n := n) (a := fun i => .int ((1 + i : Nat) : Int)) (P := fun i σ' => σ' 0 = some (ZR n G R) ∧ σ' 1 = some (.lst (tab (n + 1) fun k => .int (c k))) ∧ σ' 2 = some (.int top) ∧ σ' 3 = some (ZY n (fun k => -(c k))) ∧ σ' 5 = some (gT (n + 1) (alW n G c top (apW n G c top) i))) ?_ ⟨by walk_at "zr", by walk_at "zr", by walk_at "zr", by walk_at "zr", by rw [ZrQ]; exact e5⟩ ?_ ?_
  ·refine ZfA (a := 1) (m := n) (by omega) (by omega) ?_ rfl
   simp only [Zd, Zk, Zn, Za, Zs, e5, gT, Zas, Zat, Option.bind_some]
   congr 3
   congr 1
   omega
  ·rintro i σ hi ⟨g0, g1, g2, g3, g5⟩
   have h1 : 1 + i < n + 1 := by omega
   have ci := bc (1 + i) h1
   have ea : (fun a => -(c a) + unC (1 + i) a * c (1 + i)) = alC c (1 + i) := by funext a; unfold alC; omega
   walk_at "zz"
   refine ZI (Zh0 hn h1) ?_
   rw [ea]
   walk_at "zz"
   refine ZI (ZfZ (b := b + 2) hn (by omega) hG2 (Zoy bc (1 + i) h1)) ?_
   rw [Nat.add_comm 1 i] at *
   have no : grt n G (alC c (i + 1)) = none → c (i + 1) ≠ 0 → alW n G c top (apW n G c top) (i + 1) = alW n G c top (apW n G c top) i := fun e q => by
    have ep : prt n G c top (i + 1) = none := by unfold prt; rw [e]; rfl
    rcases Int.lt_trichotomy (c (i + 1)) 0 with w | w | w
    ·rw [← ZnZ w, ep, Znd (Zel Zdl)]
    ·exact absurd w q
    ·rw [← ZnY w, ep, Znd (Zel Zdl)]
   rcases Int.lt_trichotomy (c (i + 1)) 0 with q | q | q
   ·have q' : ¬ 0 < c (i + 1) := by omega
    cases e : grt n G (alC c (i + 1)) with
    | none =>
     rw [Zbg]
     walk_at "zz"
     rw [no e (by omega)]
     exact ⟨by walk_at "zr", by walk_at "zr", by walk_at "zr", by walk_at "zr", by walk_at "zr"⟩
    | some y =>
     rw [Zap]
     unfold gT at g5
     walk_at "zz"
     refine Zc7 (by omega) (ZdH (i := b) (show Bd b _ by unfold Bd at *; omega) (by omega)) ?_
     walk_at "zz"
     have ep : prt n G c top (i + 1) = some ((y + top).fdiv (if c (i + 1) < 0 then -(c (i + 1)) else c (i + 1))) := by unfold prt; rw [e]; rfl
     refine ZI (ZhC (b := some _)) ?_
     refine ⟨ZeK, ?_⟩
     walk_at "zz"
     rw [← ep, show Int.toNat 0 = 0 from rfl]
     refine Zq4 (n := n + 1) (m := n + 1) (i := 0) (j := i + 1) (f := fun a b => oT (alW n G c top (apW n G c top) i a b)) (by walk_at "zr") rfl (by omega) (by omega) (by omega) ?_
     rw [Znb (v := Za2 (alW n G c top (apW n G c top) i 0 (i + 1)) (prt n G c top (i + 1))) rfl, ZnZ q]
     exact ⟨by walk_at "zr", by walk_at "zr", by walk_at "zr", by walk_at "zr", ZbB⟩
   ·have q' : ¬ 0 < c (i + 1) := by omega
    have q'' : ¬ c (i + 1) < 0 := by omega
    walk_at "zz"
    rw [← Zqx q]
    exact ⟨by walk_at "zr", by walk_at "zr", by walk_at "zr", by walk_at "zr", by walk_at "zr"⟩
   ·have q' : ¬ c (i + 1) < 0 := by omega
    cases e : grt n G (alC c (i + 1)) with
    | none =>
     rw [Zbg]
     walk_at "zz"
     rw [no e (by omega)]
     exact ⟨by walk_at "zr", by walk_at "zr", by walk_at "zr", by walk_at "zr", by walk_at "zr"⟩
    | some y =>
     rw [Zap]
     unfold gT at g5
     walk_at "zz"
     refine Zc7 (by omega) (ZdH (i := b) ci (by omega)) ?_
     walk_at "zz"
     have ep : prt n G c top (i + 1) = some ((y + top).fdiv (c (i + 1))) := by unfold prt; rw [e, if_neg q']; rfl
     refine ZI (ZhC (b := some _)) ?_
     refine ⟨ZeK, ?_⟩
     walk_at "zz"
     rw [← ep, show Int.toNat 0 = 0 from rfl]
     refine Zq4 (n := n + 1) (m := n + 1) (i := i + 1) (j := 0) (f := fun a b => oT (alW n G c top (apW n G c top) i a b)) (by walk_at "zr") (by omega) rfl (by omega) (by omega) ?_
     rw [Znb (v := Za2 (alW n G c top (apW n G c top) i (i + 1) 0) (prt n G c top (i + 1))) rfl, ZnY q]
     rw [show (T.lst (tab (n + 1) fun a => T.lst (tab (n + 1) fun b => oT (alW n G c top (apW n G c top) (i + 1) a b)))) = gT (n + 1) (alW n G c top (apW n G c top) (i + 1)) from rfl]
     walk_at "zz"
     exact ⟨by walk_at "zr", by walk_at "zr", by walk_at "zr", by walk_at "zr", by walk_at "zr"⟩
  ·rintro σ ⟨g0, g1, g2, g3, g5⟩
   exact ⟨g0, g5⟩
 rintro σ3 ⟨f0, f5⟩
 rw [ht] at f0
 walk_at "zz"
 exact ZI h rfl
theorem Zn0 {b : Option Int} (ha : ∀ y, a = some y → Bd k y) (hb : ∀ y, b = some y → Bd k y) : ∀ y, Za2 a b = some y → Bd k y := fun y e => by
 rcases ZeL a b with q | q
 ·exact ha y (q ▸ e)
 ·exact hb y (q ▸ e)
theorem Zvo {x k : Int} (hk : 0 < k) : (x.fdiv k).natAbs ≤ x.natAbs := by
 rw [Int.fdiv_eq_ediv_of_nonneg x (by omega)]
 have e1 : x / k * k ≤ x := Int.ediv_mul_le x (by omega)
 have e2 : x < (x / k + 1) * k := Int.lt_ediv_add_one_mul_self x hk
 generalize x / k = q at *
 rcases Int.lt_trichotomy q 0 with h | h | h
 ·-- q ≤ -1, x < (q+1) k ≤ q + 1
  have : (q + 1) * k ≤ q + 1 := by
   have := Int.mul_le_mul_of_nonpos_left (a := q + 1) (b := k) (c := 1) (by omega) (by omega)
   simpa using this
  omega
 ·omega
 ·have : q * 1 ≤ q * k := Int.mul_le_mul_of_nonneg_left (by omega) (by omega)
  omega
theorem Zwy {x k : Int} (h : Bd i x) (hk : 0 < k) : Bd i (x.fdiv k) := Nat.lt_of_le_of_lt (Zvo hk) h
theorem Zx1 {B : Nat} (hb1 : 1 ≤ b) (hG : GB b n G) (bc : ∀ i, i < n + 1 → Bd b (c i)) (bt : Bd b top) (hB : b + b + n + 6 ≤ B) : SmG B n (amG n G c top) := by
 have hG2 : GB (b + 2) n G := fun a b ha hb y e => (hG a b ha hb y e).mono (by omega)
 have s1 : ∀ {d : Nat → Int}, (∀ k, k < n + 1 → Bd (b + 2) (d k)) → ∀ y, Zak (grt n G d) (some top) = some y → Bd B y := fun bd y e => by
  obtain ⟨p, q, h1, h2, rfl⟩ := addO_some.mp e
  cases h2
  exact ((Zrc hG2 bd p h1).add (bt.mono (by omega))).mono (by omega)
 have sG : ∀ i j, i < n + 1 → j < n + 1 → ∀ y, G i j = some y → Bd B y := fun i j hi hj y e => (hG i j hi hj y e).mono (by omega)
 have sA : ∀ i j, i < n + 1 → j < n + 1 → ∀ y, apW n G c top i j = some y → Bd B y := fun i j hi hj y e => by
  unfold apW at e
  split at e
  ·exact sG i j hi hj y e
  ·exact Zn0 (sG i j hi hj) (s1 (Zox hb1 bc i j)) y e
 have sP : ∀ i, i < n + 1 → c i ≠ 0 → ∀ y, prt n G c top i = some y → Bd B y := fun i hi h0 y e => by
  unfold prt at e
  obtain ⟨z, h1, rfl⟩ := Zz1.mp e
  exact Zwy (s1 (Zoy bc i hi) z h1) (by split <;> omega)
 intro i j hi hj y e
 show Bd B y
 unfold amG alW at e
 split at e
 ·rename_i q
  exact Zn0 (sA i 0 hi (by omega)) (sP i hi (by omega)) y e
 ·split at e
  ·rename_i q
   exact Zn0 (sA 0 j (by omega) hj) (sP j hj (by omega)) y e
  ·exact sA i j hi hj y e
theorem Zyb (hd : ∀ i, i < n + 1 → G i i = some 0) : ∀ i, i < n + 1 → amG n G c top i i = some 0 := fun i hi => by
 unfold amG alW
 rw [if_neg (by omega), if_neg (by omega)]
 unfold apW
 rw [if_pos rfl, hd i hi]
theorem ZoA (i j : Nat) : leO (apW n G c top i j) (G i j) := by
 unfold apW
 split
 ·exact ZcI
 ·exact ZfM
theorem Zx2 (i j : Nat) : leO (amG n G c top i j) (G i j) := by
 unfold amG alW
 split
 ·rename_i q
  rw [q.1]
  exact Zcu ZfM (ZoA i 0)
 ·split
  ·rename_i q
   rw [q.1]
   exact Zcu ZfM (ZoA 0 j)
  ·exact ZoA i j
theorem ZiY : ∀ i, i < n + 1 → Zar (unC i) x n = ZaR x i
 | 0, _ => by rw [ZrP, Zqw]; rfl
 | i + 1, hi => by rw [ZrF (by omega), if_pos (by omega)]; rfl
theorem Zne {u x : Nat → Int} {k : Int} : ∀ n, Zar (fun a => u a * k) x n = Zar u x n * k
 | 0 => rfl
 | n + 1 => by
  show Zar (fun a => u a * k) x n + u (n + 1) * k * x n = (Zar u x n + u (n + 1) * x n) * k
  rw [Zne n, Int.add_mul, Int.mul_assoc, Int.mul_comm k, ← Int.mul_assoc]
theorem Znf {b : Option Int} {x : Int} (h : Za2 a b = some y) (ha : ∀ z, a = some z → x ≤ z) (hb : ∀ z, b = some z → x ≤ z) : x ≤ y := by
 rcases ZeL a b with q | q
 ·exact ha y (q ▸ h)
 ·exact hb y (q ▸ h)
theorem Zrd (h : Za1 n G R x) (ht : Zar c x n ≤ top) : Za1 n (amG n G c top) R x := by
 have f1 : ∀ i j, i < n + 1 → j < n + 1 → ∀ y, apW n G c top i j = some y → ZaR x i - ZaR x j ≤ y := fun i j hi hj y e => by
  unfold apW at e
  split at e
  ·exact h.1 i j hi hj y e
  ·refine Znf e (h.1 i j hi hj) fun z ez => ?_
   obtain ⟨p, q, h1, h2, rfl⟩ := addO_some.mp ez
   cases h2
   have := Zjd h h1
   rw [show apC c i j = fun k => (fun a => unC i a - unC j a) k - c k from rfl, ZgT, ZgT, ZiY i hi, ZiY j hj] at this
   omega
 have f2 : ∀ i, i < n + 1 → ∀ z, Zak (grt n G (alC c i)) (some top) = some z → ZaR x i * c i ≤ z := fun i hi z ez => by
  obtain ⟨p, q, h1, h2, rfl⟩ := addO_some.mp ez
  cases h2
  have := Zjd h h1
  rw [show alC c i = fun k => (fun a => unC i a * c i) k - c k from rfl, ZgT, Zne, ZiY i hi] at this
  omega
 refine ⟨fun i j hi hj y e => ?_, h.2⟩
 unfold amG alW at e
 split at e
 ·rename_i q
  obtain ⟨rfl, q1, q2, q3⟩ := q
  refine Znf e (f1 i 0 hi hj) fun z ez => ?_
  unfold prt at ez
  obtain ⟨p, h1, rfl⟩ := Zz1.mp ez
  have := f2 i hi p h1
  rw [if_neg (by omega), show ZaR x 0 = 0 from rfl, Int.sub_zero]
  exact by rw [Int.fdiv_eq_ediv_of_nonneg _ (by omega)]; exact (Int.le_ediv_iff_mul_le q3).mpr this
 ·split at e
  ·rename_i q
   obtain ⟨rfl, q1, q2, q3⟩ := q
   refine Znf e (f1 0 j hi hj) fun z ez => ?_
   unfold prt at ez
   obtain ⟨p, h1, rfl⟩ := Zz1.mp ez
   have := f2 j hj p h1
   rw [if_pos q3, show ZaR x 0 = 0 from rfl, Int.zero_sub]
   rw [Int.fdiv_eq_ediv_of_nonneg _ (by omega)]; refine (Int.le_ediv_iff_mul_le (by omega)).mpr ?_
   rw [Int.neg_mul_neg]
   exact this
  ·exact f1 i j hi hj y e
theorem Zwz (hn : n ≤ 100) : Dp 8 (Z8 (n + 1) G) := by
 refine .lst (fun t m => ?_) (by rw [Zat]; omega)
 obtain ⟨i, hi, rfl⟩ := ZcP m
 refine .lst (fun t m => ?_) (by rw [Zat]; omega)
 obtain ⟨j, hj, rfl⟩ := ZcP m
 exact ZrN
theorem Zs4 {c t : T} : ZcH [.none, c, t] = some .none := by
 apply Pk.eq
 unfold ZcH Zgy
 walk_at "zz"
 rfl
theorem ZrX {c t : T} : ZcF [.none, c, t] = some .none := by
 apply Pk.eq
 unfold ZcF Zf6
 walk_at "zz"
 rfl
theorem Zqy (hn : n ≤ 60) (hb : b ≤ 900) (hb1 : 1 ≤ b) (hG : GB b n G) (bc : ∀ i, i < n + 1 → Bd b (c i)) : ZgQ [ZR n G R, ZY n c] = some (oT ((grt n G fun i => -(c i)).map fun y => y * -1)) := Zvm hn (by omega) hb1 hG bc fun y e => (Zrc hG (ZgS bc) y e).mono (by omega)
theorem ZtW (hn : n ≤ 60) (hb : b ≤ 900) (hb1 : 1 ≤ b) (hG : GB b n G) (bc : ∀ i, i < n + 1 → Bd b (c i)) (hd : ∀ i, i < n + 1 → G i i = some 0) (hc : ∀ y, grt n G (fun k => -(c k)) = some y → -y ≤ top) (h : ZdY [ZR n (amG n G c top) R] = some D) : ZcH [ZR n G R, ZY n c, .int top] = some D := by
 apply Pk.eq
 unfold ZcH Zgy
 have ht : ZR n G R = .tup [Z8 (n + 1) G, .lst (tab n fun i => Z5 (R i))] := rfl
 have hne : ∀ {Q : T → Prop}, Q (.bool false) → Pk (qIs (ZR n G R) .none) Q := fun h => ⟨_, by rw [ht]; rfl, h⟩
 have hx : Zfr [oT ((grt n G fun i => -(c i)).map fun y => y * -1), .int top] = some (.bool false) := by
  rw [show T.int top = oT (some top) from rfl, ZpE, Zbx]
  rintro ⟨x, y, h1, h2, h3⟩
  cases h2
  obtain ⟨z, e1, rfl⟩ := Zz1.mp h1
  have := hc z e1
  omega
 have hg : ∀ {Q : T → Prop}, Q (Z8 (n + 1) G) → Pk (Zr (ZR n G R) (.int 0)) Q := fun h => ⟨_, by rw [ht]; rfl, h⟩
 walk_at "zz"
 refine hne ?_
 walk_at "zz"
 refine ZI (Zqy hn hb hb1 hG bc) ?_
 walk_at "zz"
 refine ZI hx ?_
 walk_at "zz"
 refine hg ?_
 walk_at "zz"
 refine ZI (ZnB (Zwz (by omega))) ?_
 walk_at "zz"
 refine Zg0 (t := Z8 (n + 1) G) (by walk_at "zr") ?_
 walk_at "zz"
 refine ZI (Zsn hn hb hb1 hG bc hd hc) ?_
 walk_at "zz"
 refine Zg0 (t := Z8 (n + 1) (apW n G c top)) (by walk_at "zr") ?_
 walk_at "zz"
 refine ZI (Zso hn hb hb1 hG bc) ?_
 rw [ht]
 walk_at "zz"
 exact ZI h rfl
theorem Ztn (hn : n ≤ 60) (hb : b ≤ 900) (hb1 : 1 ≤ b) (hG : GB b n G) (bc : ∀ i, i < n + 1 → Bd b (c i)) (e : grt n G (fun k => -(c k)) = some y) (hy : top < -y) : ZcH [ZR n G R, ZY n c, .int top] = some .none ∧ ZcF [ZR n G R, ZY n c, .int top] = some .none := by
 have ht : ZR n G R = .tup [Z8 (n + 1) G, .lst (tab n fun i => Z5 (R i))] := rfl
 have hne : ∀ {Q : T → Prop}, Q (.bool false) → Pk (qIs (ZR n G R) .none) Q := fun h => ⟨_, by rw [ht]; rfl, h⟩
 have hx : Zfr [oT ((grt n G fun i => -(c i)).map fun y => y * -1), .int top] = some (.bool true) := by
  rw [show T.int top = oT (some top) from rfl, ZpE, Za0]
  exact ⟨y * -1, top, by rw [e]; rfl, rfl, by omega⟩
 constructor
 ·apply Pk.eq
  unfold ZcH Zgy
  walk_at "zz"
  refine hne ?_
  walk_at "zz"
  refine ZI (Zqy hn hb hb1 hG bc) ?_
  walk_at "zz"
  refine ZI hx ?_
  walk_at "zz"
  rfl
 ·apply Pk.eq
  unfold ZcF Zf6
  have hs : ZY n c = .lst (tab (n + 1) fun k => .int (c k)) := rfl
  rw [hs]
  walk_at "zz"
  refine hne ?_
  walk_at "zz"
  refine Zck (n := n + 1) (a := fun k => .int (c k)) (b := fun k => .int (-(c k))) (by omega) ?_ (fun k hk => ?_) ?_
  ·walk_at "zz"
   rfl
  ·walk_at "zz"
   rfl
  rw [show (T.lst (tab (n + 1) fun k => T.int (-(c k)))) = ZY n (fun k => -(c k)) from rfl]
  walk_at "zz"
  refine ZI (ZfZ (b := b) hn (by omega) hG (ZgS bc)) ?_
  have hy' : -y > top := hy
  rw [e, Zap]
  walk_at "zz"
  rfl
theorem ZrG {n b : Nat} {c x : Nat → Int} (bc : ∀ i, i < n + 1 → Bd b (c i)) (bx : ∀ i, i < n → Bd b (x i)) : ∀ j, j ≤ n → Bd (b + b + j) (Zar c x j)
 | 0, _ => (bc 0 (by omega)).mono (by omega)
 | j + 1, hj => by
  have h1 := ZrG bc bx j (by omega)
  have h2 := ((bc (j + 1) (by omega)).mul (bx j (by omega))).mono (show b + b ≤ b + b + j by omega)
  exact h1.add h2
theorem su : PyData.strOk (Str.ofString "under") = true := by decide +kernel
theorem Zp1 : (fun k => c k * -1) = fun k => -(c k) := by funext k; omega
theorem ZuB {a b : T} : Zd4 [.none, a, b] = some .none := by
 apply Pk.eq
 unfold Zd4 Zja
 walk_at "zz"
 rfl
noncomputable def Tm (n K : Nat) (M : Int) (P : (Nat → Int) → Prop) (I : (Nat → Nat → Option Int) → (Nat → Int × Int) → Prop) (D : T) : Prop := (D = .none ∧ ∀ x, ¬ P x) ∨ ∃ G R, D = ZR n G R ∧ (∀ i, i < n + 1 → G i i = some 0) ∧ (∀ t, t < n → RB M K (R t)) ∧ GB K n G ∧ (∀ x, P x → Za1 n G R x) ∧ I G R
theorem Zre (hn : n ≤ 20) (hk : k + 2 * n + 4 ≤ 7000) (hM : 0 < M) (bM : Bd k M) (hd : ∀ i, i < n + 1 → G i i = some 0) (bG : GB k n G) (hR : ∀ t, t < n → RB M k (R t)) : ∃ D, ZdY [ZR n G R] = some D ∧ ZdQ [ZR n G R] = some D ∧ Tm n (k + 3 * n + 7) M (Za1 n G R) (fun G2 R2 => Zcx n G2 R2 G R) D := by
 have bG2 : BdG (n + 1) k G := fun a b c ha hb e => bG a b ha hb c e
 obtain ⟨D, et, hD⟩ := Zvi (k := k) (by omega) (by omega) hM bM hd bG2 hR
 obtain ⟨u, eu, hu⟩ := Zs0 (k := k) (by omega) (by omega) hM bM hd bG2 hR
 have := ZtS hD hu
 subst this
 refine ⟨D, et, eu, ?_⟩
 rcases hD with ⟨G2, R2, rfl, s⟩ | ⟨rfl, f⟩
 ·obtain ⟨z1, z2⟩ := ZtV hM (bM.mono (by omega)) bG2 (by omega) s
  obtain ⟨_, _, _, _, _, _, h6⟩ := s.go
  exact .inr ⟨G2, R2, rfl, (ZtU hd s).1, fun t ht => (h6 t ht).1.mono (by omega), fun i j hi hj b e => (z1 i j b hi hj e).mono (by omega), fun x li => ZtM li s, Zs3 (fun t ht => (hR t ht).1) s⟩
 ·exact .inl ⟨rfl, fun x li => absurd f (Ztk li)⟩
theorem Zng (hn : n ≤ 20) (hb1 : 1 ≤ b) (hb : b ≤ 900) (hB : b + b + n + 6 ≤ k) (hk : k + 2 * n + 4 ≤ 7000) (hM : 0 < M) (bM : Bd k M) (hd : ∀ i, i < n + 1 → G i i = some 0) (bG : GB b n G) (hR : ∀ t, t < n → RB M k (R t)) (bc : ∀ i, i < n + 1 → Bd b (c i)) (bt : Bd b top) : ∃ D, ZcH [ZR n G R, ZY n c, .int top] = some D ∧ ZcF [ZR n G R, ZY n c, .int top] = some D ∧ Tm n (k + 3 * n + 7) M (fun x => Za1 n G R x ∧ Zar c x n ≤ top) (fun G2 R2 => Zcx n G2 R2 (amG n G c top) R) D := by
 by_cases hc : ∀ y, grt n G (fun k => -(c k)) = some y → -y ≤ top
 ·obtain ⟨D, e1, e2, hD⟩ := Zre (k := k) hn hk hM bM (Zyb (c := c) (top := top) hd) (Zx1 hb1 bG bc bt hB) hR
  refine ⟨D, ZtW (by omega) hb hb1 bG bc hd hc e1, Zsp (by omega) hb hb1 bG bc hc e2, ?_⟩
  rcases hD with ⟨rfl, no⟩ | ⟨G2, R2, rfl, h1, h2, h3, h4, h5⟩
  ·exact .inl ⟨rfl, fun x h => no x (Zrd h.1 h.2)⟩
  ·exact .inr ⟨G2, R2, rfl, h1, h2, h3, fun x h => h4 x (Zrd h.1 h.2), h5⟩
 ·have : ∃ y, grt n G (fun k => -(c k)) = some y ∧ top < -y := by
   refine Classical.byContradiction fun q => hc fun y e => ?_
   refine Classical.byContradiction fun z => q ⟨y, e, by omega⟩
  obtain ⟨y, e, hy⟩ := this
  obtain ⟨a1, a2⟩ := Ztn (R := R) (b := b) (by omega) hb hb1 bG bc e hy
  refine ⟨.none, a1, a2, .inl ⟨rfl, fun x h => ?_⟩⟩
  have := Zjd h.1 e
  rw [ZeN] at this
  omega
theorem Zk6 (hn : n ≤ 100) (hi : 1 ≤ i) (hi2 : i ≤ 9000) (bc : ∀ j, j < n + 1 → Bd i (c j)) (bR : ∀ j, j < n → RBd i (R j)) (ok : ∀ j, j < n → RestOk (R j)) : ZeE [ZY n c, .lst (tab n fun j => Z5 (R j))] = some (Z5 (Za4 c R n)) := by
 apply Pk.eq
 unfold ZeE Zl8 ZY
 walk_at "zz"
 refine ZiM (n := n) (a := fun j => .int (c (j + 1))) (c := fun j => Z5 (R j)) (P := fun j σ => σ 2 = some (Z5 (Za4 c R j))) ?_ rfl ?_ ?_
 ·refine Zod ?_
  refine Zm2 ?_
  walk_at "zz"
  refine ⟨_, rfl, ?_⟩
  rw [Znz]
  walk_at "zz"
  rfl
 ·rintro j σ hj e2
  have hr := (ok j hj).nn
  have bt : Bd (i + i) (ZcK (R j) (c (j + 1))).1 := by
   unfold ZcK
   rw [ZdV]
   exact (bR j hj).1.mul (ZqX (bc (j + 1) (by omega)))
  have bv : Bd (i + i) (Za4 c R j).1 := by
   rw [Zdp ok j (by omega), ZdV]
   exact ZiU bc bR j (by omega)
  walk_at "zz"
  refine ZI (ZkC (k := i) (by omega) hr (bR j hj) (bc (j + 1) (by omega))) ?_
  walk_at "zz"
  refine ZI (Zk4 (k := i + i) (by omega) bv bt) ?_
  walk_at "zz"
  exact ZbB
 ·rintro σ e2
  walk_at "zz"
  rfl
theorem ZjB (hn : n ≤ 100) (hb : b ≤ 9000) (bc : ∀ j, j < n + 1 → Bd b (c j)) (bR : ∀ j, j < n → RBd b (R j)) (ok : ∀ j, j < n → RestOk (R j)) : Zf1 [ZY n c, .lst (tab n fun j => Z5 (R j))] = some (Z5 (Za4 c R n)) := by
 apply Pk.eq
 unfold Zf1 Zkb ZY
 rw [Zdp ok n (Zz10 n)]
 walk_at "zz"
 refine ZbV (n := n) (a := fun i => .int i) (P := fun j σ => σ 0 = some (.lst (tab (n + 1) fun i => .int (c i))) ∧ σ 1 = some (.lst (tab n fun j => Z5 (R j))) ∧ σ 2 = some (.int (ZbR c R j)) ∧ σ 3 = some (.int (Zcd c R j))) ?_ ⟨by walk_at "zr", by walk_at "zr", by walk_at "zr", by walk_at "zr"⟩ ?_ ?_
 ·walk_at "zz"
  rfl
 ·rintro j σ hj ⟨e0, e1, e2, e3⟩
  have bj := bR j hj
  have cj := bc (j + 1) (by omega)
  have h1 : j + 1 < n + 1 := by omega
  have e1' : Zab (Zab (Zab σ 4 (.int (j : Nat))) 2 (.int (ZbR c R (j + 1)))) 3 (.int (Zcd c R (j + 1))) 1 = some (.lst (tab n fun j => Z5 (R j))) := e1
  unfold Z5 at e1
  have e' : ((j : Int) + 1).toNat = j + 1 := by omega
  walk_at "zz"
  rw [e']
  refine ZbU (Zb4 cj bj.1 (by omega) (by omega)) ?_
  walk_at "zz"
  refine ZI (Zms ((ZiU bc bR j (by omega)).mono (by omega)) ((cj.mul bj.1).mono (by omega))) ?_
  walk_at "zz"
  rw [e']
  refine ZbU (Zb4 cj bj.2 (by omega) (by omega)) ?_
  walk_at "zz"
  exact ⟨by walk_at "zr", e1', by walk_at "zr", by walk_at "zr"⟩
 ·rintro σ ⟨e0, e1, e2, e3⟩
  walk_at "zz"
  exact ZI ZeF rfl
noncomputable def ZaU (c : Nat → Int) (i : Nat) : Nat → Int := fun k => c k - unC i k * c i
theorem Zxz (bc : ∀ i, i < n + 1 → Bd b (c i)) (i : Nat) (hi : i < n + 1) : ∀ k, k < n + 1 → Bd (b + 1) (ZaU c i k) := fun k hk => by
 have h1 := bc k hk
 have h2 := bc i hi
 have h3 : Bd b (unC i k * c i) := by
  rcases ZeR (i := i) (k := k) with e | e <;> rw [e]
  ·rw [Int.zero_mul]; exact ZcL
  ·rw [Int.one_mul]; exact h2
 exact h1.sub h3
noncomputable def Zjy (p : Int × Int) (d : Int) : Int × Int := ZaI (Int.gcd p.1 d) p.2
theorem ZrY (hk : k ≤ 200000) (hp : Bd k p.1) (hd : Bd k d) : ZfY [Z5 p, .int d] = some (Z5 (Zjy p d)) := by
 apply Pk.eq
 unfold ZfY ZjP Z5 Zjy
 walk_at "zz"
 refine ZI (Zmt (ZbT hp hk) (ZbT hd hk)) ?_
 walk_at "zz"
 exact ZI (ZhJ (by omega)) rfl
noncomputable def ZdA (n : Nat) (R : Nat → Int × Int) (c : Nat → Int) (d : Int) (i : Nat) : Int × Int := ZaI (Int.gcd (Za4 (ZaU c i) R n).1 d) (-(c i) * (Za4 (ZaU c i) R n).2)
theorem ZxA (ok : ∀ t, t < n → RestOk (R t)) (h1 : c i = 1 ∨ c i = -1) : Zjy (ZcK (Za4 (ZaU c i) R n) (-(c i))) d = ZdA n R c d i := by
 have hr : RestOk (Za4 (ZaU c i) R n) := by rw [Zdp ok n (Zz10 n)]; exact Zct (Zd0 _ _ _) _
 generalize hp : Za4 (ZaU c i) R n = p at *
 unfold Zjy ZdA ZcK
 rw [hp, ZdV]
 have ha : Zbe (-(c i)) = 1 := by rcases h1 with e | e <;> rw [e] <;> rfl
 rw [ha, Int.mul_one]
 refine Zo6 (by omega) ?_
 have h2 : ((Int.gcd p.1 d : Nat) : Int) ∣ p.1 := Int.gcd_dvd_left ..
 have := Int.dvd_trans h2 (Zig (m := p.1) (r := p.2 * -(c i)) hr.nn)
 rwa [Int.mul_comm (-(c i))]
theorem Zop : RestOk (ZdA n R c d i) := Zct (by omega) _
noncomputable def ZcM (n : Nat) (R : Nat → Int × Int) (c : Nat → Int) (d : Int) (t : Nat) (o : Option (Int × Int)) : Prop := if c (t + 1) = 1 ∨ c (t + 1) = -1 then Met (R t) (ZdA n R c d (t + 1)) o else o = some (R t)
theorem Zn1 (ok : ∀ t, t < n → RestOk (R t)) (bm : ∀ t, t < n → Bd m (R t).1) (bR : ∀ t, t < n → RBd k (R t)) (bc : ∀ i, i < n + 1 → Bd k (c i)) : RBd (k + k + n) (Za4 c R n) := by
 rw [Zdp ok n (Zz10 n)]
 exact ZgB (Zd0 _ _ _) ((ZiU bc bR n (Zz10 n)).mono (by omega)) (ZqY bc bR n (Zz10 n))
theorem Zoq (ok : ∀ t, t < n → RestOk (R t)) (bR : ∀ t, t < n → RBd k (R t)) (bc : ∀ j, j < n + 1 → Bd k (ZaU c i j)) (bd : Bd k d) (h1 : c i = 1 ∨ c i = -1) : RBd (k + k + n) (ZdA n R c d i) := by
 have h := Zn1 (m := k) ok (fun t ht => (bR t ht).1) bR bc
 generalize hp : Za4 (ZaU c i) R n = p at *
 unfold ZdA
 rw [hp]
 refine ZgB (by omega) (Zjc h.1 (bd.mono (by omega))) ?_
 rcases h1 with e | e <;> rw [e]
 ·have := h.2; unfold Bd at *; omega
 ·have := h.2; unfold Bd at *; omega
theorem Zsq (hn : n ≤ 60) (hk1 : 1 ≤ k) (hk : k + k + n ≤ 8000) (ht : t < n) (ok : ∀ t, t < n → RestOk (R t)) (bR : ∀ t, t < n → RBd k (R t)) (bc : ∀ j, j < n + 1 → Bd k (c j)) (bo : ∀ j, j < n + 1 → Bd k (ZaU c (t + 1) j)) (bd : Bd k d) : Pk (Zf4 [.lst (tab n fun j => Z5 (R j)), ZY n c, .int d, .int ((t + 1 : Nat) : Int)]) fun u => ∃ o, u = oR o ∧ ZcM n R c d t o := by
 unfold Zf4 Zkz
 have hs : ZY n c = .lst (tab (n + 1) fun k => .int (c k)) := rfl
 have h1 : t + 1 < n + 1 := by omega
 have e1 : (((t + 1 : Nat) : Int)).toNat = t + 1 := by omega
 have e2 : (((t + 1 : Nat) : Int) - 1).toNat = t := by omega
 have ab : Zbe (c (t + 1)) = 1 ↔ (c (t + 1) = 1 ∨ c (t + 1) = -1) := by unfold Zbe; split <;> omega
 have bu : ∀ j, j < n + 1 → Bd k (unC (t + 1) j) := fun j _ => by
  rcases ZeR (i := t + 1) (k := j) with e | e <;> rw [e]
  ·exact ZcL
  ·exact Zeb hk1
 rw [hs]
 walk_at "zz"
 rw [← hs]
 rw [e2]
 by_cases q : c (t + 1) = 1 ∨ c (t + 1) = -1
 ·have qa := ab.mpr q
  have bp := Zn1 (m := k) ok (fun t ht => (bR t ht).1) bR bo
  have op : RestOk (Za4 (ZaU c (t + 1)) R n) := by rw [Zdp ok n (Zz10 n)]; exact Zct (Zd0 _ _ _) _
  have bs := Zoq ok bR bo bd q
  have bk := bc (t + 1) h1
  have be := ZxA (d := d) ok q
  walk_at "zz"
  refine ZI (Zih (i := t + 1) (n := n) (by omega)) ?_
  walk_at "zz"
  refine ZI (Zfb (b := k) (by omega) (by omega) bu bk) ?_
  walk_at "zz"
  refine ZI (ZlK (b := k + k) (by omega) (by omega) (by omega) (fun j hj => (bu j hj).mul bk)) ?_
  rw [show (fun k => c k - unC (t + 1) k * c (t + 1)) = ZaU c (t + 1) from rfl]
  walk_at "zz"
  refine ZI (Zk6 (i := k) (by omega) hk1 (by omega) bo bR ok) ?_
  walk_at "zz"
  refine ZI (ZkC (k := k + k + n) (by omega) op.nn bp (show Bd (k + k + n) (-(c (t + 1))) by have := bk.mono (show k ≤ k + k + n by omega); unfold Bd at *; omega)) ?_
  walk_at "zz"
  refine ZI (ZrY (k := k + k + n + k) (by omega) (by unfold ZcK; rw [ZdV]; exact bp.1.mul (ZqX (show Bd k (-(c (t + 1))) by unfold Bd at *; omega))) (bd.mono (by omega))) ?_
  rw [be]
  walk_at "zz"
  refine (ZlG (k := k + k + n) hk (ok t ht) Zop ⟨(bR t ht).1.mono (by omega), (bR t ht).2.mono (by omega)⟩ bs).mono ?_
  rintro _ ⟨o, rfl, hm, _⟩
  exact ⟨o, rfl, by unfold ZcM; rw [if_pos q]; exact hm⟩
 ·have qa : ¬ Zbe (c (t + 1)) = 1 := fun h => q (ab.mp h)
  walk_at "zz"
  exact ⟨some (R t), rfl, by unfold ZcM; rw [if_neg q]⟩
theorem Zs5 (hn : n ≤ 60) (hk1 : 1 ≤ k) (hk : k + k + n ≤ 8000) (ok : ∀ t, t < n → RestOk (R t)) (bR : ∀ t, t < n → RBd k (R t)) (bc : ∀ j, j < n + 1 → Bd k (c j)) (bo : ∀ t, t < n → ∀ j, j < n + 1 → Bd k (ZaU c (t + 1) j)) (bd : Bd k d) : ∃ o : Nat → Option (Int × Int), (∀ t, t < n → ZcM n R c d t (o t)) ∧ ((∃ t, t < n ∧ o t = none) → Zdh [ZR n G R, ZY n c, .int d] = some .none) ∧ ∀ R' D, (∀ t, t < n → o t = some (R' t)) → ZdY [ZR n G R'] = some D → Zdh [ZR n G R, ZY n c, .int d] = some D := by
 have ex : ∀ t, ∃ o, t < n → Zf4 [.lst (tab n fun j => Z5 (R j)), ZY n c, .int d, .int ((t + 1 : Nat) : Int)] = some (oR o) ∧ ZcM n R c d t o := fun t => by
  by_cases ht : t < n
  ·obtain ⟨u, e, o, rfl, h⟩ := Zsq hn hk1 hk ht ok bR bc (bo t ht) bd
   exact ⟨o, fun _ => ⟨e, h⟩⟩
  ·exact ⟨none, fun h => absurd h ht⟩
 obtain ⟨o, ho⟩ := Classical.axiomOfChoice ex
 refine ⟨o, fun t ht => (ho t ht).2, ?_⟩
 have ht : ZR n G R = .tup [Z8 (n + 1) G, .lst (tab n fun i => Z5 (R i))] := rfl
 have hs : ZY n c = .lst (tab (n + 1) fun k => .int (c k)) := rfl
 have key : ∀ {D : T}, ((∃ t, t < n ∧ o t = none) ∧ D = .none ∨ (¬ (∃ t, t < n ∧ o t = none)) ∧ ZdY [.tup [Z8 (n + 1) G, .lst (tab n fun t => oR (o t))]] = some D) → Zdh [ZR n G R, ZY n c, .int d] = some D := fun {D} hD => by
  apply Pk.eq
  unfold Zdh ZhV
  rw [ht, hs]
  walk_at "zz"
  rw [← hs]
  refine Zck (n := n) (a := fun i => .int ((1 + i : Nat) : Int)) (b := fun t => oR (o t)) (by omega) ?_ (fun t ht' => ?_) ?_
  ·refine ZfA (a := 1) (m := n) (by omega) (by omega) ?_ rfl
   simp only [Zd, Zk, Zn, Za, Zs, hs, Zas, Zat, Option.bind_some]
   show some [T.int 1, T.int (((tab (n + 1) fun k => T.int (c k)).length : Nat) : Int)] = _
   rw [Zat]
   congr 3
   congr 1
   omega
  ·rw [Nat.add_comm 1 t]
   walk_at "zz"
   exact ZI (ho t ht').1 rfl
  walk_at "zz"
  refine ZfQ (.none (n := 0)) (Zem (n := 1) fun i _ => Zjp) ?_
  rcases hD with ⟨⟨t, h1, h2⟩, rfl⟩ | ⟨hc, hD⟩
  ·rw [Za0 (show T.none ∈ tab n fun i => oR (o i) from List.mem_of_getElem? (i := t) (by rw [ZbN h1, h2]; rfl))]
   walk_at "zz"
   rfl
  ·rw [Zbx (show ¬ T.none ∈ tab n fun i => oR (o i) from fun h => by
    obtain ⟨i, hi, e⟩ := ZcP h
    exact hc ⟨i, hi, oR_none.mp e.symm⟩)]
   walk_at "zz"
   exact ZI hD rfl
 refine ⟨fun h => key (.inl ⟨h, rfl⟩), fun R' D h hD => key (.inr ⟨fun ⟨t, h1, h2⟩ => (by rw [h t h1] at h2; cases h2), ?_⟩)⟩
 have e : T.tup [Z8 (n + 1) G, .lst (tab n fun t => oR (o t))] = ZR n G R' := by
  show T.tup [Z8 (n + 1) G, .lst (tab n fun t => oR (o t))] = .tup [Z8 (n + 1) G, .lst (tab n fun i => Z5 (R' i))]
  rw [Zbj fun i hi => (show oR (o i) = Z5 (R' i) by rw [h i hi]; rfl)]
 rw [e]
 exact hD
theorem Zto {o : Nat → Option (Int × Int)} (hn : n ≤ 60) (hk1 : 1 ≤ k) (hk : k + k + n ≤ 8000) (ok : ∀ t, t < n → RestOk (R t)) (bR : ∀ t, t < n → RBd k (R t)) (bc : ∀ j, j < n + 1 → Bd k (c j)) (bo : ∀ t, t < n → ∀ j, j < n + 1 → Bd k (ZaU c (t + 1) j)) (bd : Bd k d) (ho : ∀ t, t < n → ZcM n R c d t (o t)) : ((∃ t, t < n ∧ o t = none) → Zei [ZR n G R, ZY n c, .int d] = some .none) ∧ ∀ R' D, (∀ t, t < n → o t = some (R' t)) → ZdQ [ZR n G R'] = some D → Zei [ZR n G R, ZY n c, .int d] = some D := by
 have ht : ZR n G R = .tup [Z8 (n + 1) G, .lst (tab n fun i => Z5 (R i))] := rfl
 have hs : ZY n c = .lst (tab (n + 1) fun k => .int (c k)) := rfl
 have key : ∀ {D : T}, ((∃ t, t < n ∧ o t = none) ∧ D = .none ∨ (¬ (∃ t, t < n ∧ o t = none)) ∧ ZdQ [.tup [Z8 (n + 1) G, .lst (tab n fun t => oR (o t))]] = some D) → Zei [ZR n G R, ZY n c, .int d] = some D := fun {D} hD => by
  apply Pk.eq
  unfold Zei Zmr
  let ρ : Nat → Nat → Option (Int × Int) := fun m t => if t < m then o t else some (R t)
  have hw : ∀ {t : Nat} {Q : T → Prop}, t < n → Q (ZY n (ZaU c (t + 1))) → Pk (Zeh [ZY n c, .int ((t + 1 : Nat) : Int), .int (-(c (t + 1)))]) Q := fun {t Q} h q => ZI (Zh0 (by omega) (by omega)) (by rw [show (fun a => c a + unC (t + 1) a * -(c (t + 1))) = ZaU c (t + 1) by funext a; unfold ZaU; rw [Int.mul_neg]; omega]; exact q)
  rw [ht, hs]
  walk_at "zz"
  refine ZbV (n := n) (a := fun i => .int ((1 + i : Nat) : Int)) (P := fun m σ => σ 0 = some (.tup [Z8 (n + 1) G, .lst (tab n fun i => Z5 (R i))]) ∧ σ 1 = some (.lst (tab (n + 1) fun k => .int (c k))) ∧ σ 2 = some (.int d) ∧ σ 3 = some (.lst (tab n fun t => oR (ρ m t)))) ?_ ⟨by walk_at "zr", by walk_at "zr", by walk_at "zr", ?_⟩ ?_ ?_
  ·refine ZfA (a := 1) (m := n) (by omega) (by omega) ?_ rfl
   show some [T.int 1, T.int (((tab (n + 1) fun k => T.int (c k)).length : Nat) : Int)] = _
   rw [Zat]
   congr 3
   congr 1
   omega
  ·walk_at "zz"
   rfl
  ·rintro t σ ht' ⟨e0, e1, e2, e3⟩
   have h1 : t + 1 < n + 1 := by omega
   have i1 : (((t + 1 : Nat) : Int)).toNat = t + 1 := by omega
   have i2 : (((t + 1 : Nat) : Int) - 1).toNat = t := by omega
   have hr : ρ t t = some (R t) := by show (if t < t then _ else _) = _; rw [if_neg (by omega)]
   have hne : ∀ a, a ≠ t → ρ (t + 1) a = ρ t a := fun a ha => by
    show (if a < t + 1 then _ else _) = (if a < t then _ else _)
    by_cases q : a < t
    ·rw [if_pos q, if_pos (by omega)]
    ·rw [if_neg q, if_neg (by omega)]
   have hat : ρ (t + 1) t = o t := by show (if t < t + 1 then _ else _) = _; rw [if_pos (by omega)]
   have hb := ho t ht'
   rw [Nat.add_comm 1 t]
   by_cases q : c (t + 1) = 1 ∨ c (t + 1) = -1
   ·unfold ZcM at hb
    rw [if_pos q] at hb
    have bp := Zn1 (m := k) ok (fun t ht => (bR t ht).1) bR (bo t ht')
    have op : RestOk (Za4 (ZaU c (t + 1)) R n) := by rw [Zdp ok n (Zz10 n)]; exact Zct (Zd0 _ _ _) _
    have bs := Zoq ok bR (bo t ht') bd q
    have bn : Bd (k + k + n) (-(c (t + 1))) := by have := (bc (t + 1) h1).mono (show k ≤ k + k + n by omega); unfold Bd at *; omega
    have em : Z5 (ZdA n R c d (t + 1)) = Z5 (ZaI (Int.gcd (Za4 (ZaU c (t + 1)) R n).1 d) (-(c (t + 1)) * (Za4 (ZaU c (t + 1)) R n).2)) := rfl
    have q' : c (t + 1) = 1 ∨ (¬ c (t + 1) = 1 ∧ c (t + 1) = -1) := by omega
    have ep : Z5 (Za4 (ZaU c (t + 1)) R n) = .tup [.int (Za4 (ZaU c (t + 1)) R n).1, .int (Za4 (ZaU c (t + 1)) R n).2] := rfl
    rcases q' with q1 | ⟨q1, q2⟩
    all_goals
     walk_at "zz"
     refine hw ht' ?_
     walk_at "zz"
     refine ZI (ZjB (b := k) (by omega) (by omega) (bo t ht') bR ok) ?_
     rw [ep]
     walk_at "zz"
     refine ZI (Zms (bp.1.mono (by omega)) (bd.mono (by omega))) ?_
     walk_at "zz"
     refine ZbU (Zb4 bn bp.2 (by omega) (by omega)) ?_
     walk_at "zz"
     refine ZI ZeF ?_
     rw [← em]
     walk_at "zz"
     rw [i2, hr]
     refine (ZpG (k := k + k + n) hk (ok t ht') Zop ⟨(bR t ht').1.mono (by omega), (bR t ht').2.mono (by omega)⟩ bs).mono ?_
     rintro _ ⟨o', rfl, hm⟩
     refine ⟨Zww, ?_⟩
     walk_at "zz"
     refine ZmC (n := n) (f := fun a => oR (ρ t a)) (by walk_at "zr") (by omega) (by omega) ?_
     rw [i2, Zxx, ZpC hm hb]
     refine ⟨by walk_at "zr", by walk_at "zr", by walk_at "zr", ?_⟩
     rw [show (tab n fun a => oR (ρ (t + 1) a)) = tab n fun a => oR (if a = t then o t else ρ t a) from Zbj fun a _ => by
      by_cases z : a = t
      ·rw [z, hat, if_pos rfl]
      ·rw [hne a z, if_neg z]]
     walk_at "zr"
   ·have q1 : ¬ c (t + 1) = 1 := fun h => q (.inl h)
    have q2 : ¬ c (t + 1) = -1 := fun h => q (.inr h)
    unfold ZcM at hb
    rw [if_neg q] at hb
    walk_at "zz"
    refine ⟨by walk_at "zr", by walk_at "zr", by walk_at "zr", ?_⟩
    rw [show (tab n fun a => oR (ρ (t + 1) a)) = tab n fun a => oR (ρ t a) from Zbj fun a _ => by
     by_cases z : a = t
     ·rw [z, hat, hr, hb]
     ·rw [hne a z]]
    walk_at "zr"
  ·rintro σ ⟨e0, e1, e2, e3⟩
   rw [show (tab n fun a => oR (ρ n a)) = tab n fun a => oR (o a) from Zbj fun a ha => by show oR (if a < n then _ else _) = _; rw [if_pos ha]] at e3
   walk_at "zz"
   refine ZfQ (.none (n := 0)) (Zem (n := 1) fun i _ => Zjp) ?_
   rcases hD with ⟨⟨t, h1, h2⟩, rfl⟩ | ⟨hc, hD⟩
   ·rw [Za0 (show T.none ∈ tab n fun i => oR (o i) from List.mem_of_getElem? (i := t) (by rw [ZbN h1, h2]; rfl))]
    walk_at "zz"
    rfl
   ·rw [Zbx (show ¬ T.none ∈ tab n fun i => oR (o i) from fun h => by
     obtain ⟨i, hi, e⟩ := ZcP h
     exact hc ⟨i, hi, oR_none.mp e.symm⟩)]
    walk_at "zz"
    exact ZI hD rfl
 refine ⟨fun h => key (.inl ⟨h, rfl⟩), fun R' D h hD => key (.inr ⟨fun ⟨t, h1, h2⟩ => (by rw [h t h1] at h2; cases h2), ?_⟩)⟩
 have e : T.tup [Z8 (n + 1) G, .lst (tab n fun t => oR (o t))] = ZR n G R' := by
  show T.tup [Z8 (n + 1) G, .lst (tab n fun t => oR (o t))] = .tup [Z8 (n + 1) G, .lst (tab n fun i => Z5 (R' i))]
  rw [Zbj fun i hi => (show oR (o i) = Z5 (R' i) by rw [h i hi]; rfl)]
 rw [e]
 exact hD
theorem Zqz {c : Nat → Int} {R : Nat → Int × Int} {n i m : Nat} (bc : ∀ j, j < n + 1 → Bd i (c j)) (bm : ∀ j, j < n → Bd m (R j).1) : ∀ j, j ≤ n → Bd (i + m) (ZbR c R j)
 | 0, _ => ZcL
 | j + 1, h => Zjc (Zqz bc bm j (by omega)) ((bc (j + 1) (by omega)).mul (bm j (by omega)))
theorem ZrH {a b : Int} (ha : Bd i a) (hb : Bd j b) : Bd (i + j) ((Int.lcm a b : Nat) : Int) := by
 unfold Bd at *
 by_cases h : a = 0 ∨ b = 0
 ·rcases h with e | e <;> subst e
  ·rw [Int.lcm_zero_left]; exact Nat.pow_pos (by decide)
  ·rw [Int.lcm_zero_right]; exact Nat.pow_pos (by decide)
 ·have : Int.lcm a b ≤ a.natAbs * b.natAbs := Nat.le_of_dvd (Nat.mul_pos (by omega) (by omega)) (Nat.lcm_dvd_mul _ _)
  rw [Int.natAbs_natCast, Nat.pow_add]
  exact Nat.lt_of_le_of_lt this (Nat.mul_lt_mul'' ha hb)
theorem ZwA (ok : ∀ t, t < n → RestOk (R t)) (bm : ∀ t, t < n → Bd m (R t).1) (bo : ∀ j, j < n + 1 → Bd b (ZaU c (t + 1) j)) (bd : Bd (b + m) d) : Bd (b + m) (ZdA n R c d (t + 1)).1 := by
 unfold ZdA
 rw [ZdV, Zdp ok n (Zz10 n), ZdV]
 exact Zjc (Zqz bo bm n (Zz10 n)) bd
theorem ZwB {r : Int × Int} (hk : k + k + n ≤ 8000) (ht : t < n) (ok : ∀ t, t < n → RestOk (R t)) (bm : ∀ t, t < n → Bd m (R t).1) (bR : ∀ t, t < n → RBd k (R t)) (bo : ∀ j, j < n + 1 → Bd b (ZaU c (t + 1) j)) (hbk : b + m ≤ k) (bd : Bd (b + m) d) (h : ZcM n R c d t (some r)) : RestOk r ∧ Bd (b + m + m) r.1 ∧ Bd (k + k + n) r.2 := by
 have g1 : Bd (k + k + n) (R t).2 := (bR t ht).2.mono (by omega)
 unfold ZcM at h
 split at h
 ·rename_i q
  have bs := Zoq ok bR (fun j hj => (bo j hj).mono (by omega)) (bd.mono (by omega)) q
  have hm := ZwA ok bm bo bd
  have wh := Zrz (k := k + k + n) hk (ok t ht) Zop ⟨(bR t ht).1.mono (by omega), g1⟩ bs h r rfl
  refine ⟨h.1, ?_, ?_⟩
  ·rcases wh with rfl | rfl | ⟨_, _, e⟩
   ·exact (bm t ht).mono (by omega)
   ·exact hm.mono (by omega)
   ·rw [e]
    exact (ZrH (bm t ht) hm).mono (by omega)
  ·rcases wh with rfl | rfl | ⟨z1, z2, e⟩
   ·exact g1
   ·exact bs.2
   ·have b1 : Bd (k + k + n) r.1 := by rw [e]; exact (ZrH (bm t ht) hm).mono (by omega)
    have n0 : r.1 ≠ 0 := by rw [e]; intro h; exact (Int.lcm_ne_zero z1 z2) (by omega)
    rcases h.1 with q | ⟨_, q2, q3⟩
    ·exact absurd q n0
    ·unfold Bd at *; omega
 ·cases h
  exact ⟨ok t ht, (bm t ht).mono (by omega), g1⟩
noncomputable def Tf (n : Nat) (P : (Nat → Int) → Prop) (I : (Nat → Nat → Option Int) → (Nat → Int × Int) → Prop) (D : T) : Prop := (D = .none ∧ ∀ x, ¬ P x) ∨ ∃ G R, D = ZR n G R ∧ (∀ i, i < n + 1 → G i i = some 0) ∧ (∀ t, t < n → RestOk (R t)) ∧ (∀ x, P x → Za1 n G R x) ∧ I G R
theorem Tm.tf {K : Nat} {P : (Nat → Int) → Prop} {I : (Nat → Nat → Option Int) → (Nat → Int × Int) → Prop} (h : Tm n K M P I D) : Tf n P I D := by
 rcases h with h | ⟨G, R, rfl, h1, h2, h3, h4, h5⟩
 ·exact .inl h
 ·exact .inr ⟨G, R, rfl, h1, fun t ht => (h2 t ht).1, h4, h5⟩
theorem Tf.due {P : (Nat → Int) → Prop} {I : (Nat → Nat → Option Int) → (Nat → Int × Int) → Prop} (h : Tf n P I D) : DueOk n D := by
 rcases h with ⟨rfl, _⟩ | ⟨G, R, rfl, h1, h2, h3, h4⟩
 ·exact .inl rfl
 ·exact .inr ⟨G, R, rfl, h1, h2⟩
theorem ZwC (ht : t < n) (ok : ∀ t, t < n → RestOk (R t)) (hx : ∀ t, t < n → Zav (R t) (x t)) (hd : d ∣ Zar c x n) (q : c (t + 1) = 1 ∨ c (t + 1) = -1) : Zav (ZdA n R c d (t + 1)) (x t) := by
 unfold ZdA
 refine (Zdi (by omega) _).mpr ?_
 have hv : Zar (ZaU c (t + 1)) x n = Zar c x n - x t * c (t + 1) := by
  rw [show ZaU c (t + 1) = fun k => c k - (fun a => unC (t + 1) a * c (t + 1)) k from rfl, ZgT, Zne, ZiY (t + 1) (by omega)]
  rfl
 have h1 := ZnX (c := ZaU c (t + 1)) ok hx n (Zz10 n)
 rw [Zdp ok n (Zz10 n), ZdV]
 have h2 := Zig (m := ZbR (ZaU c (t + 1)) R n) (r := Zcd (ZaU c (t + 1)) R n) (Zd0 _ _ _)
 have g1 : ((Int.gcd (ZbR (ZaU c (t + 1)) R n) d : Nat) : Int) ∣ ZbR (ZaU c (t + 1)) R n := Int.gcd_dvd_left ..
 have g2 : ((Int.gcd (ZbR (ZaU c (t + 1)) R n) d : Nat) : Int) ∣ d := Int.gcd_dvd_right ..
 have h3 := Int.dvd_trans g1 (Int.dvd_sub h1 h2)
 have h4 := Int.dvd_trans g2 hd
 rw [hv] at h3
 generalize ((Int.gcd (ZbR (ZaU c (t + 1)) R n) d : Nat) : Int) = g at *
 generalize (ZaI (ZbR (ZaU c (t + 1)) R n) (Zcd (ZaU c (t + 1)) R n)).2 = s at *
 generalize Zcd (ZaU c (t + 1)) R n = r at *
 have h5 := Int.dvd_sub h4 h3
 rcases q with e | e <;> rw [e] at h5 ⊢
 ·rwa [show Zar c x n - (Zar c x n - x t * 1 - r - (s - r)) = x t - -1 * s by omega] at h5
 ·have := (Int.dvd_neg).mpr h5
  rwa [show -(Zar c x n - (Zar c x n - x t * -1 - r - (s - r))) = x t - -(-1) * s by omega] at this
theorem ZqA (ht : t < n) (ok : ∀ t, t < n → RestOk (R t)) (hx : ∀ t, t < n → Zav (R t) (x t)) (hd : d ∣ Zar c x n) (h : ZcM n R c d t o) : ∃ r, o = some r ∧ Zav r (x t) := by
 unfold ZcM at h
 split at h
 ·rename_i q
  have hb := ZwC ht ok hx hd q
  cases o with
  | none => exact absurd ⟨hx t ht, hb⟩ (h (x t))
  | some r => exact ⟨r, rfl, (h.2 (x t)).mpr ⟨hx t ht, hb⟩⟩
 ·exact ⟨R t, h, hx t ht⟩
theorem ZwD {K : Nat} (hn : n ≤ 20) (hk1 : 1 ≤ k) (hk : k + k + n ≤ K) (hbk : b + m ≤ k) (hb1 : 1 ≤ b) (hK : (b + m + m) * n + 1 ≤ K) (hK2 : K + 2 * n + 4 ≤ 7000) (hd0 : ∀ i, i < n + 1 → G i i = some 0) (bG : GB K n G) (ok : ∀ t, t < n → RestOk (R t)) (bm : ∀ t, t < n → Bd m (R t).1) (bR : ∀ t, t < n → RBd k (R t)) (bc : ∀ j, j < n + 1 → Bd k (c j)) (bo : ∀ t, t < n → ∀ j, j < n + 1 → Bd b (ZaU c (t + 1) j)) (bd : Bd (b + m) d) : ∃ D, Zdh [ZR n G R, ZY n c, .int d] = some D ∧ Zei [ZR n G R, ZY n c, .int d] = some D ∧ Tf n (fun x => Za1 n G R x ∧ d ∣ Zar c x n) (fun G2 R2 => ∃ R', (∀ t, t < n → RestOk (R' t)) ∧ (∀ t, t < n → ZcM n R c d t (some (R' t))) ∧ Zcx n G2 R2 G R') D := by
 have bo2 : ∀ t, t < n → ∀ j, j < n + 1 → Bd k (ZaU c (t + 1) j) := fun t ht j hj => (bo t ht j hj).mono (by omega)
 obtain ⟨o, ho, a1, a2⟩ := Zs5 (G := G) (c := c) (d := d) (by omega) hk1 (by omega) ok bR bc bo2 (bd.mono (by omega))
 obtain ⟨l1, l2⟩ := Zto (G := G) (c := c) (d := d) (by omega) hk1 (by omega) ok bR bc bo2 (bd.mono (by omega)) ho
 by_cases hc : ∃ t, t < n ∧ o t = none
 ·refine ⟨.none, a1 hc, l1 hc, .inl ⟨rfl, fun x h => ?_⟩⟩
  obtain ⟨t, h1, h2⟩ := hc
  obtain ⟨r, e, _⟩ := ZqA h1 ok h.1.2 h.2 (ho t h1)
  rw [h2] at e
  cases e
 ·have hs : ∀ t, t < n → o t = some ((o t).getD (1, 0)) := fun t ht => by
   cases e : o t with
   | none => exact absurd ⟨t, ht, e⟩ hc
   | some q => rfl
  generalize hR' : (fun t => (o t).getD (1, 0)) = R'
  have hs2 : ∀ t, t < n → o t = some (R' t) := fun t ht => by rw [← hR']; exact hs t ht
  have hB : ∀ t, t < n → ZcM n R c d t (some (R' t)) := fun t ht => by rw [← hs2 t ht]; exact ho t ht
  have hr := fun t (ht : t < n) => ZwB (k := k) (by omega) ht ok bm bR (bo t ht) hbk bd (hB t ht)
  have bM : Bd K (Zdc R' n) := (ZiA (k := b + m + m) (by omega) (fun t ht => (hr t ht).2.1) n (Zz10 n)).mono (by omega)
  obtain ⟨D, e1, e2, hD⟩ := Zre (k := K) (R := R') hn hK2 (Zir (fun t ht => (hr t ht).1) n (Zz10 n)) bM hd0 bG (fun t ht => ⟨(hr t ht).1, Zis n t ht, (hr t ht).2.2.mono (by omega)⟩)
  refine ⟨D, a2 R' D hs2 e1, l2 R' D hs2 e2, ?_⟩
  have lies : ∀ x, Za1 n G R x ∧ d ∣ Zar c x n → Za1 n G R' x := fun x h => ⟨h.1.1, fun t ht => by
   obtain ⟨r, e, q⟩ := ZqA ht ok h.1.2 h.2 (hB t ht)
   cases e
   exact q⟩
  rcases hD.tf with ⟨rfl, no⟩ | ⟨G2, R2, rfl, h1, h2, h3, h4⟩
  ·exact .inl ⟨rfl, fun x h => no x (lies x h)⟩
  ·exact .inr ⟨G2, R2, rfl, h1, h2, fun x h => h3 x (lies x h), R', fun t ht => (hr t ht).1, hB, h4⟩
theorem Zn2 {x : Int} (op : RestOk p) (oq : RestOk q) (h : RIn p q) (hx : Zav p x) : Zav q x := by
 unfold RIn at h
 split at h
 ·rw [← h]; exact hx
 ·refine (Zbk oq.nn x).mpr ?_
  have a := (Zbk op.nn x).mp hx
  have b := Int.dvd_trans (Int.dvd_of_emod_eq_zero h.1) a
  have := Int.dvd_add b (Int.dvd_of_emod_eq_zero h.2)
  rwa [show x - p.2 + (p.2 - q.2) = x - q.2 by omega] at this
theorem Zrf (o2 : ∀ t, t < n → RestOk (R2 t)) (o : ∀ t, t < n → RestOk (R t)) (h : Zcx n G2 R2 G R) (l : Za1 n G2 R2 x) : Za1 n G R x := by
 refine ⟨fun i j hi hj b e => ?_, fun t ht => Zn2 (o2 t ht) (o t ht) (h.2 t ht) (l.2 t ht)⟩
 obtain ⟨y, h1, h2⟩ := h.1 i hi j hj b e
 have := l.1 i j hi hj y h1
 omega
theorem ZhL {G1 G3 : Nat → Nat → Option Int} {R1 R3 : Nat → Int × Int} (o1 : ∀ t, t < n → RestOk (R1 t)) (o2 : ∀ t, t < n → RestOk (R2 t)) (o3 : ∀ t, t < n → RestOk (R3 t)) (h : Zcx n G1 R1 G2 R2) (k : Zcx n G2 R2 G3 R3) : Zcx n G1 R1 G3 R3 := ⟨fun i hi j hj => Zcu (h.1 i hi j hj) (k.1 i hi j hj), fun t ht => Zon (o1 t ht) (o3 t ht) fun x hx => Zn2 (o2 t ht) (o3 t ht) (k.2 t ht) (Zn2 (o1 t ht) (o2 t ht) (h.2 t ht) hx)⟩
theorem Znh (o : ∀ t, t < n → RestOk (R t)) (h : Zcx n G2 R2 (amG n G c top) R) : Zcx n G2 R2 G R := ⟨fun i hi j hj => Zcu (h.1 i hi j hj) (Zx2 i j), h.2⟩
noncomputable def AM (n : Nat) (c : Nat → Int) (top : Int) (x : Nat → Int) : Prop := ∃ G R, Za1 n (amG n G c top) R x
theorem ZoT {a b : T} : Zdh [.none, a, b] = some .none := by
 apply Pk.eq
 unfold Zdh ZhV
 walk_at "zz"
 rfl
theorem ZxB (hM : 0 < M) (bM : Bd m M) (h : RB M k q) : Bd m q.1 := by
 rcases h.2.1 with e | e
 ·rw [e]; exact ZcL
 ·have := Nat.le_of_dvd (by omega) (Int.natAbs_dvd_natAbs.mpr e)
  unfold Bd at *
  omega
theorem Zp2 (h : RestOk q) : Zav q 0 ↔ q.2 = 0 := by
 rw [Zbk h.nn]
 constructor
 ·intro d
  rcases h with z | ⟨z1, z2, z3⟩
  ·rw [z] at d
   have := Int.zero_dvd.mp d
   omega
  ·refine Classical.byContradiction fun q => ?_
   have := Int.le_of_dvd (by omega) ((Int.dvd_neg).mpr d)
   omega
 ·intro e
  rw [e]
  exact Int.dvd_zero _
theorem Zvp (ok : ∀ t, t < n → RestOk (R t)) (h : ∀ t, t < n → Zav (R t) (x t)) : Zav (Za4 c R n) (Zar c x n) := by
 rw [Zdp ok n (Zz10 n)]
 exact (Zdi (Zd0 _ _ _) _).mpr (ZnX ok h n (Zz10 n))
theorem ZiZ (ok : ∀ t, t < n → RestOk (R t)) : RestOk (Za4 c R n) := by
 rw [Zdp ok n (Zz10 n)]
 exact Zct (Zd0 _ _ _) _
theorem Zn3 (hn : n ≤ 20) (ok : ∀ t, t < n → RestOk (R t)) (bR : ∀ t, t < n → RBd 300 (R t)) (bc : ∀ i, i < n + 1 → Bd 300 (c i)) (hr : Zav (Za4 c R n) 0) (h1 : ZcH [ZR n G R, ZY n c, .int 0] = some D1 ∧ ZcF [ZR n G R, ZY n c, .int 0] = some D1) (h2 : ZcH [D1, ZY n fun k => -(c k), .int 0] = some D2 ∧ ZcF [D1, ZY n fun k => -(c k), .int 0] = some D2) (h3 : Zdh [D2, ZY n c, .int 0] = some D) (h4 : (D2 = .none ∧ D = .none) ∨ ((∃ G R, D2 = ZR n G R) ∧ Zei [D2, ZY n c, .int 0] = some D)) : Zee [ZR n G R, ZY n c] = some D ∧ Zdg [ZR n G R, ZY n c] = some D := by
 have ht : ZR n G R = .tup [Z8 (n + 1) G, .lst (tab n fun i => Z5 (R i))] := rfl
 have hs : ZY n c = .lst (tab (n + 1) fun k => .int (c k)) := rfl
 have hg : ∀ {Q : T → Prop}, Q (.lst (tab n fun i => Z5 (R i))) → Pk (Zr (ZR n G R) (.int 1)) Q := fun h => ⟨_, by rw [ht]; rfl, h⟩
 have bn : Bd 300 (-1) := (show Bd 1 (-1) by unfold Bd; decide).mono (by decide)
 have ep : Z5 (Za4 c R n) = .tup [.int (Za4 c R n).1, .int (Za4 c R n).2] := rfl
 have hz := (Zp2 (ZiZ (c := c) ok)).mp hr
 constructor
 ·apply Pk.eq
  unfold Zee ZhX
  walk_at "zz"
  refine hg ?_
  walk_at "zz"
  refine ZI (Zk6 (i := 300) (by omega) (by decide) (by decide) bc bR ok) ?_
  walk_at "zz"
  refine ZI (ZhY (ZiZ ok)) ?_
  rw [Za0 hr]
  walk_at "zz"
  refine ZI h1.1 ?_
  walk_at "zz"
  refine ZI (Zfb (b := 300) (by omega) (by decide) bc bn) ?_
  rw [Zp1]
  walk_at "zz"
  refine ZI h2.1 ?_
  walk_at "zz"
  exact ZI h3 rfl
 ·apply Pk.eq
  unfold Zdg Zho
  have hcp : ∀ {σ : TL}, σ 1 = some (ZY n c) → Pk (Zaq (ZaE (Za 1)) (Zad 100) Zaf (pUn Zbd (Za 100)) σ) fun t => t = ZY n fun k => -(c k) := fun e => by
   unfold ZY at e
   refine Zck (n := n + 1) (a := fun k => .int (c k)) (b := fun k => .int (-(c k))) (by omega) ?_ (fun k hk => ?_) rfl
   ·walk_at "zz"
    rfl
   ·walk_at "zz"
    rfl
  walk_at "zz"
  refine hg ?_
  walk_at "zz"
  refine ZI (ZjB (b := 300) (by omega) (by decide) bc bR ok) ?_
  rw [ep, hz]
  walk_at "zz"
  refine ZI h1.2 ?_
  walk_at "zz"
  refine (hcp (by walk_at "zr")).mono ?_
  rintro _ rfl
  walk_at "zz"
  refine ZI h2.2 ?_
  rcases h4 with ⟨rfl, rfl⟩ | ⟨⟨G3, R3, rfl⟩, h4⟩
  ·walk_at "zz"
   rfl
  ·have hne : ∀ {Q : T → Prop}, Q (.bool false) → Pk (qIs (ZR n G3 R3) .none) Q := fun h => ⟨_, rfl, h⟩
   walk_at "zz"
   refine hne ?_
   walk_at "zz"
   exact ZI h4 rfl
theorem Zvq (hn : n ≤ 20) (ok : ∀ t, t < n → RestOk (R t)) (bR : ∀ t, t < n → RBd 300 (R t)) (bc : ∀ i, i < n + 1 → Bd 300 (c i)) (hr : ¬ Zav (Za4 c R n) 0) : Zee [ZR n G R, ZY n c] = some .none ∧ Zdg [ZR n G R, ZY n c] = some .none := by
 have ht : ZR n G R = .tup [Z8 (n + 1) G, .lst (tab n fun i => Z5 (R i))] := rfl
 have hg : ∀ {Q : T → Prop}, Q (.lst (tab n fun i => Z5 (R i))) → Pk (Zr (ZR n G R) (.int 1)) Q := fun h => ⟨_, by rw [ht]; rfl, h⟩
 have ep : Z5 (Za4 c R n) = .tup [.int (Za4 c R n).1, .int (Za4 c R n).2] := rfl
 have hz : ¬ (Za4 c R n).2 = 0 := fun h => hr ((Zp2 (ZiZ (c := c) ok)).mpr h)
 constructor
 ·apply Pk.eq
  unfold Zee ZhX
  walk_at "zz"
  refine hg ?_
  walk_at "zz"
  refine ZI (Zk6 (i := 300) (by omega) (by decide) (by decide) bc bR ok) ?_
  walk_at "zz"
  refine ZI (ZhY (ZiZ ok)) ?_
  rw [Zbx hr]
  walk_at "zz"
  rfl
 ·apply Pk.eq
  unfold Zdg Zho
  walk_at "zz"
  refine hg ?_
  walk_at "zz"
  refine ZI (ZjB (b := 300) (by omega) (by decide) bc bR ok) ?_
  rw [ep]
  walk_at "zz"
  rfl
theorem ZwE (bc : ∀ i, i < n + 1 → Bd b (c i)) : ∀ t, t < n → ∀ j, j < n + 1 → Bd (b + 1) (ZaU c (t + 1) j) := fun t ht => Zxz bc (t + 1) (by omega)
theorem ZxC (hn : n ≤ 4) (hd : ∀ i, i < n + 1 → G i i = some 0) (ok : ∀ t, t < n → RestOk (R t)) (sG : SmG 137 n G) (sR : SmR 137 n R) (bc : ∀ i, i < n + 1 → Bd 300 (c i)) : ∃ D, Zee [ZR n G R, ZY n c] = some D ∧ Zdg [ZR n G R, ZY n c] = some D ∧ Tf n (fun x => Za1 n G R x ∧ Zar c x n = 0) (fun G2 R2 => Zcx n G2 R2 G R ∧ ∀ x, Za1 n G2 R2 x → AM n c 0 x ∧ AM n (fun k => -(c k)) 0 x) D := by
 have bR : ∀ t, t < n → RBd 300 (R t) := fun t ht => ⟨(show Bd 137 _ from (sR t ht).1).mono (by decide), (show Bd 137 _ from (sR t ht).2).mono (by decide)⟩
 have bM : Bd 549 (Zdc R n) := (ZiA (k := 137) (by decide) (fun t ht => (sR t ht).1) n (Zz10 n)).mono (by omega)
 have hM := Zir ok n (Zz10 n)
 have hR : ∀ t, t < n → RB (Zdc R n) 610 (R t) := fun t ht => ⟨ok t ht, Zis n t ht, (show Bd 137 _ from (sR t ht).2).mono (by decide)⟩
 by_cases hr : Zav (Za4 c R n) 0
 ·obtain ⟨D1, a1, b1, t1⟩ := Zng (b := 300) (k := 610) (c := c) (top := 0) (by omega) (by decide) (by decide) (by omega) (by omega) hM (bM.mono (by decide)) hd (fun i j hi hj y e => (show Bd 137 y from sG i j hi hj y e).mono (by decide)) hR bc ZcL
  rcases t1 with ⟨rfl, no⟩ | ⟨G1, R1, rfl, hd1, hR1, bG1, li1, in1⟩
  ·obtain ⟨e1, e2⟩ := Zn3 (D := .none) (by omega) ok bR bc hr ⟨a1, b1⟩ ⟨Zs4, ZrX⟩ ZoT (.inl ⟨rfl, rfl⟩)
   exact ⟨.none, e1, e2, .inl ⟨rfl, fun x h => no x ⟨h.1, by omega⟩⟩⟩
  ·obtain ⟨D2, a2, b2, t2⟩ := Zng (b := 629) (k := 1268) (c := fun k => -(c k)) (top := 0) (by omega) (by decide) (by decide) (by omega) (by omega) hM (bM.mono (by decide)) hd1 (fun i j hi hj y e => (bG1 i j hi hj y e).mono (by omega)) (fun t ht => (hR1 t ht).mono (by omega)) (fun i hi => (ZgS bc i hi).mono (by decide)) ZcL
   rcases t2 with ⟨rfl, no⟩ | ⟨G2, R2, rfl, hd2, hR2, bG2, li2, in2⟩
   ·obtain ⟨e1, e2⟩ := Zn3 (D := .none) (by omega) ok bR bc hr ⟨a1, b1⟩ ⟨a2, b2⟩ ZoT (.inl ⟨rfl, rfl⟩)
    exact ⟨.none, e1, e2, .inl ⟨rfl, fun x h => no x ⟨li1 x ⟨h.1, by omega⟩, by rw [ZeN]; omega⟩⟩⟩
   ·obtain ⟨D, a3, b3, t3⟩ := ZwD (k := 1287) (b := 301) (m := 549) (K := 5600) (G := G2) (R := R2) (c := c) (d := 0) (by omega) (by decide) (by omega) (by decide) (by decide) (by omega) (by omega) hd2 (fun i j hi hj y e => (bG2 i j hi hj y e).mono (by omega)) (fun t ht => (hR2 t ht).1) (fun t ht => ZxB hM bM (hR2 t ht)) (fun t ht => ((hR2 t ht).mono (show 1268 + 3 * n + 7 ≤ 1287 by omega)).bd hM (bM.mono (by decide))) (fun i hi => (bc i hi).mono (by decide)) (ZwE bc) ZcL
    obtain ⟨e1, e2⟩ := Zn3 (by omega) ok bR bc hr ⟨a1, b1⟩ ⟨a2, b2⟩ a3 (.inr ⟨⟨G2, R2, rfl⟩, b3⟩)
    refine ⟨D, e1, e2, ?_⟩
    rcases t3 with ⟨rfl, no⟩ | ⟨G3, R3, rfl, hd3, ok3, li3, R', ok', bes, in3⟩
    ·exact .inl ⟨rfl, fun x h => no x ⟨li2 x ⟨li1 x ⟨h.1, by omega⟩, by rw [ZeN]; omega⟩, by rw [h.2]; exact Int.dvd_zero _⟩⟩
    ·have ok1 : ∀ t, t < n → RestOk (R1 t) := fun t ht => (hR1 t ht).1
     have ok2 : ∀ t, t < n → RestOk (R2 t) := fun t ht => (hR2 t ht).1
     have i32 : Zcx n G3 R3 G2 R2 := ZhL ok3 ok' ok2 in3 ⟨fun i hi j hj => ZcI, fun t ht => by
      refine Zon (ok' t ht) (ok2 t ht) fun x hx => ?_
      have b := bes t ht
      unfold ZcM at b
      split at b
      ·exact ((b.2 x).mp hx).1
      ·rw [Option.some.inj b] at hx; exact hx⟩
     have i31 : Zcx n G3 R3 (amG n G1 (fun k => -(c k)) 0) R1 := ZhL ok3 ok2 ok1 i32 in2
     have i30 : Zcx n G3 R3 (amG n G c 0) R := ZhL ok3 ok1 ok (Znh ok1 i31) in1
     refine .inr ⟨G3, R3, rfl, hd3, ok3, fun x h => li3 x ⟨li2 x ⟨li1 x ⟨h.1, by omega⟩, by rw [ZeN]; omega⟩, by rw [h.2]; exact Int.dvd_zero _⟩, Znh ok i30, fun x l => ⟨⟨G, R, Zrf ok3 ok i30 l⟩, ⟨G1, R1, Zrf ok3 ok1 i31 l⟩⟩⟩
 ·obtain ⟨e1, e2⟩ := Zvq (G := G) (by omega) ok bR bc hr
  exact ⟨.none, e1, e2, .inl ⟨rfl, fun x h => hr (by rw [← h.2]; exact Zvp ok h.1.2)⟩⟩
noncomputable def Off (n : Nat) (c : Nat → Int) (D D' : T) : Prop := (D = .none ∧ D' = .none) ∨ ∃ G R, D = ZR n G R ∧ ZdM [D, ZY n c] = some (oT (grt n G c)) ∧ (((∃ y, grt n G c = some y ∧ y ≤ 0) ∧ ZcF [D, ZY n c, .int (-1)] = some D') ∨ ((¬ ∃ y, grt n G c = some y ∧ y ≤ 0) ∧ D' = D))
theorem ZsH {a : T} : ZdD [.none, a] = some .none := by
 apply Pk.eq
 unfold ZdD Zgo
 walk_at "zz"
 rfl
theorem leO_0 : leO a (some 0) ↔ ∃ y, a = some y ∧ y ≤ 0 := ⟨fun h => h 0 rfl, fun h z e => by cases e; exact h⟩
theorem ZrI (hn : n ≤ 20) (hb1 : 1 ≤ b) (hb : b ≤ 900) (hB : b + b + n + 6 ≤ k) (hk : k + 2 * n + 4 ≤ 7000) (hM : 0 < M) (bM : Bd k M) (hd : ∀ i, i < n + 1 → G i i = some 0) (bG : GB b n G) (hR : ∀ t, t < n → RB M k (R t)) (bc : ∀ i, i < n + 1 → Bd b (c i)) : ∃ D, ZdD [ZR n G R, ZY n c] = some D ∧ Off n c (ZR n G R) D ∧ Tm n (k + 3 * n + 7) M (fun x => Za1 n G R x ∧ Zar c x n ≠ 0) (fun G2 R2 => Zcx n G2 R2 G R) D := by
 have ht : ZR n G R = .tup [Z8 (n + 1) G, .lst (tab n fun i => Z5 (R i))] := rfl
 have hne : ∀ {Q : T → Prop}, Q (.bool true) → Pk (ZaP (ZR n G R) .none) Q := fun h => ⟨_, by rw [ht]; rfl, h⟩
 have hg := ZlJ (R := R) (c := c) (b := b) (by omega) (by omega) hb1 bG bc
 have hlg := ZfZ (R := R) (c := c) (b := b) (by omega) (by omega) bG bc
 have ok : ∀ t, t < n → RestOk (R t) := fun t ht => (hR t ht).1
 by_cases h : ∃ y, grt n G c = some y ∧ y ≤ 0
 ·obtain ⟨D, e1, e2, hD⟩ := Zng (top := -1) hn hb1 hb hB hk hM bM hd bG hR bc ((show Bd 1 (-1) by unfold Bd; decide).mono hb1)
  refine ⟨D, ?_, .inr ⟨G, R, rfl, hlg, .inl ⟨h, e2⟩⟩, ?_⟩
  ·apply Pk.eq
   unfold ZdD Zgo
   walk_at "zz"
   refine hne ?_
   walk_at "zz"
   refine ZI hg ?_
   walk_at "zz"
   refine ZI (Zk3 (b := some 0)) ?_
   rw [Za0 (leO_0.mpr h)]
   walk_at "zz"
   exact ZI e1 rfl
  ·have lt : ∀ x, Za1 n G R x ∧ Zar c x n ≠ 0 → Zar c x n ≤ -1 := fun x q => by
    obtain ⟨y, h1, h2⟩ := h
    have := Zjd q.1 h1
    omega
   rcases hD with ⟨rfl, no⟩ | ⟨G2, R2, rfl, h1, h2, h3, h4, h5⟩
   ·exact .inl ⟨rfl, fun x q => no x ⟨q.1, lt x q⟩⟩
   ·exact .inr ⟨G2, R2, rfl, h1, h2, h3, fun x q => h4 x ⟨q.1, lt x q⟩, Znh ok h5⟩
 ·refine ⟨_, ?_, .inr ⟨G, R, rfl, hlg, .inr ⟨h, rfl⟩⟩, .inr ⟨G, R, rfl, hd, fun t ht => (hR t ht).mono (by omega), fun i j hi hj y e => (bG i j hi hj y e).mono (by omega), fun x q => q.1, fun i hi j hj => ZcI, fun t ht => Zvf⟩⟩
  apply Pk.eq
  unfold ZdD Zgo
  walk_at "zz"
  refine hne ?_
  walk_at "zz"
  refine ZI hg ?_
  walk_at "zz"
  refine ZI (Zk3 (b := some 0)) ?_
  rw [Zbx (fun q => h (leO_0.mp q))]
  walk_at "zz"
  rfl
theorem Zp3 (hn : n ≤ 20) (h1 : Off n c D D1) (h2 : Off n (fun k => -(c k)) D1 D2) : ZdP [D, ZY n c] = some D2 := by
 apply Pk.eq
 unfold ZdP Zk2
 have hs : ZY n c = .lst (tab (n + 1) fun k => .int (c k)) := rfl
 have step : ∀ {c : Nat → Int} {D D' : T} {σ : TL} {P : T → Prop} {N : TL → Prop}, Off n c D D' → σ 0 = some D → (∀ σ', σ' 0 = some D' → N σ') → Psk (ZQ (ZE (Ze ZaP (Za 0) (ZT))) (Zt (ZJ 3 (Zs ZdM (Zd (Za 0) (Zd (Za 2) Zn)))) (ZQ (Zaj (ZE (Ze ZaP (Za 3) (ZT))) (Zaj (ZE (Ze qLe (Za 3) (Zk 0))) Zaf)) (ZJ 0 (Zs ZcF (Zd (Za 0) (Zd (Za 2) (Zd (pUn Zbd (Zk 1)) Zn))))) ZV)) ZV (Zab σ 2 (ZY n c))) P N := fun {c D D' σ P N} h e0 hN => by
  rcases h with ⟨rfl, rfl⟩ | ⟨G, R, rfl, hg, h⟩
  ·walk_at "zz"
   exact hN _ (by walk_at "zr")
  ·have hne : ∀ {Q : T → Prop}, Q (.bool true) → Pk (ZaP (ZR n G R) .none) Q := fun h => ⟨_, rfl, h⟩
   generalize ZR n G R = T0 at *
   walk_at "zz"
   refine hne ?_
   walk_at "zz"
   refine ZI hg ?_
   walk_at "zz"
   rcases h with ⟨⟨y, ey, hy⟩, ha⟩ | ⟨h, rfl⟩
   ·rw [ey, Zap]
    walk_at "zz"
    refine ZI ha ?_
    exact hN _ ZbB
   ·cases e : grt n G c with
    | none =>
     rw [Zbg]
     walk_at "zz"
     exact hN _ (by walk_at "zr")
    | some y =>
     have hy : ¬ y ≤ 0 := fun q => h ⟨y, e, q⟩
     rw [Zap]
     walk_at "zz"
     exact hN _ (by walk_at "zr")
 have hcp : ∀ {σ : TL}, σ 1 = some (ZY n c) → Pk (Zaq (ZaE (Za 1)) (Zad 100) Zaf (pUn Zbd (Za 100)) σ) fun t => t = ZY n fun k => -(c k) := fun e => by
  unfold ZY at e
  refine Zck (n := n + 1) (a := fun k => .int (c k)) (b := fun k => .int (-(c k))) (by omega) ?_ (fun k hk => ?_) rfl
  ·walk_at "zz"
   rfl
  ·walk_at "zz"
   rfl
 refine Zi3 rfl ?_
 refine ZeO ?_
 refine ZnH (ts := [ZY n c, ZY n fun k => -(c k)]) (P := fun m σ => σ 0 = some (if m = 0 then D else if m = 1 then D1 else D2)) ?_ rfl ?_ ?_
 ·walk_at "zz"
  refine (hcp (by walk_at "zr")).mono ?_
  rintro _ rfl
  walk_at "zz"
  rfl
 ·rintro i t σ ei e0
  match i, ei with
  | 0, ei => cases ei; exact step h1 e0 fun σ' h => h
  | 1, ei => cases ei; exact step h2 e0 fun σ' h => h
 ·rintro σ e0
  have e0 : σ 0 = some D2 := e0
  walk_at "zz"
  rfl
theorem ZoJ (hn : n ≤ 20) (bc : ∀ i, i < n + 1 → Bd 300 (c i)) (h1 : ZdD [T0, ZY n c] = some D1) (h2 : ZdD [D1, ZY n fun k => -(c k)] = some D2) (h3 : DueOk n D2) : Ze6 [T0, ZY n c] = some D2 := by
 apply Pk.eq
 unfold Ze6 ZjU
 have bn : Bd 300 (-1) := (show Bd 1 (-1) by unfold Bd; decide).mono (by decide)
 have hf : ZfG [D2] = some D2 := by
  rcases h3 with rfl | ⟨G, R, rfl, _⟩
  ·exact ZnB .none
  ·exact ZnB ((Zwr (by omega)).mono (by decide))
 walk_at "zz"
 refine ZI h1 ?_
 walk_at "zz"
 refine ZI (Zfb (b := 300) (by omega) (by decide) bc bn) ?_
 rw [Zp1]
 walk_at "zz"
 refine ZI h2 ?_
 walk_at "zz"
 exact ZI hf rfl
theorem Zvr (hn : n ≤ 4) (hd : ∀ i, i < n + 1 → G i i = some 0) (ok : ∀ t, t < n → RestOk (R t)) (sG : SmG 137 n G) (sR : SmR 137 n R) (bc : ∀ i, i < n + 1 → Bd 300 (c i)) : ∃ D, Ze6 [ZR n G R, ZY n c] = some D ∧ ZdP [ZR n G R, ZY n c] = some D ∧ Tf n (fun x => Za1 n G R x ∧ Zar c x n ≠ 0) (fun G2 R2 => Zcx n G2 R2 G R) D := by
 have bM : Bd 549 (Zdc R n) := (ZiA (k := 137) (by decide) (fun t ht => (sR t ht).1) n (Zz10 n)).mono (by omega)
 have hM := Zir ok n (Zz10 n)
 have hR : ∀ t, t < n → RB (Zdc R n) 610 (R t) := fun t ht => ⟨ok t ht, Zis n t ht, (show Bd 137 _ from (sR t ht).2).mono (by decide)⟩
 obtain ⟨D1, a1, o1, t1⟩ := ZrI (b := 300) (k := 610) (c := c) (by omega) (by decide) (by decide) (by omega) (by omega) hM (bM.mono (by decide)) hd (fun i j hi hj y e => (show Bd 137 y from sG i j hi hj y e).mono (by decide)) hR bc
 rcases t1 with ⟨rfl, no⟩ | ⟨G1, R1, rfl, hd1, hR1, bG1, li1, in1⟩
 ·exact ⟨.none, ZoJ (by omega) bc a1 ZsH (.inl rfl), Zp3 (by omega) o1 (.inl ⟨rfl, rfl⟩), .inl ⟨rfl, no⟩⟩
 ·obtain ⟨D2, a2, o2, t2⟩ := ZrI (b := 629) (k := 1268) (c := fun k => -(c k)) (by omega) (by decide) (by decide) (by omega) (by omega) hM (bM.mono (by decide)) hd1 (fun i j hi hj y e => (bG1 i j hi hj y e).mono (by omega)) (fun t ht => (hR1 t ht).mono (by omega)) (fun i hi => (ZgS bc i hi).mono (by decide))
  have t3 := t2.tf
  refine ⟨D2, ZoJ (by omega) bc a1 a2 t3.due, Zp3 (by omega) o1 o2, ?_⟩
  rcases t3 with ⟨rfl, no⟩ | ⟨G2, R2, rfl, hd2, ok2, li2, in2⟩
  ·exact .inl ⟨rfl, fun x h => no x ⟨li1 x h, by rw [ZeN]; omega⟩⟩
  ·exact .inr ⟨G2, R2, rfl, hd2, ok2, fun x h => li2 x ⟨li1 x h, by rw [ZeN]; omega⟩, ZhL ok2 (fun t ht => (hR1 t ht).1) ok in2 in1⟩
theorem ZwF : Pln 1 (ZY n c) := by
 have := ZnW (tab (n + 1) c)
 rw [tab_map] at this
 exact this
theorem ss_ : PyData.strOk (Str.ofString "same") = true := by decide +kernel
theorem ZxD : ¬ (T.str (Str.ofString "same") = T.str (Str.ofString "under")) := by
 intro h
 have := T.str.inj h
 revert this
 decide +kernel
noncomputable def smT (n : Nat) (c : Nat → Int) : T := .tup [.str (Str.ofString "same"), ZY n c]
theorem Zrg {b : Bool} (h : (if b then Zee [ZR n G R, ZY n c] else Ze6 [ZR n G R, ZY n c]) = some D) : Zd4 [ZR n G R, smT n c, .bool b] = some D := by
 apply Pk.eq
 unfold Zd4 Zja
 have ht : ZR n G R = .tup [Z8 (n + 1) G, .lst (tab n fun i => Z5 (R i))] := rfl
 have hne : ∀ {Q : T → Prop}, Q (.bool false) → Pk (qIs (ZR n G R) .none) Q := fun h => ⟨_, by rw [ht]; rfl, h⟩
 unfold smT
 walk_at "zz"
 refine hne ?_
 walk_at "zz"
 refine ZfJ (n := 1) (m := 1) (.str ss_) (.str su) ?_
 rw [Zbx ZxD]
 walk_at "zz"
 refine ZfJ (n := 1) (m := 1) (.str ss_) (.str ss_) ?_
 rw [Za0 rfl]
 cases b with
 | true =>
  rw [if_pos rfl] at h
  walk_at "zz"
  exact ZI h rfl
 | false =>
  rw [if_neg (by decide)] at h
  walk_at "zz"
  exact ZI h rfl
structure F45 (n : Nat) (T0 : T) (c : Nat → Int) (D : Bool → T) : Prop where
 w : ∀ b, Zd4 [T0, smT n c, .bool b] = some (D b)
 d : ∀ b, DueOk n (D b)
 p : Pln 3 T0
 k : ZcG [T0] = some T0
 l : (T0 = .none ∧ ∀ b, D b = .none) ∨ ((∃ G R, T0 = ZR n G R) ∧ Zdg [T0, ZY n c] = some (D true) ∧ ZdP [T0, ZY n c] = some (D false) ∧ ZcG [D false] = some (D false))
theorem Zvs (hn : n ≤ 4) (bc : ∀ i, i < n + 1 → Bd 300 (c i)) (hT : T0 = .none ∨ ∃ (G : Nat → Nat → Option Int) (R : Nat → Int × Int), T0 = ZR n G R ∧ (∀ i, i < n + 1 → G i i = some 0) ∧ (∀ t, t < n → RestOk (R t)) ∧ SmG 137 n G ∧ SmR 137 n R) : ∃ D, F45 n T0 c D := by
 rcases hT with rfl | ⟨G, R, rfl, hd, ok, sG, sR⟩
 ·exact ⟨fun _ => .none, fun _ => ZuB, fun _ => .inl rfl, .none, ZpT, .inl ⟨rfl, fun _ => rfl⟩⟩
 ·obtain ⟨D1, a1, b1, t1⟩ := ZxC hn hd ok sG sR bc
  obtain ⟨D2, a2, b2, t2⟩ := Zvr hn hd ok sG sR bc
  refine ⟨fun b => if b then D1 else D2, fun b => ?_, fun b => ?_, Zno, ZqV (by omega), .inr ⟨⟨G, R, rfl⟩, b1, b2, ?_⟩⟩
  ·cases b
   ·exact Zrg a2
   ·exact Zrg a1
  ·cases b
   ·exact t2.due
   ·exact t1.due
  ·rcases t2.due with h | ⟨G2, R2, h, _⟩
   ·show ZcG [D2] = some D2
    rw [h]; exact ZpT
   ·show ZcG [D2] = some D2
    rw [h]; exact ZqV (by omega)
theorem ZwG {D : Bool → T} {b : Bool} (hn : n ≤ 20) (e3 : σ 3 = some T0) (e4 : σ 4 = some (ZY n c)) (e5 : σ 5 = some (smT n c)) (e7 : σ 7 = some T0) (e8 : σ 8 = some (.bool b)) (F : F45 n T0 c D) (hN : ∀ σ', σ' 3 = some T0 → σ' 4 = some (ZY n c) → σ' 5 = some (smT n c) → σ' 7 = some T0 → N σ') : Psk ((Zt (ZJ 9 (ZT)) (Zt (ZQ (Zaj (ZE (Ze ZaP (Za 7) (ZT))) (Zaj (ZE (Za 8)) Zaf)) (ZJ 9 (Zs Zdg (Zd (Za 7) (Zd (Za 4) Zn)))) ZV) (Zt (ZQ (Zaj (ZE (Ze ZaP (Za 7) (ZT))) (Zaj (ZbZ (ZE (Za 8))) Zaf)) (ZJ 9 (Zs ZcG (Zd (Zs ZdP (Zd (Za 7) (Zd (Za 4) Zn))) Zn))) ZV) (Zt (ZJ 10 (Zs Zd4 (Zd (Za 3) (Zd (Za 5) (Zd (Za 8) Zn))))) (Zt (ZQ (bOr (ZE (Ze qNe (Ze Zr (Za 5) (Zk 1)) (Za 4))) (bOr (ZbZ (ZE (Zs ZdU (Zd (Za 10) (Zd (Za 9) Zn))))) Zcf)) (ZF (ZbE false)) ZV) (Zt (ZQ (ZE (Ze ZaP (Za 10) (ZT))) (Zt (Za3 10 [] (Zk 7) (Zbv (Zbv ZaD (Zk 0)) (Zk 0)) (Zk 0)) (Zc1 10 [] (Zbv ZaD (Zk 1)) (ZaV (Zd (Zk 7) (Zd (Zk 7) Zn))))) ZV) (ZQ (ZE (Ze qNe (Za 3) (Za 7))) (ZF (ZbE false)) ZV))))))) σ) (fun t => t = .bool true) N := by
 obtain ⟨w, d, p, k, l⟩ := F
 have hs := (d b).same (by omega)
 have ps : Pln 1 (ZY n c) := ZwF
 have h51 : ∀ {Q : T → Prop}, Q (ZY n c) → Pk (Zr (smT n c) (.int 1)) Q := fun h => ⟨_, rfl, h⟩
 have hne : ∀ {Q : T → Prop}, (T0 = .none → Q (.bool false)) → ((∃ G R, T0 = ZR n G R) → Q (.bool true)) → Pk (ZaP T0 .none) Q := fun {Q} h1 h2 => by
  rcases l with ⟨e, _⟩ | ⟨⟨G, R, e⟩, _⟩
  ·exact ⟨_, by rw [e]; rfl, h1 e⟩
  ·exact ⟨_, by rw [e]; rfl, h2 ⟨G, R, e⟩⟩
 have l0 : T0 = .none → ∀ b, D b = .none := fun e => by
  rcases l with ⟨_, h⟩ | ⟨⟨G, R, e'⟩, _⟩
  ·exact h
  ·rw [e'] at e; cases e
 have l1 : (∃ G R, T0 = ZR n G R) → Zdg [T0, ZY n c] = some (D true) ∧ ZdP [T0, ZY n c] = some (D false) ∧ ZcG [D false] = some (D false) := fun ⟨G, R, e⟩ => by
  rcases l with ⟨e', h⟩ | ⟨_, h⟩
  ·rw [e] at e'; cases e'
  ·exact h
 refine Zcj (fun σ' => σ' 3 = some T0 ∧ σ' 4 = some (ZY n c) ∧ σ' 5 = some (smT n c) ∧ σ' 7 = some T0 ∧ σ' 8 = some (.bool b) ∧ σ' 9 = some .none) ?_ ?_
 ·walk_at "zz"
  exact ⟨by walk_at "zr", by walk_at "zr", by walk_at "zr", by walk_at "zr", by walk_at "zr", by walk_at "zr"⟩
 clear e3 e4 e5 e7 e8
 rintro σ1 ⟨e3, e4, e5, e7, e8, e9⟩
 refine Zcj (fun σ' => σ' 3 = some T0 ∧ σ' 4 = some (ZY n c) ∧ σ' 5 = some (smT n c) ∧ σ' 7 = some T0 ∧ σ' 8 = some (.bool b) ∧ σ' 9 = some (if b then D true else .none)) ?_ ?_
 ·walk_at "zz"
  refine hne (fun z => ?_) (fun z => ?_)
  ·have h0 : σ1 9 = some (if b then D true else .none) := by rw [l0 z]; cases b <;> exact e9
   clear e9
   walk_at "zz"
   exact ⟨by walk_at "zr", by walk_at "zr", by walk_at "zr", by walk_at "zr", by walk_at "zr", by walk_at "zr"⟩
  ·cases b with
   | true =>
    walk_at "zz"
    refine ZI (l1 z).1 ?_
    exact ⟨by walk_at "zr", by walk_at "zr", by walk_at "zr", by walk_at "zr", by walk_at "zr", ZbB⟩
   | false =>
    walk_at "zz"
    exact ⟨by walk_at "zr", by walk_at "zr", by walk_at "zr", by walk_at "zr", by walk_at "zr", by walk_at "zr"⟩
 clear e3 e4 e5 e7 e8 e9
 rintro σ2 ⟨e3, e4, e5, e7, e8, e9⟩
 refine Zcj (fun σ' => σ' 3 = some T0 ∧ σ' 4 = some (ZY n c) ∧ σ' 5 = some (smT n c) ∧ σ' 7 = some T0 ∧ σ' 8 = some (.bool b) ∧ σ' 9 = some (D b)) ?_ ?_
 ·walk_at "zz"
  refine hne (fun z => ?_) (fun z => ?_)
  ·have h0 : σ2 9 = some (D b) := by rw [l0 z] at e9 ⊢; cases b <;> exact e9
   clear e9
   walk_at "zz"
   exact ⟨by walk_at "zr", by walk_at "zr", by walk_at "zr", by walk_at "zr", by walk_at "zr", by walk_at "zr"⟩
  ·cases b with
   | true =>
    have h0 : σ2 9 = some (D true) := e9
    clear e9
    walk_at "zz"
    exact ⟨by walk_at "zr", by walk_at "zr", by walk_at "zr", by walk_at "zr", by walk_at "zr", by walk_at "zr"⟩
   | false =>
    walk_at "zz"
    refine ZI (l1 z).2.1 ?_
    walk_at "zz"
    refine ZI (l1 z).2.2 ?_
    exact ⟨by walk_at "zr", by walk_at "zr", by walk_at "zr", by walk_at "zr", by walk_at "zr", ZbB⟩
 clear e3 e4 e5 e7 e8 e9
 rintro σ3 ⟨e3, e4, e5, e7, e8, e9⟩
 walk_at "zz"
 refine ZI (w b) ?_
 walk_at "zz"
 refine h51 ?_
 walk_at "zz"
 refine Zoe ps ps ?_
 rw [Za0 rfl]
 walk_at "zz"
 refine ZI hs ?_
 walk_at "zz"
 rcases d b with z | ⟨G2, R2, z, _⟩
 ·rw [z]
  walk_at "zz"
  refine Zoe p p ?_
  rw [Za0 rfl]
  walk_at "zz"
  exact hN _ (by walk_at "zr") (by walk_at "zr") (by walk_at "zr") (by walk_at "zr")
 ·rw [z]
  have hn2 : ∀ {Q : T → Prop}, Q (.bool true) → Pk (ZaP (ZR n G2 R2) .none) Q := fun h => ⟨_, rfl, h⟩
  refine hn2 ?_
  walk_at "zz"
  refine Zwp (n := n) (G := G2) (R := R2) (by walk_at "zr") fun g => ?_
  refine Zwq (n := n) (g := g) (R := R2) (w := .tup [.int 7, .int 7]) (by omega) rfl (by walk_at "zr") fun u => ?_
  walk_at "zz"
  refine Zoe p p ?_
  rw [Za0 rfl]
  walk_at "zz"
  exact hN _ (by walk_at "zr") (by walk_at "zr") (by walk_at "zr") (by walk_at "zr")
theorem ZwH {D : Bool → T} (hn : n ≤ 20) (e3 : σ 3 = some T0) (e4 : σ 4 = some (ZY n c)) (e5 : σ 5 = some (smT n c)) (F : F45 n T0 c D) : Psk ((Zt (ZJ 7 (Zs ZcG (Zd (Za 3) Zn))) (Zt (ZaC (ZaE (Zb7 (Zd (ZbE true) (Zd (ZbE false) Zn)))) (Zad 8) (Zt (ZJ 9 (ZT)) (Zt (ZQ (Zaj (ZE (Ze ZaP (Za 7) (ZT))) (Zaj (ZE (Za 8)) Zaf)) (ZJ 9 (Zs Zdg (Zd (Za 7) (Zd (Za 4) Zn)))) ZV) (Zt (ZQ (Zaj (ZE (Ze ZaP (Za 7) (ZT))) (Zaj (ZbZ (ZE (Za 8))) Zaf)) (ZJ 9 (Zs ZcG (Zd (Zs ZdP (Zd (Za 7) (Zd (Za 4) Zn))) Zn))) ZV) (Zt (ZJ 10 (Zs Zd4 (Zd (Za 3) (Zd (Za 5) (Zd (Za 8) Zn))))) (Zt (ZQ (bOr (ZE (Ze qNe (Ze Zr (Za 5) (Zk 1)) (Za 4))) (bOr (ZbZ (ZE (Zs ZdU (Zd (Za 10) (Zd (Za 9) Zn))))) Zcf)) (ZF (ZbE false)) ZV) (Zt (ZQ (ZE (Ze ZaP (Za 10) (ZT))) (Zt (Za3 10 [] (Zk 7) (Zbv (Zbv ZaD (Zk 0)) (Zk 0)) (Zk 0)) (Zc1 10 [] (Zbv ZaD (Zk 1)) (ZaV (Zd (Zk 7) (Zd (Zk 7) Zn))))) ZV) (ZQ (ZE (Ze qNe (Za 3) (Za 7))) (ZF (ZbE false)) ZV)))))))) (ZF (ZbE true)))) σ) (fun t => t = .bool true) N := by
 have cp := F.k
 walk_at "zz"
 refine ZI cp ?_
 refine ZeO ?_
 refine ZnH (ts := [.bool true, .bool false]) (P := fun _ σ' => σ' 3 = some T0 ∧ σ' 4 = some (ZY n c) ∧ σ' 5 = some (smT n c) ∧ σ' 7 = some T0) ?_ ⟨by walk_at "zr", by walk_at "zr", by walk_at "zr", by walk_at "zr"⟩ ?_ ?_
 ·walk_at "zz"
  rfl
 ·rintro i t σ' ei ⟨f3, f4, f5, f7⟩
  have : ∃ b, t = .bool b := by
   match i, ei with
   | 0, ei => cases ei; exact ⟨_, rfl⟩
   | 1, ei => cases ei; exact ⟨_, rfl⟩
  obtain ⟨b, rfl⟩ := this
  exact ZwG (b := b) hn (by walk_at "zr") (by walk_at "zr") (by walk_at "zr") (by walk_at "zr") (by walk_at "zr") F fun σ'' g3 g4 g5 g7 => ⟨g3, g4, g5, g7⟩
 ·rintro σ' ⟨f3, f4, f5, f7⟩
  walk_at "zz"
  rfl
theorem Ztp (hL : Lay ns) : Znw [scr ns] = some (.bool true) := by
 apply Pk.eq
 unfold Znw Znv
 obtain ⟨p0, p1⟩ := Zcl ns 0 (show (0 : Int) < 9 by decide)
 obtain ⟨w, ew, hw⟩ := Zjb p0 (show Zby ns 0 9 < (9 : Nat) by omega)
 walk_at "zz"
 refine ZI (Zcm (by decide) (by decide) (by decide)) ?_
 rw [ew]
 obtain ⟨n, hn, hidx⟩ : ∃ n : Nat, n ≤ 4 ∧ [T.int 0, .int 1, .int 2, .int 1, .int 2, .int 1, .int 2, .int 1, .int 3][w]? = some (.int n) := by
  match w, hw with
  | 0, _ => exact ⟨0, by decide, rfl⟩
  | 1, _ => exact ⟨1, by decide, rfl⟩
  | 2, _ => exact ⟨2, by decide, rfl⟩
  | 3, _ => exact ⟨1, by decide, rfl⟩
  | 4, _ => exact ⟨2, by decide, rfl⟩
  | 5, _ => exact ⟨1, by decide, rfl⟩
  | 6, _ => exact ⟨2, by decide, rfl⟩
  | 7, _ => exact ⟨1, by decide, rfl⟩
  | 8, _ => exact ⟨3, by decide, rfl⟩
 refine ZiK (t := .int n) (by omega) (by rw [Int.toNat_natCast]; exact hidx) ?_
 walk_at "zz"
 refine Zck (n := n) (a := fun i => .int i) (b := fun i => .int (Zcs ns (2 + i))) (by omega) ?_ (fun t ht => ?_) ?_
 ·walk_at "zz"
  rfl
 ·walk_at "zz"
  exact ZI (ZgA hL (by omega) (by omega)) rfl
 generalize hx : (fun i : Nat => Zcs ns (2 + i)) = x
 have sx : ∀ i, i < n → (x i).natAbs < 2 ^ 134 := fun i _ => by rw [← hx]; exact ZiS ns _
 rw [show (fun i : Nat => T.int (Zcs ns (2 + i))) = fun i => T.int (x i) by rw [← hx]]
 walk_at "zz"
 refine ZI (Zwd (x := x) hL (by decide) (by decide) (by omega)) ?_
 have gd := Zum ns 14 n x
 have smG : SmG 136 n (Zcz ns 14 n x) := Zve sx
 have smR : SmR 136 n (ZfR ns 14 n x) := fun t ht => ⟨ZbT (Zql (ns := ns) (k := 14) sx t ht).1 (by decide), ZbT (Zql (ns := ns) (k := 14) sx t ht).2 (by decide)⟩
 generalize Zcz ns 14 n x = G at *
 generalize ZfR ns 14 n x = R at *
 walk_at "zz"
 refine (Zx0 (n := n) (kk := 8) (by decide) (by decide) hL (by omega)).mono ?_
 rintro _ ⟨c0, rfl, hc⟩
 have bc := hc.bd (by decide)
 have bx : ∀ i, i < n → Bd 140 (x i) := fun i hi => ZbT (sx i hi) (by decide)
 have hv := Zvn (n := n) (b := 140) (c := c0) (x := x) (by omega) (by decide) bc bx
 have bv := (ZrG bc bx n (Zz10 n)).mono (show 140 + 140 + n ≤ 285 by omega)
 refine Zcj (fun σ' => σ' 0 = some (scr ns) ∧ σ' 3 = some (ZR n G R) ∧ ∃ c, σ' 4 = some (ZY n c) ∧ ∀ i, i < n + 1 → Bd 300 (c i)) ?_ ?_
 ·walk_at "zz"
  refine ZI (Zcm (by decide) (by decide) (by decide)) ?_
  walk_at "zz"
  refine ⟨fun q => ?_, fun q => ?_⟩
  ·have hs : ZY n c0 = .lst (tab (n + 1) fun k => .int (c0 k)) := rfl
   rw [hs] at hv ⊢
   walk_at "zz"
   refine ZI hv ?_
   walk_at "zz"
   refine ZI (Zcm (by decide) (by decide) (by decide)) ?_
   walk_at "zz"
   obtain ⟨z0, z1⟩ := Zcl ns 6 (show (0 : Int) < 5 by decide)
   generalize Zby ns 6 5 = pp at *
   refine ZmC (n := n + 1) (f := fun k => .int (c0 k)) (by walk_at "zr") (by omega) (by omega) ?_
   rw [show Int.toNat 0 = 0 from rfl]
   refine ⟨by walk_at "zr", by walk_at "zr", fun k => if k = 0 then c0 0 - Zar c0 x n + pp - 2 else c0 k, ?_, fun i hi => ?_⟩
   ·rw [show (ZY n fun k => if k = 0 then c0 0 - Zar c0 x n + pp - 2 else c0 k) = .lst (tab (n + 1) fun k => if k = 0 then T.int (c0 0 - Zar c0 x n + pp - 2) else .int (c0 k)) from congrArg T.lst (Zbj fun k _ => by by_cases z : k = 0 <;> simp only [z, if_true, if_false])]
    walk_at "zr"
   ·show Bd 300 (if i = 0 then _ else _)
    split
    ·have h1 : Bd 286 (pp - 2) := (show Bd 3 (pp - 2) by unfold Bd; omega).mono (by decide)
     have h2 := ((bc 0 (by omega)).mono (show 140 ≤ 285 by decide)).sub bv
     rw [show c0 0 - Zar c0 x n + pp - 2 = c0 0 - Zar c0 x n + (pp - 2) by omega]
     exact (h2.add h1).mono (by decide)
    ·exact (bc i hi).mono (by decide)
  ·walk_at "zz"
   exact ⟨by walk_at "zr", by walk_at "zr", c0, by walk_at "zr", fun i hi => (bc i hi).mono (by decide)⟩
 rintro σ1 ⟨e0, e3, c, e4, bc'⟩
 refine ZeO ?_
 refine Zi2 ?_
 have hl : Pk (ZaV (Zd (ZfU (Str.ofString "same")) (Zd (Zs Zcg (Zd (Za 4) Zn)) Zn)) σ1) fun t => t = smT n c := by
  unfold ZY at e4
  walk_at "zz"
  rfl
 refine hl.mono ?_
 rintro _ rfl
 walk_at "zz"
 refine ZI (Zcm (by decide) (by decide) (by decide)) ?_
 generalize Zby ns 1 55 = wy at *
 refine Zcj (fun σ' => σ' 0 = some (scr ns) ∧ σ' 4 = some (ZY n c) ∧ σ' 5 = some (smT n c) ∧ σ' 6 = some (.int wy) ∧ ∃ (G : Nat → Nat → Option Int) (R : Nat → Int × Int), σ' 3 = some (ZR n G R) ∧ (∀ i, i < n + 1 → G i i = some 0) ∧ (∀ t, t < n → RestOk (R t)) ∧ SmG 137 n G ∧ SmR 137 n R) ?_ ?_
 ·walk_at "zz"
  refine ⟨fun q => ?_, fun q => ?_⟩
  ·walk_at "zz"
   refine (ZuA (B := 136) hL (by decide) (by decide) (by omega) (by decide) gd.2 smR smG).mono ?_
   rintro _ ⟨G2, R2, rfl, d2, r2, g2, s2⟩
   exact ⟨by walk_at "zr", by walk_at "zr", by walk_at "zr", by walk_at "zr", G2, R2, ZbB, fun i hi => by rw [d2 i hi]; exact gd.1 i hi, r2, g2, s2⟩
  ·walk_at "zz"
   exact ⟨by walk_at "zr", by walk_at "zr", by walk_at "zr", by walk_at "zr", G, R, by walk_at "zr", gd.1, gd.2, fun a b ha hb c e => ZbT (smG a b ha hb c e) (by decide), fun t ht => ⟨ZbT (smR t ht).1 (by decide), ZbT (smR t ht).2 (by decide)⟩⟩
 clear smG smR gd e0 e3 e4
 rintro σ2 ⟨e0, e4, e5, e6, G1, R1, e3, hd1, ok1, sG1, sR1⟩
 refine Zcj (fun σ' => σ' 4 = some (ZY n c) ∧ σ' 5 = some (smT n c) ∧ ∃ T0, σ' 3 = some T0 ∧ (T0 = .none ∨ ∃ (G : Nat → Nat → Option Int) (R : Nat → Int × Int), T0 = ZR n G R ∧ (∀ i, i < n + 1 → G i i = some 0) ∧ (∀ t, t < n → RestOk (R t)) ∧ SmG 137 n G ∧ SmR 137 n R)) ?_ ?_
 ·walk_at "zz"
  refine ⟨fun q => ?_, fun q => ?_⟩
  ·walk_at "zz"
   exact ⟨by walk_at "zr", by walk_at "zr", .none, ZbB, .inl rfl⟩
  ·walk_at "zz"
   exact ⟨e4, e5, _, e3, .inr ⟨G1, R1, rfl, hd1, ok1, sG1, sR1⟩⟩
 rintro σ3 ⟨f4, f5, T0, f3, hT⟩
 obtain ⟨D, F⟩ := Zvs hn bc' hT
 exact ZwH (by omega) f3 f4 f5 F
theorem Zs6 (hlen : ns.length ≤ 63) (hL : PyData.layable0 (.list (ns.map .int)) = true) : ∃ H', Zqh [.ref 0] [ns.map V.int] = some (.bool true, H') := Zud Zu9 ns (Ztp hL)
end L
end
section
open PySem PySem.W PyProof.Rows
namespace PySem.W.Fast
def tw1454219785156648487:=0
def tw13698048360955963301:=0
def tw8005766506721756608:=0
def tw10667965978278278033:=0
def tw3520363519792060846:=0
def tw12048056826642495367:=0
def tw6684487512316482741:=0
def tw10609323587221475018:=0
def tw5055051069096525434:=0
def tw14048895322960730393:=0
def tw2496939508604703423:=0
def tw374291931482123920:=0
def tw16550838102048051623:=0
def tw3414106826494052011:=0
def tw1944925098504758534:=0
def tw3094701115853657799:=0
def tw16279701975793424917:=0
def tw15213048550514571353:=0
def tw1165732905965986049:=0
def tw6459200953577825518:=0
def tw8181798732573668865:=0
def tw12565002596728077416:=0
def tw8646929664414959583:=0
def tw1880258362356491002:=0
def tw14439765378166140033:=0
def tw13432873828021710899:=0
def tw13884827974113296321:=0
def tw12059592832596718669:=0
def tw10188337973796604112:=0
def tw5488966160659634681:=0
def tw12221415409051222339:=0
def tw3241244739717862871:=0
def tw6951939212644042833:=0
def tw4218939439129018664:=0
def tw5759927347364260171:=0
def tw11973505968982382900:=0
def tw1712973634487312807:=0
def tw10042499479572932358:=0
def tw13305670439411429421:=0
def tw931956834028986255:=0
def tw1157979631877120646:=0
def tw15740581520725410121:=0
def tw16406923672382228973:=0
def tw6108208118871286908:=0
def tw489688042539752907:=0
def tw17545862747986772839:=0
def tw1611551182742943237:=0
def tw5764117369366255280:=0
def tw14987661418082201831:=0
def tw2754692670688779762:=0
def tw1901531775752417231:=0
def tw5266450434754204200:=0
def tw10069975712529536831:=0
def tw2337977823195543630:=0
def tw17698735102306075112:=0
def tw4227517698962585424:=0
def tw1647960591809683682:=0
def tw4185518321428705831:=0
def tw13991396874942911051:=0
def tw12815670308626618822:=0
def tw8667492640987031791:=0
def tw6905212232875527693:=0
def tw10378583025934500588:=0
def tw12674656310777702994:=0
def tw15631275449643306842:=0
def tw3934833063311361131:=0
def tw6999419289813526679:=0
def tw11469360237664420825:=0
def tw7950223703418521501:=0
def tw15261137711255440680:=0
def tw3665838584753200986:=0
def tw18182889222666715495:=0
def tw7894344252036594922:=0
def tw17338234738716814015:=0
def tw9161490523856799436:=0
def tw15226832943710054940:=0
def tw6429450841261186155:=0
def tw3133745999044795564:=0
def tw1061639710858884176:=0
def tw670427922429333600:=0
def tw3302770140995672700:=0
def tw16884622931589843948:=0
def tw11586196018267737339:=0
def tw10728712052571211117:=0
def tw8249347019533418915:=0
def tw3321576952164483024:=0
def tw1173414789623836638:=0
def tw3488647797146898431:=0
def tw3903891618737965568:=0
def tw7834740603555865465:=0
def tw7945405709010385892:=0
def tw12694112234171929671:=0
def tw6147076586173037292:=0
def tw5674458297940323589:=0
def tw16970792351503237766:=0
def tw1620389302784492585:=0
def tw3478894487363246031:=0
def tw9835382159548102362:=0
def tw1833547357909804662:=0
def tw11526203479690249398:=0
end PySem.W.Fast
set_option maxRecDepth 100000 in
set_option maxHeartbeats 8000000 in
open_top head for PySem.Challenge.rw_seer_k45_claims_of_same
end
section
open PySem PySem.W PySem.Calls PyProof.Rows PM
namespace L
noncomputable abbrev DD (w : World) (s₀ : Shared) (mg mb : Str → Option Value) (f : Addr) (r : Nat) (F : List V → Hp → Option (V × Hp)) : Prop := Def PySem.Challenge.rw_seer_k45_claims_of_same.row.prog w (head.heap_39 w.params) head.view_39 (looseW head.view_39 []) (ExcName.means s₀.heap) mg mb f r F
section
variable {w : World} {s₀ : Shared} {mg mb : Str → Option Value}
theorem Zpn : DD w s₀ mg mb 414 1 ZhM := by
 unfold DD; k_fill
 refine Dof (names := ["_law_script", "_law_k", "_law_number_here"]) (g := Zk9) ?_
 exact fun _ _ _ _ _ _ _ c _ _ => (Zy (ZU sL (ZN (ZN (ZN vL vL Za7) jI Za7) jI Zal)) (Zy (Z3 (ZP (Zaw (nB c) (Zg vL Zq) ZaX) jI Zds) (ZC (ZU sL (ZN vL (Zx vL (ZN vL (Zaw (nB c) (Zg vL Zq) ZaX) Zbp)) Zal))) Z6) (ZC (ZM vL))))
theorem law_pick_d : DD w s₀ mg mb 421 2 Zb3 := by
 unfold DD; k_fill
 refine Dof (names := ["_law_script", "_law_k", "_law_many"]) (g := ZlP) ?_
 exact fun _ _ _ _ _ _ _ c _ _ => (ZC (ZM (ZN (ZN (ZN (cF c Zpn (Zg vL (Zg vL Zq))) jI Za7) jI Zbp) vL Zbp)))
theorem Zgd : DD w s₀ mg mb 428 2 Zey := by
 unfold DD; k_fill
 refine Dof (names := ["_law_script", "_law_k", "_law_number_here", "_law_reach"]) (g := ZkE) ?_
 exact fun _ _ _ _ _ _ _ c _ _ => (Zy (ZU sL (cF c Zpn (Zg vL (Zg vL Zq)))) (Zy (ZU sL (Zx (J.list (Zg jI (Zg jI (Zg (ZN jI jI Zn5) (Zg (ZN jI jI Zn5) Zq))))) (ZN (ZN (ZN vL jI Za7) jI Zbp) jI Zbp))) (ZC (ZM (ZN (ZN (ZN vL (ZN jI jI Zn5) Za7) (ZN (ZN jI vL Za7) jI Zal) Zbp) vL Zbt)))))
theorem Ztq : DD w s₀ mg mb 435 3 Zlc := by
 unfold DD; k_fill
 refine Dof (names := ["_law_script", "_law_k", "_law_way"]) (g := Zlb) ?_
 exact fun _ _ _ _ _ _ _ c _ _ => (Zy (ZU sL (cF c law_pick_d (Zg vL (Zg vL (Zg jI Zq))))) (Zy (Z3 (ZP (ZN vL jI Zbp) jI Zcp) (ZC (ZM jN)) Z6) (Zy (Z3 (ZP (ZN vL jI Zbp) jI Zcp) (ZC (ZM jI)) Z6) (Zy (Z3 (ZP (ZN vL jI Zbp) jI ZaM) (ZC (ZM (ZN vL jI Zc4))) Z6) (ZC (ZM (Zaw (nB c) (Zg (cF c Zgd (Zg vL (Zg vL Zq))) Zq) Zd2)))))))
theorem Zex : DD w s₀ mg mb 442 1 ZdN := by
 unfold DD; k_fill
 refine Dof (names := ["_law_m", "_law_r"]) (g := Zkd) ?_
 exact fun _ _ _ _ _ _ _ c _ _ => (Zy (Z3 (ZP vL jI ZaM) (ZC (ZM (J.tup (Zg jI (Zg vL Zq))))) Z6) (ZC (ZM (J.tup (Zg vL (Zg (ZN vL vL Zbp) Zq))))))
theorem ZtX : DD w s₀ mg mb 449 3 ZlS := by
 unfold DD; k_fill
 refine Dof (names := ["_law_script", "_law_k", "_law_number_here", "_law_way"]) (g := ZlR) ?_
 exact fun _ _ _ _ _ _ _ c _ _ => (Zy (ZU sL (cF c law_pick_d (Zg vL (Zg vL (Zg jI Zq))))) (Zy (Z3 (ZP (ZN vL jI Zbp) jI Zcp) (ZC (ZM (J.tup (Zg jI (Zg jI Zq))))) Z6) (Zy (Z3 (ZP (ZN vL jI Zbp) jI ZaM) (ZC (ZM (J.tup (Zg jI (Zg vL Zq))))) Z6) (Zy (Z3 (ZP (ZN vL jI Zbp) jI ZaM) (ZC (ZM (cF c Zex (Zg (ZN (ZN vL jI Zc4) jI Zal) (Zg vL Zq))))) Z6) (ZC (ZM (cF c Zex (Zg (Zaw (nB c) (Zg (cF c Zgd (Zg vL (Zg vL Zq))) Zq) Zd2) (Zg vL Zq)))))))))
theorem ZtY : DD w s₀ mg mb 454 4 ZlV := by
 unfold DD; k_fill
 refine Dof (names := ["_law_script", "_law_k", "_law_boxes", "_law_full", "_law_size", "_law_bounds", "_law_i", "_law_row", "_law_j", "_law_top"]) (g := ZlU) ?_
 exact fun _ _ _ _ _ _ _ c _ _ => (Zy (ZU sL (ZN (J.list (Zg jI Zq)) vC Zal)) (Zy (ZU sC (Zaw (nB c) (Zg vL Zq) ZaX)) (Zy (ZU sL (J.list Zq)) (Zy (Zbl sL (JI.range (nB c) (Zg vC Zq)) (Zy (ZU sL (J.list Zq)) (Zy (Zbl sL (JI.range (nB c) (Zg vC Zq)) (Zy (ZU sL (cF c Ztq (Zg vC (Zg (ZN (ZN vC (ZN vL vC Za7) Zal) vL Zal) Zq)))) (Zy (Z3 (ZP vL jN ZbL) (ZC (ZU sL (ZN (ZN (Zx vL vL) (Zx vL vL) Zbt) vL Zal))) Z6) (ZC (Zd3 (J.append vL vL)))))) (Zy (S1.put jI vL vL) (ZC (Zd3 (J.append vL vL))))))) (ZC (ZM (J.tup (Zg vL (Zg (by refine cO ?_ ?_ ?_; (exact (JI.range (nB c) (Zg (ZN vC jI Zbt) Zq))); (exact fun _ _ => (cF (Zci c) ZtX (Zg vD (Zg (ZN (ZN vD (ZN vD vD Za7) Zal) vO Zal) (Zg (Zx vD vO) Zq))))); (exact fun _ _ => JF.nil)) Zq)))))))))
theorem ZuC : DD w s₀ mg mb 537 3 ZmW := by
 unfold DD; k_fill
 refine Dof (names := ["_law_script", "_law_k", "_law_many", "_law_one", "_law_way", "_law_at", "_law_to", "_law_i"]) (g := ZmV) ?_
 exact fun _ _ _ _ _ _ _ c _ _ => (Zy (ZU sL (ZN (J.list (Zg (cF c Zgd (Zg vL (Zg vL Zq))) Zq)) (ZN (J.list (Zg jI Zq)) vL Za7) Zal)) (Zy (ZU sL (cF c law_pick_d (Zg vL (Zg vL (Zg jI Zq))))) (Zy (Z3 (ZaZ (Zbf (ZP vL jI ZaM) (Zbf (ZP vL jI ZaM) ZcN))) (ZC (ZM vL)) Z6) (Zy (ZU sL (ZN jI (cF c law_pick_d (Zg vL (Zg (ZN vL jI Zal) (Zg vL Zq)))) Zal)) (Zy (Z3 (ZP vL jI ZaM) (ZC (S1.put (ZN (cF c law_pick_d (Zg vL (Zg (ZN vL jI Zal) (Zg jI Zq)))) jI Zbt) vL vL)) Z6) (Zy (Z3 (ZaZ (Zbf (ZP vL jI ZaM) (Zbf (ZP vL jI ZaM) ZcN))) (Zy (ZU sL (ZN jI (cF c law_pick_d (Zg vL (Zg (ZN vL jI Zal) (Zg vL Zq)))) Zal)) (Zy (S1.put jI vL vL) (ZC (S1.put (ZN (Zx vL vL) jI Zbt) vL vL)))) Z6) (Zy (Z3 (ZP vL jI ZaM) (ZC (Zbl sL (JI.range (nB c) (Zg vL Zq)) (ZC (S1.put (ZN (cF c law_pick_d (Zg vL (Zg (ZN (ZN vL jI Zal) vL Zal) (Zg jI Zq)))) jI Zbt) vL (ZN vL jI Zal))))) Z6) (Zy (Z3 (ZP vL jI ZaM) (ZC (Zbl sL (JI.range (nB c) (Zg vL Zq)) (ZC (S1.put (ZN (cF c law_pick_d (Zg vL (Zg (ZN (ZN vL jI Zal) vL Zal) (Zg jI Zq)))) jI Zbt) vL (ZN vL jI Zal))))) Z6) (ZC (ZM vL))))))))))
theorem ZpJ : DD w s₀ mg mb 459 1 Zh5 := by
 unfold DD; k_fill
 refine Dof (names := ["_law_told_here"]) (g := ZlX) ?_
 exact fun _ _ _ _ _ _ _ c _ _ => (Zy (Z3 (ZP vL jN Zbh) (ZC (ZM jN)) Z6) (ZC (ZM (J.tup (Zg (by refine cO ?_ ?_ ?_; (exact (JI.seq (Zx vL jI))); (exact fun _ _ => (Zc3 (nB (Zci c)) (Zg vO Zq) Zdk)); (exact fun _ _ => JF.nil)) (Zg (Zc3 (nB c) (Zg (Zx vL jI) Zq) Zdk) Zq))))))
theorem Zs7 : DD w s₀ mg mb 464 3 ZkH := by
 unfold DD; k_fill
 refine Dof (names := ["_law_script", "_law_k", "_law_told_here", "_law_bounds", "_law_rests", "_law_i", "_law_j", "_law_way", "_law_t", "_law_one"]) (g := ZkG) ?_
 exact fun _ _ _ _ _ _ _ c _ _ => (Zy (by refine sO sL ?_ ?_ ?_; (exact (JI.seq (Zx vL jI))); (exact fun _ _ => (Zc3 (nB (Zci c)) (Zg vO Zq) Zdk)); (exact fun _ _ => JF.nil)) (Zy (ZU sL (Zc3 (nB c) (Zg (Zx vL jI) Zq) Zdk)) (Zy (ZU sL (cF c law_pick_d (Zg vL (Zg vL (Zg (Zaw (nB c) (Zg vL Zq) ZaX) Zq))))) (Zy (ZU sL (cF c law_pick_d (Zg vL (Zg (ZN vL jI Zal) (Zg (Zaw (nB c) (Zg vL Zq) ZaX) Zq))))) (Zy (ZU sL (cF c law_pick_d (Zg vL (Zg (ZN vL jI Zal) (Zg jI Zq))))) (Zy (Z3 (ZaZ (ZaA (ZP vL jI Zcp) (ZaA (ZP vL vL ZbO) (ZaA (ZP (Zx (Zx vL vL) vL) jN Zbh) ZbX)))) (ZC (S1.put (cF c Zgd (Zg vL (Zg (ZN vL jI Zal) Zq))) (Zx vL vL) vL)) (ZC (Z3 (ZaZ (ZaA (ZP vL jI Zcp) (ZaA (ZP vL vL ZbO) ZbX))) (ZC (S1.put (ZN (ZN (Zx (Zx vL vL) vL) jI Zbt) (cF c law_pick_d (Zg vL (Zg (ZN vL jI Zal) (Zg jI Zq)))) Zbt) (Zx vL vL) vL)) (ZC (Z3 (ZP (Zaw (nB c) (Zg vL Zq) ZaX) jI Zds) (Zy (ZU sL (cF c law_pick_d (Zg vL (Zg vL (Zg (Zaw (nB c) (Zg vL Zq) ZaX) Zq))))) (Zy (ZU sL (Zx vL vL)) (ZC (S1.put (cF c Zex (Zg (ZN (Zx vL jI) (ZN jI (ZN vL jI Zbp) Zal) Za7) (Zg (ZN (Zx vL jI) (cF c law_pick_d (Zg vL (Zg (ZN vL jI Zal) (Zg jI Zq)))) Zal) Zq))) vL vL)))) Z6))))) (ZC (ZM (J.tup (Zg vL (Zg vL Zq)))))))))))
theorem ZqB : ∀ n : Nat, Def PySem.Challenge.rw_seer_k45_claims_of_same.row.prog w (head.heap_39 w.params) head.view_39 (looseW head.view_39 []) (ExcName.means s₀.heap) mg mb 19 n (Zfy n)
 | 0 => by intro Γ dp un clr hd hu W ρ H fr s Q E as xs v H' r hx hF post; cases hF
 | n + 1 => by
  have ih := ZqB n
  k_fill
  refine' Zrj (names := ["thing"]) (n := 1) (room := n) (g := ZnQ (Zfy n)) (ho := ?ho) (hcd := ?hcd) (nd := by decide) (hn := by decide) (hbind := ?hb) (hkinds := ?hk) (hone := ?h1) (hco := ?z1) (hgen := ?z2) (hk := ?z3) (hbody := ?hbody)
  case ho => k_is
  case z1 => rfl
  case z2 => rfl
  case z3 => rfl
  case hcd => k_is
  case hb => intro s xs hx; match xs, hx with | [x0], _ => exact BindsTo.of_eq rfl
  case hk => decide
  case h1 => decide +kernel
  case hbody =>
   intro dp un gd L outer h₀ hu clr hd1 hu1
   exact (Zy (Z3 (Zbo (ZdW (nB clr) (nB clr) (.inr (.inr (.inl rfl))) vL)) (ZC (ZM (by refine cO ?_ ?_ ?_; (exact (JI.seq vL)); (exact fun _ _ => (cF (Zci clr) ih (Zg vO Zq))); (exact fun _ _ => JF.nil)))) Z6) (Zy (Z3 (Zbo (ZdW (nB clr) (nB clr) (.inr (.inr (.inr rfl))) vL)) (ZC (ZM (Zc3 (nB clr) (Zg (by refine cO ?_ ?_ ?_; (exact (JI.seq vL)); (exact fun _ _ => (cF (Zci clr) ih (Zg vO Zq))); (exact fun _ _ => JF.nil)) Zq) Zua))) Z6) (ZC (ZM vL))))
theorem Zn4 : Def PySem.Challenge.rw_seer_k45_claims_of_same.row.prog w (head.heap_39 w.params) head.view_39 (looseW head.view_39 []) (ExcName.means s₀.heap) mg mb 19 9 ZgP := ZqB 9
theorem ZtZ : DD w s₀ mg mb 209 1 Zmh := by
 unfold DD; k_fill
 refine Dof (names := ["one", "other"]) (g := Zmg) ?_
 exact fun _ _ _ _ _ _ _ c _ _ => (ZC (ZM (by refine cT ?_ ?_; (exact (JI2.zip (nB c) vL vL)); (exact fun _ _ => (ZN vO vO Zal)))))
theorem ZeC : DD w s₀ mg mb 214 1 ZdR := by
 unfold DD; k_fill
 refine Dof (names := ["one", "k"]) (g := Zlw) ?_
 exact fun _ _ _ _ _ _ _ c _ _ => (ZC (ZM (by refine cO ?_ ?_ ?_; (exact (JI.seq vL)); (exact fun _ _ => (ZN vO vD Za7)); (exact fun _ _ => JF.nil))))
theorem Zmx : DD w s₀ mg mb 221 2 Zgn := by
 unfold DD; k_fill
 refine Dof (names := ["one", "other"]) (g := Zmj) ?_
 exact fun _ _ _ _ _ _ _ c _ _ => (ZC (ZM (cF c ZtZ (Zg vL (Zg (cF c ZeC (Zg vL (Zg (ZbI jI ZbC) Zq))) Zq)))))
theorem Zpo : DD w s₀ mg mb 93 1 ZhO := by
 unfold DD; k_fill
 refine Dof (names := ["one", "other"]) (g := Zle) ?_
 exact fun _ _ _ _ _ _ _ c _ _ => (ZC (ZM (Zx3 (ZcT vL jN Zbh) (Zg4 (ZcT vL jN ZbL) (ZcT vL vL Zjg)))))
theorem ZqC : DD w s₀ mg mb 100 2 Ziw := by
 unfold DD; k_fill
 refine Dof (names := ["one", "other"]) (g := Znp) ?_
 exact fun _ _ _ _ _ _ _ c _ _ => (ZC (ZM (ZeS (Zbo (cF c Zpo (Zg vL (Zg vL Zq)))) vL vL)))
theorem Zmy : DD w s₀ mg mb 107 3 Zgl := by
 unfold DD; k_fill
 refine Dof (names := ["bounds", "i", "j", "bound"]) (g := Zib) ?_
 exact fun _ _ _ _ _ _ _ c _ _ => (ZC (S1.put (cF c ZqC (Zg (Zx (Zx vL vL) vL) (Zg vL Zq))) (Zx vL vL) vL))
theorem Ziu : DD w s₀ mg mb 204 1 Zft := by
 unfold DD; k_fill
 refine Dof (names := ["i", "n"]) (g := ZmY) ?_
 exact fun _ _ _ _ _ _ _ c _ _ => (ZC (ZM (by refine cO ?_ ?_ ?_; (exact (JI.range (nB c) (Zg (ZN vL jI Zal) Zq))); (exact fun _ _ => (ZeS (ZaZ (ZaA (ZP vD jI Zds) (ZaA (ZP vO vD ZaM) ZbX))) jI jI)); (exact fun _ _ => JF.nil))))
theorem Zfn : DD w s₀ mg mb 65 1 Zeg := by
 unfold DD; k_fill
 refine Dof (names := ["one", "other"]) (g := Zl2) ?_
 exact fun _ _ _ _ _ _ _ c _ _ => (Zy (Z3 (ZaZ (Zbf (ZP vL jN Zbh) (Zbf (ZP vL jN Zbh) ZcN))) (ZC (ZM jN)) Z6) (ZC (ZM (ZN vL vL Zal))))
theorem Zr9 : DD w s₀ mg mb 311 1 ZjM := by
 unfold DD; k_fill
 refine Dof (names := ["one"]) (g := ZjL) ?_
 exact fun _ _ _ _ _ _ _ c _ _ => (ZC (ZM (ZcT (Zaw (nB c) (Zg (by refine cO ?_ ?_ ?_; (exact (JI.seq (ZgU vL jI))); (exact fun _ _ => vO); (exact fun _ _ => JF.one (ZP vO jI ZbO))) Zq) Zuh) (J.list (Zg (ZbI jI ZbC) (Zg jI Zq))) ZaM)))
theorem Zsr : DD w s₀ mg mb 58 2 Zj1 := by
 unfold DD; k_fill
 refine Dof (names := ["one", "other"]) (g := Zj0) ?_
 exact fun _ _ _ _ _ _ _ c _ _ => (ZC (ZM (J.tup (Zg (cF c Zfn (Zg (Zx vL jI) (Zg (Zx vL jI) Zq))) (Zg (cF c Zfn (Zg (Zx vL jI) (Zg (Zx vL jI) Zq))) Zq)))))
theorem Zh1 : DD w s₀ mg mb 79 1 Zfe := by
 unfold DD; k_fill
 refine Dof (names := ["end", "k"]) (g := Zlp) ?_
 exact fun _ _ _ _ _ _ _ c _ _ => (Zy (Z3 (ZP vL jN Zbh) (ZC (ZM jN)) Z6) (ZC (ZM (ZN vL vL Za7))))
theorem Zsa : DD w s₀ mg mb 72 2 ZjG := by
 unfold DD; k_fill
 refine Dof (names := ["one", "k", "lo", "hi"]) (g := ZjF) ?_
 exact fun _ _ _ _ _ _ _ c _ _ => (Zy (Z3 (ZP vL jI ZaM) (ZC (ZM (J.tup (Zg jI (Zg jI Zq))))) Z6) (Zy (ZU sL (cF c Zh1 (Zg (Zx vL jI) (Zg vL Zq)))) (Zy (ZU sL (cF c Zh1 (Zg (Zx vL jI) (Zg vL Zq)))) (Zy (Z3 (ZP vL jI Zcp) (ZC (ZM (J.tup (Zg vL (Zg vL Zq))))) Z6) (ZC (ZM (J.tup (Zg vL (Zg vL Zq)))))))))
theorem ZsI : DD w s₀ mg mb 228 3 Zki := by
 unfold DD; k_fill
 refine Dof (names := ["one", "stretches", "whole", "k", "part"]) (g := Zkh) ?_
 exact fun _ _ _ _ _ _ _ c _ _ => (Zy (ZU sL (J.tup (Zg (Zx vL jI) (Zg (Zx vL jI) Zq)))) (Zy (ZiC sL sL (JI2.zip (nB c) (ZgU vL jI) vL) (ZC (ZU sL (cF c Zsr (Zg vL (Zg (cF c Zsa (Zg vL (Zg vL Zq))) Zq)))))) (ZC (ZM vL))))
theorem Zss : DD w s₀ mg mb 299 2 Zj8 := by
 unfold DD; k_fill
 refine Dof (names := ["told", "bounds"]) (g := Zj7) ?_
 exact fun _ _ _ _ _ _ _ c _ _ => (Zy (ZU sC (Zx vL jI)) (ZC (ZM (by refine cO ?_ ?_ ?_; (exact (JI.range (nB c) (Zg jI (Zg (Zaw (nB c) (Zg vC Zq) ZaX) Zq)))); (exact fun _ _ => (J.tup (Zg (cF (Zci c) Zh1 (Zg (Zx (Zx vD jI) vO) (Zg (ZbI jI ZbC) Zq))) (Zg (Zx (Zx vD vO) jI) Zq)))); (exact fun _ _ => JF.nil)))))
theorem Zmz : DD w s₀ mg mb 306 4 Zgm := by
 unfold DD; k_fill
 refine Dof (names := ["told", "one"]) (g := Zmd) ?_
 exact fun _ _ _ _ _ _ _ c _ _ => (Zy (Z3 (Zbo (cF c Zr9 (Zg vL Zq))) (ZC (ZM (cF c Zfn (Zg (Zx (Zx (Zx vL jI) (J.index vL jI jI)) (J.index vL (ZbI jI ZbC) jI)) (Zg (Zx vL jI) Zq))))) Z6) (ZC (ZM (Zx (cF c ZsI (Zg vL (Zg (cF c Zss (Zg vL Zq)) Zq))) jI))))
theorem Zo7 : DD w s₀ mg mb 346 5 ZhG := by
 unfold DD; k_fill
 refine Dof (names := ["told", "part", "one", "top"]) (g := ZkR) ?_
 exact fun _ _ _ _ _ _ _ c _ _ => (ZC (ZM (cF c Zfn (Zg (cF c Zmz (Zg vL (Zg (cF c Zmx (Zg vL (Zg vL Zq))) Zq))) (Zg vL Zq)))))
theorem ZsJ : DD w s₀ mg mb 332 6 Zkt := by
 unfold DD; k_fill
 refine Dof (names := ["bounds", "told", "one", "top", "n", "i", "j", "apart"]) (g := Zhy) ?_
 exact fun _ _ _ _ _ _ _ c _ _ => (Zy (ZU sL (Zaw (nB c) (Zg (Zx vL jI) Zq) ZaX)) (ZC (Zbl sL (JI.range (nB c) (Zg (ZN vL jI Zal) Zq)) (ZC (Zbl sL (JI.range (nB c) (Zg (ZN vL jI Zal) Zq)) (Zy (ZU sL (cF c Zmx (Zg (cF c Ziu (Zg vL (Zg vL Zq))) (Zg (cF c Ziu (Zg vL (Zg vL Zq))) Zq)))) (ZC (Zd3 (cF c Zmy (Zg vL (Zg vL (Zg vL (Zg (cF c Zo7 (Zg vL (Zg vL (Zg vL (Zg vL Zq))))) Zq)))))))))))))
theorem Zo8 : DD w s₀ mg mb 86 1 ZhH := by
 unfold DD; k_fill
 refine Dof (names := ["end", "k"]) (g := ZkT) ?_
 exact fun _ _ _ _ _ _ _ c _ _ => (Zy (Z3 (ZP vL jN Zbh) (ZC (ZM jN)) Z6) (ZC (ZM (ZN vL vL Zc4))))
theorem ZsK : DD w s₀ mg mb 339 6 Zkv := by
 unfold DD; k_fill
 refine Dof (names := ["bounds", "told", "one", "top", "n", "i", "k", "bound"]) (g := ZhA) ?_
 exact fun _ _ _ _ _ _ _ c _ _ => (Zy (ZU sL (Zaw (nB c) (Zg (Zx vL jI) Zq) ZaX)) (ZC (Zbl sL (JI.range (nB c) (Zg jI (Zg (ZN vL jI Zal) Zq))) (Zy (ZU sL (Zx vL vL)) (Zy (ZU sL (cF c Zo7 (Zg vL (Zg (cF c ZeC (Zg (cF c Ziu (Zg vL (Zg vL Zq))) (Zg vL Zq))) (Zg vL (Zg vL Zq)))))) (Zy (Z3 (ZP vL jI Zds) (ZC (Zd3 (cF c Zmy (Zg vL (Zg vL (Zg jI (Zg (cF c Zo8 (Zg vL (Zg vL Zq))) Zq))))))) Z6) (ZC (Z3 (ZP vL jI Zcp) (ZC (Zd3 (cF c Zmy (Zg vL (Zg jI (Zg vL (Zg (cF c Zo8 (Zg vL (Zg (ZbI vL ZbC) Zq))) Zq))))))) Z6))))))))
theorem Zo0 : DD w s₀ mg mb 268 1 Ze8 := by
 unfold DD; k_fill
 refine Dof (names := ["rests"]) (g := Zkk) ?_
 exact fun _ _ _ _ _ _ _ c _ _ => (ZC (ZM (ZN (J.list (Zg (J.tup (Zg jI (Zg jI Zq))) Zq)) vL Zal)))
theorem Zni : DD w s₀ mg mb 136 1 Zgw := by
 unfold DD; k_fill
 refine Dof (names := ["one", "other", "left", "right", "over"]) (g := ZmI) ?_
 exact fun _ _ _ _ _ _ _ c _ _ => (Zy (ZU sL (Zaw (nB c) (Zg vL Zq) Zd2)) (Zy (ZU sL (Zaw (nB c) (Zg vL Zq) Zd2)) (Zy (ZgE 1000000 (ZP vL jI ZbO) (Zy (ZU sL (ZN vL vL Zbp)) (Zy (ZU sL vL) (ZC (ZU sL vL))))) (ZC (ZM vL)))))
theorem Zje : DD w s₀ mg mb 150 1 ZfK := by
 unfold DD; k_fill
 refine Dof (names := ["m", "r"]) (g := Zof) ?_
 exact fun _ _ _ _ _ _ _ c _ _ => (Zy (Z3 (ZP vL jI Zcp) (ZC (ZxW)) Z6) (Zy (Z3 (ZP vL jI ZaM) (ZC (ZM (J.tup (Zg jI (Zg vL Zq))))) Z6) (ZC (ZM (J.tup (Zg vL (Zg (ZN vL vL Zbp) Zq)))))))
theorem ZuD : DD w s₀ mg mb 143 1 ZmM := by
 unfold DD; k_fill
 refine Dof (names := ["one", "by", "left", "right", "left_turns", "right_turns", "part", "over", "over_turns"]) (g := ZmL) ?_
 exact fun _ _ _ _ _ _ _ c _ _ => (Zy (ZU sL (ZN vL vL Zbp)) (Zy (ZU sL vL) (Zy (ZU sL jI) (Zy (ZU sL jI) (Zy (ZgE 1000000 (ZP vL jI ZbO) (Zy (ZU sL (ZN vL vL Zc4)) (Zy (ZU sL (ZN vL (ZN vL vL Za7) Zbt)) (Zy (ZU sL (ZN vL (ZN vL vL Za7) Zbt)) (Zy (ZU sL vL) (Zy (ZU sL vL) (Zy (ZU sL vL) (ZC (ZU sL vL))))))))) (ZC (ZM (ZN vL vL Zbp))))))))
theorem Zgr : DD w s₀ mg mb 157 1 ZeD := by
 unfold DD; k_fill
 refine Dof (names := ["one", "number"]) (g := ZlY) ?_
 exact fun _ _ _ _ _ _ _ c _ _ => (Zy (Z3 (ZP (Zx vL jI) jI ZaM) (ZC (ZM (ZcT vL (Zx vL jI) ZaM))) Z6) (ZC (ZM (ZcT (ZN vL (Zx vL jI) Zbp) (Zx vL jI) ZaM))))
theorem ZpK : DD w s₀ mg mb 171 2 Zh7 := by
 unfold DD; k_fill
 refine Dof (names := ["one", "other", "common", "apart", "width", "turns"]) (g := Zl0) ?_
 exact fun _ _ _ _ _ _ _ c _ _ => (Zy (Z3 (ZP (Zx vL jI) jI ZaM) (ZC (ZM (ZeS (Zbo (cF c Zgr (Zg vL (Zg (Zx vL jI) Zq)))) vL jN))) Z6) (Zy (Z3 (ZP (Zx vL jI) jI ZaM) (ZC (ZM (ZeS (Zbo (cF c Zgr (Zg vL (Zg (Zx vL jI) Zq)))) vL jN))) Z6) (Zy (ZU sL (cF c Zni (Zg (Zx vL jI) (Zg (Zx vL jI) Zq)))) (Zy (ZU sL (ZN (Zx vL jI) (Zx vL jI) Zbt)) (Zy (Z3 (ZP (ZN vL vL Zbp) jI ZbO) (ZC (ZM jN)) Z6) (Zy (ZU sL (ZN (Zx vL jI) vL Zc4)) (Zy (ZU sL (ZN (ZN vL vL Zc4) (cF c ZuD (Zg (ZN (Zx vL jI) vL Zc4) (Zg vL Zq))) Za7)) (ZC (ZM (cF c Zje (Zg (ZN (Zx vL jI) vL Za7) (Zg (ZN (Zx vL jI) (ZN (Zx vL jI) vL Za7) Zal) Zq))))))))))))
theorem ZlL : DD w s₀ mg mb 178 2 Zgg := by
 unfold DD; k_fill
 refine Dof (names := ["one", "other"]) (g := Zlg) ?_
 exact fun _ _ _ _ _ _ _ c _ _ => (ZC (ZM (cF c Zje (Zg (cF c Zni (Zg (Zx vL jI) (Zg (Zx vL jI) Zq))) (Zg (ZN (Zx vL jI) (Zx vL jI) Zal) Zq)))))
theorem Zst : DD w s₀ mg mb 275 3 Zf0 := by
 unfold DD; k_fill
 refine Dof (names := ["bounds", "rests", "i", "met", "j", "other"]) (g := Zj3) ?_
 exact fun _ _ _ _ _ _ _ c _ _ => (Zy (ZU sL (Zx vL vL)) (Zy (ZiC sL sL (Zu0 (nB c) vL) (ZC (Z3 (ZaZ (ZaA (ZP vL jN ZbL) (ZaA (ZP (cF c Zfn (Zg (Zx (Zx vL vL) vL) (Zg (Zx (Zx vL vL) vL) Zq))) jI ZaM) ZbX))) (ZC (ZU sL (cF c ZpK (Zg vL (Zg (cF c ZlL (Zg vL (Zg (J.tup (Zg jI (Zg (Zx (Zx vL vL) vL) Zq))) Zq))) Zq))))) Z6))) (ZC (ZM vL))))
theorem ZsL : DD w s₀ mg mb 261 4 Zec := by
 unfold DD; k_fill
 refine Dof (names := ["told", "rests", "met"]) (g := Zf2) ?_
 exact fun _ _ _ _ _ _ _ c _ _ => (Zy (Z3 (ZP vC jN Zbh) (ZC (ZM jN)) Z6) (Zy (ZU sC (cF c Zo0 (Zg (Zx vC jI) Zq))) (Zy (by refine sO sL ?_ ?_ ?_; (exact (JI.range (nB c) (Zg jI (Zg (Zaw (nB c) (Zg vC Zq) ZaX) Zq)))); (exact fun _ _ => (cF (Zci c) Zst (Zg (Zx vD jI) (Zg vD (Zg vO Zq))))); (exact fun _ _ => JF.nil)) (Zy (Z3 (ZP jN vL ZfP) (ZC (ZM jN)) Z6) (ZC (ZM (J.tup (Zg (Zx vC jI) (Zg vL Zq)))))))))
theorem Zsb : DD w s₀ mg mb 124 3 ZjD := by
 unfold DD; k_fill
 refine Dof (names := ["row", "there", "further"]) (g := ZjC) ?_
 exact fun _ _ _ _ _ _ _ c _ _ => (ZC (ZM (by refine cT ?_ ?_; (exact (JI2.zip (nB c) vL vL)); (exact fun _ _ => (cF (Zci c) ZqC (Zg vO (Zg (cF (Zci c) Zfn (Zg vD (Zg vO Zq))) Zq)))))))
theorem Ztr : DD w s₀ mg mb 119 4 Zlk := by
 unfold DD; k_fill
 refine Dof (names := ["bounds", "mid"]) (g := Zlj) ?_
 exact fun _ _ _ _ _ _ _ c _ _ => (ZC (ZM (by refine cO ?_ ?_ ?_; (exact (JI.seq vC)); (exact fun _ _ => (cF (Zci c) Zsb (Zg vO (Zg (Zx vO vD) (Zg (Zx vD vD) Zq))))); (exact fun _ _ => JF.nil))))
theorem Zsu : DD w s₀ mg mb 129 1 ZjY := by
 unfold DD; k_fill
 refine Dof (names := ["bounds"]) (g := ZjX) ?_
 exact fun _ _ _ _ _ _ _ c _ _ => (ZC (ZM (Zaw (nB c) (Zg (by refine cO ?_ ?_ ?_; (exact (JI.range (nB c) (Zg (Zaw (nB c) (Zg vC Zq) ZaX) Zq))); (exact fun _ _ => (ZcT (Zx (Zx vD vO) vO) jI Zcp)); (exact fun _ _ => JF.nil)) Zq) ZwP)))
theorem Zvt : DD w s₀ mg mb 114 5 Zfx := by
 unfold DD; k_fill
 refine Dof (names := ["bounds", "near", "mid"]) (g := Znr) ?_
 exact fun _ _ _ _ _ _ _ c _ _ => (Zy (ZU sL vL) (Zy (Zbl sL (JI.range (nB c) (Zg (Zaw (nB c) (Zg vL Zq) ZaX) Zq)) (Zy (ZU sL (cF c Ztr (Zg vL (Zg vL Zq)))) (ZC (Z3 (Zbo (cF c Zsu (Zg vL Zq))) (ZC (ZM jN)) Z6)))) (ZC (ZM vL))))
theorem ZxE : DD w s₀ mg mb 256 6 Zen := by
 unfold DD; k_fill
 refine Dof (names := ["told", "bounds"]) (g := Zi7) ?_
 exact fun _ _ _ _ _ _ _ c _ _ => (Zy (Z3 (ZP vL jN Zbh) (ZC (ZM jN)) Z6) (Zy (ZU sL (cF c Zvt (Zg (Zx vL jI) Zq))) (Zy (Z3 (ZP vL jN Zbh) (ZC (ZM jN)) Z6) (ZC (ZM (J.tup (Zg vL (Zg (Zx vL jI) Zq))))))))
theorem ZrJ : DD w s₀ mg mb 249 7 ZfL := by
 unfold DD; k_fill
 refine Dof (names := ["told"]) (g := Zoh) ?_
 exact fun _ _ _ _ _ _ _ c _ _ => (ZC (ZM (cF c ZsL (Zg (cF c ZxE (Zg vL Zq)) Zq))))
theorem Zs8 : DD w s₀ mg mb 199 1 ZkN := by
 unfold DD; k_fill
 refine Dof (names := ["one", "top"]) (g := ZkM) ?_
 exact fun _ _ _ _ _ _ _ c _ _ => (Zy (Z3 (ZP (Zx vL jI) jI ZaM) (ZC (ZM (ZeS (ZP (Zx vL jI) vL Zjg) (Zx vL jI) jN))) Z6) (ZC (ZM (ZN vL (ZN (ZN vL (Zx vL jI) Zbt) (Zx vL jI) Zbp) Zbt))))
theorem Zsc : DD w s₀ mg mb 294 2 ZjJ := by
 unfold DD; k_fill
 refine Dof (names := ["bound", "left"]) (g := ZjI) ?_
 exact fun _ _ _ _ _ _ _ c _ _ => (Zy (Z3 (ZP vL jN ZbL) (ZC (ZM (cF c Zs8 (Zg vL (Zg vL Zq))))) Z6) (Zy (Z3 (ZP (Zx vL jI) jI ZaM) (ZC (ZM (Zx vL jI))) Z6) (ZC (ZM jN))))
theorem Zk7 : DD w s₀ mg mb 185 2 Zf8 := by
 unfold DD; k_fill
 refine Dof (names := ["one", "k"]) (g := ZkJ) ?_
 exact fun _ _ _ _ _ _ _ c _ _ => (ZC (ZM (cF c Zje (Zg (ZN (Zx vL jI) (Zaw (nB c) (Zg vL Zq) Zd2) Za7) (Zg (ZN (Zx vL jI) vL Za7) Zq)))))
theorem ZsM : DD w s₀ mg mb 287 3 Zko := by
 unfold DD; k_fill
 refine Dof (names := ["row", "left", "rests", "new", "bound", "other", "low"]) (g := Zkn) ?_
 exact fun _ _ _ _ _ _ _ c _ _ => (Zy (ZU sL (J.list Zq)) (Zy (ZiC sL sL (JI2.zip (nB c) vL vL) (Zy (ZU sL (cF c Zsc (Zg vL (Zg (cF c ZlL (Zg vL (Zg (cF c Zk7 (Zg vL (Zg (ZbI jI ZbC) Zq))) Zq))) Zq)))) (Zy (Z3 (ZaZ (ZaA (ZP vL jN Zbh) (ZaA (ZP vL jN ZbL) ZbX))) (ZC (ZM jN)) Z6) (ZC (Zd3 (J.append vL vL)))))) (ZC (ZM vL))))
theorem ZuE : DD w s₀ mg mb 280 4 ZmS := by
 unfold DD; k_fill
 refine Dof (names := ["told", "rests", "bounds"]) (g := ZmR) ?_
 exact fun _ _ _ _ _ _ _ c _ _ => (Zy (Z3 (ZP vL jN Zbh) (ZC (ZM jN)) Z6) (Zy (ZU sC (cF c Zo0 (Zg (Zx vL jI) Zq))) (Zy (by refine sT sL ?_ ?_; (exact (JI2.zip (nB c) (Zx vL jI) vC)); (exact fun _ _ => (cF (Zci c) ZsM (Zg vO (Zg vO (Zg vD Zq)))))) (Zy (Z3 (ZP jN vL ZfP) (ZC (ZM jN)) Z6) (ZC (ZM (J.tup (Zg vL (Zg (Zx vL jI) Zq)))))))))
theorem Zrh : DD w s₀ mg mb 242 8 ZiO := by
 unfold DD; k_fill
 refine Dof (names := ["told"]) (g := ZnO) ?_
 exact fun _ _ _ _ _ _ _ c _ _ => (ZC (ZM (cF c ZrJ (Zg (cF c ZuE (Zg (cF c ZrJ (Zg vL Zq)) Zq)) Zq))))
theorem ZuF : DD w s₀ mg mb 51 1 ZmP := by
 unfold DD; k_fill
 refine Dof (names := ["lo", "hi"]) (g := ZmO) ?_
 exact fun _ _ _ _ _ _ _ c _ _ => (ZC (ZM (Zxr (ZcT vL jN ZbL) (Zg4 (ZcT vL jN ZbL) (ZcT vL vL Zds)))))
theorem ZwI : DD w s₀ mg mb 318 5 ZnT := by
 unfold DD; k_fill
 refine Dof (names := ["told", "one"]) (g := ZnS) ?_
 exact fun _ _ _ _ _ _ _ c _ _ => (ZC (ZM (cF c Zh1 (Zg (cF c Zmz (Zg vL (Zg (cF c ZeC (Zg vL (Zg (ZbI jI ZbC) Zq))) Zq))) (Zg (ZbI jI ZbC) Zq)))))
theorem ZgD : DD w s₀ mg mb 325 10 ZeH := by
 unfold DD; k_fill
 refine Dof (names := ["told", "one", "top", "bounds"]) (g := Zm0) ?_
 exact fun _ _ _ _ _ _ _ c _ _ => (Zy (Z3 (ZaZ (Zbf (ZP vL jN Zbh) (Zbf (Zbo (cF c ZuF (Zg (cF c ZwI (Zg vL (Zg vL Zq))) (Zg vL Zq)))) ZcN))) (ZC (ZM jN)) Z6) (Zy (ZU sL (cF c Zn4 (Zg (Zx vL jI) Zq))) (Zy (Zd3 (cF c ZsJ (Zg vL (Zg vL (Zg vL (Zg vL Zq)))))) (Zy (Zd3 (cF c ZsK (Zg vL (Zg vL (Zg vL (Zg vL Zq)))))) (ZC (ZM (cF c Zrh (Zg (J.tup (Zg vL (Zg (Zx vL jI) Zq))) Zq))))))))
theorem Zs9 : DD w s₀ mg mb 360 11 ZkW := by
 unfold DD; k_fill
 refine Dof (names := ["told", "one", "truth"]) (g := ZkV) ?_
 exact fun _ _ _ _ _ _ _ c _ _ => (Zy (Z3 (Zbo vL) (ZC (ZM (cF c ZgD (Zg vL (Zg vL (Zg (ZbI jI ZbC) Zq)))))) Z6) (ZC (ZM (cF c ZgD (Zg vL (Zg (cF c ZeC (Zg vL (Zg (ZbI jI ZbC) Zq))) (Zg jI Zq)))))))
theorem ZoO : DD w s₀ mg mb 192 2 Zhn := by
 unfold DD; k_fill
 refine Dof (names := ["one", "k"]) (g := ZjO) ?_
 exact fun _ _ _ _ _ _ _ c _ _ => (ZC (ZM (cF c Zje (Zg (cF c Zni (Zg (Zx vL jI) (Zg vL Zq))) (Zg (Zx vL jI) Zq)))))
theorem Zii : DD w s₀ mg mb 235 3 Zfh := by
 unfold DD; k_fill
 refine Dof (names := ["one", "rests", "whole", "k", "part"]) (g := Zl7) ?_
 exact fun _ _ _ _ _ _ _ c _ _ => (Zy (ZU sL (J.tup (Zg jI (Zg (Zx vL jI) Zq)))) (Zy (ZiC sL sL (JI2.zip (nB c) (ZgU vL jI) vL) (ZC (ZU sL (cF c ZlL (Zg vL (Zg (cF c Zk7 (Zg vL (Zg vL Zq))) Zq)))))) (ZC (ZM vL))))
theorem ZsN : DD w s₀ mg mb 407 4 Zky := by
 unfold DD; k_fill
 refine Dof (names := ["rests", "one", "d", "i", "k", "left", "others"]) (g := Zkx) ?_
 exact fun _ _ _ _ _ _ _ c _ _ => (Zy (ZU sL (Zx vL vL)) (Zy (ZU sL (Zx vL (ZN vL jI Zbt))) (Zy (Z3 (ZP (Zaw (nB c) (Zg vL Zq) Zd2) jI ZbO) (ZC (ZM vL)) Z6) (Zy (ZU sL (cF c Zmx (Zg vL (Zg (cF c ZeC (Zg (cF c Ziu (Zg vL (Zg (Zaw (nB c) (Zg vL Zq) ZaX) Zq))) (Zg vL Zq))) Zq)))) (ZC (ZM (cF c ZpK (Zg vL (Zg (cF c ZoO (Zg (cF c Zk7 (Zg (cF c Zii (Zg vL (Zg vL Zq))) (Zg (ZbI vL ZbC) Zq))) (Zg vL Zq))) Zq)))))))))
theorem Zpp : DD w s₀ mg mb 400 9 ZhU := by
 unfold DD; k_fill
 refine Dof (names := ["told", "one", "d", "rests"]) (g := ZlB) ?_
 exact fun _ _ _ _ _ _ _ c _ _ => (Zy (Z3 (ZP vC jN Zbh) (ZC (ZM jN)) Z6) (Zy (by refine sO sL ?_ ?_ ?_; (exact (JI.range (nB c) (Zg jI (Zg (Zaw (nB c) (Zg vC Zq) ZaX) Zq)))); (exact fun _ _ => (cF (Zci c) ZsN (Zg (Zx vD jI) (Zg vD (Zg vD (Zg vO Zq)))))); (exact fun _ _ => JF.nil)) (Zy (Z3 (ZP jN vL ZfP) (ZC (ZM jN)) Z6) (ZC (ZM (cF c Zrh (Zg (J.tup (Zg (Zx vC jI) (Zg vL Zq))) Zq)))))))
theorem Zpq : DD w s₀ mg mb 388 10 ZhW := by
 unfold DD; k_fill
 refine Dof (names := ["told", "one", "d"]) (g := ZlC) ?_
 exact fun _ _ _ _ _ _ _ c _ _ => (Zy (Z3 (ZcQ (Zbo (cF c Zgr (Zg (cF c ZoO (Zg (cF c Zii (Zg vL (Zg (Zx vL jI) Zq))) (Zg vL Zq))) (Zg jI Zq))))) (ZC (ZM jN)) Z6) (ZC (ZM (cF c Zpp (Zg vL (Zg vL (Zg vL Zq)))))))
theorem ZsO : DD w s₀ mg mb 164 2 Zkg := by
 unfold DD; k_fill
 refine Dof (names := ["one", "other"]) (g := Zkf) ?_
 exact fun _ _ _ _ _ _ _ c _ _ => (Zy (Z3 (ZP (Zx vL jI) jI ZaM) (ZC (ZM (ZcT vL vL ZaM))) Z6) (ZC (ZM (Zg4 (ZcT (ZN (Zx vL jI) (Zx vL jI) Zbp) jI ZaM) (cF c Zgr (Zg vL (Zg (Zx vL jI) Zq)))))))
theorem Zsd : DD w s₀ mg mb 395 11 ZjR := by
 unfold DD; k_fill
 refine Dof (names := ["told", "one", "d"]) (g := ZjQ) ?_
 exact fun _ _ _ _ _ _ _ c _ _ => (Zy (Z3 (Zbo (cF c ZsO (Zg (cF c Zii (Zg vL (Zg (Zx vL jI) Zq))) (Zg (J.tup (Zg vL (Zg jI Zq))) Zq)))) (ZC (ZM jN)) Z6) (Zy (Z3 (ZP vL jI ZaM) (ZC (ZM (cF c Zpq (Zg vL (Zg (ZN (J.list (Zg (ZN (Zx vL jI) jI Zal) Zq)) (ZgU vL jI) Zal) (Zg jI Zq)))))) Z6) (ZC (ZM (cF c Zn4 (Zg vL Zq))))))
theorem Zts : DD w s₀ mg mb 367 11 ZlF := by
 unfold DD; k_fill
 refine Dof (names := ["told", "one", "held"]) (g := ZlE) ?_
 exact fun _ _ _ _ _ _ _ c _ _ => (Zy (Z3 (ZcQ (Zbo (cF c Zgr (Zg (cF c Zii (Zg vL (Zg (Zx vL jI) Zq))) (Zg jI Zq))))) (ZC (ZM jN)) Z6) (Zy (ZU sL (cF c ZgD (Zg (cF c ZgD (Zg vL (Zg vL (Zg jI Zq)))) (Zg (cF c ZeC (Zg vL (Zg (ZbI jI ZbC) Zq))) (Zg jI Zq))))) (ZC (ZM (cF c Zpp (Zg vL (Zg vL (Zg jI Zq))))))))
theorem ZpL : DD w s₀ mg mb 381 11 Zid := by
 unfold DD; k_fill
 refine Dof (names := ["told", "one"]) (g := Zmm) ?_
 exact fun _ _ _ _ _ _ _ c _ _ => (Zy (Z3 (ZaZ (ZaA (ZP vL jN ZbL) (ZaA (Zbo (cF c Zpo (Zg (cF c Zmz (Zg vL (Zg vL Zq))) (Zg jI Zq)))) ZbX))) (ZC (ZM (cF c ZgD (Zg vL (Zg vL (Zg (ZbI jI ZbC) Zq)))))) Z6) (ZC (ZM vL)))
theorem Zse : DD w s₀ mg mb 374 12 ZjT := by
 unfold DD; k_fill
 refine Dof (names := ["told", "one"]) (g := ZjS) ?_
 exact fun _ _ _ _ _ _ _ c _ _ => (ZC (ZM (cF c Zn4 (Zg (cF c ZpL (Zg (cF c ZpL (Zg vL (Zg vL Zq))) (Zg (cF c ZeC (Zg vL (Zg (ZbI jI ZbC) Zq))) Zq))) Zq))))
theorem ZxF : DD w s₀ mg mb 353 13 Zoj := by
 unfold DD; k_fill
 refine Dof (names := ["told", "claim", "truth"]) (g := Zoi) ?_
 exact fun _ _ _ _ _ _ _ c _ _ => (Zy (Z3 (ZP vL jN Zbh) (ZC (ZM jN)) Z6) (Zy (Z3 (ZP (Zx vL jI) jS ZaM) (ZC (ZM (cF c Zs9 (Zg vL (Zg (Zx vL jI) (Zg vL Zq)))))) Z6) (Zy (Z3 (ZP (Zx vL jI) jS ZaM) (ZC (ZM (ZeS (Zbo vL) (cF c Zts (Zg vL (Zg (Zx vL jI) Zq))) (cF c Zse (Zg vL (Zg (Zx vL jI) Zq)))))) Z6) (ZC (ZM (ZeS (Zbo vL) (cF c Zpq (Zg vL (Zg (Zx vL jI) (Zg (Zx vL jI) Zq)))) (cF c Zsd (Zg vL (Zg (Zx vL jI) (Zg (Zx vL jI) Zq))))))))))
theorem Zhu : DD w s₀ mg mb 542 1 Ze7 := by
 unfold DD; k_fill
 refine Dof (names := ["_law_told_here", "_law_one", "_law_ups", "_law_downs", "_law_ends", "_law_total", "_law_i"]) (g := Zj5) ?_
 exact fun _ _ _ _ _ _ _ c _ _ => (Zy (by refine sO sL ?_ ?_ ?_; (exact (JI.range (nB c) (Zg jI (Zg (Zaw (nB c) (Zg vC Zq) ZaX) Zq)))); (exact fun _ _ => vO); (exact fun _ _ => JF.one (ZP (Zx vD vO) jI Zds))) (Zy (by refine sO sL ?_ ?_ ?_; (exact (JI.range (nB c) (Zg jI (Zg (Zaw (nB c) (Zg vC Zq) ZaX) Zq)))); (exact fun _ _ => vO); (exact fun _ _ => JF.one (ZP (Zx vD vO) jI Zcp))) (Zy (Z3 (ZaZ (ZaA (ZP (Zaw (nB c) (Zg vL Zq) ZaX) jI ZaM) (ZaA (ZP (Zaw (nB c) (Zg vL Zq) ZaX) jI ZaM) (ZaA (ZP (Zx vC (Zx vL jI)) jI ZaM) (ZaA (ZP (Zx vC (Zx vL jI)) (ZbI jI ZbC) ZaM) ZbX))))) (Zy (Z3 (ZP (Zx (Zx (Zx vC jI) (Zx vL jI)) (Zx vL jI)) jN Zbh) (ZC (ZM jN)) Z6) (ZC (ZM (ZN (Zx (Zx (Zx vC jI) (Zx vL jI)) (Zx vL jI)) (Zx vC jI) Zal)))) Z6) (Zy (ZU sL (ZN (by refine cO ?_ ?_ ?_; (exact (JI.seq vL)); (exact fun _ _ => (Zx (Zx (Zx vD jI) vO) jI)); (exact fun _ _ => JF.nil)) (by refine cO ?_ ?_ ?_; (exact (JI.seq vL)); (exact fun _ _ => (Zx (Zx (Zx vD jI) jI) vO)); (exact fun _ _ => JF.nil)) Zal)) (Zy (Z3 (ZP jN vL ZfP) (ZC (ZM jN)) Z6) (Zy (ZU sL (Zx vC jI)) (Zy (Zbl sL (JI.seq vL) (ZC (ZU sL (ZN vL (ZN (Zx vC vL) (Zx (Zx (Zx vC jI) vL) jI) Za7) Zal)))) (Zy (Zbl sL (JI.seq vL) (ZC (ZU sL (ZN vL (ZN (Zx vC vL) (Zx (Zx (Zx vC jI) jI) vL) Za7) Zbt)))) (ZC (ZM vL))))))))))
theorem ZoK : DD w s₀ mg mb 511 1 Zhi := by
 unfold DD; k_fill
 refine Dof (names := ["_law_bounds", "_law_size", "_law_found", "_law_reach", "_law_before", "_law_i", "_law_j", "_law_k", "_law_by"]) (g := Zjz) ?_
 exact fun _ _ _ _ _ _ _ c _ _ => (Zy (ZU sL (Zaw (nB c) (Zg vL Zq) ZaX)) (Zy (by refine sO sL ?_ ?_ ?_; (exact (JI.seq vL)); (exact fun _ _ => (Zc3 (nB (Zci c)) (Zg vO Zq) Zdk)); (exact fun _ _ => JF.nil)) (Zy (ZU sL jI) (Zy (ZgE 1000000 (ZP vL vL Zcp) (Zy (by refine sO sL ?_ ?_ ?_; (exact (JI.seq vL)); (exact fun _ _ => (Zc3 (nB (Zci c)) (Zg vO Zq) Zdk)); (exact fun _ _ => JF.nil)) (Zy (Zbl sL (JI.range (nB c) (Zg vL Zq)) (ZC (Zbl sL (JI.range (nB c) (Zg vL Zq)) (ZC (Zbl sL (JI.range (nB c) (Zg vL Zq)) (ZC (Z3 (ZaZ (ZaA (ZP (Zx (Zx vL vL) vL) jN ZbL) (ZaA (ZP (Zx (Zx vL vL) vL) jN ZbL) ZbX))) (Zy (ZU sL (ZN (Zx (Zx vL vL) vL) (Zx (Zx vL vL) vL) Zal)) (ZC (Z3 (ZaZ (Zbf (ZP (Zx (Zx vL vL) vL) jN Zbh) (Zbf (ZP vL (Zx (Zx vL vL) vL) Zcp) ZcN))) (ZC (S1.put vL (Zx vL vL) vL)) Z6))) Z6))))))) (ZC (ZU sL (ZN jI vL Za7)))))) (Zy (Zbl sL (JI.range (nB c) (Zg vL Zq)) (ZC (Z3 (ZP (Zx (Zx vL vL) vL) jI Zcp) (ZC (ZM jN)) Z6))) (ZC (ZM vL)))))))
theorem Zp4 : DD w s₀ mg mb 506 2 Zin := by
 unfold DD; k_fill
 refine Dof (names := ["_law_one", "_law_other", "_law_high", "_law_low", "_law_now", "_law_then", "_law_times", "_law_over", "_law_apart"]) (g := ZmT) ?_
 exact fun _ _ _ _ _ _ _ c _ _ => (Zy (ZU sL (Zx vL jI)) (Zy (ZU sL (Zx vL jI)) (Zy (ZU sL jI) (Zy (ZU sL jI) (Zy (ZgE 1000000 (ZP vL jI ZbO) (Zy (ZU sL (ZN vL vL Zc4)) (Zy (ZU sL (ZN vL (ZN vL vL Za7) Zbt)) (Zy (ZU sL vL) (Zy (ZU sL vL) (Zy (ZU sL (ZN vL (ZN vL vL Za7) Zbt)) (Zy (ZU sL vL) (ZC (ZU sL vL))))))))) (Zy (ZU sL (ZN (Zx vL jI) (Zx vL jI) Zbt)) (Zy (Z3 (ZP vL jI ZaM) (Zy (Z3 (ZP vL jI ZbO) (ZC (ZM jN)) Z6) (ZC (ZM vL))) Z6) (Zy (Z3 (ZP (ZN vL vL Zbp) jI ZbO) (ZC (ZM jN)) Z6) (ZC (ZM (cF c Zex (Zg (ZN (ZN (Zx vL jI) vL Zc4) (Zx vL jI) Za7) (Zg (ZN (Zx vL jI) (ZN (ZN (Zx vL jI) vL Za7) (ZN vL vL Zc4) Za7) Zal) Zq)))))))))))))
theorem Zo9 : DD w s₀ mg mb 518 3 ZhF := by
 unfold DD; k_fill
 refine Dof (names := ["_law_bounds", "_law_rests", "_law_full", "_law_new", "_law_i", "_law_j", "_law_gap"]) (g := ZkP) ?_
 exact fun _ _ _ _ _ _ _ c _ _ => (Zy (ZU sL (ZN (J.list (Zg (J.tup (Zg jI (Zg jI Zq))) Zq)) vL Zal)) (Zy (ZU sL (ZN (J.list (Zg (J.tup (Zg jI (Zg jI Zq))) Zq)) vL Zal)) (Zy (Zbl sL (JI.range (nB c) (Zg jI (Zg (Zaw (nB c) (Zg vL Zq) ZaX) Zq))) (ZC (Zbl sL (JI.range (nB c) (Zg (Zaw (nB c) (Zg vL Zq) ZaX) Zq)) (Zy (ZU sL (Zx (Zx vL vL) vL)) (ZC (Z3 (ZaZ (ZaA (ZP vL vL ZbO) (ZaA (ZP vL jN ZbL) (ZaA (ZP (Zx (Zx vL vL) vL) (ZbI vL ZbC) ZaM) (ZaA (ZP (Zx vL vL) jN ZbL) ZbX))))) (ZC (S1.put (cF c Zp4 (Zg (Zx vL vL) (Zg (cF c Zex (Zg (Zx (Zx vL vL) jI) (Zg (ZN (Zx (Zx vL vL) jI) vL Zal) Zq))) Zq))) vL vL)) Z6)))))) (Zy (Z3 (ZP jN vL ZfP) (ZC (ZM jN)) Z6) (ZC (ZM (ZgU vL jI)))))))
theorem Znj : DD w s₀ mg mb 499 1 Zgv := by
 unfold DD; k_fill
 refine Dof (names := ["_law_one", "_law_other", "_law_over"]) (g := ZmF) ?_
 exact fun _ _ _ _ _ _ _ c _ _ => (Zy (ZU sL (Zaw (nB c) (Zg vL Zq) Zd2)) (Zy (ZU sL (Zaw (nB c) (Zg vL Zq) Zd2)) (Zy (ZgE 1000000 (ZP vL jI ZbO) (Zy (ZU sL (ZN vL vL Zbp)) (Zy (ZU sL vL) (ZC (ZU sL vL))))) (ZC (ZM vL)))))
theorem ZsP : DD w s₀ mg mb 523 2 Zkr := by
 unfold DD; k_fill
 refine Dof (names := ["_law_bounds", "_law_rests", "_law_full", "_law_new", "_law_i", "_law_j", "_law_m", "_law_r", "_law_top"]) (g := Zkq) ?_
 exact fun _ _ _ _ _ _ _ c _ _ => (Zy (ZU sL (ZN (J.list (Zg (J.tup (Zg jI (Zg jI Zq))) Zq)) vL Zal)) (Zy (by refine sO sL ?_ ?_ ?_; (exact (JI.seq vL)); (exact fun _ _ => (Zc3 (nB (Zci c)) (Zg vO Zq) Zdk)); (exact fun _ _ => JF.nil)) (Zy (Zbl sL (JI.range (nB c) (Zg (Zaw (nB c) (Zg vL Zq) ZaX) Zq)) (ZC (Zbl sL (JI.range (nB c) (Zg (Zaw (nB c) (Zg vL Zq) ZaX) Zq)) (Zy (ZU sL (cF c Znj (Zg (Zx (Zx vL vL) jI) (Zg (Zx (Zx vL vL) jI) Zq)))) (Zy (ZU sL (ZN (Zx (Zx vL vL) jI) (Zx (Zx vL vL) jI) Zbt)) (Zy (ZU sL (Zx (Zx vL vL) vL)) (ZC (Z3 (ZaZ (ZaA (ZP vL vL ZbO) (ZaA (ZP vL jI ZaM) ZbX))) (Zy (Z3 (ZaZ (ZaA (ZP vL jN ZbL) (ZaA (ZP vL vL Zcp) ZbX))) (ZC (ZM jN)) Z6) (ZC (S1.put vL (Zx vL vL) vL))) (ZC (Z3 (ZaZ (ZaA (ZP vL vL ZbO) (ZaA (ZP vL jN ZbL) ZbX))) (ZC (S1.put (ZN vL (ZN (ZN vL vL Zbt) vL Zbp) Zbt) (Zx vL vL) vL)) Z6)))))))))) (ZC (ZM vL)))))
theorem Zpr : DD w s₀ mg mb 530 4 ZhR := by
 unfold DD; k_fill
 refine Dof (names := ["_law_told_here", "_law_bounds", "_law_rests"]) (g := Zlr) ?_
 exact fun _ _ _ _ _ _ _ c _ _ => (Zy (Z3 (ZP vL jN Zbh) (ZC (ZM jN)) Z6) (Zy (ZU sL (cF c ZoK (Zg (Zx vL jI) Zq))) (Zy (Z3 (ZP vL jN Zbh) (ZC (ZM jN)) Z6) (Zy (ZU sL (cF c Zo9 (Zg vL (Zg (Zx vL jI) Zq)))) (Zy (Z3 (ZP vL jN Zbh) (ZC (ZM jN)) Z6) (Zy (ZU sL (cF c ZsP (Zg vL (Zg vL Zq)))) (Zy (Z3 (ZP vL jN Zbh) (ZC (ZM jN)) Z6) (Zy (ZU sL (cF c ZoK (Zg vL Zq))) (Zy (Z3 (ZP vL jN Zbh) (ZC (ZM jN)) Z6) (Zy (ZU sL (cF c Zo9 (Zg vL (Zg vL Zq)))) (Zy (Z3 (ZP vL jN Zbh) (ZC (ZM jN)) Z6) (ZC (ZM (J.tup (Zg vL (Zg vL Zq))))))))))))))))
theorem Zij : DD w s₀ mg mb 561 1 Zfl := by
 unfold DD; k_fill
 refine Dof (names := ["_law_one", "_law_i", "_law_k", "_law_new"]) (g := Zmn) ?_
 exact fun _ _ _ _ _ _ _ c _ _ => (Zy (ZU sL (Zc3 (nB c) (Zg vL Zq) Zdk)) (Zy (Z3 (ZP vL jI Zds) (ZC (S1.put (ZN (Zx vL vL) vL Zal) vL vL)) Z6) (ZC (ZM vL))))
theorem Zk8 : DD w s₀ mg mb 568 1 Zgc := by
 unfold DD; k_fill
 refine Dof (names := ["_law_one", "_law_other"]) (g := ZkX) ?_
 exact fun _ _ _ _ _ _ _ c _ _ => (Zy (Z3 (ZP vL jN Zbh) (ZC (ZM vL)) Z6) (Zy (Z3 (ZP vL jN Zbh) (ZC (ZM vL)) Z6) (ZC (ZM (Zaw (nB c) (Zg vL (Zg vL Zq)) Zvv)))))
theorem ZkD : DD w s₀ mg mb 573 5 Zf5 := by
 unfold DD; k_fill
 refine Dof (names := ["_law_told_here", "_law_one", "_law_top", "_law_away", "_law_most", "_law_bounds", "_law_i", "_law_j"]) (g := ZkA) ?_
 exact fun _ _ _ _ _ _ _ c _ _ => (Zy (Z3 (ZP vL jN Zbh) (ZC (ZM jN)) Z6) (Zy (by refine sO sL ?_ ?_ ?_; (exact (JI.seq vL)); (exact fun _ _ => (ZbI vO ZbC)); (exact fun _ _ => JF.nil)) (Zy (ZU sL (cF c Zhu (Zg vL (Zg vL Zq)))) (Zy (Z3 (ZaZ (ZaA (ZP vL jN ZbL) (ZaA (ZP (ZbI vL ZbC) vL Zds) ZbX))) (ZC (ZM jN)) Z6) (Zy (by refine sO sL ?_ ?_ ?_; (exact (JI.seq (Zx vL jI))); (exact fun _ _ => (Zc3 (nB (Zci c)) (Zg vO Zq) Zdk)); (exact fun _ _ => JF.nil)) (Zy (Zbl sL (JI.range (nB c) (Zg (Zaw (nB c) (Zg vL Zq) ZaX) Zq)) (ZC (Zbl sL (JI.range (nB c) (Zg (Zaw (nB c) (Zg vL Zq) ZaX) Zq)) (Zy (ZU sL (cF c Zhu (Zg vL (Zg (cF c Zij (Zg (cF c Zij (Zg vL (Zg vL (Zg jI Zq)))) (Zg vL (Zg (ZbI jI ZbC) Zq)))) Zq)))) (ZC (Z3 (ZaZ (ZaA (ZP vL vL ZbO) (ZaA (ZP vL jN ZbL) ZbX))) (ZC (S1.put (cF c Zk8 (Zg (Zx (Zx vL vL) vL) (Zg (ZN vL vL Zal) Zq))) (Zx vL vL) vL)) Z6)))))) (Zy (Zbl sL (JI.range (nB c) (Zg jI (Zg (Zaw (nB c) (Zg vL Zq) ZaX) Zq))) (Zy (ZU sL (cF c Zhu (Zg vL (Zg (cF c Zij (Zg vL (Zg vL (Zg (Zx vL vL) Zq)))) Zq)))) (Zy (Z3 (ZaZ (ZaA (ZP (Zx vL vL) jI Zds) (ZaA (ZP vL jN ZbL) ZbX))) (ZC (S1.put (cF c Zk8 (Zg (Zx (Zx vL vL) jI) (Zg (ZN (ZN vL vL Zal) (Zx vL vL) Zc4) Zq))) (Zx vL vL) jI)) Z6) (ZC (Z3 (ZaZ (ZaA (ZP (Zx vL vL) jI Zcp) (ZaA (ZP vL jN ZbL) ZbX))) (ZC (S1.put (cF c Zk8 (Zg (Zx (Zx vL jI) vL) (Zg (ZN (ZN vL vL Zal) (Zaw (nB c) (Zg (Zx vL vL) Zq) Zd2) Zc4) Zq))) (Zx vL jI) vL)) Z6))))) (ZC (ZM (cF c Zpr (Zg (J.tup (Zg vL (Zg (Zx vL jI) Zq))) Zq)))))))))))
theorem ZoU : DD w s₀ mg mb 549 2 Zht := by
 unfold DD; k_fill
 refine Dof (names := ["_law_one", "_law_rests", "_law_m", "_law_r", "_law_i"]) (g := Zka) ?_
 exact fun _ _ _ _ _ _ _ c _ _ => (Zy (ZU sL jI) (Zy (ZU sL (Zx vL jI)) (Zy (Zbl sL (JI.range (nB c) (Zg (Zaw (nB c) (Zg vL Zq) ZaX) Zq)) (Zy (ZU sL (cF c Znj (Zg vL (Zg (ZN (Zx vL (ZN vL jI Zal)) (Zx (Zx vL vL) jI) Za7) Zq)))) (ZC (ZU sL (ZN vL (ZN (Zx vL (ZN vL jI Zal)) (Zx (Zx vL vL) jI) Za7) Zal))))) (ZC (ZM (cF c Zex (Zg vL (Zg vL Zq))))))))
theorem Zt0 : DD w s₀ mg mb 580 5 Zmq := by
 unfold DD; k_fill
 refine Dof (names := ["_law_told_here", "_law_one", "_law_step", "_law_rests", "_law_i", "_law_k", "_law_pair"]) (g := Zmp) ?_
 exact fun _ _ _ _ _ _ _ c _ _ => (Zy (ZU sL (Zc3 (nB c) (Zg (Zx vL jI) Zq) Zdk)) (Zy (Zbl sL (JI.range (nB c) (Zg jI (Zg (Zaw (nB c) (Zg vL Zq) ZaX) Zq))) (Zy (ZU sL (Zx vL vL)) (ZC (Z3 (ZaZ (Zbf (ZP vL jI ZaM) (Zbf (ZP vL (ZbI jI ZbC) ZaM) ZcN))) (Zy (ZU sL (cF c ZoU (Zg (cF c Zij (Zg vL (Zg vL (Zg (ZbI vL ZbC) Zq)))) (Zg (Zx vL jI) Zq)))) (Zy (ZU sL (cF c Zex (Zg (cF c Znj (Zg (Zx vL jI) (Zg vL Zq))) (Zg (ZN (ZbI vL ZbC) (Zx vL jI) Za7) Zq)))) (ZC (S1.put (cF c Zp4 (Zg (Zx vL (ZN vL jI Zbt)) (Zg vL Zq))) vL (ZN vL jI Zbt))))) Z6)))) (Zy (Z3 (ZP jN vL ZfP) (ZC (ZM jN)) Z6) (ZC (ZM (cF c Zpr (Zg (J.tup (Zg (Zx vL jI) (Zg vL Zq))) Zq)))))))
theorem Zsf : DD w s₀ mg mb 585 6 ZjW := by
 unfold DD; k_fill
 refine Dof (names := ["_law_told_here", "_law_one", "_law_held"]) (g := ZjV) ?_
 exact fun _ _ _ _ _ _ _ c _ _ => (Zy (Z3 (ZP (Zx (cF c ZoU (Zg vL (Zg (Zx vL jI) Zq))) jI) jI ZbO) (ZC (ZM jN)) Z6) (Zy (ZU sL (cF c ZkD (Zg (cF c ZkD (Zg vL (Zg vL (Zg jI Zq)))) (Zg (by refine cO ?_ ?_ ?_; (exact (JI.seq vL)); (exact fun _ _ => (ZbI vO ZbC)); (exact fun _ _ => JF.nil)) (Zg jI Zq))))) (Zy (Z3 (ZP vL jN Zbh) (ZC (ZM jN)) Z6) (ZC (ZM (cF c Zt0 (Zg vL (Zg vL (Zg jI Zq)))))))))
theorem Zta : DD w s₀ mg mb 590 6 Zk1 := by
 unfold DD; k_fill
 refine Dof (names := ["_law_told_here", "_law_one", "_law_each", "_law_most"]) (g := Zk0) ?_
 exact fun _ _ _ _ _ _ _ c _ _ => (Zy (Zbl sL (JI.seq (J.list (Zg vL (Zg (by refine cO ?_ ?_ ?_; (exact (JI.seq vL)); (exact fun _ _ => (ZbI vO ZbC)); (exact fun _ _ => JF.nil)) Zq)))) (ZC (Z3 (ZP vL jN ZbL) (Zy (ZU sL (cF c Zhu (Zg vL (Zg vL Zq)))) (ZC (Z3 (ZaZ (ZaA (ZP vL jN ZbL) (ZaA (ZP vL jI Zjg) ZbX))) (ZC (ZU sL (cF c ZkD (Zg vL (Zg vL (Zg (ZbI jI ZbC) Zq)))))) Z6))) Z6))) (ZC (ZM vL)))
theorem ZlM : DD w s₀ mg mb 471 1 Zgh := by
 unfold DD; k_fill
 refine Dof (names := ["_law_thing"]) (g := Zlm) ?_
 exact fun _ _ _ _ _ _ _ c _ _ => (ZC (ZM (Zg4 (ZdW (nB c) (nB c) (.inl rfl) vL) (ZxG (ZdW (nB c) (nB c) (.inr (.inl rfl)) vL)))))
theorem Zt1 : DD w s₀ mg mb 478 2 Zl5 := by
 unfold DD; k_fill
 refine Dof (names := ["_law_thing", "_law_size", "_law_i", "_law_top"]) (g := Zl4) ?_
 exact fun _ _ _ _ _ _ _ c _ _ => (Zy (Z3 (ZaZ (Zbf (ZcQ (Zbo (ZdW (nB c) (nB c) (.inr (.inr (.inl rfl))) vL))) (Zbf (ZP (Zaw (nB c) (Zg vL Zq) ZaX) vL ZbO) ZcN))) (ZC (ZM jB)) Z6) (Zy (Zbl sL (JI.range (nB c) (Zg vL Zq)) (Zy (Z3 (ZaZ (Zbf (ZcQ (Zbo (ZdW (nB c) (nB c) (.inr (.inr (.inl rfl))) (Zx vL vL)))) (Zbf (ZP (Zaw (nB c) (Zg (Zx vL vL) Zq) ZaX) vL ZbO) ZcN))) (ZC (ZM jB)) Z6) (Zy (Zbl sL (JI.seq (Zx vL vL)) (ZC (Z3 (ZaZ (ZaA (ZP vL jN ZbL) (ZaA (ZcQ (Zbo (cF c ZlM (Zg vL Zq)))) ZbX))) (ZC (ZM jB)) Z6))) (ZC (Z3 (ZP (Zx (Zx vL vL) vL) jI ZbO) (ZC (ZM jB)) Z6))))) (ZC (ZM jB))))
theorem Ztt : DD w s₀ mg mb 485 3 Zlu := by
 unfold DD; k_fill
 refine Dof (names := ["_law_thing", "_law_many", "_law_pair"]) (g := Zlt) ?_
 exact fun _ _ _ _ _ _ _ c _ _ => (Zy (Z3 (ZaZ (Zbf (ZcQ (Zbo (ZdW (nB c) (nB c) (.inr (.inr (.inr rfl))) vL))) (Zbf (ZP (Zaw (nB c) (Zg vL Zq) ZaX) jI ZbO) (Zbf (ZcQ (Zbo (cF c Zt1 (Zg (Zx vL jI) (Zg (ZN vL jI Zal) Zq))))) ZcN)))) (ZC (ZM jB)) Z6) (Zy (Z3 (ZaZ (Zbf (ZcQ (Zbo (ZdW (nB c) (nB c) (.inr (.inr (.inl rfl))) (Zx vL jI)))) (Zbf (ZP (Zaw (nB c) (Zg (Zx vL jI) Zq) ZaX) vL ZbO) ZcN))) (ZC (ZM jB)) Z6) (Zy (Zbl sL (JI.seq (Zx vL jI)) (Zy (Z3 (ZaZ (Zbf (ZcQ (Zbo (ZdW (nB c) (nB c) (.inr (.inr (.inr rfl))) vL))) (Zbf (ZP (Zaw (nB c) (Zg vL Zq) ZaX) jI ZbO) ZcN))) (ZC (ZM jB)) Z6) (Zy (Z3 (ZaZ (Zbf (ZcQ (Zbo (cF c ZlM (Zg (Zx vL jI) Zq)))) (Zbf (ZcQ (Zbo (cF c ZlM (Zg (Zx vL jI) Zq)))) ZcN))) (ZC (ZM jB)) Z6) (ZC (Z3 (ZaZ (Zbf (ZP (Zx vL jI) jI Zcp) (Zbf (ZaZ (ZaA (ZP (Zx vL jI) jI Zds) (ZaA (ZcQ (Zu3 jI (Zx vL jI) (Zx vL jI) Zjg Zcp)) ZbX))) ZcN))) (ZC (ZM jB)) Z6))))) (ZC (ZM jB)))))
theorem Zt2 : DD w s₀ mg mb 492 4 Zma := by
 unfold DD; k_fill
 refine Dof (names := ["_law_found", "_law_due"]) (g := Zl9) ?_
 exact fun _ _ _ _ _ _ _ c _ _ => (Zy (Z3 (ZP vL jN Zbh) (ZC (ZM (ZcT vL jN Zbh))) Z6) (ZC (ZM (Zg4 (cF c Ztt (Zg vL (Zg (Zaw (nB c) (Zg (Zx vL jI) Zq) ZaX) Zq))) (ZcT vL vL ZaM)))))
theorem Ztu : DD w s₀ mg mb 554 1 Zlz := by
 unfold DD; k_fill
 refine Dof (names := ["_law_one", "_law_boxes"]) (g := Zly) ?_
 exact fun _ _ _ _ _ _ _ c _ _ => (ZC (ZM (ZN (Zx vC jI) (Zaw (nB c) (Zg (by refine cO ?_ ?_ ?_; (exact (JI.range (nB c) (Zg (Zaw (nB c) (Zg vC Zq) ZaX) Zq))); (exact fun _ _ => (ZN (Zx vD (ZN vO jI Zal)) (Zx vD vO) Za7)); (exact fun _ _ => JF.nil)) Zq) ZwJ) Zal)))
end
end L
end
section
open PySem PySem.W PySem.Calls PyProof.Rows PM
open L
theorem PySem.Challenge.cw_seer_k45_claims_of_same_holds : PySem.Challenge.rw_seer_k45_claims_of_same.Holds :=
 head (by
  w_strict (k_go0; (rename Well _ _ _ _ => w9); (rename Frag.In _ _ => kx9); (rename Top _ _ _ _ _ _ => t9); (rename Fr _ _ _ _ => f9); (rename News _ _ _ _ => n9); (rename CellsAre _ _ _ => x9); (rename (PyData.layable0 _ = true) => hl9); (obtain ⟨H9, e9⟩ := L.Zs6 (by omega) hl9); (refine' PM.ZvB (names := ["_law_script", "_law_many", "_law_boxes", "_law_told_here", "_law_one", "_law_claim", "_law_way", "_law_kept", "_law_truth", "_law_due", "_law_found"]) (g := Znu) (room := 13) ?hb ?h1 ?h2 ?h3 ?h4 kx9 t9 w9 ?len f9 n9 x9 e9 ?post); (case h1 => decide); (case h2 => decide); (case h3 => rfl); (case h4 => rfl); (case len => (rw [PM.Zbn]; omega)); (case hb => (intro dp un gd L a ccd outer h₀ hu clr hd1 hu1; exact (Zy (ZU sL (Zx (J.list (Zg jI (Zg jI (Zg jI (Zg jI (Zg jI (Zg jI (Zg jI (Zg jI (Zg jI Zq)))))))))) (cF clr law_pick_d (Zg vC (Zg jI (Zg jI Zq)))))) (Zy (by refine sO sL ?_ ?_ ?_; (exact (JI.range (nB clr) (Zg vL Zq))); (exact fun _ _ => (cF (Zci clr) Zgd (Zg vD (Zg (ZN jI vO Zal) Zq)))); (exact fun _ _ => JF.nil)) (Zy (ZU sL (cF clr ZtY (Zg vC (Zg jI (Zg vL Zq))))) (Zy (ZU sL (cF clr ZuC (Zg vC (Zg jI (Zg vL Zq))))) (Zy (Z3 (ZP (cF clr law_pick_d (Zg vC (Zg jI (Zg jI Zq)))) jI Zds) (ZC (S1.put (ZN (ZN (ZN (Zx vL jI) (cF clr Ztu (Zg vL (Zg vL Zq))) Zbt) (cF clr law_pick_d (Zg vC (Zg jI (Zg jI Zq)))) Zal) jI Zbt) vL jI)) Z6) (Zy (ZU sL (J.tup (Zg jS (Zg (Zc3 (nB clr) (Zg vL Zq) Zdk) Zq)))) (Zy (ZU sL (cF clr law_pick_d (Zg vC (Zg jI (Zg jI Zq))))) (Zy (Z3 (ZP (ZN vL jI Zbp) jI ZaM) (ZC (ZU sL (cF clr Zs7 (Zg vC (Zg jI (Zg vL Zq)))))) Z6) (Zy (Z3 (ZP (ZN vL jI Zbp) jI ZaM) (ZC (ZU sL jN)) Z6) (Zy (ZU sL (cF clr ZpJ (Zg vL Zq))) (Zy (Zbl sL (JI.seq (J.list (Zg jB (Zg jB Zq)))) (Zy (ZU sL jN) (Zy (Z3 (ZaZ (ZaA (ZP vL jN ZbL) (ZaA (Zbo vL) ZbX))) (ZC (ZU sL (cF clr Zsf (Zg vL (Zg vL Zq))))) Z6) (Zy (Z3 (ZaZ (ZaA (ZP vL jN ZbL) (ZaA (ZcQ (Zbo vL)) ZbX))) (ZC (ZU sL (cF clr ZpJ (Zg (cF clr Zta (Zg vL (Zg vL Zq))) Zq)))) Z6) (Zy (ZU sL (cF clr ZxF (Zg vL (Zg vL (Zg vL Zq))))) (Zy (Z3 (ZaZ (Zbf (ZP (Zx vL jI) vL ZbO) (Zbf (ZcQ (Zbo (cF clr Zt2 (Zg vL (Zg vL Zq))))) ZcN))) (ZC (ZM jB)) Z6) (Zy (Z3 (ZP vL jN ZbL) (Zy (S1.put jI (Zx (Zx vL jI) jI) jI) (ZC (Zd3 (J.append (Zx vL jI) (J.tup (Zg jI (Zg jI Zq))))))) Z6) (ZC (Z3 (ZP vL vL ZbO) (ZC (ZM jB)) Z6))))))))) (ZC (ZM jB))))))))))))))); (case post => (intro h' tk' m' F'; k_steps)))
  )
end
