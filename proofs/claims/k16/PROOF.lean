import PyProof.Rows.All
import Wide.All
import OpenK.AllK
import Wide.FinOn
import PySem.Challenge.RW_seer_k16_runs_cut
import PyProof.Rows.News
import PyProof.Rows.Nodes
import PyProof.Rows.Chain
import PyProof.Rows.TupSub
import ObjForm.Fk.ObjNew
import ObjForm.Fk.InstLoad
import PyProof.PureInt
import PyProof.Rules2
import PyProof.Rules3
import PyProof.Rows.Globals
import PyProof.Rows.RuleB_mod
import PyProof.Rows.RuleB_floordiv
import PyProof.Rows.RuleB_small
import PyProof.NoPylong
import PyProof.Rows.RuleB_pow
import PyProof.Rows.EqDataRows
import PyProof.Rows.StrTemp
import PyProof.Rows.TupAdd
import PyProof.Rows.ListMul
import PyProof.ListIndexNeg
import PyProof.SliceList
import PyProof.Methods
import PyProof.Rows.Tup
import PyProof.IsiPairs
import PyProof.IsiHeapPairs
import PyProof.IsiNone
import PyProof.Rows.RuleN_abs
import PyProof.Rows.SumAny
import PyProof.WalkInts
import PyProof.PvWalk
import PyProof.RulesRaise
import PyProof.Raises
import PyProof.Dict
import PyProof.Seq
import PyProof.Rows.ListAppend
import PyProof.ForAppend
import PyProof.ForAny
import PyProof.Walks
import PyProof.WalksT
import KE.KItem
import PyProof.WalksMore
import PyProof.RangeFor
import PyProof.Rows.Range3
import OpenK.KCell
import KE.KTree
import KE.RegLcTurns
import KE.KCompFold
import KE.KLcPair
import KE.LcTurns
import PyProof.CompUse
import PyProof.Rows.ZipGen
import OpenK.KLine
import KE.KState
import Wide.Well
import PyProof.ListCopy
import PyProof.Rows.TupleOfSeqD
import KE.LcSums
import KE.KCellOne
import PyProof.FitsBits
import KE.KEqDeep
import PyProof.Rows.TupMore
import PyProof.Rows.NestLooks
import PyProof.EnumMake
import PyProof.WalksEnum
import PyProof.ListRange
import PyProof.LongRange
import KE.KRevIter
import OpenK.KWalk
import OpenK.KMake
import PyProof.AssignAttr
import PyProof.Rows.AttrNodeAny
import PyProof.Draws
import PyProof.Rows.CallKwBuiltin
import PyProof.Rows.SortWalk
import PyProof.DictStraight
import PyProof.EqAt
import PyProof.Rows.SeqMore2
import KE.KSortTup
import PyProof.WalksPairs
import KE.KAnyBase
import PyProof.Rows.SeqSlice
import PyProof.Rows.SetFrom
import PyProof.FactsAll.set_1
import PyProof.FactsAll.set_2
import PyProof.Conv_int_bool
import PyProof.FactsAll.list_4
import KE.KTryDeep
import KE.KIsAll
import KE.RegKIsAll
import PyProof.Rows.CatchPack
namespace My
end My
set_option linter.all false
set_option maxRecDepth 100000
set_option maxHeartbeats 8000000
theorem Zx0{α:Type _}{a:α}{P:Prop}(h:none=some a):P:=by cases h
noncomputable abbrev Zy0:=@List.getElem?_append_left
noncomputable abbrev Zy1:=@List.getElem?_eq_getElem
noncomputable abbrev Zy2:=@List.getElem?_set_ne
noncomputable abbrev Zy3:=@List.mem_cons_of_mem
noncomputable abbrev Zy4:=@List.mem_of_getElem?
noncomputable abbrev Zy5:=@List.getElem?_append_right
noncomputable abbrev Zy6:=@List.getElem?_set_self
noncomputable abbrev Zy7:=@List.mem_append_left
noncomputable abbrev Zy8:=@List.getElem?_eq_none
noncomputable abbrev Zy9:=@List.mem_filter
noncomputable abbrev Zy10:=@List.append_assoc
theorem Zs0{α β:Type _}(a:α)(f:α→Option β):(some a).bind f=f a:=rfl
theorem Zs1{α β:Type _}(a:α)(f:α→β):(some a).map f=some (f a):=rfl
noncomputable abbrev Zz0:=@Option.bind_eq_some_iff
noncomputable abbrev Zz1:=@Option.map_eq_some_iff
noncomputable abbrev Zz2:=@List.mem_cons_of_mem
noncomputable abbrev Zz3:=@List.mem_append_right
noncomputable abbrev Zz4:=@List.mem_append_left
noncomputable abbrev Zz5:=@List.mem_cons_self
noncomputable abbrev Zz6:=@List.getElem?_eq_some_iff
noncomputable abbrev Zz7:=@List.mem_cons
noncomputable abbrev Zz8:=@List.mem_append
noncomputable abbrev Zz9:=@List.mem_singleton
noncomputable abbrev Zz10:=@Nat.le_refl
noncomputable abbrev Zz11:=@List.mem_map
set_option Elab.async false
set_option compiler.extract_closed false
theorem Q02{P A B:Prop}(f:A→B→P):(A∧B)→P:=fun h=>f h.1 h.2
theorem Q11{α:Sort _}{A:α→Prop}{P:Prop}(f:∀x,A x→P):(∃x,A x)→P:=fun h=>h.elim f
theorem Q03{P A B C:Prop}(f:A→B→C→P):(A∧B∧C)→P:=fun h=>f h.1 h.2.1 h.2.2
theorem Q12{α:Sort _}{A B:α→Prop}{P:Prop}(f:∀x,A x→B x→P):(∃x,A x∧B x)→P:=fun h=>h.elim fun x h=>f x h.1 h.2
theorem Q21{α β:Sort _}{A:α→β→Prop}{P:Prop}(f:∀x y,A x y→P):(∃x y,A x y)→P:=fun h=>h.elim fun x h=>h.elim fun y h=>f x y h
theorem Q04{P A B C D:Prop}(f:A→B→C→D→P):(A∧B∧C∧D)→P:=fun h=>f h.1 h.2.1 h.2.2.1 h.2.2.2
theorem Q13{α:Sort _}{A B C:α→Prop}{P:Prop}(f:∀x,A x→B x→C x→P):(∃x,A x∧B x∧C x)→P:=fun h=>h.elim fun x h=>f x h.1 h.2.1 h.2.2
theorem Q22{α β:Sort _}{A B:α→β→Prop}{P:Prop}(f:∀x y,A x y→B x y→P):(∃x y,A x y∧B x y)→P:=fun h=>h.elim fun x h=>h.elim fun y h=>f x y h.1 h.2
theorem Q31{α β γ:Sort _}{A:α→β→γ→Prop}{P:Prop}(f:∀x y z,A x y z→P):(∃x y z,A x y z)→P:=fun h=>h.elim fun x h=>h.elim fun y h=>h.elim fun z h=>f x y z h
theorem Q05{P A B C D E:Prop}(f:A→B→C→D→E→P):(A∧B∧C∧D∧E)→P:=fun h=>f h.1 h.2.1 h.2.2.1 h.2.2.2.1 h.2.2.2.2
theorem Q14{α:Sort _}{A B C D:α→Prop}{P:Prop}(f:∀x,A x→B x→C x→D x→P):(∃x,A x∧B x∧C x∧D x)→P:=fun h=>h.elim fun x h=>f x h.1 h.2.1 h.2.2.1 h.2.2.2
theorem Q23{α β:Sort _}{A B C:α→β→Prop}{P:Prop}(f:∀x y,A x y→B x y→C x y→P):(∃x y,A x y∧B x y∧C x y)→P:=fun h=>h.elim fun x h=>h.elim fun y h=>f x y h.1 h.2.1 h.2.2
theorem Q32{α β γ:Sort _}{A B:α→β→γ→Prop}{P:Prop}(f:∀x y z,A x y z→B x y z→P):(∃x y z,A x y z∧B x y z)→P:=fun h=>h.elim fun x h=>h.elim fun y h=>h.elim fun z h=>f x y z h.1 h.2
theorem Q41{α β γ δ:Sort _}{A:α→β→γ→δ→Prop}{P:Prop}(f:∀x y z u,A x y z u→P):(∃x y z u,A x y z u)→P:=fun h=>h.elim fun x h=>h.elim fun y h=>h.elim fun z h=>h.elim fun u h=>f x y z u h
theorem Q06{P A B C D E F:Prop}(f:A→B→C→D→E→F→P):(A∧B∧C∧D∧E∧F)→P:=fun h=>f h.1 h.2.1 h.2.2.1 h.2.2.2.1 h.2.2.2.2.1 h.2.2.2.2.2
theorem Q15{α:Sort _}{A B C D E:α→Prop}{P:Prop}(f:∀x,A x→B x→C x→D x→E x→P):(∃x,A x∧B x∧C x∧D x∧E x)→P:=fun h=>h.elim fun x h=>f x h.1 h.2.1 h.2.2.1 h.2.2.2.1 h.2.2.2.2
theorem Q24{α β:Sort _}{A B C D:α→β→Prop}{P:Prop}(f:∀x y,A x y→B x y→C x y→D x y→P):(∃x y,A x y∧B x y∧C x y∧D x y)→P:=fun h=>h.elim fun x h=>h.elim fun y h=>f x y h.1 h.2.1 h.2.2.1 h.2.2.2
theorem Q33{α β γ:Sort _}{A B C:α→β→γ→Prop}{P:Prop}(f:∀x y z,A x y z→B x y z→C x y z→P):(∃x y z,A x y z∧B x y z∧C x y z)→P:=fun h=>h.elim fun x h=>h.elim fun y h=>h.elim fun z h=>f x y z h.1 h.2.1 h.2.2
theorem Q42{α β γ δ:Sort _}{A B:α→β→γ→δ→Prop}{P:Prop}(f:∀x y z u,A x y z u→B x y z u→P):(∃x y z u,A x y z u∧B x y z u)→P:=fun h=>h.elim fun x h=>h.elim fun y h=>h.elim fun z h=>h.elim fun u h=>f x y z u h.1 h.2
theorem Q51{α β γ δ ε:Sort _}{A:α→β→γ→δ→ε→Prop}{P:Prop}(f:∀x y z u v,A x y z u v→P):(∃x y z u v,A x y z u v)→P:=fun h=>h.elim fun x h=>h.elim fun y h=>h.elim fun z h=>h.elim fun u h=>h.elim fun v h=>f x y z u v h
theorem Q07{P A B C D E F G:Prop}(f:A→B→C→D→E→F→G→P):(A∧B∧C∧D∧E∧F∧G)→P:=fun h=>f h.1 h.2.1 h.2.2.1 h.2.2.2.1 h.2.2.2.2.1 h.2.2.2.2.2.1 h.2.2.2.2.2.2
theorem Q16{α:Sort _}{A B C D E F:α→Prop}{P:Prop}(f:∀x,A x→B x→C x→D x→E x→F x→P):(∃x,A x∧B x∧C x∧D x∧E x∧F x)→P:=fun h=>h.elim fun x h=>f x h.1 h.2.1 h.2.2.1 h.2.2.2.1 h.2.2.2.2.1 h.2.2.2.2.2
theorem Q25{α β:Sort _}{A B C D E:α→β→Prop}{P:Prop}(f:∀x y,A x y→B x y→C x y→D x y→E x y→P):(∃x y,A x y∧B x y∧C x y∧D x y∧E x y)→P:=fun h=>h.elim fun x h=>h.elim fun y h=>f x y h.1 h.2.1 h.2.2.1 h.2.2.2.1 h.2.2.2.2
theorem Q34{α β γ:Sort _}{A B C D:α→β→γ→Prop}{P:Prop}(f:∀x y z,A x y z→B x y z→C x y z→D x y z→P):(∃x y z,A x y z∧B x y z∧C x y z∧D x y z)→P:=fun h=>h.elim fun x h=>h.elim fun y h=>h.elim fun z h=>f x y z h.1 h.2.1 h.2.2.1 h.2.2.2
theorem Q43{α β γ δ:Sort _}{A B C:α→β→γ→δ→Prop}{P:Prop}(f:∀x y z u,A x y z u→B x y z u→C x y z u→P):(∃x y z u,A x y z u∧B x y z u∧C x y z u)→P:=fun h=>h.elim fun x h=>h.elim fun y h=>h.elim fun z h=>h.elim fun u h=>f x y z u h.1 h.2.1 h.2.2
theorem Q52{α β γ δ ε:Sort _}{A B:α→β→γ→δ→ε→Prop}{P:Prop}(f:∀x y z u v,A x y z u v→B x y z u v→P):(∃x y z u v,A x y z u v∧B x y z u v)→P:=fun h=>h.elim fun x h=>h.elim fun y h=>h.elim fun z h=>h.elim fun u h=>h.elim fun v h=>f x y z u v h.1 h.2
theorem Q61{α β γ δ ε ζ:Sort _}{A:α→β→γ→δ→ε→ζ→Prop}{P:Prop}(f:∀x y z u v w,A x y z u v w→P):(∃x y z u v w,A x y z u v w)→P:=fun h=>h.elim fun x h=>h.elim fun y h=>h.elim fun z h=>h.elim fun u h=>h.elim fun v h=>h.elim fun w h=>f x y z u v w h
theorem Q08{P A B C D E F G H:Prop}(f:A→B→C→D→E→F→G→H→P):(A∧B∧C∧D∧E∧F∧G∧H)→P:=fun h=>f h.1 h.2.1 h.2.2.1 h.2.2.2.1 h.2.2.2.2.1 h.2.2.2.2.2.1 h.2.2.2.2.2.2.1 h.2.2.2.2.2.2.2
theorem Q17{α:Sort _}{A B C D E F G:α→Prop}{P:Prop}(f:∀x,A x→B x→C x→D x→E x→F x→G x→P):(∃x,A x∧B x∧C x∧D x∧E x∧F x∧G x)→P:=fun h=>h.elim fun x h=>f x h.1 h.2.1 h.2.2.1 h.2.2.2.1 h.2.2.2.2.1 h.2.2.2.2.2.1 h.2.2.2.2.2.2
theorem Q26{α β:Sort _}{A B C D E F:α→β→Prop}{P:Prop}(f:∀x y,A x y→B x y→C x y→D x y→E x y→F x y→P):(∃x y,A x y∧B x y∧C x y∧D x y∧E x y∧F x y)→P:=fun h=>h.elim fun x h=>h.elim fun y h=>f x y h.1 h.2.1 h.2.2.1 h.2.2.2.1 h.2.2.2.2.1 h.2.2.2.2.2
theorem Q35{α β γ:Sort _}{A B C D E:α→β→γ→Prop}{P:Prop}(f:∀x y z,A x y z→B x y z→C x y z→D x y z→E x y z→P):(∃x y z,A x y z∧B x y z∧C x y z∧D x y z∧E x y z)→P:=fun h=>h.elim fun x h=>h.elim fun y h=>h.elim fun z h=>f x y z h.1 h.2.1 h.2.2.1 h.2.2.2.1 h.2.2.2.2
theorem Q44{α β γ δ:Sort _}{A B C D:α→β→γ→δ→Prop}{P:Prop}(f:∀x y z u,A x y z u→B x y z u→C x y z u→D x y z u→P):(∃x y z u,A x y z u∧B x y z u∧C x y z u∧D x y z u)→P:=fun h=>h.elim fun x h=>h.elim fun y h=>h.elim fun z h=>h.elim fun u h=>f x y z u h.1 h.2.1 h.2.2.1 h.2.2.2
theorem Q53{α β γ δ ε:Sort _}{A B C:α→β→γ→δ→ε→Prop}{P:Prop}(f:∀x y z u v,A x y z u v→B x y z u v→C x y z u v→P):(∃x y z u v,A x y z u v∧B x y z u v∧C x y z u v)→P:=fun h=>h.elim fun x h=>h.elim fun y h=>h.elim fun z h=>h.elim fun u h=>h.elim fun v h=>f x y z u v h.1 h.2.1 h.2.2
theorem Q62{α β γ δ ε ζ:Sort _}{A B:α→β→γ→δ→ε→ζ→Prop}{P:Prop}(f:∀x y z u v w,A x y z u v w→B x y z u v w→P):(∃x y z u v w,A x y z u v w∧B x y z u v w)→P:=fun h=>h.elim fun x h=>h.elim fun y h=>h.elim fun z h=>h.elim fun u h=>h.elim fun v h=>h.elim fun w h=>f x y z u v w h.1 h.2
theorem Q71{α β γ δ ε ζ η:Sort _}{A:α→β→γ→δ→ε→ζ→η→Prop}{P:Prop}(f:∀x y z u v w s,A x y z u v w s→P):(∃x y z u v w s,A x y z u v w s)→P:=fun h=>h.elim fun x h=>h.elim fun y h=>h.elim fun z h=>h.elim fun u h=>h.elim fun v h=>h.elim fun w h=>h.elim fun s h=>f x y z u v w s h
local macro_rules|`(tactic|obtain⟨$ps,*⟩:=$t)=>do
 let ps:=ps.getElems
 let n:=ps.size
 if n<2 then Lean.Macro.throwUnsupported
 let mut bs:Array Lean.Term:= #[]
 let mut qs:Array (Array (Lean.TSyntax `tactic)):= #[]
 for p in ps do
  let r:=p.raw[0]
  let c:=r[0][0]
  if r[0].getNumArgs>1 then Lean.Macro.throwUnsupported
  if c.isOfKind ``Lean.Parser.Tactic.rcasesPat.one&&c[0].getId != `rfl then
   bs:=bs.push ⟨c[0]⟩
   qs:=qs.push #[]
  else if c.isOfKind ``Lean.Parser.Tactic.rcasesPat.ignore then
   bs:=bs.push (← `(_))
   qs:=qs.push #[]
  else
   let q:=Lean.mkIdent (← Lean.Macro.addMacroScope (.mkSimple s!"q{bs.size}"))
   bs:=bs.push q
   qs:=qs.push #[← `(tactic|obtain $(⟨r⟩):rcasesPatMed:= $q)]
 let mut r:Array (Lean.TSyntax `tactic):= #[]
 for d in [0:n] do
  let j:=n-d
  let mut b:Array Lean.Term:= #[]
  let mut s:Array (Lean.TSyntax `tactic):= #[]
  for i in [0:j] do
   if s.isEmpty then b:=b.push bs[i]! else s:=s.push (← `(tactic|intro $(bs[i]!):term))
   s:=s++qs[i]!
  if j=n&&n<9 then
   for k in [0:n] do
    let f:=Lean.mkIdent (.mkSimple s!"Q{k}{n-k}")
    r:=r.push (← `(tactic|(refine $f fun $b* =>?_;($[$s:tactic];*))))
  if j<n&&j<8 then
   let z:=ps.extract j n
   for k in [0:j+1] do
    let f:=Lean.mkIdent (.mkSimple s!"Q{k}{j+1-k}")
    r:=r.push (← `(tactic|(refine $f fun $b* =>?_;($[$s:tactic];*);intro q;obtain⟨$z,*⟩:=q)))
 let u:Lean.TSyntax `tactic← (if t.raw.isIdent then let i:Lean.Ident:=⟨t⟩;`(tactic|revert $i:ident) else `(tactic|(have q:= $t;revert q)))
 `(tactic|($u:tactic;first $[|$r:tactic]*))
section
/-! The plain machine: values as trees, lists as places; and how it stands for the model's heap. -/
namespace PM
open PySem PyProof.Rows
inductive V where
 | none
 | bool (b:Bool)
 | int (i:Int)
 | str (s:Str)
 | tup (vs:List V)
 | ref (a:Nat)
 | obj (c:Nat×List Str) (a:Nat)
noncomputable abbrev Hp:=List (List V)
noncomputable abbrev Lc:=Nat→Option V
noncomputable def ZM: Nat:=100000
theorem Zab: ZM=100000:=rfl
theorem Zb2{n:Nat}(h:n≤ZM): n≤sizeLine:=by
 have:sizeLine=2 ^ 24:=rfl
 rw[this];rw[Zab]at h;omega
noncomputable abbrev Zde(xs:List Value)(k:Nat): Obj:={ cls:=.type "tuple",data:=.seq xs.toArray k }
noncomputable abbrev Za2(xs:List Value)(k:Nat): Obj:={ cls:=.type "list",data:=.seq xs.toArray k }
structure Wd where
 pi:List Addr
 tups:List (Addr×Obj)
 sc:Addr×Obj
 ins:List (Nat×List Str)
structure Wd.Le(W W':Wd): Prop where
 pi:W.pi <+: W'.pi
 tups:∀q∈W.tups,q∈W'.tups
 sc:W'.sc=W.sc
 ins:∀q∈W.ins,q∈W'.ins
 inew:∀q∈W'.ins,q∈W.ins∨W.pi.length≤q.1
theorem Wd.Le.refl(W:Wd): W.Le W:=⟨List.prefix_refl _,fun _ h=>h,rfl,fun _ h=>h,fun _ h=>.inl h⟩
theorem Wd.Le.trans{W W' W'':Wd}(a:W.Le W')(b:W'.Le W''): W.Le W'':=⟨a.pi.trans b.pi,fun q h=>b.tups q (a.tups q h),b.sc.trans a.sc,fun q h=>b.ins q (a.ins q h),fun q h=>by
 rcases b.inew q h with z | z
 ·exact a.inew q z
 ·exact .inr (Nat.le_trans a.pi.length_le z)⟩
noncomputable def Wd.At(W:Wd)(i:Nat)(a:Addr): Prop:=W.pi[i]?=some a∧∀q∈W.ins,q.1≠i
noncomputable def ZiV(o:Obj)(C dx:Addr): Prop:=o = { cls:=.ref C,dict:=some dx,data:=.plain }
inductive FE: List Str→List Value→List DictEntry→Prop where
 | nil {fs:List Str}:FE fs [] []
 | cons {f:Str} {fs:List Str} {x:Value} {xs:List Value} {hs:Int} {t:Tok} {es:List DictEntry}:FE fs xs es→FE (f::fs) (x::xs) (⟨hs,.str f t,x⟩::es)
noncomputable def Zlj(o:Obj)(fs:List Str)(xs:List Value): Prop:=∃es n,o = { cls:=.type "dict",data:=.dict es.toArray n }∧FE fs xs es
theorem Wd.Le.piAt{W W':Wd}(h:W.Le W'){i:Nat}{a:Addr}(e:W.pi[i]?=some a): W'.pi[i]?=some a:=by
 obtain⟨t,ht⟩:=h.pi
 have hi:i<W.pi.length:=(Zz6.mp e).1
 rw[←ht,Zy0 hi]
 exact e
theorem Wd.Le.at{W W':Wd}(h:W.Le W'){i:Nat}{a:Addr}(e:W.At i a): W'.At i a:=⟨h.piAt e.1,fun q hq z=>by
 rcases h.inew q hq with y | y
 ·exact e.2 q y z
 ·have:=(Zz6.mp e.1).1
  omega⟩
mutual
inductive VR(W:Wd): V→Value→Prop where
 | none:VR W .none .none
 | bool (b:Bool):VR W (.bool b) (.bool b)
 | int (i:Int) (t:Tok):VR W (.int i) (.int i t)
 | str (s:Str) (t:Tok):VR W (.str s) (.str s t)
 | tup {vs:List V} {a:Addr} {xs:List Value} {k:Nat}:(a,Zde xs k)∈W.tups→vs.length≤ZM→VRs W vs xs→VR W (.tup vs) (.ref a)
 | ref {i:Nat} {a:Addr}:W.At i a→VR W (.ref i) (.ref a)
 | obj {c:Nat×List Str} {i:Nat} {a x:Addr} {ox:Obj}:W.pi[i]?=some a→(i,c.2)∈W.ins→(x,ox)∈W.tups→ZiV ox c.1 a→VR W (.obj c i) (.ref x)
inductive VRs(W:Wd): List V→List Value→Prop where
 | nil:VRs W [] []
 | cons {v:V} {x:Value} {vs:List V} {xs:List Value}:VR W v x→VRs W vs xs→VRs W (v::vs) (x::xs)
end
mutual
theorem VR.mono{W W':Wd}(h:W.Le W'){v:V}{x:Value}(r:VR W v x): VR W' v x:=by
 cases r with
 | none=>exact .none
 | bool b=>exact .bool b
 | int i t=>exact .int i t
 | str s t=>exact .str s t
 | tup hm hl hs=>exact .tup (h.tups _ hm) hl (VRs.mono h hs)
 | ref e=>exact .ref (h.at e)
 | obj h1 h2 h3 h4=>exact .obj (h.piAt h1) (h.ins _ h2) (h.tups _ h3) h4
theorem VRs.mono{W W':Wd}(h:W.Le W'){vs:List V}{xs:List Value}(r:VRs W vs xs): VRs W' vs xs:=by
 cases r with
 | nil=>exact .nil
 | cons a b=>exact .cons (VR.mono h a) (VRs.mono h b)
end
theorem VRs.length{W:Wd}: ∀{vs:List V} {xs:List Value},VRs W vs xs→xs.length=vs.length
 | _,_,.nil=>rfl
 | _,_,.cons _ r=>by rw[List.length_cons,List.length_cons,r.length]
theorem VRs.at{W:Wd}: ∀{vs:List V} {xs:List Value} {i:Nat} {v:V},VRs W vs xs→vs[i]?=some v→∃x,xs[i]?=some x∧VR W v x
 | _,_,_,_,.nil,e=>by simp at e
 | _,_,0,_,.cons a _,e=>by
  simp at e
  exact⟨_,by simp,e▸a⟩
 | _,_,i+1,_,.cons _ r,e=>by
  simp at e
  obtain⟨x,hx,hr⟩:=r.at e
  exact⟨x,by simpa using hx,hr⟩
theorem VRs.append{W:Wd}: ∀{vs us:List V} {xs ys:List Value},VRs W vs xs→VRs W us ys→VRs W (vs++us) (xs++ys)
 | _,_,_,_,.nil,h=>h
 | _,_,_,_,.cons a r,h=>.cons a (r.append h)
theorem VRs.snoc{W:Wd}{vs:List V}{xs:List Value}{v:V}{x:Value}(h:VRs W vs xs)(r:VR W v x): VRs W (vs++[v]) (xs++[x]):=h.append (.cons r .nil)
theorem VRs.set{W:Wd}: ∀{vs:List V} {xs:List Value} {v:V} {x:Value} (i:Nat),VRs W vs xs→VR W v x→VRs W (vs.set i v) (xs.set i x)
 | _,_,_,_,_,.nil,_=>.nil
 | _,_,_,_,0,.cons _ r,h=>.cons h r
 | _,_,_,_,i+1,.cons a r,h=>.cons a (r.set i h)
theorem VRs.drop{W:Wd}: ∀{vs:List V} {xs:List Value} (i:Nat),VRs W vs xs→VRs W (vs.drop i) (xs.drop i)
 | _,_,0,h=>h
 | _,_,_+1,.nil=>.nil
 | _,_,i+1,.cons _ r=>r.drop i
structure HR(W:Wd)(H:Hp)(led:List (Addr×Obj)): Prop where
 len:W.pi.length=H.length
 nd:W.pi.Nodup
 lists:∀(i:Nat) (vs:List V),H[i]?=some vs→(∀q∈W.ins,q.1≠i)→vs.length≤ZM∧∃a xs k,W.pi[i]?=some a∧(a,Za2 xs k)∈led∧VRs W vs xs
 tups:∀q∈W.tups,q∈led
 kind:∀q∈W.tups,(∃xs k,q.2=Zde xs k)∨∃C dx,ZiV q.2 C dx
 objs:∀(i:Nat) (vs:List V) (fs:List Str),H[i]?=some vs→(i,fs)∈W.ins→vs.length≤fs.length∧∃a od xs,W.pi[i]?=some a∧(a,od)∈led∧Zlj od fs xs∧VRs W vs xs
 inlt:∀q∈W.ins,q.1<H.length
 iuni:∀q∈W.ins,∀r∈W.ins,q.1=r.1→q=r
theorem HR.mono{W:Wd}{H:Hp}{led led':List (Addr×Obj)}(R:HR W H led)(h:∀q∈led,q∈led'): HR W H led':=
 ⟨R.len,R.nd,fun i vs e ni=>by
  obtain⟨l,a,xs,k,h1,h2,h3⟩:=R.lists i vs e ni
  exact⟨l,a,xs,k,h1,h _ h2,h3⟩,fun q hq=>h q (R.tups q hq),R.kind,fun i vs fs e hi=>by
  obtain⟨l,a,od,xs,h1,h2,h3⟩:=R.objs i vs fs e hi
  exact⟨l,a,od,xs,h1,h _ h2,h3⟩,R.inlt,R.iuni⟩
theorem HR.any{W:Wd}{H:Hp}{led:List (Addr×Obj)}(R:HR W H led){i:Nat}{vs:List V}(e:H[i]?=some vs): ∃a o,W.pi[i]?=some a∧(a,o)∈led∧(o.cls=.type "list"∨o.cls=.type "dict"):=by
 by_cases ni:∀q∈W.ins,q.1≠i
 ·obtain⟨_,a,xs,k,h1,h2,_⟩:=R.lists i vs e ni
  exact⟨a,_,h1,h2,.inl rfl⟩
 ·obtain⟨⟨j,fs⟩,hq⟩:=Classical.not_forall.mp ni
  obtain⟨hq',z⟩:=Classical.not_imp.mp hq
  have z:j=i:=Classical.not_not.mp z
  rw[z]at hq'
  obtain⟨_,a,od,xs,h1,h2,h3,_⟩:=R.objs i vs fs e hq'
  obtain⟨es,n,eo,_⟩:=h3
  exact⟨a,od,h1,h2,.inr (by rw[eo])⟩
theorem ZjZ{o:Obj}(k:(∃xs k,o=Zde xs k)∨∃C dx,ZiV o C dx): o.cls≠.type "list"∧o.cls≠.type "dict":=by
 rcases k with⟨xs,k,e⟩ | ⟨C,dx,e⟩
 ·rw[e];exact⟨by simp,by simp⟩
 ·rw[show o=_ from e];exact⟨by simp,by simp⟩
structure Cx where
 A:Around
 env:Env
 h₀:Heap
 L:Addr
 hh:A.handled=none
 hu:A.units+200<cLine
 Own:Wd→Lc→(Str→Option Value)→List (Addr×Obj)→Prop
 mono:∀{W W':Wd} {ρ:Lc} {m:Str→Option Value} {c:List (Addr×Obj)},W.Le W'→Own W ρ m c→Own W' ρ m c
structure Rep'(Γ:Cx)(W:Wd)(ρ:Lc)(H:Hp)(fr:List (Addr×Obj))(h:Heap)(m:Str→Option Value)(cells led:List (Addr×Obj)): Prop where
 F:Fr Γ.h₀ Γ.L h m
 N:News Γ.h₀ Γ.L h led
 R:HR W H (W.sc::led)
 sc:Γ.h₀.get? W.sc.1=some W.sc.2
 sc0:W.pi[0]?=some W.sc.1
 frIn:∀q∈fr,q∈led
 frOff:∀q∈fr,q.1∉W.pi
 clIn:∀q∈cells,q∈led
 clOff:∀q∈cells,q.1∉W.pi
 apart:∀q∈cells,∀r∈fr,q.1≠r.1
 frTup:∀q∈fr,∀t∈W.tups,q.1≠t.1
 clTup:∀q∈cells,∀t∈W.tups,q.1≠t.1
 own:Γ.Own W ρ m cells
noncomputable def Rep(Γ:Cx)(W:Wd)(ρ:Lc)(H:Hp)(fr:List (Addr×Obj))(h:Heap): Prop:=∃m cells led,Rep' Γ W ρ H fr h m cells led
theorem Rep.grown{Γ:Cx}{W:Wd}{ρ:Lc}{H:Hp}{fr:List (Addr×Obj)}{h h':Heap}(r:Rep Γ W ρ H fr h)(up:∀b o,h.get? b=some o→h'.get? b=some o): Rep Γ W ρ H fr h':=by
 obtain⟨m,c,led,r⟩:=r
 refine⟨m,c,led,⟨⟨?_,fun b o e=>up b o (r.F.keep b o e),r.F.above⟩,fun q hq=>⟨up _ _ (r.N q hq).1,(r.N q hq).2⟩,r.R,r.sc,r.sc0,r.frIn,r.frOff,r.clIn,r.clOff,r.apart,r.frTup,r.clTup,r.own⟩⟩
 obtain⟨o,es,ep,h1,h2⟩:=r.F.ns
 exact⟨o,es,ep,up _ _ h1,h2⟩
theorem Rep.push{Γ:Cx}{W:Wd}{ρ:Lc}{H:Hp}{fr:List (Addr×Obj)}{h:Heap}(r:Rep Γ W ρ H fr h)(o:Obj): Rep Γ W ρ H fr (h.push o):=r.grown fun _ _ e=>Heap.get?_push_of_some _ e
theorem Zbf{q s:Addr×Obj}{l l':List (Addr×Obj)}(h:q∈s::l)(m:q∈l→q∈l'): q∈s::l':=by
 rcases Zz7.mp h with e | h
 ·exact e▸List.mem_cons_self
 ·exact Zz2 _ (m h)
theorem ZcA{q s:Addr×Obj}{l l':List (Addr×Obj)}(h:q∈s::l)(m:∀x∈l,x∈l'): q∈s::l':=by
 rcases Zz7.mp h with e | h
 ·exact e▸List.mem_cons_self
 ·exact Zz2 _ (m q h)
theorem Rep'.get{Γ:Cx}{W:Wd}{ρ:Lc}{H:Hp}{fr:List (Addr×Obj)}{h:Heap}{m:Str→Option Value}{c led:List (Addr×Obj)}(r:Rep' Γ W ρ H fr h m c led){q:Addr×Obj}(hq:q∈W.sc::led): h.get? q.1=some q.2:=by
 rcases Zz7.mp hq with e | hq
 ·rw[e]
  exact r.F.keep _ _ r.sc
 ·exact(r.N q hq).1
theorem Rep'.off{Γ:Cx}{W:Wd}{ρ:Lc}{H:Hp}{fr:List (Addr×Obj)}{h:Heap}{m:Str→Option Value}{c led:List (Addr×Obj)}(r:Rep' Γ W ρ H fr h m c led): ∀q∈W.sc::led,q.1≠h.objs.size:=fun q hq=>Nat.ne_of_lt (Heap.lt_size (r.get hq))
theorem Rep'.piIn{Γ:Cx}{W:Wd}{ρ:Lc}{H:Hp}{fr:List (Addr×Obj)}{h:Heap}{m:Str→Option Value}{c led:List (Addr×Obj)}(r:Rep' Γ W ρ H fr h m c led): ∀a∈W.pi,∃o,(a,o)∈W.sc::led:=by
 intro a ha
 obtain⟨i,hi,e⟩:=List.getElem_of_mem ha
 have hi':i<H.length:=r.R.len▸hi
 obtain⟨b,o,h1,h2,_⟩:=r.R.any (Zy1 hi')
 have:b=a:=by rw[Zy1 hi,e]at h1;exact(Option.some.inj h1).symm
 exact⟨_,this▸h2⟩
theorem Rep'.inLed{Γ:Cx}{W:Wd}{ρ:Lc}{H:Hp}{fr:List (Addr×Obj)}{h:Heap}{m:Str→Option Value}{c led:List (Addr×Obj)}(r:Rep' Γ W ρ H fr h m c led){i:Nat}{a:Addr}{o:Obj}(hi:i≠0)(ea:W.pi[i]?=some a)(hm:(a,o)∈W.sc::led): (a,o)∈led:=by
 rcases Zz7.mp hm with e | hm
 ·have e1:a=W.sc.1:=congrArg (·.1) e
  have hl:i<W.pi.length:=(Zz6.mp ea).1
  have:i=0:=(List.getElem?_inj hl r.R.nd).mp (by rw[ea,r.sc0,e1])
  exact absurd this hi
 ·exact hm
theorem Rep'.notSc{Γ:Cx}{W:Wd}{ρ:Lc}{H:Hp}{fr:List (Addr×Obj)}{h:Heap}{m:Str→Option Value}{c led:List (Addr×Obj)}(r:Rep' Γ W ρ H fr h m c led): ∀q∈led,q.1≠W.sc.1:=fun q hq e=>by
 have:=(r.N q hq).2.2
 rw[e,r.sc]at this
 cases this
theorem Rep'.newTup{Γ:Cx}{W:Wd}{ρ:Lc}{H:Hp}{fr:List (Addr×Obj)}{h h':Heap}{m:Str→Option Value}{c led:List (Addr×Obj)}{vs:List V}{xs:List Value}{k:Nat}{n:Addr}(r:Rep' Γ W ρ H fr h m c led)(F':Fr Γ.h₀ Γ.L h' m)(N':News Γ.h₀ Γ.L h' ((n,Zde xs k)::led))(hn:∀q∈W.sc::led,q.1≠n)(hv:VRs W vs xs)(hl:vs.length≤ZM):
  ∃W',W.Le W'∧Rep Γ W' ρ H fr h'∧VR W' (.tup vs) (.ref n):=by
 have le:W.Le ⟨W.pi,(n,Zde xs k)::W.tups,W.sc,W.ins⟩:=⟨List.prefix_refl _,fun q hq=>Zy3 _ hq,rfl,fun _ h=>h,fun _ h=>.inl h⟩
 refine⟨⟨W.pi,(n,Zde xs k)::W.tups,W.sc,W.ins⟩,le,⟨m,c,(n,Zde xs k)::led,⟨F',N',?_,r.sc,r.sc0,fun q hq=>Zy3 _ (r.frIn q hq),r.frOff,fun q hq=>Zy3 _ (r.clIn q hq),r.clOff,r.apart,fun q hq t ht=>?_,fun q hq t ht=>?_,Γ.mono le r.own⟩⟩,.tup Zz5 hl (hv.mono le)⟩
 ·refine⟨r.R.len,r.R.nd,fun i us e ni=>?_,fun q hq=>?_,fun q hq=>?_,fun i us fs e hi=>?_,r.R.inlt,r.R.iuni⟩
  ·obtain⟨l,a,ys,j,h1,h2,h3⟩:=r.R.lists i us e ni
   exact⟨l,a,ys,j,h1,ZcA h2 fun x hx=>Zy3 _ hx,h3.mono le⟩
  ·rcases Zz7.mp hq with e | hq
   ·exact e▸Zy3 _ Zz5
   ·exact ZcA (r.R.tups q hq) fun x hx=>Zy3 _ hx
  ·rcases Zz7.mp hq with e | hq
   ·exact .inl ⟨xs,k,by rw[e]⟩
   ·exact r.R.kind q hq
  ·obtain⟨l,a,od,ys,h1,h2,h3,h4⟩:=r.R.objs i us fs e hi
   exact⟨l,a,od,ys,h1,ZcA h2 fun x hx=>Zy3 _ hx,h3,h4.mono le⟩
 ·rcases Zz7.mp ht with e | ht
  ·rw[e]
   exact hn q (Zz2 _ (r.frIn q hq))
  ·exact r.frTup q hq t ht
 ·rcases Zz7.mp ht with e | ht
  ·rw[e]
   exact hn q (Zz2 _ (r.clIn q hq))
  ·exact r.clTup q hq t ht
theorem Rep.tuple{Γ:Cx}{W:Wd}{ρ:Lc}{H:Hp}{fr:List (Addr×Obj)}{h:Heap}{vs:List V}{xs:List Value}{k:Nat}(r:Rep Γ W ρ H fr h)(hv:VRs W vs xs)(hl:vs.length≤ZM):
  ∃W',W.Le W'∧Rep Γ W' ρ H fr (h.push (Zde xs k))∧VR W' (.tup vs) (.ref h.objs.size):=by
 obtain⟨m,c,led,r⟩:=r
 exact r.newTup (r.F.push _) (News.push r.F r.N _) r.off hv hl
theorem Rep'.newList{Γ:Cx}{W:Wd}{ρ:Lc}{H:Hp}{fr:List (Addr×Obj)}{h h':Heap}{m:Str→Option Value}{c led:List (Addr×Obj)}{vs:List V}{xs:List Value}{k:Nat}{n:Addr}(r:Rep' Γ W ρ H fr h m c led)(F':Fr Γ.h₀ Γ.L h' m)(N':News Γ.h₀ Γ.L h' ((n,Za2 xs k)::led))(hn:∀q∈W.sc::led,q.1≠n)(hv:VRs W vs xs)(hl:vs.length≤ZM):
  ∃W',W.Le W'∧Rep Γ W' ρ (H++[vs]) fr h'∧VR W' (.ref H.length) (.ref n):=by
 have le:W.Le ⟨W.pi++[n],W.tups,W.sc,W.ins⟩:=⟨List.prefix_append _ _,fun q hq=>hq,rfl,fun _ h=>h,fun _ h=>.inl h⟩
 have h0:0<W.pi.length:=(Zz6.mp r.sc0).1
 have at_n:(W.pi++[n])[H.length]?=some n:=by rw[←r.R.len];simp
 have nin:∀q∈W.ins,q.1≠H.length:=fun q hq e=>by have:=r.R.inlt q hq;omega
 refine⟨⟨W.pi++[n],W.tups,W.sc,W.ins⟩,le,⟨m,c,(n,Za2 xs k)::led,⟨F',N',?_,r.sc,(Zy0 h0).trans r.sc0,fun q hq=>Zy3 _ (r.frIn q hq),fun q hq=>?_,fun q hq=>Zy3 _ (r.clIn q hq),fun q hq=>?_,r.apart,r.frTup,r.clTup,Γ.mono le r.own⟩⟩,.ref ⟨at_n,nin⟩⟩
 ·refine⟨by simp[r.R.len],?_,fun i us e ni=>?_,fun q hq=>ZcA (r.R.tups q hq) fun x hx=>Zy3 _ hx,r.R.kind,fun i us fs e hi=>?_,fun q hq=>by have:=r.R.inlt q hq;simp;omega,r.R.iuni⟩
  ·show(W.pi++[n]).Nodup
   rw[List.nodup_append]
   refine⟨r.R.nd,by simp,fun a ha b hb=>?_⟩
   rw[List.mem_singleton.mp hb]
   obtain⟨o,ho⟩:=r.piIn a ha
   exact hn _ ho
  ·by_cases hi:i<H.length
   ·rw[Zy0 hi]at e
    obtain⟨l,a,ys,j,h1,h2,h3⟩:=r.R.lists i us e ni
    exact⟨l,a,ys,j,le.piAt h1,ZcA h2 fun x hx=>Zy3 _ hx,h3.mono le⟩
   ·have:i=H.length:=by
     have:=(Zz6.mp e).1
     simp at this
     omega
    subst this
    simp at e
    subst e
    exact⟨hl,n,xs,k,at_n,Zy3 _ Zz5,hv.mono le⟩
  ·have hi':i<H.length:=r.R.inlt _ hi
   rw[Zy0 hi']at e
   obtain⟨l,a,od,ys,h1,h2,h3,h4⟩:=r.R.objs i us fs e hi
   exact⟨l,a,od,ys,le.piAt h1,ZcA h2 fun x hx=>Zy3 _ hx,h3,h4.mono le⟩
 ·intro hm
  rcases Zz8.mp hm with hm | hm
  ·exact r.frOff q hq hm
  ·exact hn q (Zz2 _ (r.frIn q hq)) (Zz9.mp hm)
 ·intro hm
  rcases Zz8.mp hm with hm | hm
  ·exact r.clOff q hq hm
  ·exact hn q (Zz2 _ (r.clIn q hq)) (Zz9.mp hm)
theorem Rep.list{Γ:Cx}{W:Wd}{ρ:Lc}{H:Hp}{fr:List (Addr×Obj)}{h:Heap}{vs:List V}{xs:List Value}{k:Nat}(r:Rep Γ W ρ H fr h)(hv:VRs W vs xs)(hl:vs.length≤ZM):
  ∃W',W.Le W'∧Rep Γ W' ρ (H++[vs]) fr (h.push (Za2 xs k))∧VR W' (.ref H.length) (.ref h.objs.size):=by
 obtain⟨m,c,led,r⟩:=r
 exact r.newList (r.F.push _) (News.push r.F r.N _) r.off hv hl
theorem Rep.at{Γ:Cx}{W:Wd}{ρ:Lc}{H:Hp}{fr:List (Addr×Obj)}{h:Heap}{i:Nat}{a:Addr}{vs:List V}(r:Rep Γ W ρ H fr h)(e:H[i]?=some vs)(ea:W.At i a): vs.length≤ZM∧∃xs k,h.get? a=some (Za2 xs k)∧VRs W vs xs:=by
 obtain⟨m,c,led,r⟩:=r
 obtain⟨l,b,xs,k,h1,h2,h3⟩:=r.R.lists i vs e ea.2
 rw[ea.1]at h1
 cases h1
 exact⟨l,xs,k,r.get h2,h3⟩
theorem Rep.tupAt{Γ:Cx}{W:Wd}{ρ:Lc}{H:Hp}{fr:List (Addr×Obj)}{h:Heap}{q:Addr×Obj}(r:Rep Γ W ρ H fr h)(e:q∈W.tups): h.get? q.1=some q.2:=by
 obtain⟨m,c,led,r⟩:=r
 exact r.get (r.R.tups _ e)
theorem Rep'.changed{Γ:Cx}{W:Wd}{ρ:Lc}{H:Hp}{fr:List (Addr×Obj)}{h h':Heap}{m:Str→Option Value}{c led:List (Addr×Obj)}{i:Nat}{a:Addr}{vs us:List V}{ys:List Value}{k:Nat}(r:Rep' Γ W ρ H fr h m c led)(i0:i≠0)(e:H[i]?=some vs)(ea:W.At i a)(F':Fr Γ.h₀ Γ.L h' m)(N':News Γ.h₀ Γ.L h' ((a,Za2 ys k)::led.filter (fun q=>decide (q.1≠a))))(hv:VRs W us ys)(hl:us.length≤ZM):
  Rep Γ W ρ (H.set i us) fr h':=by
 obtain⟨_,b,xs,j,h1,h2,h3⟩:=r.R.lists i vs e ea.2
 rw[ea.1]at h1
 cases h1
 have h2:=r.inLed i0 ea.1 h2
 have hN:=r.N _ h2
 have hm:a∈W.pi:=Zy4 ea.1
 have hi:i<H.length:=(Zz6.mp e).1
 refine⟨m,c,(a,Za2 ys k)::led.filter (fun q=>decide (q.1≠a)),⟨F',N',?_,r.sc,r.sc0,fun q hq=>?_,r.frOff,fun q hq=>?_,r.clOff,r.apart,r.frTup,r.clTup,r.own⟩⟩
 ·refine⟨by simp[r.R.len],r.R.nd,fun n ws en ni=>?_,fun q hq=>?_,r.R.kind,fun n ws fs en hi'=>?_,fun q hq=>by have:=r.R.inlt q hq;simpa using this,r.R.iuni⟩
  ·by_cases hn:n=i
   ·subst hn
    rw[Zy6 hi]at en
    cases en
    exact⟨hl,a,ys,k,ea.1,Zy3 _ Zz5,hv⟩
   ·rw[Zy2 (Ne.symm hn)]at en
    obtain⟨l,d,zs,j',g1,g2,g3⟩:=r.R.lists n ws en ni
    refine⟨l,d,zs,j',g1,Zbf g2 fun g2=>Zy3 _ (Zy9.mpr ⟨g2,?_⟩),g3⟩
    have:d≠a:=fun e=>by
     subst e
     exact hn ((List.getElem?_inj (Zz6.mp g1).1 r.R.nd).mp (g1.trans ea.1.symm))
    simpa using this
  ·refine Zbf (r.R.tups q hq) fun g2=>Zy3 _ (Zy9.mpr ⟨g2,?_⟩)
   have:q.1≠a:=fun e=>by
    have hk:=ZjZ (r.R.kind q hq)
    have g:=r.get (r.R.tups q hq)
    rw[e,hN.1]at g
    have c:=congrArg Obj.cls (Option.some.inj g)
    exact hk.1 c.symm
   simpa using this
  ·have hn:n≠i:=fun q=>ea.2 _ hi' q
   rw[Zy2 (Ne.symm hn)]at en
   obtain⟨l,d,od,zs,g1,g2,g3,g4⟩:=r.R.objs n ws fs en hi'
   refine⟨l,d,od,zs,g1,Zbf g2 fun g2=>Zy3 _ (Zy9.mpr ⟨g2,?_⟩),g3,g4⟩
   have:d≠a:=fun e=>by
    subst e
    exact hn ((List.getElem?_inj (Zz6.mp g1).1 r.R.nd).mp (g1.trans ea.1.symm))
   simpa using this
 ·refine Zz2 _ (Zy9.mpr ⟨r.frIn q hq,?_⟩)
  have:q.1≠a:=fun e=>r.frOff q hq (e▸hm)
  simpa using this
 ·refine Zz2 _ (Zy9.mpr ⟨r.clIn q hq,?_⟩)
  have:q.1≠a:=fun e=>r.clOff q hq (e▸hm)
  simpa using this
theorem Rep.change{Γ:Cx}{W:Wd}{ρ:Lc}{H:Hp}{fr:List (Addr×Obj)}{h h':Heap}{i:Nat}{a:Addr}{vs us:List V}{ys:List Value}{k:Nat}(r:Rep Γ W ρ H fr h)(i0:i≠0)(e:H[i]?=some vs)(ea:W.At i a)(sb:Heap.SameBut a h h')(ha:h'.get? a=some (Za2 ys k))(hv:VRs W us ys)(hl:us.length≤ZM):
  Rep Γ W ρ (H.set i us) fr h':=by
 obtain⟨m,c,led,r⟩:=r
 obtain⟨_,b,xs,j,h1,h2,h3⟩:=r.R.lists i vs e ea.2
 rw[ea.1]at h1
 cases h1
 have h2:=r.inLed i0 ea.1 h2
 have hN:=r.N _ h2
 have keep:∀q∈led,q.1≠a→h'.get? q.1=some q.2:=fun q hq hn=>sb.extBut _ _ hn (r.N q hq).1
 refine r.changed (k:=k) i0 e ea ⟨r.F.ns.sameBut sb (Ne.symm hN.2.1),fun b o eb=>sb.extBut b o (fun q=>?_) (r.F.keep b o eb),r.F.above⟩ (fun q hq=>?_) hv hl
 ·subst q
  rw[hN.2.2]at eb
  cases eb
 ·rcases Zz7.mp hq with e | hq
  ·subst e
   exact⟨ha,hN.2⟩
  ·obtain⟨h1,h2⟩:=List.mem_filter.mp hq
   exact⟨keep q h1 (by simpa using h2),(r.N q h1).2⟩
theorem Rep.swap{Γ:Cx}{W:Wd}{ρ:Lc}{H:Hp}{fs fs' fr:List (Addr×Obj)}{h h':Heap}(r:Rep Γ W ρ H (fs++fr) h)(ap:∀q∈fs,∀t∈fr,q.1≠t.1)(keep:∀b o,b∉fs.map (·.1)→h.get? b=some o→h'.get? b=some o)(new:∀q∈fs',h'.get? q.1=some q.2∧q.1∈fs.map (·.1)): Rep Γ W ρ H (fs'++fr) h':=by
 obtain⟨m,c,led,r⟩:=r
 have inF:∀q∈fs,q∈fs++fr:=fun q hq=>Zy7 _ hq
 have nL:∀a∈fs.map (·.1),a≠Γ.L∧Γ.h₀.get? a=none:=fun a ha=>by
  obtain⟨q,hq,e⟩:=Zz11.mp ha
  exact e▸(r.N q (r.frIn q (inF q hq))).2
 have kp:∀q∈led,q.1∉fs.map (·.1)→h'.get? q.1=some q.2:=fun q hq hn=>keep _ _ hn (r.N q hq).1
 refine⟨m,c,fs'++led.filter (fun q=>decide (q.1∉fs.map (·.1))),⟨⟨?_,fun b o e=>?_,r.F.above⟩,fun q hq=>?_,⟨r.R.len,r.R.nd,fun i vs e ni=>?_,fun q hq=>?_,r.R.kind,fun i vs fn e hi=>?_,r.R.inlt,r.R.iuni⟩,r.sc,r.sc0,fun q hq=>?_,fun q hq=>?_,fun q hq=>?_,r.clOff,fun q hq t ht=>?_,fun q hq t ht=>?_,r.clTup,r.own⟩⟩
 ·obtain⟨o,es,ep,h1,h2⟩:=r.F.ns
  exact⟨o,es,ep,keep _ _ (fun q=>(nL _ q).1 rfl) h1,h2⟩
 ·refine keep b o (fun q=>?_) (r.F.keep b o e)
  rw[(nL b q).2]at e
  cases e
 ·rcases Zz8.mp hq with hq | hq
  ·obtain⟨h1,h2⟩:=new q hq
   exact⟨h1,nL _ h2⟩
  ·obtain⟨h1,h2⟩:=List.mem_filter.mp hq
   exact⟨kp q h1 (by simpa using h2),(r.N q h1).2⟩
 ·obtain⟨l,a,xs,k,h1,h2,h3⟩:=r.R.lists i vs e ni
  refine⟨l,a,xs,k,h1,Zbf h2 fun h2=>List.mem_append_right _ (Zy9.mpr ⟨h2,?_⟩),h3⟩
  have:a∉fs.map (·.1):=fun q=>by
   obtain⟨t,ht,e⟩:=Zz11.mp q
   exact r.frOff t (inF t ht) (e▸Zy4 h1)
  simpa using this
 ·refine Zbf (r.R.tups q hq) fun h2=>List.mem_append_right _ (Zy9.mpr ⟨h2,?_⟩)
  have:q.1∉fs.map (·.1):=fun z=>by
   obtain⟨t,ht,e⟩:=Zz11.mp z
   exact r.frTup t (inF t ht) q hq e
  simpa using this
 ·obtain⟨l,a,od,xs,h1,h2,h3⟩:=r.R.objs i vs fn e hi
  refine⟨l,a,od,xs,h1,Zbf h2 fun h2=>List.mem_append_right _ (Zy9.mpr ⟨h2,?_⟩),h3⟩
  have:a∉fs.map (·.1):=fun q=>by
   obtain⟨t,ht,e⟩:=Zz11.mp q
   exact r.frOff t (inF t ht) (e▸Zy4 h1)
  simpa using this
 ·rcases Zz8.mp hq with hq | hq
  ·exact Zz4 _ hq
  ·refine Zz3 _ (Zy9.mpr ⟨r.frIn q (Zz3 _ hq),?_⟩)
   have:q.1∉fs.map (·.1):=fun z=>by
    obtain⟨t,ht,e⟩:=Zz11.mp z
    exact ap t ht q hq e
   simpa using this
 ·rcases Zz8.mp hq with hq | hq
  ·obtain⟨t,ht,e⟩:=Zz11.mp (new q hq).2
   exact e▸r.frOff t (inF t ht)
  ·exact r.frOff q (Zz3 _ hq)
 ·refine Zz3 _ (Zy9.mpr ⟨r.clIn q hq,?_⟩)
  have:q.1∉fs.map (·.1):=fun z=>by
   obtain⟨t,ht,e⟩:=Zz11.mp z
   exact r.apart q hq t (inF t ht) e.symm
  simpa using this
 ·rcases Zz8.mp ht with ht | ht
  ·obtain⟨u,hu,e⟩:=Zz11.mp (new t ht).2
   exact e▸r.apart q hq u (inF u hu)
  ·exact r.apart q hq t (Zz3 _ ht)
 ·rcases Zz8.mp hq with hq | hq
  ·obtain⟨u,hu,e⟩:=Zz11.mp (new q hq).2
   exact e▸r.frTup u (inF u hu) t ht
  ·exact r.frTup q (Zz3 _ hq) t ht
theorem Rep.more{Γ:Cx}{W:Wd}{ρ:Lc}{H:Hp}{fs fr:List (Addr×Obj)}{h h':Heap}(r:Rep Γ W ρ H fr h)(up:∀b o,h.get? b=some o→h'.get? b=some o)(new:∀q∈fs,h'.get? q.1=some q.2∧h.objs.size≤q.1): Rep Γ W ρ H (fs++fr) h'∧∀q∈fs,∀t∈fr,q.1≠t.1:=by
 have r':=r.grown up
 obtain⟨m,c,led,r⟩:=r
 have lt:∀q∈W.sc::led,q.1<h.objs.size:=fun q hq=>Heap.lt_size (r.get hq)
 have ne:∀q∈fs,∀t∈W.sc::led,q.1≠t.1:=fun q hq t ht=>Nat.ne_of_gt (Nat.lt_of_lt_of_le (lt t ht) (new q hq).2)
 refine⟨⟨m,c,fs++led,⟨⟨?_,fun b o e=>up b o (r.F.keep b o e),r.F.above⟩,fun q hq=>?_,r.R.mono fun q hq=>ZcA hq fun x hx=>List.mem_append_right _ hx,r.sc,r.sc0,fun q hq=>?_,fun q hq=>?_,fun q hq=>List.mem_append_right _ (r.clIn q hq),r.clOff,fun q hq t ht=>?_,fun q hq t ht=>?_,r.clTup,r.own⟩⟩,fun q hq t ht=>ne q hq t (Zz2 _ (r.frIn t ht))⟩
 ·obtain⟨o,es,ep,h1,h2⟩:=r.F.ns
  exact⟨o,es,ep,up _ _ h1,h2⟩
 ·rcases Zz8.mp hq with hq | hq
  ·obtain⟨h1,h2⟩:=new q hq
   refine⟨h1,fun e=>?_,?_⟩
   ·exact absurd (e▸r.F.ns.lt) (Nat.not_lt.mpr h2)
   ·cases e:Γ.h₀.get? q.1 with
    | none=>rfl
    | some o=>exact absurd (Heap.lt_size (r.F.keep _ _ e)) (Nat.not_lt.mpr h2)
  ·exact⟨up _ _ (r.N q hq).1,(r.N q hq).2⟩
 ·rcases Zz8.mp hq with hq | hq
  ·exact Zz4 _ hq
  ·exact Zz3 _ (r.frIn q hq)
 ·rcases Zz8.mp hq with hq | hq
  ·intro hm
   obtain⟨o,ho⟩:=r.piIn _ hm
   exact ne q hq _ ho rfl
  ·exact r.frOff q hq
 ·rcases Zz8.mp ht with ht | ht
  ·exact(ne t ht q (Zz2 _ (r.clIn q hq))).symm
  ·exact r.apart q hq t ht
 ·rcases Zz8.mp hq with hq | hq
  ·exact ne q hq t (r.R.tups t ht)
  ·exact r.frTup q hq t ht
theorem Rep.less{Γ:Cx}{W:Wd}{ρ:Lc}{H:Hp}{fs fr:List (Addr×Obj)}{h:Heap}(r:Rep Γ W ρ H fs h)(sub:∀q∈fr,q∈fs): Rep Γ W ρ H fr h:=by
 obtain⟨m,c,led,r⟩:=r
 exact⟨m,c,led,⟨r.F,r.N,r.R,r.sc,r.sc0,fun q hq=>r.frIn q (sub q hq),fun q hq=>r.frOff q (sub q hq),r.clIn,r.clOff,fun q hq t ht=>r.apart q hq t (sub t ht),fun q hq=>r.frTup q (sub q hq),r.clTup,r.own⟩⟩
theorem Rep.frAt{Γ:Cx}{W:Wd}{ρ:Lc}{H:Hp}{fr:List (Addr×Obj)}{h:Heap}{q:Addr×Obj}(r:Rep Γ W ρ H fr h)(hq:q∈fr): h.get? q.1=some q.2:=by
 obtain⟨m,c,led,r⟩:=r
 exact(r.N q (r.frIn q hq)).1
end PM
end
section
namespace PM
open PySem PyProof.Rows PyProof
noncomputable abbrev Ex:=Lc→Hp→Option (V×Hp)
noncomputable abbrev ZX:=Lc→Hp→Option (List V×Hp)
noncomputable abbrev Ts:=Lc→Hp→Option (Bool×Hp)
noncomputable abbrev ZdI(Γ:Cx)(W:Wd)(ρ:Lc)(H:Hp)(fr:List (Addr×Obj))(s:Shared)(Q:Value→Shared→Prop)(v:V): Prop:=
 ∀(W':Wd) (h':Heap) (tk':Nat) (x:Value),W.Le W'→Rep Γ W' ρ H fr h'→VR W' v x→Q x { s with heap:=h',toks:=tk' }
noncomputable abbrev Zgx(Γ:Cx)(W:Wd)(ρ:Lc)(H:Hp)(fr:List (Addr×Obj))(s:Shared)(Q:Bool→Shared→Prop)(b:Bool): Prop:=
 ∀(W':Wd) (h':Heap) (tk':Nat),W.Le W'→Rep Γ W' ρ H fr h'→Q b { s with heap:=h',toks:=tk' }
section
variable (prog:Program) (w:World)
noncomputable def J(Γ:Cx)(e:Expr)(f:Ex): Prop:=∀(W:Wd) (ρ:Lc) (H:Hp) (fr:List (Addr×Obj)) (s:Shared) (Q E:Value→Shared→Prop) (v:V) (H':Hp),
 Rep Γ W ρ H fr s.heap→f ρ H=some (v,H')→ZdI Γ W ρ H' fr s Q v→wpAny (model prog w) Γ.A (eval e Γ.env) Q E s
noncomputable def Js(Γ:Cx)(es:List Expr)(f:ZX): Prop:=∀(pos:Pos) (W:Wd) (ρ:Lc) (H:Hp) (fr:List (Addr×Obj)) (s:Shared) (Q:List Value→Shared→Prop) (E:Value→Shared→Prop) (vs:List V) (H':Hp),
 Rep Γ W ρ H fr s.heap→f ρ H=some (vs,H')→(∀(W':Wd) (h':Heap) (tk':Nat) (xs:List Value),W.Le W'→Rep Γ W' ρ H' fr h'→VRs W' vs xs→Q xs { s with heap:=h',toks:=tk' })→wpAny (model prog w) Γ.A (spliced (backTo pos (starEach es Γ.env))) Q E s
noncomputable def JT(Γ:Cx)(e:Expr)(f:Ts): Prop:=∀(W:Wd) (ρ:Lc) (H:Hp) (fr:List (Addr×Obj)) (s:Shared) (Q:Bool→Shared→Prop) (E:Value→Shared→Prop) (b:Bool) (H':Hp),
 Rep Γ W ρ H fr s.heap→f ρ H=some (b,H')→Zgx Γ W ρ H' fr s Q b→wpAny (model prog w) Γ.A (isTrue e Γ.env (eval e Γ.env)) Q E s
noncomputable def Op2(m:Value→Value→Sem Value)(o:V→V→Hp→Option (V×Hp)): Prop:=∀(Γ:Cx) (W:Wd) (ρ:Lc) (H:Hp) (fr:List (Addr×Obj)) (s:Shared) (Q E:Value→Shared→Prop) (a b:V) (x y:Value) (v:V) (H':Hp),
 Rep Γ W ρ H fr s.heap→VR W a x→VR W b y→o a b H=some (v,H')→ZdI Γ W ρ H' fr s Q v→wpAny (model prog w) Γ.A (m x y) Q E s
noncomputable def Op1(m:Value→Sem Value)(o:V→Hp→Option (V×Hp)): Prop:=∀(Γ:Cx) (W:Wd) (ρ:Lc) (H:Hp) (fr:List (Addr×Obj)) (s:Shared) (Q E:Value→Shared→Prop) (a:V) (x:Value) (v:V) (H':Hp),
 Rep Γ W ρ H fr s.heap→VR W a x→o a H=some (v,H')→ZdI Γ W ρ H' fr s Q v→wpAny (model prog w) Γ.A (m x) Q E s
noncomputable def OpT(m:Value→Sem Bool)(o:V→Hp→Option Bool): Prop:=∀(Γ:Cx) (W:Wd) (ρ:Lc) (H:Hp) (fr:List (Addr×Obj)) (s:Shared) (Q:Bool→Shared→Prop) (E:Value→Shared→Prop) (a:V) (x:Value) (b:Bool),
 Rep Γ W ρ H fr s.heap→VR W a x→o a H=some b→Zgx Γ W ρ H fr s Q b→wpAny (model prog w) Γ.A (m x) Q E s
end
noncomputable def Ze(k:Int): Ex:=fun _ H=>some (.int k,H)
noncomputable def Zbi: Ex:=fun _ H=>some (.none,H)
noncomputable def Zbs(b:Bool): Ex:=fun _ H=>some (.bool b,H)
noncomputable def ZN(x:Str): Ex:=fun _ H=>some (.str x,H)
noncomputable def Za(i:Nat): Ex:=fun ρ H=>(ρ i).map fun v=>(v,H)
noncomputable def Zc(o:V→V→Hp→Option (V×Hp))(f g:Ex): Ex:=fun ρ H=>(f ρ H).bind fun p=>(g ρ p.2).bind fun q=>o p.1 q.1 q.2
noncomputable def ZO(o:V→Hp→Option (V×Hp))(f:Ex): Ex:=fun ρ H=>(f ρ H).bind fun p=>o p.1 p.2
noncomputable def eIf(t:Ts)(f g:Ex): Ex:=fun ρ H=>(t ρ H).bind fun p=>if p.1 then f ρ p.2 else g ρ p.2
noncomputable def Zd: ZX:=fun _ H=>some ([],H)
noncomputable def Zb(f:Ex)(g:ZX): ZX:=fun ρ H=>(f ρ H).bind fun p=>(g ρ p.2).bind fun q=>some (p.1::q.1,q.2)
noncomputable def Z3(g:ZX): Ex:=fun ρ H=>(g ρ H).bind fun p=>if p.1.length≤ZM then some (.tup p.1,p.2)else none
noncomputable def Zad(g:ZX): Ex:=fun ρ H=>(g ρ H).bind fun p=>if p.1.length≤ZM then some (.ref p.2.length,p.2++[p.1])else none
noncomputable def Zac: V→Hp→Option Bool
 | .bool b,_=>some b
 | .int i,_=>some (i != 0)
 | .none,_=>some false
 | _,_=>none
noncomputable def ZA(f:Ex): Ts:=fun ρ H=>(f ρ H).bind fun p=>(Zac p.1 p.2).map fun b=>(b,p.2)
noncomputable def ZcD(t:Ts): Ts:=fun ρ H=>(t ρ H).map fun p=>(!p.1,p.2)
noncomputable def Z5: Ts:=fun _ H=>some (true,H)
noncomputable def ZbR: Ts:=fun _ H=>some (false,H)
noncomputable def ZaU(t u:Ts): Ts:=fun ρ H=>(t ρ H).bind fun p=>if p.1 then u ρ p.2 else some (false,p.2)
noncomputable def tOr(t u:Ts): Ts:=fun ρ H=>(t ρ H).bind fun p=>if p.1 then some (true,p.2)else u ρ p.2
noncomputable def tIf(t u v:Ts): Ts:=fun ρ H=>(t ρ H).bind fun p=>if p.1 then u ρ p.2 else v ρ p.2
noncomputable def Zqg(f:Ex): Ex:=fun ρ H=>(f ρ H).bind fun p=>(Zac p.1 p.2).map fun b=>(.bool (!b),p.2)
noncomputable def ZcE(f g:Ex): Ex:=fun ρ H=>(f ρ H).bind fun p=>(Zac p.1 p.2).bind fun b=>if b then g ρ p.2 else some p
noncomputable def eOr(f g:Ex): Ex:=fun ρ H=>(f ρ H).bind fun p=>(Zac p.1 p.2).bind fun b=>if b then some p else g ρ p.2
section
variable {prog:Program} {w:World} {Γ:Cx}
theorem J.int(k:Int)(n:Nat)(pos:Pos): J prog w Γ (.Constant (.int k) n pos) (Ze k):=fun W ρ H fr s Q E v H' r e post=>by
 cases e
 exact wpAny_Constant_int (post W s.heap _ _ (.refl W) r (.int k _))
theorem J.none(n:Nat)(pos:Pos): J prog w Γ (.Constant .none n pos) Zbi:=fun W ρ H fr s Q E v H' r e post=>by
 cases e
 exact wpAny_Constant_none (post W s.heap s.toks _ (.refl W) r .none)
theorem J.bool(b:Bool)(n:Nat)(pos:Pos): J prog w Γ (.Constant (.bool b) n pos) (Zbs b):=fun W ρ H fr s Q E v H' r e post=>by
 cases e
 exact wpAny_Constant_bool (post W s.heap s.toks _ (.refl W) r (.bool b))
theorem J.str(x:Str)(n:Nat)(pos:Pos): J prog w Γ (.Constant (.str x) n pos) (ZN x):=fun W ρ H fr s Q E v H' r e post=>by
 cases e
 exact wpAny_Constant_str (post W s.heap _ _ (.refl W) r (.str x _))
theorem Zz{e1 e2:Expr}{op:Operator}{pos:Pos}{f g:Ex}{o:V→V→Hp→Option (V×Hp)}(h1:J prog w Γ e1 f)(h2:J prog w Γ e2 g)(ho:Op2 prog w (binaryOp op) o): J prog w Γ (.BinOp e1 op e2 pos) (Zc o f g):=by
 intro W ρ H fr s Q E v H' r hf post
 obtain⟨p,e1,hf⟩:=Zz0.mp hf
 obtain⟨q,e2,e3⟩:=Zz0.mp hf
 refine wpAny_BinOp (h1 W ρ H fr s _ E _ _ r e1 fun W1 k1 t1 x l1 r1 x1=>?_)
 refine h2 W1 ρ _ fr _ _ E _ _ r1 e2 fun W2 k2 t2 y l2 r2 y2=>?_
 exact ho Γ W2 ρ _ fr _ Q E _ _ x y v H' r2 (x1.mono l2) y2 e3 fun W3 k3 t3 z l3 r3 z3=>post W3 k3 t3 z ((l1.trans l2).trans l3) r3 z3
theorem Zc7{e1 e2:Expr}{op:CmpOp}{pos:Pos}{f g:Ex}{o:V→V→Hp→Option (V×Hp)}(h1:J prog w Γ e1 f)(h2:J prog w Γ e2 g)(ho:Op2 prog w (compareOp op) o)(hm:behindInMarks op e2=false:=by with_unfolding_all rfl): J prog w Γ (.Compare e1 [op] [e2] pos) (Zc o f g):=by
 intro W ρ H fr s Q E v H' r hf post
 obtain⟨p,e1,hf⟩:=Zz0.mp hf
 obtain⟨q,e2,e3⟩:=Zz0.mp hf
 refine wpAny_Compare1 (h1 W ρ H fr s _ E _ _ r e1 fun W1 k1 t1 x l1 r1 x1=>?_) hm
 refine h2 W1 ρ _ fr _ _ E _ _ r1 e2 fun W2 k2 t2 y l2 r2 y2=>?_
 exact ho Γ W2 ρ _ fr _ Q E _ _ x y v H' r2 (x1.mono l2) y2 e3 fun W3 k3 t3 z l3 r3 z3=>post W3 k3 t3 z ((l1.trans l2).trans l3) r3 z3
theorem J.un{e1:Expr}{op:UnaryOp}{pos:Pos}{f:Ex}{o:V→Hp→Option (V×Hp)}(h1:J prog w Γ e1 f)(ho:Op1 prog w (unaryOp op) o): J prog w Γ (.UnaryOp op e1 pos) (ZO o f):=by
 intro W ρ H fr s Q E v H' r hf post
 obtain⟨p,e1,hf⟩:=Zz0.mp hf
 refine wpAny_UnaryOp (h1 W ρ H fr s _ E _ _ r e1 fun W1 k1 t1 x l1 r1 x1=>?_)
 exact ho Γ W1 ρ _ fr _ Q E _ x v H' r1 x1 hf fun W3 k3 t3 z l3 r3 z3=>post W3 k3 t3 z (l1.trans l3) r3 z3
theorem truth: OpT prog w truthy Zac:=by
 intro Γ W ρ H fr s Q E a x b r hx ho post
 cases hx with
 | none=>cases ho;exact truthy_none (post W s.heap s.toks (.refl W) r)
 | bool c=>cases ho;exact fun _ _ _=>post W s.heap s.toks (.refl W) r
 | int i t=>cases ho;exact P.truthy_int (post W s.heap s.toks (.refl W) r)
 | str _ _=>first|exact Zx0 ho|cases ho
 | tup _ _ _=>first|exact Zx0 ho|cases ho
 | ref _=>first|exact Zx0 ho|cases ho
 | obj _ _ _ _=>first|exact Zx0 ho|cases ho
theorem Zlk{e1 e2:Expr}{pos:Pos}{f g:Ex}(h1:J prog w Γ e1 f)(h2:J prog w Γ e2 g): J prog w Γ (.BoolOp .And [e1,e2] pos) (ZcE f g):=by
 intro W ρ H fr s Q E v H' r hf post
 obtain⟨p,e1,hf⟩:=Zz0.mp hf
 obtain⟨b,e2,e3⟩:=Zz0.mp hf
 refine wpAny_And2 (h1 W ρ H fr s _ E _ _ r e1 fun W1 k1 t1 x l1 r1 x1=>?_)
 refine truth Γ W1 ρ _ fr _ _ E _ x b r1 x1 e2 fun W2 k2 t2 l2 r2=>?_
 cases b with
 | true=>exact h2 W2 ρ _ fr _ Q E v H' r2 e3 fun W3 k3 t3 z l3 r3 z3=>post W3 k3 t3 z ((l1.trans l2).trans l3) r3 z3
 | false=>
  cases e3
  exact post W2 k2 t2 x (l1.trans l2) r2 (x1.mono l2)
theorem Zm: Js prog w Γ [] Zd:=fun pos W ρ H fr s Q E vs H' r hf post=>by
 cases hf
 exact wpAny_items_nil (post W s.heap s.toks [] (.refl W) r .nil)
theorem ZL{e:Expr}{es:List Expr}{f:Ex}{g:ZX}(h1:J prog w Γ e f)(h2:Js prog w Γ es g)(he:starEach (e::es) Γ.env=(false,eval e Γ.env)::starEach es Γ.env:=by rfl): Js prog w Γ (e::es) (Zb f g):=by
 intro pos W ρ H fr s Q E vs H' r hf post
 obtain⟨p,e1,hf⟩:=Zz0.mp hf
 obtain⟨q,e2,e3⟩:=Zz0.mp hf
 cases e3
 refine wpAny_items_cons (h1 W ρ H fr s _ E _ _ r e1 fun W1 k1 t1 x l1 r1 x1=>?_) he
 exact h2 pos W1 ρ _ fr _ _ E _ _ r1 e2 fun W2 k2 t2 ys l2 r2 y2=>post W2 k2 t2 _ (l1.trans l2) r2 (.cons (x1.mono l2) y2)
theorem J.tup{es:List Expr}{k:Nat}{pos:Pos}{g:ZX}(h:Js prog w Γ es g): J prog w Γ (.Tuple es k pos) (Z3 g):=by
 intro W ρ H fr s Q E v H' r hf post
 obtain⟨p,e1,hf⟩:=Zz0.mp hf
 by_cases hl:p.1.length≤ZM
 ·rw[if_pos hl]at hf
  cases hf
  refine wpAny_Tuple (h pos W ρ H fr s _ E _ _ r e1 fun W1 k1 t1 xs l1 r1 x1=>⟨Zb2 (by rw[x1.length];exact hl),?_⟩)
  obtain⟨W2,l2,r2,v2⟩:=r1.tuple (k:=0) x1 hl
  exact post W2 _ _ _ (l1.trans l2) r2 v2
 ·rw[if_neg hl]at hf
  cases hf
theorem J.list{es:List Expr}{pos:Pos}{g:ZX}(h:Js prog w Γ es g): J prog w Γ (.List es pos) (Zad g):=by
 intro W ρ H fr s Q E v H' r hf post
 obtain⟨p,e1,hf⟩:=Zz0.mp hf
 by_cases hl:p.1.length≤ZM
 ·rw[if_pos hl]at hf
  cases hf
  refine wpAny_List (h pos W ρ H fr s _ E _ _ r e1 fun W1 k1 t1 xs l1 r1 x1=>⟨Zb2 (by rw[x1.length];exact hl),?_⟩)
  obtain⟨W2,l2,r2,v2⟩:=r1.list (k:=0) x1 hl
  exact post W2 _ _ _ (l1.trans l2) r2 v2
 ·rw[if_neg hl]at hf
  cases hf
theorem ZiD{e:Expr}{pos:Pos}{t:Ts}(h:JT prog w Γ e t): JT prog w Γ (.UnaryOp .Not e pos) (ZcD t):=by
 intro W ρ H fr s Q E b H' r hf post
 obtain⟨p,e1,e2⟩:=Zz1.mp hf
 cases e2
 exact isTrue_not (h W ρ H fr s _ E _ _ r e1 post)
noncomputable def JA(prog:Program)(w:World)(Γ:Cx)(op:BoolOp)(es:List Expr)(f:Ts): Prop:=∀(W:Wd) (ρ:Lc) (H:Hp) (fr:List (Addr×Obj)) (s:Shared) (Q:Bool→Shared→Prop) (E:Value→Shared→Prop) (b:Bool) (H':Hp),
 Rep Γ W ρ H fr s.heap→f ρ H=some (b,H')→Zgx Γ W ρ H' fr s Q b→wpAny (model prog w) Γ.A (allTrue op es Γ.env) Q E s
theorem ZdV: JA prog w Γ .And [] Z5:=fun W ρ H fr s Q E b H' r hf post=>by
 cases hf
 exact wpAny_allTrue_And_nil (post W s.heap s.toks (.refl W) r)
theorem ZfT: JA prog w Γ .Or [] ZbR:=fun W ρ H fr s Q E b H' r hf post=>by
 cases hf
 exact wpAny_allTrue_Or_nil (post W s.heap s.toks (.refl W) r)
theorem Zb1{e:Expr}{es:List Expr}{t u:Ts}(h1:JT prog w Γ e t)(h2:JA prog w Γ .And es u): JA prog w Γ .And (e::es) (ZaU t u):=by
 intro W ρ H fr s Q E b H' r hf post
 obtain⟨p,e1,hf⟩:=Zz0.mp hf
 refine wpAny_allTrue_And_cons (h1 W ρ H fr s _ E _ _ r e1 fun W1 k1 t1 l1 r1=>?_)
 obtain⟨c,H1⟩:=p
 cases c with
 | true=>exact h2 W1 ρ _ fr _ Q E b H' r1 hf fun W3 k3 t3 l3 r3=>post W3 k3 t3 (l1.trans l3) r3
 | false=>
  cases hf
  exact post W1 k1 t1 l1 r1
theorem Zc2{e:Expr}{es:List Expr}{t u:Ts}(h1:JT prog w Γ e t)(h2:JA prog w Γ .Or es u): JA prog w Γ .Or (e::es) (tOr t u):=by
 intro W ρ H fr s Q E b H' r hf post
 obtain⟨p,e1,hf⟩:=Zz0.mp hf
 refine wpAny_allTrue_Or_cons (h1 W ρ H fr s _ E _ _ r e1 fun W1 k1 t1 l1 r1=>?_)
 obtain⟨c,H1⟩:=p
 cases c with
 | false=>exact h2 W1 ρ _ fr _ Q E b H' r1 hf fun W3 k3 t3 l3 r3=>post W3 k3 t3 (l1.trans l3) r3
 | true=>
  cases hf
  exact post W1 k1 t1 l1 r1
theorem Zcq{op:BoolOp}{es:List Expr}{pos:Pos}{t:Ts}(h:JA prog w Γ op es t): JT prog w Γ (.BoolOp op es pos) t:=fun W ρ H fr s Q E b H' r hf post=>wpAny_isTrue_BoolOp (h W ρ H fr s Q E b H' r hf post)
theorem JT.val{e:Expr}{f:Ex}(h:J prog w Γ e f)(he:isTrue e Γ.env (eval e Γ.env)=(do let v ←eval e Γ.env;standAt e.pos;holding [v] (truthy v)):=by rfl): JT prog w Γ e (ZA f):=by
 intro W ρ H fr s Q E b H' r hf post
 obtain⟨p,e1,hf⟩:=Zz0.mp hf
 obtain⟨c,e2,e3⟩:=Zz1.mp hf
 cases e3
 refine isTrue_plain (h W ρ H fr s _ E _ _ r e1 fun W1 k1 t1 x l1 r1 x1=>?_) he
 exact truth Γ W1 ρ _ fr _ _ E _ x b r1 x1 e2 fun W2 k2 t2 l2 r2=>post W2 k2 t2 (l1.trans l2) r2
theorem Z8{e1 e2:Expr}{op:CmpOp}{pos:Pos}{f g:Ex}{o:V→V→Hp→Option (V×Hp)}(h1:J prog w Γ e1 f)(h2:J prog w Γ e2 g)(ho:Op2 prog w (compareOp op) o)(hm:behindInMarks op e2=false:=by with_unfolding_all rfl): JT prog w Γ (.Compare e1 [op] [e2] pos) (ZA (Zc o f g)):=by
 intro W ρ H fr s Q E b H' r hf post
 obtain⟨pp,e0,hf0⟩:=Zz0.mp hf
 obtain⟨c,e4,e5⟩:=Zz1.mp hf0
 cases e5
 obtain⟨p,e1,hf⟩:=Zz0.mp e0
 obtain⟨q,e2,e3⟩:=Zz0.mp hf
 refine wpAny_isTrue_Compare1 (h1 W ρ H fr s _ E _ _ r e1 fun W1 k1 t1 x l1 r1 x1=>?_) hm
 refine h2 W1 ρ _ fr _ _ E _ _ r1 e2 fun W2 k2 t2 y l2 r2 y2=>?_
 refine ho Γ W2 ρ _ fr _ _ E _ _ x y _ _ r2 (x1.mono l2) y2 e3 fun W3 k3 t3 z l3 r3 z3=>?_
 exact truth Γ W3 ρ _ fr _ _ E _ z b r3 z3 e4 fun W4 k4 t4 l4 r4=>post W4 k4 t4 (((l1.trans l2).trans l3).trans l4) r4
end
end PM
end
section
namespace PM
open PySem PyProof.Rows PyProof
noncomputable def ZbT(a b:Int): Bool:=!(decide (Builtin.Int.intBits a>shortFactorBits) && decide (Builtin.Int.intBits b>shortFactorBits) && Builtin.Int.intTooBig (Builtin.Int.intBits a+Builtin.Int.intBits b))
theorem ZmY{a b:Int}(h:ZbT a b=true): IntMulOk a b:=by
 unfold ZbT at h
 unfold IntMulOk
 intro c
 rw[c]at h
 cases h
noncomputable def Za7: V→V→Hp→Option (V×Hp)
 | .int a,.int b,H=>some (.int (a-b),H)
 | _,_,_=>none
noncomputable def oDiv: V→V→Hp→Option (V×Hp)
 | .int a,.int b,H=>if b≠0∧Builtin.divisionGoesByPylong a b=false then some (.int (a.fdiv b),H)else none
 | _,_,_=>none
noncomputable def oMod: V→V→Hp→Option (V×Hp)
 | .int a,.int b,H=>if b≠0 then some (.int (a.fmod b),H)else none
 | _,_,_=>none
noncomputable def oPow: V→V→Hp→Option (V×Hp)
 | .int a,.int b,H=>if 0≤b∧(Builtin.Int.intBits a:Int)*b≤2 ^ 27 then some (.int (a ^ b.toNat),H)else none
 | _,_,_=>none
noncomputable def Zdf: V→Hp→Option (V×Hp)
 | .int a,H=>some (.int (-a),H)
 | _,_=>none
noncomputable def Zfj(p:Int→Int→Bool): V→V→Hp→Option (V×Hp)
 | .int a,.int b,H=>some (.bool (p a b),H)
 | _,_,_=>none
noncomputable def oLt:=Zfj fun a b=>decide (a<b)
noncomputable def oLe:=Zfj fun a b=>decide (a≤b)
noncomputable def oGt:=Zfj fun a b=>decide (b<a)
noncomputable def oGe:=Zfj fun a b=>decide (b≤a)
section
variable {prog:Program} {w:World}
theorem Zbw: Op2 prog w (binaryOp .Sub) Za7:=by
 intro Γ W ρ H fr s Q E a b x y v H' r hx hy ho post
 cases hx <;> first|exact Zx0 ho|(cases ho;done)| skip
 cases hy <;> first|exact Zx0 ho|(cases ho;done)| skip
 cases ho
 exact PySem.P.sub_int (post W s.heap _ _ (.refl W) r (.int _ _))
theorem ok_mod: Op2 prog w (binaryOp .Mod) oMod:=by
 intro Γ W ρ H fr s Q E a b x y v H' r hx hy ho post
 cases hx <;> first|exact Zx0 ho|(cases ho;done)| skip
 cases hy <;> first|exact Zx0 ho|(cases ho;done)| skip
 rename_i i t j u
 simp only[oMod]at ho
 by_cases hb:j≠0
 ·rw[if_pos hb]at ho
  cases ho
  exact mod_int' hb (post W s.heap _ _ (.refl W) r (.int _ _))
 ·rw[if_neg hb]at ho
  cases ho
theorem Zcu: Op2 prog w (binaryOp .FloorDiv) oDiv:=by
 intro Γ W ρ H fr s Q E a b x y v H' r hx hy ho post
 cases hx <;> first|exact Zx0 ho|(cases ho;done)| skip
 cases hy <;> first|exact Zx0 ho|(cases ho;done)| skip
 rename_i i t j u
 simp only[oDiv]at ho
 by_cases hb:j≠0∧Builtin.divisionGoesByPylong i j=false
 ·rw[if_pos hb]at ho
  cases ho
  exact floordiv_int hb.1 (post W s.heap _ _ (.refl W) r (.int _ _)) (.inl hb.2)
 ·rw[if_neg hb]at ho
  cases ho
theorem ZiE: Op2 prog w (binaryOp .Pow) oPow:=by
 intro Γ W ρ H fr s Q E a b x y v H' r hx hy ho post
 cases hx <;> first|exact Zx0 ho|(cases ho;done)| skip
 cases hy <;> first|exact Zx0 ho|(cases ho;done)| skip
 rename_i i t j u
 simp only[oPow]at ho
 by_cases hb:0≤j∧(Builtin.Int.intBits i:Int)*j≤2 ^ 27
 ·rw[if_pos hb]at ho
  cases ho
  exact pow_int hb.1 hb.2 (post W s.heap _ _ (.refl W) r (.int _ _))
 ·rw[if_neg hb]at ho
  cases ho
theorem ok_neg: Op1 prog w (unaryOp .USub) Zdf:=by
 intro Γ W ρ H fr s Q E a x v H' r hx ho post
 cases hx <;> first|exact Zx0 ho|(cases ho;done)| skip
 cases ho
 exact PySem.P.neg_int (post W s.heap _ _ (.refl W) r (.int _ _))
theorem Zd8: Op2 prog w (compareOp .Lt) oLt:=by
 intro Γ W ρ H fr s Q E a b x y v H' r hx hy ho post
 cases hx <;> first|exact Zx0 ho|(cases ho;done)| skip
 cases hy <;> first|exact Zx0 ho|(cases ho;done)| skip
 cases ho
 exact PySem.P.lt_int (post W s.heap s.toks _ (.refl W) r (.bool _))
theorem ZpV: Op2 prog w (compareOp .LtE) oLe:=by
 intro Γ W ρ H fr s Q E a b x y v H' r hx hy ho post
 cases hx <;> first|exact Zx0 ho|(cases ho;done)| skip
 cases hy <;> first|exact Zx0 ho|(cases ho;done)| skip
 cases ho
 exact PySem.P.le_int (post W s.heap s.toks _ (.refl W) r (.bool _))
theorem ok_gt: Op2 prog w (compareOp .Gt) oGt:=by
 intro Γ W ρ H fr s Q E a b x y v H' r hx hy ho post
 cases hx <;> first|exact Zx0 ho|(cases ho;done)| skip
 cases hy <;> first|exact Zx0 ho|(cases ho;done)| skip
 cases ho
 exact PySem.P.gt_int (post W s.heap s.toks _ (.refl W) r (.bool _))
end
end PM
end
section
namespace PM
open PySem PyProof.Rows PyProof
noncomputable def Zeh(f:V→Option PyData): List V→Option (List PyData)
 | []=>some []
 | v::vs=>(f v).bind fun d=>(Zeh f vs).bind fun ds=>some (d::ds)
noncomputable def toD(H:Hp): Nat→V→Option PyData
 | _,.none=>some .none
 | _,.bool b=>some (.bool b)
 | _,.int i=>some (.int i)
 | _,.str x=>some (.str x)
 | n+1,.tup vs=>(Zeh (toD H n) vs).map .tuple
 | n+1,.ref a=>H[a]?.bind fun vs=>(Zeh (toD H n) vs).map .list
 | 0,.tup _=>none
 | 0,.ref _=>none
 | _,.obj _ _=>none
theorem ZhE{W:Wd}{h:Heap}{f:V→Option PyData}(ih:∀v x d,VR W v x→f v=some d→∃as,Reads h x d as): ∀{vs:List V} {xs:List Value} {ds:List PyData},VRs W vs xs→Zeh f vs=some ds→∃as,ReadsAll h xs ds as
 | _,_,_,.nil,e=>by
  cases e
  exact⟨_,.nil⟩
 | _,_,_,.cons a r,e=>by
  obtain⟨d,e1,e⟩:=Zz0.mp e
  obtain⟨ds,e2,e3⟩:=Zz0.mp e
  cases e3
  obtain⟨as,h1⟩:=ih _ _ _ a e1
  obtain⟨bs,h2⟩:=ZhE ih r e2
  exact⟨_,.cons h1 h2⟩
theorem ZdW{Γ:Cx}{W:Wd}{ρ:Lc}{H:Hp}{fr:List (Addr×Obj)}{h:Heap}(r:Rep Γ W ρ H fr h): ∀(n:Nat) (v:V) (x:Value) (d:PyData),VR W v x→toD H n v=some d→∃as,Reads h x d as:=by
 intro n
 induction n with
 | zero=>
  intro v x d hv e
  cases hv with
  | none=>cases e;exact⟨_,.none⟩
  | bool b=>cases e;exact⟨_,.bool b⟩
  | int i t=>cases e;exact⟨_,.int i t⟩
  | str y t=>cases e;exact⟨_,.str y t⟩
  | tup _ _ _=>first|exact Zx0 e|cases e
  | ref _=>first|exact Zx0 e|cases e
  | obj _ _ _ _=>first|exact Zx0 e|cases e
 | succ n ih=>
  intro v x d hv e
  cases hv with
  | none=>cases e;exact⟨_,.none⟩
  | bool b=>cases e;exact⟨_,.bool b⟩
  | int i t=>cases e;exact⟨_,.int i t⟩
  | str y t=>cases e;exact⟨_,.str y t⟩
  | @tup vs a xs k hm hl hs=>
   obtain⟨ds,e1,e2⟩:=Zz1.mp e
   subst e2
   obtain⟨as,h1⟩:=ZhE ih hs e1
   exact⟨_,.tuple (r.tupAt hm) rfl rfl (by simpa using h1)⟩
  | @ref i a ea=>
   obtain⟨vs,e0,e⟩:=Zz0.mp e
   obtain⟨ds,e1,e2⟩:=Zz1.mp e
   subst e2
   obtain⟨hl,xs,k,hg,hs⟩:=r.at e0 ea
   obtain⟨as,h1⟩:=ZhE ih hs e1
   exact⟨_,.list hg rfl rfl (by simpa using h1)⟩
  | obj _ _ _ _=>first|exact Zx0 e|cases e
noncomputable def Za3: Nat:=40
noncomputable def Zci(a b:V)(H:Hp): Option Bool:=(toD H Za3 a).bind fun d=>(toD H Za3 b).bind fun e=>if SeqAt.shaped d=true∧SeqAt.shaped e=true then some (PyData.eqv d e)else none
noncomputable def oEq(a b:V)(H:Hp): Option (V×Hp):=(Zci a b H).map fun c=>(.bool c,H)
noncomputable def oNe(a b:V)(H:Hp): Option (V×Hp):=(Zci a b H).map fun c=>(.bool (!c),H)
noncomputable def oIs: V→V→Hp→Option (V×Hp)
 | .none,.none,H=>some (.bool true,H)
 | .bool _,.none,H=>some (.bool false,H)
 | .int _,.none,H=>some (.bool false,H)
 | .str _,.none,H=>some (.bool false,H)
 | .tup _,.none,H=>some (.bool false,H)
 | .ref _,.none,H=>some (.bool false,H)
 | .obj _ _,.none,H=>some (.bool false,H)
 | _,_,_=>none
noncomputable def Zdw(a b:V)(H:Hp): Option (V×Hp):=(oIs a b H).bind fun p=>match p.1 with | .bool c=>some (.bool (!c),p.2) | _=>none
section
variable {prog:Program} {w:World}
theorem ok_eq: Op2 prog w (compareOp .Eq) oEq:=by
 intro Γ W ρ H fr s Q E a b x y v H' r hx hy ho post
 obtain⟨c,e1,e2⟩:=Zz1.mp ho
 cases e2
 obtain⟨d,h1,e1⟩:=Zz0.mp e1
 obtain⟨e,h2,e1⟩:=Zz0.mp e1
 by_cases hs:SeqAt.shaped d=true∧SeqAt.shaped e=true
 ·rw[if_pos hs]at e1
  cases e1
  obtain⟨as,R1⟩:=ZdW r Za3 a x d hx h1
  obtain⟨bs,R2⟩:=ZdW r Za3 b y e hy h2
  exact eq_dataH R1 R2 hs.1 hs.2 (by have:=Γ.hu;omega) (post W s.heap s.toks _ (.refl W) r (.bool _))
 ·rw[if_neg hs]at e1
  cases e1
theorem ok_ne: Op2 prog w (compareOp .NotEq) oNe:=by
 intro Γ W ρ H fr s Q E a b x y v H' r hx hy ho post
 obtain⟨c,e1,e2⟩:=Zz1.mp ho
 cases e2
 obtain⟨d,h1,e1⟩:=Zz0.mp e1
 obtain⟨e,h2,e1⟩:=Zz0.mp e1
 by_cases hs:SeqAt.shaped d=true∧SeqAt.shaped e=true
 ·rw[if_pos hs]at e1
  cases e1
  obtain⟨as,R1⟩:=ZdW r Za3 a x d hx h1
  obtain⟨bs,R2⟩:=ZdW r Za3 b y e hy h2
  exact ne_dataH R1 R2 hs.1 hs.2 (by have:=Γ.hu;omega) (post W s.heap s.toks _ (.refl W) r (.bool _))
 ·rw[if_neg hs]at e1
  cases e1
theorem Zxb{a b:V}{H:Hp}{p:V×Hp}:oIs a b H=some p→b=.none:=by cases b <;> first|exact fun _=>rfl|(cases a <;> exact Zx0)
theorem Zgy: Op2 prog w (compareOp .Is) oIs:=by
 intro Γ W ρ H fr s Q E a b x y v H' r hx hy ho post
 have:=Zxb ho;subst this;cases hy
 refine PySem.is_none ?_
 cases hx <;> (cases ho;exact post W s.heap s.toks _ (.refl W) r (.bool _))
theorem ZmZ: Op2 prog w (compareOp .IsNot) Zdw:=by
 intro Γ W ρ H fr s Q E a b x y v H' r hx hy ho post
 obtain⟨p,h,_⟩:=Zz0.mp ho
 have:=Zxb h;subst this;cases hy
 refine PySem.isNot_none ?_
 cases hx <;> (cases ho;exact post W s.heap s.toks _ (.refl W) r (.bool _))
end
end PM
end
section
namespace PM
open PySem PyProof.Rows PyProof
noncomputable def Zl: V→V→Hp→Option (V×Hp)
 | .ref a,.int k,H=>H[a]?.bind fun vs=>(seqIndex? k vs.length).bind fun j=>vs[j]?.map fun v=>(v,H)
 | .tup vs,.int k,H=>(seqIndex? k vs.length).bind fun j=>vs[j]?.map fun v=>(v,H)
 | _,_,_=>none
theorem Zjv{k:Int}{n j:Nat}(h:seqIndex? k n=some j): j<n∧(k:Int)<n∧-(n:Int)≤k∧(0≤k→k.toNat=j)∧(k<0→(k+n).toNat=j):=by
 unfold seqIndex? at h
 by_cases c:k<0
 ·simp only[c,if_true]at h
  split at h
  ·rename_i d
   simp at d h
   omega
  ·first|exact Zx0 h|cases h
 ·simp only[c,if_false]at h
  split at h
  ·rename_i d
   simp at d h
   omega
  ·first|exact Zx0 h|cases h
section
variable {prog:Program} {w:World} {Γ:Cx}
theorem Zt{e1 e2:Expr}{pos:Pos}{f g:Ex}(h1:J prog w Γ e1 f)(h2:J prog w Γ e2 g)(hs:∀a k u,subscripted e2 false (.ref a) (.int k u)=operate [.ref a,.int k u] (getItem (.ref a) (.int k u)):=by intros;with_unfolding_all rfl): J prog w Γ (.Subscript e1 e2 pos) (Zc Zl f g):=by
 intro W ρ H fr s Q E v H' r hf post
 obtain⟨p,e1,hf⟩:=Zz0.mp hf
 obtain⟨q,e2,e3⟩:=Zz0.mp hf
 refine Subscript_ (h1 W ρ H fr s _ E _ _ r e1 fun W1 k1 t1 x l1 r1 x1=>?_)
 refine h2 W1 ρ _ fr _ _ E _ _ r1 e2 fun W2 k2 t2 y l2 r2 y2=>?_
 have x2:=x1.mono l2
 obtain⟨v1,H1⟩:=p
 obtain⟨v2,H2⟩:=q
 simp only at e3 r2 x2 y2
 cases y2 <;> first | (cases x2 <;> cases e3;done) | skip
 rename_i k u
 cases x2 <;> first|exact Zx0 e3|(cases e3;done)| skip
 ·rename_i vs a xs kk hm hl hv
  obtain⟨j,hj,e4⟩:=Zz0.mp e3
  obtain⟨z,hz,e5⟩:=Zz1.mp e4
  cases e5
  obtain⟨z',hz',rz⟩:=hv.at hz
  have hx:xs.length=vs.length:=hv.length
  have hb:=Zjv hj
  rw[Zab]at hl
  have it:IsTup k2 a xs.toArray:=⟨_,r2.tupAt hm,rfl,kk,rfl⟩
  exact item_tupleT it (by omega) (by omega) (by rw[hx];exact hj) hz' (post W2 k2 t2 z' (l1.trans l2) r2 rz) (hs _ _ _)
 ·rename_i i a ea
  obtain⟨vs,hvs,e3⟩:=Zz0.mp e3
  obtain⟨j,hj,e4⟩:=Zz0.mp e3
  obtain⟨z,hz,e5⟩:=Zz1.mp e4
  cases e5
  obtain⟨hl,xs,kk,hg,hv⟩:=r2.at hvs ea
  obtain⟨z',hz',rz⟩:=hv.at hz
  have hx:xs.length=vs.length:=hv.length
  have hb:=Zjv hj
  rw[Zab]at hl
  have isl:k2.IsList a xs.toArray:=⟨_,hg,rfl,kk,rfl⟩
  refine tail_any (s:={ s with heap:=k2,toks:=t2 }) isl.typeIs slot_list_getitem.lookup ?_ (hs _ _ _)
  by_cases hk:0≤k
  ·exact wpAny_getItem_list isl hk (by omega) (by rw[hb.2.2.2.1 hk];simpa using hz') (post W2 k2 t2 z' (l1.trans l2) r2 rz)
  ·refine wpAny_getItem_list_neg isl (by omega) (by simp;omega) (by omega) ?_ (post W2 k2 t2 z' (l1.trans l2) r2 rz)
   have:=hb.2.2.2.2 (by omega)
   rw[←hx]at this
   simpa [this]using hz'
end
noncomputable def Zbj{α:Type}(vs:List α)(lo hi:Option Int): List α:=(sliceRange (sliceBounds lo hi none vs.length).1 (sliceBounds lo hi none vs.length).2.1 (sliceBounds lo hi none vs.length).2.2).filterMap fun i=>vs[i]?
theorem VRs.pick{W:Wd}{vs:List V}{xs:List Value}(h:VRs W vs xs)(l:List Nat): VRs W (l.filterMap fun i=>vs[i]?) (l.filterMap fun i=>xs[i]?):=by
 induction l with
 | nil=>exact .nil
 | cons i l ih=>
  simp only[List.filterMap_cons]
  have hl:=h.length
  cases e:vs[i]? with
  | none=>
   have:xs[i]?=none:=by rw[List.getElem?_eq_none_iff]at e ⊢;omega
   rw[this]
   exact ih
  | some v=>
   obtain⟨x,hx,hr⟩:=h.at e
   rw[hx]
   exact .cons hr ih
theorem Zm0{α:Type}(vs:List α)(lo hi:Option Int): (Zbj vs lo hi).length≤vs.length:=by
 unfold Zbj
 refine Nat.le_trans (List.length_filterMap_le _ _) ?_
 refine sliceRange_length_le _ _ _ _ (fun _=>?_) fun c=>?_
 ·unfold sliceBounds
  cases lo <;> cases hi <;> simp <;> omega
 ·exact absurd (by unfold sliceBounds;simp) c
theorem Zm1{α:Type}(vs:List α)(a:Nat): ∀m:Nat,a+m≤vs.length→((List.range m).map fun k=>a+k).filterMap (fun i=>vs[i]?)=(vs.drop a).take m:=by
 intro m
 induction m with
 | zero=>intro _;simp
 | succ m ih=>
  intro h
  rw[List.range_succ,List.map_append,List.filterMap_append,ih (by omega),List.take_add_one]
  congr 1
  simp only[List.map_cons,List.map_nil,List.filterMap_cons,List.filterMap_nil,List.getElem?_drop]
  cases e:vs[a+m]? with
  | none=>rw[List.getElem?_eq_none_iff]at e;omega
  | some v=>rfl
theorem Zf2{α:Type}(vs:List α)(lo hi:Option Int){a b:Nat}(ha:(sliceBounds lo hi none vs.length).1=(a:Int))(hb:(sliceBounds lo hi none vs.length).2.1=(b:Int))(h:b≤vs.length): Zbj vs lo hi=(vs.drop a).take (b-a):=by
 have hc:(sliceBounds lo hi none vs.length).2.2=1:=by unfold sliceBounds;rfl
 unfold Zbj
 rw[ha,hb,hc]
 have e:sliceRange (a:Int) (b:Int) 1=(List.range (b-a)).map fun k=>a+k:=by
  unfold sliceRange
  simp only[show(1:Int)>0 from by decide,if_true]
  by_cases c:(a:Int)<b
  ·rw[if_pos c]
   have:((b:Int)-a+1-1) / 1=((b-a:Nat):Int):=by omega
   rw[this]
   simp only[Int.toNat_natCast]
   refine List.map_congr_left fun k _=>?_
   omega
  ·rw[if_neg c]
   have:b-a=0:=by omega
   rw[this]
   rfl
 rw[e]
 by_cases c:a≤b
 ·exact Zm1 vs a (b-a) (by omega)
 ·have:b-a=0:=by omega
  rw[this]
  simp
theorem ZjK{α:Type}(vs:List α){k:Int}{a:Nat}(e:k=(a:Int)): Zbj vs (some k) none=vs.drop a:=by
 by_cases h:a≤vs.length
 ·rw[Zf2 vs (some k) none (a:=a) (b:=vs.length) (by unfold sliceBounds;simp;omega) (by unfold sliceBounds;simp) (Zz10 _)]
  rw[List.take_of_length_le (by simp)]
 ·rw[Zf2 vs (some k) none (a:=vs.length) (b:=vs.length) (by unfold sliceBounds;simp;omega) (by unfold sliceBounds;simp) (Zz10 _)]
  simp
  omega
theorem ZnL{α:Type}(vs:List α){k:Int}{a:Nat}(e:k=(a:Int)): Zbj vs none (some k)=vs.take a:=by
 by_cases h:a≤vs.length
 ·rw[Zf2 vs none (some k) (a:=0) (b:=a) (by unfold sliceBounds;simp) (by unfold sliceBounds;simp;omega) h]
  simp
 ·rw[Zf2 vs none (some k) (a:=0) (b:=vs.length) (by unfold sliceBounds;simp) (by unfold sliceBounds;simp;omega) (Zz10 _)]
  rw[List.drop_zero,Nat.sub_zero,List.take_of_length_le (Zz10 _),List.take_of_length_le (by omega)]
noncomputable def Ze6: Option V→Option (Option Int)
 | none=>some none
 | some (.int k)=>some (some k)
 | _=>none
noncomputable abbrev Pt:=Lc→Hp→Option (Option V×Hp)
noncomputable def ZcL: Pt:=fun _ H=>some (none,H)
noncomputable def ZcM(f:Ex): Pt:=fun ρ H=>(f ρ H).map fun p=>(some p.1,p.2)
noncomputable def Zcv(f:Ex)(lo hi:Pt): Ex:=fun ρ H=>(f ρ H).bind fun p=>(lo ρ p.2).bind fun q=>(hi ρ q.2).bind fun u=>(Ze6 q.1).bind fun a=>(Ze6 u.1).bind fun b=>match p.1 with
 | .ref i=>u.2[i]?.bind fun vs=>some (.ref u.2.length,u.2++[Zbj vs a b])
 | _=>none
inductive VP(W:Wd): Option V→Value→Prop where
 | none:VP W none .none
 | some {v:V} {x:Value}:VR W v x→VP W (some v) x
theorem VP.mono{W W':Wd}{v:Option V}{x:Value}(l:W.Le W')(h:VP W v x): VP W' v x:=by
 cases h with
 | none=>exact .none
 | some h=>exact .some (h.mono l)
theorem VP.part{W:Wd}{v:Option V}{x:Value}{k:Option Int}(h:VP W v x)(e:Ze6 v=Option.some k): IsPart x k:=by
 cases h with
 | none=>cases e;exact .none
 | some h=>cases h <;> cases e;exact .int _ _
noncomputable def JP(prog:Program)(w:World)(Γ:Cx)(e:Option Expr)(f:Pt): Prop:=∀(W:Wd) (ρ:Lc) (H:Hp) (fr:List (Addr×Obj)) (s:Shared) (Q E:Value→Shared→Prop) (v:Option V) (H':Hp),
 Rep Γ W ρ H fr s.heap→f ρ H=some (v,H')→(∀(W':Wd) (h':Heap) (tk':Nat) (x:Value),W.Le W'→Rep Γ W' ρ H' fr h'→VP W' v x→Q x { s with heap:=h',toks:=tk' })→wpAny (model prog w) Γ.A (evalPart e Γ.env) Q E s
section
variable {prog:Program} {w:World} {Γ:Cx}
theorem JP.none: JP prog w Γ none ZcL:=fun W ρ H fr s Q E v H' r hf post=>by
 cases hf
 exact wpAny_evalPart_none (post W s.heap s.toks _ (.refl W) r .none)
theorem JP.some{e:Expr}{f:Ex}(h:J prog w Γ e f): JP prog w Γ (some e) (ZcM f):=fun W ρ H fr s Q E v H' r hf post=>by
 obtain⟨p,e1,e2⟩:=Zz1.mp hf
 cases e2
 exact wpAny_evalPart_some (h W ρ H fr s _ E _ _ r e1 fun W1 k1 t1 x l1 r1 x1=>post W1 k1 t1 x l1 r1 (.some x1))
theorem ZeK{e:Expr}{lo hi:Option Expr}{p pos:Pos}{f:Ex}{a b:Pt}(h:J prog w Γ e f)(hlo:JP prog w Γ lo a)(hhi:JP prog w Γ hi b)(ht:∀o r,letTemporaryGo e o r=pure ():=by intro _ _;rfl): J prog w Γ (.Subscript e (.Slice lo hi Option.none p) pos) (Zcv f a b):=by
 intro W ρ H fr s Q E v H' r hf post
 obtain⟨p,e1,hf⟩:=Zz0.mp hf
 obtain⟨q,e2,hf⟩:=Zz0.mp hf
 obtain⟨u,e3,hf⟩:=Zz0.mp hf
 obtain⟨ka,e4,hf⟩:=Zz0.mp hf
 obtain⟨kb,e5,hf⟩:=Zz0.mp hf
 refine wpAny_Subscript_list_slice (h W ρ H fr s _ E _ _ r e1 fun W1 k1 t1 x l1 r1 x1=>?_) ht
 refine hlo W1 ρ _ fr _ _ E _ _ r1 e2 fun W2 k2 t2 y l2 r2 y2=>?_
 refine hhi W2 ρ _ fr _ _ E _ _ r2 e3 fun W3 k3 t3 z l3 r3 z3=>?_
 have x3:=x1.mono (l2.trans l3)
 obtain⟨v1,H1⟩:=p
 simp only at hf x3
 cases x3 with
 | none=>first|exact Zx0 hf|cases hf
 | bool _=>first|exact Zx0 hf|cases hf
 | int _ _=>first|exact Zx0 hf|cases hf
 | str _ _=>first|exact Zx0 hf|cases hf
 | tup _ _ _=>first|exact Zx0 hf|cases hf
 | obj _ _ _ _=>first|exact Zx0 hf|cases hf
 | @ref i a ea=>
  obtain⟨vs,hvs,e6⟩:=Zz0.mp hf
  cases e6
  obtain⟨hl,xs,kk,hg,hv⟩:=r3.at hvs ea
  have isl:k3.IsList a xs.toArray:=⟨_,hg,rfl,kk,rfl⟩
  refine⟨a,xs.toArray,ka,kb,rfl,isl,Zb2 (by simp[hv.length];exact hl),(y2.mono l3).part e4,z3.part e5,?_⟩
  have hp:VRs W3 (Zbj vs ka kb) (Zbj xs ka kb):=by
   unfold Zbj
   rw[hv.length]
   exact hv.pick _
  have hx:slicePick xs.toArray ka kb Option.none=(Zbj xs ka kb).toArray:=by
   unfold slicePick Zbj
   simp
  obtain⟨W4,l4,r4,v4⟩:=(r3.push { cls:=.type "slice",data:=.fields #[y,z,.none] }).list (k:=0) hp (Nat.le_trans (Zm0 vs ka kb) hl)
  rw[hx]
  have:=post W4 _ t3 _ (((l1.trans l2).trans l3).trans l4) r4 v4
  rw[Heap.size_push]at this
  exact this
end
end PM
end
section
namespace PM
open PySem PyProof.Rows PyProof
noncomputable def Nm(prog:Program)(w:World)(Γ:Cx)(x:Str)(v:Value): Prop:=∀(pos:Pos) (m:Str→Option Value) (s:Shared) (Q E:Value→Shared→Prop),Fr Γ.h₀ Γ.L s.heap m→Q v s→wpAny (model prog w) Γ.A (eval (.Name x pos) Γ.env) Q E s
theorem Nm.use{prog:Program}{w:World}{Γ:Cx}{x:Str}{y:Value}(h:Nm prog w Γ x y){pos:Pos}{W:Wd}{ρ:Lc}{H:Hp}{fr:List (Addr×Obj)}{s:Shared}{Q E:Value→Shared→Prop}(r:Rep Γ W ρ H fr s.heap)(q:Q y s): wpAny (model prog w) Γ.A (eval (.Name x pos) Γ.env) Q E s:=by
 obtain⟨m,c,led,r⟩:=r
 exact h pos m s Q E r.F q
noncomputable def OpN(prog:Program)(w:World)(m:List Value→Sem Value)(o:List V→Hp→Option (V×Hp)): Prop:=∀(Γ:Cx) (W:Wd) (ρ:Lc) (H:Hp) (fr:List (Addr×Obj)) (s:Shared) (Q E:Value→Shared→Prop) (as:List V) (xs:List Value) (v:V) (H':Hp),
 Rep Γ W ρ H fr s.heap→VRs W as xs→o as H=some (v,H')→ZdI Γ W ρ H' fr s Q v→wpAny (model prog w) Γ.A (m xs) Q E s
noncomputable def Zk(o:List V→Hp→Option (V×Hp))(g:ZX): Ex:=fun ρ H=>(g ρ H).bind fun p=>o p.1 p.2
section
variable {prog:Program} {w:World} {Γ:Cx}
theorem Za4{x:Str}{np pos:Pos}{id:String}{e:Expr}{es:List Expr}{g:ZX}{o:List V→Hp→Option (V×Hp)}(hn:Nm prog w Γ x (.builtin id))(h:Js prog w Γ (e::es) g)(ho:OpN prog w (fun xs=>call (.builtin id) xs) o)
  (he:starEach (e::es) Γ.env=(false,eval e Γ.env)::starEach es Γ.env:=by rfl) (hp:∀pos,(backTo pos (starEach es Γ.env)).any (·.1)=false:=by intro _;rfl):J prog w Γ (.Call (.Name x np) (e::es) [] pos) (Zk o g):=by
 intro W ρ H fr s Q E v H' r hf post
 obtain⟨p,e1,hf⟩:=Zz0.mp hf
 refine wpAny_Call_ofName (hn.use r ?_)
 refine callWith_builtin1 (h pos W ρ H fr s _ E _ _ r e1 fun W1 k1 t1 xs l1 r1 x1=>?_) he (hp pos)
 exact ho Γ W1 ρ _ fr _ Q E _ xs v H' r1 x1 hf fun W2 k2 t2 y l2 r2 y2=>post W2 k2 t2 y (l1.trans l2) r2 y2
theorem Zdr{x:Str}{np pos:Pos}{T:String}{e:Expr}{es:List Expr}{g:ZX}{o:List V→Hp→Option (V×Hp)}(hn:Nm prog w Γ x (.type T))(h:Js prog w Γ (e::es) g)(ho:OpN prog w (fun xs=>call (.type T) xs) o)
  (he:starEach (e::es) Γ.env=(false,eval e Γ.env)::starEach es Γ.env:=by rfl) (hp:∀pos,(backTo pos (starEach es Γ.env)).any (·.1)=false:=by intro _;rfl):J prog w Γ (.Call (.Name x np) (e::es) [] pos) (Zk o g):=by
 intro W ρ H fr s Q E v H' r hf post
 obtain⟨p,e1,hf⟩:=Zz0.mp hf
 refine wpAny_Call_ofName (hn.use r ?_)
 refine PySem.Pv.callWith_type1 (h pos W ρ H fr s _ E _ _ r e1 fun W1 k1 t1 xs l1 r1 x1=>?_) he (hp pos)
 exact ho Γ W1 ρ _ fr _ Q E _ xs v H' r1 x1 hf fun W2 k2 t2 y l2 r2 y2=>post W2 k2 t2 y (l1.trans l2) r2 y2
end
noncomputable def Zcg: V→String
 | .none=>"NoneType"
 | .bool _=>"bool"
 | .int _=>"int"
 | .str _=>"str"
 | .tup _=>"tuple"
 | .ref _=>"list"
 | .obj _ _=>"object"
noncomputable def ZaX(T:String)(v:V): Bool:=Zcg v == T || (T == "int" && Zcg v == "bool")
noncomputable def ZbU: V→Bool
 | .obj _ _=>true
 | _=>false
noncomputable def eIs(T:String)(f:Ex): Ex:=fun ρ H=>(f ρ H).bind fun p=>if ZbU p.1 then none else some (.bool (ZaX T p.1),p.2)
section
variable {prog:Program} {w:World} {Γ:Cx}
theorem isinst{T:String}(hT:T="int"∨T="bool"∨T="list"∨T="tuple"){W:Wd}{ρ:Lc}{H:Hp}{fr:List (Addr×Obj)}{s:Shared}{Q E:Value→Shared→Prop}{a:V}{x:Value}(r:Rep Γ W ρ H fr s.heap)(hx:VR W a x)(hin:∀i,a=.ref i→i<H.length)(hob:ZbU a=false)
  (post:∀tk,Q (.bool (ZaX T a)) { s with toks:=tk }):wpAny (model prog w) Γ.A (call (.builtin "isinstance") [x,.type T]) Q E s:=by
 cases hx with
 | none=>
      rcases hT with e | e | e | e <;> subst e
      ·exact call_isinstance (isinstance_false_none (by decide +kernel) F.isi_meta_int (by rw[isSubtype_type];kernel_rfl)) (post _)
      ·exact call_isinstance (isinstance_false_none (by decide +kernel) F.isi_meta_bool (by rw[isSubtype_type];kernel_rfl)) (post _)
      ·exact call_isinstance (isinstance_false_none (by decide +kernel) F.isi_meta_list (by rw[isSubtype_type];kernel_rfl)) (post _)
      ·exact call_isinstance (isinstance_false_none (by decide +kernel) F.isi_meta_tuple (by rw[isSubtype_type];kernel_rfl)) (post _)
 | bool b=>
       rcases hT with e | e | e | e <;> subst e
       ·exact IsiPair.bool_int (post s.toks)
       ·exact IsiPair.bool_bool (post s.toks)
       ·exact IsiPair.bool_list (post _)
       ·exact IsiPair.bool_tuple (post _)
 | int i t=>
       rcases hT with e | e | e | e <;> subst e
       ·exact IsiPair.int_int (post s.toks)
       ·exact IsiPair.int_bool (post _)
       ·exact IsiPair.int_list (post _)
       ·exact IsiPair.int_tuple (post _)
 | str y t=>
       rcases hT with e | e | e | e <;> subst e
       ·exact IsiPair.str_int (post _)
       ·exact IsiPair.str_bool (post _)
       ·exact IsiPair.str_list (post _)
       ·exact IsiPair.str_tuple (post _)
 | tup hm hl hs=>
  have hg:=r.tupAt hm
  rcases hT with e | e | e | e <;> subst e
  ·exact IsiPair.tuple_int hg rfl (post _)
  ·exact IsiPair.tuple_bool hg rfl (post _)
  ·exact IsiPair.tuple_list hg rfl (post _)
  ·exact IsiPair.tuple_tuple hg rfl (post s.toks)
 | @ref i a ea=>
  obtain⟨hl,xs,k,hg,hv⟩:=r.at (Zy1 (hin i rfl)) ea
  rcases hT with e | e | e | e <;> subst e
  ·exact IsiPair.list_int hg rfl (post _)
  ·exact IsiPair.list_bool hg rfl (post _)
  ·exact IsiPair.list_list hg rfl (post s.toks)
  ·exact IsiPair.list_tuple hg rfl (post _)
 | obj _ _ _ _=>first|exact Zx0 hob|cases hob
end
theorem Rep.refIn{Γ:Cx}{W:Wd}{ρ:Lc}{H:Hp}{fr:List (Addr×Obj)}{h:Heap}{i:Nat}{x:Value}(r:Rep Γ W ρ H fr h)(hx:VR W (.ref i) x): i<H.length:=by
 obtain⟨m,c,led,r⟩:=r
 cases hx with
 | ref e=>rw[←r.R.len];exact(Zz6.mp e.1).1
section
variable {prog:Program} {w:World} {Γ:Cx}
theorem Zdo{np tp pos:Pos}{x y:Str}{T:String}{e:Expr}{f:Ex}(hn:Nm prog w Γ x (.builtin "isinstance"))(hy:Nm prog w Γ y (.type T))(hT:T="int"∨T="bool"∨T="list"∨T="tuple")(h:J prog w Γ e f)
  (he:starEach [e,.Name y tp] Γ.env=(false,eval e Γ.env)::starEach [.Name y tp] Γ.env:=by rfl) (hp:∀pos,(backTo pos (starEach [.Name y tp] Γ.env)).any (·.1)=false:=by intro _;rfl):J prog w Γ (.Call (.Name x np) [e,.Name y tp] [] pos) (eIs T f):=by
 intro W ρ H fr s Q E v H' r hf post
 obtain⟨p,e1,e2⟩:=Zz0.mp hf
 by_cases hob:ZbU p.1=true
 ·rw[if_pos hob]at e2;cases e2
 rw[if_neg hob]at e2
 cases e2
 refine wpAny_Call_ofName (hn.use r ?_)
 refine callWith_builtin1 (wpAny_items_cons (h W ρ H fr s _ E _ _ r e1 fun W1 k1 t1 z l1 r1 z1=>?_) he) he (hp pos)
 refine wpAny_items_cons (hy.use (s:={ s with heap:=k1,toks:=t1 }) r1 ?_)
 refine wpAny_items_nil ?_
 exact PM.isinst hT r1 z1 (fun i e=>by rw[e]at z1;exact r1.refIn z1) (by simpa using hob) fun tk=>post W1 k1 tk _ l1 r1 (.bool _)
end
noncomputable def Zan: List V→Hp→Option (V×Hp)
 | [.ref a],H=>H[a]?.map fun vs=>(.int vs.length,H)
 | [.tup vs],H=>some (.int vs.length,H)
 | _,_=>none
noncomputable def Zcb: List V→Hp→Option (V×Hp)
 | [.int a],H=>some (.int (if a<0 then -a else a),H)
 | _,_=>none
noncomputable def Ze7: List V→Hp→Option (V×Hp)
 | [.int a,.int b],H=>some (.int (if b>a then b else a),H)
 | _,_=>none
noncomputable def ZdF: List V→Hp→Option (V×Hp)
 | [.int a,.int b],H=>some (.int (if b<a then b else a),H)
 | _,_=>none
noncomputable def ZcH: List V→Option (List Int)
 | []=>some []
 | .int k::vs=>(ZcH vs).map fun ks=>k::ks
 | _::_=>none
noncomputable def Zfk: List V→Hp→Option (V×Hp)
 | [.ref a],H=>H[a]?.bind fun vs=>(ZcH vs).map fun ks=>(.int ks.sum,H)
 | _,_=>none
theorem VRs.one{W:Wd}{v:V}{xs:List Value}(h:VRs W [v] xs): ∃x,xs=[x]∧VR W v x:=by
 cases h with
 | cons a b=>cases b;exact⟨_,rfl,a⟩
theorem VRs.two{W:Wd}{v u:V}{xs:List Value}(h:VRs W [v,u] xs): ∃x y,xs=[x,y]∧VR W v x∧VR W u y:=by
 cases h with
 | cons a b=>obtain⟨y,e,r⟩:=b.one;subst e;exact⟨_,_,rfl,a,r⟩
theorem ZlV{W:Wd}: ∀{vs:List V} {xs:List Value} {ks:List Int},VRs W vs xs→ZcH vs=some ks→∃ts:Array (Int×Tok),xs.toArray=intItems ts∧preSum (numAt ts) ts.size=ks.sum:=by
 have key:∀{vs:List V} {xs:List Value} {ks:List Int},VRs W vs xs→ZcH vs=some ks→∃ts:List (Int×Tok),xs=ts.map (fun p=>Value.int p.1 p.2)∧ts.map (·.1)=ks:=by
  intro vs
  induction vs with
  | nil=>intro xs ks h e;cases h;cases e;exact⟨[],rfl,rfl⟩
  | cons v vs ih=>
   intro xs ks h e
   cases h with
   | cons a b=>
    cases v with
    | int i=>
     obtain⟨js,e1,e2⟩:=Zz1.mp e
     subst e2
     cases a with
     | int _ t=>
      obtain⟨ts,h1,h2⟩:=ih b e1
      exact⟨(i,t)::ts,by rw[h1];rfl,by rw[List.map_cons,h2]⟩
    | none=>first|exact Zx0 e|cases e
    | bool _=>first|exact Zx0 e|cases e
    | str _=>first|exact Zx0 e|cases e
    | tup _=>first|exact Zx0 e|cases e
    | ref _=>first|exact Zx0 e|cases e
    | obj _ _=>first|exact Zx0 e|cases e
 intro vs xs ks h e
 obtain⟨ts,h1,h2⟩:=key h e
 refine⟨ts.toArray,by rw[h1];simp[intItems],?_⟩
 rw[preSum_eq,List.take_of_length_le (by simp),←h2]
noncomputable def Z0: V→V→Hp→Option (V×Hp)
 | .int a,.int b,H=>some (.int (a+b),H)
 | .ref a,.ref b,H=>H[a]?.bind fun vs=>H[b]?.bind fun us=>if(vs++us).length≤ZM then some (.ref H.length,H++[vs++us])else none
 | .tup vs,.tup us,H=>if(vs++us).length≤ZM then some (.tup (vs++us),H)else none
 | _,_,_=>none
noncomputable def ZdJ(vs:List V): Nat→List V
 | 0=>[]
 | n+1=>ZdJ vs n++vs
noncomputable def Zcj: V→V→Hp→Option (V×Hp)
 | .int a,.int b,H=>if ZbT a b=true then some (.int (a*b),H)else none
 | .ref a,.int k,H=>H[a]?.bind fun vs=>if vs.length*k.toNat≤ZM∧-(2 ^ 63:Int)≤k∧k<2 ^ 63 then some (.ref H.length,H++[ZdJ vs k.toNat])else none
 | _,_,_=>none
section
variable {prog:Program} {w:World}
theorem ok_len: OpN prog w (fun xs=>call (.builtin "len") xs) Zan:=by
 intro Γ W ρ H fr s Q E as xs v H' r hx ho post
 unfold Zan at ho
 split at ho
 ·rename_i a
  obtain⟨vs,e1,e2⟩:=Zz1.mp ho
  cases e2
  obtain⟨x,ex,rx⟩:=hx.one
  subst ex
  cases rx with
  | ref ea=>
   obtain⟨hl,ys,k,hg,hv⟩:=r.at e1 ea
   have isl:s.heap.IsList _ ys.toArray:=⟨_,hg,rfl,k,rfl⟩
   have e3:(ys.toArray.size:Int)=vs.length:=by simp[hv.length]
   rw[Zab]at hl
   refine Calls.call_len_list isl (by rw[e3];omega) ?_
   rw[e3]
   exact post W s.heap _ _ (.refl W) r (.int _ _)
 ·rename_i vs
  cases ho
  obtain⟨x,ex,rx⟩:=hx.one
  subst ex
  cases rx with
  | @tup _ a ys k hm hl hs=>
   have it:IsTup s.heap a ys.toArray:=⟨_,r.tupAt hm,rfl,k,rfl⟩
   have e3:(ys.toArray.size:Int)=vs.length:=by simp[hs.length]
   rw[Zab]at hl
   refine len_tuple it (by rw[e3];omega) ?_
   rw[e3]
   exact post W s.heap _ _ (.refl W) r (.int _ _)
 ·first|exact Zx0 ho|cases ho
theorem Zgj: OpN prog w (fun xs=>call (.builtin "abs") xs) Zcb:=by
 intro Γ W ρ H fr s Q E as xs v H' r hx ho post
 unfold Zcb at ho
 split at ho
 ·first|exact Zx0 ho|cases ho
  obtain⟨x,ex,rx⟩:=hx.one
  subst ex
  cases rx with
  | int i t=>exact call_abs_int fun u tk=>post W s.heap tk _ (.refl W) r (.int _ _)
 ·first|exact Zx0 ho|cases ho
theorem ZnM: OpN prog w (fun xs=>call (.builtin "max") xs) Ze7:=by
 intro Γ W ρ H fr s Q E as xs v H' r hx ho post
 unfold Ze7 at ho
 split at ho
 ·first|exact Zx0 ho|cases ho
  obtain⟨x,y,ex,rx,ry⟩:=hx.two
  subst ex
  cases rx with
  | int i t=>
   cases ry with
   | int j u=>
    refine max_two_ints Γ.hh fun h' tk up=>?_
    split
    ·rename_i c
     rw[if_pos c]at post
     exact post W h' tk _ (.refl W) (r.grown up) (.int _ _)
    ·rename_i c
     rw[if_neg c]at post
     exact post W h' tk _ (.refl W) (r.grown up) (.int _ _)
 ·first|exact Zx0 ho|cases ho
theorem ZnN: OpN prog w (fun xs=>call (.builtin "min") xs) ZdF:=by
 intro Γ W ρ H fr s Q E as xs v H' r hx ho post
 unfold ZdF at ho
 split at ho
 ·first|exact Zx0 ho|cases ho
  obtain⟨x,y,ex,rx,ry⟩:=hx.two
  subst ex
  cases rx with
  | int i t=>
   cases ry with
   | int j u=>
    refine min_two_ints Γ.hh fun h' tk up=>?_
    split
    ·rename_i c
     rw[if_pos c]at post
     exact post W h' tk _ (.refl W) (r.grown up) (.int _ _)
    ·rename_i c
     rw[if_neg c]at post
     exact post W h' tk _ (.refl W) (r.grown up) (.int _ _)
 ·first|exact Zx0 ho|cases ho
theorem ZoP: OpN prog w (fun xs=>call (.builtin "sum") xs) Zfk:=by
 intro Γ W ρ H fr s Q E as xs v H' r hx ho post
 unfold Zfk at ho
 split at ho
 ·obtain⟨vs,e1,e2⟩:=Zz0.mp ho
  obtain⟨ks,e3,e4⟩:=Zz1.mp e2
  cases e4
  obtain⟨x,ex,rx⟩:=hx.one
  subst ex
  cases rx with
  | ref ea=>
   obtain⟨hl,ys,k,hg,hv⟩:=r.at e1 ea
   obtain⟨ts,h1,h2⟩:=ZlV hv e3
   have isl:s.heap.IsList _ (intItems ts):=⟨_,hg,rfl,k,by rw[←h1]⟩
   refine sum_intListG Γ.hh isl fun h' tk t' up=>?_
   rw[h2]
   exact post W h' tk _ (.refl W) (r.grown up) (.int _ _)
 ·first|exact Zx0 ho|cases ho
theorem ok_add: Op2 prog w (binaryOp .Add) Z0:=by
 intro Γ W ρ H fr s Q E a b x y v H' r hx hy ho post
 unfold Z0 at ho
 split at ho
 ·first|exact Zx0 ho|cases ho
  cases hx;cases hy
  exact PySem.P.add_int (post W s.heap _ _ (.refl W) r (.int _ _))
 ·obtain⟨vs,e1,ho⟩:=Zz0.mp ho
  obtain⟨us,e2,ho⟩:=Zz0.mp ho
  by_cases hl:(vs++us).length≤ZM
  ·rw[if_pos hl]at ho
   cases ho
   cases hx with
   | ref ea=>
   cases hy with
   | ref eb=>
   obtain⟨l1,ys,k,hg,hv⟩:=r.at e1 ea
   obtain⟨l2,zs,k2,hg2,hv2⟩:=r.at e2 eb
   obtain⟨m,c,led,r'⟩:=r
   have i1:s.heap.IsList _ ys.toArray:=⟨_,hg,rfl,k,rfl⟩
   have i2:s.heap.IsList _ zs.toArray:=⟨_,hg2,rfl,k2,rfl⟩
   refine add_lists (hsz:=Zb2 (by rw[hv.length,hv2.length,←List.length_append];exact hl)) r'.F r'.N i1 i2 fun h' F' N'=>?_
   obtain⟨W2,le2,r2,v2⟩:=r'.newList F' N' r'.off (hv.append hv2) hl
   exact post W2 h' s.toks _ le2 r2 v2
  ·rw[if_neg hl]at ho
   cases ho
 ·rename_i vs us
  by_cases hl:(vs++us).length≤ZM
  ·rw[if_pos hl]at ho
   cases ho
   cases hx with
   | @tup _ a ys k hm h1 hv=>
   cases hy with
   | @tup _ b zs k2 hm2 h2 hv2=>
   have t1:IsTup s.heap a ys.toArray:=⟨_,r.tupAt hm,rfl,k,rfl⟩
   have t2:IsTup s.heap b zs.toArray:=⟨_,r.tupAt hm2,rfl,k2,rfl⟩
   have r0:=r
   obtain⟨m,c,led,r'⟩:=r
   refine add_tuples (hsz:=Zb2 (by rw[hv.length,hv2.length,←List.length_append];exact hl)) r'.F r'.N t1 t2 (fun e=>?_) (fun _ e=>?_) fun _ _ h' F' N'=>?_
   ·have:vs=[]:=List.length_eq_zero_iff.mp (by rw[←hv.length,e];rfl)
    subst this
    exact post W s.heap s.toks _ (.refl W) r0 (.tup hm2 h2 hv2)
   ·have:us=[]:=List.length_eq_zero_iff.mp (by rw[←hv2.length,e];rfl)
    subst this
    rw[List.append_nil]at post
    exact post W s.heap s.toks _ (.refl W) r0 (.tup hm h1 hv)
   ·obtain⟨W2,le2,r2,v2⟩:=r'.newTup F' N' r'.off (hv.append hv2) hl
    exact post W2 h' s.toks _ le2 r2 v2
  ·rw[if_neg hl]at ho
   cases ho
 ·first|exact Zx0 ho|cases ho
theorem Zj0(vs:List V): ∀n,(ZdJ vs n).length=vs.length*n
 | 0=>rfl
 | n+1=>by rw[ZdJ,List.length_append,Zj0 vs n,Nat.mul_succ]
theorem Zmq(xs:List Value)(n:Nat): ∀acc:Array Value,(List.foldl (fun x1 x2=>x1++x2) acc (List.replicate n xs.toArray))=acc++(List.replicate n xs).flatten.toArray:=by
 induction n with
 | zero=>intro acc;simp
 | succ n ih=>
  intro acc
  rw[List.replicate_succ,List.foldl_cons,ih,List.replicate_succ,List.flatten_cons]
  simp[Array.append_assoc]
theorem Zkm{W:Wd}{vs:List V}{xs:List Value}(h:VRs W vs xs): ∀n,VRs W (ZdJ vs n) (List.replicate n xs).flatten
 | 0=>.nil
 | n+1=>by
  rw[ZdJ,List.replicate_succ',List.flatten_append]
  simp only[List.flatten_cons,List.flatten_nil,List.append_nil]
  exact(Zkm h n).append h
theorem ok_mul: Op2 prog w (binaryOp .Mult) Zcj:=by
 intro Γ W ρ H fr s Q E a b x y v H' r hx hy ho post
 unfold Zcj at ho
 split at ho
 ·rename_i i j
  by_cases hm:ZbT i j=true
  ·rw[if_pos hm]at ho
   cases ho
   cases hx;cases hy
   exact PySem.P.mul_int (post W s.heap _ _ (.refl W) r (.int _ _)) (ZmY hm)
  ·rw[if_neg hm]at ho
   cases ho
 ·rename_i i k
  obtain⟨vs,e1,ho⟩:=Zz0.mp ho
  by_cases hc:vs.length*k.toNat≤ZM∧-(2 ^ 63:Int)≤k∧k<2 ^ 63
  ·rw[if_pos hc]at ho
   cases ho
   cases hx with
   | ref ea=>
   cases hy with
   | int _ u=>
   obtain⟨l1,ys,kk,hg,hv⟩:=r.at e1 ea
   obtain⟨m,c,led,r'⟩:=r
   have hl:=hc.1
   rw[Zab]at hl
   refine mul_list r'.F r'.N hg hc.2.1 hc.2.2 (by rw[List.size_toArray,hv.length];omega) fun h' F' N'=>?_
   have e2:(List.foldl (fun x1 x2=>x1++x2) #[] (List.replicate (if ys.toArray.isEmpty=true then 0 else k.toNat) ys.toArray))=(List.replicate k.toNat ys).flatten.toArray:=by
    cases ys with
    | nil=>
     simp
    | cons y0 ys0=>
     have:((y0::ys0).toArray.isEmpty=true)=False:=by simp
     simp only[this,if_false]
     rw[Zmq]
     simp
   rw[e2]at N'
   obtain⟨W2,le2,r2,v2⟩:=r'.newList F' N' r'.off (Zkm hv k.toNat) (by rw[Zj0];exact hc.1)
   exact post W2 h' s.toks _ le2 r2 v2
  ·rw[if_neg hc]at ho
   cases ho
 ·first|exact Zx0 ho|cases ho
end
end PM
end
section
namespace PM
open PySem PyProof.Rows PyProof
noncomputable def upd(ρ:Lc)(i:Nat)(v:V): Lc:=fun j=>if j=i then some v else ρ j
noncomputable abbrev Sm:=Lc→Hp→Option (Option V×Lc×Hp)
noncomputable def ZV: Sm:=fun ρ H=>some (none,ρ,H)
noncomputable def Zp(a b:Sm): Sm:=fun ρ H=>(a ρ H).bind fun p=>match p.1 with
 | some _=>some p
 | none=>b p.2.1 p.2.2
noncomputable def Zw(f:Ex): Sm:=fun ρ H=>(f ρ H).map fun p=>(some p.1,ρ,p.2)
noncomputable def Zu(i:Nat)(f:Ex): Sm:=fun ρ H=>(f ρ H).map fun p=>(none,upd ρ i p.1,p.2)
noncomputable def ZE(t:Ts)(a b:Sm): Sm:=fun ρ H=>(t ρ H).bind fun p=>if p.1 then a ρ p.2 else b ρ p.2
noncomputable def ZP(f:Ex): Sm:=fun ρ H=>(f ρ H).map fun p=>(none,ρ,p.2)
noncomputable def ZgM: V→V→V→Hp→Option Hp
 | .ref a,.int k,v,H=>H[a]?.bind fun vs=>if a≠0∧0≤k∧k<vs.length then some (H.set a (vs.set k.toNat v))else none
 | _,_,_,_=>none
noncomputable def ZdK(f o i:Ex): Sm:=fun ρ H=>(f ρ H).bind fun p=>(o ρ p.2).bind fun q=>(i ρ q.2).bind fun u=>(ZgM q.1 u.1 p.1 u.2).map fun K=>(none,ρ,K)
noncomputable def Zdx(t:Ts)(b:Sm): Nat→Sm
 | 0=>fun _ _=>none
 | n+1=>fun ρ H=>(t ρ H).bind fun p=>if p.1 then(b ρ p.2).bind fun q=>(match q.1 with
   | some _=>some q
   | none=>Zdx t b n q.2.1 q.2.2)else some (none,ρ,p.2)
noncomputable def PostS(Γ:Cx)(W:Wd)(fr:List (Addr×Obj))(s:Shared)(Q:Flow→Shared→Prop): Option V×Lc×Hp→Prop
 | (none,ρ',H')=>∀(W':Wd) (h':Heap) (tk':Nat),W.Le W'→Rep Γ W' ρ' H' fr h'→Q .next { s with heap:=h',toks:=tk' }
 | (some v,ρ',H')=>∀(W':Wd) (h':Heap) (tk':Nat) (x:Value),W.Le W'→Rep Γ W' ρ' H' fr h'→VR W' v x→Q (.ret x) { s with heap:=h',toks:=tk' }
theorem PostS.le{Γ:Cx}{W W':Wd}{fr:List (Addr×Obj)}{s:Shared}{h:Heap}{tk:Nat}{Q:Flow→Shared→Prop}{r:Option V×Lc×Hp}(l:W.Le W')(p:PostS Γ W fr s Q r): PostS Γ W' fr { s with heap:=h,toks:=tk } Q r:=by
 obtain⟨o,ρ',H'⟩:=r
 cases o with
 | none=>exact fun W2 h2 t2 l2 r2=>p W2 h2 t2 (l.trans l2) r2
 | some v=>exact fun W2 h2 t2 x l2 r2 x2=>p W2 h2 t2 x (l.trans l2) r2 x2
section
variable (prog:Program) (w:World)
noncomputable def S1(Γ:Cx)(st:Stmt)(g:Sm): Prop:=∀(W:Wd) (ρ:Lc) (H:Hp) (fr:List (Addr×Obj)) (s:Shared) (Q:Flow→Shared→Prop) (E:Value→Shared→Prop) (r:Option V×Lc×Hp),
 Rep Γ W ρ H fr s.heap→g ρ H=some r→PostS Γ W fr s Q r→wpAny (model prog w) Γ.A (exec st Γ.env) Q E s
noncomputable def Ss(Γ:Cx)(ss:List Stmt)(g:Sm): Prop:=∀(W:Wd) (ρ:Lc) (H:Hp) (fr:List (Addr×Obj)) (s:Shared) (Q:Flow→Shared→Prop) (E:Value→Shared→Prop) (r:Option V×Lc×Hp),
 Rep Γ W ρ H fr s.heap→g ρ H=some r→PostS Γ W fr s Q r→wpAny (model prog w) Γ.A (execs ss Γ.env) Q E s
noncomputable def Sto(Γ:Cx)(x:Str)(i:Nat): Prop:=∀(W:Wd) (ρ:Lc) (H:Hp) (fr:List (Addr×Obj)) (s:Shared) (Q:Unit→Shared→Prop) (E:Value→Shared→Prop) (v:V) (y:Value),
 Rep Γ W ρ H fr s.heap→VR W v y→(∀(h':Heap) (tk':Nat),Rep Γ W (upd ρ i v) H fr h'→Q () { s with heap:=h',toks:=tk' })→wpAny (model prog w) Γ.A (storeName Γ.env x y) Q E s
noncomputable def Rd(Γ:Cx)(x:Str)(i:Nat): Prop:=∀(W:Wd) (ρ:Lc) (H:Hp) (fr:List (Addr×Obj)) (s:Shared) (Q E:Value→Shared→Prop) (v:V) (pos:Pos),
 Rep Γ W ρ H fr s.heap→ρ i=some v→(∀y,VR W v y→Q y s)→wpAny (model prog w) Γ.A (eval (.Name x pos) Γ.env) Q E s
end
section
variable {prog:Program} {w:World} {Γ:Cx}
theorem ZJ{x:Str}{i:Nat}{pos:Pos}(h:Rd prog w Γ x i): J prog w Γ (.Name x pos) (Za i):=by
 intro W ρ H fr s Q E v H' r hf post
 obtain⟨u,e1,e2⟩:=Zz1.mp hf
 cases e2
 exact h W ρ H fr s Q E v pos r e1 fun y hy=>post W s.heap s.toks y (.refl W) r hy
theorem Zag: Ss prog w Γ [] ZV:=fun W ρ H fr s Q E r rp hf post=>by
 cases hf
 exact wpAny_execs_nil (post W s.heap s.toks (.refl W) rp)
theorem Zs{st:Stmt}{ss:List Stmt}{a b:Sm}(h1:S1 prog w Γ st a)(h2:Ss prog w Γ ss b): Ss prog w Γ (st::ss) (Zp a b):=by
 intro W ρ H fr s Q E r rp hf post
 obtain⟨p,e1,hf⟩:=Zz0.mp hf
 refine wpAny_execs_cons (h1 W ρ H fr s _ E p rp e1 ?_)
 obtain⟨o,ρ1,H1⟩:=p
 cases o with
 | some v=>
  cases hf
  exact fun W1 k1 t1 x l1 r1 x1=>post W1 k1 t1 x l1 r1 x1
 | none=>exact fun W1 k1 t1 l1 r1=>h2 W1 ρ1 H1 fr _ Q E r r1 hf (post.le l1)
theorem Zx{st:Stmt}{a:Sm}(h1:S1 prog w Γ st a): Ss prog w Γ [st] a:=by
 intro W ρ H fr s Q E r rp hf post
 refine wpAny_execs_cons (h1 W ρ H fr s _ E r rp hf ?_)
 obtain⟨o,ρ1,H1⟩:=r
 cases o with
 | some v=>exact fun W1 k1 t1 x l1 r1 x1=>post W1 k1 t1 x l1 r1 x1
 | none=>exact fun W1 k1 t1 l1 r1=>wpAny_execs_nil (post W1 k1 t1 l1 r1)
theorem ZH{e:Expr}{pos:Pos}{f:Ex}(h:J prog w Γ e f): S1 prog w Γ (.Return (some e) pos) (Zw f):=by
 intro W ρ H fr s Q E r rp hf post
 obtain⟨p,e1,e2⟩:=Zz1.mp hf
 cases e2
 exact wpAny_Return_some (h W ρ H fr s _ E _ _ rp e1 post)
theorem Zaa{t:Expr}{a b:List Stmt}{pos:Pos}{u:Ts}{f g:Sm}(ht:JT prog w Γ t u)(h1:Ss prog w Γ a f)(h2:Ss prog w Γ b g): S1 prog w Γ (.If t a b pos) (ZE u f g):=by
 intro W ρ H fr s Q E r rp hf post
 obtain⟨p,e1,hf⟩:=Zz0.mp hf
 refine wpAny_If (ht W ρ H fr s _ E _ _ rp e1 fun W1 k1 t1 l1 r1=>?_)
 obtain⟨c,H1⟩:=p
 cases c with
 | true=>exact h1 W1 ρ H1 fr _ Q E r r1 hf (post.le l1)
 | false=>exact h2 W1 ρ H1 fr _ Q E r r1 hf (post.le l1)
theorem Zba{e:Expr}{pos:Pos}{f:Ex}(h:J prog w Γ e f)(hi:interactive Γ.env=false:=by rfl)(hs:swapsWith e none pos.line Γ.env=pure false:=by rfl): S1 prog w Γ (.Expr e pos) (ZP f):=by
 intro W ρ H fr s Q E r rp hf post
 obtain⟨p,e1,e2⟩:=Zz1.mp hf
 cases e2
 exact wpAny_Expr_any (h W ρ H fr s _ E _ _ rp e1 fun W1 k1 t1 x l1 r1 x1=>post W1 k1 t1 l1 r1) hi hs
theorem ZU{x:Str}{i:Nat}{e:Expr}{pos' pos:Pos}{f:Ex}(hx:Sto prog w Γ x i)(h:J prog w Γ e f)(hs:swapsWith e (some (.Name x pos')) pos.line Γ.env=pure false:=by rfl): S1 prog w Γ (.Assign [.Name x pos'] e pos) (Zu i f):=by
 intro W ρ H fr s Q E r rp hf post
 obtain⟨p,e1,e2⟩:=Zz1.mp hf
 cases e2
 refine wpAny_Assign_Name (h W ρ H fr s _ E _ _ rp e1 fun W1 k1 t1 y l1 r1 y1=>?_) hs
 exact hx W1 ρ _ fr _ _ E _ y r1 y1 fun h' tk' r2=>post W1 h' tk' l1 r2
theorem Zm2{t:Expr}{a:List Stmt}{pos:Pos}{u:Ts}{f:Sm}(n:Nat)(ht:JT prog w Γ t u)(h1:Ss prog w Γ a f): S1 prog w Γ (.While t a [] pos) (Zdx u f n):=by
 intro W ρ H fr s Q E r rp hf post
 refine wpAny_While ?_
 refine codeAny_whileLoop (fun k s'=>∃W' ρ' H' h' tk',s' = { s with heap:=h',toks:=tk' }∧W.Le W'∧Rep Γ W' ρ' H' fr h'∧Zdx u f k ρ' H'=some r) ?_ n ⟨W,ρ,H,s.heap,s.toks,rfl,.refl W,rp,hf⟩
 rintro k s' ⟨W1,ρ1,H1,k1,t1,rfl,l1,r1,e⟩
 cases k with
 | zero=>first|exact Zx0 e|cases e
 | succ k=>
  obtain⟨p,e1,e⟩:=Zz0.mp e
  refine ht W1 ρ1 H1 fr _ _ _ _ _ r1 e1 fun W2 k2 t2 l2 r2=>?_
  obtain⟨c,H2⟩:=p
  cases c with
  | false=>
   cases e
   exact wpAny_execs_nil (post W2 k2 t2 (l1.trans l2) r2)
  | true=>
   obtain⟨q,e2,e⟩:=Zz0.mp e
   refine h1 W2 ρ1 H2 fr _ _ _ q r2 e2 ?_
   obtain⟨o,ρ3,H3⟩:=q
   cases o with
   | some v=>
    cases e
    exact fun W3 k3 t3 x l3 r3 x3=>post W3 k3 t3 x ((l1.trans l2).trans l3) r3 x3
   | none=>exact fun W3 k3 t3 l3 r3=>⟨k,Nat.lt_succ_self k,W3,ρ3,H3,k3,t3,rfl,(l1.trans l2).trans l3,r3,e⟩
end
noncomputable def Zb3: List V→Hp→Option (V×Hp)
 | [.ref a,v],H=>H[a]?.bind fun vs=>if a≠0∧vs.length<ZM then some (.none,H.set a (vs++[v]))else none
 | _,_=>none
section
variable {prog:Program} {w:World} {Γ:Cx}
theorem Zmr: OpN prog w (fun xs=>call (.builtin "list.append") xs) Zb3:=by
 intro Γ W ρ H fr s Q E as xs v H' r hx ho post
 unfold Zb3 at ho
 split at ho
 ·obtain⟨vs,e1,e2⟩:=Zz0.mp ho
  obtain⟨x,y,ex,rx,ry⟩:=hx.two
  subst ex
  split at e2
  ·rename_i hl
   cases e2
   cases rx with
   | @ref _ a0 ea=>
    obtain⟨_,ys,k,hg,hv⟩:=r.at e1 ea
    refine append_at (hsz:=Zb2 (by rw[List.size_toArray,hv.length];omega)) hg fun h' sb hg'=>?_
    have hg2:h'.get? a0=some (Za2 (ys++[y]) (k+1)):=by rw[hg'];simp
    exact post W h' s.toks _ (.refl W) (r.change hl.1 e1 ea sb hg2 (hv.snoc ry) (by simp;omega)) .none
  ·first|exact Zx0 e2|cases e2
 ·first|exact Zx0 ho|cases ho
end
end PM
end
section
namespace PM
open PySem PySem.W PyProof.Rows PyProof
theorem Zkn: ∀{l:List Value} {k:Nat} {v:Value},k<l.length→ki_setL l k v=some (l.set k v)
 | [],_,_,h=>by simp at h
 | x::r,0,v,_=>by simp[ki_setL]
 | x::r,k+1,v,h=>by
  have:=Zkn (l:=r) (k:=k) (v:=v) (by simpa using h)
  simp[ki_setL,this]
theorem Zms{a k v:V}{H K:Hp}(h:ZgM a k v H=some K): ∃i j vs,a=.ref i∧k=.int j∧H[i]?=some vs∧(i≠0∧0≤j∧j<vs.length)∧K=H.set i (vs.set j.toNat v):=by
 cases a <;> first|exact Zx0 h|(cases h;done)| skip
 cases k <;> first|exact Zx0 h|(cases h;done)| skip
 obtain⟨vs,e1,e2⟩:=Zz0.mp h
 split at e2
 ·rename_i c
  cases e2
  exact⟨_,_,vs,rfl,rfl,e1,c,rfl⟩
 ·first|exact Zx0 e2|cases e2
theorem ZlW{a v x:V}{H K:Hp}(h:Zb3 [a,v] H=some (x,K)): ∃i,a=.ref i:=by
 cases a <;> first|exact Zx0 h|(cases h;done)| skip
 exact⟨_,rfl⟩
noncomputable def Zau(o f:Ex): Ex:=fun ρ H=>(o ρ H).bind fun p=>(f ρ p.2).bind fun q=>Zb3 [p.1,q.1] q.2
section
variable {prog:Program} {w:World} {Γ:Cx}
theorem S1.put{o i value:Expr}{pos' pos:Pos}{f g k:Ex}(hf:J prog w Γ value f)(ho:J prog w Γ o g)(hi:J prog w Γ i k)(hs:swapsWith value (some (.Subscript o i pos')) pos.line Γ.env=pure false:=by rfl): S1 prog w Γ (.Assign [.Subscript o i pos'] value pos) (ZdK f g k):=by
 intro W ρ H fr s Q E r rp hx post
 obtain⟨p,e1,hx⟩:=Zz0.mp hx
 obtain⟨q,e2,hx⟩:=Zz0.mp hx
 obtain⟨u,e3,hx⟩:=Zz0.mp hx
 obtain⟨K,e4,e5⟩:=Zz1.mp hx
 cases e5
 refine wpAny_Assign_Subscript (hf W ρ H fr s _ E _ _ rp e1 fun W1 k1 t1 x l1 r1 x1=>?_) hs
 refine ho W1 ρ _ fr _ _ E _ _ r1 e2 fun W2 k2 t2 y l2 r2 y2=>?_
 refine hi W2 ρ _ fr _ _ E _ _ r2 e3 fun W3 k3 t3 z l3 r3 z3=>?_
 have x3:=x1.mono (l2.trans l3)
 have y3:=y2.mono l3
 obtain⟨b,kk,vs,eb,ek,hvs,hc,e6⟩:=Zms e4
 subst e6
 rw[eb]at y3
 rw[ek]at z3
 cases y3 with
 | @ref _ a ea=>
 cases z3 with
 | int _ tz=>
 obtain⟨hl,xs,n,hg,hv⟩:=r3.at hvs ea
 obtain⟨m,c,led,r'⟩:=r3
 have hll:=hl
 rw[Zab]at hll
 have hk:kk.toNat<xs.length:=by rw[hv.length];omega
 obtain⟨_,a',xs',n',h1,h2,h3⟩:=r'.R.lists b vs hvs ea.2
 rw[ea.1]at h1
 cases h1
 have h2:=r'.inLed hc.1 ea.1 h2
 have N2:News Γ.h₀ Γ.L k3 ((a,Za2 xs n)::led.filter (fun q=>decide (q.1≠a))):=by
  intro q hq
  rcases Zz7.mp hq with e | hq
  ·subst e
   exact⟨hg,(r'.N _ h2).2⟩
  ·exact r'.N q (List.mem_filter.mp hq).1
 refine ki_set (its:=xs.toArray) (n:=n) (q:=xs.set kk.toNat x) r'.F N2 hc.2.1 (by omega) (by simpa using Zkn hk) (Upd.head fun q hq=>by simpa using (List.mem_filter.mp hq).2) fun h' F' N'=>?_
 exact post W3 h' t3 ((l1.trans l2).trans l3) (r'.changed hc.1 hvs ea F' N' (hv.set _ x3) (by simpa using hl))
theorem J.append{o e:Expr}{apos pos:Pos}{f g:Ex}(ho:J prog w Γ o f)(he:J prog w Γ e g)(hbase:attributeBase o "append" Γ.env (eval o Γ.env)=eval o Γ.env:=by rfl)
  (hfew:((backTo pos (starEach [e] Γ.env)).all (fun x=>!x.1) && (backToKw pos (keywordEach [] Γ.env)).all (fun x=>x.1.isSome) && decide (([e]:List Expr).length+([]:List Keyword).length+(if([]:List Keyword).isEmpty then 0 else 1)<30))=true:=by rfl)
  (hline:(apos.endLine == pos.line)=true:=by rfl) (htrees:backTo pos (starEach [e] Γ.env)=[(false,eval e Γ.env)]:=by rfl):J prog w Γ (.Call (.Attribute o "append" apos) [e] [] pos) (Zau f g):=by
 intro W ρ H fr s Q E v H' r hx post
 obtain⟨p,e1,hx⟩:=Zz0.mp hx
 obtain⟨q,e2,e3⟩:=Zz0.mp hx
 refine wpAny_Call_append hbase hfew hline htrees (ho W ρ H fr s _ E _ _ r e1 fun W1 k1 t1 x l1 r1 x1=>?_)
 obtain⟨v1,H1⟩:=p
 obtain⟨b,hb⟩:=ZlW e3
 subst hb
 have hb:=r1.refIn x1
 cases x1 with
 | @ref _ a ea=>
 obtain⟨_,xs,n,hg,hv⟩:=r1.at (Zy1 hb) ea
 refine⟨a,xs.toArray,rfl,⟨_,n,hg,rfl,rfl,rfl⟩,?_⟩
 refine he W1 ρ _ fr _ _ E _ _ r1 e2 fun W2 k2 t2 y l2 r2 y2=>?_
 exact Zmr Γ W2 ρ _ fr _ Q E _ [.ref a,y] v H' r2 (.cons (.ref (l2.at ea)) (.cons y2 .nil)) e3 fun W3 k3 t3 z l3 r3 z3=>post W3 k3 t3 z ((l1.trans l2).trans l3) r3 z3
end
end PM
end
section
namespace PM
open PySem PySem.W PyProof.Rows PyProof
noncomputable abbrev Nx:=Nat→Hp→Option (Option V)
noncomputable def ZpW(Γ:Cx)(W:Wd)(ρ:Lc)(H:Hp)(fr:List (Addr×Obj))(s:Shared)(It:Nat→List (Addr×Obj)→Prop)(i:Nat)(Q:Option Value→Shared→Prop): Option V→Prop
 | none=>∀(h':Heap) (tk':Nat),Rep Γ W ρ H fr h'→Q none { s with heap:=h',toks:=tk' }
 | some v=>∀(fs':List (Addr×Obj)) (h':Heap) (tk':Nat) (x:Value),It (i+1) fs'→Rep Γ W ρ H (fs'++fr) h'→VR W v x→Q (some x) { s with heap:=h',toks:=tk' }
structure Itr(prog:Program)(w:World)(Γ:Cx)(W0:Wd)(it:Value)(as:List Addr)(It:Nat→List (Addr×Obj)→Prop)(nx:Nx): Prop where
 adr:∀i fs,It i fs→fs.map (·.1)=as
 next:∀(i:Nat) (W:Wd) (ρ:Lc) (H:Hp) (fr fs:List (Addr×Obj)) (s:Shared) (Q:Option Value→Shared→Prop) (E:Value→Shared→Prop) (o:Option V),W0.Le W→Rep Γ W ρ H (fs++fr) s.heap→(∀a∈as,∀t∈fr,a≠t.1)→It i fs→nx i H=some o →
  ZpW Γ W ρ H fr s It i Q o→wpAny (model prog w) Γ.A (pyNext it) Q E s
 self:∀(i:Nat) (W:Wd) (ρ:Lc) (H:Hp) (fr fs:List (Addr×Obj)) (s:Shared) (Q E:Value→Shared→Prop),W0.Le W→Rep Γ W ρ H (fs++fr) s.heap→It i fs→Q it s→wpAny (model prog w) Γ.A (pyIter it) Q E s
noncomputable abbrev Src:=Lc→Hp→Option (Nx×Nat×Hp)
noncomputable def JI(prog:Program)(w:World)(Γ:Cx)(e:Expr)(g:Src): Prop:=∀(W:Wd) (ρ:Lc) (H:Hp) (fr:List (Addr×Obj)) (s:Shared) (Q E:Value→Shared→Prop) (nx:Nx) (n:Nat) (H':Hp),
 Rep Γ W ρ H fr s.heap→g ρ H=some (nx,n,H') →
 (∀(W':Wd) (h':Heap) (tk':Nat) (it:Value) (as:List Addr) (It:Nat→List (Addr×Obj)→Prop) (fs:List (Addr×Obj)),W.Le W'→It 0 fs→Rep Γ W' ρ H' (fs++fr) h'→(∀a∈as,∀t∈fr,a≠t.1)→Itr prog w Γ W' it as It nx→Q it { s with heap:=h',toks:=tk' }) →
 wpAny (model prog w) Γ.A (eval e Γ.env) (fun xv s₁=>wpAny (model prog w) Γ.A (pyIter xv) Q E s₁) E s
noncomputable def Zal(a:Nat): Nx:=fun i H=>H[a]?.map fun vs=>vs[i]?
noncomputable def Zgk(vs:List V): Nx:=fun i _=>some vs[i]?
noncomputable def ZbO(a c:Int)(n:Nat): Nx:=fun i _=>some (if i<n then some (.int (a+i*c))else none)
noncomputable def Zaq(f:Ex): Src:=fun ρ H=>(f ρ H).bind fun p=>match p.1 with
 | .ref a=>p.2[a]?.map fun vs=>(Zal a,vs.length+1,p.2)
 | .tup vs=>some (Zgk vs,vs.length+1,p.2)
 | _=>none
noncomputable def rngN(a b c:Int): Nat:=(Builtin.Range.rangeSize a b c).toNat
noncomputable def Zbg(a b c:Int)(H:Hp): Option (Nx×Nat×Hp):=if c≠0∧Builtin.Range.small a b c=true∧0≤Builtin.Range.rangeSize a b c∧rngN a b c≤ZM∧Builtin.divisionGoesByPylong (b-a) c=false then some (ZbO a c (rngN a b c),rngN a b c+1,H)else none
noncomputable def ZaY(g:ZX): Src:=fun ρ H=>(g ρ H).bind fun p=>match p.1 with
 | [.int b]=>Zbg 0 b 1 p.2
 | [.int a,.int b]=>Zbg a b 1 p.2
 | [.int a,.int b,.int c]=>Zbg a b c p.2
 | _=>none
section
variable {prog:Program} {w:World} {Γ:Cx}
theorem ZiF{W0:Wd}{I:Addr}{nx:Nx}(P:Nat→Obj→Prop)
  (next:∀(i:Nat) (W:Wd) (ρ:Lc) (H:Hp) (fr:List (Addr×Obj)) (ob:Obj) (s:Shared) (Q:Option Value→Shared→Prop) (E:Value→Shared→Prop) (o:Option V),W0.Le W→Rep Γ W ρ H ((I,ob)::fr) s.heap→P i ob→nx i H=some o →
   (match o with
    | none=>∀(h':Heap) (tk':Nat),(∀b o,b≠I→s.heap.get? b=some o→h'.get? b=some o)→Q none { s with heap:=h',toks:=tk' }
    | some v=>∀(ob':Obj) (h':Heap) (tk':Nat) (x:Value),P (i+1) ob'→h'.get? I=some ob'→(∀b o,b≠I→s.heap.get? b=some o→h'.get? b=some o)→VR W v x→Q (some x) { s with heap:=h',toks:=tk' })→wpAny (model prog w) Γ.A (pyNext (.ref I)) Q E s)
  (self:∀(i:Nat) (W:Wd) (ρ:Lc) (H:Hp) (fr:List (Addr×Obj)) (ob:Obj) (s:Shared) (Q E:Value→Shared→Prop),W0.Le W→Rep Γ W ρ H ((I,ob)::fr) s.heap→P i ob→Q (.ref I) s→wpAny (model prog w) Γ.A (pyIter (.ref I)) Q E s):
  Itr prog w Γ W0 (.ref I) [I] (fun i fs=>∃ob,fs=[(I,ob)]∧P i ob) nx:=by
 refine⟨?_,?_,?_⟩
 ·rintro i fs ⟨ob,e,_⟩
  rw[e]
  rfl
 ·rintro i W ρ H fr fs s Q E o le r ap ⟨ob,e,hp⟩ hn post
  subst e
  refine next i W ρ H fr ob s Q E o le r hp hn ?_
  have ap':∀q∈[(I,ob)],∀t∈fr,q.1≠t.1:=fun q hq t ht=>by rw[List.mem_singleton.mp hq];exact ap I Zz5 t ht
  cases o with
  | none=>
   intro h' tk' keep
   have:=Rep.swap (fs:=[(I,ob)]) (fs':=[]) r ap' (fun b o hb e=>keep b o (fun q=>hb (by simp[q])) e) (fun q hq=>nomatch hq)
   exact post h' tk' this
  | some v=>
   intro ob' h' tk' x hp' hg keep hx
   have:=Rep.swap (fs:=[(I,ob)]) (fs':=[(I,ob')]) r ap' (fun b o hb e=>keep b o (fun q=>hb (by simp[q])) e) (fun q hq=>by rw[List.mem_singleton.mp hq];exact⟨hg,by simp⟩)
   exact post [(I,ob')] h' tk' x ⟨ob',rfl,hp'⟩ this hx
 ·rintro i W ρ H fr fs s Q E le r ⟨ob,e,hp⟩ q
  subst e
  exact self i W ρ H fr ob s Q E le r hp q
theorem JI.seq{e:Expr}{f:Ex}(h:J prog w Γ e f): JI prog w Γ e (Zaq f):=by
 intro W ρ H fr s Q E nx n H' r hf post
 obtain⟨p,e1,hf⟩:=Zz0.mp hf
 refine h W ρ H fr s _ E _ _ r e1 fun W1 k1 t1 x l1 r1 x1=>?_
 obtain⟨v,H1⟩:=p
 cases x1 with
 | none=>first|exact Zx0 hf|cases hf
 | bool _=>first|exact Zx0 hf|cases hf
 | int _ _=>first|exact Zx0 hf|cases hf
 | str _ _=>first|exact Zx0 hf|cases hf
 | obj _ _ _ _=>first|exact Zx0 hf|cases hf
 | @tup vs a xs k hm hl hs=>
  cases hf
  have it:k1.IsTuple a xs.toArray:=⟨_,r1.tupAt hm,rfl,k,rfl⟩
  refine wpAny_pyIter_tuple it ?_
  obtain⟨r2,ap⟩:=r1.more (fs:=[(k1.objs.size,{ cls:=.type "tuple_iterator",data:=.fields #[.ref a,.int 0 0] })]) (fun b o e=>Heap.get?_push_of_some { cls:=.type "tuple_iterator",data:=.fields #[.ref a,.int 0 0] } e) (fun q hq=>by rw[List.mem_singleton.mp hq];exact⟨Heap.get?_push_size _ rfl,Nat.le_refl _⟩)
  refine post W1 _ t1 _ [k1.objs.size] _ _ l1 ⟨_,rfl,?_⟩ r2 (fun b hb t ht=>by rw[List.mem_singleton.mp hb];exact ap _ Zz5 t ht)
   (ZiF (fun i ob=>ob.cls=.type "tuple_iterator"∧ob.data=.fields #[.ref a,.int i 0]) ?_ ?_)
  ·intro i W ρ H fr ob s Q E o le r hp hn post
   have g1:s.heap.IsTupleIter k1.objs.size a i:=⟨ob,r.frAt Zz5,hp.1,hp.2⟩
   have g2:s.heap.IsTuple a xs.toArray:=⟨_,r.tupAt (le.tups _ hm),rfl,k,rfl⟩
   have ne:a≠k1.objs.size:=Nat.ne_of_lt (Heap.lt_size (r1.tupAt hm))
   have Wk:=Walks.tuple (prog:=prog) (w:=w) Γ.hh k1.objs.size a ne xs.toArray
   cases hn
   cases ev:vs[i]? with
   | none=>
    rw[ev]at post
    have hi:xs.toArray[i]?=none:=by have:=List.getElem?_eq_none_iff.mp ev;rw[←hs.length]at this;simpa using this
    exact wpAny_pyNext_tuple_end Γ.hh g1 g2 hi fun h' he'=>post h' s.toks fun b o hb e=>he' b o hb e
   | some v=>
    rw[ev]at post
    obtain⟨y,hy,ry⟩:=hs.at ev
    refine wpAny_pyNext_tuple_item g1 g2 (x:=y) (by simpa using hy) fun h' hit' hs'=>?_
    obtain⟨ob',h1,h2,h3⟩:=hit'
    exact post ob' h' s.toks y ⟨h2,h3⟩ h1 (fun b o hb e=>hs'.extBut b o hb e) (ry.mono le)
  ·intro i W ρ H fr ob s Q E le r hp q
   exact wpAny_pyIter_tupleiter (⟨ob,r.frAt Zz5,hp.1,hp.2⟩:s.heap.IsTupleIter k1.objs.size a i) q
  ·exact⟨rfl,rfl⟩
 | @ref i0 a ea=>
  obtain⟨vs,e2,e3⟩:=Zz1.mp hf
  cases e3
  obtain⟨hl,xs,k,hg,hv⟩:=r1.at e2 ea
  have isl:k1.IsList a xs.toArray:=⟨_,hg,rfl,k,rfl⟩
  refine wpAny_pyIter_list isl ?_
  obtain⟨r2,ap⟩:=r1.more (fs:=[(k1.objs.size,{ cls:=.type "list_iterator",data:=.fields #[.ref a,.int 0 0] })]) (fun b o e=>Heap.get?_push_of_some { cls:=.type "list_iterator",data:=.fields #[.ref a,.int 0 0] } e) (fun q hq=>by rw[List.mem_singleton.mp hq];exact⟨Heap.get?_push_size _ rfl,Nat.le_refl _⟩)
  refine post W1 _ t1 _ [k1.objs.size] _ _ l1 ⟨_,rfl,?_⟩ r2 (fun b hb t ht=>by rw[List.mem_singleton.mp hb];exact ap _ Zz5 t ht)
   (ZiF (fun i ob=>ob.cls=.type "list_iterator"∧ob.data=.fields #[.ref a,.int i 0]) ?_ ?_)
  ·intro i W ρ H fr ob s Q E o le r hp hn post
   obtain⟨us,eu,e4⟩:=Zz1.mp hn
   subst e4
   obtain⟨hl2,ys,k2,hg2,hv2⟩:=r.at eu (le.at ea)
   have g1:s.heap.IsListIter k1.objs.size a i:=⟨ob,r.frAt Zz5,hp.1,hp.2⟩
   have g2:s.heap.IsList a ys.toArray:=⟨_,hg2,rfl,k2,rfl⟩
   cases ev:us[i]? with
   | none=>
    rw[ev]at post
    have hi:ys.toArray[i]?=none:=by have:=List.getElem?_eq_none_iff.mp ev;rw[←hv2.length]at this;simpa using this
    exact wpAny_pyNext_list_end Γ.hh g1 g2 hi fun h' he'=>post h' s.toks fun b o hb e=>he' b o hb e
   | some v=>
    rw[ev]at post
    obtain⟨y,hy,ry⟩:=hv2.at ev
    refine wpAny_pyNext_list_item g1 g2 (x:=y) (by simpa using hy) fun h' hit' hs'=>?_
    obtain⟨ob',h1,h2,h3⟩:=hit'
    exact post ob' h' s.toks y ⟨h2,h3⟩ h1 (fun b o hb e=>hs'.extBut b o hb e) ry
  ·intro i W ρ H fr ob s Q E le r hp q
   exact wpAny_pyIter_listiter (⟨ob,r.frAt Zz5,hp.1,hp.2⟩:s.heap.IsListIter k1.objs.size a i) q
  ·exact⟨rfl,rfl⟩
theorem ZlX{a b c:Int}{H:Hp}{z:Nx×Nat×Hp}(h:Zbg a b c H=some z): c≠0∧Builtin.divisionGoesByPylong (b-a) c=false:=by
 unfold Zbg at h
 split at h
 ·rename_i hc
  exact⟨hc.1,hc.2.2.2.2⟩
 ·first|exact Zx0 h|cases h
theorem Zm3{W0:Wd}{I:Addr}{a c:Int}{n:Nat}: Itr prog w Γ W0 (.ref I) [I] (fun i fs=>∃ob,fs=[(I,ob)]∧(i≤n∧ob = { cls:=.type "range_iterator",dict:=none,data:=.fields #[rawInt (a+(i:Nat)*c),rawInt ((n:Int)-(i:Nat)),rawInt c],slots:=#[] })) (ZbO a c n):=by
 have Wk:=Walks.range (prog:=prog) (w:=w) Γ.hh I a c n
 refine ZiF (fun i ob=>i≤n∧ob = { cls:=.type "range_iterator",dict:=none,data:=.fields #[rawInt (a+(i:Nat)*c),rawInt ((n:Int)-(i:Nat)),rawInt c],slots:=#[] }) ?_ ?_
 ·intro i W ρ H fr ob s Q E o le r hp hn post
  have g:IsRangeIter s.heap I (a+(i:Nat)*c) ((n:Int)-(i:Nat)) c:=(r.frAt Zz5).trans (congrArg some hp.2)
  cases hn
  by_cases hi:i<n
  ·rw[if_pos hi]at post
   refine Wk.item i s Q E hi g fun v h' tk hv st keep=>?_
   obtain⟨t,e⟩:=hv
   subst e
   exact post _ h' tk _ ⟨hi,rfl⟩ st (fun b o hb e=>keep b o (by simpa using hb) e) (.int _ _)
  ·rw[if_neg hi]at post
   have e:i=n:=by have:=hp.1;omega
   subst e
   exact Wk.done s Q E g fun h' tk keep=>post h' tk fun b o hb e=>keep b o (by simpa using hb) e
 ·intro i W ρ H fr ob s Q E le r hp q
  have g:IsRangeIter s.heap I (a+(i:Nat)*c) ((n:Int)-(i:Nat)) c:=(r.frAt Zz5).trans (congrArg some hp.2)
  exact Wk.self i s Q E g q
theorem ZhF{a b c:Int}{t u v:Tok}{W:Wd}{ρ:Lc}{H:Hp}{fr:List (Addr×Obj)}{s:Shared}{k:Heap}{tk:Nat}{Q E:Value→Shared→Prop}{nx:Nx}{n:Nat}{H':Hp}(r:Rep Γ W ρ H fr k)(hm:Zbg a b c H=some (nx,n,H'))
  (post:∀(W':Wd) (h':Heap) (tk':Nat) (it:Value) (as:List Addr) (It:Nat→List (Addr×Obj)→Prop) (fs:List (Addr×Obj)),W.Le W'→It 0 fs→Rep Γ W' ρ H' (fs++fr) h'→(∀a∈as,∀t∈fr,a≠t.1)→Itr prog w Γ W' it as It nx→Q it { s with heap:=h',toks:=tk' }):
  wpAny (model prog w) Γ.A (pyIter (.ref k.objs.size)) Q E { s with heap:=k.push { cls:=.type "range",data:=.fields #[.int a t,.int b u,.int c v] },toks:=tk }:=by
 unfold Zbg at hm
 split at hm
 ·rename_i hc
  cases hm
  have hr:IsRange (k.push { cls:=.type "range",data:=.fields #[.int a t,.int b u,.int c v] }) k.objs.size a b c t u v:=IsRange.new ..
  refine wpAny_pyIter_range hr hc.2.1 ?_
  have rp:=r.push { cls:=.type "range",data:=.fields #[.int a t,.int b u,.int c v] }
  have en:Builtin.Range.rangeSize a b c=((rngN a b c:Nat):Int):=(Int.toNat_of_nonneg hc.2.2.1).symm
  dsimp only
  generalize hk:k.push { cls:=.type "range",data:=.fields #[.int a t,.int b u,.int c v] } = k2 at rp ⊢
  obtain⟨r2,ap⟩:=rp.more (fs:=[(k2.objs.size,{ cls:=.type "range_iterator",data:=.fields #[rawInt a,rawInt (Builtin.Range.rangeSize a b c),rawInt c] })]) (fun b' o e=>Heap.get?_push_of_some { cls:=.type "range_iterator",data:=.fields #[rawInt a,rawInt (Builtin.Range.rangeSize a b c),rawInt c] } e) (fun q hq=>by rw[List.mem_singleton.mp hq];exact⟨Heap.get?_push_size _ rfl,Nat.le_refl _⟩)
  refine post W _ tk _ [k2.objs.size] _ _ (.refl W) ⟨_,rfl,Nat.zero_le _,?_⟩ r2 (fun b hb t ht=>by rw[List.mem_singleton.mp hb];exact ap _ Zz5 t ht) (Zm3 (a:=a) (c:=c) (n:=rngN a b c))
  rw[en]
  simp
 ·first|exact Zx0 hm|cases hm
theorem JI.range{x:Str}{np pos:Pos}{e:Expr}{es:List Expr}{g:ZX}(hn:Nm prog w Γ x (.type "range"))(h:Js prog w Γ (e::es) g)
  (he:starEach (e::es) Γ.env=(false,eval e Γ.env)::starEach es Γ.env:=by rfl) (hp:∀pos,(backTo pos (starEach es Γ.env)).any (·.1)=false:=by intro _;rfl):JI prog w Γ (.Call (.Name x np) (e::es) [] pos) (ZaY g):=by
 intro W ρ H fr s Q E nx n H' r hf post
 obtain⟨p,e1,hf⟩:=Zz0.mp hf
 refine wpAny_Call_ofName (hn.use r ?_)
 refine PySem.Pv.callWith_type1 (h pos W ρ H fr s _ E _ _ r e1 fun W1 k1 t1 xs l1 r1 x1=>?_) he (hp pos)
 obtain⟨vs,H1⟩:=p
 dsimp only at hf x1 r1
 have post1:=fun W' h' tk' it as It fs (l:W1.Le W')=>post W' h' tk' it as It fs (l1.trans l)
 split at hf
 ·obtain⟨y,ex,ry⟩:=x1.one
  subst ex
  cases ry
  exact call_range_1 (ZhF r1 hf post1)
 ·obtain⟨y,z,ex,ry,rz⟩:=x1.two
  subst ex
  cases ry
  cases rz
  exact call_range_2 (ZhF r1 hf post1)
 ·cases x1 with
  | cons ry x1=>
  obtain⟨y,z,ex,rz,ru⟩:=x1.two
  subst ex
  cases ry
  cases rz
  cases ru
  have hc:=ZlX hf
  exact call_range_3 hc.1 (ZhF r1 hf post1) (.inl hc.2)
 ·first|exact Zx0 hf|cases hf
end
noncomputable def Zbe(nx:Nx)(put:V→Lc→Option Lc)(b:Sm): Nat→Nat→Sm
 | 0,_=>fun _ _=>none
 | n+1,i=>fun ρ H=>(nx i H).bind fun o=>match o with
  | none=>some (none,ρ,H)
  | some v=>(put v ρ).bind fun ρ1=>(b ρ1 H).bind fun q=>match q.1 with
   | some _=>some q
   | none=>Zbe nx put b n (i+1) q.2.1 q.2.2
noncomputable def ZaC(g:Src)(put:V→Lc→Option Lc)(b:Sm): Sm:=fun ρ H=>(g ρ H).bind fun z=>Zbe z.1 put b z.2.1 0 ρ z.2.2
noncomputable def ZK(i:Nat): V→Lc→Option Lc:=fun v ρ=>some (upd ρ i v)
section
variable {prog:Program} {w:World} {Γ:Cx}
theorem Zdy{x:Str}{i:Nat}{px pos:Pos}{it:Expr}{body:List Stmt}{g:Src}{b:Sm}(hx:Sto prog w Γ x i)(hg:JI prog w Γ it g)(hb:Ss prog w Γ body b)(hs:∀x,foldedSetIterable it Γ.env x=pure x:=by intro _;rfl): S1 prog w Γ (.For (.Name x px) it body [] pos) (ZaC g (ZK i) b):=by
 intro W ρ H fr s Q E r rp hf post
 obtain⟨z,e1,hf⟩:=Zz0.mp hf
 obtain⟨nx,n,H0⟩:=z
 refine wpAny_For (hg W ρ H fr s _ E nx n H0 rp e1 fun W1 k1 t1 itv as It fs l1 i1 r1 ap I1=>?_) hs
 refine codeAny_forLoop (fun k s'=>∃W' ρ' H' h' tk' j fs',s' = { s with heap:=h',toks:=tk' }∧W1.Le W'∧It j fs'∧Rep Γ W' ρ' H' (fs'++fr) h'∧Zbe nx (ZK i) b k j ρ' H'=some r) ?_ n ⟨W1,ρ,H0,k1,t1,0,fs,rfl,.refl _,i1,r1,hf⟩
 rintro k s' ⟨W2,ρ2,H2,k2,t2,j,fs2,rfl,l2,i2,r2,e⟩
 cases k with
 | zero=>first|exact Zx0 e|cases e
 | succ k=>
  obtain⟨o,e2,e⟩:=Zz0.mp e
  refine I1.next j W2 ρ2 H2 fr fs2 _ _ _ o l2 r2 ap i2 e2 ?_
  cases o with
  | none=>
   cases e
   intro h' tk' r3
   exact wpAny_execs_nil (post W2 h' tk' (l1.trans l2) r3)
  | some v=>
   intro fs3 k3 t3 y i3 r3 y3
   obtain⟨ρ3,e3,e⟩:=Zz0.mp e
   cases e3
   obtain⟨q,e4,e⟩:=Zz0.mp e
   refine wpAny_assign_Name (hx W2 ρ2 H2 (fs3++fr) _ _ _ v y r3 y3 fun k4 t4 r4=>?_)
   refine hb W2 _ H2 (fs3++fr) _ _ _ q r4 e4 ?_
   obtain⟨u,ρ5,H5⟩:=q
   cases u with
   | some u=>
    cases e
    exact fun W5 k5 t5 x5 l5 r5 v5=>post W5 k5 t5 x5 ((l1.trans l2).trans l5) (r5.less fun q hq=>List.mem_append_right _ hq) v5
   | none=>exact fun W5 k5 t5 l5 r5=>⟨k,Nat.lt_succ_self k,W5,ρ5,H5,k5,t5,j+1,fs3,rfl,l2.trans l5,i3,r5,e⟩
end
end PM
end
section
namespace PM
open PySem PySem.W PySem.Calls PyProof.Rows PyProof
structure OwnF(names:List Str)(cs:Scope)(cl:List (Str×Addr))(W:Wd)(ρ:Lc)(m:Str→Option Value)(cells:List (Addr×Obj)): Prop where
 loc:∀(i:Nat) (x:Str) (v:V),names[i]?=some x→cs.names.lookup x=some .local→ρ i=some v→∃y,m x=some y∧VR W v y
 cel:∀(i:Nat) (x:Str) (v:V),names[i]?=some x→cs.names.lookup x=some .cell→ρ i=some v→∃c o y,cl.lookup x=some c∧(c,o)∈cells∧o.data=.cell (some y)∧VR W v y
 all:∀(x:Str) (c:Addr),cl.lookup x=some c→∃o v₀,(c,o)∈cells∧o.data=.cell v₀
 one:∀(x y:Str) (c:Addr),cl.lookup x=some c→cl.lookup y=some c→x=y
theorem OwnF.mono{names:List Str}{cs:Scope}{cl:List (Str×Addr)}{W W':Wd}{ρ:Lc}{m:Str→Option Value}{cells:List (Addr×Obj)}(l:W.Le W')(h:OwnF names cs cl W ρ m cells): OwnF names cs cl W' ρ m cells:=
 ⟨fun i x v a b c=>by
  obtain⟨y,h1,h2⟩:=h.loc i x v a b c
  exact⟨y,h1,h2.mono l⟩,fun i x v a b c=>by
  obtain⟨d,o,y,h1,h2,h3,h4⟩:=h.cel i x v a b c
  exact⟨d,o,y,h1,h2,h3,h4.mono l⟩,h.all,h.one⟩
noncomputable def Zav(dp un:Nat)(gd:Option (List Code))(cn:Str)(cs:Scope)(L a:Addr)(ccd:Value)(cl:List (Str×Addr))(outer:List Env)(h₀:Heap)(hu:un+200<cLine)(names:List Str): Cx where
 A:=ktrTop dp un gd cn cs L a ccd cl outer
 env:=envX cn cs L a ccd cl
 h₀:=h₀
 L:=L
 hh:=rfl
 hu:=hu
 Own:=OwnF names cs cl
 mono:=OwnF.mono
section
variable {prog:Program} {w:World} {dp un:Nat} {gd:Option (List Code)} {cn:Str} {cs:Scope} {L a:Addr} {ccd:Value} {cl:List (Str×Addr)} {outer:List Env} {h₀:Heap} {hu:un+200<cLine} {names:List Str}
theorem rd_loc{x:Str}{i:Nat}(hi:names[i]?=some x)(hx:cs.names.lookup x=some .local)(hk:cs.kind=.function)(hd:(x == ("__debug__":Str))=false): Rd prog w (Zav dp un gd cn cs L a ccd cl outer h₀ hu names) x i:=by
 intro W ρ H fr s Q E v pos r e q
 obtain⟨m,c,led,r⟩:=r
 obtain⟨y,h1,h2⟩:=r.own.loc i x v hi hx e
 exact nameX_L r.F h1 (q y h2) hk hx hd
theorem rd_cel{x:Str}{i:Nat}(hi:names[i]?=some x)(hx:cs.names.lookup x=some .cell)(hk:cs.kind=.function)(hd:(x == ("__debug__":Str))=false): Rd prog w (Zav dp un gd cn cs L a ccd cl outer h₀ hu names) x i:=by
 intro W ρ H fr s Q E v pos r e q
 obtain⟨m,c,led,r⟩:=r
 obtain⟨d,o,y,h1,h2,h3,h4⟩:=r.own.cel i x v hi hx e
 exact nameX_C r.N h1 (r.clIn _ h2) h3 (q y h4) hk hx hd
theorem sto_loc{x:Str}{i:Nat}(nd:names.Nodup)(hi:names[i]?=some x)(hx:cs.names.lookup x=some .local)(hk:cs.kind=.function): Sto prog w (Zav dp un gd cn cs L a ccd cl outer h₀ hu names) x i:=by
 intro W ρ H fr s Q E v y r vy q
 obtain⟨m,c,led,r⟩:=r
 have hi':i<names.length:=(Zz6.mp hi).1
 refine storeX_L r.F r.N (fun h' F' N'=>q h' _ ⟨_,c,led,⟨F',N',r.R,r.sc,r.sc0,r.frIn,r.frOff,r.clIn,r.clOff,r.apart,r.frTup,r.clTup,⟨fun j z u hj hz hu=>?_,fun j z u hj hz hu=>?_,r.own.all,r.own.one⟩⟩⟩) hk hx
 ·by_cases e:j=i
  ·subst e
   rw[hi]at hj
   cases hj
   simp only[upd,if_true]at hu
   cases hu
   exact⟨y,by simp,vy⟩
  ·have hzx:z≠x:=fun e'=>by
    subst e'
    exact e ((List.getElem?_inj (Zz6.mp hj).1 nd).mp (hj.trans hi.symm))
   simp only[upd,if_neg e]at hu
   obtain⟨y',h1,h2⟩:=r.own.loc j z u hj hz hu
   exact⟨y',by simp[hzx,h1],h2⟩
 ·by_cases e:j=i
  ·subst e
   rw[hi]at hj
   cases hj
   rw[hx]at hz
   cases hz
  ·simp only[upd,if_neg e]at hu
   exact r.own.cel j z u hj hz hu
theorem ZnO{x:Str}{i:Nat}(nd:names.Nodup)(hi:names[i]?=some x)(hx:cs.names.lookup x=some .cell)(hk:cs.kind=.function)(hcl:(cl.lookup x).isSome=true): Sto prog w (Zav dp un gd cn cs L a ccd cl outer h₀ hu names) x i:=by
 intro W ρ H fr s Q E v y r vy q
 obtain⟨m,c,led,r⟩:=r
 obtain⟨d,hd⟩:=Option.isSome_iff_exists.mp hcl
 obtain⟨o,v₀,ho,hv₀⟩:=r.own.all x d hd
 have inl:=r.clIn _ ho
 have N2:News h₀ L s.heap ((d,o)::led.filter (fun q=>decide (q.1≠d))):=by
  intro q hq
  rcases Zz7.mp hq with e | hq
  ·subst e
   exact r.N _ inl
  ·exact r.N q (List.mem_filter.mp hq).1
 refine storeX_C r.F N2 hd (UpdF.head fun q hq=>by simpa using (List.mem_filter.mp hq).2) hv₀ (fun h' o' F' N' ho'=>?_) hk hx
 have keep:∀q∈led,q.1≠d→q∈(d,o')::led.filter (fun q=>decide (q.1≠d)):=fun q hq hn=>Zy3 _ (Zy9.mpr ⟨hq,by simpa using hn⟩)
 refine q h' s.toks ⟨m,(d,o')::c.filter (fun q=>decide (q.1≠d)),_,⟨F',N',⟨r.R.len,r.R.nd,fun j vs e ni=>?_,fun q hq=>Zbf (r.R.tups q hq) fun z=>keep q z (r.clTup _ ho q hq).symm,r.R.kind,fun j vs fs e hi=>?_,r.R.inlt,r.R.iuni⟩,r.sc,r.sc0,fun q hq=>keep q (r.frIn q hq) (r.apart _ ho q hq).symm,r.frOff,fun q hq=>?_,fun q hq=>?_,fun q hq t ht=>?_,r.frTup,fun q hq t ht=>?_,⟨fun j z u hj hz hu=>?_,fun j z u hj hz hu=>?_,fun z e hz=>?_,r.own.one⟩⟩⟩
 ·obtain⟨l,b,xs,k,h1,h2,h3⟩:=r.R.lists j vs e ni
  exact⟨l,b,xs,k,h1,Zbf h2 fun z=>keep _ z fun e=>r.clOff _ ho (e▸Zy4 h1),h3⟩
 ·obtain⟨l,b,od,xs,h1,h2,h3⟩:=r.R.objs j vs fs e hi
  exact⟨l,b,od,xs,h1,Zbf h2 fun z=>keep _ z fun e=>r.clOff _ ho (e▸Zy4 h1),h3⟩
 ·rcases Zz7.mp hq with e | hq
  ·exact e▸List.mem_cons_self
  ·obtain⟨h1,h2⟩:=List.mem_filter.mp hq
   exact keep q (r.clIn q h1) (by simpa using h2)
 ·rcases Zz7.mp hq with e | hq
  ·rw[e]
   exact(r.clOff _ ho:d∉W.pi)
  ·exact r.clOff q (List.mem_filter.mp hq).1
 ·rcases Zz7.mp hq with e | hq
  ·rw[e]
   exact(r.apart _ ho t ht:d≠t.1)
  ·exact r.apart q (List.mem_filter.mp hq).1 t ht
 ·rcases Zz7.mp hq with e | hq
  ·rw[e]
   exact(r.clTup _ ho t ht:d≠t.1)
  ·exact r.clTup q (List.mem_filter.mp hq).1 t ht
 ·by_cases e:j=i
  ·subst e
   rw[hi]at hj
   cases hj
   rw[hx]at hz
   cases hz
  ·simp only[upd,if_neg e]at hu
   exact r.own.loc j z u hj hz hu
 ·by_cases e:j=i
  ·subst e
   rw[hi]at hj
   cases hj
   simp only[upd,if_true]at hu
   cases hu
   exact⟨d,o',y,hd,List.mem_cons_self,ho',vy⟩
  ·have hzx:z≠x:=fun e'=>by
    subst e'
    exact e ((List.getElem?_inj (Zz6.mp hj).1 nd).mp (hj.trans hi.symm))
   simp only[upd,if_neg e]at hu
   obtain⟨b,ob,y',h1,h2,h3,h4⟩:=r.own.cel j z u hj hz hu
   have:b≠d:=fun e'=>by
    subst e'
    exact hzx (r.own.one z x b h1 hd)
   exact⟨b,ob,y',h1,Zy3 _ (Zy9.mpr ⟨h2,by simpa using this⟩),h3,h4⟩
 ·by_cases e':e=d
  ·subst e'
   exact⟨o',_,List.mem_cons_self,ho'⟩
  ·obtain⟨ob,v1,h1,h2⟩:=r.own.all z e hz
   exact⟨ob,v1,Zy3 _ (Zy9.mpr ⟨h1,by simpa using e'⟩),h2⟩
end
end PM
end
section
namespace PM
open PySem PySem.W PySem.Calls PyProof.Rows PyProof PyProof.Rows.LCg
theorem ZhP{Γ:Cx}{W:Wd}{ρ:Lc}{H:Hp}{fr:List (Addr×Obj)}{h:Heap}{D:Addr}{ys:List Value}{k:Nat}{vs:List V}(r:Rep Γ W ρ H ((D,Za2 ys k)::fr) h)(ap:∀t∈fr,D≠t.1)(hv:VRs W vs ys)(hl:vs.length≤ZM):
  ∃W',W.Le W'∧Rep Γ W' ρ (H++[vs]) fr h∧VR W' (.ref H.length) (.ref D):=by
 obtain⟨m,c,led,r⟩:=r
 have le:W.Le ⟨W.pi++[D],W.tups,W.sc,W.ins⟩:=⟨List.prefix_append _ _,fun q hq=>hq,rfl,fun _ h=>h,fun _ h=>.inl h⟩
 have nin:∀q∈W.ins,q.1≠H.length:=fun q hq e=>by have:=r.R.inlt q hq;omega
 have h0:0<W.pi.length:=(Zz6.mp r.sc0).1
 have at_n:(W.pi++[D])[H.length]?=some D:=by rw[←r.R.len];simp
 have off:=r.frOff _ Zz5
 refine⟨⟨W.pi++[D],W.tups,W.sc,W.ins⟩,le,⟨m,c,led,⟨r.F,r.N,⟨by simp[r.R.len],?_,fun i us e ni=>?_,r.R.tups,r.R.kind,fun i us fs e hi=>?_,fun q hq=>by have:=r.R.inlt q hq;simp;omega,r.R.iuni⟩,r.sc,(Zy0 h0).trans r.sc0,fun q hq=>r.frIn q (Zz2 _ hq),fun q hq=>?_,r.clIn,fun q hq=>?_,fun q hq t ht=>r.apart q hq t (Zz2 _ ht),fun q hq=>r.frTup q (Zz2 _ hq),r.clTup,Γ.mono le r.own⟩⟩,.ref ⟨at_n,nin⟩⟩
 ·show(W.pi++[D]).Nodup
  rw[List.nodup_append]
  refine⟨r.R.nd,by simp,fun a ha b hb=>?_⟩
  rw[List.mem_singleton.mp hb]
  exact fun e=>off (e▸ha)
 ·by_cases hi:i<H.length
  ·rw[Zy0 hi]at e
   obtain⟨l,a,zs,j,h1,h2,h3⟩:=r.R.lists i us e ni
   exact⟨l,a,zs,j,le.piAt h1,h2,h3.mono le⟩
  ·have:i=H.length:=by
    have:=(Zz6.mp e).1
    simp at this
    omega
   subst this
   simp at e
   subst e
   exact⟨hl,D,ys,k,at_n,Zy3 _ (r.frIn _ Zz5),hv.mono le⟩
 ·have hi':i<H.length:=r.R.inlt _ hi
  rw[Zy0 hi']at e
  obtain⟨l,a,od,zs,h1,h2,h3,h4⟩:=r.R.objs i us fs e hi
  exact⟨l,a,od,zs,le.piAt h1,h2,h3,h4.mono le⟩
 ·intro hm
  rcases Zz8.mp hm with hm | hm
  ·exact r.frOff q (Zz2 _ hq) hm
  ·exact ap q hq (Zz9.mp hm).symm
 ·intro hm
  rcases Zz8.mp hm with hm | hm
  ·exact r.clOff q hq hm
  ·exact r.apart q hq _ Zz5 (Zz9.mp hm)
noncomputable def Zqh(Γ:Cx)(C:Addr)(ts:List (Str×Nat))(ρ0:Lc)(W:Wd)(ρ:Lc)(m:Str→Option Value)(cells:List (Addr×Obj)): Prop:=
 ∃oC m₂ cs,cells=(C,oC)::cs∧(∀q∈cs,q.1≠C)∧NsObj oC m₂∧(∀p∈ts,∃v y,ρ p.2=some v∧m₂ p.1=some y∧VR W v y)∧(∀j,(∀p∈ts,p.2≠j)→ρ j=ρ0 j)∧Γ.Own W ρ0 m cs
noncomputable def ZaM(Γ:Cx)(scope:Scope)(cl:List (Str×Addr))(C:Addr)(ts:List (Str×Nat))(ρ0:Lc): Cx where
 A:=Γ.A
 env:=compEnvC scope cl C Γ.env
 h₀:=Γ.h₀
 L:=Γ.L
 hh:=Γ.hh
 hu:=Γ.hu
 Own:=Zqh Γ C ts ρ0
 mono:=fun l h=>by
  obtain⟨oC,m₂,cs,e,h0,h1,h2,h3,h4⟩:=h
  exact⟨oC,m₂,cs,e,h0,h1,fun p hp=>by
   obtain⟨v,y,a,b,c⟩:=h2 p hp
   exact⟨v,y,a,b,c.mono l⟩,h3,Γ.mono l h4⟩
section
variable {Γ:Cx} {scope:Scope} {cl:List (Str×Addr)} {C:Addr} {ts:List (Str×Nat)} {ρ0:Lc} {W:Wd} {ρ:Lc} {H:Hp} {fr:List (Addr×Obj)} {h:Heap}
theorem Zko{oC:Obj}{m₂:Str→Option Value}(r:Rep Γ W ρ0 H ((C,oC)::fr) h)(ap:∀t∈fr,C≠t.1)(hC:NsObj oC m₂)(ht:∀p∈ts,∃v y,ρ p.2=some v∧m₂ p.1=some y∧VR W v y)(hj:∀j,(∀p∈ts,p.2≠j)→ρ j=ρ0 j): Rep (ZaM Γ scope cl C ts ρ0) W ρ H fr h:=by
 obtain⟨m,c,led,r⟩:=r
 refine⟨m,(C,oC)::c,led,⟨r.F,r.N,r.R,r.sc,r.sc0,fun q hq=>r.frIn q (Zz2 _ hq),fun q hq=>r.frOff q (Zz2 _ hq),fun q hq=>?_,fun q hq=>?_,fun q hq t ht=>?_,fun q hq=>r.frTup q (Zz2 _ hq),fun q hq t ht=>?_,⟨oC,m₂,c,rfl,fun q hq=>r.apart q hq _ Zz5,hC,ht,hj,r.own⟩⟩⟩
 ·rcases Zz7.mp hq with e | hq
  ·exact e▸r.frIn _ Zz5
  ·exact r.clIn q hq
 ·rcases Zz7.mp hq with e | hq
  ·exact e▸r.frOff _ Zz5
  ·exact r.clOff q hq
 ·rcases Zz7.mp hq with e | hq
  ·exact e▸ap t ht
  ·exact r.apart q hq t (Zz2 _ ht)
 ·rcases Zz7.mp hq with e | hq
  ·exact e▸r.frTup _ Zz5 t ht
  ·exact r.clTup q hq t ht
theorem Rep.fromC(r:Rep (ZaM Γ scope cl C ts ρ0) W ρ H fr h): ∃oC m₂,NsObj oC m₂∧Rep Γ W ρ0 H ((C,oC)::fr) h:=by
 obtain⟨m,c,led,r⟩:=r
 obtain⟨oC,m₂,cs,e,h0,h1,h2,h3,h4⟩:=r.own
 subst e
 refine⟨oC,m₂,h1,m,cs,led,⟨r.F,r.N,r.R,r.sc,r.sc0,fun q hq=>?_,fun q hq=>?_,fun q hq=>r.clIn q (Zz2 _ hq),fun q hq=>r.clOff q (Zz2 _ hq),fun q hq t ht=>?_,fun q hq t ht=>?_,fun q hq=>r.clTup q (Zz2 _ hq),h4⟩⟩
 ·rcases Zz7.mp hq with e | hq
  ·exact e▸r.clIn _ Zz5
  ·exact r.frIn q hq
 ·rcases Zz7.mp hq with e | hq
  ·exact e▸r.clOff _ Zz5
  ·exact r.frOff q hq
 ·rcases Zz7.mp ht with e | ht
  ·rw[e]
   exact h0 q hq
  ·exact r.apart q (Zz2 _ hq) t ht
 ·rcases Zz7.mp hq with e | hq
  ·exact e▸r.clTup _ Zz5 t ht
  ·exact r.frTup q hq t ht
end
noncomputable def JF(prog:Program)(w:World)(Γ:Cx)(ifs:List Expr)(f:Ts): Prop:=∀(W:Wd) (ρ:Lc) (H:Hp) (fr:List (Addr×Obj)) (s:Shared) (Q:Bool→Shared→Prop) (E:Value→Shared→Prop) (b:Bool) (H':Hp),
 Rep Γ W ρ H fr s.heap→f ρ H=some (b,H')→Zgx Γ W ρ H' fr s Q b →
 wpAny (model prog w) Γ.A (forIn ifs true fun c r=>if r=true then do let ok ←isTrue c Γ.env (eval c Γ.env);pure (ForInStep.yield ok)else pure (ForInStep.yield r)) Q E s
section
variable {prog:Program} {w:World} {Γ:Cx}
theorem JF.nil: JF prog w Γ [] Z5:=fun W ρ H fr s Q E b H' r hf post=>by
 cases hf
 exact wpAny_pure (post W s.heap s.toks (.refl W) r)
end
end PM
end
section
namespace PM
open PySem PySem.W PySem.Calls PyProof.Rows PyProof PyProof.Rows.LCg
noncomputable def ZaB(nx:Nx)(put:V→Lc→Option Lc)(c:Ts)(f:Ex)(ρ:Lc): Nat→Nat→List V→Hp→Option (List V×Hp)
 | 0,_,_,_=>none
 | n+1,i,acc,H=>(nx i H).bind fun o=>match o with
  | none=>some (acc,H)
  | some v=>(put v ρ).bind fun ρ1=>(c ρ1 H).bind fun b=>if b.1 then(f ρ1 b.2).bind fun p=>(if acc.length<ZM then ZaB nx put c f ρ n (i+1) (acc++[p.1]) p.2 else none)else ZaB nx put c f ρ n (i+1) acc b.2
noncomputable def Zao(g:Src)(put:V→Lc→Option Lc)(c:Ts)(f:Ex): Ex:=fun ρ H=>(g ρ H).bind fun z=>(ZaB z.1 put c f ρ z.2.1 0 [] z.2.2).map fun q=>(.ref q.2.length,q.2++[q.1])
noncomputable def Zfl(Γ:Cx)(W0:Wd)(ρ:Lc)(fr:List (Addr×Obj))(C D:Addr)(It:Nat→List (Addr×Obj)→Prop)(nx:Nx)(put:V→Lc→Option Lc)(c:Ts)(f:Ex)(q:List V×Hp)(s:Shared)(k:Nat)(s':Shared): Prop:=
 ∃W' H' h' tk' j fs acc ys oC m₂,s' = { s with heap:=h',toks:=tk' }∧W0.Le W'∧It j fs∧NsObj oC m₂∧VRs W' acc ys∧acc.length≤ZM∧Rep Γ W' ρ H' ((C,oC)::(D,lst ys)::(fs++fr)) h'∧ZaB nx put c f ρ k j acc H'=some q
section
variable {prog:Program} {w:World} {Γ:Cx}
theorem ZjL{scope:Scope}{cl:List (Str×Addr)}{elt:Expr}{ts:List (Str×Nat)}{W0 W:Wd}{ρ ρ1:Lc}{H:Hp}{fr fs:List (Addr×Obj)}{C D:Addr}{It:Nat→List (Addr×Obj)→Prop}{nx:Nx}{put:V→Lc→Option Lc}{c:Ts}{f:Ex}{q:List V×Hp}{s:Shared}{h:Heap}{tk:Nat}{k j:Nat}{acc:List V}{ys:List Value}{E:Value→Shared→Prop}
  (hel:J prog w (ZaM Γ scope cl C ts ρ) elt f) (aD:∀t∈fs++fr,D≠t.1) (cd:C≠D) (l0:W0.Le W) (hit:It (j+1) fs) (hv:VRs W acc ys) (r:Rep (ZaM Γ scope cl C ts ρ) W ρ1 H ((D,lst ys)::(fs++fr)) h)
  (e:((f ρ1 H).bind fun p=>(if acc.length<ZM then ZaB nx put c f ρ k (j+1) (acc++[p.1]) p.2 else none))=some q):
  wpAny (model prog w) Γ.A (eval elt (compEnvC scope cl C Γ.env)) (fun x s₄=>wpAny (model prog w) Γ.A (call (.builtin "list.append") [.ref D,x]) (fun _ s₅=>∃m,m<k+1∧Zfl Γ W0 ρ fr C D It nx put c f q s m s₅) E s₄) E { s with heap:=h,toks:=tk }:=by
 obtain⟨p,e2,e⟩:=Zz0.mp e
 by_cases hlt:acc.length<ZM
 ·rw[if_pos hlt]at e
  refine hel W ρ1 H _ _ _ E _ _ r e2 fun W2 k2 t2 x l2 r2 x2=>?_
  obtain⟨oC',m₃,hC',r3⟩:=r2.fromC
  have hD:k2.get? D=some (lst ys):=r3.frAt (q:=(D,lst ys)) (Zz2 _ Zz5)
  refine append_at (hsz:=Zb2 (by rw[List.size_toArray,hv.length];omega)) hD fun h' sb hg=>?_
  have hg':h'.get? D=some (lst (ys++[x])):=hg.trans (congrArg some (lst_snoc ys x))
  have r4:Rep Γ W2 ρ p.2 ([(D,lst ys)]++((C,oC')::(fs++fr))) k2:=r3.less fun q hq=>by
   rcases Zz8.mp hq with hq | hq
   ·rw[List.mem_singleton.mp hq]
    exact Zz2 _ Zz5
   ·rcases Zz7.mp hq with e | hq
    ·exact e▸List.mem_cons_self
    ·exact Zz2 _ (Zz2 _ hq)
  have r5:Rep Γ W2 ρ p.2 ([(D,lst (ys++[x]))]++((C,oC')::(fs++fr))) h':=by
   refine r4.swap (fun q hq t ht=>?_) (fun b o hb e=>sb.extBut b o (fun z=>hb (by simp[z])) e) fun q hq=>?_
   ·rw[List.mem_singleton.mp hq]
    rcases Zz7.mp ht with e | ht
    ·rw[e]
     exact cd.symm
    ·exact aD t ht
   ·rw[List.mem_singleton.mp hq]
    exact⟨hg',by simp⟩
  have r6:Rep Γ W2 ρ p.2 ((C,oC')::(D,lst (ys++[x]))::(fs++fr)) h':=r5.less fun q hq=>by
   rcases Zz7.mp hq with e | hq
   ·exact e▸List.mem_append_right _ Zz5
   ·rcases Zz7.mp hq with e | hq
    ·exact e▸Zy7 _ Zz5
    ·exact Zz3 _ (Zz2 _ hq)
  exact⟨k,Nat.lt_succ_self k,W2,p.2,h',t2,j+1,fs,acc++[p.1],ys++[x],oC',m₃,rfl,l0.trans l2,hit,hC',(hv.mono l2).snoc x2,by simp;omega,r6,e⟩
 ·rw[if_neg hlt]at e
  cases e
theorem Zm4{scope:Scope}{cl:List (Str×Addr)}{elt:Expr}{ifs:List Expr}{ts:List (Str×Nat)}{W0 W:Wd}{ρ ρ1:Lc}{H:Hp}{fr fs:List (Addr×Obj)}{C D:Addr}{It:Nat→List (Addr×Obj)→Prop}{nx:Nx}{put:V→Lc→Option Lc}{c:Ts}{f:Ex}{q:List V×Hp}{s s1:Shared}{k j:Nat}{acc:List V}{ys:List Value}{oC:Obj}{m₂:Str→Option Value}{E:Value→Shared→Prop}
  (hel:J prog w (ZaM Γ scope cl C ts ρ) elt f) (hif:JF prog w (ZaM Γ scope cl C ts ρ) ifs c) (hs:∃h tk,s1 = { s with heap:=h,toks:=tk })
  (aC:∀t∈(D,lst ys)::(fs++fr),C≠t.1) (aD:∀t∈fs++fr,D≠t.1) (l0:W0.Le W) (hit:It (j+1) fs) (hC:NsObj oC m₂) (hv:VRs W acc ys) (hl:acc.length≤ZM) (r:Rep Γ W ρ H ((C,oC)::(D,lst ys)::(fs++fr)) s1.heap)
  (ht:∀p∈ts,∃v y,ρ1 p.2=some v∧m₂ p.1=some y∧VR W v y) (hj:∀i,(∀p∈ts,p.2≠i)→ρ1 i=ρ i)
  (e:((c ρ1 H).bind fun b=>if b.1 then(f ρ1 b.2).bind fun p=>(if acc.length<ZM then ZaB nx put c f ρ k (j+1) (acc++[p.1]) p.2 else none)else ZaB nx put c f ρ k (j+1) acc b.2)=some q):
  wpAny (model prog w) Γ.A (forIn ifs true fun c r=>if r=true then do let ok ←isTrue c (compEnvC scope cl C Γ.env) (eval c (compEnvC scope cl C Γ.env));pure (ForInStep.yield ok)else pure (ForInStep.yield r)) (fun ok s₃=>
   if ok=true then wpAny (model prog w) Γ.A (eval elt (compEnvC scope cl C Γ.env)) (fun x s₄=>wpAny (model prog w) Γ.A (call (.builtin "list.append") [.ref D,x]) (fun _ s₅=>∃m,m<k+1∧Zfl Γ W0 ρ fr C D It nx put c f q s m s₅) E s₄) E s₃
   else ∃m,m<k+1∧Zfl Γ W0 ρ fr C D It nx put c f q s m s₃) E s1:=by
 obtain⟨h,tk,rfl⟩:=hs
 obtain⟨b,e1,e⟩:=Zz0.mp e
 obtain⟨b,H1⟩:=b
 have rc:=Zko (scope:=scope) (cl:=cl) r aC hC ht hj
 refine hif W ρ1 H _ _ _ E b H1 rc e1 fun W1 k1 t1 l1 r1=>?_
 cases b with
 | false=>
  obtain⟨oC',m₃,hC',r2⟩:=r1.fromC
  exact⟨k,Nat.lt_succ_self k,W1,H1,k1,t1,j+1,fs,acc,ys,oC',m₃,rfl,l0.trans l1,hit,hC',hv.mono l1,hl,r2,e⟩
 | true=>exact ZjL hel aD (aC (D,lst ys) Zz5) (l0.trans l1) hit (hv.mono l1) r1 e
theorem comp_core{elt iter:Expr}{x:Str}{px:Pos}{ifs:List Expr}{scope:Scope}{pos:Pos}{cl:List (Str×Addr)}{t:Nat}{g:Src}{c:Ts}{f:Ex}(hg:JI prog w Γ iter g)(hel:∀C ρ,J prog w (ZaM Γ scope cl C [(x,t)] ρ) elt f)(hif:∀C ρ,JF prog w (ZaM Γ scope cl C [(x,t)] ρ) ifs c)
  (hcell:∀y∈scope.names,y.2≠.cell) (hkind:scope.kind=.function) (hx:scope.names.lookup x=some .local)
  {W:Wd} {ρ:Lc} {H:Hp} {fr:List (Addr×Obj)} {s:Shared} {E:Value→Shared→Prop} {q:List V×Hp} {RR:Value→Addr→Result→Shared→Prop} (r:Rep Γ W ρ H fr s.heap) (hf:((g ρ H).bind fun z=>ZaB z.1 (ZK t) c f ρ z.2.1 0 [] z.2.2)=some q)
  (hR:∀(W':Wd) (h':Heap) (tk':Nat) (C D:Addr) (oC:Obj) (m₂:Str→Option Value) (ys:List Value),W.Le W'→NsObj oC m₂→VRs W' q.1 ys→q.1.length≤ZM→(∀t∈fr,D≠t.1)→(∀t∈fr,C≠t.1)→C≠D→Rep Γ W' ρ q.2 ((C,oC)::(D,lst ys)::fr) h'→RR (.ref D) C (.ok .next) { s with heap:=h',toks:=tk' }):
  wpAny (model prog w) Γ.A (eval iter Γ.env) (fun xv s₁=>wpAny (model prog w) Γ.A (pyIter xv) (fun it s₂=>wpAny (model prog w) Γ.A (newList []) (fun acc s₃=>wpAny (model prog w) Γ.A (newFunctionEnv scope Γ.env.globals cl [] Γ.env.qual none .none (some Γ.env)) (fun cenv s₄=>
   codeAny (model prog w) Γ.A (.compStart (.ListComp elt [⟨.Name x px,iter,ifs,0⟩] scope pos) 0 it acc { cenv with scope:=relabel scope Γ.env }) (RR acc cenv.locals) s₄) E s₃) E s₂) E s₁) E s:=by
 obtain⟨z,e1,e2⟩:=Zz0.mp hf
 obtain⟨nx,n,H0⟩:=z
 refine hg W ρ H fr s _ E nx n H0 r e1 fun W1 k1 t1 itv as It fs l1 i1 r1 ap I1=>?_
 refine wpAny_newObj_type (wpAny_newFunctionEnv hcell (fun y hy=>by simp at hy) (fun h₂ hns hsb=>?_) hkind)
 dsimp only at hns hsb ⊢
 obtain⟨rD,aD⟩:=r1.more (fs:=[(k1.objs.size,lst [])]) (fun b o e=>Heap.get?_push_of_some (lst []) e) (fun q hq=>by rw[List.mem_singleton.mp hq];exact⟨Heap.get?_push_size _ rfl,Nat.le_refl _⟩)
 generalize eH:k1.push { cls:=.type "list",dict:=none,data:=.seq ([]:List Value).toArray } = K at hns hsb ⊢
 have eK:k1.push (lst [])=K:=eH
 rw[eK]at rD
 obtain⟨oC,gC,nC⟩:=ns_obj hns
 have up:∀b o,K.get? b=some o→h₂.get? b=some o:=fun b o e=>hsb.extBut b o (Nat.ne_of_lt (Heap.lt_size e)) (Heap.get?_push_of_some _ e)
 obtain⟨rC,aC⟩:=rD.more (fs:=[(K.objs.size,oC)]) up (fun q hq=>by rw[List.mem_singleton.mp hq];exact⟨gC,Nat.le_refl _⟩)
 have adr0:=I1.adr 0 fs i1
 have offs:∀b∈as,b≠k1.objs.size∧b≠K.objs.size:=fun b hb=>by
  rw[←adr0]at hb
  obtain⟨q,hq,e⟩:=Zz11.mp hb
  exact⟨e▸(aD _ Zz5 q (Zz4 _ hq)).symm,e▸(aC _ Zz5 q (Zz3 _ (Zz4 _ hq))).symm⟩
 have cd:K.objs.size≠k1.objs.size:=aC _ Zz5 (k1.objs.size,lst []) (Zz4 _ Zz5)
 have cfr:∀t∈fr,K.objs.size≠t.1:=fun t ht=>aC _ Zz5 t (Zz3 _ (Zz3 _ ht))
 have dfr:∀t∈fr,k1.objs.size≠t.1:=fun t ht=>aD _ Zz5 t (Zz3 _ ht)
 generalize k1.objs.size=D at *
 generalize K.objs.size=C at *
 have loop:∀s₃:Shared,s₃ = { s with heap:=h₂,toks:=t1+([]:List (Str×Value)).length } →
   codeAny (model prog w) Γ.A (.compLoop (.ListComp elt [⟨.Name x px,iter,ifs,0⟩] scope pos) 0 itv (.ref D) (compEnvC scope cl C Γ.env)) (RR (.ref D) C) s₃:=by
  intro s₃ hs₃
  subst hs₃
  refine codeAny_compLoop_tests (Zfl Γ W1 ρ fr C D It nx (ZK t) c f q s) ?_ n ⟨W1,H0,h₂,_,0,fs,[],[],oC,_,rfl,.refl _,i1,nC,.nil,Nat.zero_le _,rC,e2⟩
  rintro k s' ⟨W2,H2,k2,t2,j,fs2,acc,ys,oC2,m₂,rfl,l2,i2,hC2,hv2,hl2,r2,e⟩
  cases k with
  | zero=>first|exact Zx0 e|cases e
  | succ k=>
   obtain⟨o,e4,e⟩:=Zz0.mp e
   have r2':Rep Γ W2 ρ H2 (fs2++((C,oC2)::(D,lst ys)::fr)) k2:=r2.less fun q hq=>by
    rcases Zz8.mp hq with hq | hq
    ·exact Zz2 _ (Zz2 _ (Zz4 _ hq))
    ·rcases Zz7.mp hq with e | hq
     ·exact e▸List.mem_cons_self
     ·rcases Zz7.mp hq with e | hq
      ·exact e▸Zy3 _ Zz5
      ·exact Zz2 _ (Zz2 _ (Zz3 _ hq))
   have ap2:∀b∈as,∀t∈(C,oC2)::(D,lst ys)::fr,b≠t.1:=fun b hb t ht=>by
    rcases Zz7.mp ht with e | ht
    ·rw[e]
     exact(offs b hb).2
    ·rcases Zz7.mp ht with e | ht
     ·rw[e]
      exact(offs b hb).1
     ·exact ap b hb t ht
   refine I1.next j W2 ρ H2 _ fs2 _ _ _ o l2 r2' ap2 i2 e4 ?_
   cases o with
   | none=>
    cases e
    intro h' tk' r3
    exact hR W2 h' tk' C D oC2 m₂ ys (l1.trans l2) hC2 hv2 hl2 dfr cfr cd r3
   | some v=>
    intro fs3 k3 t3 y i3 r3 y3
    obtain⟨ρ3,e5,e⟩:=Zz0.mp e
    cases e5
    have a3:∀t∈fs3,t.1∈as:=fun t ht=>by
     rw[←I1.adr _ _ i3]
     exact List.mem_map_of_mem ht
    have gC3:k3.get? C=some oC2:=r3.frAt (q:=(C,oC2)) (Zz3 _ Zz5)
    have nC3:k3.Ns C m₂:=hC2.ns gC3
    refine wpAny_assign_Name (wpAny_storeName_local (lookup_relabel_local hx) nC3 (fun h4 hn4 sb4=>?_) (by simp[compEnvC,relabel,hkind]))
    obtain⟨oC4,gC4,nC4⟩:=ns_obj hn4
    have r3':Rep Γ W2 ρ H2 ([(C,oC2)]++((D,lst ys)::(fs3++fr))) k3:=r3.less fun q hq=>by
     rcases Zz8.mp hq with hq | hq
     ·rw[List.mem_singleton.mp hq]
      exact Zz3 _ Zz5
     ·rcases Zz7.mp hq with e | hq
      ·exact e▸List.mem_append_right _ (Zz2 _ Zz5)
      ·rcases Zz8.mp hq with hq | hq
       ·exact Zz4 _ hq
       ·exact Zz3 _ (Zz2 _ (Zz2 _ hq))
    have aC3:∀t∈(D,lst ys)::(fs3++fr),C≠t.1:=fun t ht=>by
     rcases Zz7.mp ht with e | ht
     ·rw[e]
      exact cd
     ·rcases Zz8.mp ht with ht | ht
      ·exact(offs _ (a3 t ht)).2.symm
      ·exact cfr t ht
    have aD3:∀t∈fs3++fr,D≠t.1:=fun t ht=>by
     rcases Zz8.mp ht with ht | ht
     ·exact(offs _ (a3 t ht)).1.symm
     ·exact dfr t ht
    have r4:Rep Γ W2 ρ H2 ([(C,oC4)]++((D,lst ys)::(fs3++fr))) h4:=by
     refine r3'.swap (fun q hq t ht=>?_) (fun b o hb e=>sb4.extBut b o (fun z=>hb (by simp[z,compEnvC])) e) fun q hq=>?_
     ·rw[List.mem_singleton.mp hq]
      exact aC3 t ht
     ·rw[List.mem_singleton.mp hq]
      exact⟨gC4,by simp⟩
    refine Zm4 (hel C ρ) (hif C ρ) ⟨h4,_,rfl⟩ aC3 aD3 l2 i3 nC4 hv2 hl2 r4 (fun p hp=>?_) (fun i hi=>?_) e
    ·rw[List.mem_singleton.mp hp]
     exact⟨v,y,by simp[upd],by simp,y3⟩
    ·have:i≠t:=fun e=>hi (x,t) Zz5 e.symm
     simp[upd,this]
 refine codeAny_compStart_list (loop _ rfl) ?_
 exact I1.self 0 W1 ρ H0 (([(C,oC)]++[(D,lst [])])++fr) fs _ _ _ (.refl _) (rC.less fun q hq=>by
  rcases Zz8.mp hq with hq | hq
  ·exact Zz3 _ (Zz3 _ (Zz4 _ hq))
  ·rcases Zz8.mp hq with hq | hq
   ·rcases Zz8.mp hq with hq | hq
    ·exact Zz4 _ hq
    ·exact Zz3 _ (Zz4 _ hq)
   ·exact Zz3 _ (Zz3 _ (Zz3 _ hq))) i1 (loop _ rfl)
theorem Zj1{W:Wd}{ρ:Lc}{q:List V×Hp}{fr:List (Addr×Obj)}{C D:Addr}{oC:Obj}{ys:List Value}{h' h'':Heap}(hv:VRs W q.1 ys)(hl:q.1.length≤ZM)(aD:∀t∈fr,D≠t.1)(aC:∀t∈fr,C≠t.1)(cd:C≠D)(r:Rep Γ W ρ q.2 ((C,oC)::(D,lst ys)::fr) h')(sb:Heap.SameBut C h' h''):
  ∃W',W.Le W'∧Rep Γ W' ρ (q.2++[q.1]) fr h''∧VR W' (.ref q.2.length) (.ref D):=by
 have r4:Rep Γ W ρ q.2 ([]++((D,lst ys)::fr)) h'':=by
  refine Rep.swap (fs:=[(C,oC)]) (fs':=[]) r (fun q hq t ht=>?_) (fun b o hb e=>sb.extBut b o (fun z=>hb (by simp[z])) e) fun q hq=>nomatch hq
  rw[List.mem_singleton.mp hq]
  rcases Zz7.mp ht with e | ht
  ·rw[e]
   exact cd
  ·exact aC t ht
 exact ZhP r4 aD hv hl
theorem J.comp{elt iter:Expr}{x:Str}{px:Pos}{ifs:List Expr}{scope:Scope}{pos:Pos}{cl:List (Str×Addr)}{t:Nat}{g:Src}{c:Ts}{f:Ex}(hg:JI prog w Γ iter g)(hel:∀C ρ,J prog w (ZaM Γ scope cl C [(x,t)] ρ) elt f)(hif:∀C ρ,JF prog w (ZaM Γ scope cl C [(x,t)] ρ) ifs c)
  (hclos:closureFor scope Γ.env=pure cl) (hcell:∀y∈scope.names,y.2≠.cell) (hkind:scope.kind=.function) (hnames:∀y∈scope.names,y.2=.local→scope.names.lookup y.1=some .local) (hx:scope.names.lookup x=some .local) (hs:∀x,foldedSetIterable iter Γ.env x=pure x:=by intro _;rfl):
  J prog w Γ (.ListComp elt [⟨.Name x px,iter,ifs,0⟩] scope pos) (Zao g (ZK t) c f):=by
 intro W ρ H fr s Q E v H' r hf post
 obtain⟨z,e1,hf⟩:=Zz0.mp hf
 obtain⟨q,e2,e3⟩:=Zz1.mp hf
 cases e3
 rw[eval_ListComp]
 refine wpAny_comprehension_free (use:=Option.none) rfl hs hclos hkind hnames ?_
 refine comp_core (RR:=fun acc C=>compPost (model prog w) Γ.A E Option.none Q acc C) hg hel hif hcell hkind hx r (q:=q) (by rw[e1];exact e2) fun W2 h' tk' C D oC m₂ ys l2 hC hv hl aD aC cd r3=>?_
 refine⟨m₂,hC.ns (r3.frAt (q:=(C,oC)) Zz5),fun h'' sb=>?_⟩
 obtain⟨W5,l5,r5,v5⟩:=Zj1 hv hl aD aC cd r3 sb
 exact post W5 h'' tk' _ (l2.trans l5) r5 v5
theorem ZhG{elt iter:Expr}{x y:Str}{px py pos spos:Pos}{ifs:List Expr}{scope:Scope}{cl:List (Str×Addr)}{t i:Nat}{g:Src}{c:Ts}{f:Ex}(hy:Sto prog w Γ y i)(hg:JI prog w Γ iter g)(hel:∀C ρ,J prog w (ZaM Γ scope cl C [(x,t)] ρ) elt f)(hif:∀C ρ,JF prog w (ZaM Γ scope cl C [(x,t)] ρ) ifs c)
  (hsw:swapsWith (.ListComp elt [⟨.Name x px,iter,ifs,0⟩] scope pos) (some (.Name y py)) spos.line Γ.env=pure true)
  (hclos:closureFor scope Γ.env=pure cl) (hcell:∀y∈scope.names,y.2≠.cell) (hkind:scope.kind=.function) (hnames:∀y∈scope.names,y.2=.local→scope.names.lookup y.1=some .local) (hx:scope.names.lookup x=some .local) (hs:∀x,foldedSetIterable iter Γ.env x=pure x:=by intro _;rfl):
  S1 prog w Γ (.Assign [.Name y py] (.ListComp elt [⟨.Name x px,iter,ifs,0⟩] scope pos) spos) (Zu i (Zao g (ZK t) c f)):=by
 intro W ρ H fr s Q E r rp hf post
 obtain⟨p,e0,e9⟩:=Zz1.mp hf
 cases e9
 obtain⟨z,e1,hf⟩:=Zz0.mp e0
 obtain⟨q,e2,e3⟩:=Zz1.mp hf
 cases e3
 rw[exec_Assign_Name_used _ _ _ _ hsw]
 refine wpAny_bind (wpAny_standAt (wpAny_bind ?_))
 show wpAny _ Γ.A (do let _ ←comprehension (.ListComp elt [⟨.Name x px,iter,ifs,0⟩] scope pos) scope Γ.env _ (newList []) false (eval iter Γ.env) (some (assign (.Name y py) Γ.env))) _ _ s
 refine wpAny_bind (wpAny_mono (wpAny_comprehension_free (use:=some (assign (.Name y py) Γ.env)) (Q:=fun _ s'=>Q .next s') rfl hs hclos hkind hnames ?_) (fun _ s' h'=>wpAny_pure (wpAny_pure h')) fun _ _ e=>e)
 refine comp_core (RR:=fun acc C=>compPost (model prog w) Γ.A E (some (assign (.Name y py) Γ.env)) (fun _ s'=>Q .next s') acc C) hg hel hif hcell hkind hx rp (q:=q) (by rw[e1];exact e2) fun W2 h' tk' C D oC m₂ ys l2 hC hv hl aD aC cd r3=>?_
 have r4:Rep Γ W2 ρ q.2 ((D,lst ys)::(C,oC)::fr) h':=r3.less fun t ht=>by
  rcases Zz7.mp ht with e | ht
  ·exact e▸Zy3 _ Zz5
  ·rcases Zz7.mp ht with e | ht
   ·exact e▸List.mem_cons_self
   ·exact Zz2 _ (Zz2 _ ht)
 obtain⟨W5,l5,r5,v5⟩:=ZhP r4 (fun t ht=>by
  rcases Zz7.mp ht with e | ht
  ·rw[e]
   exact cd.symm
  ·exact aD t ht) hv hl
 refine wpAny_assign_Name (hy W5 ρ _ _ _ _ _ _ _ r5 v5 fun h6 t6 r6=>?_)
 refine⟨m₂,hC.ns (r6.frAt (q:=(C,oC)) Zz5),fun h'' sb=>?_⟩
 have r7:Rep Γ W5 (upd ρ i (.ref q.2.length)) (q.2++[q.1]) ([]++fr) h'':=
  Rep.swap (fs:=[(C,oC)]) (fs':=[]) r6 (fun q hq t ht=>by rw[List.mem_singleton.mp hq];exact aC t ht) (fun b o hb e=>sb.extBut b o (fun z=>hb (by simp[z])) e) fun q hq=>nomatch hq
 exact post W5 h'' t6 (l2.trans l5) r7
end
end PM
end
section
namespace PM
open PySem PySem.W PySem.Calls PyProof.Rows PyProof PyProof.Rows.LCg PyProof.Rows.LCp
theorem Zlu(h:Heap): ∀as:List Addr,(∀a∈as,∃o,h.get? a=some o)→∃fs:List (Addr×Obj),fs.map (·.1)=as∧∀q∈fs,h.get? q.1=some q.2
 | [],_=>⟨[],rfl,fun q hq=>nomatch hq⟩
 | a::as,d=>by
  obtain⟨o,ho⟩:=d a Zz5
  obtain⟨fs,h1,h2⟩:=Zlu h as fun b hb=>d b (Zz2 _ hb)
  refine⟨(a,o)::fs,by rw[List.map_cons,h1],fun q hq=>?_⟩
  rcases Zz7.mp hq with e | hq
  ·rw[e]
   exact ho
  ·exact h2 q hq
structure Itr2(prog:Program)(w:World)(Γ:Cx)(W0:Wd)(it:Value)(as:List Addr)(It:Nat→List (Addr×Obj)→Prop)(nx:Nx): Prop where
 adr:∀i fs,It i fs→fs.map (·.1)=as
 pair:∀i H v,nx i H=some (some v)→∃a b,v=.tup [a,b]
 item:∀(i:Nat) (W:Wd) (ρ:Lc) (H:Hp) (fr fs:List (Addr×Obj)) (s:Shared) (Q:Option Value→Shared→Prop) (E:Value→Shared→Prop) (a b:V),W0.Le W→Rep Γ W ρ H (fs++fr) s.heap→(∀a∈as,∀t∈fr,a≠t.1)→It i fs→nx i H=some (some (.tup [a,b])) →
  (∀(T:Addr) (h1:Heap) (t1:Nat),(∀(elts:List Expr) (k:Nat) (pos:Pos) (s1:Shared) (Q1:Unit→Shared→Prop) (E1:Value→Shared→Prop),s1 = { s with heap:=h1,toks:=t1 } →
    (∀(fs':List (Addr×Obj)) (h':Heap) (x y:Value),It (i+1) fs'→Rep Γ W ρ H (fs'++fr) h'→IsTup h' T #[x,y]→VR W a x→VR W b y→Q1 () { s with heap:=h',toks:=t1 })→wpAny (model prog w) Γ.A (letOwnedTupleGo (.Tuple elts k pos) it (.ref T)) Q1 E1 s1)→Q (some (.ref T)) { s with heap:=h1,toks:=t1 })→wpAny (model prog w) Γ.A (pyNext it) Q E s
 done:∀(i:Nat) (W:Wd) (ρ:Lc) (H:Hp) (fr fs:List (Addr×Obj)) (s:Shared) (Q:Option Value→Shared→Prop) (E:Value→Shared→Prop),W0.Le W→Rep Γ W ρ H (fs++fr) s.heap→(∀a∈as,∀t∈fr,a≠t.1)→It i fs→nx i H=some none →
  (∀(h':Heap) (tk':Nat),Rep Γ W ρ H fr h'→Q none { s with heap:=h',toks:=tk' })→wpAny (model prog w) Γ.A (pyNext it) Q E s
 self:∀(i:Nat) (W:Wd) (ρ:Lc) (H:Hp) (fr fs:List (Addr×Obj)) (s:Shared) (Q E:Value→Shared→Prop) (o:Option V),W0.Le W→Rep Γ W ρ H (fs++fr) s.heap→It i fs→nx i H=some o→Q it s→wpAny (model prog w) Γ.A (pyIter it) Q E s
noncomputable def JI2(prog:Program)(w:World)(Γ:Cx)(e:Expr)(g:Src): Prop:=∀(W:Wd) (ρ:Lc) (H:Hp) (fr:List (Addr×Obj)) (s:Shared) (Q E:Value→Shared→Prop) (nx:Nx) (n:Nat) (H':Hp),
 Rep Γ W ρ H fr s.heap→g ρ H=some (nx,n,H') →
 (∀(W':Wd) (h':Heap) (tk':Nat) (it:Value) (as:List Addr) (It:Nat→List (Addr×Obj)→Prop) (fs:List (Addr×Obj)),W.Le W'→It 0 fs→Rep Γ W' ρ H' (fs++fr) h'→(∀a∈as,∀t∈fr,a≠t.1)→Itr2 prog w Γ W' it as It nx→(∃o,nx 0 H'=some o)→Q it { s with heap:=h',toks:=tk' }) →
 wpAny (model prog w) Γ.A (eval e Γ.env) (fun xv s₁=>wpAny (model prog w) Γ.A (pyIter xv) Q E s₁) E s
noncomputable def Ze8(a b:Nat): Nx:=fun i H=>H[a]?.bind fun vs=>H[b]?.bind fun us=>match vs[i]?,us[i]? with
 | some x,some y=>some (some (.tup [x,y]))
 | _,_=>if i=min vs.length us.length then some none else none
noncomputable def ZgN(f g:Ex): Src:=fun ρ H=>(f ρ H).bind fun p=>(g ρ p.2).bind fun q=>match p.1,q.1 with
 | .ref a,.ref b=>q.2[a]?.bind fun vs=>q.2[b]?.map fun us=>(Ze8 a b,min vs.length us.length+1,q.2)
 | _,_=>none
noncomputable def ZdL(i j:Nat): V→Lc→Option Lc
 | .tup [a,b],ρ=>some (upd (upd ρ i a) j b)
 | _,_=>none
noncomputable def ZS(z TI TO i1 i2 l1 l2:Addr)(i:Nat)(h:Heap): Prop:=IsZip h z TI TO .none∧PySem.IsPair h TI (.ref i1) (.ref i2)∧(∃a b,PySem.IsPair h TO a b)∧h.IsListIter i1 l1 i∧h.IsListIter i2 l2 i
theorem ZS.at{z TI TO i1 i2 l1 l2:Addr}{i:Nat}{h h':Heap}(x:ZS z TI TO i1 i2 l1 l2 i h)(e:∀a∈[z,TI,TO,i1,i2],∀o,h.get? a=some o→h'.get? a=some o): ZS z TI TO i1 i2 l1 l2 i h':=by
 obtain⟨h1,h2,⟨a,b,h3⟩,h4,h5⟩:=x
 exact⟨e z (by simp) _ h1,e TI (by simp) _ h2,⟨a,b,e TO (by simp) _ h3⟩,h4.at fun o x=>e i1 (by simp) o x,h5.at fun o x=>e i2 (by simp) o x⟩
theorem ZS.have{z TI TO i1 i2 l1 l2:Addr}{i:Nat}{h:Heap}(x:ZS z TI TO i1 i2 l1 l2 i h): ∀a∈[z,TI,TO,i1,i2],∃o,h.get? a=some o:=by
 obtain⟨h1,h2,⟨a,b,h3⟩,⟨o4,h4,_⟩,⟨o5,h5,_⟩⟩:=x
 intro c hc
 simp only[List.mem_cons,List.not_mem_nil,or_false]at hc
 rcases hc with e | e | e | e | e <;> subst e
 ·exact⟨_,h1⟩
 ·exact⟨_,h2⟩
 ·exact⟨_,h3⟩
 ·exact⟨_,h4⟩
 ·exact⟨_,h5⟩
noncomputable def ZIt(z TI TO i1 i2 l1 l2:Addr)(i:Nat)(fs:List (Addr×Obj)): Prop:=fs.map (·.1)=[z,TI,TO,i1,i2]∧∀h:Heap,(∀q∈fs,h.get? q.1=some q.2)→ZS z TI TO i1 i2 l1 l2 i h
theorem ZIt.mk'{z TI TO i1 i2 l1 l2:Addr}{i:Nat}{h:Heap}(x:ZS z TI TO i1 i2 l1 l2 i h): ∃fs,ZIt z TI TO i1 i2 l1 l2 i fs∧∀q∈fs,h.get? q.1=some q.2:=by
 obtain⟨fs,h1,h2⟩:=Zlu h [z,TI,TO,i1,i2] x.have
 refine⟨fs,⟨h1,fun h' e=>x.at fun a ha o ho=>?_⟩,h2⟩
 rw[←h1]at ha
 obtain⟨q,hq,eq⟩:=Zz11.mp ha
 have:=h2 q hq
 rw[eq,ho]at this
 cases this
 exact eq▸e q hq
section
variable {prog:Program} {w:World} {Γ:Cx}
theorem ZoQ{W0:Wd}{z TI TO i1 i2 l1 l2:Addr}{a b:Nat}(ea:W0.At a l1)(eb:W0.At b l2)(D:ZipApart z TI TO i1 i2 l1 l2):
  Itr2 prog w Γ W0 (.ref z) [z,TI,TO,i1,i2] (ZIt z TI TO i1 i2 l1 l2) (Ze8 a b):=by
 refine⟨fun i fs h=>h.1,?_,?_,?_,?_⟩
 ·intro i H v e
  obtain⟨vs,e1,e⟩:=Zz0.mp e
  obtain⟨us,e2,e⟩:=Zz0.mp e
  split at e
  ·first|exact Zx0 e|cases e
   exact⟨_,_,rfl⟩
  ·split at e <;> cases e
 ·intro i W ρ H fr fs s Q E va vb le r ap hit hn post
  obtain⟨vs,e1,e⟩:=Zz0.mp hn
  obtain⟨us,e2,e⟩:=Zz0.mp e
  have hvu:vs[i]?=some va∧us[i]?=some vb:=by
   split at e
   ·rename_i x y h1 h2
    cases e
    exact⟨h1,h2⟩
   ·split at e <;> cases e
  obtain⟨_,xs,k1,g1,v1⟩:=r.at e1 (le.at ea)
  obtain⟨_,ys,k2,g2,v2⟩:=r.at e2 (le.at eb)
  obtain⟨x,hx,rx⟩:=v1.at hvu.1
  obtain⟨y,hy,ry⟩:=v2.at hvu.2
  have st:ZS z TI TO i1 i2 l1 l2 i s.heap:=hit.2 _ fun q hq=>r.frAt (Zz4 _ hq)
  have Wk:=WalksT.zip2 (prog:=prog) (w:=w) (A:=Γ.A) Γ.hh z TI TO i1 i2 l1 l2 D xs.toArray ys.toArray
  have isl1:s.heap.IsList l1 xs.toArray:=⟨_,g1,rfl,k1,rfl⟩
  have isl2:s.heap.IsList l2 ys.toArray:=⟨_,g2,rfl,k2,rfl⟩
  have hi:i<min xs.toArray.size ys.toArray.size:=by
   have h1:=(Zz6.mp hx).1
   have h2:=(Zz6.mp hy).1
   simp
   omega
  refine Wk.item i s Q E hi ⟨st.1,st.2.1,st.2.2.1,st.2.2.2.1,st.2.2.2.2,isl1,isl2⟩ fun T vals h1 t1 hp hT hTup hmid keep1=>post T h1 t1 ?_
  intro elts k pos s1 Q1 E1 es1 q1
  subst es1
  have hTw:=Wk.apart i T _ hmid
  refine Wk.go elts k pos i T _ Q1 E1 hmid fun h2 st2 keep2=>?_
  obtain⟨x',y',hx',hy',ev⟩:=hp
  have ex:x'=x:=by
   have:xs[i]?=some x':=by simpa using hx'
   rw[hx]at this
   exact(Option.some.inj this).symm
  have ey:y'=y:=by
   have:ys[i]?=some y':=by simpa using hy'
   rw[hy]at this
   exact(Option.some.inj this).symm
  subst ex ey ev
  obtain⟨fs',hit',at'⟩:=ZIt.mk' (h:=h2) (⟨st2.1,st2.2.1,st2.2.2.1,st2.2.2.2.1,st2.2.2.2.2.1⟩:ZS z TI TO i1 i2 l1 l2 (i+1) h2)
  obtain⟨oT,gT,cT,nT,dT⟩:=hTup
  refine q1 fs' h2 x' y' hit' ?_ ⟨oT,keep2 T oT hTw gT,cT,nT,dT⟩ rx ry
  refine r.swap (fs':=fs') (fun q hq t ht=>?_) (fun c o hc e=>?_) fun q hq=>⟨at' q hq,?_⟩
  ·exact ap _ (hit.1▸List.mem_map_of_mem hq) t ht
  ·rw[hit.1]at hc
   have hcw:c∉[z,TO,i1,i2]:=fun h=>hc (by simp at h ⊢;rcases h with h | h | h | h <;> simp[h])
   exact keep2 c o hcw (keep1 c o hcw e)
  ·rw[hit.1,←hit'.1]
   exact List.mem_map_of_mem hq
 ·intro i W ρ H fr fs s Q E le r ap hit hn post
  obtain⟨vs,e1,e⟩:=Zz0.mp hn
  obtain⟨us,e2,e⟩:=Zz0.mp e
  obtain⟨_,xs,k1,g1,v1⟩:=r.at e1 (le.at ea)
  obtain⟨_,ys,k2,g2,v2⟩:=r.at e2 (le.at eb)
  have hi:i=min vs.length us.length:=by
   split at e
   ·first|exact Zx0 e|cases e
   ·split at e
    ·assumption
    ·first|exact Zx0 e|cases e
  have st:ZS z TI TO i1 i2 l1 l2 i s.heap:=hit.2 _ fun q hq=>r.frAt (Zz4 _ hq)
  have Wk:=WalksT.zip2 (prog:=prog) (w:=w) (A:=Γ.A) Γ.hh z TI TO i1 i2 l1 l2 D xs.toArray ys.toArray
  have hm:min xs.toArray.size ys.toArray.size=i:=by simp[v1.length,v2.length,hi]
  refine Wk.done s Q E (by rw[hm];exact⟨st.1,st.2.1,st.2.2.1,st.2.2.2.1,st.2.2.2.2,⟨_,g1,rfl,k1,rfl⟩,⟨_,g2,rfl,k2,rfl⟩⟩) fun h' tk keep=>post h' tk ?_
  have:=r.swap (fs':=[]) (fun q hq t ht=>ap _ (hit.1▸List.mem_map_of_mem hq) t ht) (fun c o hc e=>keep c o (fun h=>hc (by rw[hit.1];simp at h ⊢;rcases h with h | h | h | h <;> simp[h])) e) (fun q hq=>nomatch hq)
  exact this
 ·intro i W ρ H fr fs s Q E o le r hit hn q
  obtain⟨vs,e1,e⟩:=Zz0.mp hn
  obtain⟨us,e2,e⟩:=Zz0.mp e
  obtain⟨_,xs,k1,g1,v1⟩:=r.at e1 (le.at ea)
  obtain⟨_,ys,k2,g2,v2⟩:=r.at e2 (le.at eb)
  have st:ZS z TI TO i1 i2 l1 l2 i s.heap:=hit.2 _ fun q hq=>r.frAt (Zz4 _ hq)
  have Wk:=WalksT.zip2 (prog:=prog) (w:=w) (A:=Γ.A) Γ.hh z TI TO i1 i2 l1 l2 D xs.toArray ys.toArray
  exact Wk.self i s Q E ⟨st.1,st.2.1,st.2.2.1,st.2.2.2.1,st.2.2.2.2,⟨_,g1,rfl,k1,rfl⟩,⟨_,g2,rfl,k2,rfl⟩⟩ q
theorem JI2.zip{x:Str}{np pos:Pos}{e1 e2:Expr}{f g:Ex}(hn:Nm prog w Γ x (.type "zip"))(h1:J prog w Γ e1 f)(h2:J prog w Γ e2 g)
  (he:starEach [e1,e2] Γ.env=(false,eval e1 Γ.env)::starEach [e2] Γ.env:=by rfl) (he2:starEach [e2] Γ.env=(false,eval e2 Γ.env)::starEach [] Γ.env:=by rfl) (hp:∀pos,(backTo pos (starEach [e2] Γ.env)).any (·.1)=false:=by intro _;rfl):JI2 prog w Γ (.Call (.Name x np) [e1,e2] [] pos) (ZgN f g):=by
 intro W ρ H fr s Q E nx n H' r hf post
 obtain⟨p,a1,hf⟩:=Zz0.mp hf
 obtain⟨q,a2,hf⟩:=Zz0.mp hf
 refine wpAny_Call_ofName (hn.use r ?_)
 refine PySem.Pv.callWith_type1 (wpAny_items_cons (h1 W ρ H fr s _ E _ _ r a1 fun W1 k1 t1 y1 l1 r1 v1=>?_) he) he (hp pos)
 refine wpAny_items_cons (h2 W1 ρ _ fr _ _ E _ _ r1 a2 fun W2 k2 t2 y2 l2 r2 v2=>wpAny_items_nil ?_) he2
 have v1':=v1.mono l2
 obtain⟨u1,H1⟩:=p
 obtain⟨u2,H2⟩:=q
 simp only at hf v1' v2 r2
 cases u1 <;> first|exact Zx0 hf|(cases hf;done)| skip
 rename_i b1
 cases u2 <;> first|exact Zx0 hf|(cases hf;done)| skip
 rename_i b2
 obtain⟨vs,c1,hf⟩:=Zz0.mp hf
 obtain⟨us,c2,c3⟩:=Zz1.mp hf
 cases c3
 cases v1' with
 | @ref _ m1 ea=>
 cases v2 with
 | @ref _ m2 eb=>
 obtain⟨_,xs,n1,g1,w1⟩:=r2.at c1 ea
 obtain⟨_,ys,n2,g2,w2⟩:=r2.at c2 eb
 have isl1:k2.IsList m1 xs.toArray:=⟨_,g1,rfl,n1,rfl⟩
 have isl2:k2.IsList m2 ys.toArray:=⟨_,g2,rfl,n2,rfl⟩
 refine call_zip_2 (s:={ s with heap:=k2,toks:=t2 }) isl1 isl2 fun h₁ hz hTI hTO hi1 hi2 hsz up=>?_
 have ap:=zipApart_new (n:=k2.objs.size) (Heap.lt_size g1) (Heap.lt_size g2)
 have Wk:=WalksT.zip2 (prog:=prog) (w:=w) (A:=Γ.A) Γ.hh _ _ _ _ _ m1 m2 ap xs.toArray ys.toArray
 have zs:ZS (k2.objs.size+4) (k2.objs.size+2) (k2.objs.size+3) k2.objs.size (k2.objs.size+1) m1 m2 0 h₁:=⟨hz,hTI,⟨_,_,hTO⟩,hi1,hi2⟩
 refine Wk.self 0 _ _ _ ⟨hz,hTI,⟨_,_,hTO⟩,hi1,hi2,isl1.at fun o e=>up _ o e,isl2.at fun o e=>up _ o e⟩ ?_
 obtain⟨fs,hit,at'⟩:=ZIt.mk' zs
 obtain⟨r3,ap3⟩:=r2.more (fs:=fs) (h':=h₁) (fun b o e=>up b o e) (fun q hq=>⟨at' q hq,by
  have:q.1∈fs.map (·.1):=List.mem_map_of_mem hq
  rw[hit.1]at this
  simp at this
  rcases this with e | e | e | e | e <;> rw[e] <;> omega⟩)
 refine post W2 h₁ t2 _ _ _ fs (l1.trans l2) hit r3 (fun b hb t ht=>?_) (ZoQ ea eb ap) ?_
 ·rw[←hit.1]at hb
  obtain⟨q,hq,e⟩:=Zz11.mp hb
  exact e▸ap3 q hq t ht
 ·simp only[Ze8,c1,c2,Zs0]
  split
  ·exact⟨_,rfl⟩
  ·rename_i hno
   have:0=min vs.length us.length:=by
    rcases Nat.eq_zero_or_pos vs.length with z | z
    ·rw[z];simp
    ·rcases Nat.eq_zero_or_pos us.length with z' | z'
     ·rw[z'];simp
     ·exact(hno vs[0] us[0] (by simp[z]) (by simp[z'])).elim
   rw[if_pos this]
   exact⟨_,rfl⟩
theorem Zma{elt iter:Expr}{x x₂:Str}{px px₂ tp:Pos}{kt:Nat}{scope:Scope}{pos:Pos}{cl:List (Str×Addr)}{t t₂:Nat}{g:Src}{f:Ex}(hg:JI2 prog w Γ iter g)(hel:∀C ρ,J prog w (ZaM Γ scope cl C [(x,t),(x₂,t₂)] ρ) elt f)
  (hcell:∀y∈scope.names,y.2≠.cell) (hkind:scope.kind=.function) (hx:scope.names.lookup x=some .local) (hx₂:scope.names.lookup x₂=some .local) (hxx:x≠x₂) (htt:t≠t₂)
  {W:Wd} {ρ:Lc} {H:Hp} {fr:List (Addr×Obj)} {s:Shared} {E:Value→Shared→Prop} {q:List V×Hp} {RR:Value→Addr→Result→Shared→Prop} (r:Rep Γ W ρ H fr s.heap) (hf:((g ρ H).bind fun z=>ZaB z.1 (ZdL t t₂) Z5 f ρ z.2.1 0 [] z.2.2)=some q)
  (hR:∀(W':Wd) (h':Heap) (tk':Nat) (C D:Addr) (oC:Obj) (m₂:Str→Option Value) (ys:List Value),W.Le W'→NsObj oC m₂→VRs W' q.1 ys→q.1.length≤ZM→(∀t∈fr,D≠t.1)→(∀t∈fr,C≠t.1)→C≠D→Rep Γ W' ρ q.2 ((C,oC)::(D,lst ys)::fr) h'→RR (.ref D) C (.ok .next) { s with heap:=h',toks:=tk' }):
  wpAny (model prog w) Γ.A (eval iter Γ.env) (fun xv s₁=>wpAny (model prog w) Γ.A (pyIter xv) (fun it s₂=>wpAny (model prog w) Γ.A (newList []) (fun acc s₃=>wpAny (model prog w) Γ.A (newFunctionEnv scope Γ.env.globals cl [] Γ.env.qual none .none (some Γ.env)) (fun cenv s₄=>
   codeAny (model prog w) Γ.A (.compStart (.ListComp elt [⟨.Tuple [.Name x px,.Name x₂ px₂] kt tp,iter,[],0⟩] scope pos) 0 it acc { cenv with scope:=relabel scope Γ.env }) (RR acc cenv.locals) s₄) E s₃) E s₂) E s₁) E s:=by
 obtain⟨z,e1,e2⟩:=Zz0.mp hf
 obtain⟨nx,n,H0⟩:=z
 refine hg W ρ H fr s _ E nx n H0 r e1 fun W1 k1 t1 itv as It fs l1 i1 r1 ap I1 hstart=>?_
 refine wpAny_newObj_type (wpAny_newFunctionEnv hcell (fun y hy=>by simp at hy) (fun h₂ hns hsb=>?_) hkind)
 dsimp only at hns hsb ⊢
 obtain⟨rD,aD⟩:=r1.more (fs:=[(k1.objs.size,lst [])]) (fun b o e=>Heap.get?_push_of_some (lst []) e) (fun q hq=>by rw[List.mem_singleton.mp hq];exact⟨Heap.get?_push_size _ rfl,Nat.le_refl _⟩)
 generalize eH:k1.push { cls:=.type "list",dict:=none,data:=.seq ([]:List Value).toArray } = K at hns hsb ⊢
 have eK:k1.push (lst [])=K:=eH
 rw[eK]at rD
 obtain⟨oC,gC,nC⟩:=ns_obj hns
 have up:∀b o,K.get? b=some o→h₂.get? b=some o:=fun b o e=>hsb.extBut b o (Nat.ne_of_lt (Heap.lt_size e)) (Heap.get?_push_of_some _ e)
 obtain⟨rC,aC⟩:=rD.more (fs:=[(K.objs.size,oC)]) up (fun q hq=>by rw[List.mem_singleton.mp hq];exact⟨gC,Nat.le_refl _⟩)
 have adr0:=I1.adr 0 fs i1
 have offs:∀b∈as,b≠k1.objs.size∧b≠K.objs.size:=fun b hb=>by
  rw[←adr0]at hb
  obtain⟨q,hq,e⟩:=Zz11.mp hb
  exact⟨e▸(aD _ Zz5 q (Zz4 _ hq)).symm,e▸(aC _ Zz5 q (Zz3 _ (Zz4 _ hq))).symm⟩
 have cd:K.objs.size≠k1.objs.size:=aC _ Zz5 (k1.objs.size,lst []) (Zz4 _ Zz5)
 have cfr:∀t∈fr,K.objs.size≠t.1:=fun t ht=>aC _ Zz5 t (Zz3 _ (Zz3 _ ht))
 have dfr:∀t∈fr,k1.objs.size≠t.1:=fun t ht=>aD _ Zz5 t (Zz3 _ ht)
 generalize k1.objs.size=D at *
 generalize K.objs.size=C at *
 have loop:∀s₃:Shared,s₃ = { s with heap:=h₂,toks:=t1+([]:List (Str×Value)).length } →
   codeAny (model prog w) Γ.A (.compLoop (.ListComp elt [⟨.Tuple [.Name x px,.Name x₂ px₂] kt tp,iter,[],0⟩] scope pos) 0 itv (.ref D) (compEnvC scope cl C Γ.env)) (RR (.ref D) C) s₃:=by
  intro s₃ hs₃
  subst hs₃
  refine codeAny_compLoop_pair (Zfl Γ W1 ρ fr C D It nx (ZdL t t₂) Z5 f q s) ?_ n ⟨W1,H0,h₂,_,0,fs,[],[],oC,_,rfl,.refl _,i1,nC,.nil,Nat.zero_le _,rC,e2⟩
  rintro k s' ⟨W2,H2,k2,t2,j,fs2,acc,ys,oC2,m₂,rfl,l2,i2,hC2,hv2,hl2,r2,e⟩
  cases k with
  | zero=>first|exact Zx0 e|cases e
  | succ k=>
   obtain⟨o,e4,e⟩:=Zz0.mp e
   have r2':Rep Γ W2 ρ H2 (fs2++((C,oC2)::(D,lst ys)::fr)) k2:=r2.less fun q hq=>by
    rcases Zz8.mp hq with hq | hq
    ·exact Zz2 _ (Zz2 _ (Zz4 _ hq))
    ·rcases Zz7.mp hq with e | hq
     ·exact e▸List.mem_cons_self
     ·rcases Zz7.mp hq with e | hq
      ·exact e▸Zy3 _ Zz5
      ·exact Zz2 _ (Zz2 _ (Zz3 _ hq))
   have ap2:∀b∈as,∀t∈(C,oC2)::(D,lst ys)::fr,b≠t.1:=fun b hb t ht=>by
    rcases Zz7.mp ht with e | ht
    ·rw[e]
     exact(offs b hb).2
    ·rcases Zz7.mp ht with e | ht
     ·rw[e]
      exact(offs b hb).1
     ·exact ap b hb t ht
   cases o with
   | none=>
    cases e
    exact I1.done j W2 ρ H2 _ fs2 _ _ _ l2 r2' ap2 i2 e4 fun h' tk' r3=>hR W2 h' tk' C D oC2 m₂ ys (l1.trans l2) hC2 hv2 hl2 dfr cfr cd r3
   | some v=>
    obtain⟨va,vb,ev⟩:=I1.pair j H2 v e4
    subst ev
    refine I1.item j W2 ρ H2 _ fs2 _ _ _ va vb l2 r2' ap2 i2 e4 fun T h3 t3 go=>?_
    obtain⟨ρ3,e5,e⟩:=Zz0.mp e
    cases e5
    refine go _ _ _ _ _ _ rfl fun fs3 k3 y1 y2 i3 r3 htup w1 w2=>?_
    have a3:∀t∈fs3,t.1∈as:=fun t ht=>by
     rw[←I1.adr _ _ i3]
     exact List.mem_map_of_mem ht
    refine assign_Tuple_tuple (s:={ s with heap:=k3,toks:=t3 }) Γ.hh htup rfl rfl fun g₄ he=>?_
    have r3g:=r3.grown (h':=g₄) fun b o e=>he b o (Nat.ne_of_lt (Heap.lt_size e)) e
    have gC3:g₄.get? C=some oC2:=r3g.frAt (q:=(C,oC2)) (Zz3 _ Zz5)
    have nC3:g₄.Ns C m₂:=hC2.ns gC3
    refine assignInOrder_cons (wpAny_assign_Name (wpAny_storeName_local (lookup_relabel_local hx) nC3 (fun h5 hn5 sb5=>?_) (by simp[compEnvC,relabel,hkind])))
    refine assignInOrder_cons (wpAny_assign_Name (wpAny_storeName_local (lookup_relabel_local hx₂) hn5 (fun h4 hn4 sb4=>?_) (by simp[compEnvC,relabel,hkind])))
    refine assignInOrder_nil ?_
    obtain⟨oC4,gC4,nC4⟩:=ns_obj hn4
    have r3':Rep Γ W2 ρ H2 ([(C,oC2)]++((D,lst ys)::(fs3++fr))) g₄:=r3g.less fun q hq=>by
     rcases Zz8.mp hq with hq | hq
     ·rw[List.mem_singleton.mp hq]
      exact Zz3 _ Zz5
     ·rcases Zz7.mp hq with e | hq
      ·exact e▸List.mem_append_right _ (Zz2 _ Zz5)
      ·rcases Zz8.mp hq with hq | hq
       ·exact Zz4 _ hq
       ·exact Zz3 _ (Zz2 _ (Zz2 _ hq))
    have aC3:∀t∈(D,lst ys)::(fs3++fr),C≠t.1:=fun t ht=>by
     rcases Zz7.mp ht with e | ht
     ·rw[e]
      exact cd
     ·rcases Zz8.mp ht with ht | ht
      ·exact(offs _ (a3 t ht)).2.symm
      ·exact cfr t ht
    have aD3:∀t∈fs3++fr,D≠t.1:=fun t ht=>by
     rcases Zz8.mp ht with ht | ht
     ·exact(offs _ (a3 t ht)).1.symm
     ·exact dfr t ht
    have r4:Rep Γ W2 ρ H2 ([(C,oC4)]++((D,lst ys)::(fs3++fr))) h4:=by
     refine r3'.swap (fun q hq t ht=>?_) (fun b o hb e=>sb4.extBut b o (fun z=>hb (by simp[z,compEnvC])) (sb5.extBut b o (fun z=>hb (by simp[z,compEnvC])) e)) fun q hq=>?_
     ·rw[List.mem_singleton.mp hq]
      exact aC3 t ht
     ·rw[List.mem_singleton.mp hq]
      exact⟨gC4,by simp⟩
    have rc:=Zko (scope:=scope) (cl:=cl) (ts:=[(x,t),(x₂,t₂)]) (ρ:=upd (upd ρ t va) t₂ vb) r4 aC3 nC4 (fun p hp=>by
     rcases Zz7.mp hp with e | hp
     ·rw[e]
      exact⟨va,y1,by simp[upd,htt],by simp[hxx],w1⟩
     ·rw[List.mem_singleton.mp hp]
      exact⟨vb,y2,by simp[upd],by simp,w2⟩) (fun i hi=>by
     have h1:i≠t:=fun e=>hi (x,t) Zz5 e.symm
     have h2:i≠t₂:=fun e=>hi (x₂,t₂) (Zz2 _ Zz5) e.symm
     simp[upd,h1,h2])
    exact ZjL (hel C ρ) aD3 cd l2 i3 hv2 rc e
 refine codeAny_compStart_list (loop _ rfl) ?_
 obtain⟨o0,ho0⟩:=hstart
 exact I1.self 0 W1 ρ H0 (([(C,oC)]++[(D,lst [])])++fr) fs _ _ _ o0 (.refl _) (rC.less fun q hq=>by
  rcases Zz8.mp hq with hq | hq
  ·exact Zz3 _ (Zz3 _ (Zz4 _ hq))
  ·rcases Zz8.mp hq with hq | hq
   ·rcases Zz8.mp hq with hq | hq
    ·exact Zz4 _ hq
    ·exact Zz3 _ (Zz4 _ hq)
   ·exact Zz3 _ (Zz3 _ (Zz3 _ hq))) i1 ho0 (loop _ rfl)
theorem ZnP{elt iter:Expr}{x x₂:Str}{px px₂ tp:Pos}{kt:Nat}{scope:Scope}{pos:Pos}{cl:List (Str×Addr)}{t t₂:Nat}{g:Src}{f:Ex}(hg:JI2 prog w Γ iter g)(hel:∀C ρ,J prog w (ZaM Γ scope cl C [(x,t),(x₂,t₂)] ρ) elt f)
  (hclos:closureFor scope Γ.env=pure cl) (hcell:∀y∈scope.names,y.2≠.cell) (hkind:scope.kind=.function) (hnames:∀y∈scope.names,y.2=.local→scope.names.lookup y.1=some .local) (hx:scope.names.lookup x=some .local) (hx₂:scope.names.lookup x₂=some .local) (hxx:x≠x₂) (htt:t≠t₂) (hs:∀x,foldedSetIterable iter Γ.env x=pure x:=by intro _;rfl):
  J prog w Γ (.ListComp elt [⟨.Tuple [.Name x px,.Name x₂ px₂] kt tp,iter,[],0⟩] scope pos) (Zao g (ZdL t t₂) Z5 f):=by
 intro W ρ H fr s Q E v H' r hf post
 obtain⟨z,e1,hf⟩:=Zz0.mp hf
 obtain⟨q,e2,e3⟩:=Zz1.mp hf
 cases e3
 rw[eval_ListComp]
 refine wpAny_comprehension_free (use:=Option.none) rfl hs hclos hkind hnames ?_
 refine Zma (RR:=fun acc C=>compPost (model prog w) Γ.A E Option.none Q acc C) hg hel hcell hkind hx hx₂ hxx htt r (q:=q) (by rw[e1];exact e2) fun W2 h' tk' C D oC m₂ ys l2 hC hv hl aD aC cd r3=>?_
 refine⟨m₂,hC.ns (r3.frAt (q:=(C,oC)) Zz5),fun h'' sb=>?_⟩
 obtain⟨W5,l5,r5,v5⟩:=Zj1 hv hl aD aC cd r3 sb
 exact post W5 h'' tk' _ (l2.trans l5) r5 v5
end
end PM
end
section
namespace PM
open PySem PySem.W PySem.Calls PyProof.Rows PyProof PySem.Spec
theorem ZkS{prog:Program}{w:World}{A A₀:Around}{s:Shared}{base h₀:Heap}{L:Addr}{m:Str→Option Value}{lent:List (Addr×Obj)}{K:Frag}{p:Program}{loose:List Str}{mean:ExcName→Option Value}{mg mb:Str→Option Value}
  {env:Env} {outer:List Env} {R:Result→Shared→Prop} {name qual:Str} {params:Arguments} {body:List Stmt} {scope:Scope} {dV kV doc pm cdv ct oc:Value} {an od:Option Addr} {osl:Array (Option Value)} {f:Addr} {args:Args} {binds:List (Str×Value)}
  (B:Below A₀ base outer h₀) (F:Fr h₀ L s.heap m) (X₀:K.In h₀) (N:News h₀ L s.heap lent) (T:Top p loose mean mg mb h₀) (hA:A.frames=some (env::outer)) (hf:env.frame=some L) (hke:env.scope.kind=.function)
  (ho:K.lookup f=some ⟨oc,od,.func (fnOf name qual params body scope dV kV doc pm an cdv ct),osl⟩) (hcd:codeIn K cdv qual=true) (hroom:A.depth<recursionLimit)
  (hbind:BindsTo s (fnOf name qual params body scope dV kV doc pm an cdv ct) args binds) (hall:(binds.all fun y=>scope.names.lookup y.1 == some .local || scope.names.lookup y.1 == some .cell)=true) (hone:((cellsFrom 0 scope.names []).map (·.1)).Nodup)
  (h:∀g L' h₁ tk cells,(∀b o,s.heap.get? b=some o→b∉lent.map (·.1)→g.get? b=some o)→Fr g L' h₁ (bindL (envOfC qual scope L' f cdv).kindOf binds fun _=>none)→News g L' h₁ (cells++lent)→CellsAre (bindC (envOfC qual scope L' f cdv).kindOf binds fun _=>none) (cellsFrom (L'+1) scope.names []) cells →
   (cellsFrom (L'+1) scope.names []).Pairwise (fun x y=>x.2≠y.2)→(∀n c,(n,c)∈cellsFrom (L'+1) scope.names []→L'<c)→Below A base (env::outer) g→K.In g→Top p loose mean mg mb g→(∀q∈lent,q.1<L')→s.heap.objs.size≤L' →
   wpAny (model prog w) (A.deeper (envOfC qual scope L' f cdv)) (execs body (envOfC qual scope L' f cdv)) (fun fl s'=>LeaveK h₀ L m g R (match fl with | .ret v=>v | _=>.none) s')
    (fun e s'=>wpAny (model prog w) (A.deeper (envOfC qual scope L' f cdv)) (leaving (envOfC qual scope L' f cdv) e) (fun _ s''=>R (.error e) s'') (fun e' s''=>R (.error e') s'') s') { s with heap:=h₁,toks:=tk })
  (hco:scope.isCoroutine=false) (hgen:scope.isGenerator=false) (hk:scope.kind=.function):codeAny (model prog w) A (.call (.ref f) args) R s:=by
 obtain⟨FG,BG,st,lv⟩:=groundX (R:=R) B F N hA hf hke
 have X:=X₀.keeps F.keep
 refine codeAny_call_function (fd:=fnOf name qual params body scope dV kV doc pm an cdv ct) hroom (X _ _ ho) rfl hco hgen rfl (codeRec_of X hcd) (hbind _ _ _ _ ?_)
 refine wpAny_newFunctionEnv_cells hk (kindsX hall _) fun fresh hfr s' inC=>?_
 subst hfr
 have up:=inC.toInCall.keep
 refine⟨(T.nolimit.keeps F.keep).keeps up,codeAny_func ?_⟩
 obtain⟨h₁,tk,hs',_⟩:=inC.done
 subst hs'
 have nod:=cellsFrom_names scope.names 0 (s.heap.objs.size+1) [] [] rfl▸hone
 obtain⟨cells,NC,Y⟩:=Cl.news (h₀:=s.heap) (L:=s.heap.objs.size) (Zz10 _) fun n c hm=>⟨inC.cell n c (lookup_of_mem_nodup nod hm),inC.above n c hm⟩
 have old:∀q∈lent,q.1<s.heap.objs.size:=fun q hq=>Heap.lt_size (N q hq).1
 refine wpAny_mono (h _ s.heap.objs.size h₁ tk cells (fun b o e nb=>hideAll_get _ e nb) ⟨inC.toInCall.ns,fun b o e=>up b o (of_hideAll _ e),Nat.le_of_eq (hideAll_size _ _)⟩ (fun q hq=>?_) Y inC.apart inC.above BG (X₀.keeps st) (T.keeps st) old (Zz10 _)) (fun fl s' hl=>lv _ _ hl) fun _ _ y=>y
 rcases Zz8.mp hq with hq | hq
 ·obtain⟨c1,c2,c3⟩:=NC q hq
  refine⟨c1,c2,?_⟩
  cases e:(hideAll s.heap (lent.map (·.1))).get? q.1 with
  | none=>rfl
  | some o=>
   have z:=of_hideAll _ e
   rw[c3]at z
   cases z
 ·exact⟨up _ _ (N q hq).1,Nat.ne_of_lt (old q hq),hideAll_none _ (List.mem_map_of_mem hq)⟩
section
variable (prog:Program) (w:World) (K:Frag) (p:Program) (loose:List Str) (mean:ExcName→Option Value) (mg mb:Str→Option Value)
noncomputable def Clr(Γ:Cx)(dp un:Nat): Prop:=∃(gd:Option (List Code)) (cn:Str) (cs:Scope) (a:Addr) (ccd:Value) (cl:List (Str×Addr)) (outer:List Env) (A₀:Around) (base:Heap),
 Γ.A=ktrTop dp un gd cn cs Γ.L a ccd cl outer∧Below A₀ base outer Γ.h₀∧K.In Γ.h₀∧Top p loose mean mg mb Γ.h₀∧cs.kind=.function
noncomputable def Def(f:Addr)(room:Nat)(F:List V→Hp→Option (V×Hp)): Prop:=∀(Γ:Cx) (dp un:Nat),Clr K p loose mean mg mb Γ dp un→dp+room<recursionLimit→un+10*room+300<cLine →
 ∀(W:Wd) (ρ:Lc) (H:Hp) (fr:List (Addr×Obj)) (s:Shared) (Q E:Value→Shared→Prop) (as:List V) (xs:List Value) (v:V) (H':Hp),
  Rep Γ W ρ H fr s.heap→VRs W as xs→F as H=some (v,H')→ZdI Γ W ρ H' fr s Q v→codeAny (model prog w) Γ.A (.call (.ref f) ⟨xs,[]⟩) (fun r s'=>match r with | .ok (.ret v)=>Q v s' | .ok _=>False | .error e=>E e s') s
end
noncomputable def ZG(n:Nat)(g:Sm): List V→Hp→Option (V×Hp):=fun as H=>if as.length=n then(g (fun i=>as[i]?) H).map fun r=>((r.1.getD .none),r.2.2)else none
theorem ZjM{kindOf:Str→Option NameKind}: ∀{ps:List Str} {xs:List Value} {m:Str→Option Value} {x:Str} {i:Nat} {y:Value},ps.Nodup→ps[i]?=some x→xs[i]?=some y→kindOf x=some .local→bindL kindOf (ps.zip xs) m x=some y:=by
 have skip:∀{ps:List Str} {xs:List Value} {m:Str→Option Value} {x:Str},x∉ps→bindL kindOf (ps.zip xs) m x=m x:=by
  intro ps
  induction ps with
  | nil=>intro xs m x _;rfl
  | cons p ps ih=>
   intro xs m x hx
   cases xs with
   | nil=>rfl
   | cons z xs=>
    simp only[List.zip_cons_cons,bindL]
    rw[ih (fun h=>hx (Zz2 _ h))]
    have:x≠p:=fun e=>hx (e▸List.mem_cons_self)
    split <;> simp[this]
 intro ps
 induction ps with
 | nil=>intro xs m x i y _ h;simp at h
 | cons p ps ih=>
  intro xs m x i y nd hp hx hk
  cases xs with
  | nil=>simp at hx
  | cons z xs=>
   obtain⟨n1,n2⟩:=List.nodup_cons.mp nd
   cases i with
   | zero=>
    simp at hp hx
    subst hp hx
    simp only[List.zip_cons_cons,bindL]
    rw[skip n1,if_pos hk]
    simp
   | succ i=>
    simp at hp hx
    simp only[List.zip_cons_cons,bindL]
    exact ih n2 hp hx hk
theorem Zmt{kindOf:Str→Option NameKind}: ∀{ps:List Str} {xs:List Value} {m:Str→Option Value} {x:Str} {i:Nat} {y:Value},ps.Nodup→ps[i]?=some x→xs[i]?=some y→kindOf x=some .cell→bindC kindOf (ps.zip xs) m x=some y:=by
 have skip:∀{ps:List Str} {xs:List Value} {m:Str→Option Value} {x:Str},x∉ps→bindC kindOf (ps.zip xs) m x=m x:=by
  intro ps
  induction ps with
  | nil=>intro xs m x _;rfl
  | cons p ps ih=>
   intro xs m x hx
   cases xs with
   | nil=>rfl
   | cons z xs=>
    simp only[List.zip_cons_cons,bindC]
    rw[ih (fun h=>hx (Zz2 _ h))]
    have:x≠p:=fun e=>hx (e▸List.mem_cons_self)
    split <;> simp[this]
 intro ps
 induction ps with
 | nil=>intro xs m x i y _ h;simp at h
 | cons p ps ih=>
  intro xs m x i y nd hp hx hk
  cases xs with
  | nil=>simp at hx
  | cons z xs=>
   obtain⟨n1,n2⟩:=List.nodup_cons.mp nd
   cases i with
   | zero=>
    simp at hp hx
    subst hp hx
    simp only[List.zip_cons_cons,bindC]
    rw[skip n1,if_neg (by rw[hk];simp)]
    simp
   | succ i=>
    simp at hp hx
    simp only[List.zip_cons_cons,bindC]
    exact ih n2 hp hx hk
theorem ZeL{cm:Str→Option Value}: ∀{cs:List (Str×Addr)} {cells:List (Addr×Obj)} {x:Str} {c:Addr},CellsAre cm cs cells→(x,c)∈cs→∃o,(c,o)∈cells∧o.data=.cell (cm x)
 | _,_,_,_,.nil,h=>nomatch h
 | _,_,_,_,.cons hd r,h=>by
  rcases Zz7.mp h with e | h
  ·first|exact Zx0 e|cases e
   exact⟨_,List.mem_cons_self,hd⟩
  ·obtain⟨o,h1,h2⟩:=ZeL r h
   exact⟨o,Zy3 _ h1,h2⟩
theorem Zkp{cm:Str→Option Value}: ∀{cs:List (Str×Addr)} {cells:List (Addr×Obj)} {q:Addr×Obj},CellsAre cm cs cells→q∈cells→∃x,(x,q.1)∈cs
 | _,_,_,.nil,h=>nomatch h
 | _,_,_,.cons hd r,h=>by
  rcases Zz7.mp h with e | h
  ·first|exact Zx0 e|cases e
   exact⟨_,List.mem_cons_self⟩
  ·obtain⟨x,h1⟩:=Zkp r h
   exact⟨x,Zy3 _ h1⟩
theorem Zcp{α β:Type}[BEq α][LawfulBEq α]: ∀{l:List (α×β)} {x:α} {y:β},l.lookup x=some y→(x,y)∈l
 | [],_,_,h=>by simp at h
 | (a,b)::r,x,y,h=>by
  rw[List.lookup_cons]at h
  split at h
  ·rename_i e
   cases h
   have:=eq_of_beq e
   subst this
   exact Zz5
  ·exact Zz2 _ (Zcp h)
end PM
end
section
namespace PM
open PySem PySem.W PySem.Calls PyProof.Rows PyProof PySem.Spec
section
variable {prog:Program} {w:World} {K:Frag} {p:Program} {loose:List Str} {mean:ExcName→Option Value} {mg mb:Str→Option Value}
theorem Def.of{name qual:Str}{params:Arguments}{body:List Stmt}{scope:Scope}{dV kV doc pm cdv ct oc:Value}{an od:Option Addr}{osl:Array (Option Value)}{f:Addr}{names:List Str}{n room:Nat}{g:Sm}
  (ho:K.lookup f=some ⟨oc,od,.func (fnOf name qual params body scope dV kV doc pm an cdv ct),osl⟩) (hcd:codeIn K cdv qual=true) (nd:names.Nodup) (hn:n≤names.length)
  (hbind:∀s xs,xs.length=n→BindsTo s (fnOf name qual params body scope dV kV doc pm an cdv ct) ⟨xs,[]⟩ ((names.take n).zip xs)) (hkinds:∀x∈names.take n,scope.names.lookup x=some .local∨scope.names.lookup x=some .cell) (hone:((cellsFrom 0 scope.names []).map (·.1)).Nodup)
  (hco:scope.isCoroutine=false) (hgen:scope.isGenerator=false) (hk:scope.kind=.function)
  (hbody:∀(dp un:Nat) (gd:Option (List Code)) (L:Addr) (outer:List Env) (h₀:Heap) (hu:un+200<cLine),Clr K p loose mean mg mb (Zav dp un gd qual scope L f cdv (cellsFrom (L+1) scope.names []) outer h₀ hu names) dp un→dp+room<recursionLimit→un+10*room+300<cLine →
   Ss prog w (Zav dp un gd qual scope L f cdv (cellsFrom (L+1) scope.names []) outer h₀ hu names) body g):
  Def prog w K p loose mean mg mb f (room+1) (ZG n g):=by
 intro Γ dp un clr hd hu W ρ H fr s Q E as xs v H' r hx hF post
 obtain⟨gd,cn,cs,a,ccd,cl,outer,A₀,base,eA,B,X,T,hke⟩:=clr
 unfold ZG at hF
 split at hF
 ·rename_i hlen
  obtain⟨res,e1,e2⟩:=Zz1.mp hF
  obtain⟨o,ρ',K'⟩:=res
  cases e2
  obtain⟨m,c,led,r⟩:=r
  have hxl:xs.length=n:=by rw[hx.length,hlen]
  have inn:∀q∈led,(q.1∈W.pi∨q.1∈W.tups.map (·.1))↔q∈led.filter (fun q=>decide (q.1∈W.pi∨q.1∈W.tups.map (·.1))):=fun q hq=>⟨fun h=>Zy9.mpr ⟨hq,by simpa using h⟩,fun h=>by simpa using (List.mem_filter.mp h).2⟩
  have isub:∀q∈led.filter (fun q=>decide (q.1∈W.pi∨q.1∈W.tups.map (·.1))),q∈led:=fun q hq=>(List.mem_filter.mp hq).1
  generalize hlent:led.filter (fun q=>decide (q.1∈W.pi∨q.1∈W.tups.map (·.1)))=lent at inn isub
  have notin:∀q∈led,q.1∉W.pi→(∀t∈W.tups,q.1≠t.1)→q.1∉lent.map (·.1):=fun q hq h1 h2 h3=>by
   obtain⟨t,ht,e⟩:=Zz11.mp h3
   rcases(inn t (isub t ht)).mpr ht with z | z
   ·exact h1 (e▸z)
   ·obtain⟨u,hu,e'⟩:=Zz11.mp z
    exact h2 u hu (e▸e'.symm)
  rw[eA]
  refine ZkS (env:=envX cn cs Γ.L a ccd cl) (lent:=lent) B r.F X (fun q hq=>r.N q (isub q hq)) T rfl rfl hke ho hcd (by show dp<recursionLimit;omega) (hbind s xs hxl) ?_ hone ?_ hco hgen hk
  ·refine List.all_eq_true.mpr fun y hy=>?_
   rcases hkinds y.1 (List.of_mem_zip hy).1 with h | h <;> simp[h]
  intro g0 L' h₁ tk cells stay F' N' Y ap ab B' X' T' old szL
  have hu':(un+3)+200<cLine:=by omega
  have clr':Clr K p loose mean mg mb (Zav (dp+1) (un+3) gd qual scope L' f cdv (cellsFrom (L'+1) scope.names []) (envX cn cs Γ.L a ccd cl::outer) g0 hu' names) (dp+1) (un+3):=
   ⟨gd,qual,scope,f,cdv,cellsFrom (L'+1) scope.names [],envX cn cs Γ.L a ccd cl::outer,_,base,rfl,B',X',T',hk⟩
  have below:∀q∈cells,L'<q.1:=fun q hq=>by
   obtain⟨x,hx⟩:=Zkp Y hq
   exact ab x _ hx
  have piLt:∀b∈W.pi,b<L':=fun b hb=>by
   obtain⟨o,ho⟩:=r.piIn b hb
   exact Nat.lt_of_lt_of_le (Heap.lt_size (r.get ho)) szL
  have tuLt:∀t∈W.tups,t.1<L':=fun t ht=>Nat.lt_of_lt_of_le (Heap.lt_size (r.get (r.R.tups t ht))) szL
  have scN:W.sc.1∉lent.map (·.1):=fun z=>by
   obtain⟨t,ht,e⟩:=Zz11.mp z
   exact r.notSc t (isub t ht) e
  have tkn:∀{i:Nat} {x:Str} {u:V},names[i]?=some x→as[i]?=some u→(names.take n)[i]?=some x∧∃y,xs[i]?=some y∧VR W u y:=fun {i x u} h1 h2=>by
   have hi:i<n:=by rw[←hlen];exact(Zz6.mp h2).1
   exact⟨by rw[List.getElem?_take_of_lt hi];exact h1,hx.at h2⟩
  have ndt:(names.take n).Nodup:=nd.sublist (List.take_sublist _ _)
  have rep:Rep (Zav (dp+1) (un+3) gd qual scope L' f cdv (cellsFrom (L'+1) scope.names []) (envX cn cs Γ.L a ccd cl::outer) g0 hu' names) W (fun i=>as[i]?) H [] h₁:=by
   refine⟨_,cells,cells++lent,⟨F',N',⟨r.R.len,r.R.nd,fun i vs e ni=>?_,fun q hq=>?_,r.R.kind,fun i vs fs e hi=>?_,r.R.inlt,r.R.iuni⟩,stay _ _ (r.F.keep _ _ r.sc) scN,r.sc0,fun q hq=>(nomatch hq),fun q hq=>(nomatch hq),fun q hq=>Zy7 _ hq,fun q hq z=>?_,fun q _ t ht=>(nomatch ht),fun q hq=>(nomatch hq),fun q hq t ht=>?_,⟨fun i x u hi hk1 hu1=>?_,fun i x u hi hk1 hu1=>?_,fun x c1 hc=>?_,fun x y c1 h1 h2=>?_⟩⟩⟩
   ·obtain⟨l,b,ys,k,h1,h2,h3⟩:=r.R.lists i vs e ni
    exact⟨l,b,ys,k,h1,Zbf h2 fun z=>List.mem_append_right _ ((inn _ z).mp (.inl (Zy4 h1))),h3⟩
   ·exact Zbf (r.R.tups q hq) fun z=>List.mem_append_right _ ((inn _ z).mp (.inr (List.mem_map_of_mem hq)))
   ·obtain⟨l,b,od,ys,h1,h2,h3⟩:=r.R.objs i vs fs e hi
    exact⟨l,b,od,ys,h1,Zbf h2 fun z=>List.mem_append_right _ ((inn _ z).mp (.inl (Zy4 h1))),h3⟩
   ·exact absurd (Nat.lt_trans (piLt _ z) (below q hq)) (Nat.lt_irrefl _)
   ·exact Nat.ne_of_gt (Nat.lt_trans (tuLt t ht) (below q hq))
   ·obtain⟨h1,y,h2,h3⟩:=tkn hi hu1
    exact⟨y,ZjM ndt h1 h2 hk1,h3⟩
   ·obtain⟨h1,y,h2,h3⟩:=tkn hi hu1
    have hs:=cellsFrom_some scope.names (L'+1) [] (.inl hk1)
    obtain⟨c1,hc1⟩:=Option.isSome_iff_exists.mp hs
    obtain⟨o1,ho1,hd1⟩:=ZeL Y (Zcp hc1)
    refine⟨c1,o1,y,hc1,ho1,?_,h3⟩
    rw[hd1,Zmt ndt h1 h2 hk1]
   ·obtain⟨o1,ho1,hd1⟩:=ZeL Y (Zcp hc)
    exact⟨o1,_,ho1,hd1⟩
   ·exact name_of_addr ap (Zcp h1) (Zcp h2)
  have hb:=hbody (dp+1) (un+3) gd L' (envX cn cs Γ.L a ccd cl::outer) g0 hu' clr' (by omega) (by omega)
  have back:∀(W':Wd) (h':Heap) (tk':Nat) (x:Value),W.Le W'→Rep (Zav (dp+1) (un+3) gd qual scope L' f cdv (cellsFrom (L'+1) scope.names []) (envX cn cs Γ.L a ccd cl::outer) g0 hu' names) W' ρ' K' [] h'→VR W' (o.getD .none) x →
    LeaveK Γ.h₀ Γ.L m g0 (fun r s'=>match r with | .ok (.ret v)=>Q v s' | .ok _=>False | .error e=>E e s') x { s with heap:=h',toks:=tk' }:=by
   intro W' h' tk' x l' r' x'
   obtain⟨m',c',led',r'⟩:=r'
   refine⟨L',m',led',r'.F,r'.N,fun FG NG=>post W' h' tk' x l' ?_ x'⟩
   have g0at:∀q∈led,q.1∉lent.map (·.1)→g0.get? q.1=some q.2:=fun q hq hn=>stay _ _ (r.N q hq).1 hn
   have frN:∀q∈fr,q.1∉lent.map (·.1):=fun q hq=>notin q (r.frIn q hq) (r.frOff q hq) (r.frTup q hq)
   have clN:∀q∈c,q.1∉lent.map (·.1):=fun q hq=>notin q (r.clIn q hq) (r.clOff q hq) (r.clTup q hq)
   have newN:∀t∈led',g0.get? t.1=none:=fun t ht=>(r'.N t ht).2.2
   have far:∀q∈led,q.1∉lent.map (·.1)→∀t∈W'.sc::led',q.1≠t.1:=fun q hq hn t ht e=>by
    rcases Zz7.mp ht with e2 | ht
    ·rw[e2,l'.sc]at e
     exact r.notSc q hq e
    ·have:=g0at q hq hn
     rw[e,newN t ht]at this
     cases this
   have farPi:∀q∈led,q.1∉lent.map (·.1)→q.1∉W'.pi:=fun q hq hn z=>by
    obtain⟨o2,h2⟩:=r'.piIn _ z
    exact far q hq hn _ h2 rfl
   have keep:∀q∈led,q.1∉lent.map (·.1)→q∈led'++led.filter (fun q=>decide (q.1∉lent.map (·.1))):=fun q hq hn=>List.mem_append_right _ (Zy9.mpr ⟨hq,by simpa using hn⟩)
   refine⟨m,c,led'++led.filter (fun q=>decide (q.1∉lent.map (·.1))),⟨FG,fun q hq=>?_,r'.R.mono fun q hq=>ZcA hq fun x hx=>Zy7 _ hx,l'.sc▸r.sc,r'.sc0,fun q hq=>keep q (r.frIn q hq) (frN q hq),fun q hq=>farPi q (r.frIn q hq) (frN q hq),fun q hq=>keep q (r.clIn q hq) (clN q hq),fun q hq=>farPi q (r.clIn q hq) (clN q hq),r.apart,fun q hq t ht=>far q (r.frIn q hq) (frN q hq) t (r'.R.tups t ht),fun q hq t ht=>far q (r.clIn q hq) (clN q hq) t (r'.R.tups t ht),Γ.mono l' r.own⟩⟩
   rcases Zz8.mp hq with hq | hq
   ·exact NG q hq
   ·obtain⟨h1,h2⟩:=List.mem_filter.mp hq
    exact⟨r'.F.keep _ _ (g0at q h1 (by simpa using h2)),(r.N q h1).2⟩
  refine hb W _ H [] _ _ _ (o,ρ',K') rep e1 ?_
  cases o with
  | none=>exact fun W' h' tk' l' r'=>back W' h' tk' .none l' r' .none
  | some v0=>exact fun W' h' tk' x l' r' x'=>back W' h' tk' x l' r' x'
 ·first|exact Zx0 hF|cases hF
theorem Zbh{Γ:Cx}{dp un:Nat}{x:Str}{np pos:Pos}{f:Addr}{room:Nat}{e:Expr}{es:List Expr}{g:ZX}{o:List V→Hp→Option (V×Hp)}(clr:Clr K p loose mean mg mb Γ dp un)(hn:Nm prog w Γ x (.ref f))(hkeep:keepIn K (.ref f)=true)(D:Def prog w K p loose mean mg mb f room o)(hd:dp+room<recursionLimit)(hu:un+10*room+300<cLine)
  (h:Js prog w Γ (e::es) g) (he:starEach (e::es) Γ.env=(false,eval e Γ.env)::starEach es Γ.env:=by rfl) (hp:∀pos,(backTo pos (starEach es Γ.env)).any (·.1)=false:=by intro _;rfl):J prog w Γ (.Call (.Name x np) (e::es) [] pos) (Zk o g):=by
 intro W ρ H fr s Q E v H' r hf post
 obtain⟨q,e1,hf⟩:=Zz0.mp hf
 have X:K.In Γ.h₀:=by
  obtain⟨_,_,_,_,_,_,_,_,_,_,_,X,_⟩:=clr
  exact X
 refine wpAny_Call_ofName (hn.use r ?_)
 refine callWith_K (first:=[]) X hkeep (h pos W ρ H fr s _ E _ _ r e1 fun W1 k1 t1 xs l1 r1 x1=>⟨?_,?_⟩) he (hp pos)
 ·obtain⟨m,c,led,r1⟩:=r1
  exact X.keeps r1.F.keep
 ·exact wpAny_call (D Γ dp un clr hd hu W1 ρ _ fr _ Q E _ xs v H' r1 x1 hf fun W2 k2 t2 y l2 r2 y2=>post W2 k2 t2 y (l1.trans l2) r2 y2)
theorem Clr.comp{Γ:Cx}{dp un:Nat}{scope:Scope}{cl:List (Str×Addr)}{C:Addr}{ts:List (Str×Nat)}{ρ0:Lc}(h:Clr K p loose mean mg mb Γ dp un): Clr K p loose mean mg mb (ZaM Γ scope cl C ts ρ0) dp un:=h
end
end PM
end
section
namespace PM
open PySem PySem.W PySem.Calls PyProof.Rows PyProof PySem.Spec
theorem Zhu{lo:Nat}: ∀(names:List (Str×NameKind)) (n:Nat) (acc:List (Str×Addr)),acc.Pairwise (fun x y=>x.2≠y.2)→(∀q∈acc,lo<q.2∧q.2<n)→lo<n→(cellsFrom n names acc).Pairwise (fun x y=>x.2≠y.2)∧∀q∈cellsFrom n names acc,lo<q.2
 | [],n,acc,h1,h2,_=>⟨h1,fun q hq=>(h2 q hq).1⟩
 | (y,k)::r,n,acc,h1,h2,h3=>by
  unfold cellsFrom
  by_cases hk:(k == .cell)=true
  ·rw[if_pos hk]
   refine Zhu r (n+1) ((y,n)::acc) (List.pairwise_cons.mpr ⟨fun q hq=>Nat.ne_of_gt (h2 q hq).2,h1⟩) (fun q hq=>?_) (Nat.lt_succ_of_lt h3)
   rcases Zz7.mp hq with e | hq
   ·rw[e]
    exact⟨h3,Nat.lt_succ_self n⟩
   ·exact⟨(h2 q hq).1,Nat.lt_succ_of_lt (h2 q hq).2⟩
  ·rw[if_neg hk]
   exact Zhu r n acc h1 h2 h3
theorem Zmu{P:Params}{h:Heap}{a:Addr}{ns:List Int}(w1:Well P h (.ref a) (ofPy (.list (ns.map PyData.int))))(W:Wd): ∃vs,h.get? a=some (Za2 vs 0)∧VRs W (ns.map V.int) vs:=by
 have key:∀{ns:List Int} {vs:List Value} {xs:List WData},xs=(ns.map PyData.int).map ofPy→WellAll P h vs xs→VRs W (ns.map V.int) vs:=by
  intro ns
  induction ns with
  | nil=>intro vs xs e h;subst e;cases h;exact .nil
  | cons n ns ih=>
   intro vs xs e h
   subst e
   cases h with
   | cons h1 h2=>
    cases h1 with
    | int i t=>exact .cons (.int _ _) (ih rfl h2)
 have e:ofPy (.list (ns.map PyData.int))=.list ((ns.map PyData.int).map ofPy):=by rw[ofPy,ofPys_eq]
 rw[e]at w1
 cases w1 with
 | list hg ha=>exact⟨_,hg,key rfl ha⟩
section
variable {prog:Program} {w:World} {K:Frag} {p:Program} {loose:List Str} {mean:ExcName→Option Value} {mg mb:Str→Option Value}
end
end PM
end
section
namespace PM
open PySem PySem.W PySem.Calls PyProof.Rows PyProof PyProof.Rows.LCg PyProof.Rows.LSm
theorem Rep.listAt{Γ:Cx}{W:Wd}{ρ:Lc}{H:Hp}{fr:List (Addr×Obj)}{h h':Heap}{vs:List V}{xs:List Value}{k:Nat}(r:Rep Γ W ρ H fr h)(up:∀b o,h.get? b=some o→h'.get? b=some o)(hg:h'.get? h.objs.size=some (Za2 xs k))(hv:VRs W vs xs)(hl:vs.length≤ZM):
  ∃W',W.Le W'∧Rep Γ W' ρ (H++[vs]) fr h'∧VR W' (.ref H.length) (.ref h.objs.size):=by
 obtain⟨r2,ap⟩:=r.more (fs:=[(h.objs.size,Za2 xs k)]) up (fun q hq=>by rw[List.mem_singleton.mp hq];exact⟨hg,Nat.le_refl _⟩)
 exact ZhP r2 (fun t ht=>ap _ Zz5 t ht) hv hl
noncomputable def Zbx: List V→Hp→Option (V×Hp)
 | [.ref a],H=>H[a]?.map fun vs=>(.ref H.length,H++[vs])
 | [.tup vs],H=>some (.ref H.length,H++[vs])
 | _,_=>none
noncomputable def Zds: List V→Hp→Option (V×Hp)
 | [.ref a],H=>H[a]?.map fun vs=>(.tup vs,H)
 | [.tup vs],H=>some (.tup vs,H)
 | _,_=>none
section
variable {prog:Program} {w:World}
theorem ok_list1: OpN prog w (fun xs=>call (.type "list") xs) Zbx:=by
 intro Γ W ρ H fr s Q E as xs v H' r hx ho post
 unfold Zbx at ho
 split at ho
 ·obtain⟨vs,e1,e2⟩:=Zz1.mp ho
  cases e2
  obtain⟨x,ex,rx⟩:=hx.one
  subst ex
  cases rx with
  | @ref _ a ea=>
   obtain⟨hl,ys,k,hg,hv⟩:=r.at e1 ea
   refine call_list_seq (hsz:=Zb2 (by rw[List.size_toArray,hv.length];exact hl)) a (.inl rfl) hg rfl rfl fun h' c' up hg'=>?_
   obtain⟨W2,l2,r2,v2⟩:=r.listAt up hg' hv hl
   exact post W2 h' s.toks _ l2 r2 v2
 ·first|exact Zx0 ho|cases ho
  obtain⟨x,ex,rx⟩:=hx.one
  subst ex
  cases rx with
  | @tup _ a ys k hm hl hv=>
   refine call_list_seq (hsz:=Zb2 (by rw[List.size_toArray,hv.length];exact hl)) a (.inr rfl) (r.tupAt hm) rfl rfl fun h' c' up hg'=>?_
   obtain⟨W2,l2,r2,v2⟩:=r.listAt up hg' hv hl
   exact post W2 h' s.toks _ l2 r2 v2
 ·first|exact Zx0 ho|cases ho
theorem ZjN: OpN prog w (fun xs=>call (.type "tuple") xs) Zds:=by
 intro Γ W ρ H fr s Q E as xs v H' r hx ho post
 unfold Zds at ho
 split at ho
 ·obtain⟨vs,e1,e2⟩:=Zz1.mp ho
  cases e2
  obtain⟨x,ex,rx⟩:=hx.one
  subst ex
  cases rx with
  | @ref _ a ea=>
   obtain⟨hl,ys,k,hg,hv⟩:=r.at e1 ea
   have isl:s.heap.IsList a ys.toArray:=⟨_,hg,rfl,k,rfl⟩
   refine call_tuple_list isl (fun h' up=>?_) (Zb2 (by rw[List.size_toArray,hv.length];exact hl))
   obtain⟨W2,l2,r2,v2⟩:=(r.grown up).tuple (k:=0) hv hl
   exact post W2 _ s.toks _ l2 r2 v2
 ·first|exact Zx0 ho|cases ho
  obtain⟨x,ex,rx⟩:=hx.one
  subst ex
  cases rx with
  | @tup _ a ys k hm hl hv=>
   have it:IsTup s.heap a ys.toArray:=⟨_,r.tupAt hm,rfl,k,rfl⟩
   exact call_tuple_tup it (post W s.heap s.toks _ (.refl W) r (.tup hm hl hv))
 ·first|exact Zx0 ho|cases ho
end
section
variable {prog:Program} {w:World} {K:Frag} {p:Program} {loose:List Str} {mean:ExcName→Option Value} {mg mb:Str→Option Value} {Γ:Cx} {dp un:Nat}
theorem nm_def{x:Str}{v:Value}(clr:Clr K p loose mean mg mb Γ dp un)(e:nsIn K mainGlobals x=some (some v))(hg:Γ.env.globals=mainGlobals)(hk:Γ.env.scope.kind=.function)(hx:Γ.env.kindOf x=some .globalImplicit)(hd:(x == ("__debug__":Str))=false): Nm prog w Γ x v:=by
 obtain⟨_,_,_,_,_,_,_,_,_,_,_,X,T,_⟩:=clr
 intro pos m s Q E F q
 exact Name_function_global hk hx (loadGlobal_global (env:=Γ.env) (by rw[hg];exact T.g.keeps F.keep) (mg_of X T.g e) q) hd
theorem nm_built{x:Str}{v:Value}(clr:Clr K p loose mean mg mb Γ dp un)(e:nsIn K mainGlobals x=some none)(hv:bootBuiltins x=some v)(hn:x≠"__name__")(hg:Γ.env.globals=mainGlobals)(hb:Γ.env.builtins=builtinsNs)(hk:Γ.env.scope.kind=.function)(hx:Γ.env.kindOf x=some .globalImplicit)(hd:(x == ("__debug__":Str))=false): Nm prog w Γ x v:=by
 obtain⟨_,_,_,_,_,_,_,_,_,_,_,X,T,_⟩:=clr
 intro pos m s Q E F q
 exact Name_function_global hk hx (loadGlobal_builtin (env:=Γ.env) (by rw[hg];exact T.g.keeps F.keep) (mg_none_of X T.g e) (by rw[hb];exact T.b.keeps F.keep) ((T.builtins x hn).trans hv) q) hd
end
section
variable {prog:Program} {w:World} {Γ:Cx} {scope:Scope} {cl:List (Str×Addr)} {C:Addr} {ts:List (Str×Nat)} {ρ0:Lc}
theorem ZnQ{x:Str}{t:Nat}(hm:(x,t)∈ts)(hk:scope.kind=.function)(hl:(compEnvC scope cl C Γ.env).kindOf x=some .local)(hd:(x == ("__debug__":Str))=false): Rd prog w (ZaM Γ scope cl C ts ρ0) x t:=by
 intro W ρ H fr s Q E v pos r e q
 obtain⟨m,c,led,r⟩:=r
 obtain⟨oC,m₂,cs,ec,h0,h1,h2,h3,h4⟩:=r.own
 obtain⟨v',y,e1,e2,e3⟩:=h2 _ hm
 rw[e]at e1
 cases e1
 exact LCgL.ld_own r.N (r.clIn _ (by rw[ec];exact Zz5)) h1 e2 (q y e3) hk hl hd
end
section
variable {prog:Program} {w:World} {dp un:Nat} {gd:Option (List Code)} {cn:Str} {cs:Scope} {L a:Addr} {ccd:Value} {clf:List (Str×Addr)} {outer:List Env} {h₀:Heap} {hu:un+200<cLine} {names:List Str} {scope:Scope} {cl:List (Str×Addr)} {C:Addr} {ts:List (Str×Nat)} {ρ0:Lc}
theorem rdc_cel{x:Str}{i:Nat}(hi:names[i]?=some x)(hx:cs.names.lookup x=some .cell)(hne:∀p∈ts,p.2≠i)(hcl:cl.lookup x=clf.lookup x)(hk:scope.kind=.function)(hl:(compEnvC scope cl C (envX cn cs L a ccd clf)).kindOf x=some .cell)(hd:(x == ("__debug__":Str))=false):
  Rd prog w (ZaM (Zav dp un gd cn cs L a ccd clf outer h₀ hu names) scope cl C ts ρ0) x i:=by
 intro W ρ H fr s Q E v pos r e q
 obtain⟨m,c,led,r⟩:=r
 obtain⟨oC,m₂,cs',ec,h0,h1,h2,h3,h4⟩:=r.own
 rw[h3 i hne]at e
 obtain⟨d,o,y,g1,g2,g3,g4⟩:=h4.cel i x v hi hx e
 exact kcf_cell r.N (hcl.trans g1) (r.clIn _ (by rw[ec];exact Zz2 _ g2)) g3 (q y g4) hk hl hd
end
end PM
end
section
namespace My
open PySem PySem.W PySem.Calls PyProof.Rows PySem.Spec
structure Cell(v:Int): Prop where
 bits:Builtin.Int.intBits v≤2 ^ 20
theorem bits_zero: Builtin.Int.intBits 0≤2 ^ 20:=by unfold Builtin.Int.intBits;simp
theorem cell_at{ns:List Int}(h:PyData.layable0 (.list (ns.map .int))=true)(i:Int): Cell (cellAt ns i 0):=by
 refine⟨?_⟩
 rw[cellAt_def,List.getD_eq_getElem?_getD]
 cases e:ns[i.toNat]? with
 | none=>exact bits_zero
 | some v=>exact PyData.bits_item_of_ints h (Zy4 e)
section
variable {prog:Program} {w:World} {A:Around} {E:Value→Shared→Prop} {s:Shared} {x y:Int} {t u:Tok} {Q:Value→Shared→Prop}
@[irreducible] noncomputable def T60: Int:=10 ^ 60
end
end My
end
section
/-! Reckoning with the plain machine. -/
namespace PM
open PySem PySem.W PyProof.Rows
section
variable (ρ:Lc) (H:Hp)
@[simp] theorem ZqW(k:Int): Ze k ρ H=some (.int k,H):=rfl
@[simp] theorem Zqv: Zbi ρ H=some (.none,H):=rfl
@[simp] theorem Zqw(b:Bool): Zbs b ρ H=some (.bool b,H):=rfl
@[simp] theorem ZqX(x:Str): ZN x ρ H=some (.str x,H):=rfl
@[simp] theorem ZqY(i:Nat): Za i ρ H=(ρ i).map fun v=>(v,H):=rfl
@[simp] theorem ZqZ(o:V→V→Hp→Option (V×Hp))(f g:Ex): Zc o f g ρ H=(f ρ H).bind fun p=>(g ρ p.2).bind fun q=>o p.1 q.1 q.2:=rfl
@[simp] theorem Zrj(o:V→Hp→Option (V×Hp))(f:Ex): ZO o f ρ H=(f ρ H).bind fun p=>o p.1 p.2:=rfl
@[simp] theorem Zq0(t:Ts)(f g:Ex): eIf t f g ρ H=(t ρ H).bind fun p=>if p.1 then f ρ p.2 else g ρ p.2:=rfl
@[simp] theorem Zq1: Zd ρ H=some ([],H):=rfl
@[simp] theorem Zqx(f:Ex)(g:ZX): Zb f g ρ H=(f ρ H).bind fun p=>(g ρ p.2).bind fun q=>some (p.1::q.1,q.2):=rfl
@[simp] theorem Zq2(g:ZX): Z3 g ρ H=(g ρ H).bind fun p=>if p.1.length≤ZM then some (.tup p.1,p.2)else none:=rfl
@[simp] theorem Zqy(g:ZX): Zad g ρ H=(g ρ H).bind fun p=>if p.1.length≤ZM then some (.ref p.2.length,p.2++[p.1])else none:=rfl
@[simp] theorem Zq3(f:Ex): ZA f ρ H=(f ρ H).bind fun p=>(Zac p.1 p.2).map fun b=>(b,p.2):=rfl
@[simp] theorem Zqz(t:Ts): ZcD t ρ H=(t ρ H).map fun p=>(!p.1,p.2):=rfl
@[simp] theorem ZqA: Z5 ρ H=some (true,H):=rfl
@[simp] theorem Zqu: ZbR ρ H=some (false,H):=rfl
@[simp] theorem ZqB(t u:Ts): ZaU t u ρ H=(t ρ H).bind fun p=>if p.1 then u ρ p.2 else some (false,p.2):=rfl
@[simp] theorem Zq4(t u:Ts): tOr t u ρ H=(t ρ H).bind fun p=>if p.1 then some (true,p.2)else u ρ p.2:=rfl
@[simp] theorem Zq5(t u v:Ts): tIf t u v ρ H=(t ρ H).bind fun p=>if p.1 then u ρ p.2 else v ρ p.2:=rfl
@[simp] theorem ZqC(f:Ex): Zqg f ρ H=(f ρ H).bind fun p=>(Zac p.1 p.2).map fun b=>(.bool (!b),p.2):=rfl
@[simp] theorem ZqD(f g:Ex): ZcE f g ρ H=(f ρ H).bind fun p=>(Zac p.1 p.2).bind fun b=>if b then g ρ p.2 else some p:=rfl
@[simp] theorem Zq6(f g:Ex): eOr f g ρ H=(f ρ H).bind fun p=>(Zac p.1 p.2).bind fun b=>if b then some p else g ρ p.2:=rfl
@[simp] theorem ZqE(o:List V→Hp→Option (V×Hp))(g:ZX): Zk o g ρ H=(g ρ H).bind fun p=>o p.1 p.2:=rfl
@[simp] theorem Zrk(T:String)(f:Ex): eIs T f ρ H=(f ρ H).bind fun p=>if ZbU p.1 then none else some (.bool (ZaX T p.1),p.2):=rfl
@[simp] theorem Zqp(o f:Ex): Zau o f ρ H=(o ρ H).bind fun p=>(f ρ p.2).bind fun q=>Zb3 [p.1,q.1] q.2:=rfl
@[simp] theorem Zm5: ZcL ρ H=some (none,H):=rfl
@[simp] theorem Zm6(f:Ex): ZcM f ρ H=(f ρ H).map fun p=>(some p.1,p.2):=rfl
@[simp] theorem ZqF: ZV ρ H=some (none,ρ,H):=rfl
@[simp] theorem Zq7(f:Ex): Zw f ρ H=(f ρ H).map fun p=>(some p.1,ρ,p.2):=rfl
@[simp] theorem Zq8(i:Nat)(f:Ex): Zu i f ρ H=(f ρ H).map fun p=>(none,upd ρ i p.1,p.2):=rfl
@[simp] theorem Zq9(t:Ts)(a b:Sm): ZE t a b ρ H=(t ρ H).bind fun p=>if p.1 then a ρ p.2 else b ρ p.2:=rfl
@[simp] theorem Zra(f:Ex): ZP f ρ H=(f ρ H).map fun p=>(none,ρ,p.2):=rfl
@[simp] theorem Zrb(f o i:Ex): ZdK f o i ρ H=(f ρ H).bind fun p=>(o ρ p.2).bind fun q=>(i ρ q.2).bind fun u=>(ZgM q.1 u.1 p.1 u.2).map fun K=>(none,ρ,K):=rfl
@[simp] theorem Zrc(g:Src)(put:V→Lc→Option Lc)(b:Sm): ZaC g put b ρ H=(g ρ H).bind fun z=>Zbe z.1 put b z.2.1 0 ρ z.2.2:=rfl
@[simp] theorem ZqG(g:Src)(put:V→Lc→Option Lc)(c:Ts)(f:Ex): Zao g put c f ρ H=(g ρ H).bind fun z=>(ZaB z.1 put c f ρ z.2.1 0 [] z.2.2).map fun q=>(.ref q.2.length,q.2++[q.1]):=rfl
end
@[simp] theorem Zrd(ρ:Lc)(i:Nat)(v:V)(j:Nat): upd ρ i v j=if j=i then some v else ρ j:=rfl
@[simp] theorem ZqH(i:Nat)(v:V)(ρ:Lc): ZK i v ρ=some (upd ρ i v):=rfl
@[simp] theorem ZqI(i j:Nat)(a b:V)(ρ:Lc): ZdL i j (.tup [a,b]) ρ=some (upd (upd ρ i a) j b):=rfl
@[simp] theorem ZqJ(b:Bool)(H:Hp): Zac (.bool b) H=some b:=rfl
@[simp] theorem ZqK(i:Int)(H:Hp): Zac (.int i) H=some (i != 0):=rfl
@[simp] theorem ZqL(H:Hp): Zac .none H=some false:=rfl
section
variable (a b:Int) (H:Hp)
@[simp] theorem ZpX: Z0 (.int a) (.int b) H=some (.int (a+b),H):=rfl
@[simp] theorem Zrl: Za7 (.int a) (.int b) H=some (.int (a-b),H):=rfl
@[simp] theorem Zrm: Zdf (.int a) H=some (.int (-a),H):=rfl
@[simp] theorem Zrs: oLt (.int a) (.int b) H=some (.bool (decide (a<b)),H):=rfl
@[simp] theorem Zrt: oLe (.int a) (.int b) H=some (.bool (decide (a≤b)),H):=rfl
@[simp] theorem Zru: oGt (.int a) (.int b) H=some (.bool (decide (b<a)),H):=rfl
@[simp] theorem Zrv: oGe (.int a) (.int b) H=some (.bool (decide (b≤a)),H):=rfl
@[simp] theorem Zrn: Zcb [.int a] H=some (.int (if a<0 then -a else a),H):=rfl
@[simp] theorem Zro: Ze7 [.int a,.int b] H=some (.int (if b>a then b else a),H):=rfl
@[simp] theorem Zrp: ZdF [.int a,.int b] H=some (.int (if b<a then b else a),H):=rfl
@[simp] theorem Zre: oIs .none .none H=some (.bool true,H):=rfl
@[simp] theorem Zrf: oIs (.int a) .none H=some (.bool false,H):=rfl
@[simp] theorem Zrg(vs:List V): oIs (.tup vs) .none H=some (.bool false,H):=rfl
@[simp] theorem Zrh(i:Nat): oIs (.ref i) .none H=some (.bool false,H):=rfl
@[simp] theorem Zqq: Zdw .none .none H=some (.bool false,H):=rfl
@[simp] theorem Zqr: Zdw (.int a) .none H=some (.bool true,H):=rfl
@[simp] theorem Zqs(vs:List V): Zdw (.tup vs) .none H=some (.bool true,H):=rfl
@[simp] theorem Zqt(i:Nat): Zdw (.ref i) .none H=some (.bool true,H):=rfl
@[simp] theorem Zlv: oEq (.int a) (.int b) H=some (.bool (a == b),H):=by
 simp[oEq,Zci,toD,SeqAt.shaped,PyData.canLay0,PyData.depth,PyData.eqv]
@[simp] theorem Zrw: oNe (.int a) (.int b) H=some (.bool (!(a == b)),H):=by
 simp[oNe,Zci,toD,SeqAt.shaped,PyData.canLay0,PyData.depth,PyData.eqv]
@[simp] theorem Zrq(c d:Bool): oEq (.bool c) (.bool d) H=some (.bool (c == d),H):=by
 simp[oEq,Zci,toD,SeqAt.shaped,PyData.canLay0,PyData.depth,PyData.eqv]
@[simp] theorem Zrr(c d:Bool): oNe (.bool c) (.bool d) H=some (.bool (!(c == d)),H):=by
 simp[oNe,Zci,toD,SeqAt.shaped,PyData.canLay0,PyData.depth,PyData.eqv]
@[simp] theorem ZqM: ZaX "int" (.int a)=true:=rfl
@[simp] theorem ZqN: ZaX "bool" (.int a)=false:=rfl
@[simp] theorem ZqO(i:Nat): ZaX "list" (.ref i)=true:=rfl
@[simp] theorem ZqP(vs:List V): ZaX "tuple" (.tup vs)=true:=rfl
@[simp] theorem ZqQ(b:Bool): ZaX "bool" (.bool b)=true:=rfl
@[simp] theorem ZqR(b:Bool): ZaX "int" (.bool b)=true:=rfl
@[simp] theorem ZqS: ZaX "int" .none=false:=rfl
@[simp] theorem ZqT: ZaX "tuple" .none=false:=rfl
@[simp] theorem ZqU: ZaX "list" .none=false:=rfl
end
@[simp] theorem Zri(H:Hp)(vs:List V): (H++[vs])[H.length]?=some vs:=by simp
@[simp] theorem ZqV(f:Ex)(ρ:Lc)(H:Hp): Zaq f ρ H=(f ρ H).bind fun p=>match p.1 with
 | .ref a=>p.2[a]?.map fun vs=>(Zal a,vs.length+1,p.2)
 | .tup vs=>some (Zgk vs,vs.length+1,p.2)
 | _=>none:=rfl
@[simp] theorem Zqo(a c:Int)(n i:Nat)(H:Hp): ZbO a c n i H=some (if i<n then some (.int (a+i*c))else none):=rfl
theorem Zgz{b:Int}(hb:0≤b): Builtin.Range.rangeSize 0 b 1=b:=by
 unfold Builtin.Range.rangeSize
 rw[if_pos (by decide)]
 by_cases h:(0:Int)<b
 ·rw[if_pos h]
  omega
 ·rw[if_neg h]
  omega
theorem ZoR{b:Int}{H:Hp}(hb:0≤b)(hb9:b≤1000): Zbg 0 b 1 H=some (ZbO 0 1 b.toNat,b.toNat+1,H):=by
 unfold Zbg rngN
 rw[Zgz hb,if_pos]
 refine⟨by decide,?_,hb,by rw[Zab];omega,?_⟩
 ·unfold Builtin.Range.small
  rw[Zgz hb]
  simp only[Builtin.Range.rangeFitsLong,Bool.and_eq_true,Bool.or_eq_true,decide_eq_true_eq,beq_iff_eq]
  rw[if_pos (by decide)]
  simp only[Bool.and_eq_true,decide_eq_true_eq]
  by_cases h:(0:Int)<b
  ·refine⟨⟨⟨⟨?_,?_⟩,?_⟩,?_⟩,Or.inr ?_⟩ <;> omega
  ·refine⟨⟨⟨⟨?_,?_⟩,?_⟩,?_⟩,?_⟩ <;> first | omega | (left;omega)
 ·exact PyProof.noPylong_small (by omega)
end PM
end
section
namespace PM
open PySem PySem.W PyProof.Rows My
theorem Zj2{a b:Int}(h:IntMulOk a b): ZbT a b=true:=by
 unfold IntMulOk at h
 unfold ZbT
 cases e:(decide (Builtin.Int.intBits a>shortFactorBits) && decide (Builtin.Int.intBits b>shortFactorBits) && Builtin.Int.intTooBig (Builtin.Int.intBits a+Builtin.Int.intBits b))with
 | true=>exact absurd e h
 | false=>rfl
@[irreducible] noncomputable def M5: Int:=48271 ^ Int.toNat 14
theorem Zll{a b:Int}{H:Hp}(h:0≤b∧(Builtin.Int.intBits a:Int)*b≤2 ^ 27): oPow (.int a) (.int b) H=some (.int (a ^ b.toNat),H):=by simp only[oPow];rw[if_pos h]
theorem ZpY(H:Hp): oPow (.int 48271) (.int 14) H=some (.int M5,H):=by rw[Zll (by decide +kernel)];unfold M5;rfl
theorem ZoS(H:Hp): oPow (.int 10) (.int 60) H=some (.int T60,H):=by rw[Zll (by decide +kernel)];unfold T60;rfl
end PM
end
section
namespace PM
open PySem PySem.W PyProof.Rows My
section
variable {ρ ρ1 ρ2:Lc} {H H1 H2 H3:Hp}
theorem ZoT{k:Int}: Ze k ρ H=some (.int k,H):=rfl
theorem ZnR{f g:Ex}{a:Nat}{k:Int}{n:Nat}{vs:List V}(h1:f ρ H=some (.ref a,H1))(h2:g ρ H1=some (.int k,H2))(e:H2[a]?=some vs)(hk:k=(n:Int)): Zcv f (ZcM g) ZcL ρ H=some (.ref H2.length,H2++[vs.drop n]):=by
 simp only[Zcv,h1,Zs0,Zm6,h2,Zs1,Zm5,Ze6,e]
 rw[ZjK vs hk]
end
end PM
end
section
/-! Forward reckoning: what comes, told by a claim. -/
namespace PM
open PySem PySem.W PyProof.Rows My
section
variable {ρ:Lc} {H:Hp} {Q:V→Hp→Prop} {L:List V→Hp→Prop} {T:Bool→Hp→Prop} {R:V→Hp→Prop} {N:Lc→Hp→Prop}
variable {a b:Int}
theorem lt_of_at{i:Nat}{vs:List V}(e:H[i]?=some vs): i<H.length:=(Zz6.mp e).1
end
end PM
end
section
namespace PM
open PySem PySem.W PyProof.Rows PyProof
noncomputable def ZdG(f:Ex)(k:Nat): Ex:=fun ρ H=>(f ρ H).bind fun p=>match p.1 with
 | .ref i=>p.2[i]?.bind fun vs=>some (.ref p.2.length,p.2++[vs.drop k])
 | .tup vs=>if 1≤k∧k≤vs.length then some (.tup (vs.drop k),p.2)else none
 | _=>none
section
variable {prog:Program} {w:World} {Γ:Cx}
theorem ZkT{e lo:Expr}{p pos:Pos}{f:Ex}{k:Nat}(h:J prog w Γ e f)(hlo:J prog w Γ lo (Ze k))(ht:∀o r,letTemporaryGo e o r=pure ():=by intro _ _;rfl): J prog w Γ (.Subscript e (.Slice (Option.some lo) Option.none Option.none p) pos) (ZdG f k):=by
 intro W ρ H fr s Q E v H' r hf post
 obtain⟨⟨v1,H1⟩,e1,hf⟩:=Zz0.mp hf
 cases v1 with
 | none=>first|exact Zx0 hf|cases hf
 | bool _=>first|exact Zx0 hf|cases hf
 | int _=>first|exact Zx0 hf|cases hf
 | str _=>first|exact Zx0 hf|cases hf
 | obj _ _=>first|exact Zx0 hf|cases hf
 | ref i=>
  obtain⟨vs,e2,e3⟩:=Zz0.mp hf
  refine ZeK h (JP.some hlo) JP.none ht W ρ H fr s Q E v H' r ?_ post
  rw[ZnR (n:=k) e1 ZoT e2 rfl]
  exact e3
 | tup vs=>
  simp only at hf
  by_cases c:1≤k∧k≤vs.length
  ·rw[if_pos c]at hf
   cases hf
   refine wpAny_Subscript_Slice (T:="tuple") slot_tuple_getitem.lookup (h W ρ H fr s _ E _ _ r e1 fun W1 k1 t1 x l1 r1 x1=>?_) ht
   refine wpAny_Slice ?_
   refine wpAny_evalPart_some (hlo W1 ρ _ fr _ _ E _ _ r1 rfl fun W2 k2 t2 y l2 r2 y2=>?_)
   refine wpAny_evalPart_none ?_
   refine wpAny_evalPart_none ?_
   cases y2 with
   | int _ u=>
    have x2:=x1.mono l2
    cases x2 with
    | @tup _ a ys kk hm hl hs=>
     have it:IsTup k2 a ys.toArray:=⟨_,r2.tupAt hm,rfl,kk,rfl⟩
     have it':IsTup (k2.push { cls:=.type "slice",data:=.fields #[.int k u,.none,.none] }) a ys.toArray:=it.keeps fun _ _ e=>Heap.get?_push_of_some _ e
     have hlen:=hs.length
     rw[Zab]at hl
     refine⟨it'.typeIs,getItem_tuple_from it' (Heap.IsSliceOf.new ..) c.1 (by simp[hlen];exact c.2) ?_ (Zb2 (by simp[hlen];rw[Zab];exact hl))⟩
     obtain⟨W4,l4,r4,v4⟩:=(r2.push { cls:=.type "slice",data:=.fields #[.int k u,.none,.none] }).tuple (k:=0) (hs.drop k) (by rw[Zab];simp;omega)
     have:=post W4 _ t2 _ ((l1.trans l2).trans l4) r4 v4
     simpa using this
  ·rw[if_neg c]at hf
   cases hf
end
section
variable {ρ:Lc} {H:Hp} {Q:V→Hp→Prop}
theorem Zlm{a b c:Int}(hc:0<c)(hb:a<b): Builtin.Range.rangeSize a b c=(b-a-1) / c+1:=by
 unfold Builtin.Range.rangeSize
 rw[if_pos hc,if_pos hb]
theorem ZoU{a b c:Int}{H:Hp}(ha:0≤a)(hb:a<b)(hb9:b≤1000)(hc:0<c)(hc9:c≤1000): Zbg a b c H=some (ZbO a c (rngN a b c),rngN a b c+1,H):=by
 have e:=Zlm hc hb
 have h0:0≤(b-a-1) / c:=Int.ediv_nonneg (by omega) (by omega)
 have h2:(b-a-1) / c≤b-a-1:=Int.ediv_le_self _ (by omega)
 unfold Zbg
 rw[if_pos]
 refine⟨by omega,?_,by omega,by unfold rngN;rw[Zab];omega,PyProof.noPylong_small (by omega)⟩
 unfold Builtin.Range.small
 rw[e]
 simp only[Builtin.Range.rangeFitsLong,Bool.and_eq_true,Bool.or_eq_true,decide_eq_true_eq,beq_iff_eq]
 rw[if_pos hc]
 simp only[Bool.and_eq_true,decide_eq_true_eq]
 refine⟨⟨⟨⟨?_,?_⟩,?_⟩,?_⟩,?_⟩ <;> first | omega | (left;omega) | (right;omega)
end
end PM
end
section
namespace PM
open PySem PySem.W PyProof.Rows PyProof My
section
variable {ρ:Lc} {H:Hp} {Q:V→Hp→Prop} {L:List V→Hp→Prop}
end
noncomputable def pr(q:Int×Int): V:=.tup [.int q.1,.int q.2]
noncomputable def od: Option Int→PyData
 | none=>.none
 | some k=>.int k
theorem Zm7{a b:Int}(ha:Builtin.Int.intBits a≤2 ^ 21)(hb:Builtin.Int.intBits b≤2 ^ 21): ZbT a b=true:=by
 have e:(2:Nat) ^ 21=2097152:=by decide
 have h:Builtin.Int.intTooBig (Builtin.Int.intBits a+Builtin.Int.intBits b)=false:=by
  unfold Builtin.Int.intTooBig bitsLine
  exact decide_eq_false (by omega)
 unfold ZbT
 rw[h]
 simp
theorem Zmv{a b:Int}(h1:-(2 ^ 64)<b)(h2:b<2 ^ 64): ZbT a b=true:=Zj2 (IntMulOk.of_right (intBits_le_64 h1 h2))
theorem Zmb{a b:Int}(h1:-(2 ^ 64)<a)(h2:a<2 ^ 64): ZbT a b=true:=Zj2 (IntMulOk.of_left (intBits_le_64 h1 h2))
section
variable {H:Hp} {Q:V→Hp→Prop} {a b:Int}
end
end PM
end
section
/-! The tree machine: values without places; lists that nobody else holds may be changed. -/
namespace TM
open PySem PM
inductive T where
 | none
 | bool (b:Bool)
 | int (i:Int)
 | str (s:Str)
 | tup (ts:List T)
 | lst (ts:List T)
 | ob (c:Nat×List Str) (ts:List T)
mutual
inductive RF(H:Hp): V→T→List Nat→Prop where
 | none:RF H .none .none []
 | bool (b:Bool):RF H (.bool b) (.bool b) []
 | int (i:Int):RF H (.int i) (.int i) []
 | str (s:Str):RF H (.str s) (.str s) []
 | tup {vs:List V} {ts:List T} {F:List Nat}:RFs H vs ts F→RF H (.tup vs) (.tup ts) F
 | ref {a:Nat} {vs:List V} {ts:List T} {F:List Nat}:H[a]?=some vs→RFs H vs ts F→RF H (.ref a) (.lst ts) (a::F)
 | obj {c:Nat×List Str} {a:Nat} {vs:List V} {ts:List T} {F:List Nat}:H[a]?=some vs→RFs H vs ts F→RF H (.obj c a) (.ob c ts) (a::F)
inductive RFs(H:Hp): List V→List T→List Nat→Prop where
 | nil:RFs H [] [] []
 | cons {v:V} {t:T} {F:List Nat} {vs:List V} {ts:List T} {G:List Nat}:RF H v t F→RFs H vs ts G→RFs H (v::vs) (t::ts) (F++G)
end
mutual
theorem RF.frame{H H':Hp}{v:V}{t:T}{F:List Nat}(r:RF H v t F)(h:∀a∈F,H'[a]?=H[a]?): RF H' v t F:=by
 cases r with
 | none=>exact .none
 | bool b=>exact .bool b
 | int i=>exact .int i
 | str s=>exact .str s
 | tup hs=>exact .tup (RFs.frame hs h)
 | ref e hs=>exact .ref ((h _ Zz5).trans e) (RFs.frame hs fun a m=>h a (Zz2 _ m))
 | obj e hs=>exact .obj ((h _ Zz5).trans e) (RFs.frame hs fun a m=>h a (Zz2 _ m))
theorem RFs.frame{H H':Hp}{vs:List V}{ts:List T}{F:List Nat}(r:RFs H vs ts F)(h:∀a∈F,H'[a]?=H[a]?): RFs H' vs ts F:=by
 cases r with
 | nil=>exact .nil
 | cons a b=>exact .cons (RF.frame a fun x m=>h x (Zz4 _ m)) (RFs.frame b fun x m=>h x (Zz3 _ m))
end
mutual
theorem RF.lt{H:Hp}{v:V}{t:T}{F:List Nat}(r:RF H v t F): ∀a∈F,a<H.length:=by
 cases r with
 | none=>intro a m;cases m
 | bool b=>intro a m;cases m
 | int i=>intro a m;cases m
 | str s=>intro a m;cases m
 | tup hs=>exact RFs.lt hs
 | ref e hs=>
  intro x m
  rcases Zz7.mp m with rfl | m
  ·exact(Zz6.mp e).1
  ·exact RFs.lt hs x m
 | obj e hs=>
  intro x m
  rcases Zz7.mp m with rfl | m
  ·exact(Zz6.mp e).1
  ·exact RFs.lt hs x m
theorem RFs.lt{H:Hp}{vs:List V}{ts:List T}{F:List Nat}(r:RFs H vs ts F): ∀a∈F,a<H.length:=by
 cases r with
 | nil=>intro a m;cases m
 | cons a b=>
  intro x m
  rcases Zz8.mp m with m | m
  ·exact RF.lt a x m
  ·exact RFs.lt b x m
end
theorem RF.ext{H:Hp}{v:V}{t:T}{F:List Nat}(r:RF H v t F)(X:Hp): RF (H++X) v t F:=r.frame fun a m=>Zy0 (r.lt a m)
theorem RFs.ext{H:Hp}{vs:List V}{ts:List T}{F:List Nat}(r:RFs H vs ts F)(X:Hp): RFs (H++X) vs ts F:=r.frame fun a m=>Zy0 (r.lt a m)
theorem RFs.length{H:Hp}: ∀{vs:List V} {ts:List T} {F:List Nat},RFs H vs ts F→vs.length=ts.length
 | _,_,_,.nil=>rfl
 | _,_,_,.cons _ r=>by rw[List.length_cons,List.length_cons,r.length]
theorem RFs.append{H:Hp}: ∀{vs us:List V} {ts ss:List T} {F G:List Nat},RFs H vs ts F→RFs H us ss G→RFs H (vs++us) (ts++ss) (F++G)
 | _,_,_,_,_,_,.nil,h=>h
 | _,_,_,_,_,_,.cons a r,h=>by rw[List.append_assoc];exact .cons a (r.append h)
theorem RFs.one{H:Hp}{v:V}{t:T}{F:List Nat}(r:RF H v t F): RFs H [v] [t] F:=by
 have:=RFs.cons r RFs.nil
 rwa [List.append_nil]at this
theorem RFs.snoc{H:Hp}{vs:List V}{ts:List T}{F G:List Nat}{v:V}{t:T}(r:RFs H vs ts F)(x:RF H v t G): RFs H (vs++[v]) (ts++[t]) (F++G):=r.append (.one x)
theorem RFs.at{H:Hp}: ∀{vs:List V} {ts:List T} {F:List Nat} {i:Nat} {t:T},RFs H vs ts F→ts[i]?=some t→∃v G,vs[i]?=some v∧RF H v t G∧G.Sublist F
 | _,_,_,_,_,.nil,e=>by simp at e
 | _,_,_,0,_,.cons a _,e=>by
  simp at e
  exact⟨_,_,by simp,e▸a,List.sublist_append_left _ _⟩
 | _,_,_,i+1,_,.cons _ r,e=>by
  simp at e
  obtain⟨x,G,hx,hr,hs⟩:=r.at e
  exact⟨x,G,by simpa using hx,hr,hs.trans (List.sublist_append_right _ _)⟩
theorem RFs.drop{H:Hp}: ∀{vs:List V} {ts:List T} {F:List Nat} (i:Nat),RFs H vs ts F→∃G,RFs H (vs.drop i) (ts.drop i) G∧G.Sublist F
 | _,_,_,0,h=>⟨_,h,List.Sublist.refl _⟩
 | _,_,_,_+1,.nil=>⟨_,.nil,List.Sublist.refl _⟩
 | _,_,_,i+1,.cons _ r=>by
  obtain⟨G,h1,h2⟩:=r.drop i
  exact⟨G,h1,h2.trans (List.sublist_append_right _ _)⟩
theorem RFs.split{H:Hp}: ∀{vs:List V} {ts:List T} {F:List Nat} {i:Nat} {t:T},RFs H vs ts F→ts[i]?=some t →
  ∃v G F1 F2,vs[i]?=some v∧RF H v t G∧F=F1++(G++F2)∧∀(H':Hp) (w:V) (t':T) (G':List Nat),RF H' w t' G'→(∀a∈F1,H'[a]?=H[a]?)→(∀a∈F2,H'[a]?=H[a]?)→RFs H' (vs.set i w) (ts.set i t') (F1++(G'++F2))
 | _,_,_,_,_,.nil,e=>by simp at e
 | _,_,_,0,_,.cons (G:=G1) a r,e=>by
  simp at e
  subst e
  exact⟨_,_,[],G1,by simp,a,by simp,fun H' w t' G' x _ h2=>by simpa using RFs.cons x (r.frame h2)⟩
 | _,_,_,i+1,_,.cons (F:=F0) a r,e=>by
  simp at e
  obtain⟨v,G,F1,F2,h1,h2,h3,h4⟩:=r.split e
  refine⟨v,G,F0++F1,F2,by simpa using h1,h2,by rw[h3];simp,fun H' w t' G' x k1 k2=>?_⟩
  have:=RFs.cons (a.frame fun b m=>k1 b (Zz4 _ m)) (h4 H' w t' G' x (fun b m=>k1 b (Zz3 _ m)) k2)
  simpa using this
theorem Zh0{α:Type}{xs:List α}{i:Nat}{x:α}(h:xs[i]?=some x): xs.set i x=xs:=by
 obtain⟨hi,e⟩:=Zz6.mp h
 rw[←e]
 exact List.set_getElem_self hi
theorem nd3{F1 G F2 G' Gn:List Nat}(nd:(F1++(G++F2)).Nodup)(n':G'.Nodup)(sub:∀a∈G',a∈G∨a∈Gn)(ds:∀a∈Gn,a∉F1++(G++F2)): (F1++(G'++F2)).Nodup:=by
 rw[List.nodup_append,List.nodup_append]at nd ⊢
 obtain⟨a1,⟨a2,a3,a4⟩,a5⟩:=nd
 refine⟨a1,⟨n',a3,fun x hx y hy e=>?_⟩,fun x hx y hy e=>?_⟩
 ·rcases sub x hx with m | m
  ·exact a4 x m y hy e
  ·exact ds x m (Zz3 _ (Zz3 _ (e▸hy)))
 ·rcases Zz8.mp hy with m | m
  ·rcases sub y m with q | q
   ·exact a5 x hx y (Zz4 _ q) e
   ·exact ds y q (Zz4 _ (e▸hx))
  ·exact a5 x hx y (Zz3 _ m) e
theorem in3{F1 G F2 G' Gn:List Nat}(sub:∀a∈G',a∈G∨a∈Gn): ∀a∈F1++(G'++F2),a∈F1++(G++F2)∨a∈Gn:=by
 intro a m
 rcases Zz8.mp m with m | m
 ·exact .inl (Zz4 _ m)
 ·rcases Zz8.mp m with m | m
  ·exact(sub a m).imp (fun q=>List.mem_append_right _ (Zz4 _ q)) id
  ·exact .inl (Zz3 _ (Zz3 _ m))
mutual
noncomputable def T.flat: T→Bool
 | .lst _=>false
 | .tup ts=>T.flats ts
 | .none=>true
 | .bool _=>true
 | .int _=>true
 | .str _=>true
 | .ob _ _=>false
noncomputable def T.flats: List T→Bool
 | []=>true
 | t::ts=>t.flat && T.flats ts
end
mutual
theorem RF.flat{H:Hp}{v:V}{t:T}{F:List Nat}(r:RF H v t F)(h:t.flat=true): F=[]:=by
 cases r with
 | none=>rfl
 | bool b=>rfl
 | int i=>rfl
 | str s=>rfl
 | tup hs=>exact RFs.flats hs (by simpa [T.flat]using h)
 | ref e hs=>simp[T.flat]at h
 | obj e hs=>simp[T.flat]at h
theorem RFs.flats{H:Hp}{vs:List V}{ts:List T}{F:List Nat}(r:RFs H vs ts F)(h:T.flats ts=true): F=[]:=by
 cases r with
 | nil=>rfl
 | cons a b=>
  simp only[T.flats,Bool.and_eq_true]at h
  rw[RF.flat a h.1,RFs.flats b h.2]
  rfl
end
noncomputable def T.flatIn: T→Bool
 | .lst ts=>T.flats ts
 | t=>t.flat
noncomputable def Zfm(f:List T→Option (List T)): List Int→T→Option T
 | [],.lst ts=>(f ts).map .lst
 | k::ks,.lst ts=>(seqIndex? k ts.length).bind fun j=>ts[j]?.bind fun t=>(Zfm f ks t).map fun u=>.lst (ts.set j u)
 | k::ks,.tup ts=>(seqIndex? k ts.length).bind fun j=>ts[j]?.bind fun t=>(Zfm f ks t).map fun u=>.tup (ts.set j u)
 | _,_=>none
inductive Lead(H:Hp): List Int→V→Nat→Prop where
 | nil {a:Nat}:Lead H [] (.ref a) a
 | ref {k:Int} {ks:List Int} {b:Nat} {vs:List V} {j:Nat} {v:V} {a:Nat}:H[b]?=some vs→seqIndex? k vs.length=some j→vs[j]?=some v→Lead H ks v a→Lead H (k::ks) (.ref b) a
 | tup {k:Int} {ks:List Int} {vs:List V} {j:Nat} {v:V} {a:Nat}:seqIndex? k vs.length=some j→vs[j]?=some v→Lead H ks v a→Lead H (k::ks) (.tup vs) a
theorem Zgl{H:Hp}{Gn:List Nat}{f:List T→Option (List T)}: ∀(ks:List Int) {v:V} {t t':T} {F:List Nat},RF H v t F→F.Nodup→(∀a∈Gn,a∉F)→Zfm f ks t=some t' →
  ∃a vs ts ts' G,Lead H ks v a∧a∈F∧H[a]?=some vs∧RFs H vs ts G∧f ts=some ts'∧G.Nodup∧a∉G∧(∀x∈G,x∈F) ∧
   ∀vs' G',RFs H vs' ts' G'→G'.Nodup→a∉G'→(∀x∈G',x∈G∨x∈Gn)→∃F',RF (H.set a vs') v t' F'∧F'.Nodup∧∀x∈F',x∈F∨x∈Gn
 | [],v,t,t',F,r,nd,ds,e=>by
  cases r with
  | @ref a vs ts G e1 hs=>
   obtain⟨ts',h1,h2⟩:=Zz1.mp e
   subst h2
   rw[List.nodup_cons]at nd
   refine⟨a,vs,ts,ts',G,.nil,List.mem_cons_self,e1,hs,h1,nd.2,nd.1,fun x m=>Zy3 _ m,fun vs' G' r' n' na sub=>⟨a::G',?_,?_,?_⟩⟩
   ·have ha:=(Zz6.mp e1).1
    refine .ref (Zy6 ha) (r'.frame fun b m=>List.getElem?_set_ne ?_)
    intro q
    subst q
    exact na m
   ·exact List.nodup_cons.mpr ⟨na,n'⟩
   ·intro x m
    rcases Zz7.mp m with rfl | m
    ·exact .inl Zz5
    ·exact(sub x m).imp (Zz2 _) id
  | none=>first|exact Zx0 e|cases e
  | bool _=>first|exact Zx0 e|cases e
  | int _=>first|exact Zx0 e|cases e
  | str _=>first|exact Zx0 e|cases e
  | tup _=>first|exact Zx0 e|cases e
  | obj _ _=>first|exact Zx0 e|cases e
 | k::ks,v,t,t',F,r,nd,ds,e=>by
  cases r with
  | none=>first|exact Zx0 e|cases e
  | bool _=>first|exact Zx0 e|cases e
  | int _=>first|exact Zx0 e|cases e
  | str _=>first|exact Zx0 e|cases e
  | obj _ _=>first|exact Zx0 e|cases e
  | @tup vs ts _ hs=>
   obtain⟨j,e1,e⟩:=Zz0.mp e
   obtain⟨u,e2,e⟩:=Zz0.mp e
   obtain⟨u',e3,e⟩:=Zz1.mp e
   subst e
   obtain⟨w,G1,F1,F2,e4,g1,eF,rb⟩:=hs.split e2
   subst eF
   have nd1:G1.Nodup:=(List.nodup_append.mp (List.nodup_append.mp nd).2.1).1
   have hin:∀x∈G1,x∈F1++(G1++F2):=fun x m=>List.mem_append_right _ (Zz4 _ m)
   obtain⟨a,us,qs,qs',G,l,am,ea,hq,hf,gn,na,gs,go⟩:=Zgl ks g1 nd1 (fun b m q=>ds b m (hin b q)) e3
   refine⟨a,us,qs,qs',G,.tup (by rw[hs.length];exact e1) e4 l,hin a am,ea,hq,hf,gn,na,fun x m=>hin x (gs x m),fun vs' G' r' n' na' sub=>?_⟩
   obtain⟨G2,f1,f2,f3⟩:=go vs' G' r' n' na' sub
   obtain⟨a1,a2,a5⟩:=List.nodup_append.mp nd
   obtain⟨_,a3,a4⟩:=List.nodup_append.mp a2
   have:=rb (H.set a vs') w u' G2 f1 (fun b m=>Zy2 fun q=>a5 b m a (Zz4 _ am) q.symm) (fun b m=>Zy2 fun q=>a4 a am b m q)
   rw[Zh0 e4]at this
   exact⟨_,.tup this,nd3 nd f2 f3 ds,in3 f3⟩
  | @ref b vs ts F' e0 hs=>
   obtain⟨j,e1,e⟩:=Zz0.mp e
   obtain⟨u,e2,e⟩:=Zz0.mp e
   obtain⟨u',e3,e⟩:=Zz1.mp e
   subst e
   obtain⟨w,G1,F1,F2,e4,g1,eF,rb⟩:=hs.split e2
   subst eF
   rw[List.nodup_cons]at nd
   obtain⟨nb,nd⟩:=nd
   have nd1:G1.Nodup:=(List.nodup_append.mp (List.nodup_append.mp nd).2.1).1
   have hin:∀x∈G1,x∈F1++(G1++F2):=fun x m=>List.mem_append_right _ (Zz4 _ m)
   have ds':∀a∈Gn,a∉F1++(G1++F2):=fun a m q=>ds a m (Zz2 _ q)
   obtain⟨a,us,qs,qs',G,l,am,ea,hq,hf,gn,na,gs,go⟩:=Zgl ks g1 nd1 (fun b m q=>ds' b m (hin b q)) e3
   refine⟨a,us,qs,qs',G,.ref e0 (by rw[hs.length];exact e1) e4 l,Zy3 _ (hin a am),ea,hq,hf,gn,na,fun x m=>Zy3 _ (hin x (gs x m)),fun vs' G' r' n' na' sub=>?_⟩
   obtain⟨G2,f1,f2,f3⟩:=go vs' G' r' n' na' sub
   obtain⟨a1,a2,a5⟩:=List.nodup_append.mp nd
   obtain⟨_,a3,a4⟩:=List.nodup_append.mp a2
   have:=rb (H.set a vs') w u' G2 f1 (fun b m=>Zy2 fun q=>a5 b m a (Zz4 _ am) q.symm) (fun b m=>Zy2 fun q=>a4 a am b m q)
   rw[Zh0 e4]at this
   have hab:a≠b:=fun q=>nb (hin b (q▸am))
   refine⟨_,.ref ((Zy2 hab).trans e0) this,List.nodup_cons.mpr ⟨fun q=>?_,nd3 nd f2 f3 ds'⟩,fun x m=>?_⟩
   ·rcases in3 f3 b q with m | m
    ·exact nb m
    ·exact ds b m Zz5
   ·rcases Zz7.mp m with rfl | m
    ·exact .inl Zz5
    ·exact(in3 f3 x m).imp (Zz2 _) id
end TM
end
section
namespace TM
open PySem PM
noncomputable abbrev TL:=Nat→Option T
noncomputable abbrev PE:=TL→Option T
noncomputable abbrev PEs:=TL→Option (List T)
noncomputable abbrev PB:=TL→Option Bool
noncomputable abbrev PG:=TL→Option (List T)
noncomputable def ZC(σ:TL)(i:Nat)(t:T): TL:=fun j=>if j=i then some t else σ j
noncomputable def Z9(σ:TL)(i:Nat): TL:=fun j=>if j=i then none else σ j
structure Ctx where
 H0:Hp
 F0:List Nat
 P:Nat→Prop
structure St(c:Ctx)(O:List Nat)(ρ:Lc)(σ:TL)(H:Hp)(Φ:Nat→List Nat): Prop where
 slot:∀i t,σ i=some t→∃v,ρ i=some v∧RF H v t (Φ i)
 src:∀i t,σ i=some t→∀a∈Φ i,c.H0.length≤a∨c.P a
 own:∀i∈O,∀t,σ i=some t→(Φ i).Nodup∧(∀a∈Φ i,c.H0.length≤a∨a∈c.F0)∧∀j u,j≠i→σ j=some u→∀a∈Φ i,a∉Φ j
 len:c.H0.length≤H.length
 keep:∀a,a<c.H0.length→a∉c.F0→H[a]?=c.H0[a]?
 pos:0<c.H0.length
 f0:0∉c.F0
theorem St.ext{c:Ctx}{O:List Nat}{ρ:Lc}{σ:TL}{H:Hp}{Φ:Nat→List Nat}(s:St c O ρ σ H Φ)(X:Hp): St c O ρ σ (H++X) Φ:=
 ⟨fun i t e=>by obtain⟨v,h1,h2⟩:=s.slot i t e;exact⟨v,h1,h2.ext X⟩,s.src,s.own,by have:=s.len;rw[List.length_append];omega,fun a ha hn=>by
  rw[Zy0 (Nat.lt_of_lt_of_le ha s.len)];exact s.keep a ha hn,s.pos,s.f0⟩
theorem St.less{c:Ctx}{O O':List Nat}{ρ:Lc}{σ:TL}{H:Hp}{Φ:Nat→List Nat}(s:St c O ρ σ H Φ)(h:∀i∈O',i∈O): St c O' ρ σ H Φ:=⟨s.slot,s.src,fun i hi=>s.own i (h i hi),s.len,s.keep,s.pos,s.f0⟩
noncomputable def From(H:Hp)(N:List Nat)(σ:TL)(Φ:Nat→List Nat)(a:Nat): Prop:=H.length≤a∨∃i∈N,(∃t,σ i=some t)∧a∈Φ i
theorem From.mono{H:Hp}{N N':List Nat}{σ:TL}{Φ:Nat→List Nat}{a:Nat}(f:From H N σ Φ a)(h:∀i∈N,i∈N'): From H N' σ Φ a:=f.imp id fun⟨i,hi,q⟩=>⟨i,h i hi,q⟩
theorem From.back{H X:Hp}{N:List Nat}{σ:TL}{Φ:Nat→List Nat}{a:Nat}(f:From (H++X) N σ Φ a): From H N σ Φ a:=f.imp (fun h=>by rw[List.length_append]at h;omega) id
theorem From.nil{H:Hp}{σ:TL}{Φ:Nat→List Nat}{a:Nat}(f:From H [] σ Φ a): H.length≤a:=f.elim id fun⟨_,hi,_⟩=>by cases hi
noncomputable def E(O N:List Nat)(u:Bool)(e:Ex)(p:PE): Prop:=∀(c:Ctx) (ρ:Lc) (σ:TL) (H:Hp) (Φ:Nat→List Nat) (t:T),St c O ρ σ H Φ→p σ=some t →
 ∃v X F,e ρ H=some (v,H++X)∧RF (H++X) v t F∧(∀a∈F,From H N σ Φ a)∧(u=true→F.Nodup)
noncomputable def Es(O N:List Nat)(u:Bool)(n:Nat)(e:ZX)(p:PEs): Prop:=∀(c:Ctx) (ρ:Lc) (σ:TL) (H:Hp) (Φ:Nat→List Nat) (ts:List T),St c O ρ σ H Φ→p σ=some ts →
 ts.length=n∧∃vs X F,e ρ H=some (vs,H++X)∧RFs (H++X) vs ts F∧(∀a∈F,From H N σ Φ a)∧(u=true→F.Nodup)
noncomputable def Bt(O:List Nat)(e:Ts)(p:PB): Prop:=∀(c:Ctx) (ρ:Lc) (σ:TL) (H:Hp) (Φ:Nat→List Nat) (b:Bool),St c O ρ σ H Φ→p σ=some b→∃X,e ρ H=some (b,H++X)
section
variable {O N:List Nat} {u:Bool}
theorem Zln{O':List Nat}{e:Ex}{p:PE}(x:E O' N u e p)(h:∀i∈O',i∈O:=by decide): E O N u e p:=fun c ρ σ H Φ t s=>x c ρ σ H Φ t (s.less h)
theorem E.sh{e:Ex}{p:PE}(x:E O N u e p): E O N false e p:=fun c ρ σ H Φ t s q=>by
 obtain⟨v,X,F,a1,a2,a3,a4⟩:=x c ρ σ H Φ t s q
 exact⟨v,X,F,a1,a2,a3,by simp⟩
noncomputable def Zn(k:Int): PE:=fun _=>some (.int k)
noncomputable def ZcQ: PE:=fun _=>some .none
noncomputable def Ze9(b:Bool): PE:=fun _=>some (.bool b)
noncomputable def ZaE(x:Str): PE:=fun _=>some (.str x)
noncomputable def Zf(i:Nat): PE:=fun σ=>σ i
theorem Zo(k:Int): E O [] true (Ze k) (Zn k):=fun c ρ σ H Φ t s q=>by
 cases q;exact⟨_,[],[],by simp[Ze],.int k,by simp,by simp⟩
theorem Zdz: E O [] true Zbi ZcQ:=fun c ρ σ H Φ t s q=>by
 cases q;exact⟨_,[],[],by simp[Zbi],.none,by simp,by simp⟩
theorem E.bool(k:Bool): E O [] true (Zbs k) (Ze9 k):=fun c ρ σ H Φ t s q=>by
 cases q;exact⟨_,[],[],by simp[Zbs],.bool k,by simp,by simp⟩
theorem E.str(k:Str): E O [] true (ZN k) (ZaE k):=fun c ρ σ H Φ t s q=>by
 cases q;exact⟨_,[],[],by simp[ZN],.str k,by simp,by simp⟩
theorem Zh(i:Nat): E O [i] false (Za i) (Zf i):=fun c ρ σ H Φ t s q=>by
 obtain⟨v,h1,h2⟩:=s.slot i t q
 exact⟨v,[],Φ i,by simp[Za,h1],by simpa using h2,fun a m=>.inr ⟨i,List.mem_cons_self,⟨t,q⟩,m⟩,by simp⟩
theorem E.own{i:Nat}(hi:i∈O:=by decide): E O [i] true (Za i) (Zf i):=fun c ρ σ H Φ t s q=>by
 obtain⟨v,h1,h2⟩:=s.slot i t q
 exact⟨v,[],Φ i,by simp[Za,h1],by simpa using h2,fun a m=>.inr ⟨i,List.mem_cons_self,⟨t,q⟩,m⟩,fun _=>(s.own i hi t q).1⟩
noncomputable def ZbV(p:PE): PE:=fun σ=>(p σ).bind fun t=>if t.flat then some t else none
theorem E.flat{e:Ex}{p:PE}(x:E O N u e p): E O [] true e (ZbV p):=fun c ρ σ H Φ t s q=>by
 obtain⟨t',e1,e2⟩:=Zz0.mp q
 by_cases h:t'.flat=true
 ·rw[if_pos h]at e2
  cases e2
  obtain⟨v,X,F,a1,a2,a3,a4⟩:=x c ρ σ H Φ t s e1
  have:=a2.flat h
  subst this
  exact⟨v,X,[],a1,a2,by simp,by simp⟩
 ·rw[if_neg h]at e2;cases e2
noncomputable def Zq: PEs:=fun _=>some []
noncomputable def Zg(p:PE)(q:PEs): PEs:=fun σ=>(p σ).bind fun t=>(q σ).bind fun ts=>some (t::ts)
theorem ZF: Es O [] true 0 Zd Zq:=fun c ρ σ H Φ ts s q=>by
 cases q;exact⟨rfl,[],[],[],by simp[Zd],.nil,by simp,by simp⟩
theorem Zv{M:List Nat}{u':Bool}{n:Nat}{e:Ex}{p:PE}{es:ZX}{ps:PEs}(x:E O N u e p)(y:Es O M u' n es ps): Es O (N++M) false (n+1) (Zb e es) (Zg p ps):=fun c ρ σ H Φ ts s q=>by
 obtain⟨t,e1,q⟩:=Zz0.mp q
 obtain⟨rs,e2,q⟩:=Zz0.mp q
 cases q
 obtain⟨v,X,F,a1,a2,a3,a4⟩:=x c ρ σ H Φ t s e1
 obtain⟨hl,vs,Y,G,b1,b2,b3,b4⟩:=y c ρ σ (H++X) Φ rs (s.ext X) e2
 refine⟨by simp[hl],v::vs,X++Y,F++G,by simp[Zb,a1,b1],?_,fun a m=>?_,by simp⟩
 ·rw[←List.append_assoc];exact .cons (a2.ext Y) b2
 ·rcases Zz8.mp m with m | m
  ·exact(a3 a m).mono fun i hi=>Zy7 _ hi
  ·exact(b3 a m).back.mono fun i hi=>List.mem_append_right _ hi
theorem Z4{M:List Nat}{n:Nat}{e:Ex}{p:PE}{es:ZX}{ps:PEs}(x:E O N true e p)(y:Es O M true n es ps)(hN:∀i∈N,i∈O)(hM:∀i∈N,i∉M): Es O (N++M) true (n+1) (Zb e es) (Zg p ps):=fun c ρ σ H Φ ts s q=>by
 obtain⟨t,e1,q⟩:=Zz0.mp q
 obtain⟨rs,e2,q⟩:=Zz0.mp q
 cases q
 obtain⟨v,X,F,a1,a2,a3,a4⟩:=x c ρ σ H Φ t s e1
 obtain⟨hl,vs,Y,G,b1,b2,b3,b4⟩:=y c ρ σ (H++X) Φ rs (s.ext X) e2
 refine⟨by simp[hl],v::vs,X++Y,F++G,by simp[Zb,a1,b1],?_,fun a m=>?_,fun _=>?_⟩
 ·rw[←List.append_assoc];exact .cons (a2.ext Y) b2
 ·rcases Zz8.mp m with m | m
  ·exact(a3 a m).mono fun i hi=>Zy7 _ hi
  ·exact(b3 a m).back.mono fun i hi=>List.mem_append_right _ hi
 ·rw[List.nodup_append]
  refine⟨a4 rfl,b4 rfl,fun a ha b hb e=>?_⟩
  subst e
  have hlt:=a2.lt a ha
  rcases b3 a hb with h | ⟨j,hj,⟨tj,ej⟩,mj⟩
  ·omega
  ·obtain⟨vj,_,rj⟩:=s.slot j tj ej
   have:=rj.lt a mj
   rcases a3 a ha with h | ⟨i,hi,⟨ti,ei⟩,mi⟩
   ·omega
   ·exact(s.own i (hN i hi) ti ei).2.2 j tj (fun q=>hM i hi (q▸hj)) ej a mi mj
noncomputable def Zbm(p:PEs): PE:=fun σ=>(p σ).map .tup
noncomputable def Zbt(p:PEs): PE:=fun σ=>(p σ).map .lst
theorem E.tup{n:Nat}{e:ZX}{p:PEs}(x:Es O N u n e p)(hn:n≤ZM:=by decide): E O N u (Z3 e) (Zbm p):=fun c ρ σ H Φ t s q=>by
 obtain⟨ts,e1,e2⟩:=Zz1.mp q
 subst e2
 obtain⟨hl,vs,Y,G,b1,b2,b3,b4⟩:=x c ρ σ H Φ ts s e1
 have:=b2.length
 refine⟨.tup vs,Y,G,?_,.tup b2,b3,b4⟩
 simp only[Z3,b1,Zs0]
 rw[if_pos (by omega)]
theorem E.list{n:Nat}{e:ZX}{p:PEs}(x:Es O N u n e p)(hn:n≤ZM:=by decide): E O N u (Zad e) (Zbt p):=fun c ρ σ H Φ t s q=>by
 obtain⟨ts,e1,e2⟩:=Zz1.mp q
 subst e2
 obtain⟨hl,vs,Y,G,b1,b2,b3,b4⟩:=x c ρ σ H Φ ts s e1
 have:=b2.length
 refine⟨.ref (H++Y).length,Y++[vs],(H++Y).length::G,?_,?_,fun a m=>?_,fun hu=>?_⟩
 ·simp only[Zad,b1,Zs0]
  rw[if_pos (by omega),List.append_assoc]
 ·rw[←List.append_assoc];exact .ref (by simp) (b2.ext _)
 ·rcases Zz7.mp m with rfl | m
  ·exact .inl (by simp)
  ·exact b3 a m
 ·rw[List.nodup_cons]
  exact⟨fun m=>Nat.lt_irrefl _ (b2.lt _ m),b4 hu⟩
noncomputable def OA2(o:V→V→Hp→Option (V×Hp))(q:T→T→Option T): Prop:=∀(H:Hp) (v1 v2:V) (t1 t2 t:T) (F1 F2:List Nat),RF H v1 t1 F1→RF H v2 t2 F2→q t1 t2=some t→∃v,o v1 v2 H=some (v,H)∧RF H v t []
noncomputable def OI2(o:V→V→Hp→Option (V×Hp))(q:T→T→Option T): Prop:=∀(H:Hp) (v1 v2:V) (t1 t2 t:T) (F1 F2:List Nat),RF H v1 t1 F1→RF H v2 t2 F2→q t1 t2=some t→∃v F,o v1 v2 H=some (v,H)∧RF H v t F∧F.Sublist F1
noncomputable def OC2(o:V→V→Hp→Option (V×Hp))(q:T→T→Option T): Prop:=∀(H:Hp) (v1 v2:V) (t1 t2 t:T) (F1 F2:List Nat),RF H v1 t1 F1→RF H v2 t2 F2→q t1 t2=some t→∃v X F,o v1 v2 H=some (v,H++X)∧RF (H++X) v t F∧(∀a∈F,H.length≤a∨a∈F1∨a∈F2)∧(t.flatIn=true→F.Nodup∧∀a∈F,H.length≤a)
noncomputable def OA1(o:V→Hp→Option (V×Hp))(q:T→Option T): Prop:=∀(H:Hp) (v1:V) (t1 t:T) (F1:List Nat),RF H v1 t1 F1→q t1=some t→∃v,o v1 H=some (v,H)∧RF H v t []
noncomputable def OAn(o:List V→Hp→Option (V×Hp))(q:List T→Option T): Prop:=∀(H:Hp) (vs:List V) (ts:List T) (t:T) (F:List Nat),RFs H vs ts F→q ts=some t→∃v,o vs H=some (v,H)∧RF H v t []
noncomputable def OCn(o:List V→Hp→Option (V×Hp))(q:List T→Option T): Prop:=∀(H:Hp) (vs:List V) (ts:List T) (t:T) (F1:List Nat),0<H.length→RFs H vs ts F1→q ts=some t→∃v X F,o vs H=some (v,H++X)∧RF (H++X) v t F∧(∀a∈F,H.length≤a∨a∈F1)∧(t.flatIn=true→F.Nodup∧∀a∈F,H.length≤a)
noncomputable def Zj(q:T→T→Option T)(p1 p2:PE): PE:=fun σ=>(p1 σ).bind fun x=>(p2 σ).bind fun y=>q x y
noncomputable def pUn(q:T→Option T)(p1:PE): PE:=fun σ=>(p1 σ).bind fun x=>q x
noncomputable def ZW(q:List T→Option T)(ps:PEs): PE:=fun σ=>(ps σ).bind fun xs=>q xs
noncomputable def pFl(p:PE): PE:=fun σ=>(p σ).bind fun t=>if t.flatIn then some t else none
theorem ZfQ{M:List Nat}{u':Bool}{e1 e2:Ex}{p1 p2:PE}{q:T→T→Option T}{o:V→V→Hp→Option (V×Hp)}{c:Ctx}{ρ:Lc}{σ:TL}{H:Hp}{Φ:Nat→List Nat}{t:T}(x:E O N u e1 p1)(y:E O M u' e2 p2)(s:St c O ρ σ H Φ)(h:Zj q p1 p2 σ=some t):
  ∃t1 t2 v1 v2 X F1 F2,q t1 t2=some t∧RF (H++X) v1 t1 F1∧RF (H++X) v2 t2 F2∧(∀a∈F1,From H N σ Φ a)∧(∀a∈F2,From H M σ Φ a)∧(u=true→F1.Nodup)∧Zc o e1 e2 ρ H=o v1 v2 (H++X):=by
 obtain⟨t1,h1,h⟩:=Zz0.mp h
 obtain⟨t2,h2,h⟩:=Zz0.mp h
 obtain⟨v,X,F,a1,a2,a3,a4⟩:=x c ρ σ H Φ t1 s h1
 obtain⟨w,Y,G,b1,b2,b3,b4⟩:=y c ρ σ (H++X) Φ t2 (s.ext X) h2
 rw[List.append_assoc]at b1 b2
 refine⟨t1,t2,v,w,X++Y,F,G,h,?_,b2,a3,fun a m=>(b3 a m).back,a4,by simp only[Zc,a1,b1,Zs0]⟩
 rw[←List.append_assoc];exact a2.ext Y
theorem Zy{M:List Nat}{u':Bool}{e1 e2:Ex}{p1 p2:PE}{q:T→T→Option T}{o:V→V→Hp→Option (V×Hp)}(k:OA2 o q)(x:E O N u e1 p1)(y:E O M u' e2 p2): E O [] true (Zc o e1 e2) (Zj q p1 p2):=fun c ρ σ H Φ t s h=>by
 obtain⟨t1,t2,v1,v2,X,F1,F2,hq,r1,r2,_,_,_,e⟩:=ZfQ (o:=o) x y s h
 obtain⟨v,h1,h2⟩:=k _ v1 v2 t1 t2 t F1 F2 r1 r2 hq
 exact⟨v,X,[],e.trans h1,h2,by simp,by simp⟩
theorem ZQ{M:List Nat}{u':Bool}{e1 e2:Ex}{p1 p2:PE}{q:T→T→Option T}{o:V→V→Hp→Option (V×Hp)}(k:OI2 o q)(x:E O N u e1 p1)(y:E O M u' e2 p2): E O N u (Zc o e1 e2) (Zj q p1 p2):=fun c ρ σ H Φ t s h=>by
 obtain⟨t1,t2,v1,v2,X,F1,F2,hq,r1,r2,h1,_,hu,e⟩:=ZfQ (o:=o) x y s h
 obtain⟨v,F,k1,k2,k3⟩:=k _ v1 v2 t1 t2 t F1 F2 r1 r2 hq
 exact⟨v,X,F,e.trans k1,k2,fun a m=>h1 a (k3.subset m),fun h=>(hu h).sublist k3⟩
theorem ZaI{M:List Nat}{u':Bool}{e1 e2:Ex}{p1 p2:PE}{q:T→T→Option T}{o:V→V→Hp→Option (V×Hp)}(k:OC2 o q)(x:E O N u e1 p1)(y:E O M u' e2 p2): E O (N++M) false (Zc o e1 e2) (Zj q p1 p2):=fun c ρ σ H Φ t s h=>by
 obtain⟨t1,t2,v1,v2,X,F1,F2,hq,r1,r2,h1,h2,hu,e⟩:=ZfQ (o:=o) x y s h
 obtain⟨v,Y,F,k1,k2,k3,k4⟩:=k _ v1 v2 t1 t2 t F1 F2 r1 r2 hq
 rw[List.append_assoc]at k1 k2
 refine⟨v,X++Y,F,e.trans k1,k2,fun a m=>?_,by simp⟩
 rcases k3 a m with h | h | h
 ·exact .inl (by rw[List.length_append]at h;omega)
 ·exact(h1 a h).mono fun i hi=>Zy7 _ hi
 ·exact(h2 a h).mono fun i hi=>List.mem_append_right _ hi
theorem Zc5{M:List Nat}{u':Bool}{e1 e2:Ex}{p1 p2:PE}{q:T→T→Option T}{o:V→V→Hp→Option (V×Hp)}(k:OC2 o q)(x:E O N u e1 p1)(y:E O M u' e2 p2): E O [] true (Zc o e1 e2) (pFl (Zj q p1 p2)):=fun c ρ σ H Φ t s h=>by
 obtain⟨t',h,hf⟩:=Zz0.mp h
 by_cases fl:t'.flatIn=true
 ·rw[if_pos fl]at hf
  cases hf
  obtain⟨t1,t2,v1,v2,X,F1,F2,hq,r1,r2,h1,h2,hu,e⟩:=ZfQ (o:=o) x y s h
  obtain⟨v,Y,F,k1,k2,k3,k4⟩:=k _ v1 v2 t1 t2 t F1 F2 r1 r2 hq
  rw[List.append_assoc]at k1 k2
  exact⟨v,X++Y,F,e.trans k1,k2,fun a m=>.inl (by have:=(k4 fl).2 a m;rw[List.length_append]at this;omega),fun _=>(k4 fl).1⟩
 ·rw[if_neg fl]at hf;cases hf
theorem ZpZ{e1:Ex}{p1:PE}{q:T→Option T}{o:V→Hp→Option (V×Hp)}(k:OA1 o q)(x:E O N u e1 p1): E O [] true (ZO o e1) (pUn q p1):=fun c ρ σ H Φ t s h=>by
 obtain⟨t1,h1,h⟩:=Zz0.mp h
 obtain⟨v,X,F,a1,a2,a3,a4⟩:=x c ρ σ H Φ t1 s h1
 obtain⟨w,b1,b2⟩:=k _ v t1 t F a2 h
 exact⟨w,X,[],by simp only[ZO,a1,Zs0,b1],b2,by simp,by simp⟩
theorem ZbE{n:Nat}{es:ZX}{ps:PEs}{q:List T→Option T}{o:List V→Hp→Option (V×Hp)}(k:OAn o q)(x:Es O N u n es ps): E O [] true (Zk o es) (ZW q ps):=fun c ρ σ H Φ t s h=>by
 obtain⟨ts,h1,h⟩:=Zz0.mp h
 obtain⟨_,vs,X,F,a1,a2,a3,a4⟩:=x c ρ σ H Φ ts s h1
 obtain⟨w,b1,b2⟩:=k _ vs ts t F a2 h
 exact⟨w,X,[],by simp only[Zk,a1,Zs0,b1],b2,by simp,by simp⟩
theorem Zic{n:Nat}{es:ZX}{ps:PEs}{q:List T→Option T}{o:List V→Hp→Option (V×Hp)}(k:OCn o q)(x:Es O N u n es ps): E O [] true (Zk o es) (pFl (ZW q ps)):=fun c ρ σ H Φ t s h=>by
 obtain⟨t',h,hf⟩:=Zz0.mp h
 by_cases fl:t'.flatIn=true
 ·rw[if_pos fl]at hf
  cases hf
  obtain⟨ts,h1,h⟩:=Zz0.mp h
  obtain⟨_,vs,X,F,a1,a2,a3,a4⟩:=x c ρ σ H Φ ts s h1
  have hp:0<(H++X).length:=by have:=s.pos;have:=s.len;rw[List.length_append];omega
  obtain⟨w,Y,G,b1,b2,b3,b4⟩:=k _ vs ts t F hp a2 h
  rw[List.append_assoc]at b1 b2
  exact⟨w,X++Y,G,by simp only[Zk,a1,Zs0,b1],b2,fun a m=>.inl (by have:=(b4 fl).2 a m;rw[List.length_append]at this;omega),fun _=>(b4 fl).1⟩
 ·rw[if_neg fl]at hf;cases hf
noncomputable def SimF(fr:Bool)(f:List V→Hp→Option (V×Hp))(p:List T→Option T): Prop:=∀(H:Hp) (vs:List V) (ts:List T) (t:T) (F1:List Nat),0<H.length→RFs H vs ts F1→p ts=some t→∃v X F,f vs H=some (v,H++X)∧RF (H++X) v t F∧(∀a∈F,H.length≤a∨a∈F1)∧(fr=true→F.Nodup∧∀a∈F,H.length≤a)
theorem E.fn{fr:Bool}{n:Nat}{es:ZX}{ps:PEs}{q:List T→Option T}{o:List V→Hp→Option (V×Hp)}(k:SimF fr o q)(x:Es O N u n es ps): E O N false (Zk o es) (ZW q ps):=fun c ρ σ H Φ t s h=>by
 obtain⟨ts,h1,h⟩:=Zz0.mp h
 obtain⟨_,vs,X,F,a1,a2,a3,a4⟩:=x c ρ σ H Φ ts s h1
 have hp:0<(H++X).length:=by have:=s.pos;have:=s.len;rw[List.length_append];omega
 obtain⟨w,Y,G,b1,b2,b3,b4⟩:=k _ vs ts t F hp a2 h
 rw[List.append_assoc]at b1 b2
 refine⟨w,X++Y,G,by simp only[Zk,a1,Zs0,b1],b2,fun a m=>?_,by simp⟩
 rcases b3 a m with h | h
 ·exact .inl (by rw[List.length_append]at h;omega)
 ·exact a3 a h
theorem ZcN{n:Nat}{es:ZX}{ps:PEs}{q:List T→Option T}{o:List V→Hp→Option (V×Hp)}(k:SimF true o q)(x:Es O N u n es ps): E O [] true (Zk o es) (ZW q ps):=fun c ρ σ H Φ t s h=>by
 obtain⟨ts,h1,h⟩:=Zz0.mp h
 obtain⟨_,vs,X,F,a1,a2,a3,a4⟩:=x c ρ σ H Φ ts s h1
 have hp:0<(H++X).length:=by have:=s.pos;have:=s.len;rw[List.length_append];omega
 obtain⟨w,Y,G,b1,b2,b3,b4⟩:=k _ vs ts t F hp a2 h
 rw[List.append_assoc]at b1 b2
 exact⟨w,X++Y,G,by simp only[Zk,a1,Zs0,b1],b2,fun a m=>.inl (by have:=(b4 rfl).2 a m;rw[List.length_append]at this;omega),fun _=>(b4 rfl).1⟩
noncomputable def Zd1: T→Option Bool
 | .bool b=>some b
 | .none=>some false
 | .int i=>some (i != 0)
 | _=>none
theorem Zh1{H:Hp}{v:V}{t:T}{F:List Nat}{b:Bool}(r:RF H v t F)(h:Zd1 t=some b): Zac v H=some b:=by
 cases r <;> first | (cases h;rfl) | cases h
noncomputable def Z6(p:PE): PB:=fun σ=>(p σ).bind Zd1
noncomputable def Zfn(p:PB): PB:=fun σ=>(p σ).map fun b=>!b
noncomputable def Za1: PB:=fun _=>some true
noncomputable def ZeX: PB:=fun _=>some false
noncomputable def ZbK(p q:PB): PB:=fun σ=>(p σ).bind fun b=>if b then q σ else some false
noncomputable def bOr(p q:PB): PB:=fun σ=>(p σ).bind fun b=>if b then some true else q σ
theorem Bt.val{e:Ex}{p:PE}(x:E O N u e p): Bt O (ZA e) (Z6 p):=fun c ρ σ H Φ b s h=>by
 obtain⟨t,h1,h⟩:=Zz0.mp h
 obtain⟨v,X,F,a1,a2,a3,a4⟩:=x c ρ σ H Φ t s h1
 exact⟨X,by simp only[ZA,a1,Zs0,Zh1 a2 h,Zs1]⟩
theorem ZkU{e:Ts}{p:PB}(x:Bt O e p): Bt O (ZcD e) (Zfn p):=fun c ρ σ H Φ b s h=>by
 obtain⟨t,h1,h⟩:=Zz1.mp h
 subst h
 obtain⟨X,a1⟩:=x c ρ σ H Φ t s h1
 exact⟨X,by simp only[ZcD,a1,Zs1]⟩
theorem Zb4: Bt O Z5 Za1:=fun c ρ σ H Φ b s h=>by
 cases h;exact⟨[],by simp[Z5]⟩
theorem Zh2: Bt O ZbR ZeX:=fun c ρ σ H Φ b s h=>by
 cases h;exact⟨[],by simp[ZbR]⟩
theorem Zcw{e f:Ts}{p q:PB}(x:Bt O e p)(y:Bt O f q): Bt O (ZaU e f) (ZbK p q):=fun c ρ σ H Φ b s h=>by
 obtain⟨t,h1,h⟩:=Zz0.mp h
 obtain⟨X,a1⟩:=x c ρ σ H Φ t s h1
 cases t with
 | true=>
  obtain⟨Y,b1⟩:=y c ρ σ (H++X) Φ b (s.ext X) (by simpa using h)
  exact⟨X++Y,by simp[ZaU,a1,b1]⟩
 | false=>cases h;exact⟨X,by simp[ZaU,a1]⟩
theorem Zd9{e f:Ts}{p q:PB}(x:Bt O e p)(y:Bt O f q): Bt O (tOr e f) (bOr p q):=fun c ρ σ H Φ b s h=>by
 obtain⟨t,h1,h⟩:=Zz0.mp h
 obtain⟨X,a1⟩:=x c ρ σ H Φ t s h1
 cases t with
 | false=>
  obtain⟨Y,b1⟩:=y c ρ σ (H++X) Φ b (s.ext X) (by simpa using h)
  exact⟨X++Y,by simp[tOr,a1,b1]⟩
 | true=>cases h;exact⟨X,by simp[tOr,a1]⟩
noncomputable def Zfo(p q:PE): PE:=fun σ=>(p σ).bind fun t=>(Zd1 t).bind fun b=>if b then q σ else some t
theorem Zp0{M:List Nat}{e f:Ex}{p q:PE}(x:E O N u e p)(y:E O M u f q): E O (N++M) u (ZcE e f) (Zfo p q):=fun c ρ σ H Φ t s h=>by
 obtain⟨t1,h1,h⟩:=Zz0.mp h
 obtain⟨b,h2,h⟩:=Zz0.mp h
 obtain⟨v,X,F,a1,a2,a3,a4⟩:=x c ρ σ H Φ t1 s h1
 cases b with
 | true=>
  obtain⟨w,Y,F',b1,b2,b3,b4⟩:=y c ρ σ (H++X) Φ t (s.ext X) (by simpa using h)
  exact⟨w,X++Y,F',by simp[ZcE,a1,Zh1 a2 h2,b1],by rw[←List.append_assoc];exact b2,fun a m=>(b3 a m).back.mono fun i hi=>List.mem_append_right _ hi,b4⟩
 | false=>
  cases h
  exact⟨v,X,F,by simp[ZcE,a1,Zh1 a2 h2],a2,fun a m=>(a3 a m).mono fun i hi=>Zy7 _ hi,a4⟩
noncomputable def Zid: T→String
 | .none=>"NoneType"
 | .bool _=>"bool"
 | .int _=>"int"
 | .str _=>"str"
 | .tup _=>"tuple"
 | .lst _=>"list"
 | .ob _ _=>"object"
end
end TM
end
section
namespace TM
open PySem PM
section
variable {O N:List Nat} {u:Bool}
noncomputable def Zf3(K:String)(t:T): Bool:=Zid t == K || (K == "int" && Zid t == "bool")
noncomputable def isObT: T→Bool
 | .ob _ _=>true
 | _=>false
theorem Zm8{H:Hp}{v:V}{t:T}{F:List Nat}(r:RF H v t F): ZbU v=isObT t:=by cases r <;> rfl
noncomputable def pIs(K:String)(p:PE): PE:=fun σ=>(p σ).bind fun t=>if isObT t then none else some (.bool (Zf3 K t))
theorem ZnS{H:Hp}{v:V}{t:T}{F:List Nat}(r:RF H v t F): Zcg v=Zid t:=by cases r <;> rfl
theorem ZgO{K:String}{e:Ex}{p:PE}(x:E O N u e p): E O [] true (eIs K e) (pIs K p):=fun c ρ σ H Φ t s h=>by
 obtain⟨t1,h1,h⟩:=Zz0.mp h
 by_cases ob:isObT t1=true
 ·rw[if_pos ob]at h;cases h
 rw[if_neg ob]at h
 cases h
 obtain⟨v,X,F,a1,a2,a3,a4⟩:=x c ρ σ H Φ t1 s h1
 refine⟨.bool (Zf3 K t1),X,[],?_,.bool _,by simp,by simp⟩
 simp only[eIs,a1,Zs0,ZaX,Zf3,ZnS a2,Zm8 a2]
 rw[if_neg ob]
noncomputable def ZbA: T→T→Option T
 | .int a,.int b=>some (.int (a-b))
 | _,_=>none
noncomputable def ZbB: T→T→Option T
 | .int a,.int b=>if b≠0∧Builtin.divisionGoesByPylong a b=false then some (.int (a.fdiv b))else none
 | _,_=>none
noncomputable def Zas: T→T→Option T
 | .int a,.int b=>if b≠0 then some (.int (a.fmod b))else none
 | _,_=>none
noncomputable def ZcR: T→T→Option T
 | .int a,.int b=>if 0≤b∧(Builtin.Int.intBits a:Int)*b≤2 ^ 27 then some (.int (a ^ b.toNat))else none
 | _,_=>none
noncomputable def Zi6: T→Option T
 | .int a=>some (.int (-a))
 | _=>none
noncomputable def Zi7(p:Int→Int→Bool): T→T→Option T
 | .int a,.int b=>some (.bool (p a b))
 | _,_=>none
noncomputable def qLt:=Zi7 fun a b=>decide (a<b)
noncomputable def qGt:=Zi7 fun a b=>decide (b<a)
theorem ZbW: OA2 Za7 ZbA:=fun H v1 v2 t1 t2 t F1 F2 r1 r2 h=>by
 cases r1 <;> first|exact Zx0 h|(cases h;done)| (cases r2 <;> first|exact Zx0 h|(cases h;done)| (cases h;exact⟨_,rfl,.int _⟩))
theorem ZcB: OA2 oDiv ZbB:=fun H v1 v2 t1 t2 t F1 F2 r1 r2 h=>by
 cases r1 <;> first|exact Zx0 h|(cases h;done)| skip
 cases r2 <;> first|exact Zx0 h|(cases h;done)| skip
 simp only[ZbB]at h
 split at h
 ·rename_i hc;cases h;exact⟨_,by simp only[oDiv];rw[if_pos hc],.int _⟩
 ·first|exact Zx0 h|cases h
theorem ZaD: OA2 oMod Zas:=fun H v1 v2 t1 t2 t F1 F2 r1 r2 h=>by
 cases r1 <;> first|exact Zx0 h|(cases h;done)| skip
 cases r2 <;> first|exact Zx0 h|(cases h;done)| skip
 simp only[Zas]at h
 split at h
 ·rename_i hc;cases h;exact⟨_,by simp only[oMod];rw[if_pos hc],.int _⟩
 ·first|exact Zx0 h|cases h
theorem ZiW: OA2 oPow ZcR:=fun H v1 v2 t1 t2 t F1 F2 r1 r2 h=>by
 cases r1 <;> first|exact Zx0 h|(cases h;done)| skip
 cases r2 <;> first|exact Zx0 h|(cases h;done)| skip
 simp only[ZcR]at h
 split at h
 ·rename_i hc;cases h;exact⟨_,by simp only[oPow];rw[if_pos hc],.int _⟩
 ·first|exact Zx0 h|cases h
theorem Zp1: OA1 Zdf Zi6:=fun H v1 t1 t F1 r1 h=>by
 cases r1 <;> first|exact Zx0 h|(cases h;done)| (cases h;exact⟨_,rfl,.int _⟩)
theorem Zlo(p:Int→Int→Bool): OA2 (Zfj p) (Zi7 p):=fun H v1 v2 t1 t2 t F1 F2 r1 r2 h=>by
 cases r1 <;> first|exact Zx0 h|(cases h;done)| (cases r2 <;> first|exact Zx0 h|(cases h;done)| (cases h;exact⟨_,rfl,.bool _⟩))
theorem Zei: OA2 oLt qLt:=Zlo _
theorem ZdM: OA2 oGt qGt:=Zlo _
noncomputable def ZdH(f:T→Option PyData): List T→Option (List PyData)
 | []=>some []
 | v::vs=>(f v).bind fun d=>(ZdH f vs).bind fun ds=>some (d::ds)
noncomputable def Zbn: Nat→T→Option PyData
 | _,.none=>some .none
 | _,.bool b=>some (.bool b)
 | _,.int i=>some (.int i)
 | _,.str x=>some (.str x)
 | n+1,.tup vs=>(ZdH (Zbn n) vs).map .tuple
 | n+1,.lst vs=>(ZdH (Zbn n) vs).map .list
 | 0,.tup _=>none
 | 0,.lst _=>none
 | _,.ob _ _=>none
theorem Zie{H:Hp}{f:V→Option PyData}{g:T→Option PyData}(h:∀v t F,RF H v t F→f v=g t): ∀{vs:List V} {ts:List T} {F:List Nat},RFs H vs ts F→Zeh f vs=ZdH g ts
 | _,_,_,.nil=>rfl
 | _,_,_,.cons a b=>by simp only[Zeh,ZdH,h _ _ _ a,Zie h b]
theorem Zgm{H:Hp}: ∀(n:Nat) (v:V) (t:T) (F:List Nat),RF H v t F→toD H n v=Zbn n t:=by
 intro n
 induction n with
 | zero=>intro v t F r;cases r <;> rfl
 | succ n ih=>
  intro v t F r
  cases r with
  | none=>rfl
  | bool=>rfl
  | int=>rfl
  | str=>rfl
  | tup hs=>simp only[toD,Zbn,Zie ih hs]
  | ref e hs=>simp only[toD,Zbn,e,Zs0,Zie ih hs]
  | obj e hs=>rfl
noncomputable def ZbZ(a b:T): Option Bool:=(Zbn Za3 a).bind fun d=>(Zbn Za3 b).bind fun e=>if SeqAt.shaped d=true∧SeqAt.shaped e=true then some (PyData.eqv d e)else none
noncomputable def qEq(a b:T): Option T:=(ZbZ a b).map .bool
noncomputable def qNe(a b:T): Option T:=(ZbZ a b).map fun c=>.bool !c
theorem ZkV{H:Hp}{v1 v2:V}{t1 t2:T}{F1 F2:List Nat}(r1:RF H v1 t1 F1)(r2:RF H v2 t2 F2): Zci v1 v2 H=ZbZ t1 t2:=by
 simp only[Zci,ZbZ,Zgm Za3 _ _ _ r1,Zgm Za3 _ _ _ r2]
theorem Zbo: OA2 oEq qEq:=fun H v1 v2 t1 t2 t F1 F2 r1 r2 h=>by
 obtain⟨c,h1,h⟩:=Zz1.mp h
 subst h
 exact⟨_,by simp only[oEq,ZkV r1 r2,h1,Zs1],.bool _⟩
theorem Zi8: OA2 oNe qNe:=fun H v1 v2 t1 t2 t F1 F2 r1 r2 h=>by
 obtain⟨c,h1,h⟩:=Zz1.mp h
 subst h
 exact⟨_,by simp only[oNe,ZkV r1 r2,h1,Zs1],.bool _⟩
noncomputable def qIs: T→T→Option T
 | .none,.none=>some (.bool true)
 | _,.none=>some (.bool false)
 | _,_=>none
theorem Zxc{a b t:T}:qIs a b=some t→b=.none:=by cases b <;> first|exact fun _=>rfl|(cases a <;> exact Zx0)
theorem ZgP: OA2 oIs qIs:=fun H v1 v2 t1 t2 t F1 F2 r1 r2 h=>by
 have:=Zxc h;subst this
 cases r2
 cases r1 <;> (cases h;exact⟨_,rfl,.bool _⟩)
noncomputable def ZD: T→T→Option T
 | .lst ts,.int k=>(seqIndex? k ts.length).bind fun j=>ts[j]?
 | .tup ts,.int k=>(seqIndex? k ts.length).bind fun j=>ts[j]?
 | _,_=>none
theorem ZR: OI2 Zl ZD:=fun H v1 v2 t1 t2 t F1 F2 r1 r2 h=>by
 cases r1 with
 | none=>first|exact Zx0 h|cases h
 | bool=>first|exact Zx0 h|cases h
 | int=>first|exact Zx0 h|cases h
 | str=>first|exact Zx0 h|cases h
 | obj=>first|exact Zx0 h|cases h
 | tup hs=>
  cases r2 <;> first|exact Zx0 h|(cases h;done)| skip
  obtain⟨j,h1,h2⟩:=Zz0.mp h
  obtain⟨v,G,e1,e2,e3⟩:=hs.at h2
  exact⟨v,G,by simp only[Zl,hs.length,h1,Zs0,e1,Zs1],e2,e3⟩
 | ref e hs=>
  cases r2 <;> first|exact Zx0 h|(cases h;done)| skip
  obtain⟨j,h1,h2⟩:=Zz0.mp h
  obtain⟨v,G,e1,e2,e3⟩:=hs.at h2
  exact⟨v,G,by simp only[Zl,e,Zs0,hs.length,h1,e1,Zs1],e2,e3.trans (List.sublist_cons_self _ _)⟩
noncomputable def Zb0: List T→Option T
 | [.lst ts]=>some (.int ts.length)
 | [.tup ts]=>some (.int ts.length)
 | _=>none
theorem RFs.one_inv{H:Hp}{vs:List V}{t:T}{F:List Nat}(r:RFs H vs [t] F): ∃v,vs=[v]∧RF H v t F:=by
 cases r with
 | cons a b=>cases b;rw[List.append_nil];exact⟨_,rfl,a⟩
theorem RFs.two_inv{H:Hp}{vs:List V}{t t':T}{F:List Nat}(r:RFs H vs [t,t'] F): ∃v v' F1 F2,vs=[v,v']∧RF H v t F1∧RF H v' t' F2∧F=F1++F2:=by
 cases r with
 | cons a b=>obtain⟨v',h1,h2⟩:=b.one_inv;subst h1;exact⟨_,_,_,_,rfl,a,h2,rfl⟩
theorem Zfa: OAn Zan Zb0:=fun H vs ts t F r h=>by
 unfold Zb0 at h
 split at h
 ·obtain⟨v,rfl,r'⟩:=r.one_inv
  cases r' with
  | ref e hs=>cases h;exact⟨_,by simp only[Zan,e,Zs1,hs.length],.int _⟩
 ·obtain⟨v,rfl,r'⟩:=r.one_inv
  cases r' with
  | tup hs=>cases h;exact⟨_,by simp only[Zan,hs.length],.int _⟩
 ·first|exact Zx0 h|cases h
noncomputable def ZdN: List T→Option T
 | [.int a]=>some (.int (if a<0 then -a else a))
 | _=>none
theorem ZgA: OAn Zcb ZdN:=fun H vs ts t F r h=>by
 unfold ZdN at h
 split at h
 ·obtain⟨v,rfl,r'⟩:=r.one_inv
  cases r';cases h;exact⟨_,rfl,.int _⟩
 ·first|exact Zx0 h|cases h
noncomputable def Zfb: List T→Option T
 | [.int a,.int b]=>some (.int (if b>a then b else a))
 | _=>none
noncomputable def ZgB: List T→Option T
 | [.int a,.int b]=>some (.int (if b<a then b else a))
 | _=>none
theorem ZoV: OAn Ze7 Zfb:=fun H vs ts t F r h=>by
 unfold Zfb at h
 split at h
 ·obtain⟨v,w,F1,F2,rfl,r1,r2,_⟩:=r.two_inv
  cases r1;cases r2;cases h;exact⟨_,rfl,.int _⟩
 ·first|exact Zx0 h|cases h
theorem ZoW: OAn ZdF ZgB:=fun H vs ts t F r h=>by
 unfold ZgB at h
 split at h
 ·obtain⟨v,w,F1,F2,rfl,r1,r2,_⟩:=r.two_inv
  cases r1;cases r2;cases h;exact⟨_,rfl,.int _⟩
 ·first|exact Zx0 h|cases h
noncomputable def Zbb: List T→Option (List Int)
 | []=>some []
 | .int k::vs=>(Zbb vs).map fun ks=>k::ks
 | _::_=>none
theorem Zif{H:Hp}: ∀{vs:List V} {ts:List T} {F:List Nat} {ks:List Int},RFs H vs ts F→Zbb ts=some ks→ZcH vs=some ks
 | _,_,_,_,.nil,h=>h
 | _,_,_,_,.cons a b,h=>by
  cases a <;> first|exact Zx0 h|(cases h;done)| skip
  obtain⟨js,h1,h2⟩:=Zz1.mp h
  subst h2
  simp only[ZcH,Zif b h1,Zs1]
noncomputable def ZgQ: List T→Option T
 | [.lst ts]=>(Zbb ts).map fun ks=>.int ks.sum
 | _=>none
theorem Zp2: OAn Zfk ZgQ:=fun H vs ts t F r h=>by
 unfold ZgQ at h
 split at h
 ·obtain⟨v,rfl,r'⟩:=r.one_inv
  cases r' with
  | ref e hs=>
   obtain⟨ks,h1,h2⟩:=Zz1.mp h
   subst h2
   exact⟨_,by simp only[Zfk,e,Zs0,Zif hs h1,Zs1],.int _⟩
 ·first|exact Zx0 h|cases h
theorem Zdg{H:Hp}{vs:List V}{ts:List T}{F:List Nat}(r:RFs H vs ts F): RF (H++[vs]) (.ref H.length) (.lst ts) (H.length::F):=.ref (by simp) (r.ext _)
theorem ZdX{H:Hp}{vs:List V}{ts:List T}{F:List Nat}(r:RFs H vs ts F)(h:T.flatIn (.lst ts)=true): (H.length::F).Nodup∧∀a∈H.length::F,H.length≤a:=by
 rw[r.flats (by simpa [T.flatIn]using h)]
 simp
theorem Zm9{H:Hp}{v:V}{t:T}{F:List Nat}(r:RF H v t F)(h:F=[]): F.Nodup∧∀a∈F,H.length≤a:=by subst h;simp
noncomputable def Zfp(ts:List T): Nat→List T
 | 0=>[]
 | n+1=>Zfp ts n++ts
noncomputable def Zaj: T→T→Option T
 | .int a,.int b=>some (.int (a+b))
 | .lst a,.lst b=>if(a++b).length≤ZM then some (.lst (a++b))else none
 | .tup a,.tup b=>if(a++b).length≤ZM then some (.tup (a++b))else none
 | _,_=>none
noncomputable def ZbC: T→T→Option T
 | .int a,.int b=>if ZbT a b=true then some (.int (a*b))else none
 | .lst a,.int k=>if a.length*k.toNat≤ZM∧-(2 ^ 63:Int)≤k∧k<2 ^ 63 then some (.lst (Zfp a k.toNat))else none
 | _,_=>none
theorem ZkW{H:Hp}{vs:List V}{ts:List T}{F:List Nat}(r:RFs H vs ts F): ∀n,∃G,RFs H (ZdJ vs n) (Zfp ts n) G∧∀a∈G,a∈F
 | 0=>⟨_,.nil,by simp⟩
 | n+1=>by
  obtain⟨G,h1,h2⟩:=ZkW r n
  exact⟨_,h1.append r,fun a m=>(Zz8.mp m).elim (h2 a) id⟩
theorem Zaz: OC2 Z0 Zaj:=fun H v1 v2 t1 t2 t F1 F2 r1 r2 h=>by
 cases r1 with
 | none=>first|exact Zx0 h|cases h
 | bool=>first|exact Zx0 h|cases h
 | str=>first|exact Zx0 h|cases h
 | obj=>first|exact Zx0 h|cases h
 | int a=>
  cases r2 <;> first|exact Zx0 h|(cases h;done)| skip
  cases h;exact⟨_,[],[],by simp[Z0],.int _,by simp,by simp⟩
 | tup hs1=>
  cases r2 with
  | none=>first|exact Zx0 h|cases h
  | bool=>first|exact Zx0 h|cases h
  | str=>first|exact Zx0 h|cases h
  | obj=>first|exact Zx0 h|cases h
  | int=>first|exact Zx0 h|cases h
  | ref=>first|exact Zx0 h|cases h
  | tup hs2=>
   simp only[Zaj]at h
   split at h
   ·rename_i hl
    cases h
    refine⟨_,[],_,?_,.tup (by simpa using hs1.append hs2),fun a m=>.inr (Zz8.mp m),fun hf=>Zm9 (H:=H) (.tup (hs1.append hs2)) ((RF.tup (hs1.append hs2)).flat (by simpa [T.flatIn]using hf))⟩
    simp only[Z0,List.append_nil]
    rw[if_pos (by rw[List.length_append]at hl ⊢;rw[hs1.length,hs2.length];exact hl)]
   ·first|exact Zx0 h|cases h
 | ref e1 hs1=>
  cases r2 with
  | none=>first|exact Zx0 h|cases h
  | bool=>first|exact Zx0 h|cases h
  | str=>first|exact Zx0 h|cases h
  | obj=>first|exact Zx0 h|cases h
  | int=>first|exact Zx0 h|cases h
  | tup=>first|exact Zx0 h|cases h
  | ref e2 hs2=>
   simp only[Zaj]at h
   split at h
   ·rename_i hl
    cases h
    refine⟨_,_,_,?_,Zdg (hs1.append hs2),fun a m=>?_,ZdX (hs1.append hs2)⟩
    ·simp only[Z0,e1,e2,Zs0]
     rw[if_pos (by rw[List.length_append]at hl ⊢;rw[hs1.length,hs2.length];exact hl)]
    ·rcases Zz7.mp m with rfl | m
     ·exact .inl (Zz10 _)
     ·rcases Zz8.mp m with m | m
      ·exact .inr (.inl (Zz2 _ m))
      ·exact .inr (.inr (Zz2 _ m))
   ·first|exact Zx0 h|cases h
theorem Zfc: OC2 Zcj ZbC:=fun H v1 v2 t1 t2 t F1 F2 r1 r2 h=>by
 cases r1 with
 | none=>first|exact Zx0 h|cases h
 | bool=>first|exact Zx0 h|cases h
 | str=>first|exact Zx0 h|cases h
 | obj=>first|exact Zx0 h|cases h
 | tup=>first|exact Zx0 h|cases h
 | int a=>
  cases r2 <;> first|exact Zx0 h|(cases h;done)| skip
  simp only[ZbC]at h
  split at h
  ·rename_i hm
   cases h;exact⟨_,[],[],by simp only[Zcj];rw[if_pos hm];simp,.int _,by simp,by simp⟩
  ·first|exact Zx0 h|cases h
 | ref e1 hs1=>
  cases r2 with
  | none=>first|exact Zx0 h|cases h
  | bool=>first|exact Zx0 h|cases h
  | str=>first|exact Zx0 h|cases h
  | obj=>first|exact Zx0 h|cases h
  | tup=>first|exact Zx0 h|cases h
  | ref=>first|exact Zx0 h|cases h
  | int k=>
   simp only[ZbC]at h
   split at h
   ·rename_i hl
    cases h
    obtain⟨G,h1,h2⟩:=ZkW hs1 k.toNat
    refine⟨_,_,_,?_,Zdg h1,fun a m=>?_,ZdX h1⟩
    ·simp only[Zcj,e1,Zs0]
     rw[if_pos (by rw[hs1.length];exact hl)]
    ·rcases Zz7.mp m with rfl | m
     ·exact .inl (Zz10 _)
     ·exact .inr (.inl (Zz2 _ (h2 a m)))
   ·first|exact Zx0 h|cases h
noncomputable def ZdA: List T→Option T
 | [.lst ts]=>some (.lst ts)
 | [.tup ts]=>some (.lst ts)
 | _=>none
noncomputable def ZeM: List T→Option T
 | [.lst ts]=>some (.tup ts)
 | [.tup ts]=>some (.tup ts)
 | _=>none
theorem Zig: OCn Zbx ZdA:=fun H vs ts t F hp r h=>by
 unfold ZdA at h
 split at h
 ·obtain⟨v,rfl,r'⟩:=r.one_inv
  cases r' with
  | ref e hs=>cases h;exact⟨_,_,_,by simp only[Zbx,e,Zs1],Zdg hs,fun a m=>(Zz7.mp m).imp (fun q=>Nat.le_of_eq q.symm) (Zz2 _),ZdX hs⟩
 ·obtain⟨v,rfl,r'⟩:=r.one_inv
  cases r' with
  | tup hs=>cases h;exact⟨_,_,_,by simp only[Zbx],Zdg hs,fun a m=>(Zz7.mp m).imp (fun q=>Nat.le_of_eq q.symm) id,ZdX hs⟩
 ·first|exact Zx0 h|cases h
end
end TM
end
section
namespace TM
open PySem PM
theorem St.from_src{c:Ctx}{O N:List Nat}{ρ:Lc}{σ:TL}{H:Hp}{Φ:Nat→List Nat}(s:St c O ρ σ H Φ){a:Nat}(f:From H N σ Φ a): c.H0.length≤a∨c.P a:=by
 rcases f with h | ⟨i,hi,⟨t,e⟩,m⟩
 ·exact .inl (Nat.le_trans s.len h)
 ·exact s.src i t e a m
theorem St.from_off{c:Ctx}{O N:List Nat}{ρ:Lc}{σ:TL}{H:Hp}{Φ:Nat→List Nat}(s:St c O ρ σ H Φ)(hN:∀i∈N,i∉O){a:Nat}(f:From H N σ Φ a){i:Nat}(hi:i∈O){t:T}(e:σ i=some t): a∉Φ i:=by
 intro m
 obtain⟨v,_,r⟩:=s.slot i t e
 have hl:=r.lt a m
 rcases f with h | ⟨j,hj,⟨t',e'⟩,m'⟩
 ·omega
 ·exact(s.own i hi t e).2.2 j t' (fun q=>hN j hj (q▸hi)) e' a m m'
noncomputable abbrev PPt:=TL→Option (Option Int)
noncomputable def ZcI: PPt:=fun _=>some none
noncomputable def ZcJ(p:PE): PPt:=fun σ=>(p σ).bind fun t=>match t with
 | .int k=>some (some k)
 | _=>none
noncomputable def Pe(O:List Nat)(f:Pt)(p:PPt): Prop:=∀(c:Ctx) (ρ:Lc) (σ:TL) (H:Hp) (Φ:Nat→List Nat) (k:Option Int),St c O ρ σ H Φ→p σ=some k→∃o X,f ρ H=some (o,H++X)∧Ze6 o=some k
section
variable {O N:List Nat} {u:Bool}
theorem Pe.none: Pe O PM.ZcL ZcI:=fun c ρ σ H Φ k s h=>by
 cases h;exact⟨Option.none,[],by simp[PM.ZcL],rfl⟩
theorem Pe.some{e:Ex}{p:PE}(x:E O N u e p): Pe O (ZcM e) (ZcJ p):=fun c ρ σ H Φ k s h=>by
 obtain⟨t,h1,h⟩:=Zz0.mp h
 obtain⟨v,X,F,a1,a2,a3,a4⟩:=x c ρ σ H Φ t s h1
 cases a2 <;> first|exact Zx0 h|(cases h;done)| skip
 rename_i k'
 cases h
 exact⟨Option.some (.int k'),X,by simp only[ZcM,a1,Zs1],rfl⟩
noncomputable def Zcx(p:PE)(lo hi:PPt): PE:=fun σ=>(p σ).bind fun t=>(lo σ).bind fun a=>(hi σ).bind fun b=>match t with
 | .lst ts=>Option.some (.lst (Zbj ts a b))
 | _=>Option.none
theorem RFs.pick{H:Hp}{vs:List V}{ts:List T}{F:List Nat}(h:RFs H vs ts F)(l:List Nat): ∃G,RFs H (l.filterMap fun i=>vs[i]?) (l.filterMap fun i=>ts[i]?) G∧∀a∈G,a∈F:=by
 induction l with
 | nil=>exact⟨_,.nil,by simp⟩
 | cons i l ih=>
  obtain⟨G,h1,h2⟩:=ih
  simp only[List.filterMap_cons]
  have hl:=h.length
  cases e:ts[i]? with
  | none=>
   have:vs[i]?=none:=by rw[List.getElem?_eq_none_iff]at e ⊢;omega
   rw[this]
   exact⟨G,h1,h2⟩
  | some t=>
   obtain⟨x,G',hx,hr,hs⟩:=h.at e
   rw[hx]
   exact⟨_,.cons hr h1,fun a m=>(Zz8.mp m).elim (fun q=>hs.subset q) (h2 a)⟩
theorem Zmc{c:Ctx}{ρ:Lc}{σ:TL}{H:Hp}{Φ:Nat→List Nat}{t:T}{e:Ex}{p:PE}{lo hi:Pt}{plo phi:PPt}(x:E O N u e p)(y:Pe O lo plo)(z:Pe O hi phi)(s:St c O ρ σ H Φ)(h:Zcx p plo phi σ=Option.some t):
  ∃v X F,Zcv e lo hi ρ H=Option.some (v,H++X)∧RF (H++X) v t F∧(∀a∈F,From H N σ Φ a)∧(t.flatIn=true→F.Nodup∧∀a∈F,H.length≤a):=by
 obtain⟨t1,h1,h⟩:=Zz0.mp h
 obtain⟨a,h2,h⟩:=Zz0.mp h
 obtain⟨b,h3,h⟩:=Zz0.mp h
 obtain⟨v,X,F,a1,a2,a3,a4⟩:=x c ρ σ H Φ t1 s h1
 obtain⟨o1,Y,b1,b2⟩:=y c ρ σ (H++X) Φ a (s.ext X) h2
 obtain⟨o2,Z,c1,c2⟩:=z c ρ σ (H++X++Y) Φ b ((s.ext X).ext Y) h3
 cases a2 with
 | none=>first|exact Zx0 h|cases h
 | bool=>first|exact Zx0 h|cases h
 | int=>first|exact Zx0 h|cases h
 | str=>first|exact Zx0 h|cases h
 | obj=>first|exact Zx0 h|cases h
 | tup=>first|exact Zx0 h|cases h
 | @ref i vs ts F e1 hs=>
 cases h
 have e3:((H++X)++(Y++Z))[i]?=Option.some vs:=by rw[Zy0 (Zz6.mp e1).1];exact e1
 have hs':=hs.ext (Y++Z)
 have hlen:=hs.length
 obtain⟨G,g1,g2⟩:=hs'.pick (sliceRange (sliceBounds a b none vs.length).1 (sliceBounds a b none vs.length).2.1 (sliceBounds a b none vs.length).2.2)
 have g1':RFs (H++X++(Y++Z)) (Zbj vs a b) (Zbj ts a b) G:=by unfold Zbj;rw[←hlen];exact g1
 refine⟨.ref (H++X++(Y++Z)).length,X++(Y++Z)++[Zbj vs a b],(H++X++(Y++Z)).length::G,?_,?_,fun q m=>?_,fun hf=>?_⟩
 ·simp only[Zcv,a1,Zs0,b1,c1,b2,c2]
  rw[Zy10 (H++X),e3]
  simp
 ·have:=Zdg g1'
  simpa using this
 ·rcases Zz7.mp m with rfl | m
  ·exact .inl (by simp)
  ·exact a3 q (Zz2 _ (g2 q m))
 ·have:=ZdX g1' hf
  exact⟨this.1,fun q m=>by have:=this.2 q m;simp at this;omega⟩
theorem Zf4{e:Ex}{p:PE}{lo hi:Pt}{plo phi:PPt}(x:E O N u e p)(y:Pe O lo plo)(z:Pe O hi phi): E O N false (Zcv e lo hi) (Zcx p plo phi):=fun c ρ σ H Φ t s h=>by
 obtain⟨v,X,F,a1,a2,a3,a4⟩:=Zmc x y z s h
 exact⟨v,X,F,a1,a2,a3,by simp⟩
noncomputable def Zea(p:PE)(k:Nat): PE:=fun σ=>(p σ).bind fun t=>match t with
 | .lst ts=>Option.some (.lst (ts.drop k))
 | .tup ts=>if 1≤k∧k≤ts.length then Option.some (.tup (ts.drop k))else Option.none
 | _=>Option.none
theorem Zmw{c:Ctx}{ρ:Lc}{σ:TL}{H:Hp}{Φ:Nat→List Nat}{t:T}{e:Ex}{p:PE}{k:Nat}(x:E O N u e p)(s:St c O ρ σ H Φ)(h:Zea p k σ=Option.some t):
  ∃v X F,ZdG e k ρ H=Option.some (v,H++X)∧RF (H++X) v t F∧(∀a∈F,From H N σ Φ a)∧(t.flatIn=true→F.Nodup∧∀a∈F,H.length≤a):=by
 obtain⟨t1,h1,h⟩:=Zz0.mp h
 obtain⟨v,X,F,a1,a2,a3,a4⟩:=x c ρ σ H Φ t1 s h1
 cases a2 with
 | none=>first|exact Zx0 h|cases h
 | bool=>first|exact Zx0 h|cases h
 | int=>first|exact Zx0 h|cases h
 | str=>first|exact Zx0 h|cases h
 | obj=>first|exact Zx0 h|cases h
 | tup hs=>
  simp only at h
  split at h
  ·rename_i hc
   cases h
   obtain⟨G,g1,g2⟩:=hs.drop k
   refine⟨_,X,G,?_,.tup g1,fun a m=>a3 a (g2.subset m),fun hf=>?_⟩
   ·simp only[ZdG,a1,Zs0]
    rw[if_pos (by rw[hs.length];exact hc)]
   ·rw[g1.flats (by simpa [T.flatIn,T.flat]using hf)]
    simp
  ·first|exact Zx0 h|cases h
 | @ref b vs1 ts1 F1 e1 hs=>
  cases h
  obtain⟨G,g1,g2⟩:=hs.drop k
  refine⟨.ref (H++X).length,X++[vs1.drop k],(H++X).length::G,?_,?_,fun a m=>?_,fun hf=>?_⟩
  ·simp only[ZdG,a1,Zs0,e1,List.append_assoc]
  ·rw[←List.append_assoc];exact Zdg g1
  ·rcases Zz7.mp m with rfl | m
   ·exact .inl (by simp)
   ·exact a3 a (Zz2 _ (g2.subset m))
  ·have:=ZdX g1 hf
   exact⟨this.1,fun q m=>by have:=this.2 q m;simp at this;omega⟩
theorem ZkX{e:Ex}{p:PE}{k:Nat}(x:E O N u e p): E O N false (ZdG e k) (Zea p k):=fun c ρ σ H Φ t s h=>by
 obtain⟨v,X,F,a1,a2,a3,a4⟩:=Zmw x s h
 exact⟨v,X,F,a1,a2,a3,by simp⟩
end
noncomputable def Gs(O N:List Nat)(g:Src)(q:PG): Prop:=∀(c:Ctx) (ρ:Lc) (σ:TL) (H:Hp) (Φ:Nat→List Nat) (ts:List T),St c O ρ σ H Φ→q σ=some ts →
 ∃(nx:Nx) (X:Hp) (vs:List V) (F G:List Nat),g ρ H=some (nx,ts.length+1,H++X)∧RFs (H++X) vs ts F∧(∀a∈F,a∈G)∧(∀a∈G,a<(H++X).length∧From H N σ Φ a)∧∀K:Hp,(∀a∈G,K[a]?=(H++X)[a]?)→∀i,i≤vs.length→nx i K=some vs[i]?
section
variable {O N M:List Nat} {u u':Bool}
noncomputable def ZcS(p:PE): PG:=fun σ=>(p σ).bind fun t=>match t with
 | .lst ts=>some ts
 | .tup ts=>some ts
 | _=>none
theorem Gs.seq{e:Ex}{p:PE}(x:E O N u e p): Gs O N (Zaq e) (ZcS p):=fun c ρ σ H Φ ts s h=>by
 obtain⟨t1,h1,h⟩:=Zz0.mp h
 obtain⟨v,X,F,a1,a2,a3,a4⟩:=x c ρ σ H Φ t1 s h1
 have hlt:=a2.lt
 cases a2 with
 | none=>first|exact Zx0 h|cases h
 | bool=>first|exact Zx0 h|cases h
 | int=>first|exact Zx0 h|cases h
 | str=>first|exact Zx0 h|cases h
 | obj=>first|exact Zx0 h|cases h
 | @tup vs _ _ hs=>
  cases h
  exact⟨Zgk vs,X,vs,F,F,by simp only[Zaq,a1,Zs0,hs.length],hs,fun _ m=>m,fun a m=>⟨hlt a m,a3 a m⟩,fun K _ i hi=>rfl⟩
 | @ref b vs _ F' e1 hs=>
  cases h
  refine⟨Zal b,X,vs,F',b::F',by simp only[Zaq,a1,Zs0,e1,Zs1,hs.length],hs,fun _ m=>Zy3 _ m,fun a m=>⟨hlt a m,a3 a m⟩,fun K hK i hi=>?_⟩
  simp only[Zal,hK b Zz5,e1,Zs1]
noncomputable def Zck(a b c:Int): Option (List T):=if c≠0∧Builtin.Range.small a b c=true∧0≤Builtin.Range.rangeSize a b c∧rngN a b c≤ZM∧Builtin.divisionGoesByPylong (b-a) c=false then some ((List.range (rngN a b c)).map fun(i:Nat)=>.int (a+(i:Int)*c))else none
noncomputable def ZbG(p:PEs): PG:=fun σ=>(p σ).bind fun ts=>match ts with
 | [.int b]=>Zck 0 b 1
 | [.int a,.int b]=>Zck a b 1
 | [.int a,.int b,.int c]=>Zck a b c
 | _=>none
theorem Zj3(H:Hp)(a c:Int): ∀(l:List Nat),RFs H (l.map fun(i:Nat)=>.int (a+(i:Int)*c)) (l.map fun(i:Nat)=>.int (a+(i:Int)*c)) []
 | []=>.nil
 | i::l=>by have:=RFs.cons (RF.int (H:=H) (a+i*c)) (Zj3 H a c l);exact this
theorem Zh3{a b c:Int}{H:Hp}{ts:List T}(h:Zck a b c=some ts): ∃(nx:Nx) (vs:List V),Zbg a b c H=some (nx,ts.length+1,H)∧RFs H vs ts []∧∀K:Hp,∀i,i≤vs.length→nx i K=some vs[i]?:=by
 unfold Zck at h
 split at h
 ·rename_i hc
  cases h
  refine⟨ZbO a c (rngN a b c),(List.range (rngN a b c)).map fun(i:Nat)=>.int (a+(i:Int)*c),?_,Zj3 H a c _,fun K i hi=>?_⟩
  ·unfold Zbg
   rw[if_pos hc]
   simp
  ·simp only[ZbO,List.getElem?_map]
   by_cases q:i<rngN a b c
   ·rw[if_pos q,List.getElem?_range q];rfl
   ·rw[if_neg q,Zy8 (by simpa using Nat.le_of_not_lt q)];rfl
 ·first|exact Zx0 h|cases h
theorem RFs.three_inv{H:Hp}{vs:List V}{t t' t'':T}{F:List Nat}(r:RFs H vs [t,t',t''] F): ∃v v' v'' F1 F2 F3,vs=[v,v',v'']∧RF H v t F1∧RF H v' t' F2∧RF H v'' t'' F3:=by
 cases r with
 | cons a b=>obtain⟨v',v'',F2,F3,h1,h2,h3,_⟩:=b.two_inv;subst h1;exact⟨_,_,_,_,_,_,rfl,a,h2,h3⟩
theorem Gs.range{n:Nat}{e:ZX}{p:PEs}(x:Es O N u n e p): Gs O [] (ZaY e) (ZbG p):=fun c ρ σ H Φ ts s h=>by
 obtain⟨t1,h1,h⟩:=Zz0.mp h
 obtain⟨_,vs,X,F,a1,a2,a3,a4⟩:=x c ρ σ H Φ t1 s h1
 split at h
 ·obtain⟨v,rfl,r⟩:=a2.one_inv
  cases r
  obtain⟨nx,us,q1,q2,q3⟩:=Zh3 (H:=H++X) h
  exact⟨nx,X,us,[],[],by simp only[ZaY,a1,Zs0,q1],q2,by simp,by simp,fun K _=>q3 K⟩
 ·obtain⟨v,v',F1,F2,rfl,r,r',_⟩:=a2.two_inv
  cases r;cases r'
  obtain⟨nx,us,q1,q2,q3⟩:=Zh3 (H:=H++X) h
  exact⟨nx,X,us,[],[],by simp only[ZaY,a1,Zs0,q1],q2,by simp,by simp,fun K _=>q3 K⟩
 ·obtain⟨v,v',v'',F1,F2,F3,rfl,r,r',r''⟩:=a2.three_inv
  cases r;cases r';cases r''
  obtain⟨nx,us,q1,q2,q3⟩:=Zh3 (H:=H++X) h
  exact⟨nx,X,us,[],[],by simp only[ZaY,a1,Zs0,q1],q2,by simp,by simp,fun K _=>q3 K⟩
 ·first|exact Zx0 h|cases h
noncomputable def ZgR(p q:PE): PG:=fun σ=>(p σ).bind fun t=>(q σ).bind fun s=>match t,s with
 | .lst ts,.lst ss=>some (List.zipWith (fun x y=>.tup [x,y]) ts ss)
 | _,_=>none
theorem RFs.zip{H:Hp}: ∀{vs us:List V} {ts ss:List T} {F G:List Nat},RFs H vs ts F→RFs H us ss G→∃D,RFs H (List.zipWith (fun x y=>.tup [x,y]) vs us) (List.zipWith (fun x y=>.tup [x,y]) ts ss) D∧∀a∈D,a∈F∨a∈G
 | _,_,_,_,_,_,.nil,_=>⟨_,.nil,by simp⟩
 | _,_,_,_,_,_,.cons _ _,.nil=>⟨_,.nil,by simp⟩
 | _,_,_,_,_,_,.cons a b,.cons a' b'=>by
  obtain⟨D,h1,h2⟩:=b.zip b'
  refine⟨_,.cons (.tup (.cons a (.one a'))) h1,fun x m=>?_⟩
  rcases Zz8.mp m with m | m
  ·rcases Zz8.mp m with m | m
   ·exact .inl (Zz4 _ m)
   ·exact .inr (Zz4 _ m)
  ·exact(h2 x m).imp (Zz3 _) (Zz3 _)
theorem Gs.zip{e1 e2:Ex}{p1 p2:PE}(x:E O N u e1 p1)(y:E O M u' e2 p2): Gs O (N++M) (ZgN e1 e2) (ZgR p1 p2):=fun c ρ σ H Φ ts s h=>by
 obtain⟨t1,h1,h⟩:=Zz0.mp h
 obtain⟨t2,h2,h⟩:=Zz0.mp h
 obtain⟨v,X,F,a1,a2,a3,a4⟩:=x c ρ σ H Φ t1 s h1
 obtain⟨w,Y,G,b1,b2,b3,b4⟩:=y c ρ σ (H++X) Φ t2 (s.ext X) h2
 have a2:=a2.ext Y
 have l1:=a2.lt
 have l2:=b2.lt
 rw[List.append_assoc]at a2 b2 l1 l2 b1
 cases a2 with
 | none=>first|exact Zx0 h|cases h
 | bool=>first|exact Zx0 h|cases h
 | int=>first|exact Zx0 h|cases h
 | str=>first|exact Zx0 h|cases h
 | obj=>first|exact Zx0 h|cases h
 | tup=>cases b2 <;> cases h
 | @ref a vs _ F' e1 hs=>
  cases b2 with
  | none=>first|exact Zx0 h|cases h
  | bool=>first|exact Zx0 h|cases h
  | int=>first|exact Zx0 h|cases h
  | str=>first|exact Zx0 h|cases h
  | obj=>first|exact Zx0 h|cases h
  | tup=>first|exact Zx0 h|cases h
  | @ref b us _ G' e2 hs2=>
   cases h
   obtain⟨D,d1,d2⟩:=hs.zip hs2
   refine⟨Ze8 a b,X++Y,_,D,a::b::D,?_,d1,fun q m=>Zy3 _ (Zz2 _ m),fun q m=>?_,fun K hK i hi=>?_⟩
   ·simp only[ZgN,a1,Zs0,b1,e1,e2,Zs1,List.length_zipWith,hs.length,hs2.length]
   ·rcases Zz7.mp m with rfl | m
    ·exact⟨l1 _ Zz5,(a3 _ Zz5).mono fun i hi=>Zy7 _ hi⟩
    ·rcases Zz7.mp m with rfl | m
     ·exact⟨l2 _ Zz5,(b3 _ Zz5).back.mono fun i hi=>List.mem_append_right _ hi⟩
     ·rcases d2 q m with m | m
      ·exact⟨l1 _ (Zz2 _ m),(a3 _ (Zz2 _ m)).mono fun i hi=>Zy7 _ hi⟩
      ·exact⟨l2 _ (Zz2 _ m),(b3 _ (Zz2 _ m)).back.mono fun i hi=>List.mem_append_right _ hi⟩
   ·simp only[Ze8,hK a Zz5,hK b (Zz2 _ Zz5),e1,e2,Zs0,List.getElem?_zipWith]
    rw[List.length_zipWith]at hi
    by_cases q:i<min vs.length us.length
    ·rw[Zy1 (show i<vs.length by omega),Zy1 (show i<us.length by omega)]
    ·have q':i=min vs.length us.length:=by omega
     by_cases q2:i<vs.length
     ·rw[Zy1 q2,Zy8 (show us.length≤i by omega)]
      simp[q']
     ·rw[Zy8 (show vs.length≤i by omega)]
      simp[q']
end
noncomputable def PutOk(O J:List Nat)(put:V→Lc→Option Lc)(q:T→TL→Option TL): Prop:=∀(c:Ctx) (ρ:Lc) (σ:TL) (H:Hp) (Φ:Nat→List Nat) (v:V) (t:T) (F:List Nat) (σ1:TL),St c O ρ σ H Φ→RF H v t F→(∀a∈F,c.H0.length≤a∨c.P a)→(∀i∈O,∀t',σ i=some t'→∀a∈Φ i,a∉F)→q t σ=some σ1 →
 ∃ρ1 Φ1,put v ρ=some ρ1∧St c O ρ1 σ1 H Φ1∧(∀i,i∉J→σ1 i=σ i∧Φ1 i=Φ i)∧∀i∈J,∀a∈Φ1 i,a∈F
noncomputable def Zr(Φ:Nat→List Nat)(j:Nat)(F:List Nat): Nat→List Nat:=fun i=>if i=j then F else Φ i
theorem St.put{c:Ctx}{O:List Nat}{ρ:Lc}{σ:TL}{H:Hp}{Φ:Nat→List Nat}{v:V}{t:T}{F:List Nat}{j:Nat}(s:St c O ρ σ H Φ)(hj:j∉O)(r:RF H v t F)(hs:∀a∈F,c.H0.length≤a∨c.P a)(ho:∀i∈O,∀t',σ i=some t'→∀a∈Φ i,a∉F): St c O (upd ρ j v) (ZC σ j t) H (Zr Φ j F):=by
 refine⟨fun i u e=>?_,fun i u e=>?_,fun i hi u e=>?_,s.len,s.keep,s.pos,s.f0⟩
 ·by_cases q:i=j
  ·subst q
   simp[ZC]at e
   subst e
   exact⟨v,by simp[upd],by simpa [Zr]using r⟩
  ·simp[ZC,q]at e
   simpa [upd,Zr,q]using s.slot i u e
 ·by_cases q:i=j
  ·subst q;simpa [Zr]using hs
  ·simp[ZC,q]at e
   simpa [Zr,q]using s.src i u e
 ·have q:i≠j:=fun q=>hj (q▸hi)
  simp[ZC,q]at e
  obtain⟨h1,h2,h3⟩:=s.own i hi u e
  refine⟨by simpa [Zr,q]using h1,by simpa [Zr,q]using h2,fun k w hk ek=>?_⟩
  by_cases q2:k=j
  ·subst q2
   simpa [Zr,q]using ho i hi u e
  ·simp[ZC,q2]at ek
   simpa [Zr,q,q2]using h3 k w hk ek
noncomputable def ZaJ(j:Nat): T→TL→Option TL:=fun t σ=>some (ZC σ j t)
noncomputable def ZgC(i j:Nat): T→TL→Option TL
 | .tup [a,b],σ=>some (ZC (ZC σ i a) j b)
 | _,_=>none
theorem PutOk.one{O:List Nat}{j:Nat}(hj:j∉O:=by decide): PutOk O [j] (ZK j) (ZaJ j):=fun c ρ σ H Φ v t F σ1 s r hs ho h=>by
 cases h
 refine⟨_,_,rfl,s.put hj r hs ho,fun i hi=>?_,fun i hi a m=>?_⟩
 ·have:i≠j:=fun q=>hi (by simp[q])
  simp[ZC,Zr,this]
 ·simp at hi;subst hi;simpa [Zr]using m
theorem PutOk.two{O:List Nat}{i j:Nat}(hi:i∉O:=by decide)(hj:j∉O:=by decide)(hij:i≠j:=by decide): PutOk O [i,j] (ZdL i j) (ZgC i j):=fun c ρ σ H Φ v t F σ1 s r hs ho h=>by
 unfold ZgC at h
 split at h
 ·first|exact Zx0 h|cases h
  cases r with
  | tup hh=>
   obtain⟨v1,v2,F1,F2,rfl,r1,r2,rfl⟩:=hh.two_inv
   have s1:=s.put hi r1 (fun a m=>hs a (Zz4 _ m)) (fun k hk t' e a m q=>ho k hk t' e a m (Zz4 _ q))
   have s2:=s1.put hj r2 (fun a m=>hs a (Zz3 _ m)) (fun k hk t' e a m q=>by
    have:k≠i:=fun q=>hi (q▸hk)
    simp[ZC,Zr,this]at e m
    exact ho k hk t' e a m (Zz3 _ q))
   refine⟨_,_,rfl,s2,fun k hk=>?_,fun k hk a m=>?_⟩
   ·simp at hk
    simp[ZC,Zr,hk.1,hk.2]
   ·simp at hk
    rcases hk with rfl | rfl
    ·simp[Zr,hij]at m
     exact Zz4 _ m
    ·simp[Zr]at m
     exact Zz3 _ m
 ·first|exact Zx0 h|cases h
noncomputable def Zc8(put:T→TL→Option TL)(c:PB)(f:PE)(σ:TL): List T→Option (List T)
 | []=>some []
 | t::ts=>(put t σ).bind fun σ1=>(c σ1).bind fun b=>if b then(f σ1).bind fun x=>(Zc8 put c f σ ts).map fun xs=>x::xs else Zc8 put c f σ ts
noncomputable def Zbk(g:PG)(put:T→TL→Option TL)(c:PB)(f:PE): PE:=fun σ=>(g σ).bind fun ts=>if ts.length≤ZM then(Zc8 put c f σ ts).map .lst else none
section
variable {O Ns Ne J:List Nat} {u:Bool}
theorem comp_core{put:V→Lc→Option Lc}{pput:T→TL→Option TL}{tc:Ts}{pc:PB}{f:Ex}{pf:PE}(hj:PutOk O J put pput)(hN:∀i∈Ns,i∉O)(hc:Bt O tc pc)(hf:E O Ne u f pf)(hu:u=true→Ne=[])
  {c:Ctx} {ρ:Lc} {σ:TL} {Φ:Nat→List Nat} {H0 H1:Hp} {nx:Nx} {vs:List V} {G:List Nat} (h0:H0.length≤H1.length)
  (hG:∀a∈G,a<H1.length∧From H0 Ns σ Φ a) (hoff:∀a∈G,∀i∈O,∀t,σ i=some t→a∉Φ i) (hsrc:∀a∈G,c.H0.length≤a∨c.P a) (hnx:∀K:Hp,(∀a∈G,K[a]?=H1[a]?)→∀i,i≤vs.length→nx i K=some vs[i]?):
  ∀(rs:List T) (ws:List V) (i:Nat) (acc:List V) (K:Hp) (Fr:List Nat) (out:List T),(∀j,vs[i+j]?=ws[j]?)→i+ws.length=vs.length→St c O ρ σ K Φ→H1.length≤K.length→(∀a∈G,K[a]?=H1[a]?)→RFs K ws rs Fr→(∀a∈Fr,a∈G)→acc.length+rs.length≤ZM→Zc8 pput pc pf σ rs=some out →
   ∃xs X F,ZaB nx put tc f ρ (rs.length+1) i acc K=some (acc++xs,K++X)∧RFs (K++X) xs out F∧(∀a∈F,(u=true→K.length≤a)∧From H0 (Ns++Ne) σ Φ a)∧(u=true→F.Nodup)
 | [],ws,i,acc,K,Fr,out,hat,hlen,s,hl,hk,r,hfr,hacc,h=>by
  cases r
  cases h
  have e:=hnx K hk i (by simp at hlen;omega)
  have e2:vs[i]?=none:=by have:=hat 0;simpa using this
  refine⟨[],[],[],?_,.nil,by simp,by simp⟩
  simp[ZaB,e,e2]
 | t::rs,ws0,i,acc,K,Fr0,out,hat,hlen,s,hl,hk,r,hfr,hacc,h=>by
  cases r with
  | @cons v _ F1 ws _ F2 a b=>
  simp only[List.length_cons]at hlen hacc
  obtain⟨σ1,h1,h⟩:=Zz0.mp h
  obtain⟨bb,h2,h⟩:=Zz0.mp h
  have e:=hnx K hk i (by omega)
  have e2:vs[i]?=some v:=by have:=hat 0;simpa using this
  have hat':∀j,vs[i+1+j]?=ws[j]?:=fun j=>by have:=hat (j+1);rw[show i+1+j=i+(j+1)by omega,this];simp
  obtain⟨ρ1,Φ1,p1,s1,p3,p4⟩:=hj c ρ σ K Φ v t F1 σ1 s a (fun x m=>hsrc x (hfr x (Zz4 _ m))) (fun k hk t' e x m q=>hoff x (hfr x (Zz4 _ q)) k hk t' e m) h1
  obtain⟨X1,c1⟩:=hc c ρ1 σ1 K Φ1 bb s1 h2
  cases bb with
  | true=>
   obtain⟨y,h3,h⟩:=Zz0.mp h
   obtain⟨ys,h4,h⟩:=Zz1.mp h
   subst h
   obtain⟨w,X2,Fw,d1,d2,d3,d4⟩:=hf c ρ1 σ1 (K++X1) Φ1 y (s1.ext X1) h3
   have hext:∀a∈G,(K++X1++X2)[a]?=H1[a]?:=fun a m=>by
    have:=(hG a m).1
    rw[List.append_assoc,Zy0 (by omega)];exact hk a m
   obtain⟨xs,X3,F3,f1,f2,f3,f4⟩:=comp_core hj hN hc hf hu h0 hG hoff hsrc hnx rs ws (i+1) (acc++[w]) (K++X1++X2) F2 ys hat' (by omega) ((s.ext X1).ext X2) (by simp;omega) hext (by rw[List.append_assoc];exact b.ext _) (fun x m=>hfr x (Zz3 _ m)) (by simp;omega) h4
   refine⟨w::xs,X1++X2++X3,Fw++F3,?_,?_,fun x m=>?_,fun hu'=>?_⟩
   ·rw[List.length_cons,ZaB,e,e2]
    simp only[Zs0,p1,c1,d1,if_true]
    rw[if_pos (by omega)]
    simpa using f1
   ·have:=RFs.cons (d2.ext X3) f2
    simpa using this
   ·rcases Zz8.mp m with m | m
    ·refine⟨fun hu'=>?_,?_⟩
     ·have hne:=hu hu'
      subst hne
      have:=(d3 x m).nil
      simp at this;omega
     ·rcases d3 x m with q | ⟨k,hk1,⟨tk,ek⟩,mk⟩
      ·exact .inl (by simp at q;omega)
      ·by_cases hkJ:k∈J
       ·exact(hG x (hfr x (Zz4 _ (p4 k hkJ x mk)))).2.mono fun i hi=>Zy7 _ hi
       ·obtain⟨q1,q2⟩:=p3 k hkJ
        exact .inr ⟨k,List.mem_append_right _ hk1,⟨tk,q1▸ek⟩,q2▸mk⟩
    ·obtain⟨g1,g2⟩:=f3 x m
     exact⟨fun hu'=>by have:=g1 hu';simp at this;omega,g2⟩
   ·rw[List.nodup_append]
    refine⟨d4 hu',f4 hu',fun x hx y hy e=>?_⟩
    have l1:=d2.lt x hx
    have l2:=(f3 y hy).1 hu'
    omega
  | false=>
   have hext:∀a∈G,(K++X1)[a]?=H1[a]?:=fun a m=>by
    have:=(hG a m).1
    rw[Zy0 (by omega)];exact hk a m
   obtain⟨xs,X3,F3,f1,f2,f3,f4⟩:=comp_core hj hN hc hf hu h0 hG hoff hsrc hnx rs ws (i+1) acc (K++X1) F2 out hat' (by omega) (s.ext X1) (by simp;omega) hext (b.ext _) (fun x m=>hfr x (Zz3 _ m)) (by omega) (by simpa using h)
   refine⟨xs,X1++X3,F3,?_,by simpa using f2,fun x m=>?_,f4⟩
   ·rw[List.length_cons,ZaB,e,e2]
    simp only[Zs0,p1,c1]
    simpa using f1
   ·obtain⟨g1,g2⟩:=f3 x m
    exact⟨fun hu'=>by have:=g1 hu';simp at this;omega,g2⟩
theorem E.comp{g:Src}{q:PG}{put:V→Lc→Option Lc}{pput:T→TL→Option TL}{tc:Ts}{pc:PB}{f:Ex}{pf:PE}(hg:Gs O Ns g q)(hj:PutOk O J put pput)(hN:∀i∈Ns,i∉O)(hc:Bt O tc pc)(hf:E O Ne u f pf)(hu:u=true→Ne=[]): E O (if u then []else Ns++Ne) u (Zao g put tc f) (Zbk q pput pc pf):=fun c ρ σ H Φ t s h=>by
 obtain⟨ts,h1,h⟩:=Zz0.mp h
 split at h
 ·rename_i hl
  obtain⟨out,h2,h⟩:=Zz1.mp h
  subst h
  obtain⟨nx,X,vs,F,G,g1,g2,g3,g4,g5⟩:=hg c ρ σ H Φ ts s h1
  obtain⟨xs,Y,F',d1,d2,d3,d4⟩:=comp_core hj hN hc hf hu (H0:=H) (H1:=H++X) (by simp) g4 (fun a m i hi t e=>s.from_off hN (g4 a m).2 hi e) (fun a m=>s.from_src (g4 a m).2) g5 ts vs 0 [] (H++X) F out (by simp) (by simp) (s.ext X) (Zz10 _) (fun _ _=>rfl) g2 g3 (by simpa using hl) h2
  refine⟨.ref (H++X++Y).length,X++Y++[xs],(H++X++Y).length::F',?_,?_,fun a m=>?_,fun hu'=>?_⟩
  ·simp only[Zao,g1,Zs0,d1,Zs1,List.nil_append,List.append_assoc]
  ·have:=Zdg d2
   simpa using this
  ·rcases Zz7.mp m with rfl | m
   ·exact .inl (by simp)
   ·obtain⟨q1,q2⟩:=d3 a m
    cases u with
    | true=>exact .inl (by have:=q1 rfl;simp at this;omega)
    | false=>exact q2
  ·rw[List.nodup_cons]
   exact⟨fun m=>Nat.lt_irrefl _ (d2.lt _ m),d4 hu'⟩
 ·first|exact Zx0 h|cases h
end
end TM
end
section
namespace TM
open PySem PM
noncomputable abbrev PS:=TL→Option (Option T×TL)
noncomputable def ZbX(σ:TL)(N:List Nat): TL:=fun j=>if j∈N then none else σ j
noncomputable def Held(O:List Nat)(σ:TL)(Φ:Nat→List Nat)(a:Nat): Prop:=∃j∈O,(∃t,σ j=some t)∧a∈Φ j
noncomputable def Aft(c:Ctx)(O O' R:List Nat)(fr:Bool)(σ:TL)(H:Hp)(Φ:Nat→List Nat)(g:Option (Option V×Lc×Hp))(r:Option T×TL): Prop:=
 ∃ρ' H' Φ',H.length≤H'.length∧(∀a,a<H.length→¬Held O σ Φ a→H'[a]?=H[a]?) ∧
  ((r.1=none∧g=some (none,ρ',H')∧St c O' ρ' r.2 H' Φ'∧∀a,Held O' r.2 Φ' a→H.length≤a∨Held O σ Φ a) ∨
  ∃t v F,r.1=some t∧g=some (some v,ρ',H')∧RF H' v t F∧St c R ρ' r.2 H' Φ'∧(∀a∈F,c.H0.length≤a∨c.P a)∧(fr=true→F.Nodup∧∀a∈F,c.H0.length≤a∨a∈c.F0))
noncomputable def S(O O' R:List Nat)(fr:Bool)(g:Sm)(q:PS): Prop:=∀(c:Ctx) (ρ:Lc) (σ:TL) (H:Hp) (Φ:Nat→List Nat) (r:Option T×TL),St c O ρ σ H Φ→q σ=some r→Aft c O O' R fr σ H Φ (g ρ H) r
theorem Held.mono{O O':List Nat}{σ:TL}{Φ:Nat→List Nat}{a:Nat}(h:Held O σ Φ a)(s:∀i∈O,i∈O'): Held O' σ Φ a:=by
 obtain⟨j,hj,q⟩:=h;exact⟨j,s j hj,q⟩
theorem Held.lt{c:Ctx}{O O':List Nat}{ρ:Lc}{σ:TL}{H:Hp}{Φ:Nat→List Nat}{a:Nat}(s:St c O ρ σ H Φ)(h:Held O' σ Φ a): a<H.length:=by
 obtain⟨j,hj,⟨t,e⟩,m⟩:=h
 obtain⟨v,_,r⟩:=s.slot j t e
 exact r.lt a m
section
variable {O O' R:List Nat} {fr:Bool}
noncomputable def Zam: PS:=fun σ=>some (none,σ)
theorem ZbH: S O O R fr ZV Zam:=fun c ρ σ H Φ r s e=>by
 cases e
 exact⟨ρ,H,Φ,Nat.le_refl _,fun _ _ _=>rfl,.inl ⟨rfl,rfl,s,fun a m=>.inr m⟩⟩
noncomputable def ZB(a b:PS): PS:=fun σ=>(a σ).bind fun r=>match r.1 with
 | some _=>some r
 | none=>b r.2
theorem Zbl{O1:List Nat}{a b:Sm}{p q:PS}(x:S O O1 R fr a p)(y:S O1 O' R fr b q): S O O' R fr (Zp a b) (ZB p q):=fun c ρ σ H Φ r s e=>by
 obtain⟨r1,e1,e⟩:=Zz0.mp e
 obtain⟨ρ1,H1,Φ1,h1,h2,h3⟩:=x c ρ σ H Φ r1 s e1
 rcases h3 with⟨k1,k2,k3,k4⟩ | ⟨t,v,F,k1,k2,k3⟩
 ·rw[k1]at e
  obtain⟨ρ2,H2,Φ2,g1,g2,g3⟩:=y c ρ1 r1.2 H1 Φ1 r k3 e
  refine⟨ρ2,H2,Φ2,Nat.le_trans h1 g1,fun a ha hn=>?_,?_⟩
  ·rw[g2 a (by omega) fun q=>(k4 a q).elim (fun q=>by omega) hn,h2 a ha hn]
  ·have eg:Zp a b ρ H=b ρ1 H1:=by simp only[Zp,k2,Zs0]
   rw[eg]
   rcases g3 with⟨l1,l2,l3,l4⟩ | l
   ·refine .inl ⟨l1,l2,l3,fun a m=>?_⟩
    rcases l4 a m with q | q
    ·exact .inl (by omega)
    ·exact k4 a q
   ·exact .inr l
 ·rw[k1]at e
  cases e
  exact⟨ρ1,H1,Φ1,h1,h2,.inr ⟨t,v,F,k1,by simp only[Zp,k2,Zs0],k3⟩⟩
noncomputable def Zar(p:PE): PS:=fun σ=>(p σ).map fun t=>(some t,σ)
theorem ZbY{N:List Nat}{u:Bool}{e:Ex}{p:PE}(x:E O N u e p)(hR:∀i∈R,i∈O:=by decide): S O O' R false (Zw e) (Zar p):=fun c ρ σ H Φ r s q=>by
 obtain⟨t,h1,h⟩:=Zz1.mp q
 subst h
 obtain⟨v,X,F,a1,a2,a3,a4⟩:=x c ρ σ H Φ t s h1
 refine⟨ρ,H++X,Φ,by simp,fun a ha _=>Zy0 ha,.inr ⟨t,v,F,rfl,by simp only[Zw,a1,Zs1],a2,(s.ext X).less hR,fun a m=>s.from_src (a3 a m),by simp⟩⟩
theorem Zb7{N:List Nat}{e:Ex}{p:PE}(x:E O N true e p)(hN:∀i∈N,i∈O:=by decide)(hR:∀i∈R,i∈O:=by decide): S O O' R fr (Zw e) (Zar p):=fun c ρ σ H Φ r s q=>by
 obtain⟨t,h1,h⟩:=Zz1.mp q
 subst h
 obtain⟨v,X,F,a1,a2,a3,a4⟩:=x c ρ σ H Φ t s h1
 refine⟨ρ,H++X,Φ,by simp,fun a ha _=>Zy0 ha,.inr ⟨t,v,F,rfl,by simp only[Zw,a1,Zs1],a2,(s.ext X).less hR,fun a m=>s.from_src (a3 a m),fun _=>⟨a4 rfl,fun a m=>?_⟩⟩⟩
 rcases a3 a m with q | ⟨i,hi,⟨t',e'⟩,m'⟩
 ·exact .inl (Nat.le_trans s.len q)
 ·exact(s.own i (hN i hi) t' e').2.1 a m'
noncomputable def ZbL(i:Nat)(p:PE): PS:=fun σ=>(p σ).map fun t=>(none,ZC σ i t)
theorem ZiX{N:List Nat}{u:Bool}{i:Nat}{e:Ex}{p:PE}(x:E O N u e p)(hi:i∉O':=by decide)(hN:∀j∈N,j∉O':=by decide)(hO:∀j∈O',j∈O:=by decide): S O O' R fr (Zu i e) (ZbL i p):=fun c ρ σ H Φ r s q=>by
 obtain⟨t,h1,h⟩:=Zz1.mp q
 subst h
 obtain⟨v,X,F,a1,a2,a3,a4⟩:=x c ρ σ H Φ t s h1
 have s':=s.less hO
 refine⟨upd ρ i v,H++X,Zr Φ i F,by simp,fun a ha _=>Zy0 ha,.inl ⟨rfl,by simp only[Zu,a1,Zs1],(s'.ext X).put hi a2 (fun a m=>s.from_src (a3 a m)) (fun k hk t' e' a m q=>?_),fun a m=>?_⟩⟩
 ·exact s'.from_off hN (a3 a q) hk e' m
 ·obtain⟨k,hk,⟨t',e'⟩,m⟩:=m
  have:k≠i:=fun q=>hi (q▸hk)
  simp[ZC,this]at e'
  simp[Zr,this]at m
  exact .inr ⟨k,hO k hk,⟨t',e'⟩,m⟩
noncomputable def qIf(b:PB)(p q:PS): PS:=fun σ=>(b σ).bind fun x=>if x then p σ else q σ
theorem Aft.grow{c:Ctx}{σ:TL}{H X:Hp}{Φ:Nat→List Nat}{g:Option (Option V×Lc×Hp)}{r:Option T×TL}(h:Aft c O O' R fr σ (H++X) Φ g r): Aft c O O' R fr σ H Φ g r:=by
 obtain⟨ρ',H',Φ',h1,h2,h3⟩:=h
 rw[List.length_append]at h1
 refine⟨ρ',H',Φ',by omega,fun a ha hn=>?_,?_⟩
 ·rw[h2 a (by rw[List.length_append];omega) hn,Zy0 ha]
 ·rcases h3 with⟨k1,k2,k3,k4⟩ | k
  ·exact .inl ⟨k1,k2,k3,fun a m=>(k4 a m).imp (fun q=>by rw[List.length_append]at q;omega) id⟩
  ·exact .inr k
theorem ZbI{t:Ts}{pb:PB}{a b:Sm}{p q:PS}(z:Bt O t pb)(x:S O O' R fr a p)(y:S O O' R fr b q): S O O' R fr (ZE t a b) (qIf pb p q):=fun c ρ σ H Φ r s e=>by
 obtain⟨bb,e1,e⟩:=Zz0.mp e
 obtain⟨X,h1⟩:=z c ρ σ H Φ bb s e1
 cases bb with
 | true=>
  have:=x c ρ σ (H++X) Φ r (s.ext X) (by simpa using e)
  have eg:ZE t a b ρ H=a ρ (H++X):=by simp[ZE,h1]
  rw[eg]
  exact this.grow
 | false=>
  have:=y c ρ σ (H++X) Φ r (s.ext X) (by simpa using e)
  have eg:ZE t a b ρ H=b ρ (H++X):=by simp[ZE,h1]
  rw[eg]
  exact this.grow
noncomputable def sNo: Sm:=fun _ _=>none
noncomputable def follow(H:Hp): List Int→V→Option V
 | [],v=>some v
 | k::ks,v=>(Zl v (.int k) H).bind fun q=>follow H ks q.1
theorem Lead.follow{H:Hp}{ks:List Int}{v:V}{a:Nat}(l:Lead H ks v a): follow H ks v=some (.ref a):=by
 induction l with
 | nil=>rfl
 | ref h1 h2 h3 _ ih=>simp only[TM.follow,Zl,h1,Zs0,h2,h3,Zs1,ih]
 | tup h2 h3 _ ih=>simp only[TM.follow,Zl,Zs0,h2,h3,Zs1,ih]
theorem ZhQ{H:Hp}{v w z:V}{K:Hp}(h:Zl v z H=some (w,K))(X:Hp): K=H∧Zl v z (H++X)=some (w,H++X):=by
 unfold Zl at h
 split at h
 ·obtain⟨vs,e1,h⟩:=Zz0.mp h
  obtain⟨j,e2,h⟩:=Zz0.mp h
  obtain⟨x,e3,h⟩:=Zz1.mp h
  cases h
  exact⟨rfl,by simp only[Zl,Zy0 (Zz6.mp e1).1,e1,Zs0,e2,e3,Zs1]⟩
 ·obtain⟨j,e2,h⟩:=Zz0.mp h
  obtain⟨x,e3,h⟩:=Zz1.mp h
  cases h
  exact⟨rfl,by simp only[Zl,Zs0,e2,e3,Zs1]⟩
 ·first|exact Zx0 h|cases h
noncomputable abbrev PPa:=TL→Option (List Int)
noncomputable def ZbJ: PPa:=fun _=>some []
noncomputable def Pa(O:List Nat)(x:Nat)(e:Ex)(p:PPa): Prop:=∀(c:Ctx) (ρ:Lc) (σ:TL) (H:Hp) (Φ:Nat→List Nat) (ks:List Int) (v w:V),St c O ρ σ H Φ→p σ=some ks→ρ x=some v→follow H ks v=some w→∃X,e ρ H=some (w,H++X)
theorem ZkY{x:Nat}: Pa O x (Za x) ZbJ:=fun c ρ σ H Φ ks v w s h e f=>by
 cases h;cases f
 exact⟨[],by simp[Za,e]⟩
theorem ZoX{c:Ctx}{ρ:Lc}{σ:TL}{H:Hp}{Φ:Nat→List Nat}{N:List Nat}{x a b:Nat}{t t':T}{v:V}{Fw F':List Nat}{vs':List V}(s:St c O ρ σ H Φ)(hx:x∈O)(ex:σ x=some t)(ev:ρ x=some v)(hb:c.H0.length≤b)(hlow:∀k t,σ k=some t→∀a∈Φ k,a<b)
  (hFw:∀a∈Fw,b≤a∨∃j∈N,(∃t,σ j=some t)∧a∈Φ j) (hN:∀j∈N,j∈O∧j≠x) (ha:a∈Φ x) (r:RF (H.set a vs') v t' F') (nd:F'.Nodup) (sub:∀y∈F',y∈Φ x∨y∈Fw) (hO:∀j∈O',j∈O∧j∉N):
  St c O' ρ (ZbX (ZC σ x t') N) (H.set a vs') (Zr Φ x F')∧(∀y,Held O' (ZbX (ZC σ x t') N) (Zr Φ x F') y→b≤y∨Held O σ Φ y):=by
 obtain⟨o1,o2,o3⟩:=s.own x hx t ex
 have old:∀k u,k≠x→ZbX (ZC σ x t') N k=some u→σ k=some u∧k∉N:=fun k u hk e=>by
  unfold ZbX at e
  split at e
  ·first|exact Zx0 e|cases e
  ·rename_i hn
   simp[ZC,hk]at e
   exact⟨e,hn⟩
 have self:∀u,ZbX (ZC σ x t') N x=some u→u=t':=fun u e=>by
  unfold ZbX at e
  split at e
  ·first|exact Zx0 e|cases e
  ·simp[ZC]at e;exact e.symm
 have foff:∀y∈F',∀k u,k≠x→σ k=some u→k∉N→y∉Φ k:=fun y hy k u hk e hkn m=>by
  rcases sub y hy with q | q
  ·exact o3 k u hk e y q m
  ·rcases hFw y q with q | ⟨j,hj,⟨tj,ej⟩,mj⟩
   ·have:=hlow k u e y m;omega
   ·exact(s.own j (hN j hj).1 tj ej).2.2 k u (fun q=>hkn (q▸hj)) e y mj m
 refine⟨⟨fun k u e=>?_,fun k u e=>?_,fun k hk u e=>?_,by simpa using s.len,fun y hy hn=>?_,s.pos,s.f0⟩,fun y hy=>?_⟩
 ·by_cases q:k=x
  ·subst q
   have:=self u e
   subst this
   exact⟨v,ev,by simpa [Zr]using r⟩
  ·obtain⟨e1,e2⟩:=old k u q e
   obtain⟨w,h1,h2⟩:=s.slot k u e1
   refine⟨w,h1,?_⟩
   simp only[Zr,q,if_false]
   refine h2.frame fun y hy=>Zy2 fun q'=>?_
   exact o3 k u q e1 a ha (q'▸hy)
 ·by_cases q:k=x
  ·subst q
   simp only[Zr,if_true]
   intro y hy
   rcases sub y hy with q | q
   ·exact s.src k t ex y q
   ·rcases hFw y q with q | ⟨j,hj,⟨tj,ej⟩,mj⟩
    ·exact .inl (by omega)
    ·exact s.src j tj ej y mj
  ·obtain⟨e1,e2⟩:=old k u q e
   simpa [Zr,q]using s.src k u e1
 ·by_cases q:k=x
  ·subst q
   simp only[Zr,if_true]
   refine⟨nd,fun y hy=>?_,fun j w hj ej y hy=>?_⟩
   ·rcases sub y hy with q | q
    ·exact o2 y q
    ·rcases hFw y q with q | ⟨j,hj,⟨tj,ej⟩,mj⟩
     ·exact .inl (by omega)
     ·exact(s.own j (hN j hj).1 tj ej).2.1 y mj
   ·obtain⟨e1,e2⟩:=old j w hj ej
    simpa [hj]using foff y hy j w hj e1 e2
  ·obtain⟨e1,e2⟩:=old k u q e
   obtain⟨p1,p2,p3⟩:=s.own k (hO k hk).1 u e1
   simp only[Zr,q,if_false]
   refine⟨p1,p2,fun j w hj ej y hy=>?_⟩
   by_cases q2:j=x
   ·subst q2
    simp only[if_true]
    exact fun m=>foff y m k u q e1 e2 hy
   ·obtain⟨f1,f2⟩:=old j w q2 ej
    simpa [q2]using p3 j w hj f1 y hy
 ·have:a≠y:=fun q=>by
   subst q
   rcases o2 a ha with q | q
   ·omega
   ·exact hn q
  rw[Zy2 this]
  exact s.keep y hy hn
 ·obtain⟨k,hk,⟨u,e⟩,m⟩:=hy
  by_cases q:k=x
  ·subst q
   simp only[Zr,if_true]at m
   rcases sub y m with q | q
   ·exact .inr ⟨k,hx,⟨t,ex⟩,q⟩
   ·rcases hFw y q with q | ⟨j,hj,q⟩
    ·exact .inl q
    ·exact .inr ⟨j,(hN j hj).1,q⟩
  ·obtain⟨e1,e2⟩:=old k u q e
   simp only[Zr,q,if_false]at m
   exact .inr ⟨k,(hO k hk).1,⟨u,e1⟩,m⟩
theorem ZnT{c:Ctx}{ρ:Lc}{σ:TL}{H:Hp}{Φ:Nat→List Nat}{x a:Nat}{t:T}(s:St c O ρ σ H Φ)(hx:x∈O)(ex:σ x=some t)(ha:a∈Φ x): a≠0:=by
 have:=s.pos
 rcases(s.own x hx t ex).2.1 a ha with q | q
 ·omega
 ·exact fun e=>s.f0 (e▸q)
noncomputable def Zej(w:T)(ts:List T): Option (List T):=if ts.length<ZM then some (ts++[w])else none
noncomputable def Zi9(k:Int)(w:T)(ts:List T): Option (List T):=if 0≤k∧k<ts.length then some (ts.set k.toNat w)else none
noncomputable def Zek(x:Nat)(N:List Nat)(po:PPa)(p:PE): PS:=fun σ=>(po σ).bind fun ks=>(p σ).bind fun w=>(σ x).bind fun t=>(Zfm (Zej w) ks t).map fun t'=>(none,ZbX (ZC σ x t') N)
theorem ZhH{H:Hp}(X:Hp): ∀{ks:List Int} {v w:V},follow H ks v=some w→follow (H++X) ks v=some w
 | [],_,_,h=>h
 | k::ks,v,w,h=>by
  obtain⟨⟨w1,K⟩,h1,h2⟩:=Zz0.mp h
  simp only[follow,(ZhQ h1 X).2,Zs0]
  exact ZhH X h2
theorem S.app{x:Nat}{N:List Nat}{o e:Ex}{po:PPa}{p:PE}(hx:x∈O)(y:Pa O x o po)(z:E O N true e p)(hN:∀j∈N,j∈O∧j≠x)(hO:∀j∈O',j∈O∧j∉N): S O O' R fr (ZP (Zau o e)) (Zek x N po p):=fun c ρ σ H Φ r s q=>by
 obtain⟨ks,h1,q⟩:=Zz0.mp q
 obtain⟨w,h2,q⟩:=Zz0.mp q
 obtain⟨t,h3,q⟩:=Zz0.mp q
 obtain⟨t',h4,q⟩:=Zz1.mp q
 subst q
 obtain⟨v,ev,rv⟩:=s.slot x t h3
 have hlow:∀k t,σ k=some t→∀a∈Φ k,a<H.length:=fun k t e a m=>by
  obtain⟨_,_,r⟩:=s.slot k t e
  exact r.lt a m
 obtain⟨o1,o2,o3⟩:=s.own x hx t h3
 obtain⟨a,vs0,ts0,ts0',G0,l0,_⟩:=Zgl (Gn:=[]) ks rv o1 (by simp) h4
 obtain⟨X,a1⟩:=y c ρ σ H Φ ks v (.ref a) s h1 ev l0.follow
 obtain⟨vw,Y,Fw,b1,b2,b3,b4⟩:=z c ρ σ (H++X) Φ w (s.ext X) h2
 have s2:=(s.ext X).ext Y
 have rv2:RF (H++X++Y) v t (Φ x):=(rv.ext X).ext Y
 have hFw:∀a∈Fw,H.length≤a∨∃j∈N,(∃t,σ j=some t)∧a∈Φ j:=fun a m=>(b3 a m).back
 have dsj:∀a∈Fw,a∉Φ x:=fun a m q=>by
  rcases hFw a m with h | ⟨j,hj,⟨tj,ej⟩,mj⟩
  ·have:=hlow x t h3 a q;omega
  ·exact o3 j tj (hN j hj).2 ej a q mj
 obtain⟨a',vs,ts,ts',G,l,am,ea,hs,hf,gn,na,gs,go⟩:=Zgl (Gn:=Fw) ks rv2 o1 dsj h4
 have haa:a'=a:=by
  have f2:=ZhH Y (ZhH X l0.follow)
  rw[l.follow]at f2
  cases f2
  rfl
 subst haa
 unfold Zej at hf
 split at hf
 ·rename_i hl
  cases hf
  obtain⟨F',r',n',sub'⟩:=go (vs++[vw]) (G++Fw) (hs.snoc b2) (by
   rw[List.nodup_append]
   exact⟨gn,b4 rfl,fun y hy z hz e=>dsj z hz (e▸gs y hy)⟩) (fun m=>(Zz8.mp m).elim na fun m=>dsj _ m am) (fun y m=>List.mem_append.mp m)
  obtain⟨st,com⟩:=ZoX (O':=O') (b:=H.length) s2 hx h3 ev s.len hlow hFw hN am r' n' sub' hO
  refine⟨ρ,(H++X++Y).set a' (vs++[vw]),Zr Φ x F',by simp,fun y hy hn=>?_,.inl ⟨rfl,?_,st,com⟩⟩
  ·have:a'≠y:=fun q=>hn ⟨x,hx,⟨t,h3⟩,q▸am⟩
   rw[Zy2 this,List.append_assoc,Zy0 hy]
  ·simp only[ZP,Zau,a1,Zs0,b1,Zb3,ea]
   rw[if_pos ⟨ZnT s hx h3 am,by rw[hs.length];exact hl⟩]
   rfl
 ·first|exact Zx0 hf|cases hf
noncomputable def Zcc(put:T→TL→Option TL)(b:PS): TL→List T→Option (Option T×TL)
 | σ,[]=>some (none,σ)
 | σ,t::ts=>(put t σ).bind fun σ1=>(b σ1).bind fun r=>match r.1 with
  | some _=>some r
  | none=>Zcc put b r.2 ts
noncomputable def ZcT(g:PG)(put:T→TL→Option TL)(b:PS): PS:=fun σ=>(g σ).bind fun ts=>Zcc put b σ ts
noncomputable def ZoY(t:PB)(b:PS): Nat→PS
 | 0=>fun _=>none
 | n+1=>fun σ=>(t σ).bind fun p=>if p then(b σ).bind fun q=>(match q.1 with
   | some _=>some q
   | none=>ZoY t b n q.2)else some (none,σ)
end
noncomputable def ZaV(n:Nat)(q:PS): List T→Option T:=fun ts=>if ts.length=n then(q fun i=>ts[i]?).map fun r=>r.1.getD .none else none
theorem RFs.slots{H:Hp}: ∀{vs:List V} {ts:List T} {F:List Nat},RFs H vs ts F→∃Φ:Nat→List Nat,∀i t,ts[i]?=some t→∃v,vs[i]?=some v∧RF H v t (Φ i)∧∀a∈Φ i,a∈F
 | _,_,_,.nil=>⟨fun _=>[],fun i t e=>by simp at e⟩
 | _,_,_,.cons (F:=F1) a b=>by
  obtain⟨Φ,h⟩:=b.slots
  refine⟨fun i=>match i with | 0=>F1 | i+1=>Φ i,fun i t e=>?_⟩
  cases i with
  | zero=>simp at e;subst e;exact⟨_,by simp,a,fun x m=>Zy7 _ m⟩
  | succ i=>
   simp at e
   obtain⟨v,h1,h2,h3⟩:=h i t e
   exact⟨v,by simpa using h1,h2,fun x m=>List.mem_append_right _ (h3 x m)⟩
theorem ZhI{H H':Hp}(hl:H.length≤H'.length)(h:∀a,a<H.length→H'[a]?=H[a]?): H'=H++H'.drop H.length:=by
 conv=>lhs;rw[←List.take_append_drop H.length H']
 congr 1
 refine List.ext_getElem? fun i=>?_
 by_cases q:i<H.length
 ·rw[List.getElem?_take_of_lt q,h i q]
 ·rw[Zy8 (by simp;omega),Zy8 (by omega)]
theorem SimF.of{O':List Nat}{fr:Bool}{n:Nat}{g:Sm}{q:PS}(h:S [] O' [] fr g q): SimF fr (ZG n g) (ZaV n q):=fun H vs ts t F1 hp r e=>by
 unfold ZaV at e
 split at e
 ·rename_i hl
  obtain⟨r1,e1,e2⟩:=Zz1.mp e
  obtain⟨Φ,hΦ⟩:=r.slots
  have st:St ⟨H,[],fun a=>a∈F1⟩ [] (fun i=>vs[i]?) (fun i=>ts[i]?) H Φ:=
   ⟨(fun i t e=>by obtain⟨v,h1,h2,_⟩:=hΦ i t e;exact⟨v,h1,h2⟩),fun i t e a m=>(by obtain⟨v,h1,h2,h3⟩:=hΦ i t e;exact .inr (h3 a m)),(fun i hi=>nomatch hi),Nat.le_refl _,fun a _ _=>rfl,hp,by simp⟩
  obtain⟨ρ',H',Φ',h1,h2,h3⟩:=h _ _ _ _ _ _ st e1
  rcases h3 with⟨k1,k2,k3,k4⟩ | ⟨t',v',F',k1,k2,k3,k4,k5,k6⟩
  ·have eh:=ZhI k3.len fun a ha=>k3.keep a ha (by simp)
   refine⟨.none,H'.drop H.length,[],?_,?_,by simp,by simp⟩
   ·have hv:vs.length=n:=r.length.trans hl
    simp only[ZG,hv,if_true,k2,Zs1,Option.getD_none]
    rw[←eh]
   ·rw[k1]at e2
    subst e2
    exact .none
  ·have eh:=ZhI k4.len fun a ha=>k4.keep a ha (by simp)
   refine⟨v',H'.drop H.length,F',?_,?_,k5,fun hf=>⟨(k6 hf).1,fun a m=>((k6 hf).2 a m).elim id fun q=>by cases q⟩⟩
   ·have hv:vs.length=n:=r.length.trans hl
    simp only[ZG,hv,if_true,k2,Zs1,Option.getD_some]
    rw[←eh]
   ·rw[k1]at e2
    subst e2
    rw[←eh]
    exact k3
 ·first|exact Zx0 e|cases e
theorem Zmx{f:List V→Hp→Option (V×Hp)}{p:List T→Option T}{fr:Bool}(h:SimF fr f p)(ns:List Int)(e:p [.lst (ns.map T.int)]=some (.bool true)): ∃H',f [.ref 0] [ns.map V.int]=some (.bool true,H'):=by
 have intsAre:∀l:List Int,RFs [ns.map V.int] (l.map V.int) (l.map T.int) []:=fun l=>by
  induction l with
  | nil=>exact .nil
  | cons a l ih=>exact .cons (.int a) ih
 obtain⟨v,X,F,h1,h2,_⟩:=h [ns.map V.int] [.ref 0] [.lst (ns.map T.int)] _ _ (by simp) (.one (.ref rfl (intsAre ns))) e
 cases h2
 exact⟨_,h1⟩
end TM
end
section
namespace TM
open PySem PM
section
variable {O Ns Ne J:List Nat}
theorem Zih{u:Bool}{g:Src}{q:PG}{put:V→Lc→Option Lc}{pput:T→TL→Option TL}{tc:Ts}{pc:PB}{f:Ex}{pf:PE}(hg:Gs O Ns g q)(hj:PutOk O J put pput)(hN:∀i∈Ns,i∉O)(hc:Bt O tc pc)(hf:E O Ne u f pf): E O (Ns++Ne) false (Zao g put tc f) (Zbk q pput pc pf):=
 E.comp hg hj hN hc hf.sh (by simp)
theorem Zf5{g:Src}{q:PG}{put:V→Lc→Option Lc}{pput:T→TL→Option TL}{tc:Ts}{pc:PB}{f:Ex}{pf:PE}(hg:Gs O Ns g q)(hj:PutOk O J put pput)(hN:∀i∈Ns,i∉O)(hc:Bt O tc pc)(hf:E O [] true f pf): E O [] true (Zao g put tc f) (Zbk q pput pc pf):=
 E.comp hg hj hN hc hf (by simp)
end
end TM
end
section
/-! Forward reckoning over trees. -/
namespace TM
open PySem PM
noncomputable def dec(P:Prop): Bool:=@decide P (Classical.propDecidable P)
theorem dec_iff{P:Prop}: dec P=true↔P:=by unfold dec;exact @decide_eq_true_iff P (Classical.propDecidable P)
theorem Zlp{P:Prop}(h:P): dec P=true:=dec_iff.mpr h
theorem ZiY{P:Prop}(h:¬P): dec P=false:=by
 cases e:dec P with
 | true=>exact absurd (dec_iff.mp e) h
 | false=>rfl
theorem ZiG{P:Prop}{b:Bool}(h:b=true↔P): dec P=b:=by
 cases b with
 | true=>exact Zlp (h.mp rfl)
 | false=>exact ZiY fun p=>by simpa using h.mpr p
noncomputable def tab{α:Type}(n:Nat)(f:Nat→α): List α:=(List.range n).map f
theorem Zaw{α:Type}{n:Nat}{f:Nat→α}: (tab n f).length=n:=by simp[tab]
theorem Zb8{α:Type}{n:Nat}{f:Nat→α}{i:Nat}(h:i<n): (tab n f)[i]?=some (f i):=by simp[tab,h]
theorem ZoZ{α:Type}{n:Nat}{f:Nat→α}{i:Nat}(h:n≤i): (tab n f)[i]?=none:=by simp[tab,h]
theorem Zj4{α:Type}{n:Nat}{f:Nat→α}: tab n f++[f n]=tab (n+1) f:=by simp[tab,List.range_succ]
theorem Zii{α:Type}{n:Nat}{xs:List α}{f:Nat→α}(hl:xs.length=n)(h:∀i,i<n→xs[i]?=some (f i)): xs=tab n f:=by
 refine List.ext_getElem? fun i=>?_
 by_cases q:i<n
 ·rw[h i q,Zb8 q]
 ·rw[Zy8 (by omega),ZoZ (by omega)]
theorem Zmy{α:Type}{n:Nat}{f g:Nat→α}(h:∀i,i<n→f i=g i): tab n f=tab n g:=by
 refine Zii Zaw fun i hi=>?_
 rw[Zb8 hi,h i hi]
theorem ZnU{α:Type}{n k:Nat}{f:Nat→α}{v:α}: (tab n f).set k v=tab n fun i=>if i=k then v else f i:=by
 refine Zii (by rw[List.length_set,Zaw]) fun i hi=>?_
 by_cases q:i=k
 ·subst q
  rw[Zy6 (by rw[Zaw];exact hi),if_pos rfl]
 ·rw[Zy2 (Ne.symm q),Zb8 hi,if_neg q]
theorem tab_map{α β:Type}{n:Nat}{f:Nat→α}{g:α→β}: (tab n f).map g=tab n fun i=>g (f i):=by simp[tab]
noncomputable def cn{α:Type}(a:α)(f:Nat→α): Nat→α
 | 0=>a
 | i+1=>f i
theorem ZnV{α β γ:Type}{n m:Nat}{f:Nat→α}{g:Nat→β}{h:α→β→γ}: List.zipWith h (tab n f) (tab m g)=tab (min n m) fun i=>h (f i) (g i):=by
 refine Zii (by rw[List.length_zipWith,Zaw,Zaw]) fun i hi=>?_
 rw[List.getElem?_zipWith,Zb8 (show i<n by omega),Zb8 (show i<m by omega)]
noncomputable def Pk(c:Option T)(Q:T→Prop): Prop:=∃t,c=some t∧Q t
noncomputable def Pl(c:Option (List T))(Q:List T→Prop): Prop:=∃t,c=some t∧Q t
noncomputable def Pb(c:Option Bool)(Q:Bool→Prop): Prop:=∃t,c=some t∧Q t
noncomputable def Psk(c:Option (Option T×TL))(R:T→Prop)(N:TL→Prop): Prop:=∃o σ,c=some (o,σ)∧(∀t,o=some t→R t)∧(o=none→N σ)
theorem Pk.of{c:Option T}{Q:T→Prop}{t:T}(h:c=some t)(k:Q t): Pk c Q:=⟨t,h,k⟩
theorem Pk.eq{c:Option T}{t:T}(h:Pk c fun v=>v=t): c=some t:=by obtain⟨v,e,rfl⟩:=h;exact e
section
variable {σ:TL} {Q:T→Prop} {L:List T→Prop} {B:Bool→Prop} {R:T→Prop} {N:TL→Prop}
theorem Zo0{k:Int}(h:Q (.int k)): Pk (Zn k σ) Q:=⟨_,rfl,h⟩
theorem Zo1(h:Q .none): Pk (ZcQ σ) Q:=⟨_,rfl,h⟩
theorem Zo2{k:Str}(h:Q (.str k)): Pk (ZaE k σ) Q:=⟨_,rfl,h⟩
theorem ZkZ{i:Nat}{t:T}(e:σ i=some t)(h:Q t): Pk (Zf i σ) Q:=⟨_,e,h⟩
theorem Zo3{q:T→T→Option T}{f g:PE}(h:Pk (f σ) fun x=>Pk (g σ) fun y=>Pk (q x y) Q): Pk (Zj q f g σ) Q:=by
 obtain⟨x,a,y,b,z,c,k⟩:=h
 exact⟨z,by simp only[Zj,a,b,Zs0,c],k⟩
theorem Zp3{q:T→Option T}{f:PE}(h:Pk (f σ) fun x=>Pk (q x) Q): Pk (pUn q f σ) Q:=by
 obtain⟨x,a,z,c,k⟩:=h
 exact⟨z,by simp only[pUn,a,Zs0,c],k⟩
theorem ZnW{q:List T→Option T}{f:PEs}(h:Pl (f σ) fun x=>Pk (q x) Q): Pk (ZW q f σ) Q:=by
 obtain⟨x,a,z,c,k⟩:=h
 exact⟨z,by simp only[ZW,a,Zs0,c],k⟩
theorem Zo4(h:L []): Pl (Zq σ) L:=⟨_,rfl,h⟩
theorem ZnX{f:PE}{g:PEs}(h:Pk (f σ) fun x=>Pl (g σ) fun xs=>L (x::xs)): Pl (Zg f g σ) L:=by
 obtain⟨x,a,y,b,k⟩:=h
 exact⟨_,by simp only[Zg,a,b,Zs0],k⟩
theorem Zo5{g:PEs}(h:Pl (g σ) fun xs=>Q (.tup xs)): Pk (Zbm g σ) Q:=by
 obtain⟨x,a,k⟩:=h;exact⟨_,by simp only[Zbm,a,Zs1],k⟩
theorem ZnY{g:PEs}(h:Pl (g σ) fun xs=>Q (.lst xs)): Pk (Zbt g σ) Q:=by
 obtain⟨x,a,k⟩:=h;exact⟨_,by simp only[Zbt,a,Zs1],k⟩
theorem ZnZ{f:PE}(h:Pk (f σ) fun t=>t.flat=true∧Q t): Pk (ZbV f σ) Q:=by
 obtain⟨x,a,b,k⟩:=h;exact⟨_,by simp only[ZbV,a,Zs0,b,if_true],k⟩
theorem Zp4{f:PE}(h:Pk (f σ) fun t=>t.flatIn=true∧Q t): Pk (pFl f σ) Q:=by
 obtain⟨x,a,b,k⟩:=h;exact⟨_,by simp only[pFl,a,Zs0,b,if_true],k⟩
theorem Zo6{f g:PE}(h:Pk (f σ) fun x=>Pb (Zd1 x) fun b=>(b=true→Pk (g σ) Q)∧(b=false→Q x)): Pk (Zfo f g σ) Q:=by
 obtain⟨x,a,b,e,h1,h2⟩:=h
 cases b with
 | true=>obtain⟨t,c,q⟩:=h1 rfl;exact⟨t,by simp[Zfo,a,e,c],q⟩
 | false=>exact⟨x,by simp[Zfo,a,e],h2 rfl⟩
theorem Zp5{K:String}{f:PE}(h:Pk (f σ) fun x=>isObT x=false∧Q (.bool (Zf3 K x))): Pk (pIs K f σ) Q:=by
 obtain⟨x,a,ob,q⟩:=h;exact⟨_,by simp[pIs,a,ob],q⟩
theorem Zo7{f:PE}(h:Pk (f σ) fun x=>Pb (Zd1 x) B): Pb (Z6 f σ) B:=by
 obtain⟨x,a,b,e,q⟩:=h;exact⟨_,by simp only[Z6,a,Zs0,e],q⟩
theorem Zn0{f:PB}(h:Pb (f σ) fun b=>B (!b)): Pb (Zfn f σ) B:=by
 obtain⟨x,a,q⟩:=h;exact⟨_,by simp only[Zfn,a,Zs1],q⟩
theorem Zn1(h:B true): Pb (Za1 σ) B:=⟨_,rfl,h⟩
theorem Zna(h:B false): Pb (ZeX σ) B:=⟨_,rfl,h⟩
theorem Zn2{f g:PB}(h:Pb (f σ) fun b=>(b=true→Pb (g σ) B)∧(b=false→B false)): Pb (ZbK f g σ) B:=by
 obtain⟨x,a,h1,h2⟩:=h
 cases x with
 | true=>obtain⟨t,c,q⟩:=h1 rfl;exact⟨t,by simp[ZbK,a,c],q⟩
 | false=>exact⟨_,by simp[ZbK,a],h2 rfl⟩
theorem Zo8{f g:PB}(h:Pb (f σ) fun b=>(b=true→B true)∧(b=false→Pb (g σ) B)): Pb (bOr f g σ) B:=by
 obtain⟨x,a,h1,h2⟩:=h
 cases x with
 | false=>obtain⟨t,c,q⟩:=h2 rfl;exact⟨t,by simp[bOr,a,c],q⟩
 | true=>exact⟨_,by simp[bOr,a],h1 rfl⟩
theorem Zmd{b:Bool}(h:B b): Pb (Zd1 (.bool b)) B:=⟨_,rfl,h⟩
theorem Zn3(h:N σ): Psk (Zam σ) R N:=⟨_,_,rfl,by simp,fun _=>h⟩
theorem Zo9{f:PE}(h:Pk (f σ) R): Psk (Zar f σ) R N:=by
 obtain⟨x,a,q⟩:=h;exact⟨some x,σ,by simp only[Zar,a,Zs1],fun t e=>by cases e;exact q,by simp⟩
theorem Zpa{i:Nat}{f:PE}(h:Pk (f σ) fun t=>N (ZC σ i t)): Psk (ZbL i f σ) R N:=by
 obtain⟨x,a,q⟩:=h;exact⟨none,ZC σ i x,by simp only[ZbL,a,Zs1],by simp,fun _=>q⟩
theorem Zpb{a b:PS}(h:Psk (a σ) R fun σ1=>Psk (b σ1) R N): Psk (ZB a b σ) R N:=by
 obtain⟨o,σ1,e,h1,h2⟩:=h
 cases o with
 | some t=>exact⟨some t,σ1,by simp only[ZB,e,Zs0],h1,by simp⟩
 | none=>
  obtain⟨o2,σ2,e2,k1,k2⟩:=h2 rfl
  exact⟨o2,σ2,by simp only[ZB,e,Zs0,e2],k1,k2⟩
theorem Zpc{b:PB}{f g:PS}(h:Pb (b σ) fun x=>(x=true→Psk (f σ) R N)∧(x=false→Psk (g σ) R N)): Psk (qIf b f g σ) R N:=by
 obtain⟨x,a,h1,h2⟩:=h
 cases x with
 | true=>obtain⟨o,s,c,q⟩:=h1 rfl;exact⟨o,s,by simp[qIf,a,c],q⟩
 | false=>obtain⟨o,s,c,q⟩:=h2 rfl;exact⟨o,s,by simp[qIf,a,c],q⟩
theorem Zpd{n:Nat}{q:PS}{ts:List T}(hn:ts.length=n)(h:Psk (q fun i=>ts[i]?) Q fun _=>Q .none): Pk (ZaV n q ts) Q:=by
 obtain⟨o,s,e,h1,h2⟩:=h
 cases o with
 | some t=>exact⟨t,by simp only[ZaV,hn,if_true,e,Zs1,Option.getD_some],h1 t rfl⟩
 | none=>exact⟨.none,by simp only[ZaV,hn,if_true,e,Zs1,Option.getD_none],h2 rfl⟩
theorem Zpe{b:Bool}{A C:Prop}(h:b=true)(k:A): (b=true→A)∧(b=false→C):=⟨fun _=>k,fun e=>(by rw[h]at e;cases e)⟩
theorem Zpf{b:Bool}{A C:Prop}(h:b=false)(k:C): (b=true→A)∧(b=false→C):=⟨fun e=>(by rw[h]at e;cases e),fun _=>k⟩
theorem Zpg{a b:Int}(h:Q (.int (a+b))): Pk (Zaj (.int a) (.int b)) Q:=⟨_,rfl,h⟩
theorem Zph{a b:Int}(h:Q (.int (a-b))): Pk (ZbA (.int a) (.int b)) Q:=⟨_,rfl,h⟩
theorem Zpi{a:Int}(h:Q (.int (-a))): Pk (Zi6 (.int a)) Q:=⟨_,rfl,h⟩
theorem Zp6{a b:Int}(h:Q (.bool (decide (a<b)))): Pk (qLt (.int a) (.int b)) Q:=⟨_,rfl,h⟩
theorem Zp7{a b:Int}(h:Q (.bool (decide (b<a)))): Pk (qGt (.int a) (.int b)) Q:=⟨_,rfl,h⟩
theorem Zpj{a b:Int}(hb:b≠0)(h:Q (.int (a.fmod b))): Pk (Zas (.int a) (.int b)) Q:=⟨_,by simp only[Zas];rw[if_pos hb],h⟩
theorem Zk0{a b:Int}(hb:b≠0)(hd:Builtin.divisionGoesByPylong a b=false)(h:Q (.int (a.fdiv b))): Pk (ZbB (.int a) (.int b)) Q:=⟨_,by simp only[ZbB];rw[if_pos ⟨hb,hd⟩],h⟩
theorem ZiH{a b:Int}(hm:ZbT a b=true)(h:Q (.int (a*b))): Pk (ZbC (.int a) (.int b)) Q:=⟨_,by simp only[ZbC];rw[if_pos hm],h⟩
theorem Zpk{a:Int}(h:Q (.int (if a<0 then -a else a))): Pk (ZdN [.int a]) Q:=⟨_,rfl,h⟩
theorem Zpl{a b:Int}(h:Q (.int (if b>a then b else a))): Pk (Zfb [.int a,.int b]) Q:=⟨_,rfl,h⟩
theorem Zpm{a b:Int}(h:Q (.int (if b<a then b else a))): Pk (ZgB [.int a,.int b]) Q:=⟨_,rfl,h⟩
theorem Zn4(a b:Int): ZbZ (.int a) (.int b)=some (decide (a=b)):=by
 simp[ZbZ,Zbn,SeqAt.shaped,PyData.canLay0,PyData.depth,PyData.eqv]
 by_cases h:a=b <;> simp[h]
theorem Zp8{a b:Int}(h:Q (.bool (decide (a=b)))): Pk (qEq (.int a) (.int b)) Q:=⟨_,by simp only[qEq,Zn4,Zs1],h⟩
theorem eqB_bool(a b:Bool): ZbZ (.bool a) (.bool b)=some (a == b):=by
 cases a <;> cases b <;> simp[ZbZ,Zbn,SeqAt.shaped,PyData.canLay0,PyData.depth,PyData.eqv]
theorem Zpn{a b:Bool}(h:Q (.bool (!(a == b)))): Pk (qNe (.bool a) (.bool b)) Q:=⟨_,by simp only[qNe,eqB_bool,Zs1],h⟩
theorem Zpo(h:Q (.bool true)): Pk (qIs .none .none) Q:=⟨_,rfl,h⟩
theorem Zpp{a:Int}(h:Q (.bool false)): Pk (qIs (.int a) .none) Q:=⟨_,rfl,h⟩
theorem Zn5{n:Nat}{f:Nat→T}(h:Q (.int n)): Pk (Zb0 [.lst (tab n f)]) Q:=⟨_,by simp only[Zb0,Zaw],h⟩
theorem Zpq{ts:List T}(h:Q (.int ts.length)): Pk (Zb0 [.lst ts]) Q:=⟨_,rfl,h⟩
theorem ZgD{k:Int}{n:Nat}(h0:0≤k)(h1:k<n): seqIndex? k n=some k.toNat:=by
 unfold seqIndex?
 have:¬k<0:=by omega
 simp[this]
 omega
theorem Zn6{n i:Nat}{f:Nat→T}(hi:i<n)(h:Q (f i)): Pk (ZD (.lst (tab n f)) (.int (i:Nat))) Q:=⟨_,by
 simp only[ZD,Zaw,ZgD (show(0:Int)≤(i:Int)by omega) (show(i:Int)<(n:Int)by omega),Zs0,Int.toNat_natCast]
 exact Zb8 hi,h⟩
theorem Zn7{n:Nat}{k:Int}{f:Nat→T}(h0:0≤k)(h1:k<n)(h:Q (f k.toNat)): Pk (ZD (.lst (tab n f)) (.int k)) Q:=⟨_,by
 simp only[ZD,Zaw,ZgD h0 h1,Zs0]
 exact Zb8 (by omega),h⟩
theorem ZbP{ts:List T}{k:Int}{t:T}(h0:0≤k)(e:ts[k.toNat]?=some t)(h:Q t): Pk (ZD (.lst ts) (.int k)) Q:=⟨_,by
 simp only[ZD]
 rw[ZgD h0 (by have:=(Zz6.mp e).1;omega)]
 exact e,h⟩
theorem Zn8{ts:List T}{k:Int}{t:T}(h0:0≤k)(e:ts[k.toNat]?=some t)(h:Q t): Pk (ZD (.tup ts) (.int k)) Q:=⟨_,by
 simp only[ZD]
 rw[ZgD h0 (by have:=(Zz6.mp e).1;omega)]
 exact e,h⟩
theorem Znb{ts:List T}(h:Q (.lst ts)): Pk (ZdA [.lst ts]) Q:=⟨_,rfl,h⟩
theorem Zn9{ts:List T}(h:Q (.tup ts)): Pk (ZeM [.lst ts]) Q:=⟨_,rfl,h⟩
theorem ints_tab{n:Nat}{f:Nat→Int}: Zbb (tab n fun i=>.int (f i))=some (tab n f):=by
 have:∀l:List Int,Zbb (l.map T.int)=some l:=fun l=>by
  induction l with
  | nil=>rfl
  | cons a l ih=>simp only[List.map_cons,Zbb,ih,Zs1]
 rw[show(tab n fun i=>T.int (f i))=(tab n f).map T.int from tab_map.symm]
 exact this _
noncomputable def SqP(x:T)(L:List T→Prop): Prop:=∃ts,(x=.lst ts∨x=.tup ts)∧L ts
theorem Sq.lst{ts:List T}(h:L ts): SqP (.lst ts) L:=⟨ts,.inl rfl,h⟩
theorem Sq.tup{ts:List T}(h:L ts): SqP (.tup ts) L:=⟨ts,.inr rfl,h⟩
theorem Zk1{a b c:Int}{H:Hp}{z:Nx×Nat×Hp}(h:Zbg a b c H=some z): Zck a b c=some ((List.range (rngN a b c)).map fun(i:Nat)=>.int (a+(i:Int)*c)):=by
 unfold Zbg at h
 split at h
 ·rename_i hc
  unfold Zck
  rw[if_pos hc]
 ·first|exact Zx0 h|cases h
theorem Znc{n:Nat}(hn:n≤1000): Zck 0 n 1=some (tab n fun i=>.int i):=by
 rw[Zk1 (ZoR (H:=[]) (b:=n) (by omega) (by omega))]
 have e:rngN 0 n 1=n:=by
  unfold rngN Builtin.Range.rangeSize
  by_cases q:(0:Int)<n
  ·rw[if_pos (by decide),if_pos (by omega)];omega
  ·rw[if_pos (by decide),if_neg (by omega)];omega
 rw[e]
 simp[tab]
theorem Zoa{a n:Nat}(ha:0<n)(hn:a+n≤1000): Zck a (a+n) 1=some (tab n fun i=>.int (a+i)):=by
 rw[Zk1 (ZoU (H:=[]) (a:=a) (b:=a+n) (c:=1) (by omega) (by omega) (by omega) (by omega) (by omega))]
 have e:rngN a (a+n) 1=n:=by
  unfold rngN
  rw[Zlm (by omega) (by omega)]
  omega
 rw[e]
 simp[tab]
theorem Zob{g:PEs}{b:Int}{o:Option (List T)}(e:g σ=some [.int b])(h:Zck 0 b 1=o): ZbG g σ=o:=by
 subst h;unfold ZbG;rw[e];rfl
theorem Zoc{g:PEs}{a b:Int}{o:Option (List T)}(e:g σ=some [.int a,.int b])(h:Zck a b 1=o): ZbG g σ=o:=by
 subst h;unfold ZbG;rw[e];rfl
noncomputable def RnP(xs:List T)(L:List T→Prop): Prop:=(∃n:Nat,xs=[.int n]∧n≤1000∧L (tab n fun i=>.int i))∨∃(a:Nat) (n:Nat),xs=[.int a,.int (a+n)]∧0<n∧a+n≤1000∧L (tab n fun i=>.int (a+i))
theorem Zj5{g:PEs}(h:Pl (g σ) fun xs=>RnP xs L): Pl (ZbG g σ) L:=by
 obtain⟨xs,e,h⟩:=h
 rcases h with⟨n,h0,h1,q⟩ | ⟨a,n,h0,h1,h2,q⟩
 ·subst h0;exact⟨_,Zob e (Znc h1),q⟩
 ·subst h0;exact⟨_,Zoc e (Zoa h1 h2),q⟩
theorem Rn.one{n:Nat}(hn:n≤1000)(h:L (tab n fun i=>.int i)): RnP [.int n] L:=.inl ⟨n,rfl,hn,h⟩
noncomputable def ZiP(x y:T)(L:List T→Prop): Prop:=∃xs ys,x=.lst xs∧y=.lst ys∧L (List.zipWith (fun a b=>.tup [a,b]) xs ys)
theorem Zk2{f g:PE}(h:Pk (f σ) fun x=>Pk (g σ) fun y=>ZiP x y L): Pl (ZgR f g σ) L:=by
 obtain⟨x,a,y,b,xs,ys,rfl,rfl,q⟩:=h;exact⟨_,by simp only[ZgR,a,b,Zs0],q⟩
theorem Zi.eq{n:Nat}{f g:Nat→T}(h:L (tab n fun i=>.tup [f i,g i])): ZiP (.lst (tab n f)) (.lst (tab n g)) L:=⟨_,_,rfl,rfl,by rw[ZnV,Nat.min_self];exact h⟩
theorem ZhR{j:Nat}{f:PE}{h:T→T}: ∀{ts:List T},(∀t∈ts,f (ZC σ j t)=some (h t))→Zc8 (ZaJ j) Za1 f σ ts=some (ts.map h)
 | [],_=>rfl
 | t::ts,k=>by
  simp only[Zc8,ZaJ,Za1,Zs0,if_true,k t Zz5,ZhR fun t m=>k t (Zz2 _ m),Zs1,List.map_cons]
theorem Zij{put:T→TL→Option TL}{f:PE}: ∀{ts us:List T},us.length=ts.length→(∀(i:Nat) t u,ts[i]?=some t→us[i]?=some u→∃σ1,put t σ=some σ1∧f σ1=some u)→Zc8 put Za1 f σ ts=some us
 | [],us,hl,_=>by cases us with
  | nil=>rfl
  | cons _ _=>simp at hl
 | t::ts,us,hl,k=>by
  cases us with
  | nil=>simp at hl
  | cons u us=>
   obtain⟨σ1,h1,h2⟩:=k 0 t u (by simp) (by simp)
   have:=Zij (ts:=ts) (us:=us) (f:=f) (put:=put) (by simpa using hl) fun i t' u' h3 h4=>k (i+1) t' u' (by simpa using h3) (by simpa using h4)
   simp only[Zc8,h1,Za1,Zs0,if_true,h2,this,Zs1]
theorem Zod{g:PG}{j n:Nat}{a b:Nat→T}{f:PE}(hn:n<10000)(hg:Pl (g σ) fun ts=>ts=tab n a)(hf:∀i,i<n→Pk (f (ZC σ j (a i))) fun t=>t=b i)(h:Q (.lst (tab n b))): Pk (Zbk g (ZaJ j) Za1 f σ) Q:=by
 obtain⟨ts,e,rfl⟩:=hg
 refine⟨_,?_,h⟩
 simp only[Zbk,e,Zs0,Zaw]
 rw[if_pos (by rw[Zab];omega),Zij (us:=tab n b) (by rw[Zaw,Zaw]) fun i t u h1 h2=>?_]
 ·rfl
 ·have hi:i<n:=by have:=(Zz6.mp h1).1;rwa [Zaw]at this
  rw[Zb8 hi]at h1 h2
  cases h1;cases h2
  exact⟨_,rfl,(hf i hi).eq⟩
theorem Znd{g:PG}{j k n:Nat}{a b c:Nat→T}{f:PE}(hn:n<10000)(hg:Pl (g σ) fun ts=>ts=tab n fun i=>.tup [a i,b i])(hf:∀i,i<n→Pk (f (ZC (ZC σ j (a i)) k (b i))) fun t=>t=c i)(h:Q (.lst (tab n c))): Pk (Zbk g (ZgC j k) Za1 f σ) Q:=by
 obtain⟨ts,e,rfl⟩:=hg
 refine⟨_,?_,h⟩
 simp only[Zbk,e,Zs0,Zaw]
 rw[if_pos (by rw[Zab];omega),Zij (us:=tab n c) (by rw[Zaw,Zaw]) fun i t u h1 h2=>?_]
 ·rfl
 ·have hi:i<n:=by have:=(Zz6.mp h1).1;rwa [Zaw]at this
  rw[Zb8 hi]at h1 h2
  cases h1;cases h2
  exact⟨_,rfl,(hf i hi).eq⟩
theorem Zk3{put:T→TL→Option TL}{b:PS}: ∀{ts:List T} (P:Nat→TL→Prop) {σ:TL},P 0 σ→(∀(i:Nat) t σ,ts[i]?=some t→P i σ→∃σ1,put t σ=some σ1∧Psk (b σ1) R (P (i+1)))→(∀σ,P ts.length σ→N σ)→Psk (Zcc put b σ ts) R N
 | [],P,σ,h0,_,h2=>⟨_,_,rfl,by simp,fun _=>h2 _ h0⟩
 | t::ts,P,σ,h0,h1,h2=>by
  obtain⟨σ1,e1,o,σ2,e2,k1,k2⟩:=h1 0 t σ (by simp) h0
  cases o with
  | some v=>exact⟨some v,σ2,by simp only[Zcc,e1,Zs0,e2],k1,by simp⟩
  | none=>
   obtain⟨o3,σ3,e3,l1,l2⟩:=Zk3 (ts:=ts) (fun i=>P (i+1)) (k2 rfl) (fun i t' σ' h3 h4=>h1 (i+1) t' σ' (by simpa using h3) h4) (fun σ' h=>h2 σ' (by simpa using h))
   exact⟨o3,σ3,by simp only[Zcc,e1,Zs0,e2,e3],l1,l2⟩
theorem Zpr{g:PG}{j n:Nat}{a:Nat→T}{b:PS}(hg:Pl (g σ) fun ts=>ts=tab n a)(P:Nat→TL→Prop)(h0:P 0 σ)(h1:∀i σ,i<n→P i σ→Psk (b (ZC σ j (a i))) R (P (i+1)))(h2:∀σ,P n σ→N σ): Psk (ZcT g (ZaJ j) b σ) R N:=by
 obtain⟨ts,e,rfl⟩:=hg
 have:=Zk3 (R:=R) (N:=N) (put:=ZaJ j) (b:=b) (ts:=tab n a) P h0 (fun i t σ' h3 h4=>by
  have hi:i<n:=by have:=(Zz6.mp h3).1;rwa [Zaw]at this
  rw[Zb8 hi]at h3
  cases h3
  exact⟨_,rfl,h1 i σ' hi h4⟩) (by rw[Zaw];exact h2)
 obtain⟨o,s,e2,q⟩:=this
 exact⟨o,s,by simp only[ZcT,e,Zs0,e2],q⟩
theorem Zkq{i j:Nat}{t:T}{o:Option T}(h:j≠i)(e:σ j=o): ZC σ i t j=o:=by simp[ZC,h,e]
theorem Zj6{j:Nat}{J:List Nat}{o:Option T}(h:j∉J)(e:σ j=o): ZbX σ J j=o:=by simp[ZbX,h,e]
end
end TM
end
section
namespace TM
open PySem PM
inductive Pln: Nat→T→Prop where
 | none {n:Nat}:Pln n .none
 | int {n:Nat} {i:Int}:Pln n (.int i)
 | str {n:Nat} {x:Str}:PyData.strOk x=true→Pln n (.str x)
 | tup {n:Nat} {ts:List T}:(∀t∈ts,Pln n t)→Pln (n+1) (.tup ts)
 | lst {n:Nat} {ts:List T}:(∀t∈ts,Pln n t)→Pln (n+1) (.lst ts)
mutual
noncomputable def dd: T→PyData
 | .none=>.none
 | .bool b=>.bool b
 | .int i=>.int i
 | .str x=>.str x
 | .tup ts=>.tuple (dds ts)
 | .lst ts=>.list (dds ts)
 | .ob _ _=>.none
noncomputable def dds: List T→List PyData
 | []=>[]
 | t::ts=>dd t::dds ts
end
theorem ZeF{f:T→Option PyData}: ∀{ts:List T},(∀t∈ts,f t=some (dd t))→ZdH f ts=some (dds ts)
 | [],_=>rfl
 | t::ts,h=>by simp only[ZdH,h t Zz5,ZeF fun t m=>h t (Zz2 _ m),Zs0,dds]
theorem ZeN: ∀{ts:List T},(∀t∈ts,PyData.canLay0 (dd t)=true)→PyData.canLayAll0 (dds ts)=true
 | [],_=>rfl
 | t::ts,h=>by simp only[dds,PyData.canLayAll0,h t Zz5,ZeN fun t m=>h t (Zz2 _ m),Bool.and_self]
theorem ZeO{n:Nat}: ∀{ts:List T},(∀t∈ts,PyData.depth (dd t)≤n)→PyData.depthAll (dds ts)≤n
 | [],_=>by simp[dds,PyData.depthAll]
 | t::ts,h=>by
  have h1:=h t Zz5
  have h2:=ZeO fun t m=>h t (Zz2 _ m)
  simp only[dds,PyData.depthAll]
  omega
theorem Pln.dat{n:Nat}{t:T}(h:Pln n t): Zbn n t=some (dd t)∧PyData.canLay0 (dd t)=true∧PyData.depth (dd t)≤n:=by
 induction h with
 | @none n=>cases n <;> exact⟨rfl,rfl,by simp[dd,PyData.depth]⟩
 | @int n i=>cases n <;> exact⟨rfl,rfl,by simp[dd,PyData.depth]⟩
 | @str n x h=>cases n <;> exact⟨rfl,by simpa [dd,PyData.canLay0]using h,by simp[dd,PyData.depth]⟩
 | @tup n ts _ ih=>
  refine⟨?_,?_,?_⟩
  ·simp only[Zbn,ZeF fun t m=>(ih t m).1,Zs1,dd]
  ·simp only[dd,PyData.canLay0];exact ZeN fun t m=>(ih t m).2.1
  ·simp only[dd,PyData.depth]
   have:=ZeO fun t m=>(ih t m).2.2
   omega
 | @lst n ts _ ih=>
  refine⟨?_,?_,?_⟩
  ·simp only[Zbn,ZeF fun t m=>(ih t m).1,Zs1,dd]
  ·simp only[dd,PyData.canLay0];exact ZeN fun t m=>(ih t m).2.1
  ·simp only[dd,PyData.depth]
   have:=ZeO fun t m=>(ih t m).2.2
   omega
theorem Zik: ∀{ts us:List T},(∀t∈ts,∀u∈us,(PyData.eqv (dd t) (dd u)=true↔t=u))→(PyData.eqvAll (dds ts) (dds us)=true↔ts=us)
 | [],[],_=>by simp[dds,PyData.eqvAll]
 | [],_::_,_=>by simp[dds,PyData.eqvAll]
 | _::_,[],_=>by simp[dds,PyData.eqvAll]
 | t::ts,u::us,h=>by
  simp only[dds,PyData.eqvAll,Bool.and_eq_true,h t Zz5 u Zz5,Zik fun t m u n=>h t (Zz2 _ m) u (Zz2 _ n),List.cons.injEq]
theorem Pln.eqv{n:Nat}{t:T}(h:Pln n t): ∀{m:Nat} {u:T},Pln m u→(PyData.eqv (dd t) (dd u)=true↔t=u):=by
 induction h with
 | none=>intro m u h;cases h <;> simp[dd,PyData.eqv]
 | int=>intro m u h;cases h <;> simp[dd,PyData.eqv]
 | str _=>intro m u h;cases h <;> simp[dd,PyData.eqv]
 | tup hs ih=>
  intro m u h
  cases h with
  | tup hu=>simp only[dd,PyData.eqv,T.tup.injEq];exact Zik fun t a u b=>ih t a (hu u b)
  | none=>simp[dd,PyData.eqv]
  | int=>simp[dd,PyData.eqv]
  | str=>simp[dd,PyData.eqv]
  | lst=>simp[dd,PyData.eqv]
 | lst hs ih=>
  intro m u h
  cases h with
  | lst hu=>simp only[dd,PyData.eqv,T.lst.injEq];exact Zik fun t a u b=>ih t a (hu u b)
  | none=>simp[dd,PyData.eqv]
  | int=>simp[dd,PyData.eqv]
  | str=>simp[dd,PyData.eqv]
  | tup=>simp[dd,PyData.eqv]
theorem Pln.mono{n:Nat}{t:T}(h:Pln n t): ∀{m:Nat},n≤m→Pln m t:=by
 induction h with
 | none=>intro m _;exact .none
 | int=>intro m _;exact .int
 | str h=>intro m _;exact .str h
 | tup hs ih=>
  intro m hm
  cases m with
  | zero=>omega
  | succ m=>exact .tup fun t a=>ih t a (by omega)
 | lst hs ih=>
  intro m hm
  cases m with
  | zero=>omega
  | succ m=>exact .lst fun t a=>ih t a (by omega)
theorem Zoe{n m:Nat}{a b:T}(ha:Pln n a)(hb:Pln m b)(hn:n≤40:=by decide)(hm:m≤40:=by decide): ZbZ a b=some (dec (a=b)):=by
 have ha:=ha.mono hn
 have hb:=hb.mono hm
 obtain⟨a1,a2,a3⟩:=ha.dat
 obtain⟨b1,b2,b3⟩:=hb.dat
 unfold ZbZ Za3
 rw[a1,b1]
 simp only[Zs0]
 rw[if_pos ⟨by simp only[SeqAt.shaped,a2,Bool.true_and,decide_eq_true_eq];omega,by simp only[SeqAt.shaped,b2,Bool.true_and,decide_eq_true_eq];omega⟩,ZiG (ha.eqv hb)]
section
variable {Q:T→Prop}
theorem Zk4{n m:Nat}{a b:T}(ha:Pln n a)(hb:Pln m b)(h:Q (.bool (dec (a=b))))(hn:n≤40:=by decide)(hm:m≤40:=by decide): Pk (qEq a b) Q:=⟨_,by simp only[qEq,Zoe ha hb hn hm,Zs1],h⟩
end
theorem Zof{α:Type}{n:Nat}{f:Nat→α}{x:α}(h:x∈tab n f): ∃i,i<n∧x=f i:=by
 obtain⟨i,hi,e⟩:=Zz11.mp h
 exact⟨i,List.mem_range.mp hi,e.symm⟩
theorem Zmz{n:Nat}{f:Nat→T}(h:∀i,i<n→(f i).flat=true): T.flats (tab n f)=true:=by
 have key:∀l:List T,(∀t∈l,t.flat=true)→T.flats l=true:=fun l=>by
  induction l with
  | nil=>intro _;rfl
  | cons t l ih=>intro h;simp only[T.flats,h t Zz5,ih fun t m=>h t (Zz2 _ m),Bool.and_self]
 exact key _ fun t m=>by obtain⟨i,hi,rfl⟩:=Zof m;exact h i hi
theorem ZhJ{n:Nat}{f:Nat→T}(h:∀i,i<n→(f i).flat=true): T.flatIn (.lst (tab n f))=true:=Zmz h
noncomputable def oT: Option Int→T
 | none=>.none
 | some x=>.int x
noncomputable def ZT(n:Nat)(x:Nat→Int): T:=.lst (tab n fun i=>.int (x i))
noncomputable def rowT(n:Nat)(b:Nat→Option Int): T:=.lst (tab n fun j=>oT (b j))
theorem Zil: oT none=.none:=rfl
theorem Zf6{c:Int}: oT (some c)=.int c:=rfl
theorem ZhS{σ:TL}{i:Nat}{t:T}: ZC σ i t i=some t:=by simp[ZC]
end TM
end
section
namespace PM
open PySem PySem.W PySem.Calls PyProof.Rows PyProof PyProof.Rows.LCg PyProof.Rows.LCp
noncomputable def sNo: Sm:=fun _ _=>none
noncomputable def inD(d:PyData): PyData→Option Bool
 | .list xs=>if PyData.canLayAll0 xs=true∧d.canLay0=true∧d.depth≤64 then some (xs.any fun y=>PyData.eqv y d)else none
 | .tuple xs=>if PyData.canLayAll0 xs=true∧d.canLay0=true∧d.depth≤64 then some (xs.any fun y=>PyData.eqv y d)else none
 | _=>none
noncomputable def Zja(a b:V)(H:Hp): Option Bool:=(toD H Za3 a).bind fun d=>(toD H Za3 b).bind fun e=>inD d e
noncomputable def oIn(a b:V)(H:Hp): Option (V×Hp):=(Zja a b H).map fun c=>(.bool c,H)
section
variable {prog:Program} {w:World} {Γ:Cx}
theorem S1.no{st:Stmt}: S1 prog w Γ st sNo:=fun W ρ H fr s Q E r rp hf post=>by cases hf
theorem Zp9: Op2 prog w (compareOp .In) oIn:=by
 intro Γ W ρ H fr s Q E a b x y v H' r hx hy ho post
 obtain⟨c,e1,e2⟩:=Zz1.mp ho
 cases e2
 obtain⟨d,h1,e1⟩:=Zz0.mp e1
 obtain⟨e,h2,e1⟩:=Zz0.mp e1
 obtain⟨as,R1⟩:=ZdW r Za3 a x d hx h1
 obtain⟨bs,R2⟩:=ZdW r Za3 b y e hy h2
 have hu:=Γ.hu
 unfold inD at e1
 split at e1
 ·split at e1
  ·rename_i hs
   cases e1
   exact SeqAt.in_list_reads R2 R1 hs.1 hs.2.1 (by omega) (post W s.heap s.toks _ (.refl W) r (.bool _))
  ·first|exact Zx0 e1|cases e1
 ·split at e1
  ·rename_i hs
   cases e1
   exact SeqAt.in_tuple_reads R2 R1 hs.1 hs.2.1 (by omega) (post W s.heap s.toks _ (.refl W) r (.bool _))
  ·first|exact Zx0 e1|cases e1
 ·first|exact Zx0 e1|cases e1
end
end PM
end
section
namespace TM
open PySem PM
noncomputable def Zfq(a b:T): Option Bool:=(Zbn Za3 a).bind fun d=>(Zbn Za3 b).bind fun e=>inD d e
noncomputable def qIn(a b:T): Option T:=(Zfq a b).map .bool
theorem Zps{H:Hp}{v1 v2:V}{t1 t2:T}{F1 F2:List Nat}(r1:RF H v1 t1 F1)(r2:RF H v2 t2 F2): Zja v1 v2 H=Zfq t1 t2:=by
 simp only[Zja,Zfq,Zgm Za3 _ _ _ r1,Zgm Za3 _ _ _ r2]
theorem Zqi: OA2 oIn qIn:=fun H v1 v2 t1 t2 t F1 F2 r1 r2 h=>by
 obtain⟨c,h1,h⟩:=Zz1.mp h
 subst h
 exact⟨_,by simp only[oIn,Zps r1 r2,h1,Zs1],.bool _⟩
theorem Zk5{d:T}: ∀{ts:List T},(∀t∈ts,(PyData.eqv (dd t) (dd d)=true↔t=d))→((dds ts).any fun y=>PyData.eqv y (dd d))=dec (d∈ts)
 | [],_=>by simp[dds,ZiY]
 | t::ts,h=>by
  have ih:=Zk5 (d:=d) (ts:=ts) fun t m=>h t (Zz2 _ m)
  simp only[dds,List.any_cons,ih]
  symm
  apply ZiG
  rw[Bool.or_eq_true,h t Zz5,dec_iff]
  simp[eq_comm]
section
variable {Q:T→Prop}
end
section
variable {σ:TL} {L:List T→Prop}
end
end TM
end
section
namespace TM
open PySem PM
section
variable {O N M K:List Nat} {u u' u'':Bool}
noncomputable def OIn(o:List V→Hp→Option (V×Hp))(q:List T→Option T): Prop:=∀(H:Hp) (vs:List V) (ts:List T) (t:T) (F1:List Nat),RFs H vs ts F1→q ts=some t→∃v F,o vs H=some (v,H)∧RF H v t F∧F.Sublist F1
theorem Zkr{n:Nat}{es:ZX}{ps:PEs}{q:List T→Option T}{o:List V→Hp→Option (V×Hp)}(k:OIn o q)(x:Es O N u n es ps): E O N u (Zk o es) (ZW q ps):=fun c ρ σ H Φ t s h=>by
 obtain⟨ts,h1,h⟩:=Zz0.mp h
 obtain⟨_,vs,X,F,a1,a2,a3,a4⟩:=x c ρ σ H Φ ts s h1
 obtain⟨w,G,b1,b2,b3⟩:=k _ vs ts t F a2 h
 exact⟨w,X,G,by simp only[Zk,a1,Zs0,b1],b2,fun a m=>a3 a (b3.subset m),fun hu=>(a4 hu).sublist b3⟩
theorem Zj7: OIn Zds ZeM:=fun H vs ts t F r h=>by
 unfold ZeM at h
 split at h
 ·obtain⟨v,rfl,r'⟩:=r.one_inv
  cases r' with
  | @ref a vs1 _ F1 e hs=>cases h;exact⟨.tup vs1,F1,by simp only[Zds,e,Zs1],.tup hs,List.sublist_cons_self _ _⟩
 ·obtain⟨v,rfl,r'⟩:=r.one_inv
  cases r' with
  | @tup vs1 _ _ hs=>cases h;exact⟨.tup vs1,_,by simp only[Zds],.tup hs,List.Sublist.refl _⟩
 ·first|exact Zx0 h|cases h
end
section
variable {σ:TL} {Q:T→Prop} {B:Bool→Prop} {R:T→Prop} {N:TL→Prop}
end
end TM
end
section
namespace TM
open PySem PM
theorem SimF.zero{fr:Bool}: SimF fr (fun _ _=>none) (fun _=>none):=by
 intro H vs ts t F1 hp r h
 cases h
end TM
end
section
namespace TM
open PySem PM
noncomputable def Keep0(g:Sm): Prop:=∀ρ H r,g ρ H=some r→r.2.1 0=ρ 0
theorem Keep0.ret{e:Ex}: Keep0 (Zw e):=fun ρ H r h=>by
 obtain⟨_,_,q⟩:=Zz1.mp h
 subst q;rfl
section
variable {O O' R N:List Nat} {fr u:Bool}
end
section
variable {σ:TL} {R:T→Prop} {N:TL→Prop}
end
end TM
end
section
/-! Objects of the text's own classes: fields by their places. -/
namespace PM
open PySem PySem.W PySem.Calls PyProof.Rows PyProof
theorem FE.len{fs:List Str}{xs:List Value}{es:List DictEntry}(h:FE fs xs es): es.length=xs.length∧xs.length≤fs.length:=by
 induction h with
 | nil=>exact⟨rfl,Nat.zero_le _⟩
 | cons _ ih=>exact⟨by simp[ih.1],by simp[ih.2]⟩
theorem FE.noRef{fs:List Str}{xs:List Value}{es:List DictEntry}(h:FE fs xs es): es.any (·.refKey)=false:=by
 induction h with
 | nil=>rfl
 | cons _ ih=>simp only[List.any_cons,ih,Bool.or_false];rfl
theorem FE.find{fs:List Str}{xs:List Value}{es:List DictEntry}{f:Str}(h:FE fs xs es)(nf:f∉fs): es.find? (·.key.isStr f)=none:=by
 induction h with
 | nil=>rfl
 | @cons g fs x xs hs t es _ ih=>
  have n1:g≠f:=fun e=>nf (e▸List.mem_cons_self)
  have:(Value.str g t).isStr f=false:=by simp[Value.isStr,n1]
  rw[List.find?_cons]
  simp only[this]
  exact ih fun m=>nf (Zz2 _ m)
theorem FE.no{fs:List Str}{xs:List Value}{es:List DictEntry}{f:Str}(h:FE fs xs es)(nf:f∉fs): getL f es=some none:=by
 unfold getL
 rw[h.find nf,h.noRef]
 rfl
theorem FE.get{fs:List Str}{xs:List Value}{es:List DictEntry}{f:Str}{x:Value}{j:Nat}(h:FE fs xs es)(nd:fs.Nodup)(hf:fs[j]?=some f)(hx:xs[j]?=some x): getL f es=some (some x):=by
 have key:∃e,es.find? (·.key.isStr f)=some e∧e.val=x:=by
  induction h generalizing j with
  | nil=>simp at hx
  | @cons g fs x' xs hs t es _ ih=>
   cases j with
   | zero=>
    simp at hf hx
    subst hf
    subst hx
    refine⟨⟨hs,.str g t,x'⟩,?_,rfl⟩
    rw[List.find?_cons]
    simp[Value.isStr]
   | succ j=>
    simp at hf hx
    have n1:g≠f:=fun e=>(List.nodup_cons.mp nd).1 (e▸Zy4 hf)
    have:(Value.str g t).isStr f=false:=by simp[Value.isStr,n1]
    rw[List.find?_cons]
    simp only[this]
    exact ih (List.nodup_cons.mp nd).2 hf hx
 obtain⟨e,h1,h2⟩:=key
 unfold getL
 rw[h1]
 simp[h2]
theorem FE.isS{fs:List Str}{xs:List Value}{es:List DictEntry}(h:FE fs xs es)(f:Str): (getL f es).isSome=true:=by
 unfold getL
 split
 ·rfl
 ·rw[h.noRef];rfl
theorem FE.put{fs:List Str}{xs:List Value}{es:List DictEntry}{f:Str}{v:Value}{j:Nat}{hs:Int}{t:Tok}(h:FE fs xs es)(nd:fs.Nodup)(hf:fs[j]?=some f)(hj:j<xs.length): FE fs (xs.set j v) (putL f hs (.str f t) v es):=by
 induction h generalizing j with
 | nil=>simp at hj
 | @cons g fs x xs hs' t' es h' ih=>
  cases j with
  | zero=>
   simp at hf
   subst hf
   have:(Value.str g t').isStr g=true:=by simp[Value.isStr]
   simp only[List.set_cons_zero,putL,this,if_true]
   exact .cons h'
  | succ j=>
   simp at hf hj
   have n1:g≠f:=fun e=>(List.nodup_cons.mp nd).1 (e▸Zy4 hf)
   have:(Value.str g t').isStr f=false:=by simp[Value.isStr,n1]
   simp only[List.set_cons_succ,putL,this,Bool.false_eq_true,if_false]
   exact .cons (ih (List.nodup_cons.mp nd).2 hf hj)
theorem FE.app{fs:List Str}{xs:List Value}{es:List DictEntry}{f:Str}{v:Value}{hs:Int}{t:Tok}(h:FE fs xs es)(nd:fs.Nodup)(hf:fs[xs.length]?=some f): FE fs (xs++[v]) (putL f hs (.str f t) v es):=by
 induction h with
 | @nil fs=>
  cases fs with
  | nil=>simp at hf
  | cons g fs=>simp at hf;subst hf;exact .cons .nil
 | @cons g fs x xs hs' t' es h' ih=>
  simp at hf
  have n1:g≠f:=fun e=>(List.nodup_cons.mp nd).1 (e▸Zy4 hf)
  have:(Value.str g t').isStr f=false:=by simp[Value.isStr,n1]
  simp only[List.cons_append,putL,this,Bool.false_eq_true,if_false]
  exact .cons (ih (List.nodup_cons.mp nd).2 hf)
noncomputable def Z1(c:Nat×List Str)(j:Nat): V→Hp→Option (V×Hp)
 | .obj c' a,H=>if c'=c then H[a]?.bind fun vs=>vs[j]?.map fun w=>(w,H)else none
 | _,_=>none
noncomputable def ZaH(c:Nat×List Str)(j:Nat): V→V→Hp→Option Hp
 | .obj c' a,w,H=>if c'=c∧a≠0 then H[a]?.bind fun vs=>if j<vs.length then some (H.set a (vs.set j w))else if j=vs.length∧j<c.2.length then some (H.set a (vs++[w]))else none else none
 | _,_,_=>none
noncomputable def Zat(c:Nat×List Str)(j:Nat)(f o:Ex): Sm:=fun ρ H=>(f ρ H).bind fun p=>(o ρ p.2).bind fun q=>(ZaH c j q.1 p.1 q.2).map fun K=>(none,ρ,K)
noncomputable def ZaW(c:Nat×List Str): V→Bool
 | .obj c' _=>c' == c
 | _=>false
noncomputable def ZZ(c:Nat×List Str)(F:List V→Hp→Option (V×Hp))(f:Ex)(g:ZX): Ex:=fun ρ H=>(f ρ H).bind fun p=>if ZaW c p.1 then(g ρ p.2).bind fun q=>F (p.1::q.1) q.2 else none
noncomputable def ZcF(c:Nat×List Str)(F:List V→Hp→Option (V×Hp))(g:ZX): Ex:=fun ρ H=>(g ρ H).bind fun p=>(F (.obj c p.2.length::p.1) (p.2++[[]])).bind fun q=>match q.1 with
 | .none=>some (.obj c p.2.length,q.2)
 | _=>none
theorem Rep.objAt{Γ:Cx}{W:Wd}{ρ:Lc}{H:Hp}{fr:List (Addr×Obj)}{h:Heap}{c:Nat×List Str}{i:Nat}{x:Value}{vs:List V}(r:Rep Γ W ρ H fr h)(hx:VR W (.obj c i) x)(e:H[i]?=some vs):
  ∃xa dx es n xs,x=.ref xa∧InstAt h xa ⟨.ref c.1,some dx,.plain,#[]⟩ c.1 (some (dictOf es n))∧FE c.2 xs es∧VRs W vs xs∧vs.length≤c.2.length:=by
 obtain⟨m,cc,led,r⟩:=r
 cases hx with
 | @obj _ _ a xa ox h1 h2 h3 h4=>
  obtain⟨hl,a',od,xs,g1,g2,⟨es,n,eo,fe⟩,g4⟩:=r.R.objs i vs c.2 e h2
  rw[h1]at g1
  cases g1
  subst eo
  have e1:ox=_:=h4
  subst e1
  exact⟨xa,a,es,n,xs,rfl,⟨r.get (r.R.tups _ h3),rfl,rfl,r.get g2⟩,fe,g4,hl⟩
section
variable {prog:Program} {w:World} {Γ:Cx} {K:Frag}
theorem ZaO{o:Expr}{name:Str}{pos:Pos}{f:Ex}{c:Nat×List Str}{j:Nat}{attr:Option Value}(X:K.In Γ.h₀)(ho:J prog w Γ o f)(hj:c.2[j]?=some name)(nd:c.2.Nodup)(hg:plainGet K c.1 name=true)(hh:hasDictIn K c.1=true)(ha:findIn K (.ref c.1) name=some attr)(hn:noGet K attr=true)
  (he:eval (.Attribute o name pos) Γ.env=(do
   let ov ←eval o Γ.env
   standAt pos.atName
   let r ←holding [ov] (getAttr ov name true)
   letTemporaryGo o ov r
   pure r):=by with_unfolding_all rfl):J prog w Γ (.Attribute o name pos) (ZO (Z1 c j) f):=by
 intro W ρ H fr s Q E v H' r hf post
 obtain⟨⟨v0,H1⟩,e1,hf1⟩:=Zz0.mp hf
 clear hf
 refine Attribute_any_ (ho W ρ H fr s _ E _ _ r e1 fun W1 k1 t1 x l1 r1 x1=>?_) he
 cases v0 with
 | none=>first|exact Zx0 hf1|cases hf1
 | bool=>first|exact Zx0 hf1|cases hf1
 | int=>first|exact Zx0 hf1|cases hf1
 | str=>first|exact Zx0 hf1|cases hf1
 | tup=>first|exact Zx0 hf1|cases hf1
 | ref=>first|exact Zx0 hf1|cases hf1
 | obj c' i=>
  simp only[Z1]at hf1
  split at hf1
  ·rename_i ec
   subst ec
   obtain⟨vs,h1,hf2⟩:=Zz0.mp hf1
   obtain⟨w',h2,hf3⟩:=Zz1.mp hf2
   cases hf3
   obtain⟨xa,dx,es,n,xs,rfl,I,fe,hv,_⟩:=r1.objAt x1 h1
   obtain⟨y,hy,ry⟩:=hv.at h2
   obtain⟨m,cc,led,r1'⟩:=r1
   refine get_own (s:={ s with heap:=k1,toks:=t1 }) r1'.F X I hg hh ha hn (fe.get nd hj hy) (by cases ry <;> rfl) ?_
   exact post W1 k1 (t1+1) y l1 ⟨m,cc,led,r1'⟩ ry
  ·first|exact Zx0 hf1|cases hf1
theorem Zji{A:Around}{E:Value→Shared→Prop}{s:Shared}{env:Env}{o:Expr}{name:Str}{apos pos:Pos}{args:List Expr}{Q:Value→Shared→Prop}
  (hbase:attributeBase o name env (eval o env)=eval o env)
  (hfew:((backTo pos (starEach args env)).all (fun x=>!x.1) && (backToKw pos (keywordEach [] env)).all (fun x=>x.1.isSome)
   && decide (args.length+([]:List Keyword).length+(if([]:List Keyword).isEmpty then 0 else 1)<30))=true)
  (hline:(apos.endLine == pos.line)=true)
  (h:wpAny (model prog w) A (eval o env) (fun ov s₁=>∀pl,wpAny (model prog w) A (getMethod ov name pl) (fun r s₂=>wpAny (model prog w) A (callWith pos r.1 r.2 (backTo pos (starEach args env)) []) Q E s₂) E s₁) E s):
  wpAny (model prog w) A (eval (.Call (.Attribute o name apos) args [] pos) env) Q E s:=by
 rw[arm_eval_Call,hbase]
 refine wpAny_bind (wpAny_mono h (fun ov s₁ h₁=>?_) fun _ _ e=>e)
 refine wpAny_bind (wpAny_standAt ?_)
 have hform:methodCallForm (args.length+([]:List Keyword).length) (backTo pos (starEach args env)) (backToKw pos (keywordEach [] env))=true:=hfew
 have hpos:methodCallPos true o env apos pos=pure pos:=by unfold methodCallPos;simp[hline]
 unfold methodCall
 rw[hform]
 refine wpAny_bind (wpAny_holding (wpAny_mono (h₁ _) (fun r s₂ h₂=>?_) fun _ _ e=>e))
 exact wpAny_bind (wpAny_of_eq hpos h₂)
end
section
variable {prog:Program} {w:World} {K:Frag} {p:Program} {loose:List Str} {mean:ExcName→Option Value} {mg mb:Str→Option Value} {Γ:Cx} {dp un:Nat}
theorem Clr.keep(clr:Clr K p loose mean mg mb Γ dp un): K.In Γ.h₀:=by
 obtain⟨_,_,_,_,_,_,_,_,_,_,_,X,_⟩:=clr
 exact X
theorem Za5{o:Expr}{name:Str}{apos pos:Pos}{e:Expr}{es:List Expr}{f:Ex}{g:ZX}{c:Nat×List Str}{fa:Addr}{room:Nat}{F:List V→Hp→Option (V×Hp)}(clr:Clr K p loose mean mg mb Γ dp un)(ho:J prog w Γ o f)(hm:findIn K (.ref c.1) name=some (some (.ref fa)))(ht:isFn K (.ref fa)=true)(hg:plainGet K c.1 name=true)(nf:name∉c.2)(hkeep:keepIn K (.ref fa)=true)(D:Def prog w K p loose mean mg mb fa room F)(hd:dp+room<recursionLimit)(hu:un+10*room+300<cLine)
  (h:Js prog w Γ (e::es) g) (hbase:attributeBase o name Γ.env (eval o Γ.env)=eval o Γ.env:=by rfl)
  (hfew:((backTo pos (starEach (e::es) Γ.env)).all (fun x=>!x.1) && (backToKw pos (keywordEach [] Γ.env)).all (fun x=>x.1.isSome)
   && decide ((e::es).length+([]:List Keyword).length+(if([]:List Keyword).isEmpty then 0 else 1)<30))=true:=by rfl)
  (hline:(apos.endLine == pos.line)=true:=by rfl) (he:starEach (e::es) Γ.env=(false,eval e Γ.env)::starEach es Γ.env:=by rfl) (hp:∀pos,(backTo pos (starEach es Γ.env)).any (·.1)=false:=by intro _;rfl):J prog w Γ (.Call (.Attribute o name apos) (e::es) [] pos) (ZZ c F f g):=by
 intro W ρ H fr s Q E v H' r hf post
 obtain⟨⟨v0,H1⟩,e1,hf1⟩:=Zz0.mp hf
 clear hf
 simp only at hf1
 split at hf1
 case isFalse=>first|exact Zx0 hf1|cases hf1
 rename_i hcl
 obtain⟨q,e2,hf2⟩:=Zz0.mp hf1
 clear hf1
 refine Zji hbase hfew hline (ho W ρ H fr s _ E _ _ r e1 fun W1 k1 t1 x l1 r1 x1 pl=>?_)
 cases v0 with
 | none=>first|exact Zx0 hcl|cases hcl
 | bool=>first|exact Zx0 hcl|cases hcl
 | int=>first|exact Zx0 hcl|cases hcl
 | str=>first|exact Zx0 hcl|cases hcl
 | tup=>first|exact Zx0 hcl|cases hcl
 | ref=>first|exact Zx0 hcl|cases hcl
 | obj c' i=>
  have ec:c'=c:=by simpa [ZaW]using hcl
  subst ec
  have hi:∃vs,H1[i]?=some vs:=by
   obtain⟨m,cc,led,r1'⟩:=r1
   cases x1 with
   | obj h1 h2 h3 h4=>exact⟨_,Zy1 (r1'.R.inlt _ h2)⟩
  obtain⟨vs,hvs⟩:=hi
  obtain⟨xa,dx,es',n,xs,rfl,I,fe,hv,_⟩:=r1.objAt x1 hvs
  obtain⟨m,cc,led,r1'⟩:=id r1
  refine method_inst (s:={ s with heap:=k1,toks:=t1 }) r1'.F clr.keep I hg hm ht (fe.no nf) ?_
  refine callWith_K (first:=[.ref xa]) clr.keep hkeep (h pos W1 ρ _ fr _ _ E _ _ r1 e2 fun W2 k2 t2 ys l2 r2 y2=>⟨?_,?_⟩) he (hp pos)
  ·obtain⟨m,c,led,r2⟩:=r2
   exact clr.keep.keeps r2.F.keep
  ·exact wpAny_call (D Γ dp un clr hd hu W2 ρ _ fr _ Q E _ (.ref xa::ys) v H' r2 (.cons (x1.mono l2) y2) hf2 fun W3 k3 t3 z l3 r3 z3=>post W3 k3 t3 z ((l1.trans l2).trans l3) r3 z3)
theorem ZeP{o:Expr}{name:Str}{apos pos:Pos}{f:Ex}{c:Nat×List Str}{fa:Addr}{room:Nat}{F:List V→Hp→Option (V×Hp)}(clr:Clr K p loose mean mg mb Γ dp un)(ho:J prog w Γ o f)(hm:findIn K (.ref c.1) name=some (some (.ref fa)))(ht:isFn K (.ref fa)=true)(hg:plainGet K c.1 name=true)(nf:name∉c.2)(hkeep:keepIn K (.ref fa)=true)(D:Def prog w K p loose mean mg mb fa room F)(hd:dp+room<recursionLimit)(hu:un+10*room+300<cLine)
  (hbase:attributeBase o name Γ.env (eval o Γ.env)=eval o Γ.env:=by rfl) (hline:(apos.endLine == pos.line)=true:=by rfl):J prog w Γ (.Call (.Attribute o name apos) [] [] pos) (ZZ c F f Zd):=by
 intro W ρ H fr s Q E v H' r hf post
 obtain⟨⟨v0,H1⟩,e1,hf1⟩:=Zz0.mp hf
 clear hf
 simp only at hf1
 split at hf1
 case isFalse=>first|exact Zx0 hf1|cases hf1
 rename_i hcl
 obtain⟨q,e2,hf2⟩:=Zz0.mp hf1
 clear hf1
 cases e2
 refine Zji hbase rfl hline (ho W ρ H fr s _ E _ _ r e1 fun W1 k1 t1 x l1 r1 x1 pl=>?_)
 cases v0 with
 | none=>first|exact Zx0 hcl|cases hcl
 | bool=>first|exact Zx0 hcl|cases hcl
 | int=>first|exact Zx0 hcl|cases hcl
 | str=>first|exact Zx0 hcl|cases hcl
 | tup=>first|exact Zx0 hcl|cases hcl
 | ref=>first|exact Zx0 hcl|cases hcl
 | obj c' i=>
  have ec:c'=c:=by simpa [ZaW]using hcl
  subst ec
  have hi:∃vs,H1[i]?=some vs:=by
   obtain⟨m,cc,led,r1'⟩:=r1
   cases x1 with
   | obj h1 h2 h3 h4=>exact⟨_,Zy1 (r1'.R.inlt _ h2)⟩
  obtain⟨vs,hvs⟩:=hi
  obtain⟨xa,dx,es',n,xs,rfl,I,fe,hv,_⟩:=r1.objAt x1 hvs
  obtain⟨m,cc,led,r1'⟩:=id r1
  refine method_inst (s:={ s with heap:=k1,toks:=t1 }) r1'.F clr.keep I hg hm ht (fe.no nf) ?_
  refine callWith_K0 (first:=[.ref xa]) (clr.keep.keeps r1'.F.keep) hkeep ?_
  exact wpAny_call (D Γ dp un clr hd hu W1 ρ _ fr _ Q E _ [.ref xa] v H' r1 (.cons x1 .nil) hf2 fun W3 k3 t3 z l3 r3 z3=>post W3 k3 t3 z (l1.trans l3) r3 z3)
end
end PM
end
section
namespace PM
open PySem PySem.W PySem.Calls PyProof.Rows PyProof
theorem Rep'.changedO{Γ:Cx}{W:Wd}{ρ:Lc}{H:Hp}{fr:List (Addr×Obj)}{h h':Heap}{m:Str→Option Value}{c led:List (Addr×Obj)}{i:Nat}{a:Addr}{fs:List Str}{vs us:List V}{od':Obj}{ys:List Value}(r:Rep' Γ W ρ H fr h m c led)(i0:i≠0)(e:H[i]?=some vs)(ea:W.pi[i]?=some a)(hi:(i,fs)∈W.ins)(F':Fr Γ.h₀ Γ.L h' m)(N':News Γ.h₀ Γ.L h' ((a,od')::led.filter (fun q=>decide (q.1≠a))))(hD:Zlj od' fs ys)(hv:VRs W us ys)(hl:us.length≤fs.length):
  Rep Γ W ρ (H.set i us) fr h':=by
 obtain⟨_,b,od,xs,h1,h2,h3,_⟩:=r.R.objs i vs fs e hi
 rw[ea]at h1
 cases h1
 have h2:=r.inLed i0 ea h2
 have hN:=r.N _ h2
 have hm:a∈W.pi:=Zy4 ea
 have hil:i<H.length:=(Zz6.mp e).1
 have other:∀(n:Nat) (d:Addr),n≠i→W.pi[n]?=some d→d≠a:=fun n d hn g1 e=>by
  subst e
  exact hn ((List.getElem?_inj (Zz6.mp g1).1 r.R.nd).mp (g1.trans ea.symm))
 refine⟨m,c,(a,od')::led.filter (fun q=>decide (q.1≠a)),⟨F',N',?_,r.sc,r.sc0,fun q hq=>?_,r.frOff,fun q hq=>?_,r.clOff,r.apart,r.frTup,r.clTup,r.own⟩⟩
 ·refine⟨by simp[r.R.len],r.R.nd,fun n ws en ni=>?_,fun q hq=>?_,r.R.kind,fun n ws gs en hi'=>?_,fun q hq=>by have:=r.R.inlt q hq;simpa using this,r.R.iuni⟩
  ·have hn:n≠i:=fun q=>ni _ hi q.symm
   rw[Zy2 (Ne.symm hn)]at en
   obtain⟨l,d,zs,j',g1,g2,g3⟩:=r.R.lists n ws en ni
   exact⟨l,d,zs,j',g1,Zbf g2 fun g2=>Zy3 _ (Zy9.mpr ⟨g2,by simpa using other n d hn g1⟩),g3⟩
  ·refine Zbf (r.R.tups q hq) fun g2=>Zy3 _ (Zy9.mpr ⟨g2,?_⟩)
   have:q.1≠a:=fun e=>by
    have hk:=ZjZ (r.R.kind q hq)
    have g:=r.get (r.R.tups q hq)
    rw[e,hN.1]at g
    obtain⟨es,n,eo,_⟩:=h3
    have c:=congrArg Obj.cls (Option.some.inj g)
    rw[eo]at c
    exact hk.2 c.symm
   simpa using this
  ·by_cases hn:n=i
   ·subst hn
    have:gs=fs:=congrArg (·.2) (r.R.iuni _ hi' _ hi rfl)
    subst this
    rw[Zy6 hil]at en
    cases en
    exact⟨hl,a,od',ys,ea,Zy3 _ Zz5,hD,hv⟩
   ·rw[Zy2 (Ne.symm hn)]at en
    obtain⟨l,d,od2,zs,g1,g2,g3,g4⟩:=r.R.objs n ws gs en hi'
    exact⟨l,d,od2,zs,g1,Zbf g2 fun g2=>Zy3 _ (Zy9.mpr ⟨g2,by simpa using other n d hn g1⟩),g3,g4⟩
 ·refine Zz2 _ (Zy9.mpr ⟨r.frIn q hq,?_⟩)
  have:q.1≠a:=fun e=>r.frOff q hq (e▸hm)
  simpa using this
 ·refine Zz2 _ (Zy9.mpr ⟨r.clIn q hq,?_⟩)
  have:q.1≠a:=fun e=>r.clOff q hq (e▸hm)
  simpa using this
theorem Rep'.newObj{Γ:Cx}{W:Wd}{ρ:Lc}{H:Hp}{fr:List (Addr×Obj)}{h h':Heap}{m:Str→Option Value}{cc led:List (Addr×Obj)}{c:Nat×List Str}{x dx:Addr}(r:Rep' Γ W ρ H fr h m cc led)(F':Fr Γ.h₀ Γ.L h' m)(N':News Γ.h₀ Γ.L h' ((x,instObj c.1 dx)::(dx,emptyDict)::led))(ne:∀q∈W.sc::led,q.1≠dx∧q.1≠x):
  ∃W',W.Le W'∧Rep Γ W' ρ (H++[[]]) fr h'∧VR W' (.obj c H.length) (.ref x):=by
 have piNe:∀b∈W.pi,b≠dx:=fun b hb=>by
  obtain⟨o,ho⟩:=r.piIn b hb
  exact(ne _ ho).1
 have le:W.Le ⟨W.pi++[dx],(x,instObj c.1 dx)::W.tups,W.sc,(H.length,c.2)::W.ins⟩:=⟨List.prefix_append _ _,fun q hq=>Zy3 _ hq,rfl,fun q hq=>Zy3 _ hq,fun q hq=>by
  rcases Zz7.mp hq with e | hq
  ·exact .inr (by rw[e,r.R.len];exact Zz10 _)
  ·exact .inl hq⟩
 have h0:0<W.pi.length:=(Zz6.mp r.sc0).1
 have at_n:(W.pi++[dx])[H.length]?=some dx:=by rw[←r.R.len];simp
 have up:∀q∈W.sc::led,q∈W.sc::(x,instObj c.1 dx)::(dx,emptyDict)::led:=fun q hq=>ZcA hq fun y hy=>Zy3 _ (Zz2 _ hy)
 refine⟨⟨W.pi++[dx],(x,instObj c.1 dx)::W.tups,W.sc,(H.length,c.2)::W.ins⟩,le,⟨m,cc,(x,instObj c.1 dx)::(dx,emptyDict)::led,⟨F',N',?_,r.sc,(Zy0 h0).trans r.sc0,fun q hq=>Zy3 _ (Zz2 _ (r.frIn q hq)),fun q hq=>?_,fun q hq=>Zy3 _ (Zz2 _ (r.clIn q hq)),fun q hq=>?_,r.apart,fun q hq t ht=>?_,fun q hq t ht=>?_,Γ.mono le r.own⟩⟩,.obj at_n Zz5 Zz5 rfl⟩
 ·refine⟨by simp[r.R.len],?_,fun i us e ni=>?_,fun q hq=>?_,fun q hq=>?_,fun i us fs e hi=>?_,fun q hq=>?_,fun q hq t ht e=>?_⟩
  ·show(W.pi++[dx]).Nodup
   rw[List.nodup_append]
   refine⟨r.R.nd,by simp,fun a ha b hb e=>?_⟩
   rw[List.mem_singleton.mp hb]at e
   exact piNe a ha e
  ·have hi:i≠H.length:=fun q=>ni _ Zz5 q.symm
   have hi':i<H.length:=by
    have:=(Zz6.mp e).1
    simp at this
    omega
   rw[Zy0 hi']at e
   obtain⟨l,a,ys,j,h1,h2,h3⟩:=r.R.lists i us e fun q hq=>ni q (Zz2 _ hq)
   exact⟨l,a,ys,j,le.piAt h1,up _ h2,h3.mono le⟩
  ·rcases Zz7.mp hq with e | hq
   ·rw[e];exact Zz2 _ Zz5
   ·exact up _ (r.R.tups q hq)
  ·rcases Zz7.mp hq with e | hq
   ·rw[e];exact .inr ⟨c.1,dx,rfl⟩
   ·exact r.R.kind q hq
  ·rcases Zz7.mp hi with e1 | hi
   ·first|exact Zx0 e1|cases e1
    simp at e
    subst e
    exact⟨Nat.zero_le _,dx,emptyDict,[],at_n,Zy3 _ (Zz2 _ Zz5),⟨[],0,rfl,.nil⟩,.nil⟩
   ·have hi':i<H.length:=r.R.inlt _ hi
    rw[Zy0 hi']at e
    obtain⟨l,a,od,ys,h1,h2,h3,h4⟩:=r.R.objs i us fs e hi
    exact⟨l,a,od,ys,le.piAt h1,up _ h2,h3,h4.mono le⟩
  ·rcases Zz7.mp hq with e | hq
   ·rw[e];simp
   ·have:=r.R.inlt q hq;simp;omega
  ·rcases Zz7.mp hq with e1 | hq
   ·rcases Zz7.mp ht with e2 | ht
    ·rw[e1,e2]
    ·have:=r.R.inlt t ht;rw[e1]at e;simp at e;omega
   ·rcases Zz7.mp ht with e2 | ht
    ·have:=r.R.inlt q hq;rw[e2]at e;simp at e;omega
    ·exact r.R.iuni q hq t ht e
 ·intro hm
  rcases Zz8.mp hm with hm | hm
  ·exact r.frOff q hq hm
  ·exact(ne q (Zz2 _ (r.frIn q hq))).1 (Zz9.mp hm)
 ·intro hm
  rcases Zz8.mp hm with hm | hm
  ·exact r.clOff q hq hm
  ·exact(ne q (Zz2 _ (r.clIn q hq))).1 (Zz9.mp hm)
 ·rcases Zz7.mp ht with e | ht
  ·rw[e]
   exact(ne q (Zz2 _ (r.frIn q hq))).2
  ·exact r.frTup q hq t ht
 ·rcases Zz7.mp ht with e | ht
  ·rw[e]
   exact(ne q (Zz2 _ (r.clIn q hq))).2
  ·exact r.clTup q hq t ht
section
variable {prog:Program} {w:World} {Γ:Cx} {K:Frag}
theorem ZbQ{o value:Expr}{name:Str}{pos' pos:Pos}{f g:Ex}{c:Nat×List Str}{j:Nat}(X:K.In Γ.h₀)(hv:J prog w Γ value f)(ho:J prog w Γ o g)(hj:c.2[j]?=some name)(nd:c.2.Nodup)(hc:c.2.length≤1000)(hs:findIn K (.ref c.1) "__setattr__"=some (some (.builtin "object.__setattr__")))(hp:plainOver K c.1=true)(ht:takerIn K c.1 name=some none)(hh:hasDictIn K c.1=true)
  (hsw:swapsWith value (some (.Attribute o name pos')) pos.line Γ.env=pure false:=by rfl):S1 prog w Γ (.Assign [.Attribute o name pos'] value pos) (Zat c j f g):=by
 intro W ρ H fr s Q E r rp hx post
 obtain⟨⟨v1,H1⟩,e1,hx1⟩:=Zz0.mp hx
 obtain⟨⟨v2,H2⟩,e2,hx2⟩:=Zz0.mp hx1
 obtain⟨H3,e3,hx3⟩:=Zz1.mp hx2
 subst hx3
 clear hx hx1 hx2
 refine plainObj_wpAny_Assign_Attribute (hv W ρ H fr s _ E _ _ rp e1 fun W1 k1 t1 x l1 r1 x1=>?_) hsw
 refine ho W1 ρ _ fr _ _ E _ _ r1 e2 fun W2 k2 t2 y l2 r2 y2=>?_
 simp only at e3
 cases v2 with
 | none=>first|exact Zx0 e3|cases e3
 | bool=>first|exact Zx0 e3|cases e3
 | int=>first|exact Zx0 e3|cases e3
 | str=>first|exact Zx0 e3|cases e3
 | tup=>first|exact Zx0 e3|cases e3
 | ref=>first|exact Zx0 e3|cases e3
 | obj c' i=>
  simp only[ZaH]at e3
  split at e3
  case isFalse=>first|exact Zx0 e3|cases e3
  rename_i hci
  obtain⟨ec,i0⟩:=hci
  subst ec
  obtain⟨vs,hvs,e4⟩:=Zz0.mp e3
  obtain⟨m,cc,led,r'⟩:=r2
  cases y2 with
  | @obj _ _ a xa ox h1 h2 h3 h4=>
  obtain⟨hl,a',od,xs,g1,g2,⟨es,n,eo,fe⟩,g4⟩:=r'.R.objs i vs c'.2 hvs h2
  rw[h1]at g1
  cases g1
  subst eo
  have e5:ox=_:=h4
  subst e5
  have hin:=r'.inLed i0 h1 g2
  have I:InstAt k2 xa ⟨.ref c'.1,some a,.plain,#[]⟩ c'.1 (some (dictOf es n)):=⟨r'.get (r'.R.tups _ h3),rfl,rfl,r'.get g2⟩
  have N2:News Γ.h₀ Γ.L k2 ((a,dictOf es n)::led.filter (fun q=>decide (q.1≠a))):=by
   intro q hq
   rcases Zz7.mp hq with e | hq
   ·subst e
    exact⟨r'.get g2,(r'.N _ hin).2⟩
   ·exact r'.N q (List.mem_filter.mp hq).1
  have lvx:=g4.length
  have fl:=fe.len
  have fin:∀(us:List V) (ys:List Value),H3=H2.set i us→VRs W2 us ys→us.length≤c'.2.length→FE c'.2 ys (putL name (PyData.keyHash w.params name) (.str name (t2+1)) x es) →
    wpAny (model prog w) Γ.A (setAttr (.ref xa) name x) (fun _=>Q .next) E { s with heap:=k2,toks:=t2 }:=by
   intro us ys eH hv' hl' fe'
   refine set_dict (s:={ s with heap:=k2,toks:=t2 }) r'.F X N2 I rfl hs hp ht hh (fe.isS name) rfl (Upd.head fun q hq=>by simpa using (List.mem_filter.mp hq).2) (Nat.le_trans (Nat.le_of_eq fe'.len.1) (Nat.le_trans fe'.len.2 hc)) fun h' F' N'=>?_
   rw[eH]at post
   exact post W2 h' (t2+2) (l1.trans l2) (r'.changedO i0 hvs h1 h2 F' N' ⟨_,_,rfl,fe'⟩ hv' hl')
  split at e4
  ·rename_i hjl
   cases e4
   exact fin (vs.set j v1) (xs.set j x) rfl (g4.set j (x1.mono l2)) (by simpa using hl) (fe.put nd hj (by rw[lvx];exact hjl))
  ·split at e4
   ·rename_i hjl
    cases e4
    have ej:j=xs.length:=by rw[lvx];exact hjl.1
    refine fin (vs++[v1]) (xs++[x]) rfl (g4.snoc (x1.mono l2)) (by simp;omega) (fe.app nd (by rw[←ej];exact hj))
   ·first|exact Zx0 e4|cases e4
end
section
variable {prog:Program} {w:World} {K:Frag} {p:Program} {loose:List Str} {mean:ExcName→Option Value} {mg mb:Str→Option Value} {Γ:Cx} {dp un:Nat}
theorem Zj8{c:Nat×List Str}{fI:Addr}{room:Nat}{F:List V→Hp→Option (V×Hp)}(clr:Clr K p loose mean mg mb Γ dp un)(hm:makesIn K c.1=true)(hi:findIn K (.ref c.1) "__init__"=some (some (.ref fI)))(hf:typeIn K (.ref fI)=some (.type "function"))(D:Def prog w K p loose mean mg mb fI room F)(hd:dp+(room+1)<recursionLimit)(hu:un+10*(room+1)+300<cLine)
  {W:Wd} {ρ:Lc} {H:Hp} {fr:List (Addr×Obj)} {s:Shared} {Q E:Value→Shared→Prop} {vs:List V} {xs:List Value} {v:V} {H':Hp} (r:Rep Γ W ρ H fr s.heap) (hx:VRs W vs xs) (hF:(F (.obj c H.length::vs) (H++[[]])).bind (fun q=>match q.1 with | .none=>some (V.obj c H.length,q.2) | _=>none)=some (v,H')) (post:ZdI Γ W ρ H' fr s Q v):
  wpAny (model prog w) Γ.A (call (.ref c.1) xs) Q E s:=by
 obtain⟨⟨v1,H1⟩,e1,hF1⟩:=Zz0.mp hF
 simp only at hF1
 cases v1 <;> first|exact Zx0 hF1|(cases hF1;done)| skip
 cases hF1
 obtain⟨m,cc,led,r'⟩:=id r
 refine wpAny_call (make_K r'.F r'.N (clr.keep.keeps r'.F.keep) hm hi hf fun x dx h' F' N' lt1 lt2=>?_)
 have hne:∀q∈W.sc::led,q.1≠dx∧q.1≠x:=fun q hq=>by
  rcases Zz7.mp hq with e | hq
  ·rw[e]
   refine⟨fun z=>?_,fun z=>?_⟩
   ·have h1:=(N' _ (Zz2 _ Zz5)).2.2
    have h2:=r'.sc
    rw[z]at h2
    simp only at h1
    rw[h1]at h2
    cases h2
   ·have h1:=(N' _ Zz5).2.2
    have h2:=r'.sc
    rw[z]at h2
    simp only at h1
    rw[h1]at h2
    cases h2
  ·exact⟨Nat.ne_of_lt (lt1 q hq),Nat.ne_of_lt (Nat.lt_trans (lt1 q hq) lt2)⟩
 obtain⟨W1,l1,r1,x1⟩:=r'.newObj (c:=c) F' N' hne
 obtain⟨gd,cn,cs,a,ccd,cl,outer,A₀,base,eA,B,X,T,hke⟩:=clr
 let Γ':Cx:={ Γ with A:=ktrTop (dp+1) (un+1) gd cn cs Γ.L a ccd cl outer,hh:=rfl,hu:=by show un+1+200<cLine;omega }
 have clr':Clr K p loose mean mg mb Γ' (dp+1) (un+1):=⟨gd,cn,cs,a,ccd,cl,outer,A₀,base,rfl,B,X,T,hke⟩
 have to:∀{W:Wd} {ρ:Lc} {H:Hp} {fr:List (Addr×Obj)} {h:Heap},Rep Γ W ρ H fr h→Rep Γ' W ρ H fr h:=fun⟨m,c,led,r⟩=>⟨m,c,led,⟨r.F,r.N,r.R,r.sc,r.sc0,r.frIn,r.frOff,r.clIn,r.clOff,r.apart,r.frTup,r.clTup,r.own⟩⟩
 have from':∀{W:Wd} {ρ:Lc} {H:Hp} {fr:List (Addr×Obj)} {h:Heap},Rep Γ' W ρ H fr h→Rep Γ W ρ H fr h:=fun⟨m,c,led,r⟩=>⟨m,c,led,⟨r.F,r.N,r.R,r.sc,r.sc0,r.frIn,r.frOff,r.clIn,r.clOff,r.apart,r.frTup,r.clTup,r.own⟩⟩
 rw[eA]
 exact D Γ' (dp+1) (un+1) clr' (by omega) (by omega) W1 ρ _ fr { s with heap:=h' } (fun v s'=>v=.none∧Q (.ref x) s') E (.obj c H.length::vs) (.ref x::xs) .none _ (to r1) (.cons x1 (hx.mono l1)) e1 fun W2 h2 t2 y l2 r2 y2=>by
  cases y2
  exact⟨rfl,post W2 h2 t2 (.ref x) (l1.trans l2) (from' r2) (x1.mono l2)⟩
theorem J.new{x:Str}{np pos:Pos}{e:Expr}{es:List Expr}{g:ZX}{c:Nat×List Str}{fI:Addr}{room:Nat}{F:List V→Hp→Option (V×Hp)}(clr:Clr K p loose mean mg mb Γ dp un)(hn:Nm prog w Γ x (.ref c.1))(hkeep:keepIn K (.ref c.1)=true)(hm:makesIn K c.1=true)(hi:findIn K (.ref c.1) "__init__"=some (some (.ref fI)))(hf:typeIn K (.ref fI)=some (.type "function"))(D:Def prog w K p loose mean mg mb fI room F)(hd:dp+(room+1)<recursionLimit)(hu:un+10*(room+1)+300<cLine)
  (h:Js prog w Γ (e::es) g) (he:starEach (e::es) Γ.env=(false,eval e Γ.env)::starEach es Γ.env:=by rfl) (hp:∀pos,(backTo pos (starEach es Γ.env)).any (·.1)=false:=by intro _;rfl):J prog w Γ (.Call (.Name x np) (e::es) [] pos) (ZcF c F g):=by
 intro W ρ H fr s Q E v H' r hf' post
 obtain⟨q,e1,hf'⟩:=Zz0.mp hf'
 refine wpAny_Call_ofName (hn.use r ?_)
 refine callWith_K (first:=[]) clr.keep hkeep (h pos W ρ H fr s _ E _ _ r e1 fun W1 k1 t1 xs l1 r1 x1=>⟨?_,?_⟩) he (hp pos)
 ·obtain⟨m,c,led,r1⟩:=r1
  exact clr.keep.keeps r1.F.keep
 ·exact Zj8 (s:={ s with heap:=k1,toks:=t1 }) clr hm hi hf D hd hu r1 x1 hf' fun W2 k2 t2 y l2 r2 y2=>post W2 k2 t2 y (l1.trans l2) r2 y2
theorem Zpt{x:Str}{np pos:Pos}{c:Nat×List Str}{fI:Addr}{room:Nat}{F:List V→Hp→Option (V×Hp)}(clr:Clr K p loose mean mg mb Γ dp un)(hn:Nm prog w Γ x (.ref c.1))(hkeep:keepIn K (.ref c.1)=true)(hm:makesIn K c.1=true)(hi:findIn K (.ref c.1) "__init__"=some (some (.ref fI)))(hf:typeIn K (.ref fI)=some (.type "function"))(D:Def prog w K p loose mean mg mb fI room F)(hd:dp+(room+1)<recursionLimit)(hu:un+10*(room+1)+300<cLine): J prog w Γ (.Call (.Name x np) [] [] pos) (ZcF c F Zd):=by
 intro W ρ H fr s Q E v H' r hf' post
 obtain⟨q,e1,hf'⟩:=Zz0.mp hf'
 cases e1
 refine wpAny_Call_ofName (hn.use r ?_)
 refine callWith_K0 (first:=[]) ?_ hkeep ?_
 ·obtain⟨m,c,led,r1⟩:=r
  exact clr.keep.keeps r1.F.keep
 ·exact Zj8 clr hm hi hf D hd hu r .nil hf' post
end
end PM
end
section
/-! Lists of which only the upper part is own: down to a depth the lists are own, what lies below is lent. -/
namespace TM
open PySem PM
noncomputable def plc: V→Bool
 | .ref _=>true
 | .obj _ _=>true
 | _=>false
mutual
inductive RD(H:Hp): Nat→V→T→List Nat→List Nat→Prop where
 | leaf {d:Nat} {v:V} {t:T} {R:List Nat}:RF H v t R→(d=0∨(plc v=false∧d≠999))→RD H d v t [] R
 | ref {d a:Nat} {vs:List V} {ts:List T} {F R:List Nat}:d≠998→H[a]?=some vs→RDs H d vs ts F R→RD H (d+1) (.ref a) (.lst ts) (a::F) R
 | obj {d a:Nat} {c:Nat×List Str} {vs:List V} {ts:List T} {F R:List Nat}:d≠998→H[a]?=some vs→RDs H d vs ts F R→RD H (d+1) (.obj c a) (.ob c ts) (a::F) R
 | all {v:V} {t:T} {F:List Nat}:RF H v t F→RD H 999 v t F []
inductive RDs(H:Hp): Nat→List V→List T→List Nat→List Nat→Prop where
 | nil {d:Nat}:RDs H d [] [] [] []
 | cons {d:Nat} {v:V} {t:T} {F R:List Nat} {vs:List V} {ts:List T} {G Q:List Nat}:RD H d v t F R→RDs H d vs ts G Q→RDs H d (v::vs) (t::ts) (F++G) (R++Q)
end
theorem Zlq{A B C D X Y:List Nat}(h:(A++B).Perm X)(k:(C++D).Perm Y): ((A++C)++(B++D)).Perm (X++Y):=by
 rw[List.perm_iff_count]at *
 intro a
 have h1:=h a
 have h2:=k a
 simp only[List.count_append]at *
 omega
mutual
theorem RD.rf{H:Hp}{d:Nat}{v:V}{t:T}{F R:List Nat}(r:RD H d v t F R): ∃G,RF H v t G∧(F++R).Perm G:=by
 cases r with
 | leaf h _=>exact⟨R,h,List.Perm.refl _⟩
 | ref _ e hs=>
  obtain⟨G,h1,h2⟩:=RDs.rf hs
  exact⟨_,.ref e h1,List.Perm.cons _ h2⟩
 | obj _ e hs=>
  obtain⟨G,h1,h2⟩:=RDs.rf hs
  exact⟨_,.obj e h1,List.Perm.cons _ h2⟩
 | all h=>exact⟨F,h,by rw[List.append_nil]⟩
theorem RDs.rf{H:Hp}{d:Nat}{vs:List V}{ts:List T}{F R:List Nat}(r:RDs H d vs ts F R): ∃G,RFs H vs ts G∧(F++R).Perm G:=by
 cases r with
 | nil=>exact⟨_,.nil,List.Perm.refl _⟩
 | cons a b=>
  obtain⟨G,h1,h2⟩:=RD.rf a
  obtain⟨Q,k1,k2⟩:=RDs.rf b
  exact⟨_,.cons h1 k1,Zlq h2 k2⟩
end
mutual
theorem RF.det{H:Hp}{v:V}{t t':T}{F F':List Nat}(r:RF H v t F)(r':RF H v t' F'): t=t'∧F=F':=by
 cases r with
 | none=>cases r';exact⟨rfl,rfl⟩
 | bool b=>cases r';exact⟨rfl,rfl⟩
 | int i=>cases r';exact⟨rfl,rfl⟩
 | str s=>cases r';exact⟨rfl,rfl⟩
 | tup hs=>
  cases r' with
  | tup hs'=>obtain⟨h1,h2⟩:=RFs.det hs hs';exact⟨by rw[h1],h2⟩
 | ref e hs=>
  cases r' with
  | ref e' hs'=>
   rw[e]at e'
   cases e'
   obtain⟨h1,h2⟩:=RFs.det hs hs';exact⟨by rw[h1],by rw[h2]⟩
 | obj e hs=>
  cases r' with
  | obj e' hs'=>
   rw[e]at e'
   cases e'
   obtain⟨h1,h2⟩:=RFs.det hs hs';exact⟨by rw[h1],by rw[h2]⟩
theorem RFs.det{H:Hp}{vs:List V}{ts ts':List T}{F F':List Nat}(r:RFs H vs ts F)(r':RFs H vs ts' F'): ts=ts'∧F=F':=by
 cases r with
 | nil=>cases r';exact⟨rfl,rfl⟩
 | cons a b=>
  cases r' with
  | cons a' b'=>
   obtain⟨h1,h2⟩:=RF.det a a'
   obtain⟨k1,k2⟩:=RFs.det b b'
   exact⟨by rw[h1,k1],by rw[h2,k2]⟩
end
mutual
theorem RD.frame{H H':Hp}{d:Nat}{v:V}{t:T}{F R:List Nat}(r:RD H d v t F R)(h:∀a∈F,H'[a]?=H[a]?)(k:∀a∈R,H'[a]?=H[a]?): RD H' d v t F R:=by
 cases r with
 | leaf q z=>exact .leaf (q.frame k) z
 | ref n e hs=>exact .ref n ((h _ Zz5).trans e) (RDs.frame hs (fun a m=>h a (Zz2 _ m)) k)
 | obj n e hs=>exact .obj n ((h _ Zz5).trans e) (RDs.frame hs (fun a m=>h a (Zz2 _ m)) k)
 | all q=>exact .all (q.frame h)
theorem RDs.frame{H H':Hp}{d:Nat}{vs:List V}{ts:List T}{F R:List Nat}(r:RDs H d vs ts F R)(h:∀a∈F,H'[a]?=H[a]?)(k:∀a∈R,H'[a]?=H[a]?): RDs H' d vs ts F R:=by
 cases r with
 | nil=>exact .nil
 | cons a b=>exact .cons (RD.frame a (fun x m=>h x (Zz4 _ m)) (fun x m=>k x (Zz4 _ m))) (RDs.frame b (fun x m=>h x (Zz3 _ m)) (fun x m=>k x (Zz3 _ m)))
end
mutual
theorem RF.rd{H:Hp}{v:V}{t:T}{G:List Nat}(d:Nat)(r:RF H v t G): ∃F R,RD H d v t F R∧(F++R).Perm G:=by
 by_cases q:d=999
 ·subst q;exact⟨G,[],.all r,by rw[List.append_nil]⟩
 cases r with
 | none=>exact⟨[],[],.leaf .none (.inr ⟨rfl,q⟩),List.Perm.refl _⟩
 | bool b=>exact⟨[],[],.leaf (.bool b) (.inr ⟨rfl,q⟩),List.Perm.refl _⟩
 | int i=>exact⟨[],[],.leaf (.int i) (.inr ⟨rfl,q⟩),List.Perm.refl _⟩
 | str s=>exact⟨[],[],.leaf (.str s) (.inr ⟨rfl,q⟩),List.Perm.refl _⟩
 | tup hs=>exact⟨[],G,.leaf (.tup hs) (.inr ⟨rfl,q⟩),List.Perm.refl _⟩
 | ref e hs=>
  cases d with
  | zero=>exact⟨[],_,.leaf (.ref e hs) (.inl rfl),List.Perm.refl _⟩
  | succ d=>
   obtain⟨F,R,h1,h2⟩:=RFs.rd d hs
   exact⟨_,R,.ref (by omega) e h1,List.Perm.cons _ h2⟩
 | obj e hs=>
  cases d with
  | zero=>exact⟨[],_,.leaf (.obj e hs) (.inl rfl),List.Perm.refl _⟩
  | succ d=>
   obtain⟨F,R,h1,h2⟩:=RFs.rd d hs
   exact⟨_,R,.obj (by omega) e h1,List.Perm.cons _ h2⟩
theorem RFs.rd{H:Hp}{vs:List V}{ts:List T}{G:List Nat}(d:Nat)(r:RFs H vs ts G): ∃F R,RDs H d vs ts F R∧(F++R).Perm G:=by
 cases r with
 | nil=>exact⟨[],[],.nil,List.Perm.refl _⟩
 | cons a b=>
  obtain⟨F,R,h1,h2⟩:=RF.rd d a
  obtain⟨F',R',k1,k2⟩:=RFs.rd d b
  exact⟨_,_,.cons h1 k1,Zlq h2 k2⟩
end
theorem Zks{H:Hp}: ∀{vs:List V} {ts:List T} {G:List Nat},RFs H vs ts G→RDs H 0 vs ts [] G
 | _,_,_,.nil=>.nil
 | _,_,_,.cons a b=>by
  have:=RDs.cons (RD.leaf (d:=0) a (.inl rfl)) (Zks b)
  simpa using this
theorem RDs.length{H:Hp}{d:Nat}: ∀{vs:List V} {ts:List T} {F R:List Nat},RDs H d vs ts F R→vs.length=ts.length
 | _,_,_,_,.nil=>rfl
 | _,_,_,_,.cons _ r=>by rw[List.length_cons,List.length_cons,r.length]
theorem RDs.append{H:Hp}{d:Nat}: ∀{vs us:List V} {ts ss:List T} {F R G Q:List Nat},RDs H d vs ts F R→RDs H d us ss G Q→RDs H d (vs++us) (ts++ss) (F++G) (R++Q)
 | _,_,_,_,_,_,_,_,.nil,h=>h
 | _,_,_,_,_,_,_,_,.cons a r,h=>by rw[List.append_assoc,List.append_assoc];exact .cons a (r.append h)
theorem RDs.one{H:Hp}{d:Nat}{v:V}{t:T}{F R:List Nat}(r:RD H d v t F R): RDs H d [v] [t] F R:=by
 have:=RDs.cons r RDs.nil
 rwa [List.append_nil,List.append_nil]at this
theorem RDs.split{H:Hp}{d:Nat}: ∀{vs:List V} {ts:List T} {F R:List Nat} {i:Nat} {t:T},RDs H d vs ts F R→ts[i]?=some t →
  ∃v G Q F1 F2 R1 R2,vs[i]?=some v∧RD H d v t G Q∧F=F1++(G++F2)∧R=R1++(Q++R2)∧∀(H':Hp) (w:V) (t':T) (G' Q':List Nat),RD H' d w t' G' Q'→(∀a∈F1++F2,H'[a]?=H[a]?)→(∀a∈R1++R2,H'[a]?=H[a]?)→RDs H' d (vs.set i w) (ts.set i t') (F1++(G'++F2)) (R1++(Q'++R2))
 | _,_,_,_,_,_,.nil,e=>by simp at e
 | _,_,_,_,0,_,.cons (G:=G1) (Q:=Q1) a r,e=>by
  simp at e
  subst e
  exact⟨_,_,_,[],G1,[],Q1,by simp,a,by simp,by simp,fun H' w t' G' Q' x h1 h2=>by simpa using RDs.cons x (r.frame (fun b m=>h1 b (by simpa using m)) (fun b m=>h2 b (by simpa using m)))⟩
 | _,_,_,_,i+1,_,.cons (F:=F0) (R:=R0) a r,e=>by
  simp at e
  obtain⟨v,G,Q,F1,F2,R1,R2,h1,h2,h3,h3',h4⟩:=r.split e
  refine⟨v,G,Q,F0++F1,F2,R0++R1,R2,by simpa using h1,h2,by rw[h3];simp,by rw[h3'];simp,fun H' w t' G' Q' x k1 k2=>?_⟩
  have:=RDs.cons (a.frame (fun b m=>k1 b (by simp[m])) (fun b m=>k2 b (by simp[m]))) (h4 H' w t' G' Q' x (fun b m=>k1 b (by rcases Zz8.mp m with m | m <;> simp[m])) (fun b m=>k2 b (by rcases Zz8.mp m with m | m <;> simp[m])))
  simpa using this
theorem Zh4{H:Hp}: ∀{vs:List V} {ts:List T} {F:List Nat},RFs H vs ts F→RDs H 999 vs ts F []
 | _,_,_,.nil=>.nil
 | _,_,_,.cons a b=>by have:=RDs.cons (RD.all a) (Zh4 b);simpa using this
theorem RDs.unall{H:Hp}: ∀{vs:List V} {ts:List T} {F R:List Nat},RDs H 999 vs ts F R→RFs H vs ts F∧R=[]
 | _,_,_,_,.nil=>⟨.nil,rfl⟩
 | _,_,_,_,.cons a b=>by
  obtain⟨h1,h2⟩:=b.unall
  cases a with
  | leaf _ q=>exact absurd q (by simp)
  | ref q _ _=>exact absurd rfl q
  | obj q _ _=>exact absurd rfl q
  | all h=>exact⟨.cons h h1,by simp[h2]⟩
theorem RD.unall{H:Hp}{v:V}{t:T}{F R:List Nat}(r:RD H 999 v t F R): RF H v t F∧R=[]:=by
 generalize e:999=d at r
 cases r with
 | leaf _ q=>omega
 | ref q _ _=>omega
 | obj q _ _=>omega
 | all h=>exact⟨h,rfl⟩
noncomputable def dn(d:Nat): Nat:=if d=999 then 999 else d-1
theorem RD.inR{H:Hp}{d a:Nat}{t:T}{F R:List Nat}(r:RD H d (.ref a) t F R)(hd:0<d): ∃vs ts F',t=.lst ts∧F=a::F'∧H[a]?=some vs∧RDs H (dn d) vs ts F' R∧∀(H':Hp) (vs':List V) (ts':List T) (G Q:List Nat),H'[a]?=some vs'→RDs H' (dn d) vs' ts' G Q→RD H' d (.ref a) (.lst ts') (a::G) Q:=by
 cases r with
 | leaf h q=>rcases q with q | q;omega;exact absurd q.1 (by simp[plc])
 | @ref d _ vs ts F' _ n e hs=>
  have:dn (d+1)=d:=by unfold dn;rw[if_neg (by omega)];omega
  rw[this]
  exact⟨vs,ts,F',rfl,rfl,e,hs,fun H' vs' ts' G Q e' hs'=>.ref n e' hs'⟩
 | all h=>
  cases h with
  | @ref _ vs ts F' e hs=>
   refine⟨vs,ts,F',rfl,rfl,e,Zh4 hs,fun H' vs' ts' G Q e' hs'=>?_⟩
   obtain⟨h1,h2⟩:=hs'.unall
   subst h2
   exact .all (.ref e' h1)
theorem RD.inO{H:Hp}{d a:Nat}{c:Nat×List Str}{t:T}{F R:List Nat}(r:RD H d (.obj c a) t F R)(hd:0<d): ∃vs ts F',t=.ob c ts∧F=a::F'∧H[a]?=some vs∧RDs H (dn d) vs ts F' R∧∀(H':Hp) (vs':List V) (ts':List T) (G Q:List Nat),H'[a]?=some vs'→RDs H' (dn d) vs' ts' G Q→RD H' d (.obj c a) (.ob c ts') (a::G) Q:=by
 cases r with
 | leaf h q=>rcases q with q | q;omega;exact absurd q.1 (by simp[plc])
 | @obj d _ _ vs ts F' _ n e hs=>
  have:dn (d+1)=d:=by unfold dn;rw[if_neg (by omega)];omega
  rw[this]
  exact⟨vs,ts,F',rfl,rfl,e,hs,fun H' vs' ts' G Q e' hs'=>.obj n e' hs'⟩
 | all h=>
  cases h with
  | @obj _ _ vs ts F' e hs=>
   refine⟨vs,ts,F',rfl,rfl,e,Zh4 hs,fun H' vs' ts' G Q e' hs'=>?_⟩
   obtain⟨h1,h2⟩:=hs'.unall
   subst h2
   exact .all (.obj e' h1)
noncomputable def ZiZ(k:Int): Option Nat:=if k≤-1000000 then some (-1000000-k).toNat else none
noncomputable def ZgE(k:Int)(n:Nat): Option Nat:=if k≤-1000000 then none else seqIndex? k n
noncomputable def Zc9(f:List T→Option (List T)): List Int→T→Option T
 | [],.lst ts=>(f ts).map .lst
 | k::ks,.lst ts=>(ZgE k ts.length).bind fun j=>ts[j]?.bind fun t=>(Zc9 f ks t).map fun u=>.lst (ts.set j u)
 | k::ks,.ob c ts=>(ZiZ k).bind fun j=>ts[j]?.bind fun t=>(Zc9 f ks t).map fun u=>.ob c (ts.set j u)
 | _,_=>none
inductive LeadU(H:Hp): List Int→V→Nat→Prop where
 | nil {a:Nat}:LeadU H [] (.ref a) a
 | ref {k:Int} {ks:List Int} {b:Nat} {vs:List V} {j:Nat} {v:V} {a:Nat}:H[b]?=some vs→ZgE k vs.length=some j→vs[j]?=some v→LeadU H ks v a→LeadU H (k::ks) (.ref b) a
 | obj {k:Int} {ks:List Int} {c:Nat×List Str} {b:Nat} {vs:List V} {j:Nat} {v:V} {a:Nat}:H[b]?=some vs→ZiZ k=some j→vs[j]?=some v→LeadU H ks v a→LeadU H (k::ks) (.obj c b) a
noncomputable def dnn(d m:Nat): Nat:=if d=999 then 999 else d-m-1
theorem Zqj{d:Nat}: dnn d 0=dn d:=by unfold dnn dn;split <;> simp
theorem Zqk{d m:Nat}(h9:d≤999): dnn (dn d) m=dnn d (m+1):=by
 unfold dnn dn
 by_cases h:d=999
 ·simp[h]
 ·rw[if_neg h,if_neg h]
  split
  ·omega
  ·omega
theorem ZeY{H:Hp}{Fn Rn:List Nat}{f:List T→Option (List T)}: ∀(ks:List Int) {d:Nat} {v:V} {t t':T} {F R:List Nat},RD H d v t F R→F.Nodup→(∀a∈F,a∉R)→(∀a∈Fn,a∉F)→ks.length<d→d≤999→Zc9 f ks t=some t' →
  ∃a vs ts ts' Fa Ra,LeadU H ks v a∧a∈F∧H[a]?=some vs∧RDs H (dnn d ks.length) vs ts Fa Ra∧f ts=some ts'∧Fa.Nodup∧a∉Fa∧(∀x∈Fa,x∈F)∧(∀x∈Ra,x∈R) ∧
   ∀vs' F' R',RDs H (dnn d ks.length) vs' ts' F' R'→F'.Nodup→a∉F'→a∉R'→(∀x∈F',x∈Fa∨x∈Fn)→(∀x∈R',x∈Ra∨x∈Rn)→∃F2 R2,RD (H.set a vs') d v t' F2 R2∧F2.Nodup∧(∀x∈F2,x∈F∨x∈Fn)∧∀x∈R2,x∈R∨x∈Rn
 | [],d,v,t,t',F,R,r,nd,ds,dnw,hd,h9,e=>by
  cases t with
  | none=>first|exact Zx0 e|cases e
  | bool=>first|exact Zx0 e|cases e
  | int=>first|exact Zx0 e|cases e
  | str=>first|exact Zx0 e|cases e
  | tup=>first|exact Zx0 e|cases e
  | ob=>first|exact Zx0 e|cases e
  | lst ts0=>
  obtain⟨ts',h1,h2⟩:=Zz1.mp e
  subst h2
  have hv:∃a,v=.ref a:=by
   obtain⟨G,rg,_⟩:=r.rf
   cases rg with
   | ref _ _=>exact⟨_,rfl⟩
  obtain⟨a,rfl⟩:=hv
  obtain⟨vs,ts,G,et,eF,e1,hs,back⟩:=r.inR (by simpa using hd)
  cases et
  subst eF
  rw[List.nodup_cons]at nd
  rw[List.length_nil,Zqj]
  refine⟨a,vs,ts0,ts',G,R,.nil,List.mem_cons_self,e1,hs,h1,nd.2,nd.1,fun x m=>Zy3 _ m,fun x m=>m,fun vs' F' R' r' n' na nr sub subR=>⟨a::F',R',?_,?_,?_,subR⟩⟩
  ·have ha:=(Zz6.mp e1).1
   refine back _ _ _ _ _ (Zy6 ha) (r'.frame (fun b m=>List.getElem?_set_ne ?_) (fun b m=>List.getElem?_set_ne ?_))
   ·intro q;subst q;exact na m
   ·intro q;subst q;exact nr m
  ·exact List.nodup_cons.mpr ⟨na,n'⟩
  ·intro x m
   rcases Zz7.mp m with rfl | m
   ·exact .inl Zz5
   ·exact(sub x m).imp (Zz2 _) id
 | k::ks,d,v,t,t',F,R,r,nd,ds,dnw,hd,h9,e=>by
  have hlen:ks.length<dn d:=by
   simp only[List.length_cons]at hd
   unfold dn;split <;> omega
  have h9':dn d≤999:=by unfold dn;split <;> omega
  have main:∀(b j:Nat) (vs:List V) (ts:List T) (F':List Nat) (u u':T) (mk:List T→T),F=b::F'→t'=mk (ts.set j u')→H[b]?=some vs→RDs H (dn d) vs ts F' R→ts[j]?=some u→Zc9 f ks u=some u'→(∀w a,vs[j]?=some w→LeadU H ks w a→LeadU H (k::ks) v a)→(∀(H':Hp) (vs':List V) (ts':List T) (G Q:List Nat),H'[b]?=some vs'→RDs H' (dn d) vs' ts' G Q→RD H' d v (mk ts') (b::G) Q) →
   ∃a vs ts ts' Fa Ra,LeadU H (k::ks) v a∧a∈F∧H[a]?=some vs∧RDs H (dnn d (k::ks).length) vs ts Fa Ra∧f ts=some ts'∧Fa.Nodup∧a∉Fa∧(∀x∈Fa,x∈F)∧(∀x∈Ra,x∈R) ∧
    ∀vs' F' R',RDs H (dnn d (k::ks).length) vs' ts' F' R'→F'.Nodup→a∉F'→a∉R'→(∀x∈F',x∈Fa∨x∈Fn)→(∀x∈R',x∈Ra∨x∈Rn)→∃F2 R2,RD (H.set a vs') d v t' F2 R2∧F2.Nodup∧(∀x∈F2,x∈F∨x∈Fn)∧∀x∈R2,x∈R∨x∈Rn:=by
   intro b j vs ts F' u u' mk eF et' e0 hs e2 e3 lead back
   subst eF
   subst et'
   obtain⟨w,G1,Q1,F1,F2,R1,R2,e4,g1,eF,eR,rb⟩:=hs.split e2
   subst eF
   subst eR
   rw[List.nodup_cons]at nd
   obtain⟨nb,nd⟩:=nd
   obtain⟨a1,a2,a5⟩:=List.nodup_append.mp nd
   obtain⟨nd1,a3,a4⟩:=List.nodup_append.mp a2
   have hin:∀x∈G1,x∈F1++(G1++F2):=fun x m=>List.mem_append_right _ (Zz4 _ m)
   have hinR:∀x∈Q1,x∈R1++(Q1++R2):=fun x m=>List.mem_append_right _ (Zz4 _ m)
   obtain⟨a,us,qs,qs',Fa,Ra,l,am,ea,hq,hf,gn,na,gs,gr,go⟩:=ZeY ks g1 nd1 (fun x m q=>ds x (Zz2 _ (hin x m)) (hinR x q)) (fun x m q=>dnw x m (Zz2 _ (hin x q))) hlen h9' e3
   have ed:dnn d (k::ks).length=dnn (dn d) ks.length:=by rw[List.length_cons,Zqk h9]
   rw[ed]
   refine⟨a,us,qs,qs',Fa,Ra,lead w a e4 l,Zy3 _ (hin a am),ea,hq,hf,gn,na,fun x m=>Zy3 _ (hin x (gs x m)),fun x m=>hinR x (gr x m),fun vs' Fx Rx r' n' na' nr' sub subR=>?_⟩
   obtain⟨G2,Q2,f1,f2,f3,f4⟩:=go vs' Fx Rx r' n' na' nr' sub subR
   have aF:a∈b::(F1++(G1++F2)):=Zz2 _ (hin a am)
   have:=rb (H.set a vs') w u' G2 Q2 f1 (fun x m=>Zy2 fun q=>by
    subst q
    rcases Zz8.mp m with m | m
    ·exact a5 a m a (Zz4 _ am) rfl
    ·exact a4 a am a m rfl) (fun x m=>Zy2 fun q=>by
    subst q
    exact ds a aF (by rcases Zz8.mp m with m | m <;> simp[m]))
   rw[Zh0 e4]at this
   have hab:a≠b:=fun q=>nb (hin b (q▸am))
   refine⟨_,_,back _ _ _ _ _ ((Zy2 hab).trans e0) this,List.nodup_cons.mpr ⟨fun q=>?_,nd3 nd f2 f3 (fun x m q=>dnw x m (Zz2 _ q))⟩,fun x m=>?_,in3 f4⟩
   ·rcases in3 f3 b q with m | m
    ·exact nb m
    ·exact dnw b m Zz5
   ·rcases Zz7.mp m with rfl | m
    ·exact .inl Zz5
    ·exact(in3 f3 x m).imp (Zz2 _) id
  have d0:0<d:=by omega
  cases t with
  | none=>first|exact Zx0 e|cases e
  | bool=>first|exact Zx0 e|cases e
  | int=>first|exact Zx0 e|cases e
  | str=>first|exact Zx0 e|cases e
  | tup=>first|exact Zx0 e|cases e
  | lst ts0=>
   obtain⟨j,e1,e⟩:=Zz0.mp e
   obtain⟨u,e2,e⟩:=Zz0.mp e
   obtain⟨u',e3,e⟩:=Zz1.mp e
   have hv:∃a,v=.ref a:=by
    obtain⟨G,rg,_⟩:=r.rf
    cases rg with
    | ref _ _=>exact⟨_,rfl⟩
   obtain⟨b,rfl⟩:=hv
   obtain⟨vs,ts,G,et,eF,e0,hs,back⟩:=r.inR d0
   cases et
   exact main b j vs ts0 G u u' .lst eF e.symm e0 hs e2 e3 (fun w a ew l=>.ref e0 (by rw[hs.length];exact e1) ew l) back
  | ob c ts0=>
   obtain⟨j,e1,e⟩:=Zz0.mp e
   obtain⟨u,e2,e⟩:=Zz0.mp e
   obtain⟨u',e3,e⟩:=Zz1.mp e
   have hv:∃a,v=.obj c a:=by
    obtain⟨G,rg,_⟩:=r.rf
    cases rg with
    | obj _ _=>exact⟨_,rfl⟩
   obtain⟨b,rfl⟩:=hv
   obtain⟨vs,ts,G,et,eF,e0,hs,back⟩:=r.inO d0
   cases et
   exact main b j vs ts0 G u u' (.ob c) eF e.symm e0 hs e2 e3 (fun w a ew l=>.obj e0 e1 ew l) back
noncomputable def Zb9: V→Int→Hp→Option V
 | .obj c a,k,H=>(ZiZ k).bind fun j=>H[a]?.bind fun vs=>vs[j]?
 | v,k,H=>if k≤-1000000 then none else(Zl v (.int k) H).map (·.1)
noncomputable def Zc3(H:Hp): List Int→V→Option V
 | [],v=>some v
 | k::ks,v=>(Zb9 v k H).bind fun q=>Zc3 H ks q
theorem Zpu{k:Int}{n j:Nat}(h:ZgE k n=some j): ¬k≤-1000000∧seqIndex? k n=some j:=by
 unfold ZgE at h
 split at h
 ·first|exact Zx0 h|cases h
 ·rename_i q;exact⟨q,h⟩
theorem LeadU.follow{H:Hp}{ks:List Int}{v:V}{a:Nat}(l:LeadU H ks v a): Zc3 H ks v=some (.ref a):=by
 induction l with
 | nil=>rfl
 | ref h1 h2 h3 _ ih=>
  obtain⟨q1,q2⟩:=Zpu h2
  simp only[Zc3,Zb9,if_neg q1,Zl,h1,Zs0,q2,h3,Zs1,ih]
 | obj h1 h2 h3 _ ih=>simp only[Zc3,Zb9,h1,h2,Zs0,h3,ih]
theorem Zne{H:Hp}(X:Hp){v w:V}{k:Int}(h:Zb9 v k H=some w): Zb9 v k (H++X)=some w:=by
 cases v with
 | obj c a=>
  simp only[Zb9]at h ⊢
  obtain⟨j,h1,h⟩:=Zz0.mp h
  obtain⟨vs,h2,h⟩:=Zz0.mp h
  rw[h1,Zs0,Zy0 (Zz6.mp h2).1,h2,Zs0,h]
 | none=>simp only[Zb9]at h ⊢;split at h;cases h;rename_i q;rw[if_neg q];cases h
 | bool=>simp only[Zb9]at h ⊢;split at h;cases h;rename_i q;rw[if_neg q];cases h
 | int=>simp only[Zb9]at h ⊢;split at h;cases h;rename_i q;rw[if_neg q];cases h
 | str=>simp only[Zb9]at h ⊢;split at h;cases h;rename_i q;rw[if_neg q];cases h
 | tup vs=>
  simp only[Zb9]at h ⊢
  split at h
  ·first|exact Zx0 h|cases h
  ·rename_i q
   rw[if_neg q]
   obtain⟨⟨w',K⟩,h1,h2⟩:=Zz1.mp h
   rw[(ZhQ h1 X).2]
   exact congrArg some h2
 | ref a=>
  simp only[Zb9]at h ⊢
  split at h
  ·first|exact Zx0 h|cases h
  ·rename_i q
   rw[if_neg q]
   obtain⟨⟨w',K⟩,h1,h2⟩:=Zz1.mp h
   rw[(ZhQ h1 X).2]
   exact congrArg some h2
theorem Zey{H:Hp}(X:Hp): ∀{ks:List Int} {v w:V},Zc3 H ks v=some w→Zc3 (H++X) ks v=some w
 | [],_,_,h=>h
 | k::ks,v,w,h=>by
  obtain⟨w1,h1,h2⟩:=Zz0.mp h
  simp only[Zc3,Zne X h1,Zs0]
  exact Zey X h2
noncomputable def PaU(O:List Nat)(x:Nat)(e:Ex)(p:PPa): Prop:=∀(c:Ctx) (ρ:Lc) (σ:TL) (H:Hp) (Φ:Nat→List Nat) (ks:List Int) (v w:V),St c O ρ σ H Φ→p σ=some ks→ρ x=some v→Zc3 H ks v=some w→∃X,e ρ H=some (w,H++X)
section
variable {O:List Nat}
theorem Zf7{x:Nat}: PaU O x (Za x) ZbJ:=fun c ρ σ H Φ ks v w s h e f=>by
 cases h;cases f
 exact⟨[],by simp[Za,e]⟩
end
noncomputable def Sp(H:Hp)(d:Nat)(v:V)(t:T)(F:List Nat): Prop:=∃R,RD H d v t F R∧F.Nodup∧∀a∈F,a∉R
theorem Sp.sub{H:Hp}{d:Nat}{v:V}{t:T}{F G:List Nat}(s:Sp H d v t F)(r:RF H v t G): ∀a∈F,a∈G:=fun a m=>by
 obtain⟨R,h1,_⟩:=s
 obtain⟨G',h2,h3⟩:=h1.rf
 obtain⟨_,e⟩:=r.det h2
 rw[e]
 exact h3.subset (Zz4 _ m)
theorem Sp.frame{H H':Hp}{d:Nat}{v:V}{t:T}{F G:List Nat}(s:Sp H d v t F)(r:RF H v t G)(h:∀a∈G,H'[a]?=H[a]?): Sp H' d v t F:=by
 obtain⟨R,h1,h4⟩:=s
 obtain⟨G',h2,h3⟩:=h1.rf
 obtain⟨_,e⟩:=r.det h2
 subst e
 exact⟨R,h1.frame (fun a m=>h a (h3.subset (Zz4 _ m))) (fun a m=>h a (h3.subset (Zz3 _ m))),h4⟩
theorem RF.sp{H:Hp}{v:V}{t:T}{G:List Nat}(d:Nat)(r:RF H v t G)(nd:G.Nodup): ∃F,Sp H d v t F∧∀a∈F,a∈G:=by
 obtain⟨F,R,h1,h2⟩:=r.rd d
 have:=h2.nodup_iff.mpr nd
 obtain⟨n1,n2,n3⟩:=List.nodup_append.mp this
 exact⟨F,⟨R,h1,n1,fun a m q=>n3 a m a q rfl⟩,fun a m=>h2.subset (Zz4 _ m)⟩
end TM
end
section
namespace TM
open PySem PM
noncomputable abbrev PX:=TL→Option (T×TL)
noncomputable abbrev PBX:=TL→Option (Bool×TL)
noncomputable abbrev Sps:=List (Nat×Nat)
structure Cu extends Ctx where
 Fs:Nat→List Nat
 fs:∀i,∀a∈Fs i,a∈F0
structure Su(c:Cu)(O:List Nat)(S:Sps)(ρ:Lc)(σ:TL)(H:Hp)(Φ Ψ:Nat→List Nat): Prop where
 st:St c.toCtx O ρ σ H Φ
 sp:∀i d,(i,d)∈S→∀t,σ i=some t→∃v,ρ i=some v∧Sp H d v t (Ψ i)∧(∀a∈Ψ i,c.H0.length≤a∨a∈c.Fs i)∧∀j u,j≠i→σ j=some u→∀a∈Ψ i,a∉Φ j
 ap:∀i∈O,∀d,(i,d)∉S
 nw:∀i∈O,∀t,σ i=some t→∀a∈Φ i,c.H0.length≤a
noncomputable def SH(S:Sps)(σ:TL)(Ψ:Nat→List Nat)(a:Nat): Prop:=∃i d,(i,d)∈S∧(∃t,σ i=some t)∧a∈Ψ i
section
variable {c:Cu} {O:List Nat} {S:Sps} {ρ:Lc} {σ:TL} {H:Hp} {Φ Ψ:Nat→List Nat}
theorem Su.low(s:Su c O S ρ σ H Φ Ψ){k:Nat}{t:T}(e:σ k=some t): ∀a∈Φ k,a<H.length:=fun a m=>by
 obtain⟨_,_,r⟩:=s.st.slot k t e
 exact r.lt a m
theorem Su.up(s:Su c O S ρ σ H Φ Ψ){i d:Nat}(hi:(i,d)∈S){t:T}(e:σ i=some t): ∀a∈Ψ i,a∈Φ i:=fun a m=>by
 obtain⟨v,h1,h2,_⟩:=s.sp i d hi t e
 obtain⟨v',k1,k2⟩:=s.st.slot i t e
 rw[h1]at k1
 cases k1
 exact h2.sub k2 a m
theorem Su.shlow(s:Su c O S ρ σ H Φ Ψ){a:Nat}(h:SH S σ Ψ a): a<H.length:=by
 obtain⟨i,d,hi,⟨t,e⟩,m⟩:=h
 exact s.low e a (s.up hi e a m)
theorem Su.shoff(s:Su c O S ρ σ H Φ Ψ){a n:Nat}{t:T}(h:SH S σ Ψ a)(hn:∀d,(n,d)∉S)(e:σ n=some t): a∉Φ n:=by
 obtain⟨i,d,hi,⟨t',e'⟩,m⟩:=h
 obtain⟨_,_,_,_,k⟩:=s.sp i d hi t' e'
 exact k n t (fun q=>hn d (q▸hi)) e a m
theorem Su.ext(s:Su c O S ρ σ H Φ Ψ)(X:Hp): Su c O S ρ σ (H++X) Φ Ψ:=⟨s.st.ext X,fun i d hi t e=>by
 obtain⟨v,h1,h2,h3⟩:=s.sp i d hi t e
 obtain⟨v',k1,k2⟩:=s.st.slot i t e
 rw[h1]at k1
 cases k1
 exact⟨v,h1,h2.frame k2 fun a m=>Zy0 (k2.lt a m),h3⟩,s.ap,s.nw⟩
theorem Su.less{O':List Nat}{S':Sps}(s:Su c O S ρ σ H Φ Ψ)(h:∀i∈O',i∈O)(k:∀q∈S',q∈S): Su c O' S' ρ σ H Φ Ψ:=⟨s.st.less h,fun i d hi=>s.sp i d (k _ hi),fun i hi d m=>s.ap i (h i hi) d (k _ m),fun i hi=>s.nw i (h i hi)⟩
theorem ZaR{k j:Nat}{t:T}(e:Z9 σ k j=some t): j≠k∧σ j=some t:=by
 unfold Z9 at e
 split at e
 ·first|exact Zx0 e|cases e
 ·rename_i h;exact⟨h,e⟩
theorem Zme{N:List Nat}{j:Nat}{t:T}(e:ZbX σ N j=some t): j∉N∧σ j=some t:=by
 unfold ZbX at e
 split at e
 ·first|exact Zx0 e|cases e
 ·rename_i h;exact⟨h,e⟩
theorem Su.fewer{τ:TL}(s:Su c O S ρ σ H Φ Ψ)(h:∀j t,τ j=some t→σ j=some t): Su c O S ρ τ H Φ Ψ:=
 ⟨⟨fun i t e=>s.st.slot i t (h _ _ e),fun i t e=>s.st.src i t (h _ _ e),fun i hi t e=>by
  obtain⟨h1,h2,h3⟩:=s.st.own i hi t (h _ _ e)
  exact⟨h1,h2,fun j u hj ej=>h3 j u hj (h _ _ ej)⟩,s.st.len,s.st.keep,s.st.pos,s.st.f0⟩,fun i d hi t e=>by
  obtain⟨v,h1,h2,h3,h4⟩:=s.sp i d hi t (h _ _ e)
  exact⟨v,h1,h2,h3,fun j u hj ej=>h4 j u hj (h _ _ ej)⟩,s.ap,fun i hi t e=>s.nw i hi t (h _ _ e)⟩
theorem Su.del(s:Su c O S ρ σ H Φ Ψ)(k:Nat): Su c O S ρ (Z9 σ k) H Φ Ψ:=s.fewer fun j t e=>(ZaR e).2
theorem SH.fewer{τ:TL}{a:Nat}(h:∀j t,τ j=some t→σ j=some t)(x:SH S τ Ψ a): SH S σ Ψ a:=by
 obtain⟨i,d,hi,⟨t,e⟩,m⟩:=x
 exact⟨i,d,hi,⟨t,h _ _ e⟩,m⟩
theorem SH.del{k a:Nat}(hS:∀d,(k,d)∉S): SH S (Z9 σ k) Ψ a↔SH S σ Ψ a:=by
 constructor
 ·exact SH.fewer fun j t e=>(ZaR e).2
 ·rintro⟨i,d,hi,⟨t,e⟩,m⟩
  exact⟨i,d,hi,⟨t,by unfold Z9;rw[if_neg (fun q:i=k=>hS d (q▸hi))];exact e⟩,m⟩
theorem ZeA{k j:Nat}{t u:T}(e:ZC σ k t j=some u): (j=k∧u=t)∨(j≠k∧σ j=some u):=by
 unfold ZC at e
 split at e
 ·rename_i h;cases e;exact .inl ⟨h,rfl⟩
 ·rename_i h;exact .inr ⟨h,e⟩
theorem Zai{k j:Nat}{t u:T}(e:ZC σ k t j=some u)(h:j≠k): σ j=some u:=by
 rcases ZeA e with⟨q,_⟩ | ⟨_,e⟩
 ·exact absurd q h
 ·exact e
theorem ZeZ{k a:Nat}{t1:T}(hS:∀d,(k,d)∉S): SH S (ZC σ k t1) Ψ a↔SH S σ Ψ a:=by
 constructor
 ·rintro⟨i,d,hi,⟨t,e⟩,m⟩
  exact⟨i,d,hi,⟨t,Zai e fun q=>hS d (q▸hi)⟩,m⟩
 ·rintro⟨i,d,hi,⟨t,e⟩,m⟩
  exact⟨i,d,hi,⟨t,by unfold ZC;rw[if_neg (fun q:i=k=>hS d (q▸hi))];exact e⟩,m⟩
theorem Su.putL{k:Nat}{v:V}{t:T}{F:List Nat}(s:Su c O S ρ σ H Φ Ψ)(hk:k∉O)(hS:∀d,(k,d)∉S)(r:RF H v t F)(hs:∀a∈F,c.H0.length≤a∨c.P a)(ho:∀i∈O,∀t',σ i=some t'→∀a∈Φ i,a∉F)(hp:∀a,SH S σ Ψ a→a∉F): Su c O S (upd ρ k v) (ZC σ k t) H (Zr Φ k F) Ψ:=
 ⟨s.st.put hk r hs ho,fun i d hi u e=>by
  have ne:i≠k:=fun q=>hS d (q▸hi)
  have e0:=Zai e ne
  obtain⟨w,h1,h2,h3,h4⟩:=s.sp i d hi u e0
  refine⟨w,by simp[PM.upd,ne,h1],h2,h3,fun j u' hj ej a m=>?_⟩
  by_cases q:j=k
  ·rw[q];simpa [Zr]using hp a ⟨i,d,hi,⟨u,e0⟩,m⟩
  ·simpa [Zr,q]using h4 j u' hj (Zai ej q) a m,s.ap,fun i hi t e=>by
  have q:i≠k:=fun q=>hk (q▸hi)
  simpa [Zr,q]using s.nw i hi t (Zai e q)⟩
theorem Su.putO{k:Nat}{v:V}{t:T}{F:List Nat}{O':List Nat}(s:Su c O S ρ σ H Φ Ψ)(hO:∀j∈O',j∈O∨j=k)(hS:∀d,(k,d)∉S)(r:RF H v t F)(nd:F.Nodup)(hn:∀a∈F,c.H0.length≤a)(hd:∀j u,j≠k→σ j=some u→∀a∈F,a∉Φ j): Su c O' S (upd ρ k v) (ZC σ k t) H (Zr Φ k F) Ψ:=by
 refine⟨⟨fun i u e=>?_,fun i u e=>?_,fun i hi u e=>?_,s.st.len,s.st.keep,s.st.pos,s.st.f0⟩,fun i d hi u e=>?_,fun i hi d m=>?_,fun i hi u e=>?_⟩
 ·by_cases q:i=k
  ·subst q
   rcases ZeA e with⟨_,q'⟩ | ⟨q',_⟩
   ·subst q';exact⟨v,by simp[PM.upd],by simpa [Zr]using r⟩
   ·exact absurd rfl q'
  ·simpa [PM.upd,Zr,q]using s.st.slot i u (Zai e q)
 ·by_cases q:i=k
  ·subst q;simpa [Zr]using fun a m=>Or.inl (hn a m)
  ·simpa [Zr,q]using s.st.src i u (Zai e q)
 ·by_cases q:i=k
  ·subst q
   simp only[Zr,if_true]
   refine⟨nd,fun a m=>.inl (hn a m),fun j w hj ej a m=>?_⟩
   simpa [hj]using hd j w hj (Zai ej hj) a m
  ·have hi':=(hO i hi).resolve_right q
   have e0:=Zai e q
   obtain⟨h1,h2,h3⟩:=s.st.own i hi' u e0
   simp only[Zr,q,if_false]
   refine⟨h1,h2,fun j w hj ej a m=>?_⟩
   by_cases q2:j=k
   ·simp only[q2,if_true]
    exact fun m2=>hd i u q e0 a m2 m
   ·simpa [q2]using h3 j w hj (Zai ej q2) a m
 ·have ne:i≠k:=fun q=>hS d (q▸hi)
  have e0:=Zai e ne
  obtain⟨w,h1,h2,h3,h4⟩:=s.sp i d hi u e0
  refine⟨w,by simp[PM.upd,ne,h1],h2,h3,fun j u' hj ej a m=>?_⟩
  by_cases q:j=k
  ·simp only[Zr,q,if_true]
   exact fun m2=>hd i u ne e0 a m2 (s.up hi e0 a m)
  ·simpa [Zr,q]using h4 j u' hj (Zai ej q) a m
 ·rcases hO i hi with q | q
  ·exact s.ap i q d m
  ·exact hS d (q▸m)
 ·by_cases q:i=k
  ·subst q;simpa [Zr]using hn
  ·simpa [Zr,q]using s.nw i ((hO i hi).resolve_right q) u (Zai e q)
theorem Su.drop{O1:List Nat}{k:Nat}{v:V}(s:Su c O1 S (upd ρ k v) σ H Φ Ψ)(hO:∀i∈O,i∈O1): Su c O S ρ (Z9 σ k) H Φ Ψ:=by
 have s:=(s.del k).less hO (fun q h=>h)
 refine⟨⟨fun i t e=>?_,s.st.src,s.st.own,s.st.len,s.st.keep,s.st.pos,s.st.f0⟩,fun i d hi t e=>?_,s.ap,s.nw⟩
 ·obtain⟨w,h1,h2⟩:=s.st.slot i t e
  exact⟨w,by simpa [PM.upd,(ZaR e).1]using h1,h2⟩
 ·obtain⟨w,h1,h2⟩:=s.sp i d hi t e
  exact⟨w,by simpa [PM.upd,(ZaR e).1]using h1,h2⟩
end
noncomputable def EX(O:List Nat)(S:Sps)(N:List Nat)(u:Bool)(e:Ex)(p:PX): Prop:=∀(c:Cu) (ρ:Lc) (σ:TL) (H:Hp) (Φ Ψ:Nat→List Nat) (t:T) (σ':TL),Su c O S ρ σ H Φ Ψ→p σ=some (t,σ') →
 ∃v H' Φ' Ψ' F,e ρ H=some (v,H')∧H.length≤H'.length∧(∀a,a<H.length→¬SH S σ Ψ a→H'[a]?=H[a]?)∧Su c O S ρ σ' H' Φ' Ψ'∧(∀j t,(∀d,(j,d)∉S)→σ' j=some t→σ j=some t∧Φ' j=Φ j)∧(∀a,SH S σ' Ψ' a→H.length≤a∨SH S σ Ψ a)∧(∀s d,(s,d)∈S→(∃t,σ' s=some t)→∀a∈Φ' s,H.length≤a∨∃j,(∃t,σ j=some t)∧a∈Φ j)∧RF H' v t F∧(∀a∈F,From H N σ Φ a)∧(∀a,SH S σ' Ψ' a→a∉F) ∧
  (u=true→F.Nodup∧((∀n∈N,n∈O∧∀d,(n,d)∉S)→∀s d,(s,d)∈S→(∃t,σ' s=some t)→∀a∈Φ' s,a∉F))
noncomputable def BX(O:List Nat)(S:Sps)(e:Ts)(p:PBX): Prop:=∀(c:Cu) (ρ:Lc) (σ:TL) (H:Hp) (Φ Ψ:Nat→List Nat) (b:Bool) (σ':TL),Su c O S ρ σ H Φ Ψ→p σ=some (b,σ') →
 ∃H' Φ' Ψ',e ρ H=some (b,H')∧H.length≤H'.length∧(∀a,a<H.length→¬SH S σ Ψ a→H'[a]?=H[a]?)∧Su c O S ρ σ' H' Φ' Ψ'∧(∀j t,(∀d,(j,d)∉S)→σ' j=some t→σ j=some t∧Φ' j=Φ j)∧(∀a,SH S σ' Ψ' a→H.length≤a∨SH S σ Ψ a)
noncomputable def xP(p:PE): PX:=fun σ=>(p σ).map fun t=>(t,σ)
noncomputable def xB(p:PB): PBX:=fun σ=>(p σ).map fun t=>(t,σ)
section
variable {O N:List Nat} {S:Sps} {u:Bool}
theorem Z7{e:Ex}{p:PE}(x:E O N u e p)(hN:∀n∈N,∀q∈S,q.1≠n): EX O S N u e (xP p):=fun c ρ σ H Φ Ψ t σ' s h=>by
 have hN:∀n∈N,∀d,(n,d)∉S:=fun n hn d m=>hN n hn _ m rfl
 obtain⟨t',h1,h⟩:=Zz1.mp h
 cases h
 obtain⟨v,X,F,a1,a2,a3,a4⟩:=x c.toCtx ρ σ H Φ t s.st h1
 refine⟨v,H++X,Φ,Ψ,F,a1,by simp,fun a ha _=>Zy0 ha,s.ext X,fun j t _ e=>⟨e,rfl⟩,fun a h=>.inr h,fun s' d _ ⟨t,e⟩ a m=>.inr ⟨s',⟨t,e⟩,m⟩,a2,a3,fun a h q=>?_,fun hu=>⟨a4 hu,fun hN' s' d hs ⟨t',e⟩ a m q=>?_⟩⟩
 ·rcases a3 a q with h' | ⟨n,hn,⟨tn,en⟩,mn⟩
  ·have:=s.shlow h;omega
  ·exact s.shoff h (hN n hn) en mn
 ·rcases a3 a q with h' | ⟨n,hn,⟨tn,en⟩,mn⟩
  ·have:=s.low e a m;omega
  ·exact(s.st.own n (hN' n hn).1 tn en).2.2 s' t' (fun q=>hN n hn d (q▸hs)) e a mn m
theorem Zbp{e:Ts}{p:PB}(x:Bt O e p): BX O S e (xB p):=fun c ρ σ H Φ Ψ t σ' s h=>by
 obtain⟨t',h1,h⟩:=Zz1.mp h
 cases h
 obtain⟨X,a1⟩:=x c.toCtx ρ σ H Φ t s.st h1
 exact⟨H++X,Φ,Ψ,a1,by simp,fun a ha _=>Zy0 ha,s.ext X,fun j t _ e=>⟨e,rfl⟩,fun a h=>.inr h⟩
theorem Zjx{σ σ1:TL}{H H1 H2:Hp}{Ψ Ψ1:Nat→List Nat}(l:H.length≤H1.length)(a3:∀a,a<H.length→¬SH S σ Ψ a→H1[a]?=H[a]?)(a6:∀a,SH S σ1 Ψ1 a→H.length≤a∨SH S σ Ψ a)(b3:∀a,a<H1.length→¬SH S σ1 Ψ1 a→H2[a]?=H1[a]?): ∀a,a<H.length→¬SH S σ Ψ a→H2[a]?=H[a]?:=fun a ha hn=>by
 rw[b3 a (by omega) fun q=>(a6 a q).elim (fun q=>by omega) hn,a3 a ha hn]
theorem ZjO{σ σ1 σ2:TL}{H H1:Hp}{Ψ Ψ1 Ψ2:Nat→List Nat}(l:H.length≤H1.length)(a6:∀a,SH S σ1 Ψ1 a→H.length≤a∨SH S σ Ψ a)(b6:∀a,SH S σ2 Ψ2 a→H1.length≤a∨SH S σ1 Ψ1 a): ∀a,SH S σ2 Ψ2 a→H.length≤a∨SH S σ Ψ a:=fun a h=>by
 rcases b6 a h with q | q
 ·exact .inl (by omega)
 ·exact a6 a q
end
noncomputable def Ct(k:Nat)(C:Ex→Ex): Prop:=∀e ρ H,C e ρ H=(e ρ H).bind fun p=>C (Za k) (upd ρ k p.1) p.2
noncomputable def Vl(k:Nat)(f:Ex): Prop:=∃g:Lc→Option V,(∀ρ H,f ρ H=(g ρ).map fun v=>(v,H))∧∀ρ v,g (upd ρ k v)=g ρ
noncomputable def Of(k:Nat)(f:Ex): Prop:=∀ρ v H,f (upd ρ k v) H=f ρ H
noncomputable def Ofs(k:Nat)(f:ZX): Prop:=∀ρ v H,f (upd ρ k v) H=f ρ H
noncomputable def Cts(k:Nat)(C:Ex→ZX): Prop:=∀e ρ H,C e ρ H=(e ρ H).bind fun p=>C (Za k) (upd ρ k p.1) p.2
section
variable {k:Nat}
theorem ZaS: Ct k fun e=>e:=fun e ρ H=>by
 show e ρ H=(e ρ H).bind fun p=>Za k (upd ρ k p.1) p.2
 cases e ρ H with
 | none=>rfl
 | some p=>simp[Za,upd]
theorem Zdt{o:V→V→Hp→Option (V×Hp)}{C:Ex→Ex}{g:Ex}(h:Ct k C)(hg:Of k g): Ct k fun e=>Zc o (C e) g:=fun e ρ H=>by
 simp only[Zc]
 rw[h e ρ H]
 cases e ρ H with
 | none=>rfl
 | some p=>simp only[Zs0,hg ρ p.1]
theorem Zf8{o:V→V→Hp→Option (V×Hp)}{C:Ex→Ex}{f:Ex}(h:Ct k C)(hf:Vl k f): Ct k fun e=>Zc o f (C e):=fun e ρ H=>by
 obtain⟨g,h1,h2⟩:=hf
 simp only[Zc,h1,h2]
 cases g ρ with
 | none=>cases e ρ H <;> rfl
 | some v=>
  simp only[Zs1,Zs0]
  rw[h e ρ H]
  cases e ρ H with
  | none=>rfl
  | some p=>rfl
theorem Cts.head{C:Ex→Ex}{g:ZX}(h:Ct k C)(hg:Ofs k g): Cts k fun e=>Zb (C e) g:=fun e ρ H=>by
 simp only[Zb]
 rw[h e ρ H]
 cases e ρ H with
 | none=>rfl
 | some p=>simp only[Zs0,hg ρ p.1]
theorem ZaG{C:Ex→ZX}{f:Ex}(h:Cts k C)(hf:Vl k f): Cts k fun e=>Zb f (C e):=fun e ρ H=>by
 obtain⟨g,h1,h2⟩:=hf
 simp only[Zb,h1,h2]
 cases g ρ with
 | none=>cases e ρ H <;> rfl
 | some v=>
  simp only[Zs1,Zs0]
  rw[h e ρ H]
  cases e ρ H with
  | none=>rfl
  | some p=>rfl
theorem Ct.tup{C:Ex→ZX}(h:Cts k C): Ct k fun e=>Z3 (C e):=fun e ρ H=>by
 simp only[Z3]
 rw[h e ρ H]
 cases e ρ H with
 | none=>rfl
 | some p=>rfl
theorem Ct.list{C:Ex→ZX}(h:Cts k C): Ct k fun e=>Zad (C e):=fun e ρ H=>by
 simp only[Zad]
 rw[h e ρ H]
 cases e ρ H with
 | none=>rfl
 | some p=>rfl
theorem Ct.call{f:List V→Hp→Option (V×Hp)}{C:Ex→ZX}(h:Cts k C): Ct k fun e=>Zk f (C e):=fun e ρ H=>by
 simp only[Zk]
 rw[h e ρ H]
 cases e ρ H with
 | none=>rfl
 | some p=>rfl
theorem ZaZ{i:Nat}(h:i≠k): Vl k (Za i):=⟨fun ρ=>ρ i,fun ρ H=>rfl,fun ρ v=>by simp[upd,h]⟩
theorem Vl.int{i:Int}: Vl k (Ze i):=⟨fun _=>some (.int i),fun ρ H=>rfl,fun ρ v=>rfl⟩
theorem Vl.none: Vl k Zbi:=⟨fun _=>some .none,fun ρ H=>rfl,fun ρ v=>rfl⟩
theorem Vl.bool{i:Bool}: Vl k (Zbs i):=⟨fun _=>some (.bool i),fun ρ H=>rfl,fun ρ v=>rfl⟩
theorem Vl.str{i:Str}: Vl k (ZN i):=⟨fun _=>some (.str i),fun ρ H=>rfl,fun ρ v=>rfl⟩
end
noncomputable def ZaP(k:Nat)(p1 p2:PX): PX:=fun σ=>(p1 (Z9 σ k)).bind fun r=>(p2 (ZC r.2 k r.1)).map fun r2=>(r2.1,Z9 r2.2 k)
section
variable {O N:List Nat} {S:Sps} {u:Bool}
theorem ZhT{O1 N1:List Nat}{u1:Bool}{k:Nat}{C:Ex→Ex}{e:Ex}{p1 p2:PX}(hC:Ct k C)(x:EX O S N1 u1 e p1)(y:EX O1 S N u (C (Za k)) p2)(hO1:∀i∈O,i∈O1)(hS:∀d,(k,d)∉S)(hN:∀n∈N,∀d,(n,d)∉S)
  (go:∀(c:Cu) (ρ:Lc) (σ σ1:TL) (H H1:Hp) (Φ Ψ Φ1 Ψ1:Nat→List Nat) (v:V) (t:T) (F:List Nat),Su c O S ρ σ H Φ Ψ→H.length≤H1.length→Su c O S ρ σ1 H1 Φ1 Ψ1→(∀j t,(∀d,(j,d)∉S)→σ1 j=some t→σ j=some t∧Φ1 j=Φ j)→RF H1 v t F→(∀a∈F,From H N1 σ Φ a)→(∀a,SH S σ1 Ψ1 a→a∉F)→(u1=true→F.Nodup∧((∀n∈N1,n∈O∧∀d,(n,d)∉S)→∀s d,(s,d)∈S→(∃t,σ1 s=some t)→∀a∈Φ1 s,a∉F))→Su c O1 S (upd ρ k v) (ZC σ1 k t) H1 (Zr Φ1 k F) Ψ1)
  (c:Cu) (ρ:Lc) (σ:TL) (H:Hp) (Φ Ψ:Nat→List Nat) (t:T) (σ':TL) (s:Su c O S ρ σ H Φ Ψ) (h:ZaP k p1 p2 σ=some (t,σ')):
  ∃v H' Φ' Ψ' F,C e ρ H=some (v,H')∧H.length≤H'.length∧(∀a,a<H.length→¬SH S σ Ψ a→H'[a]?=H[a]?)∧Su c O S ρ σ' H' Φ' Ψ'∧(∀j t,(∀d,(j,d)∉S)→σ' j=some t→σ j=some t∧Φ' j=Φ j)∧(∀a,SH S σ' Ψ' a→H.length≤a∨SH S σ Ψ a)∧(∀s d,(s,d)∈S→(∃t,σ' s=some t)→∀a∈Φ' s,H.length≤a∨∃j,(∃t,σ j=some t)∧a∈Φ j)∧RF H' v t F∧(∀a∈F,H.length≤a∨∃n∈N.filter (fun n=>n != k)++(if k∈N then N1 else []),(∃t,σ n=some t)∧a∈Φ n)∧(∀a,SH S σ' Ψ' a→a∉F) ∧
   (u=true→F.Nodup∧((∀n∈N,n∈O1∧∀d,(n,d)∉S)→∀s d,(s,d)∈S→(∃t,σ' s=some t)→∀a∈Φ' s,a∉F)):=by
 obtain⟨⟨t1,σ1⟩,h1,h⟩:=Zz0.mp h
 obtain⟨⟨t2,σ2⟩,h2,h⟩:=Zz1.mp h
 cases h
 have sd:=s.del k
 obtain⟨v1,H1,Φ1,Ψ1,F1,a1,a2,a3,a4,a5,a6,a11,a7,a8,a9,a10⟩:=x c ρ (Z9 σ k) H Φ Ψ t1 σ1 sd h1
 have s1:=go c ρ (Z9 σ k) σ1 H H1 Φ Ψ Φ1 Ψ1 v1 t1 F1 sd a2 a4 a5 a7 a8 a9 a10
 simp only[SH.del hS]at a3 a6
 obtain⟨v2,H2,Φ2,Ψ2,F2,b1,b2,b3,b4,b5,b6,b11,b7,b8,b9,b10⟩:=y c (upd ρ k v1) (ZC σ1 k t1) H1 (Zr Φ1 k F1) Ψ1 t2 σ2 s1 h2
 simp only[ZeZ hS]at b3 b6
 have shd2:∀a,SH S (Z9 σ2 k) Ψ2 a→SH S σ2 Ψ2 a:=fun a=>(SH.del hS).mp
 refine⟨v2,H2,Φ2,Ψ2,F2,by rw[hC e ρ H,a1];exact b1,by omega,Zjx a2 a3 a6 b3,b4.drop hO1,fun j w hj ej=>?_,fun a h=>ZjO a2 a6 b6 a (shd2 a h),fun s' d hs ⟨w,ew⟩ a m=>?_,b7,fun a m=>?_,fun a h=>b9 a (shd2 a h),fun hu=>⟨(b10 hu).1,fun hn s' d hs hw=>?_⟩⟩
 ·obtain⟨q,ej⟩:=ZaR ej
  obtain⟨e1,e2⟩:=b5 j w hj ej
  obtain⟨e3,e4⟩:=a5 j w hj (Zai e1 q)
  exact⟨(ZaR e3).2,by rw[e2];simpa [Zr,q]using e4⟩
 ·rcases b11 s' d hs ⟨w,(ZaR ew).2⟩ a m with q | ⟨j,⟨w',e'⟩,mj⟩
  ·exact .inl (by omega)
  ·by_cases q:j=k
   ·subst q
    simp only[Zr,if_true]at mj
    rcases a8 a mj with q | ⟨n',_,⟨w',e'⟩,mn'⟩
    ·exact .inl q
    ·exact .inr ⟨n',⟨w',(ZaR e').2⟩,mn'⟩
   ·simp only[Zr,q,if_false]at mj
    have e1:=Zai e' q
    by_cases hjs:∀d,(j,d)∉S
    ·obtain⟨e3,e4⟩:=a5 j w' hjs e1
     exact .inr ⟨j,⟨w',(ZaR e3).2⟩,e4▸mj⟩
    ·obtain⟨d',hd⟩:=Classical.not_forall.mp hjs
     rcases a11 j d' (Classical.not_not.mp hd) ⟨w',e1⟩ a mj with q | ⟨j',⟨w2,e2⟩,m2⟩
     ·exact .inl q
     ·exact .inr ⟨j',⟨w2,(ZaR e2).2⟩,m2⟩
 ·rcases b8 a m with q | ⟨n,hn,⟨w,e⟩,mn⟩
  ·exact .inl (by omega)
  ·by_cases q:n=k
   ·subst q
    simp only[Zr,if_true]at mn
    rcases a8 a mn with q | ⟨n',hn',⟨w',e'⟩,mn'⟩
    ·exact .inl q
    ·refine .inr ⟨n',List.mem_append_right _ ?_,⟨w',(ZaR e').2⟩,mn'⟩
     rw[if_pos hn];exact hn'
   ·simp only[Zr,q,if_false]at mn
    obtain⟨e3,e4⟩:=a5 n w (hN n hn) (Zai e q)
    exact .inr ⟨n,Zy7 _ (Zy9.mpr ⟨hn,by simpa using q⟩),⟨w,(ZaR e3).2⟩,e4▸mn⟩
 ·obtain⟨w,ew⟩:=hw
  exact(b10 hu).2 hn s' d hs ⟨w,(ZaR ew).2⟩
theorem Zbv{k:Nat}{C:Ex→Ex}{e:Ex}{p1 p2:PX}(hC:Ct k C)(x:EX O S [] true e p1)(y:EX (k::O) S N u (C (Za k)) p2)(hS:∀q∈S,q.1≠k)(hN:∀n∈N,∀q∈S,q.1≠n): EX O S (N.filter (fun n=>n != k)) u (C e) (ZaP k p1 p2):=fun c ρ σ H Φ Ψ t σ' s h=>by
 have hS:∀d,(k,d)∉S:=fun d m=>hS _ m rfl
 have hN:∀n∈N,∀d,(n,d)∉S:=fun n hn d m=>hN n hn _ m rfl
 obtain⟨v,H',Φ',Ψ',F,a1,a2,a3,a4,a5,a6,a11,a7,a8,a9,a10⟩:=ZhT hC x y (fun i hi=>Zy3 _ hi) hS hN (fun c ρ σ σ1 H H1 Φ Ψ Φ1 Ψ1 v t F s l s1 old r fr sh un=>by
  have new1:∀a∈F,H.length≤a:=fun a m=>(fr a m).nil
  obtain⟨nd1,of1⟩:=un rfl
  refine s1.putO (fun j hj=>by rcases Zz7.mp hj with h | h;exact .inr h;exact .inl h) hS r nd1 (fun a m=>Nat.le_trans s.st.len (new1 a m)) (fun j w hj ej a m q=>?_)
  by_cases hjs:∀d,(j,d)∉S
  ·obtain⟨e1,e2⟩:=old j w hjs ej
   have:=s.low e1 a (e2▸q)
   have:=new1 a m
   omega
  ·obtain⟨d,hd⟩:=Classical.not_forall.mp hjs
   exact of1 (by simp) j d (Classical.not_not.mp hd) ⟨w,ej⟩ a q m) c ρ σ H Φ Ψ t σ' s h
 refine⟨v,H',Φ',Ψ',F,a1,a2,a3,a4,a5,a6,a11,a7,fun a m=>?_,a9,fun hu=>⟨(a10 hu).1,fun hn=>(a10 hu).2 fun n hn'=>?_⟩⟩
 ·have:=a8 a m
  have e0:(if k∈N then([]:List Nat)else [])=[]:=by split <;> rfl
  rw[e0,List.append_nil]at this
  exact this
 ·by_cases q:n=k
  ·subst q;exact⟨Zz5,hS⟩
  ·obtain⟨k1,k2⟩:=hn n (Zy9.mpr ⟨hn',by simpa using q⟩)
   exact⟨Zz2 _ k1,k2⟩
theorem Znf{k:Nat}{N1:List Nat}{u1:Bool}{C:Ex→Ex}{e:Ex}{p1 p2:PX}(hC:Ct k C)(x:EX O S N1 u1 e p1)(y:EX O S N u (C (Za k)) p2)(hk:k∉O)(hS:∀q∈S,q.1≠k)(hN1:∀n∈N1,n∉O∧∀q∈S,q.1≠n)(hN:∀n∈N,∀q∈S,q.1≠n): EX O S (N.filter (fun n=>n != k)++(if k∈N then N1 else [])) (u && !(N.contains k)) (C e) (ZaP k p1 p2):=fun c ρ σ H Φ Ψ t σ' s h=>by
 have hS:∀d,(k,d)∉S:=fun d m=>hS _ m rfl
 have hN:∀n∈N,∀d,(n,d)∉S:=fun n hn d m=>hN n hn _ m rfl
 have hN1':∀n∈N1,∀d,(n,d)∉S:=fun n hn d m=>(hN1 n hn).2 _ m rfl
 obtain⟨v,H',Φ',Ψ',F,a1,a2,a3,a4,a5,a6,a11,a7,a8,a9,a10⟩:=ZhT hC x y (fun i hi=>hi) hS hN (fun c ρ σ σ1 H H1 Φ Ψ Φ1 Ψ1 v t F s l s1 old r fr sh un=>by
  refine s1.putL hk hS r (fun a m=>s.st.from_src (fr a m)) (fun i hi w e a m q=>?_) sh
  obtain⟨e1,e2⟩:=old i w (s.ap i hi) e
  rw[e2]at m
  rcases fr a q with q | ⟨n,hn,⟨w',e'⟩,mn⟩
  ·have:=s.low e1 a m;omega
  ·exact(s.st.own i hi w e1).2.2 n w' (fun q=>(hN1 n hn).1 (q▸hi)) e' a m mn) c ρ σ H Φ Ψ t σ' s h
 refine⟨v,H',Φ',Ψ',F,a1,a2,a3,a4,a5,a6,a11,a7,a8,a9,fun hu=>?_⟩
 simp only[Bool.and_eq_true,Bool.not_eq_true',List.contains_eq_mem,decide_eq_false_iff_not]at hu
 refine⟨(a10 hu.1).1,fun hn=>(a10 hu.1).2 fun n hn'=>hn n ?_⟩
 exact Zz4 _ (Zy9.mpr ⟨hn',by simpa using fun q:n=k=>hu.2 (q▸hn')⟩)
end
end TM
end
section
namespace TM
open PySem PM
noncomputable def SimX(n:Nat)(sd:Sps)(fr:Bool)(f:List V→Hp→Option (V×Hp))(p:List T→Option (T×List T)): Prop:=
 ∀(H:Hp) (vs:List V) (ts:List T) (t:T) (us:List T) (Φ Ψ:Nat→List Nat),0<H.length→vs.length=n→ts.length=n →
 (∀(i:Nat) (t:T),ts[i]?=some t→∃v,vs[i]?=some v∧RF H v t (Φ i)) →
 (∀(i d:Nat),(i,d)∈sd→∀(v:V) (t:T),vs[i]?=some v→ts[i]?=some t→Sp H d v t (Ψ i)∧0∉Ψ i∧∀(j:Nat) (u:T),j≠i→ts[j]?=some u→∀a∈Ψ i,a∉Φ j) →
 p ts=some (t,us) →
 ∃(v:V) (H':Hp) (Φ' Ψ':Nat→List Nat) (F:List Nat),f vs H=some (v,H')∧H.length≤H'.length∧(∀a,a<H.length→(∀i d,(i,d)∈sd→a∉Ψ i)→H'[a]?=H[a]?)∧us.length=sd.length ∧
 (∀(k i d:Nat) (v:V) (u:T),sd[k]?=some (i,d)→vs[i]?=some v→us[k]?=some u→RF H' v u (Φ' i)∧Sp H' d v u (Ψ' i)∧(∀a∈Ψ' i,H.length≤a∨a∈Ψ i)∧(∀a∈Φ' i,H.length≤a∨∃j,j<n∧a∈Φ j)∧(∀a∈Ψ' i,a∉F)∧(∀j d',j≠i→(j,d')∈sd→∀a∈Ψ' i,a∉Φ' j)∧(fr=true→∀a∈Φ' i,a∉F)) ∧
 RF H' v t F∧(∀a∈F,H.length≤a∨∃j,j<n∧a∈Φ j)∧(fr=true→F.Nodup∧∀a∈F,H.length≤a)
noncomputable def XAs(O M:List Nat)(as:List (Option Nat))(es:ZX)(ps:PEs): Prop:=∀(c:Ctx) (ρ:Lc) (σ:TL) (H:Hp) (Φ:Nat→List Nat) (ts:List T),St c O ρ σ H Φ→ps σ=some ts→ts.length=as.length∧∃(vs:List V) (X:Hp),es ρ H=some (vs,H++X)∧vs.length=as.length∧(∀(i x:Nat),as[i]?=some (some x)→vs[i]?=ρ x∧ts[i]?=σ x)∧∀(i:Nat) (t:T),as[i]?=some none→ts[i]?=some t→∃v F,vs[i]?=some v∧RF (H++X) v t F∧∀a∈F,From H M σ Φ a
section
variable {O M:List Nat}
theorem XAs.nil: XAs O M [] Zd Zq:=fun c ρ σ H Φ ts s h=>by
 cases h
 exact⟨rfl,[],[],by simp[Zd],rfl,by simp,by simp⟩
theorem XAs.slot{x:Nat}{as:List (Option Nat)}{es:ZX}{ps:PEs}(y:XAs O M as es ps): XAs O M (some x::as) (Zb (Za x) es) (Zg (Zf x) ps):=fun c ρ σ H Φ ts s h=>by
 obtain⟨t,h1,h⟩:=Zz0.mp h
 obtain⟨rs,h2,h⟩:=Zz0.mp h
 cases h
 obtain⟨v,e1,_⟩:=s.slot x t h1
 obtain⟨l,vs,X,a1,a2,a3,a4⟩:=y c ρ σ H Φ rs s h2
 refine⟨by simp[l],v::vs,X,by simp[Zb,Za,e1,a1],by simp[a2],fun i z e=>?_,fun i t' e e'=>?_⟩
 ·cases i with
  | zero=>simp at e;subst e;exact⟨by simp[e1],by rw[List.getElem?_cons_zero];exact h1.symm⟩
  | succ i=>simpa using a3 i z (by simpa using e)
 ·cases i with
  | zero=>simp at e
  | succ i=>simpa using a4 i t' (by simpa using e) (by simpa using e')
theorem Zaf{N:List Nat}{u:Bool}{e:Ex}{p:PE}{as:List (Option Nat)}{es:ZX}{ps:PEs}(x:E O N u e p)(hN:∀n∈N,n∈M)(y:XAs O M as es ps): XAs O M (none::as) (Zb e es) (Zg p ps):=fun c ρ σ H Φ ts s h=>by
 obtain⟨t,h1,h⟩:=Zz0.mp h
 obtain⟨rs,h2,h⟩:=Zz0.mp h
 cases h
 obtain⟨v,X,F,e1,e2,e3,_⟩:=x c ρ σ H Φ t s h1
 obtain⟨l,vs,Y,a1,a2,a3,a4⟩:=y c ρ σ (H++X) Φ rs (s.ext X) h2
 refine⟨by simp[l],v::vs,X++Y,by simp[Zb,e1,a1],by simp[a2],fun i z e=>?_,fun i t' e e'=>?_⟩
 ·cases i with
  | zero=>simp at e
  | succ i=>simpa using a3 i z (by simpa using e)
 ·cases i with
  | zero=>
   simp at e'
   subst e'
   exact⟨v,F,by simp,by rw[←List.append_assoc];exact e2.ext Y,fun a m=>(e3 a m).mono hN⟩
  | succ i=>
   obtain⟨w,G,k1,k2,k3⟩:=a4 i t' (by simpa using e) (by simpa using e')
   exact⟨w,G,by simpa using k1,by rw[←List.append_assoc];exact k2,fun a m=>(k3 a m).back⟩
end
noncomputable def pick{α:Type}: List Nat→List α→(Nat→α)→Nat→α
 | x::xs,u::us,g=>fun j=>if j=x then u else pick xs us g j
 | _,_,g=>g
theorem ZeB{α:Type}{g:Nat→α}: ∀{xs:List Nat} {us:List α},xs.length=us.length→∀j,(∃(k:Nat) (u:α),xs[k]?=some j∧us[k]?=some u∧pick xs us g j=u)∨(j∉xs∧pick xs us g j=g j)
 | [],[],_,j=>.inr ⟨by simp,rfl⟩
 | x::xs,u::us,h,j=>by
  by_cases q:j=x
  ·exact .inl ⟨0,u,by simp[q],by simp,by simp[pick,q]⟩
  ·rcases ZeB (g:=g) (xs:=xs) (us:=us) (by simpa using h) j with⟨k,w,h1,h2,h3⟩ | ⟨h1,h2⟩
   ·exact .inl ⟨k+1,w,by simpa using h1,by simpa using h2,by simpa [pick,q]using h3⟩
   ·exact .inr ⟨by simp[q,h1],by simpa [pick,q]using h2⟩
theorem Zim{α:Type}{g:Nat→α}: ∀{xs:List Nat} {us:List α} {k j:Nat} {u:α},xs.Nodup→xs[k]?=some j→us[k]?=some u→pick xs us g j=u
 | [],_,_,_,_,_,h,_=>by simp at h
 | x::xs,[],_,_,_,_,_,h=>by simp at h
 | x::xs,w::us,0,j,u,nd,h1,h2=>by
  simp at h1 h2
  simp[pick,h1,h2]
 | x::xs,w::us,k+1,j,u,nd,h1,h2=>by
  simp at h1 h2
  have:j≠x:=fun q=>(List.nodup_cons.mp nd).1 (q▸Zy4 h1)
  simp only[pick,this,if_false]
  exact Zim (List.nodup_cons.mp nd).2 h1 h2
noncomputable def Zah(b:Bool)(xs:List Nat)(p:List T→Option (T×List T))(ps:PEs): PX:=fun σ=>(ps σ).bind fun ts=>(p ts).bind fun r=>if b=true→r.1.flat=true then some (r.1,pick xs (r.2.map some) σ)else none
section
variable {O M:List Nat} {S:Sps}
theorem EX.call{n:Nat}{sd:Sps}{fr b:Bool}{f:List V→Hp→Option (V×Hp)}{p:List T→Option (T×List T)}{as:List (Option Nat)}{es:ZX}{ps:PEs}{xs:List Nat}(k:SimX n sd fr f p)(y:XAs O M as es ps)(hb:fr=true∨b=true:=by decide)(hn:as.length=n:=by decide)
  (hx:xs.length=sd.length:=by decide) (nd:xs.Nodup:=by decide) (hS:∀k,k<sd.length→(xs.getD k 0,(sd.getD k (0,0)).2)∈S∧as[(sd.getD k (0,0)).1]?=some (some (xs.getD k 0)):=by decide) (ha:∀i,i<as.length→(as.getD i none=none∨i∈sd.map (·.1)):=by decide) (nds:(sd.map (·.1)).Nodup:=by decide)
  (uq:∀q∈S,∀r∈S,q.1=r.1→q.2=r.2:=by decide) (hM:∀m∈M,m∉O∧∀q∈S,q.1≠m:=by decide):EX O S [] true (Zk f es) (Zah b xs p ps):=fun c ρ σ H Φ Ψ t σ' s h=>by
 have hM':∀m∈M,∀d,(m,d)∉S:=fun m hm d q=>(hM m hm).2 _ q rfl
 have at_k:∀(k i d:Nat),sd[k]?=some (i,d)→∃x,xs[k]?=some x∧(x,d)∈S∧as[i]?=some (some x):=fun k i d e=>by
  have hk:=(Zz6.mp e).1
  obtain⟨h1,h2⟩:=hS k hk
  have e1:sd.getD k (0,0)=(i,d):=by simp[List.getD,e]
  rw[e1]at h1 h2
  have:k<xs.length:=by omega
  refine⟨xs[k],Zy1 this,?_,?_⟩
  ·simpa [List.getD,Zy1 this]using h1
  ·simpa [List.getD,Zy1 this]using h2
 have slotS:∀(i x:Nat),as[i]?=some (some x)→∃(k d:Nat),sd[k]?=some (i,d)∧xs[k]?=some x∧(x,d)∈S:=fun i x e=>by
  have hi:=(Zz6.mp e).1
  rcases ha i hi with q | q
  ·simp[List.getD,e]at q
  ·obtain⟨k,hk,q⟩:=List.getElem_of_mem q
   rw[List.length_map]at hk
   have q:(sd.getD k (0,0)).1=i:=by simpa [List.getD,Zy1 hk]using q
   have e1:sd[k]?=some (i,(sd.getD k (0,0)).2):=by
    rw[Zy1 hk]
    have:sd.getD k (0,0)=sd[k]:=by simp[List.getD,Zy1 hk]
    rw[this]at q ⊢
    rw[←q]
   obtain⟨x',h1,h2,h3⟩:=at_k k i _ e1
   rw[e]at h3
   cases h3
   exact⟨k,_,e1,h1,h2⟩
 obtain⟨ts,h1,h⟩:=Zz0.mp h
 obtain⟨⟨t0,us⟩,h2,h⟩:=Zz0.mp h
 split at h
 case isFalse=>first|exact Zx0 h|cases h
 rename_i hfl
 cases h
 obtain⟨l,vs,X,a1,a2,a3,a4⟩:=y c.toCtx ρ σ H Φ ts s.st h1
 have sX:=s.ext X
 have len:(H++X).length=H.length+X.length:=List.length_append
 have ex:∀i:Nat,∃G:List Nat,∀t:T,ts[i]?=some t→∃v,vs[i]?=some v∧RF (H++X) v t G∧(as[i]?=some none→∀a∈G,From H M σ Φ a)∧∀x,as[i]?=some (some x)→G=Φ x:=fun i=>by
  cases e:as[i]? with
  | none=>exact⟨[],fun t et=>by
    have:=(Zz6.mp et).1
    have:=List.getElem?_eq_none_iff.mp e
    omega⟩
  | some o=>
   cases o with
   | none=>
    cases et:ts[i]? with
    | none=>exact⟨[],fun t q=>by cases q⟩
    | some t=>
     obtain⟨v,F,k1,k2,k3⟩:=a4 i t e et
     exact⟨F,fun t' q=>by cases q;exact⟨v,k1,k2,(fun _=>k3),(fun x q=>by cases q)⟩⟩
   | some x=>
    obtain⟨k1,k2⟩:=a3 i x e
    refine⟨Φ x,fun t q=>?_⟩
    rw[k2]at q
    obtain⟨v,e1,e2⟩:=sX.st.slot x t q
    exact⟨v,k1.trans e1,e2,(fun q=>by cases q),(fun x' q=>by cases q;rfl)⟩
 let Φc:Nat→List Nat:=fun i=>Classical.choose (ex i)
 have hΦ:∀(i:Nat) (t:T),ts[i]?=some t→∃v,vs[i]?=some v∧RF (H++X) v t (Φc i)∧(as[i]?=some none→∀a∈Φc i,From H M σ Φ a)∧∀x,as[i]?=some (some x)→Φc i=Φ x:=fun i=>Classical.choose_spec (ex i)
 let Ψc:Nat→List Nat:=fun i=>match as[i]? with
  | some (some x)=>Ψ x
  | _=>[]
 have hΨ:∀(i x:Nat),as[i]?=some (some x)→Ψc i=Ψ x:=fun i x e=>by simp only[Ψc,e]
 have hp:0<(H++X).length:=by have:=s.st.pos;have:=s.st.len;omega
 have argsrc:∀j,j<n→∀a∈Φc j,H.length≤a∨(∃x d,(x,d)∈S∧x∈xs∧(∃t,σ x=some t)∧a∈Φ x)∨∃m∈M,(∃t,σ m=some t)∧a∈Φ m:=fun j hj a m=>by
  have hjt:j<ts.length:=by omega
  obtain⟨v,k1,k2,k3,k4⟩:=hΦ j ts[j] (Zy1 hjt)
  have hja:j<as.length:=by omega
  cases e:as[j]? with
  | none=>have:=List.getElem?_eq_none_iff.mp e;omega
  | some o=>
   cases o with
   | none=>
    rcases k3 e a m with q | q
    ·exact .inl q
    ·exact .inr (.inr q)
   | some x=>
    obtain⟨k,d,q1,q2,q3⟩:=slotS j x e
    have:=k4 x e
    rw[this]at m
    obtain⟨_,et⟩:=a3 j x e
    exact .inr (.inl ⟨x,d,q3,Zy4 q2,⟨ts[j],by rw[←et];exact Zy1 hjt⟩,m⟩)
 obtain⟨v,H',Φ',Ψ',F,b1,b2,b3,b4,b5,b6,b7,b8⟩:=k (H++X) vs ts t0 us Φc Ψc hp (by omega) (by omega) (fun i t e=>by
   obtain⟨v,k1,k2,_⟩:=hΦ i t e
   exact⟨v,k1,k2⟩) (fun i d hi v t ev et=>by
   obtain⟨k,hk,ek⟩:=List.getElem_of_mem hi
   obtain⟨x,x1,x2,x3⟩:=at_k k i d (by rw[Zy1 hk,ek])
   obtain⟨e1,e2⟩:=a3 i x x3
   rw[e1]at ev
   rw[e2]at et
   obtain⟨v',q1,q2,q3,q4⟩:=sX.sp x d x2 t et
   rw[ev]at q1
   cases q1
   rw[hΨ i x x3]
   refine⟨q2,fun m=>?_,fun j u hj ej a m q=>?_⟩
   ·have:=s.st.pos
    rcases q3 0 m with q | q
    ·omega
    ·exact s.st.f0 (c.fs _ _ q)
   ·obtain⟨v',k1,k2,k3,k4⟩:=hΦ j u ej
    have hjn:j<as.length:=by have:=(Zz6.mp ej).1;omega
    cases e:as[j]? with
    | none=>have:=List.getElem?_eq_none_iff.mp e;omega
    | some o=>
     cases o with
     | none=>
      rcases k3 e a q with q | ⟨m',hm',⟨tm,em⟩,mm⟩
      ·have:=s.low et a (s.up x2 et a m);omega
      ·exact q4 m' tm (fun q=>hM' m' hm' d (q▸x2)) em a m mm
     | some z=>
      rw[k4 z e]at q
      obtain⟨_,ez⟩:=a3 j z e
      obtain⟨k',d',z1,z2,z3⟩:=slotS j z e
      have:z≠x:=fun q=>by
       subst q
       have hk1:=(Zz6.mp z2).1
       have:k'=k:=(List.getElem?_inj hk1 nd).mp (z2.trans x1.symm)
       subst this
       rw[Zy1 hk,ek]at z1
       cases z1
       exact hj rfl
      exact q4 z u this (by rw[←ez];exact ej) a m q) h2
 have same:∀a,a<H.length→(∀x∈xs,a∉Ψ x)→H'[a]?=H[a]?:=fun a ha hn=>by
  rw[b3 a (by omega) fun i d hi m=>?_,Zy0 ha]
  obtain⟨k,hk,ek⟩:=List.getElem_of_mem hi
  obtain⟨x,x1,x2,x3⟩:=at_k k i d (by rw[Zy1 hk,ek])
  rw[hΨ i x x3]at m
  exact hn x (Zy4 x1) m
 have lus:xs.length=(us.map some).length:=by simp[b4,hx]
 have lsd1:xs.length=(sd.map fun q=>Φ' q.1).length:=by simp[hx]
 have lsd2:xs.length=(sd.map fun q=>Ψ' q.1).length:=by simp[hx]
 have chg:∀(kk x:Nat) (w:T),xs[kk]?=some x→us[kk]?=some w→∃(i d:Nat) (v0:V) (t0:T),sd[kk]?=some (i,d)∧(x,d)∈S∧as[i]?=some (some x)∧ρ x=some v0∧σ x=some t0∧vs[i]?=some v0∧pick xs (sd.map fun q=>Φ' q.1) Φ x=Φ' i∧pick xs (sd.map fun q=>Ψ' q.1) Ψ x=Ψ' i:=fun kk x w ex' ew=>by
  have hk:kk<sd.length:=by have:=(Zz6.mp ex').1;omega
  obtain⟨x',x1,x2,x3⟩:=at_k kk sd[kk].1 sd[kk].2 (Zy1 hk)
  rw[ex']at x1
  cases x1
  obtain⟨e1,e2⟩:=a3 _ x x3
  have hi:sd[kk].1<as.length:=(Zz6.mp x3).1
  have et:σ x=some ts[sd[kk].1]:=by rw[←e2];exact Zy1 (by omega)
  obtain⟨v0,ev0,_⟩:=s.st.slot x _ et
  refine⟨sd[kk].1,sd[kk].2,v0,_,Zy1 hk,x2,x3,ev0,et,e1.trans ev0,Zim nd ex' (by simp[Zy1 hk]),Zim nd ex' (by simp[Zy1 hk])⟩
 have unch:∀j,j∉xs→pick xs (us.map some) σ j=σ j∧pick xs (sd.map fun q=>Φ' q.1) Φ j=Φ j∧pick xs (sd.map fun q=>Ψ' q.1) Ψ j=Ψ j:=fun j hj=>by
  refine⟨?_,?_,?_⟩
  ·rcases ZeB (g:=σ) lus j with⟨k,u,q,_⟩ | ⟨_,q⟩
   ·exact absurd (Zy4 q) hj
   ·exact q
  ·rcases ZeB (g:=Φ) lsd1 j with⟨k,u,q,_⟩ | ⟨_,q⟩
   ·exact absurd (Zy4 q) hj
   ·exact q
  ·rcases ZeB (g:=Ψ) lsd2 j with⟨k,u,q,_⟩ | ⟨_,q⟩
   ·exact absurd (Zy4 q) hj
   ·exact q
 have slot_cases:∀(j:Nat) (w:T),pick xs (us.map some) σ j=some w→(∃kk:Nat,xs[kk]?=some j∧us[kk]?=some w)∨(j∉xs∧σ j=some w):=fun j w e=>by
  rcases ZeB (g:=σ) lus j with⟨k,u,q1,q2,q3⟩ | ⟨q1,q2⟩
  ·rw[q3]at e
   subst e
   rw[List.getElem?_map]at q2
   obtain⟨z,z1,z2⟩:=Zz1.mp q2
   cases z2
   exact .inl ⟨k,q1,z1⟩
  ·exact .inr ⟨q1,by rw[←q2];exact e⟩
 have xsS:∀x∈xs,∃d,(x,d)∈S:=fun x hx'=>by
  obtain⟨k,hk,e⟩:=List.getElem_of_mem hx'
  obtain⟨x',x1,x2,x3⟩:=at_k k sd[k].1 sd[k].2 (Zy1 (by omega))
  rw[Zy1 hk,e]at x1
  cases x1
  exact⟨_,x2⟩
 have xsσ:∀x∈xs,∃t,σ x=some t:=fun x hx'=>by
  obtain⟨k,hk,e⟩:=List.getElem_of_mem hx'
  have hu:k<us.length:=by omega
  obtain⟨_,_,_,t',_,_,_,_,q,_⟩:=chg k x us[k] (by rw[Zy1 hk,e]) (Zy1 hu)
  exact⟨t',q⟩
 have xsΨ:∀x∈xs,∀j u,j≠x→σ j=some u→∀a∈Ψ x,a∉Φ j:=fun x hx' j u hj ej a m=>by
  obtain⟨d,hd⟩:=xsS x hx'
  obtain⟨t',et⟩:=xsσ x hx'
  exact(s.sp x d hd t' et).choose_spec.2.2.2 j u hj ej a m
 have spsrc:∀i' d',(i',d')∈sd→∀a∈Ψc i',∃x∈xs,a∈Ψ x:=fun i' d' hi a m=>by
  obtain⟨k,hk,ek⟩:=List.getElem_of_mem hi
  obtain⟨x,x1,x2,x3⟩:=at_k k i' d' (by rw[Zy1 hk,ek])
  rw[hΨ i' x x3]at m
  exact⟨x,Zy4 x1,m⟩
 have fnew:∀a∈F,H.length≤a:=fun a m=>by
  rcases hb with q | q
  ·have:=(b8 q).2 a m;omega
  ·have:=b6.flat (hfl q);rw[this]at m;cases m
 have keepsl:∀j w,j∉xs→σ j=some w→∀a∈Φ j,H'[a]?=H[a]?:=fun j w hj ej a m=>same a (s.low ej a m) fun x hx' q=>xsΨ x hx' j w (fun e=>hj (e▸hx')) ej a q m
 have foff:∀x∈xs,∀(kk:Nat) (w:T),xs[kk]?=some x→us[kk]?=some w→∀a∈pick xs (sd.map fun q=>Φ' q.1) Φ x,H.length≤a∨(∃x d,(x,d)∈S∧x∈xs∧(∃t,σ x=some t)∧a∈Φ x)∨∃m∈M,(∃t,σ m=some t)∧a∈Φ m:=fun x hx' kk w ex' ew a m=>by
  obtain⟨i,d,v0,t1,q1,q2,q3,q4,q5,q6,q7,q8⟩:=chg kk x w ex' ew
  rw[q7]at m
  rcases(b5 kk i d v0 w q1 q6 ew).2.2.2.1 a m with q | ⟨j,hj,q⟩
  ·exact .inl (by omega)
  ·exact argsrc j hj a q
 refine⟨v,H',pick xs (sd.map fun q=>Φ' q.1) Φ,pick xs (sd.map fun q=>Ψ' q.1) Ψ,F,by simp only[Zk,a1,Zs0,b1],by omega,fun a ha hn=>same a ha fun x hx' m=>?_,?_,fun j w hj ej=>?_,fun a hh=>?_,fun s' d hs ⟨w,ew⟩ a m=>?_,b6,fun a m=>.inl (fnew a m),fun a hh m=>?_,fun _=>⟨?_,fun _ s' d hs ⟨w,ew⟩ a m q=>?_⟩⟩
 ·obtain⟨d,hd⟩:=xsS x hx'
  exact hn ⟨x,d,hd,xsσ x hx',m⟩
 ·refine⟨⟨fun j w ej=>?_,fun j w ej a m=>?_,fun i hi w ei=>?_,by have:=s.st.len;omega,fun a ha hn=>?_,s.st.pos,s.st.f0⟩,fun i d hi w ei=>?_,s.ap,fun i hi w ei=>?_⟩
  ·rcases slot_cases j w ej with⟨kk,e1,e2⟩ | ⟨e1,e2⟩
   ·obtain⟨i,d,v0,t1,q1,q2,q3,q4,q5,q6,q7,q8⟩:=chg kk j w e1 e2
    rw[q7]
    exact⟨v0,q4,(b5 kk i d v0 w q1 q6 e2).1⟩
   ·obtain⟨v0,r1,r2⟩:=s.st.slot j w e2
    rw[(unch j e1).2.1]
    exact⟨v0,r1,r2.frame (keepsl j w e1 e2)⟩
  ·rcases slot_cases j w ej with⟨kk,e1,e2⟩ | ⟨e1,e2⟩
   ·rcases foff j (Zy4 e1) kk w e1 e2 a m with q | ⟨x,d,_,_,⟨t1,et⟩,mx⟩ | ⟨m',_,⟨tm,em⟩,mm⟩
    ·exact .inl (by have:=s.st.len;omega)
    ·exact s.st.src x t1 et a mx
    ·exact s.st.src m' tm em a mm
   ·rw[(unch j e1).2.1]at m
    exact s.st.src j w e2 a m
  ·have hix:i∉xs:=fun q=>by obtain⟨d,hd⟩:=xsS i q;exact s.ap i hi d hd
   obtain⟨u1,u2,_⟩:=unch i hix
   rw[u1]at ei
   rw[u2]
   obtain⟨o1,o2,o3⟩:=s.st.own i hi w ei
   refine⟨o1,o2,fun j z hj ej a m q=>?_⟩
   rcases slot_cases j z ej with⟨kk,e1,e2⟩ | ⟨e1,e2⟩
   ·rcases foff j (Zy4 e1) kk z e1 e2 a q with q | ⟨x,d,_,hxx,⟨t1,et⟩,mx⟩ | ⟨m',hm',⟨tm,em⟩,mm⟩
    ·have:=s.low ei a m;omega
    ·exact o3 x t1 (fun q=>hix (q▸hxx)) et a m mx
    ·exact o3 m' tm (fun q=>(hM m' hm').1 (q▸hi)) em a m mm
   ·rw[(unch j e1).2.1]at q
    exact o3 j z hj e2 a m q
  ·rw[same a (by have:=s.st.len;omega) fun x hx' m=>?_]
   ·exact s.st.keep a ha hn
   ·obtain⟨d,hd⟩:=xsS x hx'
    obtain⟨t',et⟩:=xsσ x hx'
    rcases(s.sp x d hd t' et).choose_spec.2.2.1 a m with q | q
    ·omega
    ·exact hn (c.fs _ _ q)
  ·rcases slot_cases i w ei with⟨kk,e1,e2⟩ | ⟨e1,e2⟩
   ·obtain⟨i',d',v0,t1,q1,q2,q3,q4,q5,q6,q7,q8⟩:=chg kk i w e1 e2
    have:d=d':=uq _ hi _ q2 rfl
    subst this
    obtain⟨c1,c2,c3,c4,c5,c6,c7⟩:=b5 kk i' d v0 w q1 q6 e2
    rw[q8]
    refine⟨v0,q4,c2,fun a m=>?_,fun j z hj ej a m q=>?_⟩
    ·rcases c3 a m with q | q
     ·exact .inl (by have:=s.st.len;omega)
     ·rw[hΨ i' i q3]at q
      exact(s.sp i d hi t1 q5).choose_spec.2.2.1 a q
    ·rcases slot_cases j z ej with⟨kj,f1,f2⟩ | ⟨f1,f2⟩
     ·obtain⟨ij,dj,vj,tj,r1,r2,r3,r4,r5,r6,r7,r8⟩:=chg kj j z f1 f2
      rw[r7]at q
      have hne:ij≠i':=fun e=>by
       subst e
       have hk1:kj<(sd.map (·.1)).length:=by simp;exact(Zz6.mp r1).1
       have:kj=kk:=(List.getElem?_inj hk1 nds).mp (by simp[List.getElem?_map,r1,q1])
       subst this
       rw[e1]at f1
       cases f1
       exact hj rfl
      exact c6 ij dj hne (Zy4 r1) a m q
     ·rw[(unch j f1).2.1]at q
      rcases c3 a m with q' | q'
      ·have:=s.low f2 a q;omega
      ·rw[hΨ i' i q3]at q'
       exact xsΨ i (Zy4 e1) j z hj f2 a q' q
   ·obtain⟨u1,u2,u3⟩:=unch i e1
    rw[u3]
    obtain⟨v0,p1,p2,p3,p4⟩:=s.sp i d hi w e2
    obtain⟨v0',r1,r2⟩:=s.st.slot i w e2
    rw[p1]at r1
    cases r1
    refine⟨v0,p1,p2.frame r2 (keepsl i w e1 e2),p3,fun j z hj ej a m q=>?_⟩
    rcases slot_cases j z ej with⟨kj,f1,f2⟩ | ⟨f1,f2⟩
    ·rcases foff j (Zy4 f1) kj z f1 f2 a q with q | ⟨x,dx,_,hxx,⟨t1,et⟩,mx⟩ | ⟨m',hm',⟨tm,em⟩,mm⟩
     ·have:=s.low e2 a (s.up hi e2 a m);omega
     ·exact p4 x t1 (fun q=>e1 (q▸hxx)) et a m mx
     ·exact p4 m' tm (fun q=>hM' m' hm' d (q▸hi)) em a m mm
    ·rw[(unch j f1).2.1]at q
     exact p4 j z hj f2 a m q
  ·have hix:i∉xs:=fun q=>by obtain⟨d,hd⟩:=xsS i q;exact s.ap i hi d hd
   obtain⟨u1,u2,_⟩:=unch i hix
   rw[u1]at ei
   rw[u2]
   exact s.nw i hi w ei
 ·have hjx:j∉xs:=fun q=>by obtain⟨d,hd⟩:=xsS j q;exact hj d hd
  obtain⟨u1,u2,u3⟩:=unch j hjx
  exact⟨by rw[←u1];exact ej,u2⟩
 ·obtain⟨i,d,hi,⟨w,ei⟩,m⟩:=hh
  rcases slot_cases i w ei with⟨kk,e1,e2⟩ | ⟨e1,e2⟩
  ·obtain⟨i',d',v0,t1,q1,q2,q3,q4,q5,q6,q7,q8⟩:=chg kk i w e1 e2
   rw[q8]at m
   rcases(b5 kk i' d' v0 w q1 q6 e2).2.2.1 a m with q | q
   ·exact .inl (by omega)
   ·rw[hΨ i' i q3]at q
    exact .inr ⟨i,d',q2,⟨t1,q5⟩,q⟩
  ·rw[(unch i e1).2.2]at m
   exact .inr ⟨i,d,hi,⟨w,e2⟩,m⟩
 ·rcases slot_cases s' w ew with⟨kk,e1,e2⟩ | ⟨e1,e2⟩
  ·rcases foff s' (Zy4 e1) kk w e1 e2 a m with q | ⟨x,d,_,_,ht,mx⟩ | ⟨m',_,ht,mm⟩
   ·exact .inl q
   ·exact .inr ⟨x,ht,mx⟩
   ·exact .inr ⟨m',ht,mm⟩
  ·rw[(unch s' e1).2.1]at m
   exact .inr ⟨s',⟨w,e2⟩,m⟩
 ·obtain⟨i,d,hi,⟨w,ei⟩,m'⟩:=hh
  rcases slot_cases i w ei with⟨kk,e1,e2⟩ | ⟨e1,e2⟩
  ·obtain⟨i',d',v0,t1,q1,q2,q3,q4,q5,q6,q7,q8⟩:=chg kk i w e1 e2
   rw[q8]at m'
   exact(b5 kk i' d' v0 w q1 q6 e2).2.2.2.2.1 a m' m
  ·rw[(unch i e1).2.2]at m'
   have:=s.low e2 a (s.up hi e2 a m')
   have:=fnew a m
   omega
 ·rcases hb with q | q
  ·exact(b8 q).1
  ·have:=b6.flat (hfl q);rw[this];exact List.nodup_nil
 ·rcases slot_cases s' w ew with⟨kk,e1,e2⟩ | ⟨e1,e2⟩
  ·obtain⟨i',d',v0,t1,q1,q2,q3,q4,q5,q6,q7,q8⟩:=chg kk s' w e1 e2
   rw[q7]at m
   rcases hb with qb | qb
   ·exact(b5 kk i' d' v0 w q1 q6 e2).2.2.2.2.2.2 qb a m q
   ·have:=b6.flat (hfl qb);rw[this]at q;cases q
  ·rw[(unch s' e1).2.1]at m
   have:=s.low e2 a m
   have:=fnew a q
   omega
end
end TM
end
section
namespace TM
open PySem PM
noncomputable def HU(O:List Nat)(S:Sps)(σ:TL)(Φ Ψ:Nat→List Nat)(a:Nat): Prop:=Held O σ Φ a∨SH S σ Ψ a
noncomputable def AftU(c:Cu)(O:List Nat)(S:Sps)(O':List Nat)(S' SR:Sps)(fr:Bool)(ρ:Lc)(σ:TL)(H:Hp)(Φ Ψ:Nat→List Nat)(g:Option (Option V×Lc×Hp))(r:Option T×TL): Prop:=
 ∃(ρ':Lc) (H':Hp) (Φ' Ψ':Nat→List Nat),H.length≤H'.length∧(∀a,a<H.length→¬HU O S σ Φ Ψ a→H'[a]?=H[a]?)∧(∀q∈SR,ρ' q.1=ρ q.1) ∧
  ((r.1=none∧g=some (none,ρ',H')∧Su c O' S' ρ' r.2 H' Φ' Ψ'∧∀a,HU O' S' r.2 Φ' Ψ' a→H.length≤a∨HU O S σ Φ Ψ a) ∨
  ∃t v F,r.1=some t∧g=some (some v,ρ',H')∧RF H' v t F∧Su c [] SR ρ' r.2 H' Φ' Ψ'∧(∀a∈F,c.H0.length≤a∨c.P a)∧(∀a,SH SR r.2 Ψ' a→a∉F)∧(fr=true→F.Nodup∧(∀a∈F,c.H0.length≤a)∧∀s d,(s,d)∈SR→(∃t,r.2 s=some t)→∀a∈Φ' s,a∉F))
noncomputable def SU(O:List Nat)(S:Sps)(O':List Nat)(S' SR:Sps)(fr:Bool)(g:Sm)(q:PS): Prop:=∀(c:Cu) (ρ:Lc) (σ:TL) (H:Hp) (Φ Ψ:Nat→List Nat) (r:Option T×TL),(∀i,(∀q∈SR,q.1≠i)→c.Fs i=[])→Su c O S ρ σ H Φ Ψ→q σ=some r→AftU c O S O' S' SR fr ρ σ H Φ Ψ (g ρ H) r
section
variable {O O':List Nat} {S S' SR:Sps} {fr:Bool}
theorem HU.mono{O1:List Nat}{S1:Sps}{σ:TL}{Φ Ψ:Nat→List Nat}{a:Nat}(h:HU O S σ Φ Ψ a)(ho:∀i∈O,i∈O1)(hs:∀q∈S,q∈S1): HU O1 S1 σ Φ Ψ a:=by
 rcases h with h | ⟨i,d,hi,h⟩
 ·exact .inl (h.mono ho)
 ·exact .inr ⟨i,d,hs _ hi,h⟩
theorem HU.lt{c:Cu}{ρ:Lc}{σ:TL}{H:Hp}{Φ Ψ:Nat→List Nat}{a:Nat}(s:Su c O S ρ σ H Φ Ψ)(h:HU O S σ Φ Ψ a): a<H.length:=by
 rcases h with h | h
 ·exact h.lt s.st
 ·exact s.shlow h
theorem Zpv{O0:List Nat}{S0:Sps}{g:Sm}{q:PS}(x:SU O0 S0 O' S' SR fr g q)(h:∀i∈O0,i∈O)(k:∀q∈S0,q∈S): SU O S O' S' SR fr g q:=fun c ρ σ H Φ Ψ r hc s e=>by
 obtain⟨ρ',H',Φ',Ψ',h1,h2,hr,h3⟩:=x c ρ σ H Φ Ψ r hc (s.less h k) e
 refine⟨ρ',H',Φ',Ψ',h1,fun a ha hn=>h2 a ha fun q=>hn (q.mono h k),hr,?_⟩
 rcases h3 with⟨k1,k2,k3,k4⟩ | k'
 ·exact .inl ⟨k1,k2,k3,fun a m=>(k4 a m).imp id fun q=>q.mono h k⟩
 ·exact .inr k'
theorem SU.next: SU O S O S SR fr ZV Zam:=fun c ρ σ H Φ Ψ r hc s e=>by
 cases e
 exact⟨ρ,H,Φ,Ψ,Nat.le_refl _,fun _ _ _=>rfl,fun _ _=>rfl,.inl ⟨rfl,rfl,s,fun a m=>.inr m⟩⟩
theorem SU.seq{O1:List Nat}{S1:Sps}{a b:Sm}{p q:PS}(x:SU O S O1 S1 SR fr a p)(y:SU O1 S1 O' S' SR fr b q): SU O S O' S' SR fr (Zp a b) (ZB p q):=fun c ρ σ H Φ Ψ r hc s e=>by
 obtain⟨r1,e1,e⟩:=Zz0.mp e
 obtain⟨ρ1,H1,Φ1,Ψ1,h1,h2,hr,h3⟩:=x c ρ σ H Φ Ψ r1 hc s e1
 rcases h3 with⟨k1,k2,k3,k4⟩ | ⟨t,v,F,k1,k2,k3⟩
 ·rw[k1]at e
  obtain⟨ρ2,H2,Φ2,Ψ2,g1,g2,gr,g3⟩:=y c ρ1 r1.2 H1 Φ1 Ψ1 r hc k3 e
  refine⟨ρ2,H2,Φ2,Ψ2,Nat.le_trans h1 g1,fun a ha hn=>?_,fun q hq=>(gr q hq).trans (hr q hq),?_⟩
  ·rw[g2 a (by omega) fun q=>(k4 a q).elim (fun q=>by omega) hn,h2 a ha hn]
  ·have eg:Zp a b ρ H=b ρ1 H1:=by simp only[Zp,k2,Zs0]
   rw[eg]
   rcases g3 with⟨l1,l2,l3,l4⟩ | l
   ·refine .inl ⟨l1,l2,l3,fun a m=>?_⟩
    rcases l4 a m with q | q
    ·exact .inl (by omega)
    ·exact k4 a q
   ·exact .inr l
 ·rw[k1]at e
  cases e
  exact⟨ρ1,H1,Φ1,Ψ1,h1,h2,hr,.inr ⟨t,v,F,k1,by simp only[Zp,k2,Zs0],k3⟩⟩
noncomputable def Zax(p:PX): PS:=fun σ=>(p σ).map fun r=>(some r.1,r.2)
theorem Zj9{N:List Nat}{u:Bool}{e:Ex}{p:PX}(x:EX O S N u e p)(hR:∀q∈SR,q∈S)(hf:fr=true→u=true∧∀n∈N,n∈O∧∀d,(n,d)∉S): SU O S O' S' SR fr (Zw e) (Zax p):=fun c ρ σ H Φ Ψ r hc s q=>by
 obtain⟨⟨t,σ1⟩,h1,h⟩:=Zz1.mp q
 subst h
 obtain⟨v,H1,Φ1,Ψ1,F,a1,a2,a3,a4,a5,a6,a11,a7,a8,a9,a10⟩:=x c ρ σ H Φ Ψ t σ1 s h1
 refine⟨ρ,H1,Φ1,Ψ1,a2,fun a ha hn=>a3 a ha fun q=>hn (.inr q),fun _ _=>rfl,.inr ⟨t,v,F,rfl,by simp only[Zw,a1,Zs1],a7,a4.less (by simp) hR,fun a m=>s.st.from_src (a8 a m),fun a h=>a9 a ?_,fun hfr=>?_⟩⟩
 ·obtain⟨i,d,hi,h⟩:=h
  exact⟨i,d,hR _ hi,h⟩
 ·obtain⟨hu,hN⟩:=hf hfr
  refine⟨(a10 hu).1,fun a m=>?_,fun s' d hs=>(a10 hu).2 hN s' d (hR _ hs)⟩
  rcases a8 a m with q | ⟨n,hn,⟨w,e⟩,mn⟩
  ·exact Nat.le_trans s.st.len q
  ·exact s.nw n (hN n hn).1 w e a mn
theorem SU.ret{N:List Nat}{u:Bool}{e:Ex}{p:PX}(x:EX O S N u e p)(hR:∀q∈SR,q∈S): SU O S O' S' SR false (Zw e) (Zax p):=Zj9 x hR (by simp)
theorem ZaN{N:List Nat}{e:Ex}{p:PX}(x:EX O S N true e p)(hR:∀q∈SR,q∈S)(hN:∀n∈N,n∈O∧∀q∈S,q.1≠n): SU O S O' S' SR fr (Zw e) (Zax p):=Zj9 x hR fun _=>⟨rfl,fun n hn=>⟨(hN n hn).1,fun d m=>(hN n hn).2 _ m rfl⟩⟩
noncomputable def Zap(i:Nat)(p:PX): PS:=fun σ=>(p σ).map fun r=>(none,ZC r.2 i r.1)
theorem SU.set{N:List Nat}{u:Bool}{i:Nat}{e:Ex}{p:PX}(x:EX O S N u e p)(hi:i∉O'∧(∀q∈S',q.1≠i)∧∀q∈SR,q.1≠i:=by decide)(hN:∀n∈N,n∉O'∧∀q∈S',q.1≠n:=by decide)(hO:(∀j∈O',j∈O)∧∀q∈S',q∈S:=by decide): SU O S O' S' SR fr (Zu i e) (Zap i p):=fun c ρ σ H Φ Ψ r hc s q=>by
 obtain⟨⟨t,σ1⟩,h1,h⟩:=Zz1.mp q
 subst h
 obtain⟨v,H1,Φ1,Ψ1,F,a1,a2,a3,a4,a5,a6,a11,a7,a8,a9,a10⟩:=x c ρ σ H Φ Ψ t σ1 s h1
 have s1:=a4.less hO.1 hO.2
 have hS':∀d,(i,d)∉S':=fun d m=>hi.2.1 _ m rfl
 refine⟨upd ρ i v,H1,Zr Φ1 i F,Ψ1,a2,fun a ha hn=>a3 a ha fun q=>hn (.inr q),fun q hq=>by simp[upd,hi.2.2 q hq],.inl ⟨rfl,by simp only[Zu,a1,Zs1],s1.putL hi.1 hS' a7 (fun a m=>s.st.from_src (a8 a m)) (fun k hk w ek a m q=>?_) (fun a h=>?_),fun a h=>?_⟩⟩
 ·obtain⟨e1,e2⟩:=a5 k w (s.ap k (hO.1 k hk)) ek
  rw[e2]at m
  rcases a8 a q with q | ⟨n,hn,⟨w',e'⟩,mn⟩
  ·have:=s.low e1 a m;omega
  ·exact(s.st.own k (hO.1 k hk) w e1).2.2 n w' (fun q=>(hN n hn).1 (q▸hk)) e' a m mn
 ·obtain⟨k,d,hk,h⟩:=h
  exact a9 a ⟨k,d,hO.2 _ hk,h⟩
 ·rcases h with⟨k,hk,⟨w,ek⟩,m⟩ | h
  ·have ne:k≠i:=fun q=>hi.1 (q▸hk)
   have ek:=Zai ek ne
   simp only[Zr,ne,if_false]at m
   obtain⟨e1,e2⟩:=a5 k w (s.ap k (hO.1 k hk)) ek
   exact .inr (.inl ⟨k,hO.1 k hk,⟨w,e1⟩,e2▸m⟩)
  ·obtain⟨k,d,hk,h⟩:=(ZeZ hS').mp h
   exact(a6 a ⟨k,d,hO.2 _ hk,h⟩).imp id .inr
theorem ZeQ{c:Cu}{ρ:Lc}{σ σ1:TL}{H:Hp}{Φ Ψ Φ1:Nat→List Nat}{F:List Nat}(s:Su c O S ρ σ H Φ Ψ)(a5:∀j t,(∀d,(j,d)∉S)→σ1 j=some t→σ j=some t∧Φ1 j=Φ j)(new1:∀a∈F,H.length≤a)(of1:∀s d,(s,d)∈S→(∃t,σ1 s=some t)→∀a∈Φ1 s,a∉F)(j:Nat)(w:T)(ej:σ1 j=some w): ∀a∈F,a∉Φ1 j:=fun a m q=>by
 by_cases hjs:∀d,(j,d)∉S
 ·obtain⟨e1,e2⟩:=a5 j w hjs ej
  have:=s.low e1 a (e2▸q)
  have:=new1 a m
  omega
 ·obtain⟨d,hd⟩:=Classical.not_forall.mp hjs
  exact of1 j d (Classical.not_not.mp hd) ⟨w,ej⟩ a q m
theorem Zdu{i:Nat}{e:Ex}{p:PX}(x:EX O S [] true e p)(hi:(∀q∈S',q.1≠i)∧∀q∈SR,q.1≠i)(hO:(∀j∈O',j∈O∨j=i)∧∀q∈S',q∈S): SU O S O' S' SR fr (Zu i e) (Zap i p):=fun c ρ σ H Φ Ψ r hc s q=>by
 obtain⟨⟨t,σ1⟩,h1,h⟩:=Zz1.mp q
 subst h
 obtain⟨v,H1,Φ1,Ψ1,F,a1,a2,a3,a4,a5,a6,a11,a7,a8,a9,a10⟩:=x c ρ σ H Φ Ψ t σ1 s h1
 have hS':∀d,(i,d)∉S':=fun d m=>hi.1 _ m rfl
 have new1:∀a∈F,H.length≤a:=fun a m=>(a8 a m).nil
 have s1:=a4.less (O':=O) (S':=S') (fun _ h=>h) hO.2
 refine⟨upd ρ i v,H1,Zr Φ1 i F,Ψ1,a2,fun a ha hn=>a3 a ha fun q=>hn (.inr q),fun q hq=>by simp[upd,hi.2 q hq],.inl ⟨rfl,by simp only[Zu,a1,Zs1],s1.putO hO.1 hS' a7 (a10 rfl).1 (fun a m=>Nat.le_trans s.st.len (new1 a m)) (fun j w _ ej=>ZeQ s a5 new1 ((a10 rfl).2 (by simp)) j w ej),fun a h=>?_⟩⟩
 rcases h with⟨k,hk,⟨w,ek⟩,m⟩ | h
 ·by_cases q:k=i
  ·subst q
   simp only[Zr,if_true]at m
   exact .inl (new1 a m)
  ·have ek:=Zai ek q
   simp only[Zr,q,if_false]at m
   have hk:=(hO.1 k hk).resolve_right q
   obtain⟨e1,e2⟩:=a5 k w (s.ap k hk) ek
   exact .inr (.inl ⟨k,hk,⟨w,e1⟩,e2▸m⟩)
 ·obtain⟨k,d,hk,h⟩:=(ZeZ hS').mp h
  exact(a6 a ⟨k,d,hO.2 _ hk,h⟩).imp id .inr
theorem Su.putS{c:Cu}{ρ:Lc}{σ:TL}{H:Hp}{Φ Ψ:Nat→List Nat}{k d:Nat}{v:V}{t:T}{F F1:List Nat}(s:Su c O S ρ σ H Φ Ψ)(hk:k∉O)(kS:∀d,(k,d)∉S)(r:RF H v t F)(p:Sp H d v t F1)(new:∀a∈F1,c.H0.length≤a)(dis:∀j u,j≠k→σ j=some u→∀a∈F1,a∉Φ j)(hs:∀a∈F,c.H0.length≤a∨c.P a)(ho:∀i∈O,∀t',σ i=some t'→∀a∈Φ i,a∉F)(hp:∀a,SH S σ Ψ a→a∉F): Su c O ((k,d)::S) (upd ρ k v) (ZC σ k t) H (Zr Φ k F) (Zr Ψ k F1):=by
 have s1:=s.putL (v:=v) (t:=t) hk kS r hs ho hp
 refine⟨s1.st,fun i d' hi u e=>?_,fun i hi d' m=>?_,s1.nw⟩
 ·by_cases q:i=k
  ·subst q
   have:d'=d:=by
    rcases Zz7.mp hi with h | h
    ·exact(Prod.mk.inj h).2
    ·exact absurd h (kS d')
   subst this
   rcases ZeA e with⟨_,q'⟩ | ⟨q',_⟩
   ·subst q'
    refine⟨v,by simp[upd],by simpa [Zr]using p,by simpa [Zr]using fun a m=>Or.inl (new a m),fun j w hj ej a m=>?_⟩
    simp only[Zr,if_true]at m
    simpa [Zr,hj]using dis j w hj (Zai ej hj) a m
   ·exact absurd rfl q'
  ·have hi':(i,d')∈S:=(Zz7.mp hi).resolve_left fun h=>q (Prod.mk.inj h).1
   obtain⟨w,h1,h2,h3,h4⟩:=s1.sp i d' hi' u e
   exact⟨w,h1,by simpa [Zr,q]using h2,by simpa [Zr,q]using h3,by simpa [Zr,q]using h4⟩
 ·rcases Zz7.mp m with h | h
  ·exact hk ((Prod.mk.inj h).1▸hi)
  ·exact s.ap i hi d' h
theorem Zkt{i d:Nat}{e:Ex}{p:PX}(x:EX O S [] true e p)(hi:i∉O'∧(∀q∈S',q.1≠i)∧∀q∈SR,q.1≠i)(hO:(∀j∈O',j∈O)∧∀q∈S',q∈S): SU O S O' ((i,d)::S') SR fr (Zu i e) (Zap i p):=fun c ρ σ H Φ Ψ r hc s q=>by
 obtain⟨⟨t,σ1⟩,h1,h⟩:=Zz1.mp q
 subst h
 obtain⟨v,H1,Φ1,Ψ1,F,a1,a2,a3,a4,a5,a6,a11,a7,a8,a9,a10⟩:=x c ρ σ H Φ Ψ t σ1 s h1
 have hS':∀d,(i,d)∉S':=fun d m=>hi.2.1 _ m rfl
 have new1:∀a∈F,H.length≤a:=fun a m=>(a8 a m).nil
 have s1:=a4.less hO.1 hO.2
 obtain⟨F1,p1,p2⟩:=a7.sp d (a10 rfl).1
 have off:=ZeQ s a5 new1 ((a10 rfl).2 (by simp))
 refine⟨upd ρ i v,H1,Zr Φ1 i F,Zr Ψ1 i F1,a2,fun a ha hn=>a3 a ha fun q=>hn (.inr q),fun q hq=>by simp[upd,hi.2.2 q hq],.inl ⟨rfl,by simp only[Zu,a1,Zs1],s1.putS hi.1 hS' a7 p1 (fun a m=>Nat.le_trans s.st.len (new1 a (p2 a m))) (fun j w _ ej a m=>off j w ej a (p2 a m)) (fun a m=>.inl (Nat.le_trans s.st.len (new1 a m))) (fun k hk w ek a m q=>off k w ek a q m) (fun a h q=>?_),fun a h=>?_⟩⟩
 ·obtain⟨k,d',hk,h⟩:=h
  exact a9 a ⟨k,d',hO.2 _ hk,h⟩ q
 ·rcases h with⟨k,hk,⟨w,ek⟩,m⟩ | ⟨k,d',hk,⟨w,ek⟩,m⟩
  ·have q:k≠i:=fun q=>hi.1 (q▸hk)
   have ek:=Zai ek q
   simp only[Zr,q,if_false]at m
   obtain⟨e1,e2⟩:=a5 k w (s.ap k (hO.1 k hk)) ek
   exact .inr (.inl ⟨k,hO.1 k hk,⟨w,e1⟩,e2▸m⟩)
  ·by_cases q:k=i
   ·subst q
    simp only[Zr,if_true]at m
    exact .inl (new1 a (p2 a m))
   ·simp only[Zr,q,if_false]at m
    have hk':(k,d')∈S':=(Zz7.mp hk).resolve_left fun h=>q (Prod.mk.inj h).1
    exact(a6 a ⟨k,d',hO.2 _ hk',⟨w,Zai ek q⟩,m⟩).imp id .inr
theorem Zku{N:List Nat}{u:Bool}{n i:Nat}{es:ZX}{ps:PEs}(x:Es O N u n es ps)(hn:n≤ZM)(hi:i∉O'∧(∀q∈S',q.1≠i)∧∀q∈SR,q.1≠i)(hN:∀n∈N,n∉O'∧∀q∈S',q.1≠n)(hO:(∀j∈O',j∈O)∧∀q∈S',q∈S): SU O S O' ((i,1)::S') SR fr (Zu i (Zad es)) (ZbL i (Zbt ps)):=fun c ρ σ H Φ Ψ r hc s q=>by
 obtain⟨t,h1,h⟩:=Zz1.mp q
 subst h
 obtain⟨ts,h1',h2⟩:=Zz1.mp h1
 subst h2
 obtain⟨hl,vs,X,G,b1,b2,b3,b4⟩:=x c.toCtx ρ σ H Φ ts s.st h1'
 have hS':∀d,(i,d)∉S':=fun d m=>hi.2.1 _ m rfl
 have lvs:=b2.length
 have e1:Zad es ρ H=some (.ref (H++X).length,(H++X)++[vs]):=by
  simp only[Zad,b1,Zs0]
  rw[if_pos (by omega)]
 have s1:=((s.ext X).ext [vs]).less hO.1 hO.2
 have hb:((H++X)++[vs])[(H++X).length]?=some vs:=by simp
 have rf:=RF.ref hb (b2.ext [vs])
 have g1:∀a∈G,a<(H++X).length:=b2.lt
 have p1:Sp ((H++X)++[vs]) 1 (.ref (H++X).length) (.lst ts) [(H++X).length]:=⟨G,RD.ref (by decide) hb (Zks (b2.ext [vs])),by simp,fun a m q=>by
  have:=g1 a q
  rw[List.mem_singleton.mp m]at this
  omega⟩
 have ll:(H++X).length=H.length+X.length:=List.length_append
 have s1:=s1.putS (k:=i) (d:=1) hi.1 hS' rf p1 (fun a m=>by have:=s.st.len;rw[List.mem_singleton.mp m];omega) (fun j w _ ej a m q=>by
   have:=s.low ej a q
   rw[List.mem_singleton.mp m]at this
   omega) (fun a m=>by
   rcases Zz7.mp m with q | q
   ·exact .inl (by have:=s.st.len;omega)
   ·exact s.st.from_src (b3 a q)) (fun k hk w ek a m q=>by
   have lo:=s.low ek a m
   rcases Zz7.mp q with q | q
   ·omega
   ·rcases b3 a q with q | ⟨n',hn',⟨w',e'⟩,mn⟩
    ·omega
    ·exact(s.st.own k (hO.1 k hk) w ek).2.2 n' w' (fun q=>(hN n' hn').1 (q▸hk)) e' a m mn) (fun a h q=>by
   obtain⟨k,d',hk,⟨w,ek⟩,m⟩:=h
   have lo:=s.low ek a (s.up (hO.2 _ hk) ek a m)
   rcases Zz7.mp q with q | q
   ·omega
   ·rcases b3 a q with q | ⟨n',hn',⟨w',e'⟩,mn⟩
    ·omega
    ·exact(s.sp k d' (hO.2 _ hk) w ek).choose_spec.2.2.2 n' w' (fun q=>(hN n' hn').2 _ hk q.symm) e' a m mn)
 refine⟨upd ρ i (.ref (H++X).length),(H++X)++[vs],_,_,by simp,fun a ha hn=>by rw[List.append_assoc,Zy0 ha],fun q hq=>by simp[upd,hi.2.2 q hq],.inl ⟨rfl,by simp only[Zu,e1,Zs1],s1,fun a h=>?_⟩⟩
 rcases h with⟨k,hk,⟨w,ek⟩,m⟩ | ⟨k,d',hk,⟨w,ek⟩,m⟩
 ·have q:k≠i:=fun q=>hi.1 (q▸hk)
  simp only[Zr,q,if_false]at m
  exact .inr (.inl ⟨k,hO.1 k hk,⟨w,Zai ek q⟩,m⟩)
 ·by_cases q:k=i
  ·subst q
   simp only[Zr,if_true]at m
   exact .inl (by rw[List.mem_singleton.mp m];omega)
  ·simp only[Zr,q,if_false]at m
   have hk':(k,d')∈S':=(Zz7.mp hk).resolve_left fun h=>q (Prod.mk.inj h).1
   exact .inr (.inr ⟨k,d',hO.2 _ hk',⟨w,Zai ek q⟩,m⟩)
noncomputable def Za8(b:PBX)(p q:PS): PS:=fun σ=>(b σ).bind fun x=>if x.1 then p x.2 else q x.2
theorem AftU.step{c:Cu}{ρ:Lc}{σ σ1:TL}{H H1:Hp}{Φ Ψ Φ1 Ψ1:Nat→List Nat}{g:Option (Option V×Lc×Hp)}{r:Option T×TL}(s:Su c O S ρ σ H Φ Ψ)(l:H.length≤H1.length)(a3:∀a,a<H.length→¬SH S σ Ψ a→H1[a]?=H[a]?)(a5:∀j t,(∀d,(j,d)∉S)→σ1 j=some t→σ j=some t∧Φ1 j=Φ j)(a6:∀a,SH S σ1 Ψ1 a→H.length≤a∨SH S σ Ψ a)(x:AftU c O S O' S' SR fr ρ σ1 H1 Φ1 Ψ1 g r): AftU c O S O' S' SR fr ρ σ H Φ Ψ g r:=by
 obtain⟨ρ',H',Φ',Ψ',h1,h2,hr,h3⟩:=x
 have up:∀a,HU O S σ1 Φ1 Ψ1 a→H.length≤a∨HU O S σ Φ Ψ a:=fun a h=>by
  rcases h with⟨j,hj,⟨t,e⟩,m⟩ | h
  ·obtain⟨e1,e2⟩:=a5 j t (s.ap j hj) e
   exact .inr (.inl ⟨j,hj,⟨t,e1⟩,e2▸m⟩)
  ·exact(a6 a h).imp id .inr
 refine⟨ρ',H',Φ',Ψ',by omega,fun a ha hn=>?_,hr,?_⟩
 ·rw[h2 a (by omega) fun q=>(up a q).elim (fun q=>by omega) hn,a3 a ha fun q=>hn (.inr q)]
 ·rcases h3 with⟨k1,k2,k3,k4⟩ | k
  ·refine .inl ⟨k1,k2,k3,fun a m=>?_⟩
   rcases k4 a m with q | q
   ·exact .inl (by omega)
   ·exact up a q
  ·exact .inr k
theorem Zbr{t:Ts}{pb:PBX}{a b:Sm}{p q:PS}(z:BX O S t pb)(x:SU O S O' S' SR fr a p)(y:SU O S O' S' SR fr b q): SU O S O' S' SR fr (ZE t a b) (Za8 pb p q):=fun c ρ σ H Φ Ψ r hc s e=>by
 obtain⟨⟨bb,σ1⟩,e1,e⟩:=Zz0.mp e
 obtain⟨H1,Φ1,Ψ1,a1,a2,a3,a4,a5,a6⟩:=z c ρ σ H Φ Ψ bb σ1 s e1
 cases bb with
 | true=>
  have:=x c ρ σ1 H1 Φ1 Ψ1 r hc a4 (by simpa using e)
  have eg:ZE t a b ρ H=a ρ H1:=by simp[ZE,a1]
  rw[eg]
  exact this.step s a2 a3 a5 a6
 | false=>
  have:=y c ρ σ1 H1 Φ1 Ψ1 r hc a4 (by simpa using e)
  have eg:ZE t a b ρ H=b ρ H1:=by simp[ZE,a1]
  rw[eg]
  exact this.step s a2 a3 a5 a6
noncomputable def Zfd(p:PX): PS:=fun σ=>(p σ).map fun r=>(none,r.2)
theorem Zk6{N:List Nat}{u:Bool}{e:Ex}{p:PX}(x:EX O S N u e p): SU O S O S SR fr (ZP e) (Zfd p):=fun c ρ σ H Φ Ψ r hc s q=>by
 obtain⟨⟨t,σ1⟩,h1,h⟩:=Zz1.mp q
 subst h
 obtain⟨v,H1,Φ1,Ψ1,F,a1,a2,a3,a4,a5,a6,_⟩:=x c ρ σ H Φ Ψ t σ1 s h1
 have:AftU c O S O S SR fr ρ σ1 H1 Φ1 Ψ1 (some (none,ρ,H1)) (none,σ1):=⟨ρ,H1,Φ1,Ψ1,Nat.le_refl _,fun _ _ _=>rfl,fun _ _=>rfl,.inl ⟨rfl,rfl,a4,fun a m=>.inr m⟩⟩
 have eg:ZP e ρ H=some (none,ρ,H1):=by simp only[ZP,a1,Zs1]
 rw[eg]
 exact this.step s a2 a3 a5 a6
noncomputable def Cs(k:Nat)(K:Ex→Sm): Prop:=∀e ρ H,K e ρ H=(e ρ H).bind fun p=>(K (Za k) (upd ρ k p.1) p.2).map fun r=>(r.1,ρ,r.2.2)
noncomputable def Kp(g:Sm): Prop:=∀ρ H r,g ρ H=some r→r.1=none∧r.2.1=ρ
noncomputable def Zda(k:Nat)(p:PX)(q:PS): PS:=fun σ=>(p (Z9 σ k)).bind fun r=>(q (ZC r.2 k r.1)).map fun r2=>(r2.1,Z9 r2.2 k)
theorem Zf9{k:Nat}{K:Ex→Sm}{e:Ex}{p:PX}{q:PS}(hC:Cs k K)(hK:Kp (K (Za k)))(x:EX O S [] true e p)(y:SU (k::O) S O' S' SR fr (K (Za k)) q)(hk:(∀q∈S,q.1≠k)∧(∀q∈S',q.1≠k)∧k∉O∧k∉O')(hR:∀q∈SR,q.1≠k): SU O S O' S' SR fr (K e) (Zda k p q):=fun c ρ σ H Φ Ψ r hc s h=>by
 have hS:∀d,(k,d)∉S:=fun d m=>hk.1 _ m rfl
 have hS':∀d,(k,d)∉S':=fun d m=>hk.2.1 _ m rfl
 obtain⟨⟨t1,σ1⟩,h1,h⟩:=Zz0.mp h
 obtain⟨⟨o,σ2⟩,h2,h⟩:=Zz1.mp h
 subst h
 have sd:=s.del k
 obtain⟨v1,H1,Φ1,Ψ1,F1,a1,a2,a3,a4,a5,a6,a11,a7,a8,a9,a10⟩:=x c ρ (Z9 σ k) H Φ Ψ t1 σ1 sd h1
 have new1:∀a∈F1,H.length≤a:=fun a m=>(a8 a m).nil
 have s1:Su c (k::O) S (upd ρ k v1) (ZC σ1 k t1) H1 (Zr Φ1 k F1) Ψ1:=a4.putO (fun j hj=>by rcases Zz7.mp hj with h | h;exact .inr h;exact .inl h) hS a7 (a10 rfl).1 (fun a m=>Nat.le_trans s.st.len (new1 a m)) (fun j w _ ej=>ZeQ sd a5 new1 ((a10 rfl).2 (by simp)) j w ej)
 obtain⟨ρ',H',Φ',Ψ',g1,g2,gr,g3⟩:=y c (upd ρ k v1) (ZC σ1 k t1) H1 (Zr Φ1 k F1) Ψ1 (o,σ2) hc s1 h2
 have up:∀a,HU (k::O) S (ZC σ1 k t1) (Zr Φ1 k F1) Ψ1 a→H.length≤a∨HU O S σ Φ Ψ a:=fun a h=>by
  rcases h with⟨j,hj,⟨t,e⟩,m⟩ | h
  ·by_cases q:j=k
   ·subst q
    simp only[Zr,if_true]at m
    exact .inl (new1 a m)
   ·simp only[Zr,q,if_false]at m
    have hj:=(Zz7.mp hj).resolve_left q
    obtain⟨e1,e2⟩:=a5 j t (s.ap j hj) (Zai e q)
    exact .inr (.inl ⟨j,hj,⟨t,(ZaR e1).2⟩,e2▸m⟩)
  ·rcases a6 a ((ZeZ hS).mp h)with q | q
   ·exact .inl q
   ·exact .inr (.inr ((SH.del hS).mp q))
 rcases g3 with⟨k1,k2,k3,k4⟩ | ⟨t,v,F,k1,k2,_⟩
 ·have hρ:ρ'=upd ρ k v1:=(hK _ _ _ k2).2
  rw[hρ]at k2 k3
  refine⟨ρ,H',Φ',Ψ',by omega,fun a ha hn=>?_,fun _ _=>rfl,.inl ⟨k1,?_,k3.drop fun _ h=>h,fun a h=>?_⟩⟩
  ·rw[g2 a (by omega) fun q=>(up a q).elim (fun q=>by omega) hn,a3 a ha fun q=>hn (.inr ((SH.del hS).mp q))]
  ·rw[hC e ρ H,a1]
   simp only[Zs0,k2,Zs1]
  ·have h':HU O' S' σ2 Φ' Ψ' a:=by
    rcases h with⟨j,hj,⟨t,e⟩,m⟩ | h
    ·exact .inl ⟨j,hj,⟨t,(ZaR e).2⟩,m⟩
    ·exact .inr ((SH.del hS').mp h)
   rcases k4 a h' with q | q
   ·exact .inl (by omega)
   ·exact up a q
 ·have:=(hK _ _ _ k2).1
  cases this
theorem Zgn{k:Nat}{C:Ex→Ex}(h:Ct k C): Cs k fun e=>ZP (C e):=fun e ρ H=>by
 simp only[ZP]
 rw[h e ρ H]
 cases e ρ H with
 | none=>rfl
 | some p=>
  simp only[Zs0]
  cases C (Za k) (upd ρ k p.1) p.2 <;> rfl
theorem Ze0{f:Ex}: Kp (ZP f):=fun ρ H r h=>by
 obtain⟨_,_,q⟩:=Zz1.mp h
 subst q;exact⟨rfl,rfl⟩
theorem Ct.append{k:Nat}{C:Ex→Ex}{f:Ex}(h:Ct k C)(hf:Vl k f): Ct k fun e=>Zau f (C e):=fun e ρ H=>by
 obtain⟨g,h1,h2⟩:=hf
 simp only[Zau,h1,h2]
 cases g ρ with
 | none=>cases e ρ H <;> rfl
 | some v=>
  simp only[Zs1,Zs0]
  rw[h e ρ H]
  cases e ρ H with
  | none=>rfl
  | some p=>rfl
theorem Zpw{N R:List Nat}{x:Nat}{g:Sm}{q:PS}(y:TM.S O O' R fr g q)(hK:Kp g)(hq:∀σ r,q σ=some r→∃t',r.2=ZbX (ZC σ x t') N)(hx:x∈O∧x∈O')(hO:∀j∈O,j∈O'∨j∈N)(hO':∀j∈O',j∈O): SU O S O' S SR fr g q:=fun c ρ σ H Φ Ψ r hc s h=>by
 obtain⟨ρ',H',Φ',h1,h2,h3⟩:=y c.toCtx ρ σ H Φ r s.st h
 obtain⟨t',er⟩:=hq σ r h
 have xS:∀d,(x,d)∉S:=s.ap x hx.1
 have old:∀j u,j≠x→r.2 j=some u→σ j=some u∧j∉N:=fun j u hj e=>by
  rw[er]at e
  obtain⟨k1,k2⟩:=Zme e
  exact⟨Zai k2 hj,k1⟩
 rcases h3 with⟨k1,k2,k3,k4⟩ | ⟨t,v,F,k1,k2,_⟩
 ·have hρ:ρ'=ρ:=(hK _ _ _ k2).2
  subst hρ
  have frameL:∀j u,j∉O→σ j=some u→∀a∈Φ j,H'[a]?=H[a]?:=fun j u hj ej a m=>h2 a (s.low ej a m) fun⟨i,hi,⟨w,ei⟩,mi⟩=>(s.st.own i hi w ei).2.2 j u (fun q=>hj (q▸hi)) ej a mi m
  refine⟨ρ',H',Φ',Ψ,h1,fun a ha hn=>h2 a ha fun q=>hn (.inl q),fun _ _=>rfl,.inl ⟨k1,k2,⟨k3,fun i d hi t e=>?_,fun i hi d=>s.ap i (hO' i hi) d,fun i hi t e a m=>?_⟩,fun a h=>?_⟩⟩
  ·have ix:i≠x:=fun q=>xS d (q▸hi)
   have iO:i∉O:=fun q=>s.ap i q d hi
   obtain⟨e1,_⟩:=old i t ix e
   obtain⟨v,q1,q2,q3,q4⟩:=s.sp i d hi t e1
   obtain⟨v',w1,w2⟩:=s.st.slot i t e1
   rw[q1]at w1
   cases w1
   refine⟨v,q1,q2.frame w2 (frameL i t iO e1),q3,fun j u hj ej a m q=>?_⟩
   have lo:=s.low e1 a (s.up hi e1 a m)
   have inO:∀w,r.2 j=some w→j∈O'→False:=fun w ew hjO=>by
    rcases k4 a ⟨j,hjO,⟨w,ew⟩,q⟩with q | ⟨z,hz,⟨tz,ez⟩,mz⟩
    ·omega
    ·exact q4 z tz (fun q=>iO (q▸hz)) ez a m mz
   by_cases jx:j=x
   ·exact inO u ej (jx▸hx.2)
   ·obtain⟨e2,jN⟩:=old j u jx ej
    by_cases jO:j∈O
    ·rcases hO j jO with z | z
     ·exact inO u ej z
     ·exact jN z
    ·obtain⟨vj,w1,w2⟩:=s.st.slot j u e2
     obtain⟨vj',w3,w4⟩:=k3.slot j u ej
     rw[w1]at w3
     cases w3
     obtain⟨_,ef⟩:=w4.det (w2.frame (frameL j u jO e2))
     rw[ef]at q
     exact q4 j u hj e2 a m q
  ·rcases k4 a ⟨i,hi,⟨t,e⟩,m⟩with q | ⟨j,hj,⟨w,ej⟩,mj⟩
   ·exact Nat.le_trans s.st.len q
   ·exact s.nw j hj w ej a mj
  ·rcases h with h | ⟨i,d,hi,⟨t,e⟩,m⟩
   ·exact(k4 a h).imp id .inl
   ·have ix:i≠x:=fun q=>xS d (q▸hi)
    exact .inr (.inr ⟨i,d,hi,⟨t,(old i t ix e).1⟩,m⟩)
 ·have:=(hK _ _ _ k2).1
  cases this
theorem Zkv{x:Nat}{N:List Nat}{o e:Ex}{po:PPa}{p:PE}(hx:x∈O∧x∈O')(y:Pa O x o po)(z:E O N true e p)(hN:∀j∈N,j∈O∧j≠x)(hO:∀j∈O',j∈O∧j∉N)(hO2:∀j∈O,j∈O'∨j∈N): SU O S O' S SR fr (ZP (Zau o e)) (Zek x N po p):=
 Zpw (R:=[]) (TM.S.app hx.1 y z hN hO) Ze0 (fun σ r h=>by
  obtain⟨ks,_,h⟩:=Zz0.mp h
  obtain⟨w,_,h⟩:=Zz0.mp h
  obtain⟨t,_,h⟩:=Zz0.mp h
  obtain⟨t',_,h⟩:=Zz1.mp h
  subst h
  exact⟨t',rfl⟩) hx hO2 (fun j hj=>(hO j hj).1)
end
end TM
end
section
namespace TM
open PySem PM
section
variable {O O':List Nat} {S S' SR:Sps} {fr:Bool}
theorem Zkw{c:Cu}{ρ:Lc}{σ:TL}{H:Hp}{Φ Ψ:Nat→List Nat}{x d a b:Nat}{t t':T}{v:V}{vs':List V}{F2 R2 Fn Rn N:List Nat}(s:Su c O S ρ σ H Φ Ψ)(hx:(x,d)∈S)(uq:∀q∈S,∀r∈S,q.1=r.1→q.2=r.2)(ex:σ x=some t)(ev:ρ x=some v)(hb:c.H0.length≤b)(hlow:∀k t,σ k=some t→∀a∈Φ k,a<b)
  (ha:a∈Ψ x) (r:RD (H.set a vs') d v t' F2 R2) (nd:F2.Nodup) (dj:∀y∈F2,y∉R2) (f2:∀y∈F2,y∈Ψ x∨y∈Fn) (r2:∀y∈R2,y∈Φ x∨y∈Rn) (hFn:∀y∈Fn,b≤y) (hRn:∀y∈Rn,b≤y∨∃j∈N,(∃t,σ j=some t)∧y∈Φ j) (hN:∀n∈N,n∉O'∧∀d,(n,d)∉S') (hO:∀j∈O',j∈O) (hS:∀q∈S',q∈S):
  ∃G,Su c O' S' ρ (ZC σ x t') (H.set a vs') (Zr Φ x G) (Zr Ψ x F2)∧(∀y,HU O' S' (ZC σ x t') (Zr Φ x G) (Zr Ψ x F2) y→b≤y∨HU O S σ Φ Ψ y):=by
 obtain⟨G,rf,perm⟩:=r.rf
 obtain⟨v',q1,q2,q3,q4⟩:=s.sp x d hx t ex
 have xO:x∉O:=fun q=>s.ap x q d hx
 have gsub:∀y∈G,y∈Φ x∨b≤y∨∃j∈N,(∃t,σ j=some t)∧y∈Φ j:=fun y m=>by
  rcases Zz8.mp (perm.symm.subset m)with m | m
  ·rcases f2 y m with q | q
   ·exact .inl (s.up hx ex y q)
   ·exact .inr (.inl (hFn y q))
  ·rcases r2 y m with q | q
   ·exact .inl q
   ·exact .inr (hRn y q)
 have aoff:∀k u,k≠x→σ k=some u→a∉Φ k:=fun k u hk e=>q4 k u hk e a ha
 have fr:∀k u,k≠x→σ k=some u→∀y∈Φ k,(H.set a vs')[y]?=H[y]?:=fun k u hk e y m=>Zy2 fun q:a=y=>aoff k u hk e (q▸m)
 refine⟨G,⟨⟨fun k u e=>?_,fun k u e y m=>?_,fun k hk u e=>?_,by simpa using s.st.len,fun y hy hn=>?_,s.st.pos,s.st.f0⟩,fun k d' hk u e=>?_,fun k hk d' m=>s.ap k (hO k hk) d' (hS _ m),fun k hk u e=>?_⟩,fun y h=>?_⟩
 ·by_cases q:k=x
  ·subst q
   rcases ZeA e with⟨_,q'⟩ | ⟨q',_⟩
   ·subst q';exact⟨v,ev,by simpa [Zr]using rf⟩
   ·exact absurd rfl q'
  ·have e0:=Zai e q
   obtain⟨w,h1,h2⟩:=s.st.slot k u e0
   exact⟨w,h1,by simpa [Zr,q]using h2.frame (fr k u q e0)⟩
 ·by_cases q:k=x
  ·subst q
   simp only[Zr,if_true]at m
   rcases gsub y m with q | q | ⟨j,_,⟨tj,ej⟩,mj⟩
   ·exact s.st.src k t ex y q
   ·exact .inl (by omega)
   ·exact s.st.src j tj ej y mj
  ·simp only[Zr,q,if_false]at m
   exact s.st.src k u (Zai e q) y m
 ·have q:k≠x:=fun q=>xO (q▸hO k hk)
  have e0:=Zai e q
  obtain⟨o1,o2,o3⟩:=s.st.own k (hO k hk) u e0
  simp only[Zr,q,if_false]
  refine⟨o1,o2,fun j w hj ej y m=>?_⟩
  by_cases q2:j=x
  ·simp only[q2,if_true]
   intro m2
   rcases gsub y m2 with z | z | ⟨j',hj',⟨tj,ej'⟩,mj⟩
   ·exact o3 x t (Ne.symm q) ex y m z
   ·have:=hlow k u e0 y m;omega
   ·exact o3 j' tj (fun z=>(hN j' hj').1 (z▸hk)) ej' y m mj
  ·simpa [q2]using o3 j w hj (Zai ej q2) y m
 ·rw[Zy2 fun q=>?_]
  ·exact s.st.keep y hy hn
  ·subst q
   rcases q3 a ha with z | z
   ·omega
   ·exact hn (c.fs _ _ z)
 ·by_cases q:k=x
  ·subst q
   have:d'=d:=uq _ (hS _ hk) _ hx rfl
   subst this
   rcases ZeA e with⟨_,q'⟩ | ⟨q',_⟩
   ·subst q'
    refine⟨v,ev,by simpa [Zr]using ⟨R2,r,nd,dj⟩,fun y m=>?_,fun j w hj ej y m=>?_⟩
    ·simp only[Zr,if_true]at m
     rcases f2 y m with z | z
     ·exact q3 y z
     ·exact .inl (by have:=hFn y z;omega)
    ·simp only[Zr,if_true]at m
     simp only[Zr,hj,if_false]
     have ej:=Zai ej hj
     rcases f2 y m with z | z
     ·exact q4 j w hj ej y z
     ·intro m2
      have:=hlow j w ej y m2
      have:=hFn y z
      omega
   ·exact absurd rfl q'
  ·have e0:=Zai e q
   obtain⟨w,h1,h2,h3,h4⟩:=s.sp k d' (hS _ hk) u e0
   obtain⟨w',k1,k2⟩:=s.st.slot k u e0
   rw[h1]at k1
   cases k1
   simp only[Zr,q,if_false]
   refine⟨w,h1,h2.frame k2 (fr k u q e0),h3,fun j z hj ej y m=>?_⟩
   by_cases q2:j=x
   ·simp only[q2,if_true]
    intro m2
    rcases gsub y m2 with z | z | ⟨j',hj',⟨tj,ej'⟩,mj⟩
    ·exact h4 x t (Ne.symm q) ex y m z
    ·have:=hlow k u e0 y (s.up (hS _ hk) e0 y m);omega
    ·exact h4 j' tj (fun z=>(hN j' hj').2 d' (z▸hk)) ej' y m mj
   ·simpa [q2]using h4 j z hj (Zai ej q2) y m
 ·have q:k≠x:=fun q=>xO (q▸hO k hk)
  simpa [Zr,q]using s.nw k (hO k hk) u (Zai e q)
 ·rcases h with⟨k,hk,⟨w,ek⟩,m⟩ | ⟨k,d',hk,⟨w,ek⟩,m⟩
  ·have q:k≠x:=fun q=>xO (q▸hO k hk)
   simp only[Zr,q,if_false]at m
   exact .inr (.inl ⟨k,hO k hk,⟨w,Zai ek q⟩,m⟩)
  ·by_cases q:k=x
   ·subst q
    simp only[Zr,if_true]at m
    rcases f2 y m with z | z
    ·exact .inr (.inr ⟨k,d,hx,⟨t,ex⟩,z⟩)
    ·exact .inl (hFn y z)
   ·simp only[Zr,q,if_false]at m
    exact .inr (.inr ⟨k,d',hS _ hk,⟨w,Zai ek q⟩,m⟩)
theorem Zk7{c:Cu}{ρ:Lc}{σ:TL}{H H3:Hp}{Φ Ψ:Nat→List Nat}{N Fw:List Nat}{u own:Bool}{d:Nat}{vw:V}{w:T}(r:RF H3 vw w Fw)(b3:∀a∈Fw,From H N σ Φ a)(b4:u=true→Fw.Nodup)(hm:own=true→u=true∧N=[])(hd:own=true∨d=0):
  ∃Fn Rn,RD H3 d vw w Fn Rn∧(∀y∈Fn,H.length≤y)∧Fn.Nodup∧(∀y∈Fn,y∉Rn)∧∀y∈Rn,From H N σ Φ y:=by
 cases own with
 | false=>
  have:d=0:=hd.resolve_left (by simp)
  subst this
  exact⟨[],Fw,.leaf r (.inl rfl),by simp,by simp,by simp,b3⟩
 | true=>
  obtain⟨hu,hN⟩:=hm rfl
  subst hN
  obtain⟨F,R,h1,h2⟩:=r.rd d
  have:=h2.nodup_iff.mpr (b4 hu)
  obtain⟨n1,n2,n3⟩:=List.nodup_append.mp this
  exact⟨F,R,h1,fun y m=>(b3 y (h2.subset (Zz4 _ m))).nil,n1,fun y m q=>n3 y m y q rfl,fun y m=>b3 y (h2.subset (Zz3 _ m))⟩
noncomputable def ZgF(x d:Nat)(own:Bool)(po:PPa)(p:PE): PS:=fun σ=>(po σ).bind fun ks=>(p σ).bind fun w=>(σ x).bind fun t=>if ks.length<d∧d≤999∧(own=true∨dnn d ks.length=0)then(Zc9 (Zej w) ks t).map fun t'=>(none,ZC σ x t')else none
noncomputable def Zeb(x d:Nat)(own:Bool)(p:PE)(po:PPa)(pi:PE): PS:=fun σ=>(p σ).bind fun w=>(po σ).bind fun ks=>(pi σ).bind fun k=>match k with
 | .int k=>(σ x).bind fun t=>if ks.length<d∧d≤999∧(own=true∨dnn d ks.length=0)then(Zc9 (Zi9 k w) ks t).map fun t'=>(none,ZC σ x t')else none
 | _=>none
theorem ZjP{c:Cu}{ρ:Lc}{σ:TL}{H:Hp}{Φ Ψ:Nat→List Nat}{x d a:Nat}{t:T}(s:Su c O S ρ σ H Φ Ψ)(hx:(x,d)∈S)(ex:σ x=some t)(ha:a∈Ψ x): a≠0:=by
 have:=s.st.pos
 obtain⟨_,_,_,q,_⟩:=s.sp x d hx t ex
 rcases q a ha with q | q
 ·omega
 ·exact fun e=>s.st.f0 (e▸c.fs _ _ q)
theorem Zog{x d:Nat}{N:List Nat}{u own:Bool}{o e:Ex}{po:PPa}{p:PE}(hx:(x,d)∈S∧(x,d)∈S')(uq:∀q∈S,∀r∈S,q.1=r.1→q.2=r.2)(y:PaU O x o po)(z:E O N u e p)(hm:own=true→u=true∧N=[])(hN:∀n∈N,n∉O'∧∀q∈S',q.1≠n)(hO:(∀j∈O',j∈O)∧∀q∈S',q∈S): SU O S O' S' SR fr (ZP (Zau o e)) (ZgF x d own po p):=fun c ρ σ H Φ Ψ r hc s q=>by
 have hN':∀n∈N,n∉O'∧∀d,(n,d)∉S':=fun n hn=>⟨(hN n hn).1,fun d m=>(hN n hn).2 _ m rfl⟩
 obtain⟨ks,h1,q⟩:=Zz0.mp q
 obtain⟨w,h2,q⟩:=Zz0.mp q
 obtain⟨t,h3,q⟩:=Zz0.mp q
 split at q
 case isFalse=>first|exact Zx0 q|cases q
 rename_i hc
 obtain⟨t',h4,q⟩:=Zz1.mp q
 subst q
 obtain⟨v,ev,⟨R,rd,nd,dj⟩,p3,p4⟩:=s.sp x d hx.1 t h3
 obtain⟨v',ev',rv⟩:=s.st.slot x t h3
 rw[ev]at ev'
 cases ev'
 obtain⟨Gx,rg,pg⟩:=rd.rf
 obtain⟨_,eG⟩:=rv.det rg
 have hlow:∀k t,σ k=some t→∀a∈Φ k,a<H.length:=fun k t e=>s.low e
 have inF:∀a∈Ψ x,a∈Φ x:=fun a m=>by rw[eG];exact pg.subset (Zz4 _ m)
 have inR:∀a∈R,a∈Φ x:=fun a m=>by rw[eG];exact pg.subset (Zz3 _ m)
 obtain⟨a,_,_,_,_,_,l0,_⟩:=ZeY (Fn:=[]) (Rn:=[]) ks rd nd dj (by simp) hc.1 hc.2.1 h4
 obtain⟨X,a1⟩:=y c.toCtx ρ σ H Φ ks v (.ref a) s.st h1 ev l0.follow
 obtain⟨vw,Y,Fw,b1,b2,b3,b4⟩:=z c.toCtx ρ σ (H++X) Φ w (s.st.ext X) h2
 have s2:=(s.ext X).ext Y
 have grow:∀b,b<H.length→(H++X++Y)[b]?=H[b]?:=fun b hb=>by rw[List.append_assoc,Zy0 hb]
 have rd2:RD (H++X++Y) d v t (Ψ x) R:=rd.frame (fun b m=>grow b (hlow x t h3 b (inF b m))) (fun b m=>grow b (hlow x t h3 b (inR b m)))
 obtain⟨Fn,Rn,w1,w2,w3,w4,w5⟩:=Zk7 (d:=dnn d ks.length) (c:=c) (ρ:=ρ) (Ψ:=Ψ) b2 (fun a m=>(b3 a m).back) b4 hm hc.2.2
 have xN:∀n∈N,n≠x:=fun n hn q=>(hN' n hn).2 d (q▸hx.2)
 have psR:∀b∈Ψ x,b∉Rn:=fun b m q=>by
  rcases w5 b q with h | ⟨n,hn,⟨tn,en⟩,mn⟩
  ·have:=hlow x t h3 b (inF b m);omega
  ·exact p4 n tn (xN n hn) en b m mn
 obtain⟨a',vs,ts,ts',Fa,Ra,l,am,ea,hs,hf,gn,na,gs,gr,go⟩:=ZeY (Fn:=Fn) (Rn:=Rn) ks rd2 nd dj (fun b m q=>by have:=w2 b m;have:=hlow x t h3 b (inF b q);omega) hc.1 hc.2.1 h4
 have haa:a'=a:=by
  have f2:=Zey Y (Zey X l0.follow)
  rw[l.follow]at f2
  cases f2
  rfl
 subst haa
 unfold Zej at hf
 split at hf
 ·rename_i hl
  cases hf
  have lowF:∀b∈Ψ x,b<H.length:=fun b m=>hlow x t h3 b (inF b m)
  obtain⟨F2,R2,r',n',sub',subR'⟩:=go (vs++[vw]) (Fa++Fn) (Ra++Rn) (hs.append (.one w1)) (by
   rw[List.nodup_append]
   exact⟨gn,w3,fun y hy z hz e=>by have:=lowF y (gs y hy);have:=w2 z hz;omega⟩) (fun m=>(Zz8.mp m).elim na fun m=>by have:=lowF _ am;have:=w2 _ m;omega) (fun m=>(Zz8.mp m).elim (fun m=>dj _ am (gr _ m)) (psR _ am)) (fun y m=>List.mem_append.mp m) (fun y m=>List.mem_append.mp m)
  obtain⟨G,st,com⟩:=Zkw (O':=O') (S':=S') (b:=H.length) (N:=N) s2 hx.1 uq h3 ev s.st.len hlow am r' n' (fun y m q=>by
   rcases sub' y m with m | m
   ·rcases subR' y q with q | q
    ·exact dj y m q
    ·exact psR y m q
   ·rcases subR' y q with q | q
    ·have:=w2 y m;have:=hlow x t h3 y (inR y q);omega
    ·exact w4 y m q) sub' (fun y m=>(subR' y m).imp (inR y) id) w2 (fun y m=>w5 y m) hN' hO.1 hO.2
  refine⟨ρ,(H++X++Y).set a' (vs++[vw]),Zr Φ x G,Zr Ψ x F2,by simp,fun y hy hn=>?_,fun _ _=>rfl,.inl ⟨rfl,?_,st,com⟩⟩
  ·have:a'≠y:=fun q=>hn (.inr ⟨x,d,hx.1,⟨t,h3⟩,q▸am⟩)
   rw[Zy2 this,grow y hy]
  ·simp only[ZP,Zau,a1,Zs0,b1,Zb3,ea]
   rw[if_pos ⟨ZjP s hx.1 h3 am,by rw[hs.length];exact hl⟩]
   rfl
 ·first|exact Zx0 hf|cases hf
theorem SU.putS{x d:Nat}{N M:List Nat}{u u' own:Bool}{o e i:Ex}{po:PPa}{p pi:PE}(hx:(x,d)∈S∧(x,d)∈S')(uq:∀q∈S,∀r∈S,q.1=r.1→q.2=r.2)(z:E O N u e p)(y:PaU O x o po)(zi:E O M u' i pi)(hm:own=true→u=true∧N=[])(hN:∀n∈N,n∉O'∧∀q∈S',q.1≠n)(hO:(∀j∈O',j∈O)∧∀q∈S',q∈S): SU O S O' S' SR fr (ZdK e o i) (Zeb x d own p po pi):=fun c ρ σ H Φ Ψ r hc s q=>by
 have hN':∀n∈N,n∉O'∧∀d,(n,d)∉S':=fun n hn=>⟨(hN n hn).1,fun d m=>(hN n hn).2 _ m rfl⟩
 obtain⟨w,h2,q⟩:=Zz0.mp q
 obtain⟨ks,h1,q⟩:=Zz0.mp q
 obtain⟨tk,h5,q⟩:=Zz0.mp q
 cases tk <;> first|exact Zx0 q|(cases q;done)| skip
 rename_i k
 obtain⟨t,h3,q⟩:=Zz0.mp q
 split at q
 case isFalse=>first|exact Zx0 q|cases q
 rename_i hc
 obtain⟨t',h4,q⟩:=Zz1.mp q
 subst q
 obtain⟨v,ev,⟨R,rd,nd,dj⟩,p3,p4⟩:=s.sp x d hx.1 t h3
 obtain⟨v',ev',rv⟩:=s.st.slot x t h3
 rw[ev]at ev'
 cases ev'
 obtain⟨Gx,rg,pg⟩:=rd.rf
 obtain⟨_,eG⟩:=rv.det rg
 have hlow:∀k t,σ k=some t→∀a∈Φ k,a<H.length:=fun k t e=>s.low e
 have inF:∀a∈Ψ x,a∈Φ x:=fun a m=>by rw[eG];exact pg.subset (Zz4 _ m)
 have inR:∀a∈R,a∈Φ x:=fun a m=>by rw[eG];exact pg.subset (Zz3 _ m)
 obtain⟨vw,X,Fw,b1,b2,b3,b4⟩:=z c.toCtx ρ σ H Φ w s.st h2
 have growX:∀b,b<H.length→(H++X)[b]?=H[b]?:=fun b hb=>Zy0 hb
 have rdX:RD (H++X) d v t (Ψ x) R:=rd.frame (fun b m=>growX b (hlow x t h3 b (inF b m))) (fun b m=>growX b (hlow x t h3 b (inR b m)))
 obtain⟨a,_,_,_,_,_,l0,_⟩:=ZeY (Fn:=[]) (Rn:=[]) ks rdX nd dj (by simp) hc.1 hc.2.1 h4
 obtain⟨Y,a1⟩:=y c.toCtx ρ σ (H++X) Φ ks v (.ref a) (s.st.ext X) h1 ev l0.follow
 obtain⟨vk,Z,Fk,d1,d2,d3,d4⟩:=zi c.toCtx ρ σ (H++X++Y) Φ _ ((s.st.ext X).ext Y) h5
 cases d2
 have s2:=((s.ext X).ext Y).ext Z
 have grow:∀b,b<H.length→(H++X++Y++Z)[b]?=H[b]?:=fun b hb=>by rw[List.append_assoc,List.append_assoc,Zy0 hb]
 have rd2:RD (H++X++Y++Z) d v t (Ψ x) R:=rd.frame (fun b m=>grow b (hlow x t h3 b (inF b m))) (fun b m=>grow b (hlow x t h3 b (inR b m)))
 obtain⟨Fn,Rn,w1,w2,w3,w4,w5⟩:=Zk7 (d:=dnn d ks.length) (c:=c) (ρ:=ρ) (Ψ:=Ψ) ((b2.ext Y).ext Z) b3 b4 hm hc.2.2
 have xN:∀n∈N,n≠x:=fun n hn q=>(hN' n hn).2 d (q▸hx.2)
 have psR:∀b∈Ψ x,b∉Rn:=fun b m q=>by
  rcases w5 b q with h | ⟨n,hn,⟨tn,en⟩,mn⟩
  ·have:=hlow x t h3 b (inF b m);omega
  ·exact p4 n tn (xN n hn) en b m mn
 have lowF:∀b∈Ψ x,b<H.length:=fun b m=>hlow x t h3 b (inF b m)
 obtain⟨a',vs,ts,ts',Fa,Ra,l,am,ea,hs,hf,gn,na,gs,gr,go⟩:=ZeY (Fn:=Fn) (Rn:=Rn) ks rd2 nd dj (fun b m q=>by have:=w2 b m;have:=lowF b q;omega) hc.1 hc.2.1 h4
 have haa:a'=a:=by
  have f2:=Zey Z (Zey Y l0.follow)
  rw[l.follow]at f2
  cases f2
  rfl
 subst haa
 unfold Zi9 at hf
 split at hf
 ·rename_i hl
  cases hf
  have hk:k.toNat<ts.length:=by omega
  obtain⟨v0,Gk,Qk,F1,F2,R1,R2,e0,r0,eG',eR',rb⟩:=hs.split (Zy1 hk)
  have rs:=rb (H++X++Y++Z) vw w Fn Rn w1 (fun _ _=>rfl) (fun _ _=>rfl)
  have sub0:∀a∈Fn,a∈Gk∨a∈Fn:=fun a m=>.inr m
  have subR0:∀a∈Rn,a∈Qk∨a∈Rn:=fun a m=>.inr m
  subst eG'
  subst eR'
  obtain⟨F2',R2',r',n',sub',subR'⟩:=go _ _ _ rs (nd3 gn w3 sub0 fun a m q=>by have:=w2 a m;have:=lowF a (gs a q);omega) (fun m=>by
   rcases in3 (G:=Gk) sub0 _ m with m | m
   ·exact na m
   ·have:=w2 _ m;have:=lowF _ am;omega) (fun m=>by
   rcases in3 (G:=Qk) subR0 _ m with m | m
   ·exact dj _ am (gr _ m)
   ·exact psR _ am m) (in3 sub0) (in3 subR0)
  obtain⟨G,st,com⟩:=Zkw (O':=O') (S':=S') (b:=H.length) (N:=N) s2 hx.1 uq h3 ev s.st.len hlow am r' n' (fun y m q=>by
   rcases sub' y m with m | m
   ·rcases subR' y q with q | q
    ·exact dj y m q
    ·exact psR y m q
   ·rcases subR' y q with q | q
    ·have:=w2 y m;have:=hlow x t h3 y (inR y q);omega
    ·exact w4 y m q) sub' (fun y m=>(subR' y m).imp (inR y) id) w2 (fun y m=>w5 y m) hN' hO.1 hO.2
  refine⟨ρ,(H++X++Y++Z).set a' (vs.set k.toNat vw),Zr Φ x G,Zr Ψ x F2',by simp,fun y hy hn=>?_,fun _ _=>rfl,.inl ⟨rfl,?_,st,com⟩⟩
  ·have:a'≠y:=fun q=>hn (.inr ⟨x,d,hx.1,⟨t,h3⟩,q▸am⟩)
   rw[Zy2 this,grow y hy]
  ·simp only[ZdK,b1,Zs0,a1,d1,ZgM,ea]
   rw[if_pos ⟨ZjP s hx.1 h3 am,by rw[hs.length];exact hl⟩]
   rfl
 ·first|exact Zx0 hf|cases hf
noncomputable def PutK(J:List Nat)(put:V→Lc→Option Lc): Prop:=∀v ρ ρ1,put v ρ=some ρ1→∀i,i∉J→ρ1 i=ρ i
theorem PutK.one{j:Nat}: PutK [j] (ZK j):=fun v ρ ρ1 h i hi=>by
 cases h
 have:i≠j:=fun q=>hi (by simp[q])
 simp[upd,this]
theorem Su.loop{J:List Nat}{put:V→Lc→Option Lc}{pput:T→TL→Option TL}(hj:PutOk O J put pput)(hk:PutK J put)(hJ:∀i∈J,i∉O∧∀d,(i,d)∉S){c:Cu}{ρ:Lc}{σ σ1:TL}{K:Hp}{Φ Ψ:Nat→List Nat}{v:V}{t:T}{F:List Nat}(s:Su c O S ρ σ K Φ Ψ)(r:RF K v t F)(hs:∀a∈F,c.H0.length≤a∨c.P a)(ho:∀i∈O,∀t',σ i=some t'→∀a∈Φ i,a∉F)(hp:∀a,SH S σ Ψ a→a∉F)(h:pput t σ=some σ1):
  ∃ρ1 Φ1,put v ρ=some ρ1∧Su c O S ρ1 σ1 K Φ1 Ψ∧(∀i,i∉J→σ1 i=σ i∧Φ1 i=Φ i)∧∀i∈J,∀a∈Φ1 i,a∈F:=by
 obtain⟨ρ1,Φ1,p1,s1,p3,p4⟩:=hj c.toCtx ρ σ K Φ v t F σ1 s.st r hs ho h
 refine⟨ρ1,Φ1,p1,⟨s1,fun i d hi u e=>?_,s.ap,fun i hi u e=>?_⟩,p3,p4⟩
 ·have iJ:i∉J:=fun q=>(hJ i q).2 d hi
  obtain⟨e1,e2⟩:=p3 i iJ
  rw[e1]at e
  obtain⟨w,h1,h2,h3,h4⟩:=s.sp i d hi u e
  refine⟨w,by rw[hk v ρ ρ1 p1 i iJ];exact h1,h2,h3,fun j z hj' ej a m q=>?_⟩
  by_cases jJ:j∈J
  ·exact hp a ⟨i,d,hi,⟨u,e⟩,m⟩ (p4 j jJ a q)
  ·obtain⟨f1,f2⟩:=p3 j jJ
   rw[f1]at ej
   rw[f2]at q
   exact h4 j z hj' ej a m q
 ·have iJ:i∉J:=fun q=>(hJ i q).1 hi
  obtain⟨e1,e2⟩:=p3 i iJ
  rw[e1]at e
  rw[e2]
  exact s.nw i hi u e
theorem ZhU{J:List Nat}{put:V→Lc→Option Lc}{pput:T→TL→Option TL}{b:Sm}{qb:PS}(hj:PutOk O J put pput)(hkp:PutK J put)(hJ:∀i∈J,i∉O∧∀d,(i,d)∉S)(hJR:∀q∈SR,q.1∉J)(hb:SU O S O S SR fr b qb){c:Cu}(hc:∀i,(∀q∈SR,q.1≠i)→c.Fs i=[]){nx:Nx}{vs:List V}{G:List Nat}{H1:Hp}(hG:∀a∈G,a<H1.length)(hsrc:∀a∈G,c.H0.length≤a∨c.P a)(hnx:∀K:Hp,(∀a∈G,K[a]?=H1[a]?)→∀i,i≤vs.length→nx i K=some vs[i]?):
  ∀(rs:List T) (ws:List V) (i:Nat) (ρ:Lc) (σ:TL) (K:Hp) (Φ Ψ:Nat→List Nat) (Fr:List Nat) (r:Option T×TL),(∀j,vs[i+j]?=ws[j]?)→i+ws.length=vs.length→Su c O S ρ σ K Φ Ψ→H1.length≤K.length→(∀a∈G,K[a]?=H1[a]?)→(∀a∈G,¬HU O S σ Φ Ψ a)→RFs K ws rs Fr→(∀a∈Fr,a∈G)→Zcc pput qb σ rs=some r →
   AftU c O S O S SR fr ρ σ K Φ Ψ (Zbe nx put b (rs.length+1) i ρ K) r
 | [],ws,i,ρ,σ,K,Φ,Ψ,Fr,r,hat,hlen,s,hl,hk,hoff,rr,hfr,h=>by
  cases rr
  cases h
  have e:=hnx K hk i (by simp at hlen;omega)
  have e2:vs[i]?=none:=by have:=hat 0;simpa using this
  exact⟨ρ,K,Φ,Ψ,Nat.le_refl _,fun _ _ _=>rfl,fun _ _=>rfl,.inl ⟨rfl,by simp[Zbe,e,e2],s,fun a m=>.inr m⟩⟩
 | t::rs,ws0,i,ρ,σ,K,Φ,Ψ,Fr0,r,hat,hlen,s,hl,hk,hoff,rr,hfr,h=>by
  cases rr with
  | @cons v _ F1 ws _ F2 a b'=>
  simp only[List.length_cons]at hlen
  obtain⟨σ1,h1,h⟩:=Zz0.mp h
  obtain⟨r1,h2,h⟩:=Zz0.mp h
  have e:=hnx K hk i (by omega)
  have e2:vs[i]?=some v:=by have:=hat 0;simpa using this
  have hat':∀j,vs[i+1+j]?=ws[j]?:=fun j=>by have:=hat (j+1);rw[show i+1+j=i+(j+1)by omega,this];simp
  obtain⟨ρ1,Φ1,p1,s1,p3,p4⟩:=Su.loop hj hkp hJ s a (fun x m=>hsrc x (hfr x (Zz4 _ m))) (fun k hk t' e x m q=>hoff x (hfr x (Zz4 _ q)) (.inl ⟨k,hk,⟨t',e⟩,m⟩)) (fun x h q=>hoff x (hfr x (Zz4 _ q)) (.inr h)) h1
  have hh:∀x,HU O S σ1 Φ1 Ψ x→HU O S σ Φ Ψ x:=fun x h=>by
   rcases h with⟨k,hk,⟨t',e⟩,m⟩ | ⟨k,d,hk,⟨t',e⟩,m⟩
   ·obtain⟨q1,q2⟩:=p3 k fun q=>(hJ k q).1 hk
    exact .inl ⟨k,hk,⟨t',q1▸e⟩,q2▸m⟩
   ·obtain⟨q1,q2⟩:=p3 k fun q=>(hJ k q).2 d hk
    exact .inr ⟨k,d,hk,⟨t',q1▸e⟩,m⟩
  obtain⟨ρ2,K2,Φ2,Ψ2,g1,g2,gr,g3⟩:=hb c ρ1 σ1 K Φ1 Ψ r1 hc s1 h2
  have gr':∀q∈SR,ρ2 q.1=ρ q.1:=fun q hq=>(gr q hq).trans (hkp v ρ ρ1 p1 q.1 (hJR q hq))
  have estep:Zbe nx put b ((t::rs).length+1) i ρ K=(b ρ1 K).bind fun q=>match q.1 with
    | some _=>some q
    | none=>Zbe nx put b (rs.length+1) (i+1) q.2.1 q.2.2:=by
   rw[List.length_cons]
   show(nx i K).bind _=_
   rw[e,e2]
   first | (simp only[Zs0,p1];done) | (simp only[Zs0,p1];rfl)
  rcases g3 with⟨k1,k2,k3,k4⟩ | ⟨t',v',F',k1,k2,k3⟩
  ·rw[k1]at h
   have hG2:∀a∈G,K2[a]?=K[a]?:=fun x m=>g2 x (by have:=hG x m;omega) fun q=>hoff x m (hh x q)
   have hoff2:∀a∈G,¬HU O S r1.2 Φ2 Ψ2 a:=fun x m q=>by
    rcases k4 x q with q | q
    ·have:=hG x m;omega
    ·exact hoff x m (hh x q)
   have ih:=ZhU hj hkp hJ hJR hb hc hG hsrc hnx rs ws (i+1) ρ2 r1.2 K2 Φ2 Ψ2 F2 r hat' (by omega) k3 (by omega) (fun x m=>(hG2 x m).trans (hk x m)) hoff2 (b'.frame fun x m=>hG2 x (hfr x (Zz3 _ m))) (fun x m=>hfr x (Zz3 _ m)) h
   rw[estep,k2]
   simp only[Zs0]
   obtain⟨ρ3,K3,Φ3,Ψ3,l1,l2,lr,l3⟩:=ih
   refine⟨ρ3,K3,Φ3,Ψ3,by omega,fun x hx hn=>?_,fun q hq=>(lr q hq).trans (gr' q hq),?_⟩
   ·rw[l2 x (by omega) fun q=>(k4 x q).elim (fun q=>by omega) fun q=>hn (hh x q),g2 x hx fun q=>hn (hh x q)]
   ·rcases l3 with⟨m1,m2,m3,m4⟩ | l
    ·refine .inl ⟨m1,m2,m3,fun x q=>?_⟩
     rcases m4 x q with q | q
     ·exact .inl (by omega)
     ·exact(k4 x q).imp id (hh x)
    ·exact .inr l
  ·rw[k1]at h
   cases h
   refine⟨ρ2,K2,Φ2,Ψ2,g1,fun x hx hn=>g2 x hx fun q=>hn (hh x q),gr',.inr ⟨t',v',F',k1,?_,k3⟩⟩
   rw[estep,k2]
   rfl
theorem Zk8{J Ns:List Nat}{g:Src}{q:PG}{put:V→Lc→Option Lc}{pput:T→TL→Option TL}{b:Sm}{qb:PS}(hg:Gs O Ns g q)(hj:PutOk O J put pput)(hkp:PutK J put)(hJ:∀i∈J,i∉O∧(∀q∈S,q.1≠i)∧∀q∈SR,q.1≠i)(hN:∀i∈Ns,i∉O∧∀q∈S,q.1≠i)(hb:SU O S O S SR fr b qb): SU O S O S SR fr (ZaC g put b) (ZcT q pput qb):=fun c ρ σ H Φ Ψ r hc s h=>by
 obtain⟨ts,h1,h⟩:=Zz0.mp h
 obtain⟨nx,X,vs,F,G,g1,g2,g3,g4,g5⟩:=hg c.toCtx ρ σ H Φ ts s.st h1
 have:=ZhU hj hkp (fun i hi=>⟨(hJ i hi).1,fun d m=>(hJ i hi).2.1 _ m rfl⟩) (fun q hq m=>(hJ q.1 m).2.2 q hq rfl) hb hc (H1:=H++X) (fun a m=>(g4 a m).1) (fun a m=>s.st.from_src (g4 a m).2) g5 ts vs 0 ρ σ (H++X) Φ Ψ F r (by simp) (by simp) (s.ext X) (Zz10 _) (fun _ _=>rfl) (fun a m q=>by
  rcases q with⟨k,hk,⟨t,e⟩,q⟩ | q
  ·exact s.st.from_off (fun i hi=>(hN i hi).1) (g4 a m).2 hk e q
  ·rcases(g4 a m).2 with z | ⟨n,hn,⟨tn,en⟩,mn⟩
   ·have:=s.shlow q;omega
   ·exact s.shoff q (fun d m=>(hN n hn).2 _ m rfl) en mn) g2 g3 h
 have eg:ZaC g put b ρ H=Zbe nx put b (ts.length+1) 0 ρ (H++X):=by simp only[ZaC,g1,Zs0]
 rw[eg]
 exact this.step s (by simp) (fun a ha _=>Zy0 ha) (fun j t _ e=>⟨e,rfl⟩) (fun a h=>.inr h)
end
end TM
end
section
namespace TM
open PySem PM
noncomputable def ZcU(σ:TL): Sps→Option (List T)
 | []=>some []
 | q::sd=>(σ q.1).bind fun t=>(ZcU σ sd).map fun us=>t::us
theorem Zkx{σ:TL}: ∀{sd:Sps} {us:List T},ZcU σ sd=some us→us.length=sd.length∧(∀(k i d:Nat) (u:T),sd[k]?=some (i,d)→us[k]?=some u→σ i=some u)∧∀q∈sd,∃t,σ q.1=some t
 | [],us,h=>by cases h;exact⟨rfl,by simp,by simp⟩
 | q::sd,us,h=>by
  obtain⟨t,h1,h⟩:=Zz0.mp h
  obtain⟨ts,h2,h⟩:=Zz1.mp h
  subst h
  obtain⟨k1,k2,k3⟩:=Zkx h2
  refine⟨by simp[k1],fun k i d u e1 e2=>?_,fun r hr=>?_⟩
  ·cases k with
   | zero=>simp at e1 e2;subst e2;rw[e1]at h1;exact h1
   | succ k=>exact k2 k i d u (by simpa using e1) (by simpa using e2)
  ·rcases Zz7.mp hr with z | z
   ·subst z;exact⟨t,h1⟩
   ·exact k3 r z
noncomputable def Zbu(n:Nat)(sd:Sps)(q:PS): List T→Option (T×List T):=fun ts=>if ts.length=n then(q fun i=>ts[i]?).bind fun r=>(ZcU r.2 sd).map fun us=>(r.1.getD .none,us)else none
theorem SimX.of{n:Nat}{sd:Sps}{fr:Bool}{g:Sm}{q:PS}{O':List Nat}{S':Sps}(h:SU [] sd O' S' sd fr g q)(hn:∀q∈sd,q.1<n)(hS':∀q∈sd,q∈S'): SimX n sd fr (ZG n g) (Zbu n sd q):=fun H vs ts t us Φ Ψ hp hv ht hargs hsp e=>by
 unfold Zbu at e
 rw[if_pos ht]at e
 obtain⟨r,e1,e⟩:=Zz0.mp e
 obtain⟨us',e2,e⟩:=Zz1.mp e
 cases e
 obtain⟨lk1,lk2,lk3⟩:=Zkx e2
 have at_:∀i d,(i,d)∈sd→∃v t,vs[i]?=some v∧ts[i]?=some t:=fun i d hi=>by
  have:i<n:=hn _ hi
  exact⟨vs[i],ts[i],Zy1 (by omega),Zy1 (by omega)⟩
 let Fs:Nat→List Nat:=fun i=>if i∈sd.map (·.1)then Ψ i else []
 have fsm:∀i d,(i,d)∈sd→Fs i=Ψ i:=fun i d hi=>by simp only[Fs];rw[if_pos (List.mem_map_of_mem hi)]
 let c:Cu:=⟨⟨H,sd.flatMap fun q=>Ψ q.1,fun a=>∃j,j<n∧a∈Φ j⟩,Fs,fun i a m=>by
  simp only[Fs]at m
  split at m
  ·rename_i hi
   obtain⟨q,hq,e⟩:=Zz11.mp hi
   exact List.mem_flatMap.mpr ⟨q,hq,e▸m⟩
  ·cases m⟩
 have hc:∀i,(∀q∈sd,q.1≠i)→c.Fs i=[]:=fun i hi=>by
  show(if i∈sd.map (·.1)then Ψ i else [])=[]
  rw[if_neg fun m=>by obtain⟨q,hq,e⟩:=Zz11.mp m;exact hi q hq e]
 have memF0:∀a,a∈c.F0↔∃i d,(i,d)∈sd∧a∈Ψ i:=fun a=>by
  simp only[c,List.mem_flatMap]
  constructor
  ·rintro⟨⟨i,d⟩,h1,h2⟩;exact⟨i,d,h1,h2⟩
  ·rintro⟨i,d,h1,h2⟩;exact⟨(i,d),h1,h2⟩
 have st:Su c [] sd (fun i=>vs[i]?) (fun i=>ts[i]?) H Φ Ψ:=by
  refine⟨⟨fun i t e=>?_,fun i t e a m=>.inr ⟨i,?_,m⟩,(fun i hi=>nomatch hi),Nat.le_refl _,fun a _ _=>rfl,hp,fun m=>?_⟩,fun i d hi t e=>?_,(fun i hi=>nomatch hi),(fun i hi=>nomatch hi)⟩
  ·exact hargs i t e
  ·have:=(Zz6.mp e).1;omega
  ·obtain⟨i,d,hi,m⟩:=(memF0 0).mp m
   obtain⟨v,t,h1,h2⟩:=at_ i d hi
   exact(hsp i d hi v t h1 h2).2.1 m
  ·obtain⟨v,t',h1,h2⟩:=at_ i d hi
   obtain⟨p1,p2,p3⟩:=hsp i d hi v t h1 e
   exact⟨v,h1,p1,fun a m=>.inr (by show a∈Fs i;rw[fsm i d hi];exact m),p3⟩
 obtain⟨ρ',H',Φ',Ψ',h1,h2,hr,h3⟩:=h c _ _ H Φ Ψ r hc st e1
 have frm:∀a,a<H.length→(∀i d,(i,d)∈sd→a∉Ψ i)→H'[a]?=H[a]?:=fun a ha hn=>h2 a ha fun q=>by
  rcases q with⟨j,hj,_⟩ | ⟨i,d,hi,_,m⟩
  ·first|exact Zx0 hj|cases hj
  ·exact hn i d hi m
 have go:∀(O2:List Nat) (S2:Sps) (F:List Nat),(∀q∈sd,q∈S2)→Su c O2 S2 ρ' r.2 H' Φ' Ψ'→(∀a,SH sd r.2 Ψ' a→a∉F)→(fr=true→∀s d,(s,d)∈sd→(∃t,r.2 s=some t)→∀a∈Φ' s,a∉F) →
   ∀(k i d:Nat) (v:V) (u:T),sd[k]?=some (i,d)→vs[i]?=some v→us[k]?=some u→RF H' v u (Φ' i)∧Sp H' d v u (Ψ' i)∧(∀a∈Ψ' i,H.length≤a∨a∈Ψ i)∧(∀a∈Φ' i,H.length≤a∨∃j,j<n∧a∈Φ j)∧(∀a∈Ψ' i,a∉F)∧(∀j d',j≠i→(j,d')∈sd→∀a∈Ψ' i,a∉Φ' j)∧(fr=true→∀a∈Φ' i,a∉F):=by
  intro O2 S2 F hsub s2 shF frF k i d v u ek ev eu
  have hi:=Zy4 ek
  have eσ:=lk2 k i d u ek eu
  obtain⟨v',w1,w2⟩:=s2.st.slot i u eσ
  have:ρ' i=some v:=(hr _ hi).trans ev
  rw[w1]at this
  cases this
  obtain⟨v2,q1,q2,q3,q4⟩:=s2.sp i d (hsub _ hi) u eσ
  rw[w1]at q1
  cases q1
  refine⟨w2,q2,fun a m=>?_,fun a m=>s2.st.src i u eσ a m,fun a m=>shF a ⟨i,d,hi,⟨u,eσ⟩,m⟩,fun j d' hj hjs a m=>?_,fun hf a m=>frF hf i d hi ⟨u,eσ⟩ a m⟩
  ·rcases q3 a m with z | z
   ·exact .inl z
   ·exact .inr (fsm i d hi▸z)
  ·obtain⟨tj,ej⟩:=lk3 _ hjs
   exact q4 j tj hj ej a m
 rcases h3 with⟨k1,k2,k3,k4⟩ | ⟨t',v',F',k1,k2,k3,k4,k5,k6,k7⟩
 ·refine⟨.none,H',Φ',Ψ',[],by simp only[ZG,hv,if_true,k2,Zs1,Option.getD_none],h1,frm,lk1,go O' S' [] hS' k3 (by simp) (by simp),by rw[k1];exact .none,by simp,by simp⟩
 ·refine⟨v',H',Φ',Ψ',F',by simp only[ZG,hv,if_true,k2,Zs1,Option.getD_some],h1,frm,lk1,go [] sd F' (fun _ h=>h) k4 k6 (fun hf=>(k7 hf).2.2),by rw[k1];exact k3,k5,fun hf=>⟨(k7 hf).1,(k7 hf).2.1⟩⟩
theorem SimX.sim{n:Nat}{fr:Bool}{f:List V→Hp→Option (V×Hp)}{p:List T→Option (T×List T)}(h:SimX n [] fr f p): SimF fr f (fun ts=>if ts.length=n then(p ts).map (·.1)else none):=fun H vs ts t F1 hp r e=>by
 simp only at e
 split at e
 case isFalse=>first|exact Zx0 e|cases e
 rename_i hl
 obtain⟨⟨t1,us⟩,e1,e2⟩:=Zz1.mp e
 cases e2
 obtain⟨Φ,hΦ⟩:=r.slots
 obtain⟨v,H',Φ',Ψ',F,b1,b2,b3,b4,b5,b6,b7,b8⟩:=h H vs ts t1 us (fun i=>if i<n then Φ i else []) (fun _=>[]) hp (by rw[r.length,hl]) hl (fun i t e=>by
  obtain⟨v,h1,h2,_⟩:=hΦ i t e
  have:=(Zz6.mp e).1
  exact⟨v,h1,by simpa [show i<n by omega]using h2⟩) (fun i d hi=>nomatch hi) e1
 have eh:=ZhI b2 fun a ha=>b3 a ha fun i d hi=>nomatch hi
 refine⟨v,H'.drop H.length,F,by rw[←eh];exact b1,by rw[←eh];exact b6,fun a m=>?_,b8⟩
 rcases b7 a m with q | ⟨j,hj,q⟩
 ·exact .inl q
 ·simp only[hj,if_true]at q
  have:j<ts.length:=by omega
  obtain⟨_,_,_,h3⟩:=hΦ j ts[j] (Zy1 this)
  exact .inr (h3 a q)
theorem Zmf{f:List V→Hp→Option (V×Hp)}{p:List T→Option (T×List T)}{fr:Bool}(h:SimX 1 [] fr f p)(ns:List Int)(e:∃us,p [.lst (ns.map T.int)]=some (.bool true,us)): ∃H',f [.ref 0] [ns.map V.int]=some (.bool true,H'):=
 Zmx h.sim ns (by obtain⟨us,e⟩:=e;simp[e])
noncomputable def Zfe(j:Nat)(f:PX): TL→List T→Option (List T×TL)
 | σ,[]=>some ([],σ)
 | σ,t::ts=>(f (ZC σ j t)).bind fun r=>(Zfe j f (Z9 r.2 j) ts).map fun q=>(r.1::q.1,q.2)
noncomputable def Zec(g:PG)(j:Nat)(f:PX): PX:=fun σ=>(g (Z9 σ j)).bind fun ts=>if ts.length≤ZM then(Zfe j f (Z9 σ j) ts).map fun r=>(.lst r.1,r.2)else none
section
variable {O Ns:List Nat} {S:Sps}
theorem Zjy{j:Nat}{f:Ex}{pf:PX}(hj:j∉O)(hS:∀d,(j,d)∉S)(hf:EX O S [] true f pf){c:Cu}{ρ:Lc}{nx:Nx}{vs:List V}{G:List Nat}{H1:Hp}(hG:∀a∈G,a<H1.length)(hsrc:∀a∈G,c.H0.length≤a∨c.P a)(hnx:∀K:Hp,(∀a∈G,K[a]?=H1[a]?)→∀i,i≤vs.length→nx i K=some vs[i]?):
  ∀(rs:List T) (ws:List V) (i:Nat) (acc:List V) (σ:TL) (K:Hp) (Φ Ψ:Nat→List Nat) (Fr:List Nat) (out:List T) (σ':TL),(∀k,vs[i+k]?=ws[k]?)→i+ws.length=vs.length→Su c O S ρ σ K Φ Ψ→H1.length≤K.length→(∀a∈G,K[a]?=H1[a]?)→(∀a∈G,¬HU O S σ Φ Ψ a)→RFs K ws rs Fr→(∀a∈Fr,a∈G)→acc.length+rs.length≤ZM→Zfe j pf σ rs=some (out,σ') →
   ∃xs K' Φ' Ψ' F,ZaB nx (ZK j) Z5 f ρ (rs.length+1) i acc K=some (acc++xs,K')∧K.length≤K'.length∧(∀a,a<K.length→¬SH S σ Ψ a→K'[a]?=K[a]?)∧Su c O S ρ σ' K' Φ' Ψ'∧(∀j t,(∀d,(j,d)∉S)→σ' j=some t→σ j=some t∧Φ' j=Φ j)∧(∀a,SH S σ' Ψ' a→K.length≤a∨SH S σ Ψ a)∧(∀s d,(s,d)∈S→(∃t,σ' s=some t)→∀a∈Φ' s,K.length≤a∨(∃j,(∃t,σ j=some t)∧a∈Φ j)∨a∈G)∧RFs K' xs out F∧(∀a∈F,K.length≤a)∧F.Nodup∧(∀a,SH S σ' Ψ' a→a∉F)∧(∀s d,(s,d)∈S→(∃t,σ' s=some t)→∀a∈Φ' s,a∉F)
 | [],ws,i,acc,σ,K,Φ,Ψ,Fr,out,σ',hat,hlen,s,hl,hk,hoff,rr,hfr,hacc,h=>by
  cases rr
  cases h
  have e:=hnx K hk i (by simp at hlen;omega)
  have e2:vs[i]?=none:=by have:=hat 0;simpa using this
  exact⟨[],K,Φ,Ψ,[],by simp[ZaB,e,e2],Nat.le_refl _,fun _ _ _=>rfl,s,fun j t _ e=>⟨e,rfl⟩,fun a h=>.inr h,fun s' d _ ht a m=>.inr (.inl ⟨s',ht,m⟩),.nil,by simp,by simp,by simp,by simp⟩
 | t::rs,ws0,i,acc,σ,K,Φ,Ψ,Fr0,out,σ',hat,hlen,s,hl,hk,hoff,rr,hfr,hacc,h=>by
  cases rr with
  | @cons v _ F1 ws _ F2 a b'=>
  simp only[List.length_cons]at hlen hacc
  obtain⟨⟨w,σ1⟩,h1,h⟩:=Zz0.mp h
  obtain⟨⟨ys,σ2⟩,h2,h⟩:=Zz1.mp h
  cases h
  have e:=hnx K hk i (by omega)
  have e2:vs[i]?=some v:=by have:=hat 0;simpa using this
  have hat':∀k,vs[i+1+k]?=ws[k]?:=fun k=>by have:=hat (k+1);rw[show i+1+k=i+(k+1)by omega,this];simp
  have s1:Su c O S (upd ρ j v) (ZC σ j t) K (Zr Φ j F1) Ψ:=s.putL hj hS a (fun x m=>hsrc x (hfr x (Zz4 _ m))) (fun k hk t' e x m q=>hoff x (hfr x (Zz4 _ q)) (.inl ⟨k,hk,⟨t',e⟩,m⟩)) (fun x h q=>hoff x (hfr x (Zz4 _ q)) (.inr h))
  obtain⟨vw,K1,Φ1,Ψ1,Fw,a1,a2,a3,a4,a5,a6,a11,a7,a8,a9,a10⟩:=hf c (upd ρ j v) (ZC σ j t) K (Zr Φ j F1) Ψ w σ1 s1 h1
  have new1:∀a∈Fw,K.length≤a:=fun a m=>(a8 a m).nil
  have off1:=ZeQ s1 a5 new1 ((a10 rfl).2 (by simp))
  simp only[ZeZ hS]at a3 a6
  have s2:Su c O S ρ (Z9 σ1 j) K1 Φ1 Ψ1:=a4.drop fun _ h=>h
  have old1:∀k u,(∀d,(k,d)∉S)→Z9 σ1 j k=some u→σ k=some u∧Φ1 k=Φ k:=fun k u hk e=>by
   obtain⟨q,e⟩:=ZaR e
   obtain⟨e1,e2⟩:=a5 k u hk e
   exact⟨Zai e1 q,by rw[e2];simp[Zr,q]⟩
  have held1:∀a,SH S (Z9 σ1 j) Ψ1 a→K.length≤a∨SH S σ Ψ a:=fun a h=>a6 a ((SH.del hS).mp h)
  have hG2:∀a∈G,K1[a]?=K[a]?:=fun x m=>a3 x (by have:=hG x m;omega) fun q=>hoff x m (.inr q)
  have hoff2:∀a∈G,¬HU O S (Z9 σ1 j) Φ1 Ψ1 a:=fun x m q=>by
   rcases q with⟨k,hk,⟨u,e⟩,q⟩ | q
   ·obtain⟨e1,e2⟩:=old1 k u (s.ap k hk) e
    exact hoff x m (.inl ⟨k,hk,⟨u,e1⟩,e2▸q⟩)
   ·rcases held1 x q with q | q
    ·have:=hG x m;omega
    ·exact hoff x m (.inr q)
  obtain⟨xs,K2,Φ2,Ψ2,F3,f1,f2,f3,f4,f5,f6,f7,f8,f9,f10,f11,f12⟩:=Zjy hj hS hf hG hsrc hnx rs ws (i+1) (acc++[vw]) (Z9 σ1 j) K1 Φ1 Ψ1 F2 ys σ2 hat' (by omega) s2 (by omega) (fun x m=>(hG2 x m).trans (hk x m)) hoff2 (b'.frame fun x m=>hG2 x (hfr x (Zz3 _ m))) (fun x m=>hfr x (Zz3 _ m)) (by simp;omega) h2
  have offw:∀a∈Fw,¬SH S (Z9 σ1 j) Ψ1 a:=fun a m q=>a9 a ((SH.del hS).mp q) m
  refine⟨vw::xs,K2,Φ2,Ψ2,Fw++F3,?_,by omega,Zjx a2 a3 held1 f3,f4,fun k u hk e=>?_,ZjO a2 held1 f6,fun s' d hs ht x m=>?_,.cons (a7.frame fun x m=>f3 x (a7.lt x m) (offw x m)) f8,fun x m=>?_,?_,fun x h q=>?_,fun s' d hs ht x m q=>?_⟩
  ·rw[List.length_cons,ZaB,e,e2]
   simp only[Zs0,ZK,Z5,a1,if_true]
   rw[if_pos (by omega)]
   simpa using f1
  ·obtain⟨e1,e2⟩:=f5 k u hk e
   obtain⟨e3,e4⟩:=old1 k u hk e1
   exact⟨e3,e2.trans e4⟩
  ·rcases f7 s' d hs ht x m with q | ⟨k,⟨u,eu⟩,mk⟩ | q
   ·exact .inl (by omega)
   ·by_cases hks:∀d,(k,d)∉S
    ·obtain⟨e1,e2⟩:=old1 k u hks eu
     exact .inr (.inl ⟨k,⟨u,e1⟩,e2▸mk⟩)
    ·obtain⟨d',hd⟩:=Classical.not_forall.mp hks
     rcases a11 k d' (Classical.not_not.mp hd) ⟨u,(ZaR eu).2⟩ x mk with q | ⟨k',⟨u',e'⟩,mk'⟩
     ·exact .inl q
     ·by_cases q:k'=j
      ·subst q
       simp only[Zr,if_true]at mk'
       exact .inr (.inr (hfr x (Zz4 _ mk')))
      ·simp only[Zr,q,if_false]at mk'
       exact .inr (.inl ⟨k',⟨u',Zai e' q⟩,mk'⟩)
   ·exact .inr (.inr q)
  ·rcases Zz8.mp m with m | m
   ·exact new1 x m
   ·have:=f9 x m;omega
  ·rw[List.nodup_append]
   refine⟨(a10 rfl).1,f10,fun x hx y hy e=>?_⟩
   have:=a7.lt x hx
   have:=f9 y hy
   omega
  ·rcases Zz8.mp q with q | q
   ·rcases f6 x h with z | z
    ·have:=a7.lt x q;omega
    ·exact offw x q z
   ·exact f11 x h q
  ·rcases Zz8.mp q with q | q
   ·rcases f7 s' d hs ht x m with z | ⟨k,⟨u,eu⟩,mk⟩ | z
    ·have:=a7.lt x q;omega
    ·exact off1 k u (ZaR eu).2 x q mk
    ·have:=hG x z;have:=new1 x q;omega
   ·exact f12 s' d hs ht x m q
theorem EX.comp{g:Src}{q:PG}{j:Nat}{f:Ex}{pf:PX}(hg:Gs O Ns g q)(hj:j∉O∧∀q∈S,q.1≠j)(hN:∀i∈Ns,i∉O∧∀q∈S,q.1≠i)(hf:EX O S [] true f pf): EX O S [] true (Zao g (ZK j) Z5 f) (Zec q j pf):=fun c ρ σ H Φ Ψ t σ' s h=>by
 have hS:∀d,(j,d)∉S:=fun d m=>hj.2 _ m rfl
 obtain⟨ts,h1,h⟩:=Zz0.mp h
 split at h
 ·rename_i hl
  obtain⟨⟨out,σ2⟩,h2,h⟩:=Zz1.mp h
  cases h
  have sd:=s.del j
  obtain⟨nx,X,vs,F,G,g1,g2,g3,g4,g5⟩:=hg c.toCtx ρ (Z9 σ j) H Φ ts sd.st h1
  obtain⟨xs,K,Φ',Ψ',F',d1,d2,d3,d4,d5,d6,d7,d8,d9,d10,d11,d12⟩:=Zjy hj.1 hS hf (c:=c) (ρ:=ρ) (H1:=H++X) (fun a m=>(g4 a m).1) (fun a m=>sd.st.from_src (g4 a m).2) g5 ts vs 0 [] (Z9 σ j) (H++X) Φ Ψ F out σ2 (by simp) (by simp) (sd.ext X) (Zz10 _) (fun _ _=>rfl) (fun a m q=>by
   rcases q with⟨k,hk,⟨t,e⟩,q⟩ | q
   ·exact sd.st.from_off (fun i hi=>(hN i hi).1) (g4 a m).2 hk e q
   ·rcases(g4 a m).2 with z | ⟨n,hn,⟨tn,en⟩,mn⟩
    ·have:=sd.shlow q;omega
    ·exact sd.shoff q (fun d m=>(hN n hn).2 _ m rfl) en mn) g2 g3 (by simpa using hl) h2
  have lx:(H++X).length=H.length+X.length:=List.length_append
  simp only[SH.del hS]at d3 d6
  refine⟨.ref K.length,K++[xs],Φ',Ψ',K.length::F',?_,by simp;omega,fun a ha hn=>?_,d4.ext [xs],fun k u hk e=>?_,fun a h=>?_,fun s' d hs ht a m=>?_,Zdg d8,fun a m=>.inl ?_,fun a h m=>?_,fun _=>⟨?_,fun _ s' d hs ht a m q=>?_⟩⟩
  ·simp only[Zao,g1,Zs0,d1,Zs1,List.nil_append]
  ·rw[Zy0 (by omega),d3 a (by omega) hn,Zy0 ha]
  ·obtain⟨e1,e2⟩:=d5 k u hk e
   exact⟨(ZaR e1).2,e2⟩
  ·rcases d6 a h with z | z
   ·exact .inl (by omega)
   ·exact .inr z
  ·rcases d7 s' d hs ht a m with z | ⟨k,⟨u,eu⟩,mk⟩ | z
   ·exact .inl (by omega)
   ·exact .inr ⟨k,⟨u,(ZaR eu).2⟩,mk⟩
   ·rcases(g4 a z).2 with z | ⟨n,_,⟨tn,en⟩,mn⟩
    ·exact .inl z
    ·exact .inr ⟨n,⟨tn,(ZaR en).2⟩,mn⟩
  ·rcases Zz7.mp m with z | z
   ·omega
   ·have:=d9 a z;omega
  ·rcases Zz7.mp m with z | z
   ·have:=d4.shlow h;omega
   ·exact d11 a h z
  ·rw[List.nodup_cons]
   exact⟨fun m=>Nat.lt_irrefl _ (d8.lt _ m),d10⟩
  ·rcases Zz7.mp q with z | z
   ·obtain⟨u,eu⟩:=ht
    have:=d4.low eu a m
    omega
   ·exact d12 s' d hs ht a m z
 ·first|exact Zx0 h|cases h
end
end TM
end
section
namespace TM
open PySem PM
noncomputable def ZgG(k:Nat)(p:PX)(g:PG)(put:T→TL→Option TL)(b:PS): PS:=fun σ=>(p (Z9 σ k)).bind fun r=>(g (ZC r.2 k r.1)).bind fun ts=>Zcc put b r.2 ts
noncomputable def Cg(k:Nat)(g:Ex→Src): Prop:=∀e ρ H,g e ρ H=(e ρ H).bind fun r=>g (Za k) (upd ρ k r.1) r.2
theorem Cg.range{k:Nat}{C:Ex→ZX}(h:Cts k C): Cg k fun e=>ZaY (C e):=fun e ρ H=>by
 simp only[ZaY]
 rw[h e ρ H]
 cases e ρ H with
 | none=>rfl
 | some p=>rfl
section
variable {O:List Nat} {S SR:Sps} {fr:Bool}
theorem Zoh{k:Nat}{J:List Nat}{g:Ex→Src}{e:Ex}{p:PX}{q:PG}{put:V→Lc→Option Lc}{pput:T→TL→Option TL}{b:Sm}{qb:PS}(hC:Cg k g)(x:EX O S [] true e p)(hg:Gs (k::O) [] (g (Za k)) q)(hk:∀q∈S,q.1≠k)(hj:PutOk O J put pput)(hkp:PutK J put)(hJ:∀i∈J,i∉O∧(∀q∈S,q.1≠i)∧∀q∈SR,q.1≠i)(hb:SU O S O S SR fr b qb): SU O S O S SR fr (ZaC (g e) put b) (ZgG k p q pput qb):=fun c ρ σ H Φ Ψ r hc s h=>by
 have hS:∀d,(k,d)∉S:=fun d m=>hk _ m rfl
 obtain⟨⟨t1,σ1⟩,h1,h⟩:=Zz0.mp h
 obtain⟨ts,h2,h⟩:=Zz0.mp h
 have sd:=s.del k
 obtain⟨v1,H1,Φ1,Ψ1,F1,a1,a2,a3,a4,a5,a6,a11,a7,a8,a9,a10⟩:=x c ρ (Z9 σ k) H Φ Ψ t1 σ1 sd h1
 have new1:∀a∈F1,H.length≤a:=fun a m=>(a8 a m).nil
 have s1:Su c (k::O) S (upd ρ k v1) (ZC σ1 k t1) H1 (Zr Φ1 k F1) Ψ1:=a4.putO (fun j hj=>by rcases Zz7.mp hj with h | h;exact .inr h;exact .inl h) hS a7 (a10 rfl).1 (fun a m=>Nat.le_trans s.st.len (new1 a m)) (fun j w _ ej=>ZeQ sd a5 new1 ((a10 rfl).2 (by simp)) j w ej)
 obtain⟨nx,X,vs,F,G,g1,g2,g3,g4,g5⟩:=hg c.toCtx (upd ρ k v1) (ZC σ1 k t1) H1 (Zr Φ1 k F1) ts s1.st h2
 have gnew:∀a∈G,H1.length≤a:=fun a m=>(g4 a m).2.nil
 have:=ZhU hj hkp (fun i hi=>⟨(hJ i hi).1,fun d m=>(hJ i hi).2.1 _ m rfl⟩) (fun q hq m=>(hJ q.1 m).2.2 q hq rfl) hb hc (H1:=H1++X) (fun a m=>(g4 a m).1) (fun a m=>.inl (by have:=gnew a m;have:=s.st.len;omega)) g5 ts vs 0 ρ σ1 (H1++X) Φ1 Ψ1 F r (by simp) (by simp) (a4.ext X) (Zz10 _) (fun _ _=>rfl) (fun a m q=>by have:=HU.lt a4 q;have:=gnew a m;omega) g2 g3 h
 have eg:ZaC (g e) put b ρ H=Zbe nx put b (ts.length+1) 0 ρ (H1++X):=by
  simp only[ZaC]
  rw[hC e ρ H,a1]
  simp only[Zs0,g1]
 rw[eg]
 have:=this.step a4 (by simp) (fun a ha _=>Zy0 ha) (fun j t _ e=>⟨e,rfl⟩) (fun a h=>.inr h)
 refine this.step s a2 (fun a ha hn=>a3 a ha fun q=>hn ((SH.del hS).mp q)) (fun j t hj e=>?_) (fun a h=>(a6 a h).imp id (SH.del hS).mp)
 obtain⟨e1,e2⟩:=a5 j t hj e
 exact⟨(ZaR e1).2,e2⟩
end
noncomputable def Px(c:Option (T×TL))(Q:T→TL→Prop): Prop:=∃t σ,c=some (t,σ)∧Q t σ
noncomputable def Pbx(c:Option (Bool×TL))(Q:Bool→TL→Prop): Prop:=∃t σ,c=some (t,σ)∧Q t σ
noncomputable def Pr(c:Option (T×List T))(Q:T→List T→Prop): Prop:=∃t us,c=some (t,us)∧Q t us
noncomputable def Psx(c:Option (Option T×TL))(R:T→TL→Prop)(N:TL→Prop): Prop:=∃o σ,c=some (o,σ)∧(∀t,o=some t→R t σ)∧(o=none→N σ)
section
variable {σ:TL} {Q:T→TL→Prop} {B:Bool→TL→Prop} {R:T→TL→Prop} {N:TL→Prop}
theorem Zql{p:PE}(h:Pk (p σ) fun t=>Q t σ): Px (xP p σ) Q:=by
 obtain⟨t,e,q⟩:=h;exact⟨t,σ,by simp[xP,e],q⟩
theorem Zqm{p:PB}(h:Pb (p σ) fun t=>B t σ): Pbx (xB p σ) B:=by
 obtain⟨t,e,q⟩:=h;exact⟨t,σ,by simp[xB,e],q⟩
theorem Zoi{k:Nat}{p1 p2:PX}(h:Px (p1 (Z9 σ k)) fun t σ1=>Px (p2 (ZC σ1 k t)) fun u σ2=>Q u (Z9 σ2 k)): Px (ZaP k p1 p2 σ) Q:=by
 obtain⟨t,σ1,e,u,σ2,e2,q⟩:=h
 exact⟨u,Z9 σ2 k,by simp[ZaP,e,e2],q⟩
theorem Zng{xs:List Nat}{p:List T→Option (T×List T)}{ps:PEs}(h:Pl (ps σ) fun ts=>Pr (p ts) fun t us=>Q t (pick xs (us.map some) σ)): Px (Zah false xs p ps σ) Q:=by
 obtain⟨ts,e,t,us,e2,q⟩:=h
 exact⟨t,_,by simp[Zah,e,e2],q⟩
theorem Zin{g:PG}{j n:Nat}{a:Nat→T}{f:PX}{β:Type}(enc:β→T)(d:β)(P:Nat→β→Prop)(I:Nat→TL→Prop)(hn:n<10000)(hg:Pl (g (Z9 σ j)) fun ts=>ts=tab n a)(h0:I 0 (Z9 σ j))(hf:∀i τ,i<n→I i τ→Px (f (ZC τ j (a i))) fun t τ1=>(∃y,t=enc y∧P i y)∧I (i+1) (Z9 τ1 j))(h:∀(y:Nat→β) (τ:TL),(∀i,i<n→P i (y i))→I n τ→Q (.lst (tab n fun i=>enc (y i))) τ): Px (Zec g j f σ) Q:=by
 obtain⟨ts,e,rfl⟩:=hg
 have key:∀(m k:Nat) (τ:TL),k+m=n→I k τ→∃(ys:Nat→β) (τ1:TL),Zfe j f τ ((List.range m).map fun i=>a (k+i))=some ((List.range m).map fun i=>enc (ys (k+i)),τ1)∧(∀i,i<m→P (k+i) (ys (k+i)))∧I n τ1:=by
  intro m
  induction m with
  | zero=>
   intro k τ hk hi
   have hkn:k=n:=by omega
   subst hkn
   exact⟨fun _=>d,τ,rfl,by simp,hi⟩
  | succ m ih=>
   intro k τ hk hi
   obtain⟨t,τ1,e1,⟨y,ey,py⟩,i1⟩:=hf k τ (by omega) hi
   obtain⟨ys,τ2,e2,p2,i2⟩:=ih (k+1) (Z9 τ1 j) (by omega) i1
   refine⟨fun i=>if i=k then y else ys i,τ2,?_,fun i hi'=>?_,i2⟩
   ·rw[List.range_succ_eq_map]
    simp only[List.map_cons,List.map_map,Zfe,Nat.add_zero,e1,Zs0]
    have ea:List.map ((fun i=>a (k+i))∘Nat.succ) (List.range m)=(List.range m).map fun i=>a (k+1+i):=List.map_congr_left fun i _=>by simp only[Function.comp];congr 1;omega
    rw[ea,e2]
    simp only[Zs1,if_true,ey]
    congr 3
    refine List.map_congr_left fun i _=>?_
    have:k+Nat.succ i≠k:=by omega
    simp only[Function.comp,if_neg this]
    congr 2;omega
   ·by_cases q:i=0
    ·subst q;simpa using py
    ·have:=p2 (i-1) (by omega)
     have e3:k+1+(i-1)=k+i:=by omega
     rw[e3]at this
     have e4:k+i≠k:=by omega
     show P (k+i) (if k+i=k then y else ys (k+i))
     rw[if_neg e4]
     exact this
 obtain⟨ys,τ,e2,p2,i2⟩:=key n 0 (Z9 σ j) (by omega) h0
 simp only[Nat.zero_add]at e2 p2
 refine⟨.lst (tab n fun i=>enc (ys i)),τ,?_,h ys τ p2 i2⟩
 simp only[Zec,e,Zs0,Zaw]
 rw[if_pos (by rw[Zab];omega)]
 unfold tab
 rw[e2]
 rfl
theorem Zoj(h:N σ): Psx (Zam σ) R N:=⟨none,σ,rfl,by simp,fun _=>h⟩
theorem ZiI{a b:PS}(h:Psx (a σ) R fun σ1=>Psx (b σ1) R N): Psx (ZB a b σ) R N:=by
 obtain⟨o,σ1,e,h1,h2⟩:=h
 cases o with
 | none=>
  obtain⟨o2,σ2,e2,k1,k2⟩:=h2 rfl
  exact⟨o2,σ2,by simp[ZB,e,e2],k1,k2⟩
 | some t=>exact⟨some t,σ1,by simp[ZB,e],h1,by simp⟩
theorem Zpx{p:PX}(h:Px (p σ) R): Psx (Zax p σ) R N:=by
 obtain⟨t,σ1,e,q⟩:=h
 exact⟨some t,σ1,by simp[Zax,e],fun _ h=>by cases h;exact q,by simp⟩
theorem Zpy{i:Nat}{p:PX}(h:Px (p σ) fun t σ1=>N (ZC σ1 i t)): Psx (Zap i p σ) R N:=by
 obtain⟨t,σ1,e,q⟩:=h
 exact⟨none,_,by simp[Zap,e],by simp,fun _=>q⟩
theorem Zok{i:Nat}{p:PE}(h:Pk (p σ) fun t=>N (ZC σ i t)): Psx (ZbL i p σ) R N:=by
 obtain⟨t,e,q⟩:=h
 exact⟨none,_,by simp[ZbL,e],by simp,fun _=>q⟩
theorem Zqa{b:PBX}{p q:PS}(h:Pbx (b σ) fun x σ1=>(x=true→Psx (p σ1) R N)∧(x=false→Psx (q σ1) R N)): Psx (Za8 b p q σ) R N:=by
 obtain⟨x,σ1,e,h1,h2⟩:=h
 cases x with
 | true=>obtain⟨o,σ2,e2,k⟩:=h1 rfl;exact⟨o,σ2,by simp[Za8,e,e2],k⟩
 | false=>obtain⟨o,σ2,e2,k⟩:=h2 rfl;exact⟨o,σ2,by simp[Za8,e,e2],k⟩
theorem Zpz{p:PX}(h:Px (p σ) fun _ σ1=>N σ1): Psx (Zfd p σ) R N:=by
 obtain⟨t,σ1,e,q⟩:=h
 exact⟨none,σ1,by simp[Zfd,e],by simp,fun _=>q⟩
theorem Znh{k:Nat}{p:PX}{q:PS}(h:Px (p (Z9 σ k)) fun t σ1=>Psx (q (ZC σ1 k t)) (fun t σ2=>R t (Z9 σ2 k)) fun σ2=>N (Z9 σ2 k)): Psx (Zda k p q σ) R N:=by
 obtain⟨t,σ1,e,o,σ2,e2,k1,k2⟩:=h
 exact⟨o,Z9 σ2 k,by simp[Zda,e,e2],k1,k2⟩
theorem ZpA{x:Nat}{M:List Nat}{f:PE}(h:Pk (f σ) fun w=>∃ts,σ x=some (.lst ts)∧ts.length<10000∧N (ZbX (ZC σ x (.lst (ts++[w]))) M)): Psx (Zek x M ZbJ f σ) R N:=by
 obtain⟨w,e,ts,e2,hl,q⟩:=h
 refine⟨none,_,?_,by simp,fun _=>q⟩
 simp only[Zek,ZbJ,e,e2,Zs0,Zfm,Zej]
 rw[if_pos (by rw[Zab];omega)]
 rfl
theorem Zol{x d:Nat}{own:Bool}{f:PE}(hd:0<d∧d≤999∧(own=true∨dnn d 0=0))(h:Pk (f σ) fun w=>∃ts,σ x=some (.lst ts)∧ts.length<10000∧N (ZC σ x (.lst (ts++[w])))): Psx (ZgF x d own ZbJ f σ) R N:=by
 obtain⟨w,e,ts,e2,hl,q⟩:=h
 refine⟨none,_,?_,by simp,fun _=>q⟩
 simp only[ZgF,ZbJ,e,e2,Zs0,Zc9,Zej,List.length_nil]
 rw[if_pos hd,if_pos (by rw[Zab];omega)]
 rfl
theorem Zom{x d:Nat}{own:Bool}{f i:PE}(hd:0<d∧d≤999∧(own=true∨dnn d 0=0))(h:Pk (f σ) fun w=>Pk (i σ) fun k=>∃ts m,k=.int m∧σ x=some (.lst ts)∧0≤m∧m<ts.length∧N (ZC σ x (.lst (ts.set m.toNat w)))): Psx (Zeb x d own f ZbJ i σ) R N:=by
 obtain⟨w,e,k,e3,ts,m,ek,e2,h0,h1,q⟩:=h
 subst ek
 refine⟨none,_,?_,by simp,fun _=>q⟩
 simp only[Zeb,ZbJ,e,e2,e3,Zs0,Zc9,Zi9,List.length_nil]
 rw[if_pos hd,if_pos ⟨h0,h1⟩]
 rfl
theorem Zio{j:Nat}{b:PS}(P:Nat→TL→Prop): ∀(ts:List T) (k:Nat) {σ:TL},P k σ→(∀i t τ,ts[i]?=some t→P (k+i) τ→Psx (b (ZC τ j t)) R (P (k+i+1)))→(∀τ,P (k+ts.length) τ→N τ)→Psx (Zcc (ZaJ j) b σ ts) R N
 | [],k,σ,h0,_,h2=>⟨none,σ,rfl,by simp,fun _=>h2 σ (by simpa using h0)⟩
 | t::ts,k,σ,h0,h1,h2=>by
  obtain⟨o,σ1,e,k1,k2⟩:=h1 0 t σ (by simp) (by simpa using h0)
  cases o with
  | some u=>exact⟨some u,σ1,by simp[Zcc,ZaJ,e],k1,by simp⟩
  | none=>
   obtain⟨o2,σ2,e2,l⟩:=Zio P ts (k+1) (k2 rfl) (fun i u τ eu p=>by
    have:=h1 (i+1) u τ (by simpa using eu) (by rw[show k+(i+1)=k+1+i by omega];exact p)
    rw[show k+(i+1)+1=k+1+i+1 by omega]at this
    exact this) (fun τ p=>h2 τ (by rw[List.length_cons,show k+(ts.length+1)=k+1+ts.length by omega];exact p))
   exact⟨o2,σ2,by simp[Zcc,ZaJ,e,e2],l⟩
theorem ZpB{g:PG}{j:Nat}{b:PS}{ts:List T}(P:Nat→TL→Prop)(hg:Pl (g σ) fun us=>us=ts)(h0:P 0 σ)(h1:∀i t τ,ts[i]?=some t→P i τ→Psx (b (ZC τ j t)) R (P (i+1)))(h2:∀τ,P ts.length τ→N τ): Psx (ZcT g (ZaJ j) b σ) R N:=by
 obtain⟨us,e,rfl⟩:=hg
 obtain⟨o,σ1,e2,l⟩:=Zio (R:=R) (N:=N) (j:=j) (b:=b) P us 0 h0 (fun i t τ ei p=>by simpa using h1 i t τ ei (by simpa using p)) (fun τ p=>h2 τ (by simpa using p))
 exact⟨o,σ1,by simp only[ZcT,e,Zs0,e2],l⟩
theorem Zky{g:PG}{j n:Nat}{a:Nat→T}{b:PS}(P:Nat→TL→Prop)(hg:Pl (g σ) fun us=>us=tab n a)(h0:P 0 σ)(h1:∀i τ,i<n→P i τ→Psx (b (ZC τ j (a i))) R (P (i+1)))(h2:∀τ,P n τ→N τ): Psx (ZcT g (ZaJ j) b σ) R N:=
 ZpB P hg h0 (fun i t τ e p=>by
  have hi:i<n:=by have:=(Zz6.mp e).1;rwa [Zaw]at this
  rw[Zb8 hi]at e
  cases e
  exact h1 i τ hi p) (fun τ p=>h2 τ (by rwa [Zaw]at p))
theorem Zon{k:Nat}{p:PX}{g:PG}{j:Nat}{b:PS}(h:Px (p (Z9 σ k)) fun t σ1=>Pl (g (ZC σ1 k t)) fun ts=>Psx (Zcc (ZaJ j) b σ1 ts) R N): Psx (ZgG k p g (ZaJ j) b σ) R N:=by
 obtain⟨t,σ1,e,ts,e2,o,σ2,e3,l⟩:=h
 exact⟨o,σ2,by simp only[ZgG,e,Zs0,e2,e3],l⟩
theorem Zni{j n:Nat}{a:Nat→T}{b:PS}(P:Nat→TL→Prop)(h0:P 0 σ)(h1:∀i τ,i<n→P i τ→Psx (b (ZC τ j (a i))) R (P (i+1)))(h2:∀τ,P n τ→N τ): Psx (Zcc (ZaJ j) b σ (tab n a)) R N:=
 Zio P (tab n a) 0 h0 (fun i t τ e p=>by
  have hi:i<n:=by have:=(Zz6.mp e).1;rwa [Zaw]at this
  rw[Zb8 hi]at e
  cases e
  simpa using h1 i τ hi (by simpa using p)) (fun τ p=>h2 τ (by simpa [Zaw]using p))
theorem ZpC{n:Nat}{sd:Sps}{q:PS}{ts:List T}{Q:T→List T→Prop}(hn:ts.length=n)(h:Psx (q fun i=>ts[i]?) (fun t σ=>Pl (ZcU σ sd) fun us=>Q t us) fun σ=>Pl (ZcU σ sd) fun us=>Q .none us): Pr (Zbu n sd q ts) Q:=by
 obtain⟨o,σ,e,h1,h2⟩:=h
 cases o with
 | none=>obtain⟨us,e2,q⟩:=h2 rfl;exact⟨.none,us,by simp[Zbu,hn,e,e2],q⟩
 | some t=>obtain⟨us,e2,q⟩:=h1 t rfl;exact⟨t,us,by simp[Zbu,hn,e,e2],q⟩
theorem Znj{L:List T→Prop}(h:L []): Pl (ZcU σ []) L:=⟨[],rfl,h⟩
theorem Zoo{L:List T→Prop}{i d:Nat}{sd:Sps}{t:T}(e:σ i=some t)(h:Pl (ZcU σ sd) fun us=>L (t::us)): Pl (ZcU σ ((i,d)::sd)) L:=by
 obtain⟨us,e2,q⟩:=h
 exact⟨t::us,by simp[ZcU,e,e2],q⟩
theorem Zop{j k:Nat}{o:Option T}(h:j≠k)(e:σ j=o): Z9 σ k j=o:=by simp[Z9,h,e]
theorem ZmA{x:Nat}{xs:List Nat}{u:T}{us:List T}: pick (x::xs) (List.map some (u::us)) σ x=some u:=by simp[pick]
theorem Zmg{j x:Nat}{xs:List Nat}{u:T}{us:List T}{o:Option T}(h:j≠x)(e:pick xs (List.map some us) σ j=o): pick (x::xs) (List.map some (u::us)) σ j=o:=by simp[pick,h,e]
theorem Znk{j:Nat}{us:List T}{o:Option T}(e:σ j=o): pick [] (List.map some us) σ j=o:=by simp[pick,e]
end
end TM
end
section
namespace My
open PySem
section
variable {prog:Program} {w:World} {A:Around} {R:Result→Shared→Prop} {I:Addr} {fp wr:List Addr} {n:Nat} {P:Nat→Value→Prop} {St:Nat→Heap→Prop}
theorem mx_rest(W:Walks prog w A.in1 I fp wr n P St)(bt:Nat→Nat→Bool)(cmp:CmpOf prog w A.in1 .Gt P bt)(S:Addr)(off:S∉fp)(kw:List (Str×Value)):
  ∀(k j:Nat) (s:Shared) (best:Value) (c:Nat),n-(j+1)=k→j+1≤n→St (j+1) s.heap→P (argBest bt j) best→s.heap.get? S=some { cls:=.type "list",dict:=none,data:=.seq #[best,best] c,slots:=#[] } →
   (∀v g tk,P (argBest bt (n-1)) v→(∀b o,b∉wr→b≠S→s.heap.get? b=some o→g.get? b=some o)→R (.ok (.ret v)) { s with heap:=g,toks:=tk }) →
   codeAny (model prog w) A (.builtin "max.loop" ⟨[.ref I,.none,.ref S],kw⟩) R s:=by
 have offw:S∉wr:=fun q=>off (W.sub _ q)
 have nm:(toString "max"++toString ".loop":String)="max.loop":=by decide
 intro k
 induction k with
 | zero=>
  intro j s best c ek ej st pb at_S out
  have last:j+1=n:=by omega
  refine codeAny_builtin F.entry_max_loop ?_;rw[Around.under_plainId F.plain_max_loop _]
  show wpAny _ A.in1 (seqItems? (.ref S) >>= _) _ _ s;refine wpAny_bind (wpAny_seqItems at_S rfl ?_)
  show wpAny _ A.in1 (tryCatch (pyNext (.ref I)) _ >>= _) _ _ s;refine wpAny_bind (wpAny_tryCatch (W.done s _ _ (last▸st) fun g tk keeps=>?_))
  have at_S':=keeps S _ offw at_S
  show wpAny _ A.in1 (updateSeq S (fun _=>#[]) >>= _) _ _ _
  refine wpAny_bind ?_;refine wpAny_updateSeq at_S' rfl (wpAny_bind (wpAny_letGo (wpAny_pure ?_)))
  exact out best _ tk (by rw[←last];exact pb) fun b o bw bS e=>(Heap.get?_update_other _ _ (Ne.symm bS)).trans (keeps b o bw e)
 | succ k ih=>
  intro j s best c ek ej st pb at_S out
  have more:j+1<n:=by omega
  refine codeAny_builtin F.entry_max_loop ?_;rw[Around.under_plainId F.plain_max_loop _]
  show wpAny _ A.in1 (seqItems? (.ref S) >>= _) _ _ s;refine wpAny_bind (wpAny_seqItems at_S rfl ?_)
  show wpAny _ A.in1 (tryCatch (pyNext (.ref I)) _ >>= _) _ _ s;refine wpAny_bind (wpAny_tryCatch (W.item (j+1) s _ _ more st fun v g tk pv st' keeps=>?_))
  have at_S':=keeps S _ offw at_S
  show wpAny _ A.in1 (tryCatch (holding [v,v] (richCompare .Gt v best >>= _)) _ >>= _) _ _ _;refine wpAny_bind (wpAny_tryCatch (wpAny_holding (wpAny_bind (cmp (j+1) (argBest bt j) v best _ _ _ pv pb ?_))))
  refine wpAny_bind (wpAny_holding (wpAny_truthy_bool ?_));refine wpAny_bind (wpAny_letGo (wpAny_pure ?_))
  cases hb:bt (j+1) (argBest bt j)with
  | true=>
   simp only[if_true];refine wpAny_bind ?_;refine wpAny_updateSeq at_S' rfl (wpAny_bind (wpAny_letGo ?_));rw[nm]
   refine wpAny_pure ⟨plainId_quiet F.plain_max_loop _,ih (j+1) _ v _ (by omega) more (W.frame _ _ _ st' fun b bf o e=>?_) (by simp only[argBest,hb,if_true];exact pv) (Heap.get?_update_self _ at_S' rfl) fun v' g' tk' pv' keeps'=>?_⟩
   ·exact(Heap.get?_update_other _ _ (fun q:S=b=>off (by rw[q];exact bf))).trans e
   ·exact out v' g' tk' pv' fun b o bw bS e=>keeps' b o bw bS ((Heap.get?_update_other _ _ (Ne.symm bS)).trans (keeps b o bw e))
  | false=>
   simp only[Bool.false_eq_true,if_false];refine wpAny_bind (wpAny_letGo ?_);rw[nm]
   refine wpAny_pure ⟨plainId_quiet F.plain_max_loop _,ih (j+1) _ best c (by omega) more st' (by simp only[argBest,hb,Bool.false_eq_true,if_false];exact pb) at_S' fun v' g' tk' pv' keeps'=>?_⟩
   exact out v' g' tk' pv' fun b o bw bS e=>keeps' b o bw bS (keeps b o bw e)
theorem mx_first(W:Walks prog w A.in1 I fp wr n P St)(bt:Nat→Nat→Bool)(cmp:CmpOf prog w A.in1 .Gt P bt)(S:Addr)(off:S∉fp)(kw:List (Str×Value))(some_:0<n){s:Shared}{c:Nat}(st:St 0 s.heap)
  (at_S:s.heap.get? S=some { cls:=.type "list",dict:=none,data:=.seq #[] c,slots:=#[] })
  (out:∀v g tk,P (argBest bt (n-1)) v→(∀b o,b∉wr→b≠S→s.heap.get? b=some o→g.get? b=some o)→R (.ok (.ret v)) { s with heap:=g,toks:=tk }):
  codeAny (model prog w) A (.builtin "max.loop" ⟨[.ref I,.none,.ref S],kw⟩) R s:=by
 have offw:S∉wr:=fun q=>off (W.sub _ q)
 have nm:(toString "max"++toString ".loop":String)="max.loop":=by decide
 refine codeAny_builtin F.entry_max_loop ?_;rw[Around.under_plainId F.plain_max_loop _]
 show wpAny _ A.in1 (seqItems? (.ref S) >>= _) _ _ s;refine wpAny_bind (wpAny_seqItems at_S rfl ?_)
 show wpAny _ A.in1 (tryCatch (pyNext (.ref I)) _ >>= _) _ _ s;refine wpAny_bind (wpAny_tryCatch (W.item 0 s _ _ some_ st fun v g tk pv st' keeps=>?_))
 have at_S':=keeps S _ offw at_S
 show wpAny _ A.in1 (updateSeq S (fun _=>#[v,v]) >>= _) _ _ _
 refine wpAny_bind ?_;refine wpAny_updateSeq at_S' rfl ?_;rw[nm]
 refine wpAny_pure ⟨plainId_quiet F.plain_max_loop _,mx_rest W bt cmp S off kw _ 0 _ v _ rfl some_ (W.frame _ _ _ st' fun b bf o e=>?_) pv (Heap.get?_update_self _ at_S' rfl) fun v' g' tk' pv' keeps'=>?_⟩
 ·exact(Heap.get?_update_other _ _ (fun q:S=b=>off (by rw[q];exact bf))).trans e
 ·exact out v' g' tk' pv' fun b o bw bS e=>keeps' b o bw bS ((Heap.get?_update_other _ _ (Ne.symm bS)).trans (keeps b o bw e))
theorem mx_none(W:Walks prog w A.in1 I fp wr 0 P St)(S:Addr)(x:Str)(d:Value)(kw:List (Str×Value)){s:Shared}{c:Nat}(st:St 0 s.heap)
  (at_S:s.heap.get? S=some { cls:=.type "list",dict:=none,data:=.seq #[] c,slots:=#[] })
  (out:∀g tk,(∀b o,b∉wr→s.heap.get? b=some o→g.get? b=some o)→R (.ok (.ret d)) { s with heap:=g,toks:=tk }):
  codeAny (model prog w) A (.builtin "max.loop" ⟨[.ref I,.none,.ref S],(x,d)::kw⟩) R s:=by
 refine codeAny_builtin F.entry_max_loop ?_;rw[Around.under_plainId F.plain_max_loop _]
 show wpAny _ A.in1 (seqItems? (.ref S) >>= _) _ _ s;refine wpAny_bind (wpAny_seqItems at_S rfl ?_)
 show wpAny _ A.in1 (tryCatch (pyNext (.ref I)) _ >>= _) _ _ s;refine wpAny_bind (wpAny_tryCatch (W.done s _ _ st fun g tk keeps=>?_))
 show wpAny _ A.in1 (rule _ >>= _) _ _ _
 exact wpAny_bind (wpAny_rule (wpAny_pure (out g tk keeps)))
end
section
variable {prog:Program} {w:World} {A:Around} {E:Value→Shared→Prop} {s:Shared}
theorem kw_tree{id:String}{b:Builtin}{args:List Value}{kw:List (Str×Value)}{Q:Value→Shared→Prop}(e1:builtinKind id=none)(e2:plainId id=true)(e3:entryFor table id=some b)(e4:argsOk id ⟨args,kw⟩)
  (go:wpAny (model prog w) A.in1 (b ⟨args,kw⟩) (fun fin s'=>match fin with
   | .done f=>(match (Except.ok f:Result)with
    | .ok (.ret v)=>Q v s'
    | .ok _=>False
    | .error e=>E e s')
   | .again c'=>c'.quiet=true∧codeAny (model prog w) A c' (fun r s'=>match r with
    | .ok (.ret v)=>Q v s'
    | .ok _=>False
    | .error e=>E e s') s') E s):wpAny (model prog w) A (call (.builtin id) args kw) Q E s:=by
 refine wpAny_call (codeAny_call_builtin e2 e3 ?_)
 simp only[checkBuiltinCall,e1]
 cases sg:Manifest.signature? id with
 | none=>exact wpAny_pure go
 | some sig=>
  have e5:Bind.checkArgs id sig ⟨args,kw⟩=pure ():=by simpa only[argsOk,sg]using e4
  simp only[e5]
  exact wpAny_pure go
theorem mx_args(a d:Value): argsOk "max" ⟨[a],[(Str.ofString "default",d)]⟩:=by unfold argsOk;kernel_rfl
theorem mx_walk{x d:Value}{Q:Value→Shared→Prop}
  (h:wpAny (model prog w) A.in1 (pyIter x) (fun it s₂=>∃I fp wr n P St bt,it=.ref I∧Walks prog w A.in1 I fp wr n P St∧St 0 s₂.heap∧(∀b∈fp,b<s₂.heap.objs.size)∧CmpOf prog w A.in1 .Gt P bt ∧
   (n=0→∀g tk,(∀b o,b∉wr→s₂.heap.get? b=some o→g.get? b=some o)→Q d { s₂ with heap:=g,toks:=tk }) ∧
   (0<n→∀v g tk,P (argBest bt (n-1)) v→(∀b o,b∉wr→s₂.heap.get? b=some o→g.get? b=some o)→Q v { s₂ with heap:=g,toks:=tk })) E s):
  wpAny (model prog w) A (call (.builtin "max") [x] [(Str.ofString "default",d)]) Q E s:=by
 have nm:(toString "max"++toString ".loop":String)="max.loop":=by decide
 refine kw_tree F.kind_max F.plain_max F.entry_max (mx_args _ _) ?_
 show wpAny _ A.in1 (Builtin.Builtins.bindParams "max" ["key","default"] 0 ⟨[],[(Str.ofString "default",d)]⟩ >>= _) _ _ s
 refine wpAny_bind (wpAny_of_eq (show Builtin.Builtins.bindParams "max" ["key","default"] 0 ⟨[],[(Str.ofString "default",d)]⟩=pure [none,some d]from rfl) ?_)
 refine wpAny_bind (wpAny_pure ?_)
 refine wpAny_bind (wpAny_mono h (fun it s₂ h₂=>?_) fun _ _ e=>e)
 obtain⟨I,fp,wr,n,P,St,bt,rfl,W,st,below,cmp,q0,q1⟩:=h₂
 refine wpAny_bind (wpAny_newObj_type ?_)
 have off:s₂.heap.objs.size∉fp:=fun hm=>Nat.lt_irrefl _ (below _ hm)
 rw[nm]
 by_cases z:n=0
 ·subst z
  exact wpAny_pure ⟨plainId_quiet F.plain_max_loop _,mx_none W _ _ d [] (W.frame _ _ _ st fun b _ o e=>Heap.get?_push_of_some _ e) (Heap.get?_push_size _ rfl) fun g tk keeps=>q0 rfl g tk fun b o bw e=>keeps b o bw (Heap.get?_push_of_some _ e)⟩
 ·refine wpAny_pure ⟨plainId_quiet F.plain_max_loop _,mx_first W bt cmp _ off _ (Nat.pos_of_ne_zero z) (W.frame _ _ _ st fun b _ o e=>Heap.get?_push_of_some _ e) (Heap.get?_push_size _ rfl) fun v g tk pv keeps=>?_⟩
  exact q1 (Nat.pos_of_ne_zero z) v g tk pv fun b o bw e=>keeps b o bw (Nat.ne_of_lt (Heap.lt_size e)) (Heap.get?_push_of_some _ e)
end
section
variable {prog:Program} {w:World} {A:Around} {R:Result→Shared→Prop} {I:Addr} {fp wr:List Addr} {n:Nat} {P:Nat→Value→Prop} {St:Nat→Heap→Prop}
end
section
variable {prog:Program} {w:World} {A:Around} {E:Value→Shared→Prop} {s:Shared}
end
section
variable {prog:Program} {w:World} {A:Around} {E:Value→Shared→Prop} {s:Shared} {l:Addr} {d:Value} {Q:Value→Shared→Prop}
theorem mx_ints(xs:Array (Int×Tok))(hh:A.handled=none)(hl:s.heap.IsList l (intItems xs))
  (q0:xs.size=0→∀g tk,(∀b o,s.heap.get? b=some o→g.get? b=some o)→Q d { s with heap:=g,toks:=tk })
  (q1:0<xs.size→∀v g tk,(intItems xs)[argBest (fun i j=>decide (numAt xs i>numAt xs j)) (xs.size-1)]?=some v→(∀b o,s.heap.get? b=some o→g.get? b=some o)→Q v { s with heap:=g,toks:=tk }):
  wpAny (model prog w) A (call (.builtin "max") [.ref l] [(Str.ofString "default",d)]) Q E s:=by
 refine mx_walk (iter_intList hl fun s₂ e st below ne=>?_)
 subst e
 have sz:(intItems xs).size=xs.size:=by simp[intItems]
 refine⟨_,_,_,_,_,_,_,rfl,Walks.list (A:=A.in1) hh _ l ne (intItems xs),st,below,CmpOf.ints_gt (numAt xs) (fun _ _=>intItems_at),fun z g tk k=>q0 (sz▸z) g tk (old_kept k),fun z v g tk pv k=>?_⟩
 rw[sz]at z pv
 exact q1 z v g tk pv (old_kept k)
end
section
variable {prog:Program} {w:World} {A:Around} {E:Value→Shared→Prop} {s:Shared} {l:Addr} {d:Value} {Q:Value→Shared→Prop}
end
end My
end
section
namespace PM
open PySem PySem.W PySem.Calls PyProof.Rows PyProof PyProof.Rows.LCg PyProof.Rows.LCp
theorem Zkz(bt:Nat→Nat→Bool): ∀j:Nat,argBest bt j≤j
 | 0=>Nat.le_refl _
 | j+1=>by
  have:=Zkz bt j
  simp only[argBest];split <;> omega
theorem Zka{W:Wd}: ∀{vs:List V} {xs:List Value} {ks:List Int},VRs W vs xs→ZcH vs=some ks→∃ts:List (Int×Tok),xs=ts.map (fun p=>Value.int p.1 p.2)∧ts.map (·.1)=ks
 | [],_,_,h,e=>by cases h;cases e;exact⟨[],rfl,rfl⟩
 | v::vs,xs,ks,h,e=>by
  cases h with
  | cons a b=>
   cases a <;> simp only[ZcH]at e <;> try cases e
   obtain⟨ks',e1,e2⟩:=Zz1.mp e
   obtain⟨ts,h1,h2⟩:=Zka b e1
   exact⟨(_,_)::ts,by rw[h1];rfl,by simp[h2,←e2]⟩
section
variable {prog:Program} {w:World} {Γ:Cx}
end
end PM
end
section
namespace PM
open PySem PySem.W PySem.Calls PyProof.Rows PyProof PyProof.Rows.LCg PyProof.Rows.LCp
section
variable {prog:Program} {w:World} {Γ:Cx}
end
noncomputable def Zff: List V→Hp→Option (V×Hp)
 | [.ref a],H=>H[a]?.bind fun vs=>(ZcH vs).map fun ks=>(.int (ks.max?.getD 0),H)
 | _,_=>none
theorem ZmB(f:Nat→Int)(j:Nat): ∀i:Nat,i≤j→f i≤f (argBest (fun a b=>decide (f a>f b)) j):=by
 induction j with
 | zero=>
  intro i h
  have:i=0:=by omega
  subst this
  exact Int.le_refl _
 | succ j ih=>
  intro i h
  simp only[argBest]
  split
  ·rename_i c
   have c:=of_decide_eq_true c
   rcases Nat.lt_or_ge j i with h1 | h1
   ·have:i=j+1:=by omega
    subst this
    exact Int.le_refl _
   ·have:=ih i h1
    omega
  ·rename_i c
   have c:¬f (j+1)>f (argBest (fun a b=>decide (f a>f b)) j):=fun q=>c (decide_eq_true q)
   rcases Nat.lt_or_ge j i with h1 | h1
   ·have:i=j+1:=by omega
    subst this
    omega
   ·exact ih i h1
section
variable {prog:Program} {w:World} {Γ:Cx}
theorem ZpD{x:Str}{np pos kp p2:Pos}{n2:Nat}{e1:Expr}{f:Ex}(hn:Nm prog w Γ x (.builtin "max"))(h1:J prog w Γ e1 f)
  (he:backTo pos (starEach [e1] Γ.env)=(false,eval e1 Γ.env)::backTo pos (starEach [] Γ.env):=by rfl) (he2:starEach [e1] Γ.env=(false,eval e1 Γ.env)::starEach [] Γ.env:=by rfl)
  (hp:(backTo pos (starEach [e1] Γ.env)).any (·.1)=false:=by rfl):
  J prog w Γ (.Call (.Name x np) [e1] [⟨some (Str.ofString "default"),.Constant (.int 0) n2 p2,kp⟩] pos) (Zk Zff (Zb f Zd)):=by
 intro W ρ H fr s Q E v H' r hf post
 obtain⟨p,a1,hf⟩:=Zz0.mp hf
 obtain⟨p1,b1,b2⟩:=Zz0.mp a1
 obtain⟨u1,H1⟩:=p1
 cases b2
 simp only at hf
 refine wpAny_Call_ofName (hn.use r ?_)
 refine callWith_kw (wpAny_items_cons (h1 W ρ H fr s _ E _ _ r b1 fun W1 k1 t1 y1 l1 r1 v1=>wpAny_items_nil ?_) he2) he hp rfl rfl
 refine kws_cons (wpAny_Constant_int (kws_nil ?_))
 show wpAny (model prog w) Γ.A (call (.builtin "max") [y1] [(Str.ofString "default",.int 0 _)]) Q E _
 unfold Zff at hf
 split at hf
 ·rename_i a b heq
  cases heq
  obtain⟨vs,e1,e2⟩:=Zz0.mp hf
  obtain⟨ks,e3,e4⟩:=Zz1.mp e2
  cases e4
  cases v1 with
  | ref ea=>
   obtain⟨hl,ys,k,hg,hv⟩:=r1.at e1 ea
   obtain⟨ts,g1,g2⟩:=Zka hv e3
   have isl:k1.IsList _ (intItems ts.toArray):=⟨_,hg,rfl,k,by rw[g1];simp[intItems]⟩
   have nums:∀i (hi:i<ts.length),numAt ts.toArray i=ts[i].1:=fun i hi=>by simp[numAt,hi]
   refine My.mx_ints ts.toArray Γ.hh isl (fun z g tk up=>?_) fun z v' g tk pv up=>?_
   ·have:ks=[]:=by
     have z:ts.length=0:=by simpa using z
     have:ts=[]:=List.length_eq_zero_iff.mp z
     subst this;exact g2.symm
    subst this
    exact post W1 g tk _ l1 (r1.grown up) (.int _ _)
   ·have z:0<ts.length:=by simpa using z
    have hb:=Zkz (fun i j=>decide (numAt ts.toArray i>numAt ts.toArray j)) (ts.toArray.size-1)
    have hlow:=ZmB (numAt ts.toArray) (ts.toArray.size-1)
    generalize argBest (fun i j=>decide (numAt ts.toArray i>numAt ts.toArray j)) (ts.toArray.size-1)=b at hb hlow pv
    have hb':b<ts.length:=by simp at hb;omega
    have ev:v'=Value.int ts[b].1 ts[b].2:=by
     have:(intItems ts.toArray)[b]?=some (Value.int ts[b].1 ts[b].2):=by simp[intItems,hb']
     rw[this]at pv;exact(Option.some.inj pv).symm
    have hm:ks.max? = some ts[b].1:=by
     rw[List.max?_eq_some_iff]
     refine⟨by rw[←g2];exact Zz11.mpr ⟨ts[b],List.getElem_mem _,rfl⟩,fun c hc=>?_⟩
     rw[←g2]at hc
     obtain⟨q,hq,rfl⟩:=Zz11.mp hc
     obtain⟨i,hi,rfl⟩:=List.getElem_of_mem hq
     have:=hlow i (by simp;omega)
     rw[nums i hi,nums b hb']at this
     exact this
    subst ev
    exact post W1 g tk _ l1 (r1.grown up) (by rw[hm];exact .int _ _)
 ·first|exact Zx0 hf|cases hf
end
end PM
end
section
namespace TM
open PySem PM
theorem SimX.zero{n:Nat}{sd:Sps}{fr:Bool}: SimX n sd fr (fun _ _=>none) (fun _=>none):=fun H vs ts t us Φ Ψ _ _ _ _ _ e=>by cases e
theorem Znl{ρ:Lc}{j k:Nat}{a b:V}(h:j≠k): upd (upd ρ k a) j b=upd (upd ρ j b) k a:=by
 funext i
 by_cases h1:i=j <;> by_cases h2:i=k <;> simp_all [upd]
theorem ZkA{k j:Nat}{c:Ts}{f:Ex}(hj:j≠k)(hc:∀ρ v H,c (upd ρ k v) H=c ρ H)(hf:Of k f)(nx:Nx)(ρ:Lc)(v:V): ∀(n i:Nat) (acc:List V) (H:Hp),ZaB nx (ZK j) c f (upd ρ k v) n i acc H=ZaB nx (ZK j) c f ρ n i acc H
 | 0,_,_,_=>rfl
 | n+1,i,acc,H=>by
  simp only[ZaB,ZK,Zs0,Znl hj,hc,hf]
  cases nx i H with
  | none=>rfl
  | some o=>
   cases o with
   | none=>rfl
   | some x=>
    simp only[Zs0,hc,hf]
    cases c (upd ρ j x) H with
    | none=>rfl
    | some b=>
     have hf':∀H,f (upd (upd ρ j x) k v) H=f (upd ρ j x) H:=fun H=>hf _ _ _
     simp only[Zs0,hf',ZkA hj hc hf nx ρ v n]
noncomputable def ZgH: List T→Option T
 | [.lst ts]=>(Zbb ts).map fun ks=>.int (ks.max?.getD 0)
 | _=>none
theorem ZpE: OAn Zff ZgH:=fun H vs ts t F r h=>by
 unfold ZgH at h
 split at h
 ·obtain⟨v,rfl,r'⟩:=r.one_inv
  cases r' with
  | ref e hs=>
   obtain⟨ks,h1,h2⟩:=Zz1.mp h
   subst h2
   exact⟨.int (ks.max?.getD 0),by simp only[Zff,e,Zs0,Zif hs h1,Zs1],.int _⟩
 ·first|exact Zx0 h|cases h
end TM
end
section
namespace PM
open PySem PySem.W PySem.Calls PyProof.Rows PyProof
noncomputable def KIn{α:Type}(n:Nat)(P:α→Prop): KasT α→Prop
 | .ret a=>P a
 | .ask i j k=>i<n∧j<n∧∀b,KIn n P (k b)
theorem KIn.bind{α β:Type}{n:Nat}{P:α→Prop}{P':β→Prop}{f:α→KasT β}(h:∀a,P a→KIn n P' (f a)): ∀{t:KasT α},KIn n P t→KIn n P' (t.bind f)
 | .ret a,z=>h a z
 | .ask i j k,z=>⟨z.1,z.2.1,fun b=>KIn.bind h (z.2.2 b)⟩
section
variable {n:Nat}
end
section
variable {prog:Program} {w:World} {A:Around} {E:Value→Shared→Prop} {s:Shared}
end
end PM
namespace PM
open PySem PySem.W PySem.Calls PyProof.Rows PyProof
section
variable {prog:Program} {w:World}
end
end PM
end
section
namespace PM
open PySem PySem.Calls
end PM
namespace TM
open PySem PM
noncomputable def pr2(p:Int×Int): T:=.tup [.int p.1,.int p.2]
end TM
end
section
namespace PM
open PySem PySem.W PySem.Calls PyProof.Rows PyProof
noncomputable def Zqn(t:SetTable): Prop:=t.place.toList.Pairwise (· < ·)∧t.dummies = #[]
end PM
end
section
namespace PM
open PySem PySem.W PySem.Calls PyProof.Rows PyProof
noncomputable def Mk(m:Nat): Prop:=m=7∨m=31∨m=127
end PM
end
section
namespace PM
open PySem PySem.W PySem.Calls PyProof.Rows PyProof
structure Held(prog:Program)(w:World)(es:Array (Int×Value))(t:SetTable)(ks:List Int): Prop where
 kind:ElemsOf (intKind prog w) es.toList
 few:es.size<scanBound
 fit:t.fits es.size=true
 rise:Zqn t
 led:t.led = !(w.params.followText "set-order")
 same:∃vs,(es.toList.map (·.2)).Perm vs∧IntsAre vs ks
section
variable {prog:Program} {w:World} {es:Array (Int×Value)} {t:SetTable} {ks:List Int}
end
noncomputable def Nice(t:SetTable): Prop:=t.plain=true∧Mk t.mask∧t.place.size*5<t.mask*3
section
variable {prog:Program} {w:World} {A:Around} {E:Value→Shared→Prop} {s:Shared} {a:Addr} {ks:List Int}
end
end PM
end
section
namespace PM
open PySem PySem.W PySem.Calls PyProof.Rows PyProof
noncomputable def Zdb: List V→Hp→Option (V×Hp)
 | [.bool b],H=>some (.int (if b then 1 else 0),H)
 | [.int i],H=>some (.int i,H)
 | _,_=>none
theorem Zoq{prog:Program}{w:World}: OpN prog w (fun xs=>call (.type "int") xs) Zdb:=by
 intro Γ W ρ H fr s Q E as xs v H' r hx ho post
 unfold Zdb at ho
 split at ho
 ·first|exact Zx0 ho|cases ho
  obtain⟨x,rfl,rx⟩:=hx.one
  cases rx with
  | bool b=>exact call_int_bool (post W s.heap _ _ (.refl W) r (.int _ _))
 ·first|exact Zx0 ho|cases ho
  obtain⟨x,rfl,rx⟩:=hx.one
  cases rx with
  | int i t=>exact call_int_int (post W s.heap s.toks _ (.refl W) r (.int _ _))
 ·first|exact Zx0 ho|cases ho
end PM
end
section
namespace TM
open PySem PM
noncomputable def Zi0: List T→Option T
 | [.bool b]=>some (.int (if b then 1 else 0))
 | [.int i]=>some (.int i)
 | _=>none
theorem ZpF: OAn Zdb Zi0:=fun H vs ts t F r h=>by
 unfold Zi0 at h
 split at h
 ·obtain⟨v,rfl,r'⟩:=r.one_inv
  cases r';cases h;exact⟨_,rfl,.int _⟩
 ·obtain⟨v,rfl,r'⟩:=r.one_inv
  cases r';cases h;exact⟨_,rfl,.int _⟩
 ·first|exact Zx0 h|cases h
end TM
end
section
namespace PM
open PySem PySem.W PySem.Calls PyProof.Rows PyProof PyProof.Rows.LCg PySem.SeqAt
noncomputable def Zjb: V→Hp→Option (V×Hp)
 | .ref a,H=>H[a]?.bind fun vs=>vs.getLast?.bind fun v=>if a≠0 then some (v,H.set a vs.dropLast)else none
 | _,_=>none
noncomputable def Zjc(o:Ex): Ex:=fun ρ H=>(o ρ H).bind fun p=>Zjb p.1 p.2
section
variable {prog:Program} {w:World} {A:Around} {E:Value→Shared→Prop} {s:Shared}
theorem Znm{a:Addr}{us:List Value}{x:Value}{k:Nat}{Q:Value→Shared→Prop}(g:s.heap.get? a=some (Za2 (us++[x]) k))(hz:us.length+1≤sizeLine)
  (post:∀h' j,Heap.SameBut a s.heap h'→h'.get? a=some (Za2 us j)→Q x { s with heap:=h' }):wpAny (model prog w) A (call (.builtin "list.pop") [.ref a]) Q E s:=by
 refine wpAny_call_entry PySem.F.slot_list_pop ⟨_,g,rfl⟩ PySem.F.entry_list_pop ?_ (PySem.F.args_list_pop_1 _)
 unfold Builtin.«list.pop»
 refine wpAny_bind (m:=selfAndSome _ _ _ _ _) (wpAny_pure ?_)
 dsimp only
 refine wpAny_bind (wpAny_pure ?_)
 rw[if_neg (by decide)]
 refine wpAny_bind (listItems_at g rfl ?_)
 rw[if_neg (by simp)]
 have at_last:(seqIndex? (-1) (us++[x]).toArray.size).bind (fun k=>(us++[x]).toArray[k]?.map (k,·))=some (us.length,x):=by
  have:seqIndex? (-1) (us++[x]).toArray.size=some us.length:=by
   rw[List.size_toArray,List.length_append,List.length_singleton]
   unfold seqIndex?
   simp
   omega
  rw[this]
  simp
 rw[at_last]
 dsimp only
 have cut:((us++[x]).toArray.eraseIdxIfInBounds us.length)=us.toArray:=by
  simp
  rw[List.eraseIdx_append_of_length_le (Zz10 _)]
  simp
 have g':=get?_update_seq g (·.eraseIdxIfInBounds us.length)
 rw[cut]at g'
 refine wpAny_bind (listUpdate_at g rfl (wpAny_pure ⟨_,rfl,post _ _ (Heap.SameBut.update ..) g'⟩) ?_ ?_)
 ·rw[List.size_toArray,List.length_append];simpa using hz
 ·rw[cut,List.size_toArray]
  omega
end
section
variable {prog:Program} {w:World} {Γ:Cx}
theorem VRs.split_last{W:Wd}: ∀{vs:List V} {v:V} {xs:List Value},VRs W (vs++[v]) xs→∃us x,xs=us++[x]∧VRs W vs us∧VR W v x
 | [],v,xs,h=>by
  obtain⟨x,rfl,r⟩:=h.one
  exact⟨[],x,rfl,.nil,r⟩
 | a::vs,v,xs,h=>by
  cases h with
  | cons h1 h2=>
   obtain⟨us,x,rfl,r1,r2⟩:=h2.split_last
   exact⟨_::us,x,rfl,.cons h1 r1,r2⟩
theorem J.pop{o:Expr}{apos pos:Pos}{f:Ex}(ho:J prog w Γ o f)(hbase:attributeBase o "pop" Γ.env (eval o Γ.env)=eval o Γ.env:=by rfl)
  (hline:(apos.endLine == pos.line)=true:=by rfl):J prog w Γ (.Call (.Attribute o "pop" apos) [] [] pos) (Zjc f):=by
 intro W ρ H fr s Q E v H' r hx post
 obtain⟨p,x1,hx⟩:=Zz0.mp hx
 obtain⟨u,H1⟩:=p
 unfold Zjb at hx
 dsimp only at hx
 split at hx
 ·rename_i i _ _
  obtain⟨vs,hvs,hx⟩:=Zz0.mp hx
  obtain⟨l,hl,hx⟩:=Zz0.mp hx
  split at hx
  ·rename_i i0
   cases hx
   obtain⟨ws,rfl⟩:∃ws,vs=ws++[v]:=List.getLast?_eq_some_iff.mp hl
   rw[List.dropLast_concat]at post
   refine wpAny_Call_method0_late hbase hline (ho W ρ H fr s _ E _ _ r x1 fun W1 k1 t1 x l1 r1 y1=>?_)
   cases y1 with
   | @ref _ a aa=>
    obtain⟨hlen,xs,n,hg,hv⟩:=r1.at hvs aa
    obtain⟨us,y,rfl,v1,v2⟩:=hv.split_last
    refine⟨"list","list.pop",PySem.F.plainAttrs_list,PySem.F.slot_list_pop,PySem.F.type_list_pop,(show k1.IsList a (us++[y]).toArray from⟨_,hg,rfl,n,rfl⟩).typeIs,fun b eb=>by cases eb;exact⟨_,hg,rfl⟩,?_⟩
    refine Calls.callWith_builtin rfl (wpAny_of_eq (a:=⟨[],[]⟩) rfl ?_)
    have le:us.length+1≤100000:=by
     have:=v1.length
     rw[List.length_append,List.length_singleton,Zab]at hlen
     omega
    refine Znm (s:={ s with heap:=k1,toks:=t1 }) hg (by rw[sizeLine_eq];omega) fun h' j sb g'=>?_
    exact post W1 h' t1 y l1 (r1.change i0 hvs aa sb g' v1 (by rw[Zab];have:=v1.length;omega)) v2
  ·first|exact Zx0 hx|cases hx
 ·first|exact Zx0 hx|cases hx
end
end PM
end
section
namespace TM
open PySem PM
theorem Ct.comp{k j:Nat}{G:Ex→Src}{c:Ts}{f:Ex}(hj:j≠k)(hG:Cg k G)(hc:∀ρ v H,c (upd ρ k v) H=c ρ H)(hf:Of k f): Ct k fun e=>Zao (G e) (ZK j) c f:=fun e ρ H=>by
 simp only[Zao]
 rw[hG]
 cases e ρ H with
 | none=>rfl
 | some p=>
  simp only[Zs0]
  cases G (Za k) (upd ρ k p.1) p.2 with
  | none=>rfl
  | some z=>simp only[Zs0,ZkA hj hc hf]
section
variable {O N M:List Nat} {S:Sps} {u w:Bool}
end
end TM
end
section
namespace TM
open PySem PM
noncomputable def Zk9: List T→Option T
 | [.lst ts]=>some (.lst ts)
 | _=>none
theorem RDs.zero{H:Hp}: ∀{vs:List V} {ts:List T} {F R:List Nat},RDs H 0 vs ts F R→RFs H vs ts R∧F=[]
 | _,_,_,_,.nil=>⟨.nil,rfl⟩
 | _,_,_,_,.cons a b=>by
  obtain⟨h1,h2⟩:=b.zero
  cases a with
  | leaf h _=>exact⟨.cons h h1,by simp[h2]⟩
section
variable {O N:List Nat} {S:Sps} {u:Bool}
theorem Znn{x:Nat}(hx:(x,1)∈S): EX O S [x] false (Zk Zbx (Zb (Za x) Zd)) (xP (ZW Zk9 (Zg (Zf x) Zq))):=fun c ρ σ H Φ Ψ t σ' s h=>by
 obtain⟨t',h1,h⟩:=Zz1.mp h
 cases h
 obtain⟨ts,e1,e2⟩:=Zz0.mp h1
 obtain⟨tx,e3,e4⟩:=Zz0.mp e1
 cases e4
 have e3:σ x=some tx:=e3
 cases tx with
 | lst us=>
  cases e2
  obtain⟨v,r1,⟨R,q1,q2,q3⟩,q4,q5⟩:=s.sp x 1 hx _ e3
  obtain⟨v',r1',r2⟩:=s.st.slot x _ e3
  rw[r1]at r1'
  cases r1'
  have hv:∃a,v=.ref a:=by have r3:=r2;generalize Φ x=G at r3;cases r3;exact⟨_,rfl⟩
  obtain⟨a0,rfl⟩:=hv
  obtain⟨vs,ts',F',et,eF,e0,hs,_⟩:=q1.inR (by decide)
  cases et
  have hd:dn 1=0:=rfl
  rw[hd]at hs
  obtain⟨rs,rfl⟩:=hs.zero
  have sub:∀a∈R,a∈Φ x:=fun a m=>by
   obtain⟨_,e⟩:=r2.det (.ref e0 rs)
   rw[e]
   exact Zz2 _ m
  refine⟨.ref H.length,H++[vs],Φ,Ψ,H.length::R,?_,by simp,fun a ha _=>Zy0 ha,s.ext [vs],fun j t _ e=>⟨e,rfl⟩,fun a h=>.inr h,fun s' d _ ⟨t,e⟩ a m=>.inr ⟨s',⟨t,e⟩,m⟩,.ref (by simp) (rs.ext _),fun a m=>?_,fun a h q=>?_,by simp⟩
  ·simp[Zk,Zb,Zd,Za,r1,Zbx,e0]
  ·rcases Zz7.mp m with rfl | m
   ·exact .inl (Zz10 _)
   ·exact .inr ⟨x,List.mem_singleton.mpr rfl,⟨_,e3⟩,sub a m⟩
  ·rcases Zz7.mp q with rfl | q
   ·have:=s.shlow h;omega
   ·obtain⟨i,d,hi,⟨ti,ei⟩,mi⟩:=h
    by_cases c:i=x
    ·subst c;exact q3 a mi q
    ·obtain⟨_,_,_,_,k⟩:=s.sp i d hi ti ei
     exact k x _ (Ne.symm c) e3 a mi (sub a q)
 | none=>first|exact Zx0 e2|cases e2
 | bool _=>first|exact Zx0 e2|cases e2
 | int _=>first|exact Zx0 e2|cases e2
 | str _=>first|exact Zx0 e2|cases e2
 | tup _=>first|exact Zx0 e2|cases e2
 | ob _ _=>first|exact Zx0 e2|cases e2
theorem ZmC{k:Nat}{N1:List Nat}{u1:Bool}{C:Ex→Ex}{e:Ex}{p1 p2:PX}(hC:Ct k C)(x:EX O S N1 u1 e p1)(y:EX O S [] true (C (Za k)) p2)(hk:k∉O)(hS:∀q∈S,q.1≠k)(hN1:∀n∈N1,n∉O): EX O S [] true (C e) (ZaP k p1 p2):=fun c ρ σ H Φ Ψ t σ' s h=>by
 have hS:∀d,(k,d)∉S:=fun d m=>hS _ m rfl
 obtain⟨v,H',Φ',Ψ',F,a1,a2,a3,a4,a5,a6,a11,a7,a8,a9,a10⟩:=ZhT hC x y (fun i hi=>hi) hS (fun n hn=>(List.not_mem_nil hn).elim) (fun c ρ σ σ1 H H1 Φ Ψ Φ1 Ψ1 v t F s l s1 old r fr sh un=>by
  refine s1.putL hk hS r (fun a m=>s.st.from_src (fr a m)) (fun i hi w e a m q=>?_) sh
  obtain⟨e1,e2⟩:=old i w (s.ap i hi) e
  rw[e2]at m
  rcases fr a q with q | ⟨n,hn,⟨w',e'⟩,mn⟩
  ·have:=s.low e1 a m;omega
  ·exact(s.st.own i hi w e1).2.2 n w' (fun q=>hN1 n hn (q▸hi)) e' a m mn) c ρ σ H Φ Ψ t σ' s h
 refine⟨v,H',Φ',Ψ',F,a1,a2,a3,a4,a5,a6,a11,a7,fun a m=>?_,a9,fun hu=>⟨(a10 hu).1,fun _=>(a10 hu).2 fun n hn=>(List.not_mem_nil hn).elim⟩⟩
 rcases a8 a m with q | ⟨n,hn,_⟩
 ·exact .inl q
 ·simp at hn
end
theorem Zor{fr:Bool}{f:List V→Hp→Option (V×Hp)}{p:List T→Option (T×List T)}{x d i:Nat}(k:SimX 1 [(0,d)] false f p)(hi:i≠x): SU [] [(x,d)] [] [] [] fr (Zu i (Zk f (Zb (Za x) Zd))) (Zap i (Zah false [x] p (Zg (Zf x) Zq))):=fun c ρ σ H Φ Ψ r hc s e=>by
 obtain⟨⟨t,σ1⟩,h1,h⟩:=Zz1.mp e
 subst h
 obtain⟨ts,h2,h1⟩:=Zz0.mp h1
 obtain⟨⟨t',us⟩,h3,h1⟩:=Zz0.mp h1
 rw[if_pos (by simp)]at h1
 cases h1
 obtain⟨tx,e3,e4⟩:=Zz0.mp h2
 cases e4
 have e3:σ x=some tx:=e3
 obtain⟨v0,r1,sp,q4,q5⟩:=s.sp x d (Zz9.mpr rfl) _ e3
 obtain⟨v',r1',r2⟩:=s.st.slot x _ e3
 rw[r1]at r1'
 cases r1'
 have hpos:0<H.length:=Nat.lt_of_lt_of_le s.st.pos s.st.len
 have n0:0∉Ψ x:=fun q=>by
  rcases q4 0 q with z | z
  ·have:=s.st.pos;omega
  ·exact s.st.f0 (c.fs x 0 z)
 obtain⟨v,H',Φ',Ψ',F,a1,a2,a3,a4,a5,a6,a7,a8⟩:=k H [v0] [tx] t' us (fun _=>Φ x) (fun _=>Ψ x) hpos rfl rfl (fun i t e=>by
  match i,e with
  | 0,e=>cases e;exact⟨v0,rfl,r2⟩) (fun i d' hm v t hv ht=>by
  simp only[List.mem_singleton,Prod.mk.injEq]at hm
  obtain⟨rfl,rfl⟩:=hm
  cases hv
  cases ht
  refine⟨sp,n0,fun j u hj hu=>?_⟩
  match j,hj,hu with
  | 0,hj,_=>exact absurd rfl hj
  | j+1,_,hu=>simp at hu) h3
 match us,a4 with
 | [u],_=>
 obtain⟨b1,b2,b3,b4,b5,b6,b7⟩:=a5 0 0 d v0 u rfl rfl rfl
 have fr1:∀j t,j≠x→σ j=some t→∀a∈Φ j,H'[a]?=H[a]?:=fun j t hj ej a m=>by
  have lt:=s.low ej a m
  refine a3 a lt fun i d' hm q=>?_
  exact q5 j t hj ej a q m
 refine⟨upd ρ i v,H',Zr (fun j=>if j=x then Φ' 0 else Φ j) i F,Ψ,a2,fun a ha hn=>?_,fun q hq=>(List.not_mem_nil hq).elim,.inl ⟨rfl,?_,?_,fun a h=>?_⟩⟩
 ·refine a3 a ha fun i' d' hm q=>hn (.inr ⟨x,d,List.mem_singleton.mpr rfl,⟨_,e3⟩,?_⟩)
  exact q
 ·simp[Zu,Zk,Zb,Zd,Za,r1,a1]
 ·have slot:∀j t,ZC (pick [x] ([u].map some) σ) i t' j=some t→∃w,upd ρ i v j=some w∧RF H' w t (Zr (fun j=>if j=x then Φ' 0 else Φ j) i F j)∧∀a∈Zr (fun j=>if j=x then Φ' 0 else Φ j) i F j,c.H0.length≤a∨c.P a:=fun j t ej=>by
   have from0:∀a,(H.length≤a∨∃j,j<1∧a∈Φ x)→c.H0.length≤a∨c.P a:=fun a h=>by
    rcases h with h | ⟨_,_,h⟩
    ·exact .inl (Nat.le_trans s.st.len h)
    ·exact s.st.src x _ e3 a h
   by_cases cj:j=i
   ·subst cj
    simp only[ZC,if_true,Option.some.injEq]at ej
    subst ej
    refine⟨v,by simp[PM.upd],by simpa [Zr]using a6,fun a m=>?_⟩
    simp only[Zr,if_true]at m
    exact from0 a (a7 a m)
   ·simp only[ZC,cj,if_false]at ej
    by_cases cx:j=x
    ·subst cx
     simp only[pick,List.map_cons,if_true,Option.some.injEq]at ej
     subst ej
     refine⟨v0,by simp[PM.upd,cj,r1],by simpa [Zr,cj]using b1,fun a m=>?_⟩
     simp only[Zr,cj,if_false,if_true]at m
     exact from0 a (b4 a m)
    ·simp only[pick,List.map_cons,List.map_nil,cx,if_false]at ej
     obtain⟨w,w1,w2⟩:=s.st.slot j t ej
     refine⟨w,by simp[PM.upd,cj,w1],?_,fun a m=>?_⟩
     ·simp only[Zr,cj,if_false,cx]
      exact w2.frame (fr1 j t cx ej)
     ·simp only[Zr,cj,if_false,cx]at m
      exact s.st.src j t ej a m
  refine⟨⟨fun j t ej=>?_,fun j t ej=>?_,fun j hj=>(List.not_mem_nil hj).elim,Nat.le_trans s.st.len a2,fun a la hf=>?_,s.st.pos,s.st.f0⟩,fun j d' hj=>(List.not_mem_nil hj).elim,fun j hj=>(List.not_mem_nil hj).elim,fun j hj=>(List.not_mem_nil hj).elim⟩
  ·obtain⟨w,w1,w2,_⟩:=slot j t ej;exact⟨w,w1,w2⟩
  ·obtain⟨w,w1,w2,w3⟩:=slot j t ej;exact w3
  ·rw[a3 a (Nat.lt_of_lt_of_le la s.st.len) fun i' d' hm q=>?_,s.st.keep a la hf]
   rcases q4 a q with z | z
   ·omega
   ·exact hf (c.fs x a z)
 ·rcases h with⟨j,hj,_⟩ | ⟨j,d',hj,_⟩
  ·exact(List.not_mem_nil hj).elim
  ·exact(List.not_mem_nil hj).elim
end TM
end
section
namespace PM
open PySem PySem.W PySem.Calls PyProof.Rows PyProof PySem.Spec
noncomputable def Zgo: Expr→Bool
 | .Starred _ _=>true
 | _=>false
theorem Zi1{e:Expr}{es:List Expr}{env:Env}(h:Zgo e=false): starEach (e::es) env=(false,eval e env)::starEach es env:=by
 cases e <;> first | rfl | cases h
noncomputable def Zgp: List Expr→Bool
 | []=>true
 | e::es=>!Zgo e && Zgp es
theorem Zlr{env:Env}: ∀{es:List Expr} (pos:Pos),Zgp es=true→(backTo pos (starEach es env)).any (·.1)=false
 | [],pos,_=>by rfl
 | e::es,pos,h=>by
  simp only[Zgp,Bool.and_eq_true,Bool.not_eq_true']at h
  have ih:=Zlr (env:=env) (es:=es) pos h.2
  rw[Zi1 h.1]
  unfold backTo at ih ⊢
  simp only[List.map_cons,List.any_cons,Bool.false_or]
  exact ih
section
variable {prog:Program} {w:World} {Γ:Cx}
theorem jc{e:Expr}{es:List Expr}{f:Ex}{g:ZX}(h1:J prog w Γ e f)(h2:Js prog w Γ es g)(hs:Zgo e=false:=by exact rfl): Js prog w Γ (e::es) (Zb f g):=ZL h1 h2 (Zi1 hs)
end
section
variable {prog:Program} {w:World} {K:Frag} {p:Program} {loose:List Str} {mean:ExcName→Option Value} {mg mb:Str→Option Value}
theorem Def.zero{f:Addr}{room:Nat}: Def prog w K p loose mean mg mb f room (fun _ _=>none):=by
 intro Γ dp un clr hd hu W ρ H fr s Q E as xs v H' r hx hF post
 cases hF
end
end PM
end
section
namespace PM
open PySem PySem.W PySem.Calls PyProof.Rows PyProof PySem.Spec
section
variable {prog:Program} {w:World} {Γ:Cx}
theorem ln1{α:Type _}: ∀{xs:List α},xs.length=1→∃x0,xs=[x0]
 | [x0],_=>⟨x0,rfl⟩
theorem ln2{α:Type _}: ∀{xs:List α},xs.length=2→∃x0 x1,xs=[x0,x1]
 | [x0,x1],_=>⟨x0,x1,rfl⟩
theorem ln3{α:Type _}: ∀{xs:List α},xs.length=3→∃x0 x1 x2,xs=[x0,x1,x2]
 | [x0,x1,x2],_=>⟨x0,x1,x2,rfl⟩
theorem ln4{α:Type _}: ∀{xs:List α},xs.length=4→∃x0 x1 x2 x3,xs=[x0,x1,x2,x3]
 | [x0,x1,x2,x3],_=>⟨x0,x1,x2,x3,rfl⟩
theorem ln5{α:Type _}: ∀{xs:List α},xs.length=5→∃x0 x1 x2 x3 x4,xs=[x0,x1,x2,x3,x4]
 | [x0,x1,x2,x3,x4],_=>⟨x0,x1,x2,x3,x4,rfl⟩
theorem ln6{α:Type _}: ∀{xs:List α},xs.length=6→∃x0 x1 x2 x3 x4 x5,xs=[x0,x1,x2,x3,x4,x5]
 | [x0,x1,x2,x3,x4,x5],_=>⟨x0,x1,x2,x3,x4,x5,rfl⟩
theorem ln7{α:Type _}: ∀{xs:List α},xs.length=7→∃x0 x1 x2 x3 x4 x5 x6,xs=[x0,x1,x2,x3,x4,x5,x6]
 | [x0,x1,x2,x3,x4,x5,x6],_=>⟨x0,x1,x2,x3,x4,x5,x6,rfl⟩
theorem jI{k:Int}{n:Nat}{pos:Pos}: J prog w Γ (.Constant (.int k) n pos) (Ze k):=J.int _ _ _
theorem jN{n:Nat}{pos:Pos}: J prog w Γ (.Constant .none n pos) Zbi:=J.none _ _
theorem jB{b:Bool}{n:Nat}{pos:Pos}: J prog w Γ (.Constant (.bool b) n pos) (Zbs b):=J.bool _ _ _
theorem jS{x:Str}{n:Nat}{pos:Pos}: J prog w Γ (.Constant (.str x) n pos) (ZN x):=J.str _ _ _
theorem cO{elt iter:Expr}{x:Str}{px:Pos}{ifs:List Expr}{scope:Scope}{pos:Pos}{cl:List (Str×Addr)}{t:Nat}{g:Src}{c:Ts}{f:Ex}(hg:JI prog w Γ iter g)(hel:∀C ρ,J prog w (ZaM Γ scope cl C [(x,t)] ρ) elt f)(hif:∀C ρ,JF prog w (ZaM Γ scope cl C [(x,t)] ρ) ifs c)
  (hclos:closureFor scope Γ.env=pure cl:=by with_unfolding_all rfl) (hcell:∀y∈scope.names,y.2≠.cell:=by decide) (hkind:scope.kind=.function:=by exact rfl) (hnames:∀y∈scope.names,y.2=.local→scope.names.lookup y.1=some .local:=by decide) (hx:scope.names.lookup x=some .local:=by exact rfl) (hs:∀x,foldedSetIterable iter Γ.env x=pure x:=by intro _;rfl):
  J prog w Γ (.ListComp elt [⟨.Name x px,iter,ifs,0⟩] scope pos) (Zao g (ZK t) c f):=J.comp hg hel hif hclos hcell hkind hnames hx hs
theorem cT{elt iter:Expr}{x x₂:Str}{px px₂ tp:Pos}{kt:Nat}{scope:Scope}{pos:Pos}{cl:List (Str×Addr)}{t t₂:Nat}{g:Src}{f:Ex}(hg:JI2 prog w Γ iter g)(hel:∀C ρ,J prog w (ZaM Γ scope cl C [(x,t),(x₂,t₂)] ρ) elt f)
  (hclos:closureFor scope Γ.env=pure cl:=by with_unfolding_all rfl) (hcell:∀y∈scope.names,y.2≠.cell:=by decide) (hkind:scope.kind=.function:=by exact rfl) (hnames:∀y∈scope.names,y.2=.local→scope.names.lookup y.1=some .local:=by decide) (hx:scope.names.lookup x=some .local:=by exact rfl) (hx₂:scope.names.lookup x₂=some .local:=by exact rfl) (hxx:x≠x₂:=by decide) (htt:t≠t₂:=by decide) (hs:∀x,foldedSetIterable iter Γ.env x=pure x:=by intro _;rfl):
  J prog w Γ (.ListComp elt [⟨.Tuple [.Name x px,.Name x₂ px₂] kt tp,iter,[],0⟩] scope pos) (Zao g (ZdL t t₂) Z5 f):=ZnP hg hel hclos hcell hkind hnames hx hx₂ hxx htt hs
theorem sO{elt iter:Expr}{x y:Str}{px py pos spos:Pos}{ifs:List Expr}{scope:Scope}{cl:List (Str×Addr)}{t i:Nat}{g:Src}{c:Ts}{f:Ex}(hy:Sto prog w Γ y i)(hg:JI prog w Γ iter g)(hel:∀C ρ,J prog w (ZaM Γ scope cl C [(x,t)] ρ) elt f)(hif:∀C ρ,JF prog w (ZaM Γ scope cl C [(x,t)] ρ) ifs c)
  (hsw:swapsWith (.ListComp elt [⟨.Name x px,iter,ifs,0⟩] scope pos) (some (.Name y py)) spos.line Γ.env=pure true:=by rfl)
  (hclos:closureFor scope Γ.env=pure cl:=by with_unfolding_all rfl) (hcell:∀y∈scope.names,y.2≠.cell:=by decide) (hkind:scope.kind=.function:=by exact rfl) (hnames:∀y∈scope.names,y.2=.local→scope.names.lookup y.1=some .local:=by decide) (hx:scope.names.lookup x=some .local:=by exact rfl) (hs:∀x,foldedSetIterable iter Γ.env x=pure x:=by intro _;rfl):
  S1 prog w Γ (.Assign [.Name y py] (.ListComp elt [⟨.Name x px,iter,ifs,0⟩] scope pos) spos) (Zu i (Zao g (ZK t) c f)):=ZhG hy hg hel hif hsw hclos hcell hkind hnames hx hs
end
section
variable {prog:Program} {w:World} {dp un:Nat} {gd:Option (List Code)} {cn:Str} {cs:Scope} {L a:Addr} {ccd:Value} {cl:List (Str×Addr)} {outer:List Env} {h₀:Heap} {hu:un+200<cLine} {names:List Str}
theorem vL{x:Str}{i:Nat}{pos:Pos}(hi:names[i]?=some x:=by rfl)(hx:cs.names.lookup x=some .local:=by exact rfl)(hk:cs.kind=.function:=by exact rfl)(hd:(x == ("__debug__":Str))=false:=by exact rfl): J prog w (Zav dp un gd cn cs L a ccd cl outer h₀ hu names) (.Name x pos) (Za i):=ZJ (rd_loc hi hx hk hd)
theorem vC{x:Str}{i:Nat}{pos:Pos}(hi:names[i]?=some x:=by rfl)(hx:cs.names.lookup x=some .cell:=by exact rfl)(hk:cs.kind=.function:=by exact rfl)(hd:(x == ("__debug__":Str))=false:=by exact rfl): J prog w (Zav dp un gd cn cs L a ccd cl outer h₀ hu names) (.Name x pos) (Za i):=ZJ (rd_cel hi hx hk hd)
theorem sL{x:Str}{i:Nat}(nd:names.Nodup:=by decide)(hi:names[i]?=some x:=by rfl)(hx:cs.names.lookup x=some .local:=by exact rfl)(hk:cs.kind=.function:=by exact rfl): Sto prog w (Zav dp un gd cn cs L a ccd cl outer h₀ hu names) x i:=sto_loc nd hi hx hk
end
section
variable {prog:Program} {w:World} {K:Frag} {p:Program} {loose:List Str} {mean:ExcName→Option Value} {mg mb:Str→Option Value} {Γ:Cx} {dp un:Nat}
theorem nB{x:Str}{v:Value}(clr:Clr K p loose mean mg mb Γ dp un)(e:nsIn K mainGlobals x=some Option.none:=by k_is)(hv:bootBuiltins x=some v:=by boot_by_name)(hn:x≠"__name__":=by decide)(hg:Γ.env.globals=mainGlobals:=by exact rfl)(hb:Γ.env.builtins=builtinsNs:=by exact rfl)(hk:Γ.env.scope.kind=.function:=by exact rfl)(hx:Γ.env.kindOf x=some .globalImplicit:=by exact rfl)(hd:(x == ("__debug__":Str))=false:=by exact rfl): Nm prog w Γ x v:=nm_built clr e hv hn hg hb hk hx hd
theorem cF{x:Str}{np pos:Pos}{f:Addr}{room:Nat}{e:Expr}{es:List Expr}{g:ZX}{o:List V→Hp→Option (V×Hp)}(clr:Clr K p loose mean mg mb Γ dp un)(D:Def prog w K p loose mean mg mb f room o)(h:Js prog w Γ (e::es) g)
  (en:nsIn K mainGlobals x=some (some (.ref f)):=by k_is) (hg:Γ.env.globals=mainGlobals:=by exact rfl) (hk:Γ.env.scope.kind=.function:=by exact rfl) (hx:Γ.env.kindOf x=some .globalImplicit:=by exact rfl) (hd0:(x == ("__debug__":Str))=false:=by exact rfl)
  (hkeep:keepIn K (.ref f)=true:=by k_is) (hd:dp+room<recursionLimit:=by omega) (hu:un+10*room+300<cLine:=by omega)
  (he:Zgo e=false:=by exact rfl) (hp:Zgp es=true:=by exact rfl):J prog w Γ (.Call (.Name x np) (e::es) [] pos) (Zk o g):=Zbh clr (nm_def clr en hg hk hx hd0) hkeep D hd hu h (Zi1 he) (fun pos=>Zlr pos hp)
theorem Dof{name qual:Str}{params:Arguments}{body:List Stmt}{scope:Scope}{dV kV doc pm cdv ct oc:Value}{an od:Option Addr}{osl:Array (Option Value)}{f:Addr}{names:List Str}{n room:Nat}{g:Sm}
  (hbody:∀(dp un:Nat) (gd:Option (List Code)) (L:Addr) (outer:List Env) (h₀:Heap) (hu:un+200<cLine),Clr K p loose mean mg mb (Zav dp un gd qual scope L f cdv (cellsFrom (L+1) scope.names []) outer h₀ hu names) dp un→dp+room<recursionLimit→un+10*room+300<cLine →
   Ss prog w (Zav dp un gd qual scope L f cdv (cellsFrom (L+1) scope.names []) outer h₀ hu names) body g)
  (ho:K.lookup f=some ⟨oc,od,.func (fnOf name qual params body scope dV kV doc pm an cdv ct),osl⟩:=by k_is) (hcd:codeIn K cdv qual=true:=by k_is) (nd:names.Nodup:=by decide) (hn:n≤names.length:=by decide)
  (hbind:∀s xs,xs.length=n→BindsTo s (fnOf name qual params body scope dV kV doc pm an cdv ct) ⟨xs,[]⟩ ((names.take n).zip xs):=by
   intro s xs hx
   first
   | (obtain⟨x0,rfl⟩:=ln1 hx;exact BindsTo.of_eq rfl)
   | (obtain⟨x0,x1,rfl⟩:=ln2 hx;exact BindsTo.of_eq rfl)
   | (obtain⟨x0,x1,x2,rfl⟩:=ln3 hx;exact BindsTo.of_eq rfl)
   | (obtain⟨x0,x1,x2,x3,rfl⟩:=ln4 hx;exact BindsTo.of_eq rfl)
   | (obtain⟨x0,x1,x2,x3,x4,rfl⟩:=ln5 hx;exact BindsTo.of_eq rfl)
   | (obtain⟨x0,x1,x2,x3,x4,x5,rfl⟩:=ln6 hx;exact BindsTo.of_eq rfl)
   | (obtain⟨x0,x1,x2,x3,x4,x5,x6,rfl⟩:=ln7 hx;exact BindsTo.of_eq rfl)) (hkinds:∀x∈names.take n,scope.names.lookup x=some .local∨scope.names.lookup x=some .cell:=by decide) (hone:((cellsFrom 0 scope.names []).map (·.1)).Nodup:=by decide +kernel)
  (hco:scope.isCoroutine=false:=by exact rfl) (hgen:scope.isGenerator=false:=by exact rfl) (hk:scope.kind=.function:=by exact rfl):
  Def prog w K p loose mean mg mb f (room+1) (ZG n g):=Def.of ho hcd nd hn hbind hkinds hone hco hgen hk hbody
end
section
variable {prog:Program} {w:World} {Γ:Cx} {scope:Scope} {cl:List (Str×Addr)} {C:Addr} {ts:List (Str×Nat)} {ρ0:Lc}
theorem vO{x:Str}{t:Nat}{pos:Pos}(hm:(x,t)∈ts:=by first | exact Zz5 | exact Zz2 _ Zz5)(hk:scope.kind=.function:=by exact rfl)(hl:(compEnvC scope cl C Γ.env).kindOf x=some .local:=by exact rfl)(hd:(x == ("__debug__":Str))=false:=by exact rfl): J prog w (ZaM Γ scope cl C ts ρ0) (.Name x pos) (Za t):=ZJ (ZnQ hm hk hl hd)
end
section
variable {prog:Program} {w:World} {dp un:Nat} {gd:Option (List Code)} {cn:Str} {cs:Scope} {L a:Addr} {ccd:Value} {clf:List (Str×Addr)} {outer:List Env} {h₀:Heap} {hu:un+200<cLine} {names:List Str} {scope:Scope} {cl:List (Str×Addr)} {C:Addr} {ts:List (Str×Nat)} {ρ0:Lc}
theorem vD{x:Str}{i:Nat}{pos:Pos}(hi:names[i]?=some x:=by rfl)(hx:cs.names.lookup x=some .cell:=by exact rfl)(hne:∀p∈ts,p.2≠i:=by decide)(hcl:cl.lookup x=clf.lookup x:=by exact rfl)(hk:scope.kind=.function:=by exact rfl)(hl:(compEnvC scope cl C (envX cn cs L a ccd clf)).kindOf x=some .cell:=by exact rfl)(hd:(x == ("__debug__":Str))=false:=by exact rfl):
  J prog w (ZaM (Zav dp un gd cn cs L a ccd clf outer h₀ hu names) scope cl C ts ρ0) (.Name x pos) (Za i):=ZJ (rdc_cel hi hx hne hcl hk hl hd)
end
end PM
end
section
namespace PM
open PySem PySem.W PySem.Calls PyProof.Rows PyProof PySem.Spec
theorem ZkB(W:Wd)(led:List (Addr×Obj)): ∃lent:List (Addr×Obj),(∀q∈led,(q.1∈W.pi∨q.1∈W.tups.map (·.1))↔q∈lent)∧∀q∈lent,q∈led:=
 ⟨led.filter (fun q=>decide (q.1∈W.pi∨q.1∈W.tups.map (·.1))),fun q hq=>⟨fun h=>Zy9.mpr ⟨hq,by simpa using h⟩,fun h=>by simpa using (List.mem_filter.mp h).2⟩,fun q hq=>(List.mem_filter.mp hq).1⟩
theorem Zla{Γ:Cx}{W:Wd}{ρ:Lc}{H:Hp}{fr:List (Addr×Obj)}{h:Heap}{m:Str→Option Value}{c led lent:List (Addr×Obj)}{as:List V}{xs:List Value}{n dp un:Nat}{gd:Option (List Code)}{qual:Str}{scope:Scope}{f L':Addr}{cdv:Value}{outer:List Env}{g0 h₁:Heap}{hu:un+200<cLine}{names:List Str}
  (r:Rep' Γ W ρ H fr h m c led) (hx:VRs W as xs) (hlen:as.length=n) (nd:names.Nodup) (inn:∀q∈led,(q.1∈W.pi∨q.1∈W.tups.map (·.1))↔q∈lent) (isub:∀q∈lent,q∈led)
  (stay:∀b o,h.get? b=some o→b∉lent.map (·.1)→g0.get? b=some o) (F':Fr g0 L' h₁ (bindL (envX qual scope L' f cdv []).kindOf ((names.take n).zip xs) fun _=>none)) (N':News g0 L' h₁ lent) (hnc:∀y∈scope.names,y.2≠.cell):
  Rep (Zav dp un gd qual scope L' f cdv [] outer g0 hu names) W (fun i=>as[i]?) H [] h₁:=by
 have scN:W.sc.1∉lent.map (·.1):=fun z=>by
  obtain⟨t,ht,e⟩:=Zz11.mp z
  exact r.notSc t (isub t ht) e
 have ndt:(names.take n).Nodup:=nd.sublist (List.take_sublist _ _)
 refine⟨_,[],lent,⟨F',N',⟨r.R.len,r.R.nd,fun i vs e ni=>?_,fun q hq=>?_,r.R.kind,fun i vs fs e hi=>?_,r.R.inlt,r.R.iuni⟩,stay _ _ (r.F.keep _ _ r.sc) scN,r.sc0,fun q hq=>(nomatch hq),fun q hq=>(nomatch hq),fun q hq=>(nomatch hq),fun q hq=>(nomatch hq),fun q hq=>(nomatch hq),fun q hq=>(nomatch hq),fun q hq=>(nomatch hq),⟨fun i x u hi hk1 hu1=>?_,fun i x u hi hk1 hu1=>?_,fun x c1 hc=>(nomatch hc),fun x y c1 h1 h2=>(nomatch h1)⟩⟩⟩
 ·obtain⟨l,b,ys,k,h1,h2,h3⟩:=r.R.lists i vs e ni
  exact⟨l,b,ys,k,h1,Zbf h2 fun z=>(inn _ z).mp (.inl (Zy4 h1)),h3⟩
 ·exact Zbf (r.R.tups q hq) fun z=>(inn _ z).mp (.inr (List.mem_map_of_mem hq))
 ·obtain⟨l,b,od,ys,h1,h2,h3⟩:=r.R.objs i vs fs e hi
  exact⟨l,b,od,ys,h1,Zbf h2 fun z=>(inn _ z).mp (.inl (Zy4 h1)),h3⟩
 ·have hi':i<n:=by rw[←hlen];exact(Zz6.mp hu1).1
  obtain⟨y,h2,h3⟩:=hx.at hu1
  exact⟨y,ZjM ndt (by rw[List.getElem?_take_of_lt hi'];exact hi) h2 hk1,h3⟩
 ·exact absurd rfl (hnc _ (Zcp hk1))
noncomputable def Passed(Γ:Cx)(base:Heap)(outer:List Env)(W:Wd)(H':Hp)(C e:Addr)(hh:Heap): Prop:=
 ∃W',W.Le W'∧∃G m t vs news,Fr Γ.h₀ Γ.L G m∧RaisedS base G (Γ.env::outer) e (.ref C) t vs news hh∧G.UpToSlots hh∧HR W' H' (W'.sc::news)
noncomputable def Thrown(Γ:Cx)(base:Heap)(outer:List Env)(W:Wd)(H':Hp)(C e:Addr)(hh:Heap): Prop:=
 (∃W',W.Le W'∧∃ρ' fr' h' vs,Rep Γ W' ρ' H' fr' h'∧Heap.MadeExcOf h' hh e (.ref C) vs)∨Passed Γ base outer W H' C e hh
theorem Passed.le{Γ:Cx}{base:Heap}{outer:List Env}{W W1:Wd}{H':Hp}{C e:Addr}{hh:Heap}(l:W.Le W1)(t:Passed Γ base outer W1 H' C e hh): Passed Γ base outer W H' C e hh:=by
 obtain⟨W',l',t⟩:=t
 exact⟨W',l.trans l',t⟩
theorem Thrown.le{Γ:Cx}{base:Heap}{outer:List Env}{W W1:Wd}{H':Hp}{C e:Addr}{hh:Heap}(l:W.Le W1)(t:Thrown Γ base outer W1 H' C e hh): Thrown Γ base outer W H' C e hh:=by
 rcases t with⟨W',l',t⟩ | t
 ·exact .inl ⟨W',l.trans l',t⟩
 ·exact .inr (t.le l)
noncomputable abbrev SmR:=Lc→Hp→Option (Addr×Hp)
section
variable (prog:Program) (w:World) (base:Heap) (outer:List Env)
noncomputable def Th1(Γ:Cx)(st:Stmt)(g:SmR): Prop:=∀(W:Wd) (ρ:Lc) (H:Hp) (fr:List (Addr×Obj)) (s:Shared) (Q:Flow→Shared→Prop) (E:Value→Shared→Prop) (C:Addr) (H':Hp),
 Rep Γ W ρ H fr s.heap→g ρ H=some (C,H')→(∀e hh tk',Thrown Γ base outer W H' C e hh→E (.ref e) { s with heap:=hh,toks:=tk' })→wpAny (model prog w) Γ.A (exec st Γ.env) Q E s
noncomputable def ThS(Γ:Cx)(ss:List Stmt)(g:SmR): Prop:=∀(W:Wd) (ρ:Lc) (H:Hp) (fr:List (Addr×Obj)) (s:Shared) (Q:Flow→Shared→Prop) (E:Value→Shared→Prop) (C:Addr) (H':Hp),
 Rep Γ W ρ H fr s.heap→g ρ H=some (C,H')→(∀e hh tk',Thrown Γ base outer W H' C e hh→E (.ref e) { s with heap:=hh,toks:=tk' })→wpAny (model prog w) Γ.A (execs ss Γ.env) Q E s
variable (K:Frag) (p:Program) (loose:List Str) (mean:ExcName→Option Value) (mg mb:Str→Option Value)
noncomputable def ClrB(Γ:Cx)(dp un:Nat): Prop:=∃(gd:Option (List Code)) (cn:Str) (cs:Scope) (a:Addr) (ccd:Value) (cl:List (Str×Addr)) (A₀:Around),
 Γ.A=ktrTop dp un gd cn cs Γ.L a ccd cl outer∧Γ.env=envX cn cs Γ.L a ccd cl∧Below A₀ base outer Γ.h₀∧K.In Γ.h₀∧Top p loose mean mg mb Γ.h₀∧cs.kind=.function
end
noncomputable def DefR(prog:Program)(w:World)(K:Frag)(p:Program)(loose:List Str)(mean:ExcName→Option Value)(mg mb:Str→Option Value)(f:Addr)(room:Nat)(F:List V→Hp→Option (Addr×Hp)): Prop:=
 ∀(base:Heap) (outer:List Env) (Γ:Cx) (dp un:Nat),ClrB base outer K p loose mean mg mb Γ dp un→dp+room<recursionLimit→un+10*room+300<cLine →
 ∀(W:Wd) (ρ:Lc) (H:Hp) (fr:List (Addr×Obj)) (s:Shared) (R:Result→Shared→Prop) (as:List V) (xs:List Value) (C:Addr) (H':Hp),
  Rep Γ W ρ H fr s.heap→VRs W as xs→F as H=some (C,H')→(∀e hh tk',Passed Γ base outer W H' C e hh→R (.error (.ref e)) { s with heap:=hh,toks:=tk' })→codeAny (model prog w) Γ.A (.call (.ref f) ⟨xs,[]⟩) R s
noncomputable def ZgS(n:Nat)(g:SmR): List V→Hp→Option (Addr×Hp):=fun as H=>if as.length=n then g (fun i=>as[i]?) H else none
section
variable {prog:Program} {w:World} {K:Frag} {p:Program} {loose:List Str} {mean:ExcName→Option Value} {mg mb:Str→Option Value} {base:Heap} {outer:List Env} {Γ:Cx} {dp un:Nat}
theorem ClrB.clr(h:ClrB base outer K p loose mean mg mb Γ dp un): Clr K p loose mean mg mb Γ dp un:=by
 obtain⟨gd,cn,cs,a,ccd,cl,A₀,h1,h2,h3⟩:=h
 exact⟨gd,cn,cs,a,ccd,cl,outer,A₀,base,h1,h3⟩
theorem Rep'.ground{W:Wd}{ρ:Lc}{H:Hp}{fr:List (Addr×Obj)}{h g0:Heap}{m:Str→Option Value}{c led lent:List (Addr×Obj)}(r:Rep' Γ W ρ H fr h m c led)(isub:∀q∈lent,q∈led)(stay:∀b o,h.get? b=some o→b∉lent.map (·.1)→g0.get? b=some o): Fr Γ.h₀ Γ.L g0 m:=by
 have off:∀b,(∃q∈lent,q.1=b)→b≠Γ.L∧Γ.h₀.get? b=none:=fun b ⟨q,hq,e⟩=>e▸(r.N q (isub q hq)).2
 obtain⟨o,es,ep,h1,h2⟩:=r.F.ns
 refine⟨⟨o,es,ep,stay _ _ h1 fun z=>(off _ (by simpa using z)).1 rfl,h2⟩,fun b o e=>stay b o (r.F.keep b o e) fun z=>?_,r.F.above⟩
 have:=(off b (by simpa using z)).2
 rw[e]at this
 cases this
theorem DefR.of{name qual:Str}{params:Arguments}{body:List Stmt}{scope:Scope}{dV kV doc pm cdv ct oc:Value}{an od:Option Addr}{osl:Array (Option Value)}{f:Addr}{names:List Str}{n room:Nat}{g:SmR}
  (ho:K.lookup f=some ⟨oc,od,.func (fnOf name qual params body scope dV kV doc pm an cdv ct),osl⟩) (hcd:codeIn K cdv qual=true) (nd:names.Nodup)
  (hbind:∀s xs,xs.length=n→BindsTo s (fnOf name qual params body scope dV kV doc pm an cdv ct) ⟨xs,[]⟩ ((names.take n).zip xs)) (hkinds:∀x∈names.take n,scope.names.lookup x=some .local) (hnc:∀y∈scope.names,y.2≠.cell) (hc:∀n,cellsFrom n scope.names []=[])
  (hco:scope.isCoroutine=false) (hgen:scope.isGenerator=false) (hk:scope.kind=.function)
  (hbody:∀(base:Heap) (dp un:Nat) (gd:Option (List Code)) (L:Addr) (outer:List Env) (h₀:Heap) (hu:un+200<cLine),ClrB base outer K p loose mean mg mb (Zav dp un gd qual scope L f cdv [] outer h₀ hu names) dp un→dp+room<recursionLimit→un+10*room+300<cLine →
   ThS prog w base outer (Zav dp un gd qual scope L f cdv [] outer h₀ hu names) body g):
  DefR prog w K p loose mean mg mb f (room+1) (ZgS n g):=by
 intro base outer Γ dp un clr hd hu W ρ H fr s R as xs C H' r hx hF post
 obtain⟨gd,cn,cs,a,ccd,cl,A₀,eA,eE,B,X,T,hke⟩:=clr
 unfold ZgS at hF
 split at hF
 case isFalse=>first|exact Zx0 hF|cases hF
 rename_i hlen
 obtain⟨m,c,led,r⟩:=r
 have hxl:xs.length=n:=by rw[hx.length,hlen]
 obtain⟨lent,inn,isub⟩:=ZkB W led
 rw[eA]
 refine ZkS (env:=envX cn cs Γ.L a ccd cl) (lent:=lent) B r.F X (fun q hq=>r.N q (isub q hq)) T rfl rfl hke ho hcd (by show dp<recursionLimit;omega) (hbind s xs hxl) ?_ (by rw[hc];exact List.nodup_nil) ?_ hco hgen hk
 ·refine List.all_eq_true.mpr fun y hy=>?_
  simp[hkinds y.1 (List.of_mem_zip hy).1]
 intro g0 L' h₁ tk cells stay F' N' Y ap ab B' X' T' old szL
 have hu':(un+3)+200<cLine:=by omega
 have ee:envOfC qual scope L' f cdv=envX qual scope L' f cdv []:=by rw[show envOfC qual scope L' f cdv=envX qual scope L' f cdv (cellsFrom (L'+1) scope.names [])from rfl,hc]
 rw[ee]at F' ⊢
 have rep:=Zla (dp:=dp+1) (un:=un+3) (gd:=gd) (outer:=envX cn cs Γ.L a ccd cl::outer) (hu:=hu') r hx hlen nd inn isub stay F' (fun q hq=>N' q (Zz3 _ hq)) hnc
 have clr':ClrB base (envX cn cs Γ.L a ccd cl::outer) K p loose mean mg mb (Zav (dp+1) (un+3) gd qual scope L' f cdv [] (envX cn cs Γ.L a ccd cl::outer) g0 hu' names) (dp+1) (un+3):=⟨gd,qual,scope,f,cdv,[],_,rfl,rfl,B',X',T',hk⟩
 refine hbody base (dp+1) (un+3) gd L' (envX cn cs Γ.L a ccd cl::outer) g0 hu' clr' (by omega) (by omega) W _ H [] _ _ _ C H' rep hF fun e hh tk' th=>?_
 have FG:=r.ground isub stay
 rcases th with⟨W',l',ρ',fr',h',vs,r2,mx⟩ | ⟨W',l',G,m2,t,vs,news,F2,R2,U2,hr⟩
 ·obtain⟨m2,c2,led2,r2⟩:=r2
  refine leave_raiseS (name:=qual) (scope:=scope) (L:=L') (a:=f) (cd:=cdv) B' mx r2.F r2.N (fun h3 t3 S3 _ U3=>post _ _ _ ⟨W',l',g0,m,t3,vs,led2,FG,?_,U3,r2.R⟩) hk
  rw[eE]
  exact S3
 ·refine leave_onS (name:=qual) (scope:=scope) (L:=L') (a:=f) (cd:=cdv) B' F2 R2 U2 fun h3 S3 _ U3=>post _ _ _ ⟨W',l',g0,m,t,vs,news,FG,?_,U3,hr⟩
  rw[eE]
  exact S3
end
end PM
end
section
namespace PM
open PySem PySem.W PySem.Calls PyProof.Rows PyProof PySem.Spec
noncomputable def ZiJ(C:Addr)(as:ZX): SmR:=fun ρ H=>(as ρ H).bind fun q=>if q.1.length≤ZM then some (C,q.2)else none
noncomputable def rIf(u:Ts)(a b:SmR): SmR:=fun ρ H=>(u ρ H).bind fun q=>if q.1 then a ρ q.2 else b ρ q.2
noncomputable def rNo: SmR:=fun _ _=>none
noncomputable def ZgI(o:List V→Hp→Option (Addr×Hp))(as:ZX): SmR:=fun ρ H=>(as ρ H).bind fun q=>o q.1 q.2
section
variable {prog:Program} {w:World} {K:Frag} {p:Program} {loose:List Str} {mean:ExcName→Option Value} {mg mb:Str→Option Value} {base:Heap} {outer:List Env} {Γ:Cx} {dp un:Nat}
theorem ThS.no{ss:List Stmt}: ThS prog w base outer Γ ss rNo:=fun W ρ H fr s Q E C H' r e post=>by cases e
theorem ThS.head{st:Stmt}{ss:List Stmt}{ar:SmR}(h0:Th1 prog w base outer Γ st ar): ThS prog w base outer Γ (st::ss) ar:=fun W ρ H fr s Q E C H' r e post=>wpAny_execs_cons (h0 W ρ H fr s _ E C H' r e post)
theorem Zos{t:Expr}{a b:List Stmt}{pos:Pos}{u:Ts}{f g:SmR}(ht:JT prog w Γ t u)(h1:ThS prog w base outer Γ a f)(h2:ThS prog w base outer Γ b g): Th1 prog w base outer Γ (.If t a b pos) (rIf u f g):=by
 intro W ρ H fr s Q E C H' r e post
 obtain⟨q,e1,e2⟩:=Zz0.mp e
 refine wpAny_If (ht W ρ H fr s _ E _ _ r e1 fun W1 k1 t1 l1 r1=>?_)
 obtain⟨c,H1⟩:=q
 cases c with
 | true=>exact h1 W1 ρ H1 fr _ Q E C H' r1 e2 fun e hh tk' th=>post e hh tk' (th.le l1)
 | false=>exact h2 W1 ρ H1 fr _ Q E C H' r1 e2 fun e hh tk' th=>post e hh tk' (th.le l1)
theorem Zl3{x:Str}{np pos spos:Pos}{f:Addr}{room:Nat}{e:Expr}{es:List Expr}{g:ZX}{o:List V→Hp→Option (Addr×Hp)}(clr:ClrB base outer K p loose mean mg mb Γ dp un)(hn:Nm prog w Γ x (.ref f))(hkeep:keepIn K (.ref f)=true)(D:DefR prog w K p loose mean mg mb f room o)(hd:dp+room<recursionLimit)(hu:un+10*room+300<cLine)
  (h:Js prog w Γ (e::es) g) (he:starEach (e::es) Γ.env=(false,eval e Γ.env)::starEach es Γ.env:=by rfl) (hp:∀pos,(backTo pos (starEach es Γ.env)).any (·.1)=false:=by intro _;rfl) (hi:interactive Γ.env=false:=by rfl) (hs:swapsWith (.Call (.Name x np) (e::es) [] pos) none spos.line Γ.env=pure false:=by rfl):
  ∀(W:Wd) (ρ:Lc) (H:Hp) (fr:List (Addr×Obj)) (s:Shared) (Q:Flow→Shared→Prop) (E:Value→Shared→Prop) (C:Addr) (H':Hp),Rep Γ W ρ H fr s.heap→ZgI o g ρ H=some (C,H')→(∀e hh tk',Passed Γ base outer W H' C e hh→E (.ref e) { s with heap:=hh,toks:=tk' })→wpAny (model prog w) Γ.A (exec (.Expr (.Call (.Name x np) (e::es) [] pos) spos) Γ.env) Q E s:=by
 intro W ρ H fr s Q E C H' r hf post
 obtain⟨q,e1,hf⟩:=Zz0.mp hf
 have X:K.In Γ.h₀:=by
  obtain⟨_,_,_,_,_,_,_,_,_,_,X,_⟩:=clr
  exact X
 refine wpAny_Expr_any ?_ hi hs
 refine wpAny_Call_ofName (hn.use r ?_)
 refine callWith_K (first:=[]) X hkeep (h pos W ρ H fr s _ E _ _ r e1 fun W1 k1 t1 xs l1 r1 x1=>⟨?_,?_⟩) he (hp pos)
 ·obtain⟨m,c,led,r1⟩:=r1
  exact X.keeps r1.F.keep
 ·exact wpAny_call (D base outer Γ dp un clr hd hu W1 ρ _ fr _ _ _ xs C H' r1 x1 hf fun e hh tk' th=>post e hh tk' (th.le l1))
end
section
variable {prog:Program} {w:World} {K:Frag} {p:Program} {loose:List Str} {mean:ExcName→Option Value} {mg mb:Str→Option Value} {base:Heap} {outer:List Env} {dp un:Nat} {gd:Option (List Code)} {cn:Str} {cs:Scope} {L a:Addr} {ccd:Value} {h₀:Heap} {hu:un+200<cLine} {names:List Str}
theorem ZmD{x:Str}{C:Addr}{bm:List Value}{newId B initId:String}{np cpos pos:Pos}{e₀:Expr}{g:ZX}(clr:ClrB base outer K p loose mean mg mb (Zav dp un gd cn cs L a ccd [] outer h₀ hu names) dp un)(ex:nsIn K mainGlobals x=some (some (.ref C)))(q:excIn K C bm newId=true)(FB:ExcBaseFacts B newId initId bm)
  (h:Js prog w (Zav dp un gd cn cs L a ccd [] outer h₀ hu names) [e₀] g)
  (he:starEach [e₀] (envOf cn cs L a ccd)=(false,eval e₀ (envOf cn cs L a ccd))::starEach [] (envOf cn cs L a ccd):=by rfl) (hk:cs.kind=.function:=by rfl) (hx:(envOf cn cs L a ccd).kindOf x=some .globalImplicit:=by rfl) (hd:(x == ("__debug__":Str))=false:=by decide):
  Th1 prog w base outer (Zav dp un gd cn cs L a ccd [] outer h₀ hu names) (.Raise (some (.Call (.Name x np) [e₀] [] cpos)) none pos) (ZiJ C g):=by
 intro W ρ H fr s Q E C' H' r hf post
 obtain⟨_,_,_,_,_,_,A₀,_,_,_,X,T,_⟩:=clr
 obtain⟨z,e1,hf⟩:=Zz0.mp hf
 split at hf
 case isFalse=>first|exact Zx0 hf|cases hf
 rename_i hl
 cases hf
 have r0:=r
 obtain⟨m,c,led,r⟩:=r
 refine Raise_own (name:=cn) (scope:=cs) (L:=L) (a:=a) (cd:=ccd) r.F (topRead_of T).g (own_of_in X (topRead_of T) ex q) FB rfl ?_ he rfl hk hx hd
 refine h cpos W ρ H fr s _ E _ _ r0 e1 fun W1 k1 t1 xs l1 r1 x1=>⟨Zb2 (by rw[x1.length];exact hl),?_,fun h' e mx=>post e h' t1 (.inl ⟨W1,l1,ρ,fr,k1,xs,r1,mx⟩)⟩
 obtain⟨m,c,led,r1⟩:=r1
 exact r1.F.keep
end
end PM
end
section
namespace PM
open PySem PySem.W PySem.Calls PyProof.Rows PyProof PySem.Spec
theorem ZpG{prog:Program}{w:World}{A A₀:Around}{s:Shared}{base h₀:Heap}{L:Addr}{m:Str→Option Value}{lent:List (Addr×Obj)}{K:Frag}{p:Program}{loose:List Str}{mean:ExcName→Option Value}{mg mb:Str→Option Value}
  {env:Env} {R:Result→Shared→Prop} {name qual:Str} {params:Arguments} {body:List Stmt} {scope:Scope} {dV kV doc pm cdv ct oc:Value} {an od:Option Addr} {osl:Array (Option Value)} {f:Addr} {args:Args} {binds:List (Str×Value)}
  (B:Below A₀ base [] h₀) (F:Fr h₀ L s.heap m) (X₀:K.In h₀) (N:News h₀ L s.heap lent) (T:Top p loose mean mg mb h₀) (hA:A.frames=some [env]) (hf:env.frame=some L) (hke:env.scope.kind=.function)
  (ho:K.lookup f=some ⟨oc,od,.func (fnOf name qual params body scope dV kV doc pm an cdv ct),osl⟩) (hcd:codeIn K cdv qual=true) (hroom:A.depth<recursionLimit)
  (hbind:BindsTo s (fnOf name qual params body scope dV kV doc pm an cdv ct) args binds) (hall:∀y∈binds,scope.names.lookup y.1=some .local) (hc:∀n,cellsFrom n scope.names []=[])
  (h:∀g L' h₁ tk,(∀b o,s.heap.get? b=some o→b∉lent.map (·.1)→g.get? b=some o)→Fr g L' h₁ (bindL (envX qual scope L' f cdv []).kindOf binds fun _=>none)→News g L' h₁ lent→Below A base [env] g→K.In g→Top p loose mean mg mb g→KtsDicts [L] g →
   wpAny (model prog w) (A.deeper (envX qual scope L' f cdv [])) (execs body (envX qual scope L' f cdv [])) (fun fl s'=>LeaveS0 [L] h₀ L m g R (match fl with | .ret v=>v | _=>.none) s')
    (fun e s'=>wpAny (model prog w) (A.deeper (envX qual scope L' f cdv [])) (leaving (envX qual scope L' f cdv []) e) (fun _ s''=>R (.error e) s'') (fun e' s''=>R (.error e') s'') s') { s with heap:=h₁,toks:=tk })
  (hco:scope.isCoroutine=false) (hgen:scope.isGenerator=false) (hk:scope.kind=.function):codeAny (model prog w) A (.call (.ref f) args) R s:=by
 obtain⟨FG,BG,st,_⟩:=groundX (R:=R) B F N hA hf hke
 have X:=X₀.keeps F.keep
 refine codeAny_call_function (fd:=fnOf name qual params body scope dV kV doc pm an cdv ct) hroom (X _ _ ho) rfl hco hgen rfl (codeRec_of X hcd) (hbind _ _ _ _ ?_)
 refine wpAny_newFunctionEnv_cells hk (kindsX (List.all_eq_true.mpr fun y hy=>by simp[hall y hy]) _) fun fresh hfr s' inC=>?_
 subst hfr
 have up:=inC.toInCall.keep
 refine⟨(T.nolimit.keeps F.keep).keeps up,codeAny_func ?_⟩
 obtain⟨h₁,tk,hs',_⟩:=inC.done
 subst hs'
 have ee:envOfC qual scope s.heap.objs.size f cdv=envX qual scope s.heap.objs.size f cdv []:=by rw[show envOfC qual scope s.heap.objs.size f cdv=envX qual scope s.heap.objs.size f cdv (cellsFrom (s.heap.objs.size+1) scope.names [])from rfl,hc]
 obtain⟨oL,es,ep,hL,hLd,hLk⟩:=FG.ns
 have old:∀q∈lent,q.1<s.heap.objs.size:=fun q hq=>Heap.lt_size (N q hq).1
 have key:=h _ s.heap.objs.size h₁ tk (fun b o e nb=>hideAll_get _ e nb) ⟨ee▸inC.toInCall.ns,fun b o e=>up b o (of_hideAll _ e),Nat.le_of_eq (hideAll_size _ _)⟩ (fun q hq=>⟨up _ _ (N q hq).1,Nat.ne_of_lt (old q hq),hideAll_none _ (List.mem_map_of_mem hq)⟩) BG (X₀.keeps st) (T.keeps st) (fun b hb=>by rw[List.mem_singleton.mp hb];exact⟨oL,es,ep,hL,hLd⟩)
 rw[←ee]at key
 refine wpAny_mono key (fun fl s' hl=>?_) fun _ _ y=>y
 obtain⟨g',L',m',news',T',F',N',k⟩:=hl
 have none₀:h₀.get? L=none:=kts_self F
 obtain⟨sl,hs⟩:=T'.up hL
 refine k ⟨⟨_,es,ep,F'.keep _ _ hs,hLd,hLk⟩,fun b o e=>F'.keep b o (T'.other b o (st b o e) fun z=>?_),F.above⟩ fun q hq=>⟨(N' q hq).1,fun z=>?_,?_⟩
 ·rw[List.mem_singleton.mp z,none₀]at e
  cases e
 ·have:=(N' q hq).2.2
  rw[z,hs]at this
  cases this
 ·cases e:h₀.get? q.1 with
  | none=>rfl
  | some o=>
   obtain⟨sl',hs'⟩:=T'.up (st _ _ e)
   have:=(N' q hq).2.2
   rw[hs']at this
   cases this
noncomputable def DefT(prog:Program)(w:World)(K:Frag)(p:Program)(loose:List Str)(mean:ExcName→Option Value)(mg mb:Str→Option Value)(f:Addr)(room:Nat)(F:List V→Hp→Option (V×Hp)): Prop:=
 ∀(base:Heap) (Γ:Cx) (dp un:Nat),ClrB base [] K p loose mean mg mb Γ dp un→K.In base→Top p loose mean mg mb base→dp+room<recursionLimit→un+10*room+300<cLine →
 ∀(W:Wd) (ρ:Lc) (H:Hp) (fr:List (Addr×Obj)) (s:Shared) (Q E:Value→Shared→Prop) (as:List V) (xs:List Value) (v:V) (H':Hp),
  Rep Γ W ρ H fr s.heap→VRs W as xs→F as H=some (v,H')→ZdI Γ W ρ H' fr s Q v→codeAny (model prog w) Γ.A (.call (.ref f) ⟨xs,[]⟩) (fun r s'=>match r with | .ok (.ret v)=>Q v s' | .ok _=>False | .error e=>E e s') s
noncomputable def TS(prog:Program)(w:World)(fs:List Addr)(Γ:Cx)(ss:List Stmt)(g:Lc→Hp→Option (V×Hp)): Prop:=
 ∀(W:Wd) (ρ:Lc) (H:Hp) (s:Shared) (Q:Flow→Shared→Prop) (E:Value→Shared→Prop) (v:V) (H':Hp),Rep Γ W ρ H [] s.heap→g ρ H=some (v,H') →
  (∀(W':Wd) (x:Value) (g' h':Heap) (tk':Nat) (m':Str→Option Value) (news':List (Addr×Obj)),W.Le W'→KtsTurn fs Γ.h₀ g'→Fr g' Γ.L h' m'→News g' Γ.L h' news'→HR W' H' (W'.sc::news')→VR W' v x→Q (.ret x) { s with heap:=h',toks:=tk' }) →
  wpAny (model prog w) Γ.A (execs ss Γ.env) Q E s
noncomputable def ZgT(n:Nat)(g:Lc→Hp→Option (V×Hp)): List V→Hp→Option (V×Hp):=fun as H=>if as.length=n then g (fun i=>as[i]?) H else none
section
variable {prog:Program} {w:World} {K:Frag} {p:Program} {loose:List Str} {mean:ExcName→Option Value} {mg mb:Str→Option Value} {base:Heap} {Γ:Cx} {dp un:Nat}
theorem DefT.of{name qual:Str}{params:Arguments}{body:List Stmt}{scope:Scope}{dV kV doc pm cdv ct oc:Value}{an od:Option Addr}{osl:Array (Option Value)}{f:Addr}{names:List Str}{n room:Nat}{g:Lc→Hp→Option (V×Hp)}
  (ho:K.lookup f=some ⟨oc,od,.func (fnOf name qual params body scope dV kV doc pm an cdv ct),osl⟩) (hcd:codeIn K cdv qual=true) (nd:names.Nodup)
  (hbind:∀s xs,xs.length=n→BindsTo s (fnOf name qual params body scope dV kV doc pm an cdv ct) ⟨xs,[]⟩ ((names.take n).zip xs)) (hkinds:∀x∈names.take n,scope.names.lookup x=some .local) (hnc:∀y∈scope.names,y.2≠.cell) (hc:∀n,cellsFrom n scope.names []=[])
  (hco:scope.isCoroutine=false) (hgen:scope.isGenerator=false) (hk:scope.kind=.function)
  (hbody:∀(base:Heap) (dp un:Nat) (gd:Option (List Code)) (L:Addr) (env:Env) (L₀:Addr) (h₀:Heap) (hu:un+3+200<cLine),env.frame=some L₀→K.In base→Top p loose mean mg mb base→KtsDicts [L₀] h₀→ClrB base [env] K p loose mean mg mb (Zav (dp+1) (un+3) gd qual scope L f cdv [] [env] h₀ hu names) (dp+1) (un+3)→dp+1+room<recursionLimit→un+3+10*room+300<cLine →
   TS prog w [L₀] (Zav (dp+1) (un+3) gd qual scope L f cdv [] [env] h₀ hu names) body g):
  DefT prog w K p loose mean mg mb f (room+1) (ZgT n g):=by
 intro base Γ dp un clr XB TB hd hu W ρ H fr s Q E as xs v H' r hx hF post
 obtain⟨gd,cn,cs,a,ccd,cl,A₀,eA,eE,B,X,T,hke⟩:=clr
 unfold ZgT at hF
 split at hF
 case isFalse=>first|exact Zx0 hF|cases hF
 rename_i hlen
 obtain⟨m,c,led,r⟩:=r
 have hxl:xs.length=n:=by rw[hx.length,hlen]
 obtain⟨lent,inn,isub⟩:=ZkB W led
 have notin:∀q∈led,q.1∉W.pi→(∀t∈W.tups,q.1≠t.1)→q.1∉lent.map (·.1):=fun q hq h1 h2 h3=>by
  obtain⟨t,ht,e⟩:=Zz11.mp h3
  rcases(inn t (isub t ht)).mpr ht with z | z
  ·exact h1 (e▸z)
  ·obtain⟨u,hu,e'⟩:=Zz11.mp z
   exact h2 u hu (e▸e'.symm)
 rw[eA]
 refine ZpG (env:=envX cn cs Γ.L a ccd cl) (lent:=lent) B r.F X (fun q hq=>r.N q (isub q hq)) T rfl rfl hke ho hcd (by show dp<recursionLimit;omega) (hbind s xs hxl) (fun y hy=>hkinds y.1 (List.of_mem_zip hy).1) hc ?_ hco hgen hk
 intro g0 L' h₁ tk stay F' N' B' X' T' D'
 have hu':(un+3)+200<cLine:=by omega
 have rep:=Zla (dp:=dp+1) (un:=un+3) (gd:=gd) (outer:=[envX cn cs Γ.L a ccd cl]) (hu:=hu') r hx hlen nd inn isub stay F' N' hnc
 have clr':ClrB base [envX cn cs Γ.L a ccd cl] K p loose mean mg mb (Zav (dp+1) (un+3) gd qual scope L' f cdv [] [envX cn cs Γ.L a ccd cl] g0 hu' names) (dp+1) (un+3):=⟨gd,qual,scope,f,cdv,[],_,rfl,rfl,B',X',T',hk⟩
 refine hbody base dp un gd L' (envX cn cs Γ.L a ccd cl) Γ.L g0 hu' rfl XB TB D' clr' (by omega) (by omega) W _ H _ _ _ v H' rep hF fun W' x g' h' tk' m' news' l' T1 F1 N1 hr hv=>?_
 refine leaveS0_ F1 N1 T1 fun FG NG=>post W' h' tk' x l' ?_ hv
 have g0at:∀q∈led,q.1∉lent.map (·.1)→g'.get? q.1=some q.2:=fun q hq hn=>T1.other _ _ (stay _ _ (r.N q hq).1 hn) fun z=>(r.N q hq).2.1 (Zz9.mp z)
 have frN:∀q∈fr,q.1∉lent.map (·.1):=fun q hq=>notin q (r.frIn q hq) (r.frOff q hq) (r.frTup q hq)
 have clN:∀q∈c,q.1∉lent.map (·.1):=fun q hq=>notin q (r.clIn q hq) (r.clOff q hq) (r.clTup q hq)
 have far:∀q∈led,q.1∉lent.map (·.1)→∀t∈W'.sc::news',q.1≠t.1:=fun q hq hn t ht e=>by
  rcases Zz7.mp ht with e2 | ht
  ·rw[e2,l'.sc]at e
   exact r.notSc q hq e
  ·have:=g0at q hq hn
   rw[e,(N1 t ht).2.2]at this
   cases this
 have sc0:W'.pi[0]?=some W'.sc.1:=by rw[l'.sc];exact l'.piAt r.sc0
 have piIn:∀a∈W'.pi,∃o,(a,o)∈W'.sc::news':=fun a ha=>by
  obtain⟨i,hi,e⟩:=List.getElem_of_mem ha
  have hi':i<H'.length:=hr.len▸hi
  obtain⟨b,o,h1,h2,_⟩:=hr.any (Zy1 hi')
  have:b=a:=by rw[Zy1 hi,e]at h1;exact(Option.some.inj h1).symm
  exact⟨_,this▸h2⟩
 have farPi:∀q∈led,q.1∉lent.map (·.1)→q.1∉W'.pi:=fun q hq hn z=>by
  obtain⟨o2,h2⟩:=piIn _ z
  exact far q hq hn _ h2 rfl
 have keep:∀q∈led,q.1∉lent.map (·.1)→q∈news'++led.filter (fun q=>decide (q.1∉lent.map (·.1))):=fun q hq hn=>List.mem_append_right _ (Zy9.mpr ⟨hq,by simpa using hn⟩)
 refine⟨m,c,news'++led.filter (fun q=>decide (q.1∉lent.map (·.1))),⟨FG,fun q hq=>?_,hr.mono fun q hq=>ZcA hq fun x hx=>Zy7 _ hx,l'.sc▸r.sc,sc0,fun q hq=>keep q (r.frIn q hq) (frN q hq),fun q hq=>farPi q (r.frIn q hq) (frN q hq),fun q hq=>keep q (r.clIn q hq) (clN q hq),fun q hq=>farPi q (r.clIn q hq) (clN q hq),r.apart,fun q hq t ht=>far q (r.frIn q hq) (frN q hq) t (hr.tups t ht),fun q hq t ht=>far q (r.clIn q hq) (clN q hq) t (hr.tups t ht),Γ.mono l' r.own⟩⟩
 rcases Zz8.mp hq with hq | hq
 ·exact NG q hq
 ·obtain⟨h1,h2⟩:=List.mem_filter.mp hq
  exact⟨F1.keep _ _ (g0at q h1 (by simpa using h2)),(r.N q h1).2⟩
theorem ZjQ{x:Str}{np pos:Pos}{f:Addr}{room:Nat}{e:Expr}{es:List Expr}{g:ZX}{o:List V→Hp→Option (V×Hp)}(clr:ClrB base [] K p loose mean mg mb Γ dp un)(XB:K.In base)(TB:Top p loose mean mg mb base)(hn:Nm prog w Γ x (.ref f))(hkeep:keepIn K (.ref f)=true)(D:DefT prog w K p loose mean mg mb f room o)(hd:dp+room<recursionLimit)(hu:un+10*room+300<cLine)
  (h:Js prog w Γ (e::es) g) (he:starEach (e::es) Γ.env=(false,eval e Γ.env)::starEach es Γ.env:=by rfl) (hp:∀pos,(backTo pos (starEach es Γ.env)).any (·.1)=false:=by intro _;rfl):J prog w Γ (.Call (.Name x np) (e::es) [] pos) (Zk o g):=by
 intro W ρ H fr s Q E v H' r hf post
 obtain⟨q,e1,hf⟩:=Zz0.mp hf
 have X:K.In Γ.h₀:=by
  obtain⟨_,_,_,_,_,_,_,_,_,_,X,_⟩:=clr
  exact X
 refine wpAny_Call_ofName (hn.use r ?_)
 refine callWith_K (first:=[]) X hkeep (h pos W ρ H fr s _ E _ _ r e1 fun W1 k1 t1 xs l1 r1 x1=>⟨?_,?_⟩) he (hp pos)
 ·obtain⟨m,c,led,r1⟩:=r1
  exact X.keeps r1.F.keep
 ·exact wpAny_call (D base Γ dp un clr XB TB hd hu W1 ρ _ fr _ Q E _ xs v H' r1 x1 hf fun W2 k2 t2 y l2 r2 y2=>post W2 k2 t2 y (l1.trans l2) r2 y2)
end
end PM
end
section
namespace PM
open PySem PySem.W PySem.Calls PyProof.Rows PyProof PySem.Spec
section
variable {prog:Program} {w:World} {K:Frag} {p:Program} {loose:List Str} {mean:ExcName→Option Value} {mg mb:Str→Option Value}
theorem Zno{P:Params}{h₀:Heap}{s:Shared}{sa fa:Addr}{cd:Value}{ns:List Int}{qual pname:Str}{scope:Scope}{body:List Stmt}{names:List Str}{g:Sm}{cells:List (Addr×Obj)}{Q:Flow→Shared→Prop}{E:Value→Shared→Prop}{room:Nat}{H':Hp}
  (hbody:∀(dp un:Nat) (gd:Option (List Code)) (L a:Addr) (ccd:Value) (h₀:Heap) (hu:un+200<cLine),ClrB h₀ [] K p loose mean mg mb (Zav dp un gd qual scope L a ccd (cellsFrom (L+1) scope.names []) [] h₀ hu names) dp un→K.In h₀→Top p loose mean mg mb h₀→dp+room<recursionLimit→un+10*room+300<cLine →
   Ss prog w (Zav dp un gd qual scope L a ccd (cellsFrom (L+1) scope.names []) [] h₀ hu names) body g)
  (hd:callerA.depth+1+room<recursionLimit) (hun:callerA.units+3+10*room+300<cLine) (hk:scope.kind=.function) (h0:names[0]?=some pname)
  (KX:K.In h₀) (T:Top p loose mean mg mb h₀) (w1:Well P h₀ (.ref sa) (ofPy (.list (ns.map PyData.int)))) (hlen:ns.length≤ZM)
  (F:Fr h₀ h₀.objs.size s.heap (bindL (envOfC qual scope h₀.objs.size fa cd).kindOf [(pname,.ref sa)] fun _=>none)) (N:News h₀ h₀.objs.size s.heap cells) (X0:CellsAre (bindC (envOfC qual scope h₀.objs.size fa cd).kindOf [(pname,.ref sa)] fun _=>none) (cellsFrom (h₀.objs.size+1) scope.names []) cells)
  (hg:ZG 1 g [.ref 0] [ns.map V.int]=some (.bool true,H')) (post:∀h' tk' m',Fr h₀ h₀.objs.size h' m'→Q (.ret (.bool true)) { s with heap:=h',toks:=tk' }):
  wpAny (model prog w) (callerA.deeper (envOfC qual scope h₀.objs.size fa cd)) (execs body (envOfC qual scope h₀.objs.size fa cd)) Q E s:=by
 have hu':(callerA.units+3)+200<cLine:=by omega
 have clr:ClrB h₀ [] K p loose mean mg mb (Zav (callerA.depth+1) (callerA.units+3) callerA.guards qual scope h₀.objs.size fa cd (cellsFrom (h₀.objs.size+1) scope.names []) [] h₀ hu' names) (callerA.depth+1) (callerA.units+3):=
  ⟨callerA.guards,qual,scope,fa,cd,cellsFrom (h₀.objs.size+1) scope.names [],_,rfl,rfl,below_caller h₀,KX,T,hk⟩
 have hb:=hbody (callerA.depth+1) (callerA.units+3) callerA.guards h₀.objs.size fa cd h₀ hu' clr KX T hd hun
 obtain⟨vs,hsc,hv⟩:=Zmu w1 ⟨[sa],[],(sa,Za2 [] 0),[]⟩
 have hv':VRs ⟨[sa],[],(sa,Za2 vs 0),[]⟩ (ns.map V.int) vs:=by
  clear hg post w1 hlen hsc
  generalize ns.map V.int=us at hv
  have key:∀{us:List V} {xs:List Value},VRs ⟨[sa],[],(sa,Za2 [] 0),[]⟩ us xs→VRs ⟨[sa],[],(sa,Za2 vs 0),[]⟩ us xs:=by
   intro us
   induction us with
   | nil=>intro xs h;cases h;exact .nil
   | cons u us ih=>
    intro xs h
    cases h with
    | cons a b=>
     refine .cons ?_ (ih b)
     cases a with
     | none=>exact .none
     | bool b=>exact .bool b
     | int i t=>exact .int i t
     | str s t=>exact .str s t
     | tup hm _ _=>exact nomatch hm
     | ref e=>exact .ref e
     | obj _ h2 _ _=>exact nomatch h2
  exact key hv
 have far:=Zhu (lo:=h₀.objs.size) scope.names (h₀.objs.size+1) [] .nil (fun q hq=>nomatch hq) (Nat.lt_succ_self _)
 unfold ZG at hg
 rw[if_pos (show([V.ref 0]:List V).length=1 from rfl)]at hg
 obtain⟨res,e1,e2⟩:=Zz1.mp hg
 obtain⟨o,ρ',K'⟩:=res
 have eo:o=some (.bool true):=by
  cases o with
  | none=>simp at e2
  | some v=>simp at e2;rw[e2.1]
 subst eo
 have pick:∀{i:Nat} {x:Str} {u:V},names[i]?=some x→([V.ref 0]:List V)[i]?=some u→x=pname∧u=.ref 0:=fun {i x u} h1 h2=>by
  have hi:i<1:=(Zz6.mp h2).1
  have:i=0:=by omega
  subst this
  rw[h0]at h1
  simp at h1 h2
  exact⟨h1.symm,h2.symm⟩
 have rep:Rep (Zav (callerA.depth+1) (callerA.units+3) callerA.guards qual scope h₀.objs.size fa cd (cellsFrom (h₀.objs.size+1) scope.names []) [] h₀ hu' names) ⟨[sa],[],(sa,Za2 vs 0),[]⟩ (fun i=>[V.ref 0][i]?) [ns.map V.int] [] s.heap:=by
  refine⟨_,cells,cells,⟨F,N,⟨rfl,by simp,fun i us e _=>?_,fun q hq=>(nomatch hq),fun q hq=>(nomatch hq),fun i us fs e hi=>(nomatch hi),fun q hq=>(nomatch hq),fun q hq=>(nomatch hq)⟩,hsc,rfl,fun q hq=>(nomatch hq),fun q hq=>(nomatch hq),fun q hq=>hq,fun q hq z=>?_,fun q _ t ht=>(nomatch ht),fun q hq=>(nomatch hq),fun q hq t ht=>(nomatch ht),⟨fun i x u hi hk1 hu1=>?_,fun i x u hi hk1 hu1=>?_,fun x c1 hc=>?_,fun x y c1 h1 h2=>?_⟩⟩⟩
  ·have hi:i<1:=(Zz6.mp e).1
   have:i=0:=by omega
   subst this
   simp at e
   subst e
   exact⟨by simpa using hlen,sa,vs,0,rfl,List.mem_cons_self,hv'⟩
  ·have:=(N q hq).2.2
   rw[List.mem_singleton.mp z,hsc]at this
   cases this
  ·obtain⟨e3,e4⟩:=pick hi hu1
   subst e3 e4
   refine⟨.ref sa,?_,.ref ⟨rfl,fun q hq=>nomatch hq⟩⟩
   show bindL _ _ _ _=_
   unfold bindL bindL
   rw[if_pos (show(envOfC qual scope h₀.objs.size fa cd).kindOf x=some .local from hk1)]
   simp
  ·obtain⟨e3,e4⟩:=pick hi hu1
   subst e3 e4
   have hs:=cellsFrom_some scope.names (h₀.objs.size+1) [] (.inl hk1)
   obtain⟨c1,hc1⟩:=Option.isSome_iff_exists.mp hs
   obtain⟨o1,ho1,hd1⟩:=ZeL X0 (Zcp hc1)
   refine⟨c1,o1,.ref sa,hc1,ho1,?_,.ref ⟨rfl,fun q hq=>nomatch hq⟩⟩
   rw[hd1]
   unfold bindC bindC
   rw[if_neg (show ¬(envOfC qual scope h₀.objs.size fa cd).kindOf x=some .local by show ¬scope.names.lookup x=some .local;rw[hk1];simp)]
   simp
  ·obtain⟨o1,ho1,hd1⟩:=ZeL X0 (Zcp hc)
   exact⟨o1,_,ho1,hd1⟩
  ·exact name_of_addr far.1 (Zcp h1) (Zcp h2)
 refine hb _ _ _ [] s Q E _ rep e1 ?_
 intro W' h' tk' x l' r' x'
 cases x' with
 | bool _=>
  obtain⟨m',c',led',r'⟩:=r'
  exact post h' tk' m' r'.F
end
end PM
end
section
namespace My
open PySem PySem.W PySem.Spec PySem.Calls PyProof.Rows PySem.Builtin.ObjectAttr PySem.Builtin.Getset_descriptor
noncomputable def Of(x D:Addr)(h:Heap): Prop:=∃o:Obj,h.get? x=some o∧o.cls=.ref D
theorem Of.ty{x D:Addr}{M:Model}{h:Heap}(I:Of x D h): Looks M h (typeOf (.ref x)) (.ref D):=by
 obtain⟨o,ho,hc⟩:=I
 exact hc▸(Looks.ld ho).andThen .now
structure OeCls(o:Obj)(D:Addr): Prop where
 c:o.cls=.ref D
theorem got_more{h₀ h:Heap}{L e t D:Addr}{n news:List (Addr×Obj)}{vs:List Value}(G:Got n e t (.ref D) vs)(N₂:News h₀ L h n)(N:News h₀ L h news): ∃oe,OeCls oe D∧News h₀ L h ((e,oe)::news):=by
 obtain⟨oe,_,_,_,hm,_,hc,_⟩:=G
 refine⟨oe,⟨hc⟩,fun p hp=>?_⟩
 rcases Zz7.mp hp with q | q
 ·exact q▸N₂ _ hm
 ·exact N p q
theorem of_news{h₀ h:Heap}{L e D:Addr}{oe:Obj}{news:List (Addr×Obj)}(N:News h₀ L h news)(hm:(e,oe)∈news)(hc:OeCls oe D): Of e D h:=⟨oe,(N _ hm).1,hc.c⟩
theorem find_data{K:Frag}{M:Model}{h:Heap}(X:K.In h){x C:Addr}{name:Str}{a g:Value}(ha:findIn K (.ref C) name=some (some a))(hg:specialIn K a "__get__"=some (some g))(hd:takesIn K a=some true):
  Looks M h (find (.ref x) (.ref C) name) (.bind g a):=by
 have l2:Looks M h (getOf (some a)) (some g):=looks_specialIn X hg
 have l3:=looks_takesIn (M:=M) X hd
 refine(looks_findIn (M:=M) X ha).andThen (l2.andThen ?_)
 have l4:Looks M h (dataDescriptor? (some a) (some g)) (some (g,a)):=l3.andThen .now
 exact l4.andThen (Looks.tag .now)
section
variable {prog:Program} {w:World} {A:Around} {E:Value→Shared→Prop} {s:Shared} {K:Frag} {x D:Addr} {name:Str}
theorem exc_class{R:Result→Shared→Prop}{tp:Value}(X:K.In s.heap)(I:Of x D s.heap)(hm:mroIn K D (.type "object")=some true)
  (h:R (.ok (.ret (.ref D))) s):codeAny (model prog w) A (.call (.builtin "getset_descriptor.__get__") ⟨[.builtin "object.__class__",.ref x,tp],[]⟩) R s:=by
 obtain⟨hh,g,dr,t,os⟩:=s
 have L0:=I.ty (M:=model prog w)
 have L1:=looks_mroIn (M:=model prog w) X hm
 refine codeAny_call_builtin KF.slot_gs.plain KF.entry_gs (KF.slot_gs.check _ _ _ _ _ _ _ _ KF.type_class (KF.args_gs _ _ _) ?_)
 unfold Builtin.«getset_descriptor.__get__» descrGet
 rw[dga_obj]
 refine wpAny_bind (wpAny_pure ?_)
 unfold descrGetter descrCheckInstance descrNameAndClass isInstance
 simp only[KF.owner_class]
 repeat lk
 refine⟨Code.quiet_builtin _ (by decide +kernel),codeAny_builtin KF.entry_class ?_⟩
 unfold Builtin.«object.__class__» shownTypeOf
 repeat lk
 exact h
theorem ga_bind(v:Value): bindSpecial (.builtin "BaseException.__getattribute__") v=pure (.builtin "BaseException.__getattribute__",[v]):=by kernel_rfl
theorem exc_attr{Q:Option Value→Shared→Prop}(X:K.In s.heap)(I:Of x D s.heap)(hga:findIn K (.ref D) "__getattribute__"=some (some (.builtin "BaseException.__getattribute__")))(hk:findIn K (.ref D) "__getattr__"=some none)
  (ha:findIn K (.ref D) "__class__"=some (some (.builtin "object.__class__"))) (hn:specialIn K (.builtin "object.__class__") "__get__"=some (some (.builtin "getset_descriptor.__get__"))) (htk:takesIn K (.builtin "object.__class__")=some true)
  (hm:mroIn K D (.type "object")=some true) (hmB:mroIn K D (.type "BaseException")=some true) (h:Q (some (.ref D)) { s with toks:=s.toks+1 }):
  wpAny (model prog w) A (getAttr? (.ref x) "__class__") Q E s:=by
 obtain⟨hh,g,d,t,os⟩:=s
 have l0:=I.ty (M:=model prog w)
 have l1:=looks_findIn (M:=model prog w) X hga
 have l2:=looks_findIn (M:=model prog w) X hk
 unfold getAttr? getAttrBy? getAttrBy
 refine wpAny_bind (wpAny_mkText (wpAny_bind (wpAny_attempt (wpAny_holding (wpAny_bind (l0.at (wpAny_bind (l1.at ?_))))))))
 have hx2:(Value.builtin "BaseException.__getattribute__" == Value.builtin "object.__getattribute__")=false:=by decide +kernel
 simp only[hx2,Bool.and_false,Bool.false_eq_true,if_false]
 unfold getAttrByItsOwn hookBefore callGetattribute boundAndCalled
 have hon:onTheHeap (Value.ref D)=true:=rfl
 simp only[hon,if_true,Bool.false_and,Bool.false_eq_true,if_false]
 refine wpAny_bind (l2.at (wpAny_bind (wpAny_attempt (wpAny_holding ?_))))
 refine wpAny_bind (wpAny_of_eq (ga_bind (.ref x)) ?_)
 dsimp only[List.cons_append,List.nil_append]
 refine wpAny_call (codeAny_call_builtin (by decide +kernel) F.entry_bexc_ga ?_)
 have hk':builtinKind "BaseException.__getattribute__"=some .slot:=by decide +kernel
 have hsp:splitId "BaseException.__getattribute__"=some ("BaseException","__getattribute__"):=by decide +kernel
 have hag:=F.args_bexc_ga (.ref x) (.str (Str.ofString "__class__") t)
 have lB:=looks_mroIn (M:=model prog w) X hmB
 have l3:=find_data (M:=model prog w) (x:=x) X ha hn htk
 simp only[checkBuiltinCall,hk',hsp]
 unfold isInstance
 refine wpAny_bind (wpAny_bind (l0.at (lB.at ?_)))
 simp only[Bool.not_true,Bool.false_eq_true,if_false]
 refine wpAny_of_eq hag ?_
 unfold Builtin.«object.__getattribute__»
 refine wpAny_bind (wpAny_of_eq (show slotArgs "__getattribute__" 1 ⟨[Value.ref x,Value.str (Str.ofString "__class__") t],[]⟩=pure (Value.ref x,[Value.str (Str.ofString "__class__") t])from rfl) ?_)
 refine wpAny_bind (wpAny_of_eq (show attrName (Value.str (Str.ofString "__class__") t)=pure (Str.ofString "__class__")from rfl) ?_)
 refine wpAny_bind (l0.at (wpAny_bind (l3.at ?_)))
 dsimp only
 unfold bindTo
 dsimp only
 refine wpAny_bind (wpAny_holding (wpAny_call (exc_class X I hm ?_)))
 show wpAny _ _ (ret _) _ _ _
 refine wpAny_pure ?_
 dsimp only
 exact handed_on rfl (wpAny_pure h)
end
theorem kitx_of{K:Frag}{x D:Addr}(hga:findIn K (.ref D) "__getattribute__"=some (some (.builtin "BaseException.__getattribute__")))(hk:findIn K (.ref D) "__getattr__"=some none)(hmB:mroIn K D (.type "BaseException")=some true)(hdct:hasDictIn K D=true)(ha:findIn K (.ref D) "__class__"=some (some (.builtin "object.__class__")))
  (hn:specialIn K (.builtin "object.__class__") "__get__"=some (some (.builtin "getset_descriptor.__get__"))) (htk:takesIn K (.builtin "object.__class__")=some true) (hm:mroIn K D (.type "object")=some true):
  KitX K (.ref x) (.ref D) (Of x D) where
 ty:=fun _ _ _ I=>I.ty
 it:=fun _ _ X _=>by
  obtain⟨_,hcD,_⟩:=any_some hdct
  unfold clsIn at hcD
  split at hcD
  ·rename_i ho
   intro _ _ _ _ k q
   unfold isType loadHead
   exact wpAny_bind (wpAny_loadPart (k _ _ (X _ _ ho)) (wpAny_pure q))
  ·first|exact Zx0 hcD|cases hcD
 ne:=fun h tp dd its n sl X htp=>by
  obtain⟨_,hcD,_⟩:=any_some hdct
  refine Bool.eq_false_iff.mpr fun q=>?_
  have e:D=tp:=Value.ref.inj (beq_iff_eq.mp q)
  subst e
  unfold clsIn at hcD
  split at hcD
  ·rename_i ho
   cases (X _ _ ho).symm.trans htp
  ·first|exact Zx0 hcD|cases hcD
 ca:=fun X I k=>exc_attr X I hga hk ha hn htk hm hmB k
end My
end
noncomputable section
open PySem PM TM
namespace L
noncomputable def ZhK: Sm:=Zp (ZdK (Zc Z0 (Zc Zl (Za 0) (Ze 1)) (Ze 1)) (Za 0) (Ze 1)) (Zp (ZE (ZA (Zc oGt (Zc Zl (Za 0) (Ze 1)) (Zk Zan (Zb (Zc Zl (Za 0) (Ze 0)) Zd)))) (Zw (Ze 0)) ZV) (Zw (Zc Zl (Zc Zl (Za 0) (Ze 0)) (Zc Za7 (Zc Zl (Za 0) (Ze 1)) (Ze 1)))))
noncomputable def ZeC:=ZG 1 ZhK
noncomputable def ZhL: PS:=(ZB (Zeb 0 1 false (pFl (Zj Zaj (Zj ZD (Zf 0) (Zn 1)) (Zn 1))) ZbJ (Zn 1)) (ZB (Za8 (xB (Z6 (Zj qGt (Zj ZD (Zf 0) (Zn 1)) (ZW Zb0 (Zg (Zj ZD (Zf 0) (Zn 0)) Zq))))) (Zax (xP (Zn 0))) Zam) (Zax (xP (ZbV (Zj ZD (Zj ZD (Zf 0) (Zn 0)) (Zj ZbA (Zj ZD (Zf 0) (Zn 1)) (Zn 1))))))))
noncomputable def ZeD: List T→Option (T×List T):=Zbu 1 [(0,1)] ZhL
theorem Zjz: SimX 1 [(0,1)] true ZeC ZeD:=SimX.of (show SU [] [(0,1)] [] [(0,1)] [(0,1)] true ZhK ZhL from(SU.seq (SU.putS (x:=0) (d:=1) (own:=false) (O':=[]) (S':=[(0,1)]) (by decide) (by decide) (Zc5 Zaz (ZQ ZR (Zh 0) (Zo _)) (Zo _)) Zf7 (Zo _) (by decide) (by decide) (by decide)) (SU.seq (Zbr (Zbp (Bt.val (Zy ZdM (ZQ ZR (Zh 0) (Zo _)) (ZbE Zfa (Zv (ZQ ZR (Zh 0) (Zo _)) ZF))))) (ZaN (O':=[]) (S':=[(0,1)]) (Z7 (Zo _) (by decide)) (by decide) (by decide)) SU.next) (ZaN (O':=[]) (S':=[(0,1)]) (Z7 (E.flat (ZQ ZR (ZQ ZR (Zh 0) (Zo _)) (Zy ZbW (ZQ ZR (Zh 0) (Zo _)) (Zo _)))) (by decide)) (by decide) (by decide))))) (by decide) (by decide)
noncomputable def Zhh: Sm:=Zw (Zc oMod (Zc oMod (Zc Zcj (Zk ZeC (Zb (Za 0) Zd)) (Ze 48271)) (Ze 1000003)) (Za 1))
noncomputable def Za9:=ZG 2 Zhh
noncomputable def Zhi: PS:=(Zax (ZaP 1000 (Zah false [0] ZeD (Zg (Zf 0) Zq)) (xP (Zj Zas (Zj Zas (Zj ZbC (Zf 1000) (Zn 48271)) (Zn 1000003)) (Zf 1)))))
noncomputable def ZbN: List T→Option (T×List T):=Zbu 2 [(0,1)] Zhi
theorem Zcm: SimX 2 [(0,1)] true Za9 ZbN:=SimX.of (show SU [] [(0,1)] [] [(0,1)] [(0,1)] true Zhh Zhi from(ZaN (O':=[]) (S':=[(0,1)]) (Zbv (k:=1000) (C:=fun e=>(Zc oMod (Zc oMod (Zc Zcj (e) (Ze 48271)) (Ze 1000003)) (Za 1))) (e:=(Zk ZeC (Zb (Za 0) Zd))) (Zdt (Zdt (Zdt (ZaS) (fun ρ v H=>rfl)) (fun ρ v H=>rfl)) (fun ρ v H=>rfl)) (EX.call (b:=false) (xs:=[0]) (as:=[some 0]) (M:=[]) Zjz (XAs.slot XAs.nil)) (Z7 (Zy ZaD (Zy ZaD (ZaI Zfc (Zh 1000) (Zo _)) (Zo _)) (Zh 1)) (by decide)) (by decide) (by decide)) (by decide) (by decide))) (by decide) (by decide)
noncomputable def Zhj(F:List V→Hp→Option (V×Hp)): Sm:=Zp (ZE (ZA (eIs "list" (Za 0))) (Zw (Zao (Zaq (Za 0)) (ZK 100) Z5 (Zk F (Zb (Za 100) Zd)))) ZV) (Zp (ZE (ZA (eIs "tuple" (Za 0))) (Zw (Zk Zds (Zb (Zao (Zaq (Za 0)) (ZK 102) Z5 (Zk F (Zb (Za 102) Zd))) Zd))) ZV) (Zw (Za 0)))
noncomputable def ZdR: Nat→List V→Hp→Option (V×Hp)
 | 0=>fun _ _=>none
 | n+1=>ZG 1 (Zhj (ZdR n))
noncomputable def ZfD: List V→Hp→Option (V×Hp):=ZdR 24
noncomputable def ZdS(F:List T→Option T): PS:=(ZB (qIf (Z6 (pIs "list" (Zf 0))) (Zar (Zbk (ZcS (Zf 0)) (ZaJ 100) Za1 (ZW F (Zg (Zf 100) Zq)))) Zam) (ZB (qIf (Z6 (pIs "tuple" (Zf 0))) (Zar (ZW ZeM (Zg (Zbk (ZcS (Zf 0)) (ZaJ 102) Za1 (ZW F (Zg (Zf 102) Zq))) Zq))) Zam) (Zar (ZbV (Zf 0)))))
noncomputable def Zdh: Nat→List T→Option T
 | 0=>fun _=>none
 | n+1=>ZaV 1 (ZdS (Zdh n))
noncomputable def ZfE: List T→Option T:=Zdh 24
theorem Zg8: ∀n:Nat,SimF true (ZdR n) (Zdh n)
 | 0=>SimF.zero
 | n+1=>SimF.of (show S [] [] [] true (Zhj (ZdR n)) (ZdS (Zdh n))from(Zbl (ZbI (Bt.val (ZgO (Zh 0))) (Zb7 (Zf5 (Gs.seq (Zh 0)) PutOk.one (by decide) Zb4 (ZcN (Zg8 n) (Zv (Zh 100) ZF)))) ZbH) (Zbl (ZbI (Bt.val (ZgO (Zh 0))) (Zb7 (Zkr Zj7 (Z4 (Zf5 (Gs.seq (Zh 0)) PutOk.one (by decide) Zb4 (ZcN (Zg8 n) (Zv (Zh 102) ZF))) ZF (by decide) (by decide)))) ZbH) (Zb7 (E.flat (Zh 0))))))
theorem Zjp: SimF true ZfD ZfE:=Zg8 24
def Layer_c: Nat×List Str:=(218,[Str.ofString "rows",Str.ofString "used"])
def Runner_c: Nat×List Str:=(348,[Str.ofString "program",Str.ofString "ways_on",Str.ofString "picks",Str.ofString "used",Str.ofString "waiting",Str.ofString "moment"])
noncomputable def Zhk: Sm:=Zp (Zat (Layer_c) 0 (Zad Zd) (Za 0)) (Zat (Layer_c) 1 (Ze 0) (Za 0))
noncomputable def ZfF:=ZG 1 Zhk
noncomputable def ZhB: Sm:=ZP (Zau (ZO (Z1 (Layer_c) 0) (Za 0)) (Z3 (Zb (Za 1) (Zb (Za 2) (Zb (Za 3) Zd)))))
noncomputable def ZdU:=ZG 4 ZhB
noncomputable def Zg9: Sm:=Zp (Zat (Layer_c) 1 (Zc Z0 (ZO (Z1 (Layer_c) 1) (Za 0)) (Ze 1)) (Za 0)) (Zp (ZP (ZZ (Layer_c) ZdU (Za 0) (Zb (Za 1) (Zb (Za 2) (Zb (ZO (Z1 (Layer_c) 1) (Za 0)) Zd))))) (Zw (ZO (Z1 (Layer_c) 1) (Za 0))))
noncomputable def Zce:=ZG 3 Zg9
noncomputable def Zip(F:List V→Hp→Option (V×Hp)): Sm:=Zp (ZE (ZA (eIs "list" (Za 0))) (Zw (Zao (Zaq (Za 0)) (ZK 100) Z5 (Zk F (Zb (Za 100) Zd)))) ZV) (Zp (ZE (ZA (eIs "tuple" (Za 0))) (Zw (Zk Zds (Zb (Zao (Zaq (Za 0)) (ZK 102) Z5 (Zk F (Zb (Za 102) Zd))) Zd))) ZV) (Zw (Za 0)))
noncomputable def ZdY: Nat→List V→Hp→Option (V×Hp)
 | 0=>fun _ _=>none
 | n+1=>ZG 1 (Zip (ZdY n))
noncomputable def Zga: List V→Hp→Option (V×Hp):=ZdY 24
noncomputable def ZdZ(F:List T→Option T): PS:=(ZB (qIf (Z6 (pIs "list" (Zf 0))) (Zar (Zbk (ZcS (Zf 0)) (ZaJ 100) Za1 (ZW F (Zg (Zf 100) Zq)))) Zam) (ZB (qIf (Z6 (pIs "tuple" (Zf 0))) (Zar (ZW ZeM (Zg (Zbk (ZcS (Zf 0)) (ZaJ 102) Za1 (ZW F (Zg (Zf 102) Zq))) Zq))) Zam) (Zar (ZbV (Zf 0)))))
noncomputable def Zdp: Nat→List T→Option T
 | 0=>fun _=>none
 | n+1=>ZaV 1 (ZdZ (Zdp n))
noncomputable def Ziq: List T→Option T:=Zdp 24
theorem Zh5: ∀n:Nat,SimF true (ZdY n) (Zdp n)
 | 0=>SimF.zero
 | n+1=>SimF.of (show S [] [] [] true (Zip (ZdY n)) (ZdZ (Zdp n))from(Zbl (ZbI (Bt.val (ZgO (Zh 0))) (Zb7 (Zf5 (Gs.seq (Zh 0)) PutOk.one (by decide) Zb4 (ZcN (Zh5 n) (Zv (Zh 100) ZF)))) ZbH) (Zbl (ZbI (Bt.val (ZgO (Zh 0))) (Zb7 (Zkr Zj7 (Z4 (Zf5 (Gs.seq (Zh 0)) PutOk.one (by decide) Zb4 (ZcN (Zh5 n) (Zv (Zh 102) ZF))) ZF (by decide) (by decide)))) ZbH) (Zb7 (E.flat (Zh 0))))))
theorem ZkC: SimF true Zga Ziq:=Zh5 24
noncomputable def ZhM: Sm:=Zw (Z3 (Zb (ZN (Str.ofString "when")) (Zb (Zk Zga (Zb (Za 0) Zd)) (Zb (Za 1) Zd))))
noncomputable def Zdm:=ZG 2 ZhM
noncomputable def ZhN: PS:=(Zar (Zbm (Zg (ZaE (Str.ofString "when")) (Zg (ZW Ziq (Zg (Zf 0) Zq)) (Zg (ZbV (Zf 1)) Zq)))))
noncomputable def ZhO:=ZaV 2 ZhN
theorem Zmh: SimF true Zdm ZhO:=SimF.of (show S [] [] [] true ZhM ZhN from(Zb7 (E.tup (Z4 (E.str _) (Z4 (ZcN ZkC (Zv (Zh 0) ZF)) (Z4 (E.flat (Zh 1)) ZF (by decide) (by decide)) (by decide) (by decide)) (by decide) (by decide)))))
noncomputable def Zhl(F:List V→Hp→Option (V×Hp)): Sm:=Zp (Zu 3 (ZZ (Layer_c) Zce (Za 0) (Zb (Za 2) (Zb (Zk Zdm (Zb (Zc Zl (Za 1) (Ze 1)) (Zb (Zbs true) Zd))) Zd)))) (Zp (Zu 4 (ZZ (Layer_c) F (Za 0) (Zb (Zc Zl (Za 1) (Ze 2)) (Zb (Za 3) Zd)))) (Zp (Zu 5 (ZZ (Layer_c) Zce (Za 0) (Zb (Za 2) (Zb (Zk Zdm (Zb (Zc Zl (Za 1) (Ze 1)) (Zb (Zbs false) Zd))) Zd)))) (Zp (Zu 6 (ZZ (Layer_c) F (Za 0) (Zb (Zc Zl (Za 1) (Ze 3)) (Zb (Za 5) Zd)))) (Zp (Zu 7 (ZZ (Layer_c) Zce (Za 0) (Zb (Za 4) (Zb (Z3 (Zb (ZN (Str.ofString "go")) Zd)) Zd)))) (Zp (ZP (ZZ (Layer_c) ZdU (Za 0) (Zb (Za 6) (Zb (Z3 (Zb (ZN (Str.ofString "go")) Zd)) (Zb (Za 7) Zd))))) (Zw (Za 7)))))))
noncomputable def ZfG(F:List V→Hp→Option (V×Hp)): List V→Hp→Option (V×Hp):=ZG 3 (Zhl F)
noncomputable def ZgY(F:List V→Hp→Option (V×Hp)): Sm:=Zp (Zu 3 (ZZ (Layer_c) Zce (Za 0) (Zb (Za 2) (Zb (Z3 (Zb (ZN (Str.ofString "go")) Zd)) Zd)))) (Zp (Zu 4 (ZZ (Layer_c) Zce (Za 0) (Zb (Za 3) (Zb (Zk Zdm (Zb (Zc Zl (Za 1) (Ze 1)) (Zb (Zbs true) Zd))) Zd)))) (Zp (Zu 5 (ZZ (Layer_c) F (Za 0) (Zb (Zc Zl (Za 1) (Ze 2)) (Zb (Za 4) Zd)))) (Zp (ZP (ZZ (Layer_c) ZdU (Za 0) (Zb (Za 5) (Zb (Z3 (Zb (ZN (Str.ofString "go")) Zd)) (Zb (Za 3) Zd))))) (Zw (ZZ (Layer_c) Zce (Za 0) (Zb (Za 3) (Zb (Zk Zdm (Zb (Zc Zl (Za 1) (Ze 1)) (Zb (Zbs false) Zd))) Zd)))))))
noncomputable def Zfw(F:List V→Hp→Option (V×Hp)): List V→Hp→Option (V×Hp):=ZG 3 (ZgY F)
noncomputable def Zel(F:List V→Hp→Option (V×Hp)): Sm:=Zp (ZE (ZA (Zc oEq (Zc Zl (Za 1) (Ze 0)) (ZN (Str.ofString "if")))) (Zw (ZZ (Layer_c) (ZfG F) (Za 0) (Zb (Za 1) (Zb (Za 2) Zd)))) ZV) (Zp (ZE (ZA (Zc oEq (Zc Zl (Za 1) (Ze 0)) (ZN (Str.ofString "while")))) (Zw (ZZ (Layer_c) (Zfw F) (Za 0) (Zb (Za 1) (Zb (Za 2) Zd)))) ZV) (Zw (ZZ (Layer_c) Zce (Za 0) (Zb (Za 2) (Zb (Zk Zga (Zb (Za 1) Zd)) Zd)))))
noncomputable def Zcd(F:List V→Hp→Option (V×Hp)): List V→Hp→Option (V×Hp):=ZG 3 (Zel F)
noncomputable def ZfA(F:List V→Hp→Option (V×Hp)): Sm:=Zp (Zu 3 (Za 2)) (Zp (ZaC (Zaq (Za 1)) (ZK 4) (Zu 3 (ZZ (Layer_c) (Zcd F) (Za 0) (Zb (Za 4) (Zb (Za 3) Zd))))) (Zw (Za 3)))
noncomputable def ZcX: Nat→List V→Hp→Option (V×Hp)
 | 0=>fun _ _=>none
 | n+1=>ZG 3 (ZfA (ZcX n))
noncomputable def Zg5: List V→Hp→Option (V×Hp):=ZcX 9
noncomputable def ZhV: Sm:=Zp (Zu 1 (ZcF (Layer_c) ZfF Zd)) (Zp (ZP (ZZ (Layer_c) Zg5 (Za 1) (Zb (Za 0) (Zb (Ze 0) Zd)))) (Zw (ZO (Z1 (Layer_c) 0) (Za 1))))
noncomputable def ZeE:=ZG 1 ZhV
noncomputable def ZhC(F:List V→Hp→Option (V×Hp)): Sm:=Zp (ZaC (Zaq (Za 0)) (ZK 1) (ZE (tOr (ZA (eIs "list" (Za 1))) (tOr (ZA (eIs "tuple" (Za 1))) ZbR)) (ZP (Zk F (Zb (Za 1) Zd))) ZV)) (ZE (ZA (eIs "list" (Za 0))) (ZP (Zau (Za 0) (Ze 7))) ZV)
noncomputable def Zc1: Nat→List V→Hp→Option (V×Hp)
 | 0=>fun _ _=>none
 | n+1=>ZG 1 (ZhC (Zc1 n))
noncomputable def ZfO: List V→Hp→Option (V×Hp):=Zc1 24
noncomputable def Zd2(S:T→Option T): T→Option T
 | .lst ts=>S (.lst ts)
 | .tup ts=>S (.tup ts)
 | .ob _ _=>none
 | t=>some t
noncomputable def Zd3(S:T→Option T): List T→Option (List T)
 | []=>some []
 | t::ts=>(Zd2 S t).bind fun u=>(Zd3 S ts).map (u::·)
noncomputable def ZbS: Nat→T→Option T
 | 0,_=>none
 | n+1,.lst ts=>if ts.length<10000 then(Zd3 (ZbS n) ts).map fun us=>.lst (us++[.int 7])else none
 | n+1,.tup ts=>(Zd3 (ZbS n) ts).map .tup
 | _+1,_=>none
noncomputable def Zez: List T→Option (T×List T)
 | [t]=>(ZbS 24 t).map fun u=>(.none,[u])
 | _=>none
noncomputable def Zjd(n:Nat): Prop:=∀(H:Hp) (v:V) (t t':T) (F:List Nat),RF H v t F→F.Nodup→0∉F→ZbS n t=some t'→∃H',Zc1 n [v] H=some (.none,H')∧H'.length=H.length∧(∀a,a∉F→H'[a]?=H[a]?)∧RF H' v t' F
noncomputable def Zca(n:Nat): Sm:=ZE (tOr (ZA (eIs "list" (Za 1))) (tOr (ZA (eIs "tuple" (Za 1))) ZbR)) (ZP (Zk (Zc1 n) (Zb (Za 1) Zd))) ZV
theorem ZpH{n:Nat}(ih:Zjd n){H:Hp}{ρ:Lc}{v:V}{t t':T}{F:List Nat}(r:RF H v t F)(nd:F.Nodup)(h0:0∉F)(e1:ρ 1=some v)(e:Zd2 (ZbS n) t=some t'): ∃H',Zca n ρ H=some (none,ρ,H')∧H'.length=H.length∧(∀a,a∉F→H'[a]?=H[a]?)∧RF H' v t' F:=by
 cases r with
 | none=>cases e;exact⟨H,by simp[Zca,ZE,tOr,ZA,eIs,Za,e1,ZbU,ZaX,Zcg,Zac,ZbR,ZV],rfl,fun _ _=>rfl,.none⟩
 | bool b=>cases e;exact⟨H,by simp[Zca,ZE,tOr,ZA,eIs,Za,e1,ZbU,ZaX,Zcg,Zac,ZbR,ZV],rfl,fun _ _=>rfl,.bool b⟩
 | int i=>cases e;exact⟨H,by simp[Zca,ZE,tOr,ZA,eIs,Za,e1,ZbU,ZaX,Zcg,Zac,ZbR,ZV],rfl,fun _ _=>rfl,.int i⟩
 | str s=>cases e;exact⟨H,by simp[Zca,ZE,tOr,ZA,eIs,Za,e1,ZbU,ZaX,Zcg,Zac,ZbR,ZV],rfl,fun _ _=>rfl,.str s⟩
 | tup hs=>
  obtain⟨H',a1,a2,a3,a4⟩:=ih H _ _ _ _ (.tup hs) nd h0 e
  exact⟨H',by simp[Zca,ZE,tOr,ZA,eIs,Za,e1,ZbU,ZaX,Zcg,Zac,ZP,Zk,Zb,Zd,a1],a2,a3,a4⟩
 | ref e2 hs=>
  obtain⟨H',a1,a2,a3,a4⟩:=ih H _ _ _ _ (.ref e2 hs) nd h0 e
  exact⟨H',by simp[Zca,ZE,tOr,ZA,eIs,Za,e1,ZbU,ZaX,Zcg,Zac,ZP,Zk,Zb,Zd,a1],a2,a3,a4⟩
 | obj _ _=>first|exact Zx0 e|cases e
theorem Zir{n:Nat}(ih:Zjd n){nx:Nx}: ∀(ws:List V) (i:Nat) (H:Hp) (ρ:Lc) (ts us:List T) (F:List Nat),RFs H ws ts F→F.Nodup→0∉F→Zd3 (ZbS n) ts=some us→(∀H':Hp,H'.length=H.length→(∀a,a∉F→H'[a]?=H[a]?)→∀j,j≤ws.length→nx (i+j) H'=some ws[j]?)→∃H' ρ',Zbe nx (ZK 1) (Zca n) (ws.length+1) i ρ H=some (none,ρ',H')∧ρ' 0=ρ 0∧H'.length=H.length∧(∀a,a∉F→H'[a]?=H[a]?)∧RFs H' ws us F
 | [],i,H,ρ,ts,us,F,r,nd,h0,e,hn=>by
  cases r
  cases e
  have:=hn H rfl (fun _ _=>rfl) 0 (Zz10 _)
  refine⟨H,ρ,?_,rfl,rfl,fun _ _=>rfl,.nil⟩
  simp only[List.length_nil,Zbe]
  rw[show nx i H=some none from this]
  rfl
 | w::ws,i,H,ρ,ts,us,F,r,nd,h0,e,hn=>by
  cases r with
  | @cons _ t F1 _ ts F2 r1 r2=>
   obtain⟨u,e1,e⟩:=Zz0.mp e
   obtain⟨us,e2,e⟩:=Zz1.mp e
   subst e
   obtain⟨n1,n2,n3⟩:=List.nodup_append.mp nd
   have dj:∀a∈F1,a∉F2:=fun a m q=>n3 a m a q rfl
   obtain⟨H1,b1,b2,b3,b4⟩:=ZpH ih (ρ:=upd ρ 1 w) r1 n1 (fun q=>h0 (Zz4 _ q)) (by simp[upd]) e1
   have r2':RFs H1 ws ts F2:=r2.frame fun a m=>b3 a fun q=>dj a q m
   obtain⟨H2,ρ2,c1,c2,c3,c4,c5⟩:=Zir ih (nx:=nx) ws (i+1) H1 (upd ρ 1 w) ts us F2 r2' n2 (fun q=>h0 (Zz3 _ q)) e2 (fun H' l k j hj=>by
    have:=hn H' (l.trans b2) (fun a m=>(k a fun q=>m (Zz3 _ q)).trans (b3 a fun q=>m (Zz4 _ q))) (j+1) (by simp;omega)
    rw[show i+1+j=i+(j+1)by omega,this]
    rfl)
   have h:=hn H rfl (fun _ _=>rfl) 0 (Nat.zero_le _)
   refine⟨H2,ρ2,?_,by rw[c2];simp[upd],c3.trans b2,fun a m=>(c4 a fun q=>m (Zz3 _ q)).trans (b3 a fun q=>m (Zz4 _ q)),.cons (b4.frame fun a m=>c4 a (dj a m)) c5⟩
   rw[List.length_cons]
   show((nx i H).bind _)=_
   rw[show nx i H=some (some w)from h]
   simp only[Zs0,ZK,b1]
   exact c1
theorem Zls: ∀n,Zjd n
 | 0=>fun H v t t' F r nd h0 e=>by cases e
 | n+1=>fun H v t t' F r nd h0 e=>by
  have ih:=Zls n
  have run:∀(H:Hp) (v:V),Zc1 (n+1) [v] H=(ZhC (Zc1 n) (fun i=>[v][i]?) H).map fun r=>((r.1.getD .none),r.2.2):=fun H v=>rfl
  cases r with
  | none=>first|exact Zx0 e|cases e
  | bool=>first|exact Zx0 e|cases e
  | int=>first|exact Zx0 e|cases e
  | str=>first|exact Zx0 e|cases e
  | obj=>first|exact Zx0 e|cases e
  | @tup vs ts F hs=>
   obtain⟨us,e1,e2⟩:=Zz1.mp e
   subst e2
   obtain⟨H1,ρ1,a1,a2,a3,a4,a5⟩:=Zir ih (nx:=Zgk vs) vs 0 H (fun i=>[V.tup vs][i]?) ts us F hs nd h0 e1 (fun H' _ _ j _=>by rw[Nat.zero_add];rfl)
   refine⟨H1,?_,a3,a4,.tup a5⟩
   rw[run]
   have hl:ZaC (Zaq (Za 0)) (ZK 1) (Zca n) (fun i=>[V.tup vs][i]?) H=some (none,ρ1,H1):=by
    simp only[ZaC,Zaq,Za,List.getElem?_cons_zero,Zs1,Zs0]
    exact a1
   have e0:ρ1 0=some (.tup vs):=a2.trans rfl
   show(((ZaC (Zaq (Za 0)) (ZK 1) (Zca n) (fun i=>[V.tup vs][i]?) H).bind _).map _)=_
   rw[hl]
   simp[ZE,ZA,eIs,Za,e0,ZbU,ZaX,Zcg,Zac,ZV]
  | @ref a vs ts F ea hs=>
   unfold ZbS at e
   split at e
   case isFalse=>first|exact Zx0 e|cases e
   rename_i hlen
   obtain⟨us,e1,e2⟩:=Zz1.mp e
   subst e2
   obtain⟨na,nd⟩:=List.nodup_cons.mp nd
   have a0:a≠0:=fun q=>h0 (by rw[q];exact Zz5)
   obtain⟨H1,ρ1,a1,a2,a3,a4,a5⟩:=Zir ih (nx:=Zal a) vs 0 H (fun i=>[V.ref a][i]?) ts us F hs nd (fun q=>h0 (Zz2 _ q)) e1 (fun H' _ k j _=>by
    rw[Nat.zero_add]
    simp only[Zal,k a na,ea,Zs1])
   have hl:ZaC (Zaq (Za 0)) (ZK 1) (Zca n) (fun i=>[V.ref a][i]?) H=some (none,ρ1,H1):=by
    simp only[ZaC,Zaq,Za,List.getElem?_cons_zero,Zs1,Zs0,ea]
    exact a1
   have e0:ρ1 0=some (.ref a):=a2.trans rfl
   have ea1:H1[a]?=some vs:=(a4 a na).trans ea
   have hlv:vs.length<ZM:=by rw[hs.length,Zab];omega
   have lt:a<H1.length:=(Zz6.mp ea1).1
   refine⟨H1.set a (vs++[.int 7]),?_,by simp[a3],fun b m=>?_,?_⟩
   ·rw[run]
    show(((ZaC (Zaq (Za 0)) (ZK 1) (Zca n) (fun i=>[V.ref a][i]?) H).bind _).map _)=_
    rw[hl]
    simp[ZE,ZA,eIs,Za,e0,ZbU,ZaX,Zcg,Zac,ZP,Zau,Ze,Zb3,ea1,a0,hlv]
   ·have hb:b≠a:=fun q=>m (by rw[q];exact Zz5)
    rw[Zy2 (Ne.symm hb)]
    exact a4 b fun q=>m (Zz2 _ q)
   ·have h7:RFs (H1.set a (vs++[.int 7])) (vs++[.int 7]) (us++[.int 7]) F:=by
     have:=(a5.frame (H':=H1.set a (vs++[.int 7])) fun b m=>by
      rw[Zy2 (fun q=>na (by rw[q];exact m))]).append (RFs.one (RF.int 7))
     rwa [List.append_nil]at this
    exact .ref (by rw[Zy6 lt]) h7
theorem Zjw: SimX 1 [(0,999)] true ZfO Zez:=fun H vs ts t us Φ Ψ hp hv ht hargs hsp e=>by
 match ts,ht with
 | [t0],_=>
  obtain⟨v,hv0,hr⟩:=hargs 0 t0 rfl
  match vs,hv with
  | [v0],_=>
   cases hv0
   obtain⟨⟨R,s1,s2,s3⟩,s4,_⟩:=hsp 0 999 Zz5 _ _ rfl rfl
   obtain⟨s5,s6⟩:=s1.unall
   obtain⟨_,eF⟩:=hr.det s5
   obtain⟨u,e1,e2⟩:=Zz1.mp e
   cases e2
   obtain⟨H',b1,b2,b3,b4⟩:=Zls 24 H _ _ _ _ s5 s2 s4 e1
   refine⟨.none,H',Φ,Ψ,[],b1,by omega,fun a _ h=>b3 a (h 0 999 Zz5),rfl,fun k i d v u hk hv hu=>?_,.none,fun a m=>(List.not_mem_nil m).elim,fun _=>⟨List.nodup_nil,fun a m=>(List.not_mem_nil m).elim⟩⟩
   match k,hk with
   | 0,hk=>
    cases hk
    cases hv
    cases hu
    refine⟨by rw[eF];exact b4,⟨[],.all b4,s2,fun _ _ q=>List.not_mem_nil q⟩,fun a m=>.inr m,fun a m=>.inr ⟨0,by omega,m⟩,fun a _ q=>List.not_mem_nil q,fun j d' hj m=>?_,fun _ a _ q=>List.not_mem_nil q⟩
    simp at m
    exact absurd m.1 hj
noncomputable def Zhx: Sm:=Zw (Zk Zff (Zb (Zao (Zaq (Za 0)) (ZK 100) Z5 (Zk Ze7 (Zb (Zc Zl (Za 100) (Ze 0)) (Zb (Zc Zl (Za 100) (Ze 2)) Zd)))) Zd))
noncomputable def Zex:=ZG 1 Zhx
noncomputable def Zhy: PS:=(Zar (ZW ZgH (Zg (Zbk (ZcS (Zf 0)) (ZaJ 100) Za1 (ZW Zfb (Zg (Zj ZD (Zf 100) (Zn 0)) (Zg (Zj ZD (Zf 100) (Zn 2)) Zq)))) Zq)))
noncomputable def ZfN:=ZaV 1 Zhy
theorem ZlY: SimF false Zex ZfN:=SimF.of (show S [] [] [] false Zhx Zhy from(ZbY (ZbE ZpE (Zv (Zih (Gs.seq (Zh 0)) PutOk.one (by decide) Zb4 (ZbE ZoV (Zv (ZQ ZR (Zh 100) (Zo _)) (Zv (ZQ ZR (Zh 100) (Zo _)) ZF)))) ZF))))
noncomputable def ZgX: Sm:=Zw (Zc Zl (Zc Zl (ZO (Z1 (Runner_c) 1) (Za 0)) (Zc Zl (ZO (Z1 (Runner_c) 5) (Za 0)) (Ze 0))) (Zc Zl (ZO (Z1 (Runner_c) 5) (Za 0)) (Ze 1)))
noncomputable def Zem:=ZG 1 ZgX
noncomputable def ZiK: Sm:=Zw (Zc Z0 (Zc Z0 (Zcv (Za 0) ZcL (ZcM (Zc Za7 (Za 1) (Ze 1)))) (Zad (Zb (Za 2) Zd))) (Zcv (Za 0) (ZcM (Za 1)) ZcL))
noncomputable def Zgq:=ZG 3 ZiK
noncomputable def ZiL: PS:=(Zar (pFl (Zj Zaj (Zj Zaj (Zcx (Zf 0) ZcI (ZcJ (Zj ZbA (Zf 1) (Zn 1)))) (Zbt (Zg (Zf 2) Zq))) (Zcx (Zf 0) (ZcJ (Zf 1)) ZcI))))
noncomputable def Zd4:=ZaV 3 ZiL
theorem Zlb: SimF true Zgq Zd4:=SimF.of (show S [] [] [] true ZiK ZiL from(Zb7 (Zc5 Zaz (ZaI Zaz (Zf4 (Zh 0) Pe.none (Pe.some (Zy ZbW (Zh 1) (Zo _)))) (E.list (Zv (Zh 2) ZF))) (Zf4 (Zh 0) (Pe.some (Zh 1)) Pe.none))))
noncomputable def Zhm: Sm:=Zp (Zu 1 (Zc Zl (Zc Zl (ZO (Z1 (Runner_c) 5) (Za 0)) (Ze 2)) (ZO Zdf (Ze 1)))) (Zp (Zu 2 (Zjc (ZO (Z1 (Runner_c) 4) (Za 0)))) (Zp (Zu 3 (Zc Zl (Za 2) (Ze 0))) (Zp (Zu 4 (Zc Zl (Za 2) (Ze 1))) (Zat (Runner_c) 5 (Z3 (Zb (Zc Zl (Za 3) (Ze 0)) (Zb (Zc Zl (Za 4) (Ze 2)) (Zb (Zk Zgq (Zb (Zc Zl (Za 3) (Ze 2)) (Zb (Zc Zl (Zc Zl (Za 4) (Ze 1)) (Ze 1)) (Zb (Za 1) Zd)))) Zd)))) (Za 0)))))
noncomputable def ZfH:=ZG 1 Zhm
noncomputable def Zhn: Sm:=Zp (Zu 3 (Zc Zl (Zc Zl (Za 0) (Za 1)) (Ze 1))) (Zw (Z3 (Zb (Za 1) (Zb (Ze 0) (Zb (Zc Z0 (Za 2) (Zao (ZaY (Zb (Zc Za7 (Za 3) (Zk Zan (Zb (Za 2) Zd))) Zd)) (ZK 100) Z5 (Ze 0))) Zd)))))
noncomputable def ZfI:=ZG 3 Zhn
noncomputable def Zho: PS:=(ZB (ZbL 3 (Zj ZD (Zj ZD (Zf 0) (Zf 1)) (Zn 1))) (Zar (Zbm (Zg (ZbV (Zf 1)) (Zg (Zn 0) (Zg (pFl (Zj Zaj (Zf 2) (Zbk (ZbG (Zg (Zj ZbA (Zf 3) (ZW Zb0 (Zg (Zf 2) Zq))) Zq)) (ZaJ 100) Za1 (Zn 0)))) Zq))))))
noncomputable def ZfJ:=ZaV 3 Zho
theorem Zjq: SimF true ZfI ZfJ:=SimF.of (show S [] [] [] true Zhn Zho from(Zbl (ZiX (O':=[]) (ZQ ZR (ZQ ZR (Zh 0) (Zh 1)) (Zo _))) (Zb7 (E.tup (Z4 (E.flat (Zh 1)) (Z4 (Zo _) (Z4 (Zc5 Zaz (Zh 2) (Zih (Gs.range (Zv (Zy ZbW (Zh 3) (ZbE Zfa (Zv (Zh 2) ZF))) ZF)) PutOk.one (by decide) Zb4 (Zo _))) ZF (by decide) (by decide)) (by decide) (by decide)) (by decide) (by decide))))))
noncomputable def Zis: Sm:=Zw (Zc Z0 (Zc Zl (Za 0) (Ze 0)) (Zk Zfk (Zb (Zao (ZgN (ZdG (Za 0) 1) (Za 1)) (ZdL 100 101) Z5 (Zc Zcj (Za 100) (Za 101))) Zd)))
noncomputable def Zd0:=ZG 2 Zis
noncomputable def Zit: PS:=(Zar (Zj Zaj (Zj ZD (Zf 0) (Zn 0)) (ZW ZgQ (Zg (Zbk (ZgR (Zea (Zf 0) 1) (Zf 1)) (ZgC 100 101) Za1 (Zj ZbC (Zf 100) (Zf 101))) Zq))))
noncomputable def Zbq:=ZaV 2 Zit
theorem Ziu: SimF false Zd0 Zbq:=SimF.of (show S [] [] [] false Zis Zit from(ZbY (ZaI Zaz (ZQ ZR (Zh 0) (Zo _)) (ZbE Zp2 (Zv (Zih (Gs.zip (ZkX (Zh 0)) (Zh 1)) PutOk.two (by decide) Zb4 (ZaI Zfc (Zh 100) (Zh 101))) ZF)))))
noncomputable def Zhp: Sm:=Zp (Zu 2 (Zc Zl (Za 1) (Ze 1))) (Zp (Zu 3 (Zao (Zaq (Zc Zl (Za 2) (Ze 3))) (ZK 100) Z5 (Zk Zd0 (Zb (Za 100) (Zb (Zc Zl (ZO (Z1 (Runner_c) 5) (Za 0)) (Ze 2)) Zd))))) (Zp (ZP (Zau (ZO (Z1 (Runner_c) 4) (Za 0)) (Z3 (Zb (ZO (Z1 (Runner_c) 5) (Za 0)) (Zb (Za 1) Zd))))) (Zat (Runner_c) 5 (Zk ZfI (Zb (ZO (Z1 (Runner_c) 0) (Za 0)) (Zb (Zc Zl (Za 2) (Ze 2)) (Zb (Za 3) Zd)))) (Za 0))))
noncomputable def ZfK:=ZG 2 Zhp
noncomputable def ZgZ: Sm:=Zp (ZE (ZA (Zc oNe (Zc Zl (Za 1) (Ze 0)) (ZN (Str.ofString "any")))) (Zw (Ze 0)) ZV) (Zp (Zat (Runner_c) 3 (Zc Z0 (ZO (Z1 (Runner_c) 3) (Za 0)) (Ze 1)) (Za 0)) (Zp (ZE (ZA (Zc oGt (ZO (Z1 (Runner_c) 3) (Za 0)) (Zk Zan (Zb (ZO (Z1 (Runner_c) 2) (Za 0)) Zd)))) (Zw (Ze 0)) ZV) (Zw (Zc Zl (ZO (Z1 (Runner_c) 2) (Za 0)) (Zc Za7 (ZO (Z1 (Runner_c) 3) (Za 0)) (Ze 1))))))
noncomputable def Zfx:=ZG 2 ZgZ
noncomputable def Zh6: Sm:=Zp (ZE (ZaU (ZA (Zc oIs (Za 0) (Zbi))) (ZaU (ZA (Zc oIs (Za 1) (Zbi))) Z5)) (Zw (Za 2)) ZV) (Zp (ZE (ZA (Zc oIs (Za 1) (Zbi))) (Zw (Zc Z0 (Za 0) (Zk Zcb (Zb (Za 2) Zd)))) ZV) (Zp (ZE (ZA (Zc oIs (Za 0) (Zbi))) (Zw (Zc Za7 (Za 1) (Zk Zcb (Zb (Za 2) Zd)))) ZV) (Zw (Zc Z0 (Za 0) (Zc oMod (Za 2) (Zc Z0 (Zc Za7 (Za 1) (Za 0)) (Ze 1)))))))
noncomputable def Zh7:=ZG 3 Zh6
noncomputable def Zh8: PS:=(ZB (qIf (ZbK (Z6 (Zj qIs (Zf 0) (ZcQ))) (ZbK (Z6 (Zj qIs (Zf 1) (ZcQ))) Za1)) (Zar (Zf 2)) Zam) (ZB (qIf (Z6 (Zj qIs (Zf 1) (ZcQ))) (Zar (Zj Zaj (Zf 0) (ZW ZdN (Zg (Zf 2) Zq)))) Zam) (ZB (qIf (Z6 (Zj qIs (Zf 0) (ZcQ))) (Zar (Zj ZbA (Zf 1) (ZW ZdN (Zg (Zf 2) Zq)))) Zam) (Zar (Zj Zaj (Zf 0) (Zj Zas (Zf 2) (Zj Zaj (Zj ZbA (Zf 1) (Zf 0)) (Zn 1))))))))
noncomputable def ZfU:=ZaV 3 Zh8
theorem Znp: SimF false Zh7 ZfU:=SimF.of (show S [] [] [] false Zh6 Zh8 from(Zbl (ZbI (Zcw (Bt.val (Zy ZgP (Zh 0) (Zdz))) (Zcw (Bt.val (Zy ZgP (Zh 1) (Zdz))) Zb4)) (ZbY (Zh 2)) ZbH) (Zbl (ZbI (Bt.val (Zy ZgP (Zh 1) (Zdz))) (ZbY (ZaI Zaz (Zh 0) (ZbE ZgA (Zv (Zh 2) ZF)))) ZbH) (Zbl (ZbI (Bt.val (Zy ZgP (Zh 0) (Zdz))) (ZbY (Zy ZbW (Zh 1) (ZbE ZgA (Zv (Zh 2) ZF)))) ZbH) (ZbY (ZaI Zaz (Zh 0) (Zy ZaD (Zh 2) (ZaI Zaz (Zy ZbW (Zh 1) (Zh 0)) (Zo _)))))))))
noncomputable def Zhz: Sm:=Zp (ZE (ZA (Zc oEq (Zc Zl (Za 1) (Ze 0)) (ZN (Str.ofString "any")))) (Zw (Zk Zh7 (Zb (Zc Zl (Za 1) (Ze 2)) (Zb (Zc Zl (Za 1) (Ze 3)) (Zb (Za 2) Zd))))) ZV) (Zp (Zu 3 (Zk Zd0 (Zb (Zc Zl (Za 1) (Ze 2)) (Zb (Za 0) Zd)))) (Zp (ZE (ZA (Zc oEq (Zc Zl (Za 1) (Ze 0)) (ZN (Str.ofString "part")))) (Zw (Zc oDiv (Za 3) (Zc Zl (Za 1) (Ze 3)))) ZV) (Zp (ZE (ZA (Zc oEq (Zc Zl (Za 1) (Ze 0)) (ZN (Str.ofString "rest")))) (Zw (Zc oMod (Za 3) (Zc Zl (Za 1) (Ze 3)))) ZV) (Zw (Za 3)))))
noncomputable def ZhA:=ZG 3 Zhz
noncomputable def ZdT: PS:=(ZB (qIf (Z6 (Zj qEq (Zj ZD (Zf 1) (Zn 0)) (ZaE (Str.ofString "any")))) (Zar (ZW ZfU (Zg (Zj ZD (Zf 1) (Zn 2)) (Zg (Zj ZD (Zf 1) (Zn 3)) (Zg (Zf 2) Zq))))) Zam) (ZB (ZbL 3 (ZW Zbq (Zg (Zj ZD (Zf 1) (Zn 2)) (Zg (Zf 0) Zq)))) (ZB (qIf (Z6 (Zj qEq (Zj ZD (Zf 1) (Zn 0)) (ZaE (Str.ofString "part")))) (Zar (Zj ZbB (Zf 3) (Zj ZD (Zf 1) (Zn 3)))) Zam) (ZB (qIf (Z6 (Zj qEq (Zj ZD (Zf 1) (Zn 0)) (ZaE (Str.ofString "rest")))) (Zar (Zj Zas (Zf 3) (Zj ZD (Zf 1) (Zn 3)))) Zam) (Zar (Zf 3))))))
noncomputable def Zco:=ZaV 3 ZdT
theorem ZlZ: SimF false ZhA Zco:=SimF.of (show S [] [] [] false Zhz ZdT from(Zbl (ZbI (Bt.val (Zy Zbo (ZQ ZR (Zh 1) (Zo _)) (E.str _))) (ZbY (E.fn Znp (Zv (ZQ ZR (Zh 1) (Zo _)) (Zv (ZQ ZR (Zh 1) (Zo _)) (Zv (Zh 2) ZF))))) ZbH) (Zbl (ZiX (O':=[]) (E.fn Ziu (Zv (ZQ ZR (Zh 1) (Zo _)) (Zv (Zh 0) ZF)))) (Zbl (ZbI (Bt.val (Zy Zbo (ZQ ZR (Zh 1) (Zo _)) (E.str _))) (ZbY (Zy ZcB (Zh 3) (ZQ ZR (Zh 1) (Zo _)))) ZbH) (Zbl (ZbI (Bt.val (Zy Zbo (ZQ ZR (Zh 1) (Zo _)) (E.str _))) (ZbY (Zy ZaD (Zh 3) (ZQ ZR (Zh 1) (Zo _)))) ZbH) (ZbY (Zh 3)))))))
noncomputable def Ziv: Sm:=Zp (Zu 2 (Zk Zd0 (Zb (Zc Zl (Za 0) (Ze 1)) (Zb (Za 1) Zd)))) (Zp (ZE (ZA (Zc oEq (Zc Zl (Za 0) (Ze 0)) (ZN (Str.ofString "under")))) (Zw (Zc oLt (Za 2) (Ze 0))) ZV) (Zp (ZE (ZA (Zc oEq (Zc Zl (Za 0) (Ze 0)) (ZN (Str.ofString "same")))) (Zw (Zc oEq (Za 2) (Ze 0))) ZV) (Zw (Zc oEq (Zc oMod (Za 2) (Zc Zl (Za 0) (Ze 2))) (Ze 0)))))
noncomputable def Ziw:=ZG 2 Ziv
noncomputable def ZeR: PS:=(ZB (ZbL 2 (ZW Zbq (Zg (Zj ZD (Zf 0) (Zn 1)) (Zg (Zf 1) Zq)))) (ZB (qIf (Z6 (Zj qEq (Zj ZD (Zf 0) (Zn 0)) (ZaE (Str.ofString "under")))) (Zar (Zj qLt (Zf 2) (Zn 0))) Zam) (ZB (qIf (Z6 (Zj qEq (Zj ZD (Zf 0) (Zn 0)) (ZaE (Str.ofString "same")))) (Zar (Zj qEq (Zf 2) (Zn 0))) Zam) (Zar (Zj qEq (Zj Zas (Zf 2) (Zj ZD (Zf 0) (Zn 2))) (Zn 0))))))
noncomputable def Zb5:=ZaV 2 ZeR
theorem Zot: SimF false Ziw Zb5:=SimF.of (show S [] [] [] false Ziv ZeR from(Zbl (ZiX (O':=[]) (E.fn Ziu (Zv (ZQ ZR (Zh 0) (Zo _)) (Zv (Zh 1) ZF)))) (Zbl (ZbI (Bt.val (Zy Zbo (ZQ ZR (Zh 0) (Zo _)) (E.str _))) (ZbY (Zy Zei (Zh 2) (Zo _))) ZbH) (Zbl (ZbI (Bt.val (Zy Zbo (ZQ ZR (Zh 0) (Zo _)) (E.str _))) (ZbY (Zy Zbo (Zh 2) (Zo _))) ZbH) (ZbY (Zy Zbo (Zy ZaD (Zh 2) (ZQ ZR (Zh 0) (Zo _))) (Zo _)))))))
noncomputable def ZiM: Sm:=Zp (ZE (ZaU (ZA (Zc oEq (Zc Zl (Za 1) (Ze 0)) (ZN (Str.ofString "when")))) (ZaU (ZA (Zc oNe (Zk Ziw (Zb (Zc Zl (Za 1) (Ze 1)) (Zb (Za 0) Zd))) (Zc Zl (Za 1) (Ze 2)))) Z5)) (Zw (Zbi)) ZV) (Zp (ZE (ZA (Zc oIn (Zc Zl (Za 1) (Ze 0)) (Z3 (Zb (ZN (Str.ofString "go")) (Zb (ZN (Str.ofString "say")) (Zb (ZN (Str.ofString "when")) Zd)))))) (Zw (Zk Zbx (Zb (Za 0) Zd))) ZV) (Zw (Zk Zgq (Zb (Za 0) (Zb (Zc Zl (Za 1) (Ze 1)) (Zb (Zk ZhA (Zb (Za 0) (Zb (Za 1) (Zb (Za 2) Zd)))) Zd))))))
noncomputable def Ze1:=ZG 3 ZiM
noncomputable def ZcK: PS:=(ZB (qIf (ZbK (Z6 (Zj qEq (Zj ZD (Zf 1) (Zn 0)) (ZaE (Str.ofString "when")))) (ZbK (Z6 (Zj qNe (ZW Zb5 (Zg (Zj ZD (Zf 1) (Zn 1)) (Zg (Zf 0) Zq))) (Zj ZD (Zf 1) (Zn 2)))) Za1)) (Zar (ZcQ)) Zam) (ZB (qIf (Z6 (Zj qIn (Zj ZD (Zf 1) (Zn 0)) (Zbm (Zg (ZaE (Str.ofString "go")) (Zg (ZaE (Str.ofString "say")) (Zg (ZaE (Str.ofString "when")) Zq)))))) (Zar (pFl (ZW ZdA (Zg (Zf 0) Zq)))) Zam) (Zar (ZW Zd4 (Zg (Zf 0) (Zg (Zj ZD (Zf 1) (Zn 1)) (Zg (ZW Zco (Zg (Zf 0) (Zg (Zf 1) (Zg (Zf 2) Zq)))) Zq)))))))
noncomputable def Za0:=ZaV 3 ZcK
theorem ZpI: SimF true Ze1 Za0:=SimF.of (show S [] [] [] true ZiM ZcK from(Zbl (ZbI (Zcw (Bt.val (Zy Zbo (ZQ ZR (Zh 1) (Zo _)) (E.str _))) (Zcw (Bt.val (Zy Zi8 (E.fn Zot (Zv (ZQ ZR (Zh 1) (Zo _)) (Zv (Zh 0) ZF))) (ZQ ZR (Zh 1) (Zo _)))) Zb4)) (Zb7 (Zdz)) ZbH) (Zbl (ZbI (Bt.val (Zy Zqi (ZQ ZR (Zh 1) (Zo _)) (E.tup (Zv (E.str _) (Zv (E.str _) (Zv (E.str _) ZF)))))) (Zb7 (Zic Zig (Zv (Zh 0) ZF))) ZbH) (Zb7 (ZcN Zlb (Zv (Zh 0) (Zv (ZQ ZR (Zh 1) (Zo _)) (Zv (E.fn ZlZ (Zv (Zh 0) (Zv (Zh 1) (Zv (Zh 2) ZF)))) ZF))))))))
noncomputable def Zg0: Sm:=Zp (Zu 2 (ZZ (Runner_c) Zfx (Za 0) (Zb (Zc Zl (Zc Zl (Za 1) (Ze 0)) (Ze 1)) Zd))) (Zp (Zu 3 (ZO (Z1 (Runner_c) 5) (Za 0))) (ZaC (Zaq (Za 1)) (ZK 4) (Zp (Zu 5 (Zk Ze1 (Zb (Zc Zl (Za 3) (Ze 2)) (Zb (Zc Zl (Za 4) (Ze 1)) (Zb (Za 2) Zd))))) (ZE (ZA (Zc Zdw (Za 5) (Zbi))) (Zat (Runner_c) 5 (Z3 (Zb (Zc Zl (Za 3) (Ze 0)) (Zb (Zc Zl (Za 4) (Ze 2)) (Zb (Za 5) Zd)))) (Za 0)) ZV))))
noncomputable def Zfy:=ZG 2 Zg0
noncomputable def Zhq: Sm:=Zp (Zu 1 (ZZ (Runner_c) Zem (Za 0) Zd)) (ZE (ZA (Zc oEq (Zk Zan (Zb (Za 1) Zd)) (Ze 0))) (ZP (ZZ (Runner_c) ZfH (Za 0) Zd)) (ZE (ZA (Zc oEq (Zc Zl (Zc Zl (Zc Zl (Za 1) (Ze 0)) (Ze 1)) (Ze 0)) (ZN (Str.ofString "call")))) (ZP (ZZ (Runner_c) ZfK (Za 0) (Zb (Zc Zl (Za 1) (Ze 0)) Zd))) (ZP (ZZ (Runner_c) Zfy (Za 0) (Zb (Za 1) Zd)))))
noncomputable def Zet:=ZG 1 Zhq
noncomputable def Zhr: Sm:=Zw (ZcE (Zc oEq (Zk Zan (Zb (ZZ (Runner_c) Zem (Za 0) Zd) Zd)) (Ze 0)) (Zc oEq (Zk Zan (Zb (ZO (Z1 (Runner_c) 4) (Za 0)) Zd)) (Ze 0)))
noncomputable def Zeu:=ZG 1 Zhr
noncomputable def Zha: Sm:=Zp (Zu 1 (Zao (ZaY (Zb (Zc Z0 (Zk Zex (Zb (Za 0) Zd)) (Ze 1)) Zd)) (ZK 100) Z5 (Zad Zd))) (Zp (ZaC (Zaq (Za 0)) (ZK 2) (ZP (Zau (Zc Zl (Za 1) (Zc Zl (Za 2) (Ze 0))) (Za 2)))) (Zw (Za 1)))
noncomputable def Zeo:=ZG 1 Zha
noncomputable def Zhs: Sm:=Zw (Zao (Zaq (Za 0)) (ZK 100) Z5 (Zk Zeo (Zb (Zk ZeE (Zb (Zc Zl (Za 100) (Ze 2)) Zd)) Zd)))
noncomputable def ZfL:=ZG 1 Zhs
noncomputable def Zhb: Sm:=Zp (Zat (Runner_c) 0 (Za 1) (Za 0)) (Zp (Zat (Runner_c) 1 (Zk ZfL (Zb (Za 1) Zd)) (Za 0)) (Zp (Zat (Runner_c) 2 (Za 3) (Za 0)) (Zp (Zat (Runner_c) 3 (Ze 0) (Za 0)) (Zp (Zat (Runner_c) 4 (Zad Zd) (Za 0)) (Zat (Runner_c) 5 (Zk ZfI (Zb (Za 1) (Zb (Zc Za7 (Zk Zan (Zb (Za 1) Zd)) (Ze 1)) (Zb (Za 2) Zd)))) (Za 0))))))
noncomputable def Zep:=ZG 4 Zhb
noncomputable def Zjj: PS:=(ZB (ZbL 2 (Zj ZD (Zf 0) (Zn 0))) (ZB (ZcT (ZbG (Zg (ZW Zb0 (Zg (Zf 1) Zq)) Zq)) (ZaJ 3) (ZbL 2 (Zj Zaj (Zf 2) (Zj ZbC (Zj ZD (Zf 0) (Zj Zaj (Zf 3) (Zn 1))) (Zj ZD (Zf 1) (Zf 3)))))) (Zar (Zf 2))))
noncomputable def ZcY:=ZaV 2 Zjj
noncomputable def ZfB: PS:=(ZB (ZbL 2 (ZW ZcY (Zg (Zj ZD (Zf 0) (Zn 1)) (Zg (Zf 1) Zq)))) (ZB (qIf (Z6 (Zj qEq (Zj ZD (Zf 0) (Zn 0)) (ZaE (Str.ofString "under")))) (Zar (Zj qLt (Zf 2) (Zn 0))) Zam) (ZB (qIf (Z6 (Zj qEq (Zj ZD (Zf 0) (Zn 0)) (ZaE (Str.ofString "same")))) (Zar (Zj qEq (Zf 2) (Zn 0))) Zam) (Zar (Zj qEq (Zj Zas (Zf 2) (Zj ZD (Zf 0) (Zn 2))) (Zn 0))))))
noncomputable def Zdi:=ZaV 2 ZfB
noncomputable def Zg6: Sm:=Zp (Zu 1 (Zk ZeC (Zb (Za 0) Zd))) (Zp (Zu 2 (Zc Zcj (Zc oDiv (Za 1) (Ze 7)) (Zc oPow (Ze 48271) (Ze 14)))) (Zp (ZE (ZA (Zc oEq (Zc oMod (Za 1) (Ze 7)) (Ze 2))) (Zw (Zc Za7 (Zc oMod (Za 2) (Zc Za7 (Zc Zcj (Ze 2) (Zc oPow (Ze 10) (Ze 60))) (Ze 1))) (Zc Za7 (Zc oPow (Ze 10) (Ze 60)) (Ze 1)))) ZV) (Zw (Zc Za7 (Zc oMod (Za 2) (Ze 13)) (Ze 6)))))
noncomputable def ZbD:=ZG 1 Zg6
noncomputable def Zg7: PS:=(ZB (Zap 1 (Zah false [0] ZeD (Zg (Zf 0) Zq))) (ZB (Zap 2 (xP (Zj ZbC (Zj ZbB (Zf 1) (Zn 7)) (Zj ZcR (Zn 48271) (Zn 14))))) (ZB (Za8 (xB (Z6 (Zj qEq (Zj Zas (Zf 1) (Zn 7)) (Zn 2)))) (Zax (xP (Zj ZbA (Zj Zas (Zf 2) (Zj ZbA (Zj ZbC (Zn 2) (Zj ZcR (Zn 10) (Zn 60))) (Zn 1))) (Zj ZbA (Zj ZcR (Zn 10) (Zn 60)) (Zn 1))))) Zam) (Zax (xP (Zj ZbA (Zj Zas (Zf 2) (Zn 13)) (Zn 6)))))))
noncomputable def ZcG: List T→Option (T×List T):=Zbu 1 [(0,1)] Zg7
theorem ZdQ: SimX 1 [(0,1)] true ZbD ZcG:=SimX.of (show SU [] [(0,1)] [] [(0,1)] [(0,1)] true Zg6 Zg7 from(SU.seq (SU.set (i:=1) (O':=[]) (S':=[(0,1)]) (EX.call (b:=false) (xs:=[0]) (as:=[some 0]) (M:=[]) Zjz (XAs.slot XAs.nil))) (SU.seq (SU.set (i:=2) (O':=[]) (S':=[(0,1)]) (Z7 (ZaI Zfc (Zy ZcB (Zh 1) (Zo _)) (Zy ZiW (Zo _) (Zo _))) (by decide))) (SU.seq (Zbr (Zbp (Bt.val (Zy Zbo (Zy ZaD (Zh 1) (Zo _)) (Zo _)))) (ZaN (O':=[]) (S':=[(0,1)]) (Z7 (Zy ZbW (Zy ZaD (Zh 2) (Zy ZbW (ZaI Zfc (Zo _) (Zy ZiW (Zo _) (Zo _))) (Zo _))) (Zy ZbW (Zy ZiW (Zo _) (Zo _)) (Zo _))) (by decide)) (by decide) (by decide)) SU.next) (ZaN (O':=[]) (S':=[(0,1)]) (Z7 (Zy ZbW (Zy ZaD (Zh 2) (Zo _)) (Zo _)) (by decide)) (by decide) (by decide)))))) (by decide) (by decide)
noncomputable def Zhv: Sm:=Zp (Zu 2 (Zad (Zb (Zk ZbD (Zb (Za 0) Zd)) Zd))) (Zp (Zu 3 (Zk Za9 (Zb (Za 0) (Zb (Ze 1000) Zd)))) (Zp (ZaC (ZaY (Zb (Za 1) Zd)) (ZK 4) (Zp (ZP (Zau (Za 2) (Zc Za7 (Zc oMod (Za 3) (Ze 5)) (Ze 2)))) (Zu 3 (Zc oDiv (Za 3) (Ze 5))))) (Zw (Za 2))))
noncomputable def Zcf:=ZG 2 Zhv
noncomputable def Zhw: PS:=(ZB (Zap 2 (ZaP 1000 (Zah false [0] ZcG (Zg (Zf 0) Zq)) (xP (Zbt (Zg (Zf 1000) Zq))))) (ZB (Zap 3 (Zah false [0] ZbN (Zg (Zf 0) (Zg (Zn 1000) Zq)))) (ZB (ZcT (ZbG (Zg (Zf 1) Zq)) (ZaJ 4) (ZB (Zek 2 [] ZbJ (Zj ZbA (Zj Zas (Zf 3) (Zn 5)) (Zn 2))) (Zap 3 (xP (Zj ZbB (Zf 3) (Zn 5)))))) (Zax (xP (Zf 2))))))
noncomputable def Zc0: List T→Option (T×List T):=Zbu 2 [(0,1)] Zhw
theorem Zev: SimX 2 [(0,1)] true Zcf Zc0:=SimX.of (show SU [] [(0,1)] [2] [(0,1)] [(0,1)] true Zhv Zhw from(SU.seq (Zdu (i:=2) (O':=[2]) (S':=[(0,1)]) (Zbv (k:=1000) (C:=fun e=>(Zad (Zb (e) Zd))) (e:=(Zk ZbD (Zb (Za 0) Zd))) (Ct.list (Cts.head (ZaS) (fun ρ v H=>rfl))) (EX.call (b:=false) (xs:=[0]) (as:=[some 0]) (M:=[]) ZdQ (XAs.slot XAs.nil)) (Z7 (E.list (Z4 (E.own) ZF (by decide) (by decide))) (by decide)) (by decide) (by decide)) (by decide) (by decide)) (SU.seq (SU.set (i:=3) (O':=[2]) (S':=[(0,1)]) (EX.call (b:=false) (xs:=[0]) (as:=[some 0,none]) (M:=[]) Zcm (XAs.slot (Zaf (Zo _) (by decide) XAs.nil)))) (SU.seq (Zk8 (Gs.range (Zv (Zh 1) ZF)) (PutOk.one (j:=4)) PutK.one (by decide) (by decide) (SU.seq (Zkv (x:=2) (N:=[]) (O':=[2]) (by decide) ZkY (Zln (O':=[]) (Zy ZbW (Zy ZaD (Zh 3) (Zo _)) (Zo _))) (by decide) (by decide) (by decide)) (SU.set (i:=3) (O':=[2]) (S':=[(0,1)]) (Z7 (Zy ZcB (Zh 3) (Zo _)) (by decide))))) (ZaN (O':=[2]) (S':=[(0,1)]) (Z7 (E.own) (by decide)) (by decide) (by decide)))))) (by decide) (by decide)
noncomputable def Zhc: Sm:=Zp (Zu 5 (Zc Z0 (Za 3) (Zc oMod (Zc oDiv (Za 4) (Ze 10)) (Zc Z0 (Zc Za7 (Zc Zl (Za 2) (Ze 1)) (Za 3)) (Ze 1))))) (Zp (ZE (ZA (Zc oEq (Zc oMod (Za 4) (Ze 10)) (Ze 3))) (Zw (Z3 (Zb (ZN (Str.ofString "part")) (Zb (Za 5) (Zb (Zk Zcf (Zb (Za 0) (Zb (Zc Zl (Za 2) (Ze 1)) Zd))) (Zb (Zc Z0 (Ze 1) (Zk Zcb (Zb (Zk ZbD (Zb (Za 0) Zd)) Zd))) Zd)))))) ZV) (Zp (ZE (ZA (Zc oEq (Zc oMod (Za 4) (Ze 10)) (Ze 4))) (Zw (Z3 (Zb (ZN (Str.ofString "rest")) (Zb (Za 5) (Zb (Zk Zcf (Zb (Za 0) (Zb (Zc Zl (Za 2) (Ze 1)) Zd))) (Zb (Zc Z0 (Ze 1) (Zk Zcb (Zb (Zk ZbD (Zb (Za 0) Zd)) Zd))) Zd)))))) ZV) (Zp (ZE (tOr (ZA (Zc oEq (Zc oMod (Za 4) (Ze 10)) (Ze 5))) (tOr (ZA (Zc oEq (Zc oMod (Za 4) (Ze 10)) (Ze 6))) ZbR)) (Zp (Zu 6 (Zk ZbD (Zb (Za 0) Zd))) (Zw (Z3 (Zb (ZN (Str.ofString "any")) (Zb (Za 5) (Zb (Zc Zl (Zad (Zb (Za 6) (Zb (Zbi) Zd))) (Zc oDiv (Zc oMod (Zc oDiv (Za 4) (Ze 40)) (Ze 4)) (Ze 3))) (Zb (Zc Zl (Zad (Zb (Zc Z0 (Za 6) (Zc oMod (Zc oDiv (Za 4) (Ze 160)) (Ze 9))) (Zb (Zbi) Zd))) (Zc oDiv (Zc oMod (Zc oDiv (Za 4) (Ze 1440)) (Ze 4)) (Ze 3))) Zd))))))) ZV) (Zp (ZE (ZaU (ZA (Zc oGt (Zc oMod (Za 4) (Ze 10)) (Ze 7))) (ZaU (ZA (Zc oGt (Zk Zan (Zb (Za 1) Zd)) (Ze 0))) Z5)) (Zw (Z3 (Zb (ZN (Str.ofString "call")) (Zb (Za 5) (Zb (Ze 0) (Zb (Zao (ZaY (Zb (Zc Zl (Zc Zl (Za 1) (Ze 0)) (Ze 0)) Zd)) (ZK 100) Z5 (Zk Zcf (Zb (Za 0) (Zb (Zc Zl (Za 2) (Ze 1)) Zd)))) Zd)))))) ZV) (Zw (Z3 (Zb (ZN (Str.ofString "set")) (Zb (Za 5) (Zb (Zk Zcf (Zb (Za 0) (Zb (Zc Zl (Za 2) (Ze 1)) Zd))) Zd)))))))))
noncomputable def Zhd:=ZG 5 Zhc
noncomputable def Zhe: PS:=(ZB (Zap 5 (xP (pFl (Zj Zaj (Zf 3) (Zj Zas (Zj ZbB (Zf 4) (Zn 10)) (Zj Zaj (Zj ZbA (Zj ZD (Zf 2) (Zn 1)) (Zf 3)) (Zn 1))))))) (ZB (Za8 (xB (Z6 (Zj qEq (Zj Zas (Zf 4) (Zn 10)) (Zn 3)))) (Zax (ZaP 1000 (Zah false [0] Zc0 (Zg (Zf 0) (Zg (Zj ZD (Zf 2) (Zn 1)) Zq))) (ZaP 1001 (Zah false [0] ZcG (Zg (Zf 0) Zq)) (xP (Zbm (Zg (ZaE (Str.ofString "part")) (Zg (Zf 5) (Zg (Zf 1000) (Zg (pFl (Zj Zaj (Zn 1) (ZW ZdN (Zg (Zf 1001) Zq)))) Zq))))))))) Zam) (ZB (Za8 (xB (Z6 (Zj qEq (Zj Zas (Zf 4) (Zn 10)) (Zn 4)))) (Zax (ZaP 1002 (Zah false [0] Zc0 (Zg (Zf 0) (Zg (Zj ZD (Zf 2) (Zn 1)) Zq))) (ZaP 1003 (Zah false [0] ZcG (Zg (Zf 0) Zq)) (xP (Zbm (Zg (ZaE (Str.ofString "rest")) (Zg (Zf 5) (Zg (Zf 1002) (Zg (pFl (Zj Zaj (Zn 1) (ZW ZdN (Zg (Zf 1003) Zq)))) Zq))))))))) Zam) (ZB (Za8 (xB (bOr (Z6 (Zj qEq (Zj Zas (Zf 4) (Zn 10)) (Zn 5))) (bOr (Z6 (Zj qEq (Zj Zas (Zf 4) (Zn 10)) (Zn 6))) ZeX))) (ZB (Zap 6 (Zah false [0] ZcG (Zg (Zf 0) Zq))) (Zax (xP (Zbm (Zg (ZaE (Str.ofString "any")) (Zg (Zf 5) (Zg (ZbV (Zj ZD (Zbt (Zg (Zf 6) (Zg (ZcQ) Zq))) (Zj ZbB (Zj Zas (Zj ZbB (Zf 4) (Zn 40)) (Zn 4)) (Zn 3)))) (Zg (ZbV (Zj ZD (Zbt (Zg (Zj Zaj (Zf 6) (Zj Zas (Zj ZbB (Zf 4) (Zn 160)) (Zn 9))) (Zg (ZcQ) Zq))) (Zj ZbB (Zj Zas (Zj ZbB (Zf 4) (Zn 1440)) (Zn 4)) (Zn 3)))) Zq)))))))) Zam) (ZB (Za8 (xB (ZbK (Z6 (Zj qGt (Zj Zas (Zf 4) (Zn 10)) (Zn 7))) (ZbK (Z6 (Zj qGt (ZW Zb0 (Zg (Zf 1) Zq)) (Zn 0))) Za1))) (Zax (ZaP 1004 (Zec (ZbG (Zg (Zj ZD (Zj ZD (Zf 1) (Zn 0)) (Zn 0)) Zq)) 100 (Zah false [0] Zc0 (Zg (Zf 0) (Zg (Zj ZD (Zf 2) (Zn 1)) Zq)))) (xP (Zbm (Zg (ZaE (Str.ofString "call")) (Zg (Zf 5) (Zg (Zn 0) (Zg (Zf 1004) Zq)))))))) Zam) (Zax (ZaP 1005 (Zah false [0] Zc0 (Zg (Zf 0) (Zg (Zj ZD (Zf 2) (Zn 1)) Zq))) (xP (Zbm (Zg (ZaE (Str.ofString "set")) (Zg (Zf 5) (Zg (Zf 1005) Zq))))))))))))
noncomputable def ZfC: List T→Option (T×List T):=Zbu 5 [(0,1)] Zhe
theorem ZlI: SimX 5 [(0,1)] true Zhd ZfC:=SimX.of (show SU [] [(0,1)] [5] [(0,1)] [(0,1)] true Zhc Zhe from(SU.seq (Zdu (i:=5) (O':=[5]) (S':=[(0,1)]) (Z7 (Zc5 Zaz (Zh 3) (Zy ZaD (Zy ZcB (Zh 4) (Zo _)) (ZaI Zaz (Zy ZbW (ZQ ZR (Zh 2) (Zo _)) (Zh 3)) (Zo _)))) (by decide)) (by decide) (by decide)) (SU.seq (Zbr (Zbp (Bt.val (Zy Zbo (Zy ZaD (Zh 4) (Zo _)) (Zo _)))) (ZaN (O':=[5]) (S':=[(0,1)]) (Zbv (k:=1000) (C:=fun e=>(Z3 (Zb (ZN (Str.ofString "part")) (Zb (Za 5) (Zb (e) (Zb (Zc Z0 (Ze 1) (Zk Zcb (Zb (Zk ZbD (Zb (Za 0) Zd)) Zd))) Zd)))))) (e:=(Zk Zcf (Zb (Za 0) (Zb (Zc Zl (Za 2) (Ze 1)) Zd)))) (Ct.tup (ZaG (ZaG (Cts.head (ZaS) (fun ρ v H=>rfl)) (ZaZ (by decide))) Vl.str)) (EX.call (b:=false) (xs:=[0]) (as:=[some 0,none]) (M:=[2]) Zev (XAs.slot (Zaf (ZQ ZR (Zh 2) (Zo _)) (by decide) XAs.nil))) (Zbv (k:=1001) (C:=fun e=>(Z3 (Zb (ZN (Str.ofString "part")) (Zb (Za 5) (Zb (Za 1000) (Zb (Zc Z0 (Ze 1) (Zk Zcb (Zb (e) Zd))) Zd)))))) (e:=(Zk ZbD (Zb (Za 0) Zd))) (Ct.tup (ZaG (ZaG (ZaG (Cts.head (Zf8 (Ct.call (Cts.head (ZaS) (fun ρ v H=>rfl))) Vl.int) (fun ρ v H=>rfl)) (ZaZ (by decide))) (ZaZ (by decide))) Vl.str)) (EX.call (b:=false) (xs:=[0]) (as:=[some 0]) (M:=[]) ZdQ (XAs.slot XAs.nil)) (Z7 (E.tup (Z4 (E.str _) (Z4 (E.own) (Z4 (E.own) (Z4 (Zc5 Zaz (Zo _) (ZbE ZgA (Zv (Zh 1001) ZF))) ZF (by decide) (by decide)) (by decide) (by decide)) (by decide) (by decide)) (by decide) (by decide))) (by decide)) (by decide) (by decide)) (by decide) (by decide)) (by decide) (by decide)) SU.next) (SU.seq (Zbr (Zbp (Bt.val (Zy Zbo (Zy ZaD (Zh 4) (Zo _)) (Zo _)))) (ZaN (O':=[5]) (S':=[(0,1)]) (Zbv (k:=1002) (C:=fun e=>(Z3 (Zb (ZN (Str.ofString "rest")) (Zb (Za 5) (Zb (e) (Zb (Zc Z0 (Ze 1) (Zk Zcb (Zb (Zk ZbD (Zb (Za 0) Zd)) Zd))) Zd)))))) (e:=(Zk Zcf (Zb (Za 0) (Zb (Zc Zl (Za 2) (Ze 1)) Zd)))) (Ct.tup (ZaG (ZaG (Cts.head (ZaS) (fun ρ v H=>rfl)) (ZaZ (by decide))) Vl.str)) (EX.call (b:=false) (xs:=[0]) (as:=[some 0,none]) (M:=[2]) Zev (XAs.slot (Zaf (ZQ ZR (Zh 2) (Zo _)) (by decide) XAs.nil))) (Zbv (k:=1003) (C:=fun e=>(Z3 (Zb (ZN (Str.ofString "rest")) (Zb (Za 5) (Zb (Za 1002) (Zb (Zc Z0 (Ze 1) (Zk Zcb (Zb (e) Zd))) Zd)))))) (e:=(Zk ZbD (Zb (Za 0) Zd))) (Ct.tup (ZaG (ZaG (ZaG (Cts.head (Zf8 (Ct.call (Cts.head (ZaS) (fun ρ v H=>rfl))) Vl.int) (fun ρ v H=>rfl)) (ZaZ (by decide))) (ZaZ (by decide))) Vl.str)) (EX.call (b:=false) (xs:=[0]) (as:=[some 0]) (M:=[]) ZdQ (XAs.slot XAs.nil)) (Z7 (E.tup (Z4 (E.str _) (Z4 (E.own) (Z4 (E.own) (Z4 (Zc5 Zaz (Zo _) (ZbE ZgA (Zv (Zh 1003) ZF))) ZF (by decide) (by decide)) (by decide) (by decide)) (by decide) (by decide)) (by decide) (by decide))) (by decide)) (by decide) (by decide)) (by decide) (by decide)) (by decide) (by decide)) SU.next) (SU.seq (Zbr (Zbp (Zd9 (Bt.val (Zy Zbo (Zy ZaD (Zh 4) (Zo _)) (Zo _))) (Zd9 (Bt.val (Zy Zbo (Zy ZaD (Zh 4) (Zo _)) (Zo _))) Zh2))) (SU.seq (SU.set (i:=6) (O':=[5]) (S':=[(0,1)]) (EX.call (b:=false) (xs:=[0]) (as:=[some 0]) (M:=[]) ZdQ (XAs.slot XAs.nil))) (ZaN (O':=[5]) (S':=[(0,1)]) (Z7 (E.tup (Z4 (E.str _) (Z4 (E.own) (Z4 (E.flat (ZQ ZR (E.list (Zv (Zh 6) (Zv (Zdz) ZF))) (Zy ZcB (Zy ZaD (Zy ZcB (Zh 4) (Zo _)) (Zo _)) (Zo _)))) (Z4 (E.flat (ZQ ZR (E.list (Zv (ZaI Zaz (Zh 6) (Zy ZaD (Zy ZcB (Zh 4) (Zo _)) (Zo _))) (Zv (Zdz) ZF))) (Zy ZcB (Zy ZaD (Zy ZcB (Zh 4) (Zo _)) (Zo _)) (Zo _)))) ZF (by decide) (by decide)) (by decide) (by decide)) (by decide) (by decide)) (by decide) (by decide))) (by decide)) (by decide) (by decide))) SU.next) (SU.seq (Zbr (Zbp (Zcw (Bt.val (Zy ZdM (Zy ZaD (Zh 4) (Zo _)) (Zo _))) (Zcw (Bt.val (Zy ZdM (ZbE Zfa (Zv (Zh 1) ZF)) (Zo _))) Zb4))) (ZaN (O':=[5]) (S':=[(0,1)]) (Zbv (k:=1004) (C:=fun e=>(Z3 (Zb (ZN (Str.ofString "call")) (Zb (Za 5) (Zb (Ze 0) (Zb (e) Zd)))))) (e:=(Zao (ZaY (Zb (Zc Zl (Zc Zl (Za 1) (Ze 0)) (Ze 0)) Zd)) (ZK 100) Z5 (Zk Zcf (Zb (Za 0) (Zb (Zc Zl (Za 2) (Ze 1)) Zd))))) (Ct.tup (ZaG (ZaG (ZaG (Cts.head (ZaS) (fun ρ v H=>rfl)) Vl.int) (ZaZ (by decide))) Vl.str)) (EX.comp (Gs.range (Zv (ZQ ZR (ZQ ZR (Zh 1) (Zo _)) (Zo _)) ZF)) (by decide) (by decide) (EX.call (b:=false) (xs:=[0]) (as:=[some 0,none]) (M:=[2]) Zev (XAs.slot (Zaf (ZQ ZR (Zh 2) (Zo _)) (by decide) XAs.nil)))) (Z7 (E.tup (Z4 (E.str _) (Z4 (E.own) (Z4 (Zo _) (Z4 (E.own) ZF (by decide) (by decide)) (by decide) (by decide)) (by decide) (by decide)) (by decide) (by decide))) (by decide)) (by decide) (by decide)) (by decide) (by decide)) SU.next) (ZaN (O':=[5]) (S':=[(0,1)]) (Zbv (k:=1005) (C:=fun e=>(Z3 (Zb (ZN (Str.ofString "set")) (Zb (Za 5) (Zb (e) Zd))))) (e:=(Zk Zcf (Zb (Za 0) (Zb (Zc Zl (Za 2) (Ze 1)) Zd)))) (Ct.tup (ZaG (ZaG (Cts.head (ZaS) (fun ρ v H=>rfl)) (ZaZ (by decide))) Vl.str)) (EX.call (b:=false) (xs:=[0]) (as:=[some 0,none]) (M:=[2]) Zev (XAs.slot (Zaf (ZQ ZR (Zh 2) (Zo _)) (by decide) XAs.nil))) (Z7 (E.tup (Z4 (E.str _) (Z4 (E.own) (Z4 (E.own) ZF (by decide) (by decide)) (by decide) (by decide)) (by decide) (by decide))) (by decide)) (by decide) (by decide)) (by decide) (by decide)))))))) (by decide) (by decide)
noncomputable def Zhf: Sm:=Zp (Zu 2 (Zc Zl (Zad (Zb (ZN (Str.ofString "under")) (Zb (ZN (Str.ofString "same")) (Zb (ZN (Str.ofString "even")) Zd)))) (Zk Za9 (Zb (Za 0) (Zb (Ze 3) Zd))))) (Zp (Zu 3 (Zk Zcf (Zb (Za 0) (Zb (Za 1) Zd)))) (Zp (ZE (ZA (Zc oEq (Za 2) (ZN (Str.ofString "even")))) (Zw (Z3 (Zb (Za 2) (Zb (Za 3) (Zb (Zc Z0 (Ze 2) (Zk Za9 (Zb (Za 0) (Zb (Ze 5) Zd)))) Zd))))) ZV) (Zw (Z3 (Zb (Za 2) (Zb (Za 3) Zd))))))
noncomputable def Zeq:=ZG 2 Zhf
noncomputable def Zhg: PS:=(ZB (Zap 2 (ZaP 1000 (xP (Zbt (Zg (ZaE (Str.ofString "under")) (Zg (ZaE (Str.ofString "same")) (Zg (ZaE (Str.ofString "even")) Zq))))) (ZaP 1001 (Zah false [0] ZbN (Zg (Zf 0) (Zg (Zn 3) Zq))) (xP (ZbV (Zj ZD (Zf 1000) (Zf 1001))))))) (ZB (Zap 3 (Zah false [0] Zc0 (Zg (Zf 0) (Zg (Zf 1) Zq)))) (ZB (Za8 (xB (Z6 (Zj qEq (Zf 2) (ZaE (Str.ofString "even"))))) (Zax (ZaP 1002 (Zah false [0] ZbN (Zg (Zf 0) (Zg (Zn 5) Zq))) (xP (Zbm (Zg (Zf 2) (Zg (Zf 3) (Zg (pFl (Zj Zaj (Zn 2) (Zf 1002))) Zq))))))) Zam) (Zax (xP (Zbm (Zg (Zf 2) (Zg (Zf 3) Zq))))))))
noncomputable def Zer: List T→Option (T×List T):=Zbu 2 [(0,1)] Zhg
theorem Zjk: SimX 2 [(0,1)] true Zeq Zer:=SimX.of (show SU [] [(0,1)] [2,3] [(0,1)] [(0,1)] true Zhf Zhg from(SU.seq (Zdu (i:=2) (O':=[2]) (S':=[(0,1)]) (Znf (k:=1000) (C:=fun e=>(Zc Zl (e) (Zk Za9 (Zb (Za 0) (Zb (Ze 3) Zd))))) (e:=(Zad (Zb (ZN (Str.ofString "under")) (Zb (ZN (Str.ofString "same")) (Zb (ZN (Str.ofString "even")) Zd))))) (Zdt (ZaS) (fun ρ v H=>rfl)) (Z7 (E.list (Zv (E.str _) (Zv (E.str _) (Zv (E.str _) ZF)))) (by decide)) (Zbv (k:=1001) (C:=fun e=>(Zc Zl (Za 1000) (e))) (e:=(Zk Za9 (Zb (Za 0) (Zb (Ze 3) Zd)))) (Zf8 (ZaS) (ZaZ (by decide))) (EX.call (b:=false) (xs:=[0]) (as:=[some 0,none]) (M:=[]) Zcm (XAs.slot (Zaf (Zo _) (by decide) XAs.nil))) (Z7 (E.flat (ZQ ZR (Zh 1000) (Zh 1001))) (by decide)) (by decide) (by decide)) (by decide) (by decide) (by decide) (by decide)) (by decide) (by decide)) (SU.seq (Zdu (i:=3) (O':=[2,3]) (S':=[(0,1)]) (EX.call (b:=false) (xs:=[0]) (as:=[some 0,none]) (M:=[1]) Zev (XAs.slot (Zaf (Zh 1) (by decide) XAs.nil))) (by decide) (by decide)) (SU.seq (Zbr (Zbp (Bt.val (Zy Zbo (Zh 2) (E.str _)))) (ZaN (O':=[2,3]) (S':=[(0,1)]) (Zbv (k:=1002) (C:=fun e=>(Z3 (Zb (Za 2) (Zb (Za 3) (Zb (Zc Z0 (Ze 2) (e)) Zd))))) (e:=(Zk Za9 (Zb (Za 0) (Zb (Ze 5) Zd)))) (Ct.tup (ZaG (ZaG (Cts.head (Zf8 (ZaS) Vl.int) (fun ρ v H=>rfl)) (ZaZ (by decide))) (ZaZ (by decide)))) (EX.call (b:=false) (xs:=[0]) (as:=[some 0,none]) (M:=[]) Zcm (XAs.slot (Zaf (Zo _) (by decide) XAs.nil))) (Z7 (E.tup (Z4 (E.own) (Z4 (E.own) (Z4 (Zc5 Zaz (Zo _) (Zh 1002)) ZF (by decide) (by decide)) (by decide) (by decide)) (by decide) (by decide))) (by decide)) (by decide) (by decide)) (by decide) (by decide)) SU.next) (ZaN (O':=[2,3]) (S':=[(0,1)]) (Z7 (E.tup (Z4 (E.own) (Z4 (E.own) ZF (by decide) (by decide)) (by decide) (by decide))) (by decide)) (by decide) (by decide)))))) (by decide) (by decide)
noncomputable def ZgV(F:List V→Hp→Option (V×Hp)): Sm:=Zp (ZdK (Zc Za7 (Zc Zl (Za 0) (Ze 2)) (Ze 1)) (Za 0) (Ze 2)) (Zp (Zu 5 (Zk Za9 (Zb (Za 0) (Zb (Ze 1000000) Zd)))) (Zp (ZE (ZaU (ZA (Zc oLt (Zc oMod (Za 5) (Ze 10)) (Ze 3))) (ZaU (ZA (Zc oLt (Za 4) (Ze 2))) Z5)) (Zp (Zu 6 (Zk Zeq (Zb (Za 0) (Zb (Zc Zl (Za 2) (Ze 1)) Zd)))) (Zp (Zu 7 (Zk F (Zb (Za 0) (Zb (Za 1) (Zb (Za 2) (Zb (Za 3) (Zb (Zc Z0 (Za 4) (Ze 1)) Zd))))))) (Zp (ZE (ZA (Zc oLt (Zc oMod (Za 5) (Ze 10)) (Ze 2))) (Zw (Z3 (Zb (ZN (Str.ofString "while")) (Zb (Za 6) (Zb (Za 7) Zd))))) ZV) (Zw (Z3 (Zb (ZN (Str.ofString "if")) (Zb (Za 6) (Zb (Za 7) (Zb (Zk F (Zb (Za 0) (Zb (Za 1) (Zb (Za 2) (Zb (Za 3) (Zb (Zc Z0 (Za 4) (Ze 1)) Zd)))))) Zd))))))))) ZV) (Zp (ZE (tOr (ZA (Zc oGt (Za 3) (Zc Zl (Za 2) (Ze 1)))) (tOr (ZA (Zc oEq (Zc oMod (Za 5) (Ze 10)) (Ze 2))) ZbR)) (Zw (Z3 (Zb (ZN (Str.ofString "say")) (Zb (Zk Zeq (Zb (Za 0) (Zb (Zc Zl (Za 2) (Ze 1)) Zd))) Zd)))) ZV) (Zw (Zk Zhd (Zb (Za 0) (Zb (Za 1) (Zb (Za 2) (Zb (Za 3) (Zb (Za 5) Zd))))))))))
noncomputable def Zfu(F:List V→Hp→Option (V×Hp)): List V→Hp→Option (V×Hp):=ZG 5 (ZgV F)
noncomputable def ZgW(P:List T→Option (T×List T)): PS:=(ZB (Zeb 0 1 false (Zj ZbA (Zj ZD (Zf 0) (Zn 2)) (Zn 1)) ZbJ (Zn 2)) (ZB (Zap 5 (Zah false [0] ZbN (Zg (Zf 0) (Zg (Zn 1000000) Zq)))) (ZB (Za8 (xB (ZbK (Z6 (Zj qLt (Zj Zas (Zf 5) (Zn 10)) (Zn 3))) (ZbK (Z6 (Zj qLt (Zf 4) (Zn 2))) Za1))) (ZB (Zap 6 (Zah false [0] Zer (Zg (Zf 0) (Zg (Zj ZD (Zf 2) (Zn 1)) Zq)))) (ZB (Zap 7 (Zah false [0] P (Zg (Zf 0) (Zg (Zf 1) (Zg (Zf 2) (Zg (Zf 3) (Zg (Zj Zaj (Zf 4) (Zn 1)) Zq))))))) (ZB (Za8 (xB (Z6 (Zj qLt (Zj Zas (Zf 5) (Zn 10)) (Zn 2)))) (Zax (xP (Zbm (Zg (ZaE (Str.ofString "while")) (Zg (Zf 6) (Zg (Zf 7) Zq)))))) Zam) (Zax (ZaP 1000 (Zah false [0] P (Zg (Zf 0) (Zg (Zf 1) (Zg (Zf 2) (Zg (Zf 3) (Zg (Zj Zaj (Zf 4) (Zn 1)) Zq)))))) (xP (Zbm (Zg (ZaE (Str.ofString "if")) (Zg (Zf 6) (Zg (Zf 7) (Zg (Zf 1000) Zq))))))))))) Zam) (ZB (Za8 (xB (bOr (Z6 (Zj qGt (Zf 3) (Zj ZD (Zf 2) (Zn 1)))) (bOr (Z6 (Zj qEq (Zj Zas (Zf 5) (Zn 10)) (Zn 2))) ZeX))) (Zax (ZaP 1001 (Zah false [0] Zer (Zg (Zf 0) (Zg (Zj ZD (Zf 2) (Zn 1)) Zq))) (xP (Zbm (Zg (ZaE (Str.ofString "say")) (Zg (Zf 1001) Zq)))))) Zam) (Zax (Zah false [0] ZfC (Zg (Zf 0) (Zg (Zf 1) (Zg (Zf 2) (Zg (Zf 3) (Zg (Zf 5) Zq)))))))))))
noncomputable def Zfv(P:List T→Option (T×List T)): List T→Option (T×List T):=Zbu 5 [(0,1)] (ZgW P)
theorem Zly{F:List V→Hp→Option (V×Hp)}{P:List T→Option (T×List T)}(ih:SimX 5 [(0,1)] true F P): SimX 5 [(0,1)] true (Zfu F) (Zfv P):=SimX.of (show SU [] [(0,1)] [] [(0,1)] [(0,1)] true (ZgV F) (ZgW P)from(SU.seq (SU.putS (x:=0) (d:=1) (own:=false) (O':=[]) (S':=[(0,1)]) (by decide) (by decide) (Zy ZbW (ZQ ZR (Zh 0) (Zo _)) (Zo _)) Zf7 (Zo _) (by decide) (by decide) (by decide)) (SU.seq (SU.set (i:=5) (O':=[]) (S':=[(0,1)]) (EX.call (b:=false) (xs:=[0]) (as:=[some 0,none]) (M:=[]) Zcm (XAs.slot (Zaf (Zo _) (by decide) XAs.nil)))) (SU.seq (Zbr (Zbp (Zcw (Bt.val (Zy Zei (Zy ZaD (Zh 5) (Zo _)) (Zo _))) (Zcw (Bt.val (Zy Zei (Zh 4) (Zo _))) Zb4))) (SU.seq (Zdu (i:=6) (O':=[6]) (S':=[(0,1)]) (EX.call (b:=false) (xs:=[0]) (as:=[some 0,none]) (M:=[2]) Zjk (XAs.slot (Zaf (ZQ ZR (Zh 2) (Zo _)) (by decide) XAs.nil))) (by decide) (by decide)) (SU.seq (Zdu (i:=7) (O':=[6,7]) (S':=[(0,1)]) (EX.call (b:=false) (xs:=[0]) (as:=[some 0,none,none,none,none]) (M:=[1,2,3,4]) ih (XAs.slot (Zaf (Zh 1) (by decide) (Zaf (Zh 2) (by decide) (Zaf (Zh 3) (by decide) (Zaf (ZaI Zaz (Zh 4) (Zo _)) (by decide) XAs.nil)))))) (by decide) (by decide)) (SU.seq (Zbr (Zbp (Bt.val (Zy Zei (Zy ZaD (Zh 5) (Zo _)) (Zo _)))) (ZaN (O':=[6,7]) (S':=[(0,1)]) (Z7 (E.tup (Z4 (E.str _) (Z4 (E.own) (Z4 (E.own) ZF (by decide) (by decide)) (by decide) (by decide)) (by decide) (by decide))) (by decide)) (by decide) (by decide)) SU.next) (ZaN (O':=[]) (S':=[(0,1)]) (Zbv (k:=1000) (C:=fun e=>(Z3 (Zb (ZN (Str.ofString "if")) (Zb (Za 6) (Zb (Za 7) (Zb (e) Zd)))))) (e:=(Zk F (Zb (Za 0) (Zb (Za 1) (Zb (Za 2) (Zb (Za 3) (Zb (Zc Z0 (Za 4) (Ze 1)) Zd))))))) (Ct.tup (ZaG (ZaG (ZaG (Cts.head (ZaS) (fun ρ v H=>rfl)) (ZaZ (by decide))) (ZaZ (by decide))) Vl.str)) (EX.call (b:=false) (xs:=[0]) (as:=[some 0,none,none,none,none]) (M:=[1,2,3,4]) ih (XAs.slot (Zaf (Zh 1) (by decide) (Zaf (Zh 2) (by decide) (Zaf (Zh 3) (by decide) (Zaf (ZaI Zaz (Zh 4) (Zo _)) (by decide) XAs.nil)))))) (Z7 (E.tup (Z4 (E.str _) (Z4 (E.own) (Z4 (E.own) (Z4 (E.own) ZF (by decide) (by decide)) (by decide) (by decide)) (by decide) (by decide)) (by decide) (by decide))) (by decide)) (by decide) (by decide)) (by decide) (by decide))))) SU.next) (SU.seq (Zbr (Zbp (Zd9 (Bt.val (Zy ZdM (Zh 3) (ZQ ZR (Zh 2) (Zo _)))) (Zd9 (Bt.val (Zy Zbo (Zy ZaD (Zh 5) (Zo _)) (Zo _))) Zh2))) (ZaN (O':=[]) (S':=[(0,1)]) (Zbv (k:=1001) (C:=fun e=>(Z3 (Zb (ZN (Str.ofString "say")) (Zb (e) Zd)))) (e:=(Zk Zeq (Zb (Za 0) (Zb (Zc Zl (Za 2) (Ze 1)) Zd)))) (Ct.tup (ZaG (Cts.head (ZaS) (fun ρ v H=>rfl)) Vl.str)) (EX.call (b:=false) (xs:=[0]) (as:=[some 0,none]) (M:=[2]) Zjk (XAs.slot (Zaf (ZQ ZR (Zh 2) (Zo _)) (by decide) XAs.nil))) (Z7 (E.tup (Z4 (E.str _) (Z4 (E.own) ZF (by decide) (by decide)) (by decide) (by decide))) (by decide)) (by decide) (by decide)) (by decide) (by decide)) SU.next) (ZaN (O':=[]) (S':=[(0,1)]) (EX.call (b:=false) (xs:=[0]) (as:=[some 0,none,none,none,none]) (M:=[1,2,3,5]) ZlI (XAs.slot (Zaf (Zh 1) (by decide) (Zaf (Zh 2) (by decide) (Zaf (Zh 3) (by decide) (Zaf (Zh 5) (by decide) XAs.nil)))))) (by decide) (by decide))))))) (by decide) (by decide)
noncomputable def Zht(F:List V→Hp→Option (V×Hp)): Sm:=Zp (Zu 5 (Zad Zd)) (Zp (ZaC (ZaY (Zb (Zc Za7 (Zc Z0 (Zk Za9 (Zb (Za 0) (Zb (Ze 4) Zd))) (Ze 1)) (Zk ZdF (Zb (Ze 1) (Zb (Za 4) Zd)))) Zd)) (ZK 6) (ZE (ZA (Zc oGt (Zc Zl (Za 0) (Ze 2)) (Ze 0))) (ZP (Zau (Za 5) (Zk (Zfu F) (Zb (Za 0) (Zb (Za 1) (Zb (Za 2) (Zb (Za 3) (Zb (Za 4) Zd)))))))) ZV)) (Zw (Za 5)))
noncomputable def Zdj: Nat→List V→Hp→Option (V×Hp)
 | 0=>fun _ _=>none
 | n+1=>ZG 5 (Zht (Zdj n))
noncomputable def Zdl: List V→Hp→Option (V×Hp):=Zdj 9
noncomputable def ZfM(P:List T→Option (T×List T)): PS:=(ZB (Zap 5 (xP (Zbt Zq))) (ZB (ZgG 1001 (ZaP 1002 (Zah false [0] ZbN (Zg (Zf 0) (Zg (Zn 4) Zq))) (xP (Zj ZbA (Zj Zaj (Zf 1002) (Zn 1)) (ZW ZgB (Zg (Zn 1) (Zg (Zf 4) Zq)))))) (ZbG (Zg (Zf 1001) Zq)) (ZaJ 6) (Za8 (xB (Z6 (Zj qGt (Zj ZD (Zf 0) (Zn 2)) (Zn 0)))) (Zda 1000 (Zah false [0] (Zfv P) (Zg (Zf 0) (Zg (Zf 1) (Zg (Zf 2) (Zg (Zf 3) (Zg (Zf 4) Zq)))))) (Zek 5 [1000] ZbJ (Zf 1000))) Zam)) (Zax (xP (Zf 5)))))
noncomputable def Zes: Nat→List T→Option (T×List T)
 | 0=>fun _=>none
 | n+1=>Zbu 5 [(0,1)] (ZfM (Zes n))
noncomputable def Zjr: List T→Option (T×List T):=Zes 9
theorem Zjl: ∀n:Nat,SimX 5 [(0,1)] true (Zdj n) (Zes n)
 | 0=>SimX.zero
 | n+1=>by
  have ih:=Zjl n
  exact SimX.of (show SU [] [(0,1)] [5] [(0,1)] [(0,1)] true (Zht (Zdj n)) (ZfM (Zes n))from(SU.seq (Zdu (i:=5) (O':=[5]) (S':=[(0,1)]) (Z7 (E.list ZF) (by decide)) (by decide) (by decide)) (SU.seq (Zoh (k:=1001) (g:=fun e=>ZaY (Zb e Zd)) (e:=(Zc Za7 (Zc Z0 (Zk Za9 (Zb (Za 0) (Zb (Ze 4) Zd))) (Ze 1)) (Zk ZdF (Zb (Ze 1) (Zb (Za 4) Zd))))) (Cg.range (Cts.head ZaS (fun ρ v H=>rfl))) (Zbv (k:=1002) (C:=fun e=>(Zc Za7 (Zc Z0 (e) (Ze 1)) (Zk ZdF (Zb (Ze 1) (Zb (Za 4) Zd))))) (e:=(Zk Za9 (Zb (Za 0) (Zb (Ze 4) Zd)))) (Zdt (Zdt (ZaS) (fun ρ v H=>rfl)) (fun ρ v H=>rfl)) (EX.call (b:=false) (xs:=[0]) (as:=[some 0,none]) (M:=[]) Zcm (XAs.slot (Zaf (Zo _) (by decide) XAs.nil))) (Z7 (Zy ZbW (ZaI Zaz (Zh 1002) (Zo _)) (ZbE ZoW (Zv (Zo _) (Zv (Zh 4) ZF)))) (by decide)) (by decide) (by decide)) (Gs.range (Zv (Zh 1001) ZF)) (by decide) (PutOk.one (j:=6)) PutK.one (by decide) (Zbr (Zbp (Bt.val (Zy ZdM (ZQ ZR (Zh 0) (Zo _)) (Zo _)))) (Zf9 (k:=1000) (K:=fun e=>ZP (Zau (Za 5) (e))) (e:=(Zk (Zfu (Zdj n)) (Zb (Za 0) (Zb (Za 1) (Zb (Za 2) (Zb (Za 3) (Zb (Za 4) Zd))))))) (Zgn (Ct.append (ZaS) (ZaZ (by decide)))) Ze0 (EX.call (b:=false) (xs:=[0]) (as:=[some 0,none,none,none,none]) (M:=[1,2,3,4]) (Zly ih) (XAs.slot (Zaf (Zh 1) (by decide) (Zaf (Zh 2) (by decide) (Zaf (Zh 3) (by decide) (Zaf (Zh 4) (by decide) XAs.nil)))))) (Zkv (x:=5) (N:=[1000]) (O':=[5]) (by decide) ZkY (Zln (O':=[1000]) (E.own)) (by decide) (by decide) (by decide)) (by decide) (by decide)) SU.next)) (ZaN (O':=[5]) (S':=[(0,1)]) (Z7 (E.own) (by decide)) (by decide) (by decide))))) (by decide) (by decide)
theorem ZlM: SimX 5 [(0,1)] true Zdl Zjr:=Zjl 9
noncomputable def Zg1: Sm:=Zp (Zu 1 (Zad Zd)) (Zp (Zu 2 (Zk Za9 (Zb (Za 0) (Zb (Ze 2) Zd)))) (Zp (ZaC (ZaY (Zb (Zc Z0 (Za 2) (Ze 1)) Zd)) (ZK 3) (Zp (Zu 4 (Zk Za9 (Zb (Za 0) (Zb (Ze 1000) Zd)))) (Zp (Zu 5 (Zad (Zb (Zc oMod (Zc oDiv (Za 4) (Ze 3)) (Zc Z0 (Ze 2) (Zc oMod (Za 4) (Ze 3)))) (Zb (Zc Z0 (Ze 1) (Zc oMod (Za 4) (Ze 3))) Zd)))) (Zp (Zu 6 (Ze 1)) (Zp (ZE (ZA (Zc oLt (Za 3) (Za 2))) (Zu 6 (Zc Z0 (Zc Zl (Za 5) (Ze 0)) (Ze 1))) (ZdK (Zc Z0 (Zc Zl (Za 0) (Ze 2)) (Ze 7)) (Za 0) (Ze 2))) (ZP (Zau (Za 1) (Z3 (Zb (Zc Zl (Za 5) (Ze 0)) (Zb (Zc Zl (Za 5) (Ze 1)) (Zb (Zk Zdl (Zb (Za 0) (Zb (Zk Zbx (Zb (Za 1) Zd)) (Zb (Za 5) (Zb (Za 6) (Zb (Zk Zdb (Zb (Zc oLt (Za 3) (Za 2)) Zd)) Zd)))))) Zd))))))))))) (Zw (Za 1))))
noncomputable def Zg2:=ZG 1 Zg1
noncomputable def Zg3: PS:=(ZB (ZbL 1 (Zbt Zq)) (ZB (Zap 2 (Zah false [0] ZbN (Zg (Zf 0) (Zg (Zn 2) Zq)))) (ZB (ZcT (ZbG (Zg (Zj Zaj (Zf 2) (Zn 1)) Zq)) (ZaJ 3) (ZB (Zap 4 (Zah false [0] ZbN (Zg (Zf 0) (Zg (Zn 1000) Zq)))) (ZB (Zap 5 (xP (Zbt (Zg (Zj Zas (Zj ZbB (Zf 4) (Zn 3)) (Zj Zaj (Zn 2) (Zj Zas (Zf 4) (Zn 3)))) (Zg (Zj Zaj (Zn 1) (Zj Zas (Zf 4) (Zn 3))) Zq))))) (ZB (Zap 6 (xP (Zn 1))) (ZB (Za8 (xB (Z6 (Zj qLt (Zf 3) (Zf 2)))) (Zap 6 (xP (Zj Zaj (Zj ZD (Zf 5) (Zn 0)) (Zn 1)))) (Zeb 0 1 false (pFl (Zj Zaj (Zj ZD (Zf 0) (Zn 2)) (Zn 7))) ZbJ (Zn 2))) (Zda 1000 (xP (ZbV (Zj ZD (Zf 5) (Zn 0)))) (Zda 1001 (xP (ZbV (Zj ZD (Zf 5) (Zn 1)))) (Zda 1002 (ZaP 1003 (xP (ZW Zk9 (Zg (Zf 1) Zq))) (Zah false [0] Zjr (Zg (Zf 0) (Zg (Zf 1003) (Zg (Zf 5) (Zg (Zf 6) (Zg (ZW Zi0 (Zg (Zj qLt (Zf 3) (Zf 2)) Zq)) Zq))))))) (ZgF 1 1 false ZbJ (Zbm (Zg (Zf 1000) (Zg (Zf 1001) (Zg (Zf 1002) Zq))))))))))))) (Zax (xP (Zf 1))))))
noncomputable def Zfz: List T→Option (T×List T):=Zbu 1 [(0,1)] Zg3
theorem ZlA: SimX 1 [(0,1)] false Zg2 Zfz:=SimX.of (show SU [] [(0,1)] [] [(1,1),(0,1)] [(0,1)] false Zg1 Zg3 from(SU.seq (Zku (i:=1) (O':=[]) (S':=[(0,1)]) ZF (by decide) (by decide) (by decide) (by decide)) (SU.seq (SU.set (i:=2) (O':=[]) (S':=[(1,1),(0,1)]) (EX.call (b:=false) (xs:=[0]) (as:=[some 0,none]) (M:=[]) Zcm (XAs.slot (Zaf (Zo _) (by decide) XAs.nil)))) (SU.seq (Zk8 (Gs.range (Zv (ZaI Zaz (Zh 2) (Zo _)) ZF)) (PutOk.one (j:=3)) PutK.one (by decide) (by decide) (SU.seq (SU.set (i:=4) (O':=[]) (S':=[(1,1),(0,1)]) (EX.call (b:=false) (xs:=[0]) (as:=[some 0,none]) (M:=[]) Zcm (XAs.slot (Zaf (Zo _) (by decide) XAs.nil)))) (SU.seq (SU.set (i:=5) (O':=[]) (S':=[(1,1),(0,1)]) (Z7 (E.list (Zv (Zy ZaD (Zy ZcB (Zh 4) (Zo _)) (ZaI Zaz (Zo _) (Zy ZaD (Zh 4) (Zo _)))) (Zv (ZaI Zaz (Zo _) (Zy ZaD (Zh 4) (Zo _))) ZF))) (by decide))) (SU.seq (SU.set (i:=6) (O':=[]) (S':=[(1,1),(0,1)]) (Z7 (Zo _) (by decide))) (SU.seq (Zbr (Zbp (Bt.val (Zy Zei (Zh 3) (Zh 2)))) (SU.set (i:=6) (O':=[]) (S':=[(1,1),(0,1)]) (Z7 (ZaI Zaz (ZQ ZR (Zh 5) (Zo _)) (Zo _)) (by decide))) (SU.putS (x:=0) (d:=1) (own:=false) (O':=[]) (S':=[(1,1),(0,1)]) (by decide) (by decide) (Zc5 Zaz (ZQ ZR (Zh 0) (Zo _)) (Zo _)) Zf7 (Zo _) (by decide) (by decide) (by decide))) (Zf9 (k:=1000) (K:=fun e=>ZP (Zau (Za 1) (Z3 (Zb (e) (Zb (Zc Zl (Za 5) (Ze 1)) (Zb (Zk Zdl (Zb (Za 0) (Zb (Zk Zbx (Zb (Za 1) Zd)) (Zb (Za 5) (Zb (Za 6) (Zb (Zk Zdb (Zb (Zc oLt (Za 3) (Za 2)) Zd)) Zd)))))) Zd)))))) (e:=(Zc Zl (Za 5) (Ze 0))) (Zgn (Ct.append (Ct.tup (Cts.head (ZaS) (fun ρ v H=>rfl))) (ZaZ (by decide)))) Ze0 (Z7 (E.flat (ZQ ZR (Zh 5) (Zo _))) (by decide)) (Zf9 (k:=1001) (K:=fun e=>ZP (Zau (Za 1) (Z3 (Zb (Za 1000) (Zb (e) (Zb (Zk Zdl (Zb (Za 0) (Zb (Zk Zbx (Zb (Za 1) Zd)) (Zb (Za 5) (Zb (Za 6) (Zb (Zk Zdb (Zb (Zc oLt (Za 3) (Za 2)) Zd)) Zd)))))) Zd)))))) (e:=(Zc Zl (Za 5) (Ze 1))) (Zgn (Ct.append (Ct.tup (ZaG (Cts.head (ZaS) (fun ρ v H=>rfl)) (ZaZ (by decide)))) (ZaZ (by decide)))) Ze0 (Z7 (E.flat (ZQ ZR (Zh 5) (Zo _))) (by decide)) (Zf9 (k:=1002) (K:=fun e=>ZP (Zau (Za 1) (Z3 (Zb (Za 1000) (Zb (Za 1001) (Zb (e) Zd)))))) (e:=(Zk Zdl (Zb (Za 0) (Zb (Zk Zbx (Zb (Za 1) Zd)) (Zb (Za 5) (Zb (Za 6) (Zb (Zk Zdb (Zb (Zc oLt (Za 3) (Za 2)) Zd)) Zd))))))) (Zgn (Ct.append (Ct.tup (ZaG (ZaG (Cts.head (ZaS) (fun ρ v H=>rfl)) (ZaZ (by decide))) (ZaZ (by decide)))) (ZaZ (by decide)))) Ze0 (ZmC (k:=1003) (C:=fun e=>(Zk Zdl (Zb (Za 0) (Zb (e) (Zb (Za 5) (Zb (Za 6) (Zb (Zk Zdb (Zb (Zc oLt (Za 3) (Za 2)) Zd)) Zd))))))) (e:=(Zk Zbx (Zb (Za 1) Zd))) (Ct.call (ZaG (Cts.head (ZaS) (fun ρ v H=>rfl)) (ZaZ (by decide)))) (Znn (x:=1) (by decide)) (EX.call (b:=false) (xs:=[0]) (as:=[some 0,none,none,none,none]) (M:=[1003,5,6]) ZlM (XAs.slot (Zaf (Zh 1003) (by decide) (Zaf (Zh 5) (by decide) (Zaf (Zh 6) (by decide) (Zaf (ZbE ZpF (Zv (Zy Zei (Zh 3) (Zh 2)) ZF)) (by decide) XAs.nil)))))) (by decide) (by decide) (by decide)) (Zog (x:=1) (d:=1) (own:=false) (O':=[]) (S':=[(1,1),(0,1)]) (by decide) (by decide) Zf7 (E.tup (Zv (Zh 1000) (Zv (Zh 1001) (Zv (Zh 1002) ZF)))) (by decide) (by decide) (by decide)) (by decide) (by decide)) (by decide) (by decide)) (by decide) (by decide))))))) (Zpv (O0:=[]) (S0:=[(0,1)]) (SU.ret (O':=[]) (S':=[(1,1),(0,1)]) (Z7 (Zh 1) (by decide)) (by decide)) (by decide) (by decide)))))) (by decide) (by decide)
end L
end
section
open PySem PySem.W PyProof.Rows PM TM My
local macro_rules|`(tactic|tm_at "r")=>`(tactic|first|(with_reducible assumption)|(with_reducible exact ZhS)|(((with_reducible apply Zkq);decide;tm_at "r"))|(((with_reducible apply Zj6);decide;tm_at "r"))|(exact rfl)|(assumption))
local macro_rules|`(tactic|walk_at "r")=>`(tactic|first | tm_at "r" | fail)
local macro_rules|`(tactic|tm_at "y")=>`(tactic|first|(rfl)|((with_reducible assumption))|((simp only[Bool.not_eq_true',Bool.not_eq_false',decide_eq_true_eq,decide_eq_false_iff_not,beq_iff_eq,beq_eq_false_iff_ne,ne_eq,Bool.not_true,Bool.not_false,not_false_eq_true,not_true_eq_false,bne_iff_ne,Decidable.not_not,List.length_map] <;> first | done | omega | assumption)))
local macro_rules|`(tactic|walk_at "y")=>`(tactic|first | tm_at "y" | fail)
local macro_rules|`(tactic|tm_at "f")=>`(tactic|first|(rfl)|(exact flat_oT)|(exact flat_prT)|(exact ZhJ fun i hi=>by(first | rfl | exact flat_oT | exact flat_prT)))
local macro_rules|`(tactic|walk_at "f")=>`(tactic|first | tm_at "f" | fail)
local macro_rules|`(tactic|tm_at "o")=>`(tactic|first|(with_reducible first|refine Zpg ?_|refine Zph ?_|refine Zpi ?_|refine Zp6 ?_|refine tk_le ?_|refine Zp7 ?_|refine tk_ge ?_|refine Zpk ?_|refine Zpl ?_|refine Zpm ?_|refine Zp8 ?_|refine tk_ne ?_|refine tk_eqb ?_|refine Zpn ?_|refine Zpo ?_|refine Zpp ?_|refine tk_isl ?_|refine tk_ist ?_|refine tk_notn ?_|refine tk_noti ?_|refine tk_notl ?_|refine tk_nott ?_|refine Zn5 ?_|refine Zpq ?_|refine tk_lent ?_)|(((with_reducible apply Zn6);(first | assumption | omega)))|(((with_reducible apply Zn7);(first | decide | omega);(first | decide | omega)))|(((with_reducible apply Zn8);(first | decide | omega);rfl))|(((with_reducible apply ZbP);(first | decide | omega);rfl))|(((with_reducible apply tk_addC);omega))|(with_reducible first|refine Znb ?_|refine tk_list1t ?_|refine Zn9 ?_|refine tk_all ?_|refine tk_any ?_)|(((with_reducible apply Zpj);(first | decide | omega))))
local macro_rules|`(tactic|walk_at "o")=>`(tactic|first | tm_at "o" | fail)
local macro_rules|`(tactic|tm_at "1")=>`(tactic|first|(with_reducible first|refine Zo3 ?_|refine Zp3 ?_|refine ZnX ?_|refine Zo4 ?_|refine Zo5 ?_|refine ZnY ?_|refine ZnW ?_|refine ZnZ ?_|refine Zp4 ?_|refine tk_if ?_|refine tk_not ?_|refine Zo6 ?_|refine tk_or ?_|refine Zp5 ?_|refine Zo7 ?_|refine Zn0 ?_|refine Zn1 ?_|refine Zna ?_|refine Zn2 ?_|refine Zo8 ?_|refine Zmd ?_|refine tk_truth_n ?_|refine Zn3 ?_|refine Zo9 ?_|refine Zpa ?_|refine tk_exp ?_|refine Zpb ?_|refine Zpc ?_|refine Zo0 ?_|refine Zo1 ?_|refine tk_bool ?_|refine Zo2 ?_)|(((with_reducible apply ZkZ);tm_at "r"))|(((with_reducible apply Zpe);tm_at "y"))|(((with_reducible apply Zpf);tm_at "y"))|(((with_reducible apply Zpd);rfl))|((refine And.intro (show isObT _=false from rfl) ?_))|((refine And.intro (show T.flat _ = true by walk_at "f") ?_))|((refine And.intro (show T.flatIn _ = true by walk_at "f") ?_))|(with_reducible first|refine tk_seqT ?_|refine Sq.lst ?_|refine Sq.tup ?_|refine Zj5 ?_)|(((with_reducible apply Rn.one);omega))|(with_reducible first|refine Zk2 ?_|refine tk_enum ?_|refine EnP.tab ?_|refine tk_chain ?_|refine Zi.eq ?_|refine Zi.mn ?_|refine tk_app ?_|refine tk_appM ?_|refine tk_put ?_|refine tk_put2 ?_)|(((with_reducible apply AppP.of);tm_at "r";(first | (rw[Zaw];omega) | (simp;done))))|(((with_reducible apply AppQ.of);tm_at "r";(first | (rw[Zaw];omega) | (simp;done))))|(((with_reducible apply PutP.tab);tm_at "r";(first | assumption | omega)))|(((with_reducible apply Put2.tab);tm_at "r";(first | assumption | omega);(first | assumption | omega)))|(tm_at "o"))
local macro_rules|`(tactic|walk_at "1")=>`(tactic|first | tm_at "1" | fail)
local macro_rules|`(tactic|tm_at "tr")=>`(tactic|first|(with_reducible assumption)|(with_reducible first|exact ZhS|exact ZmA)|(((with_reducible apply Zkq);decide;tm_at "tr"))|(((with_reducible apply Zop);decide;tm_at "tr"))|(((with_reducible apply Zmg);decide;tm_at "tr"))|(((with_reducible apply Znk);tm_at "tr"))|(((with_reducible apply Zj6);decide;tm_at "tr"))|(exact rfl)|(assumption))
local macro_rules|`(tactic|walk_at "tr")=>`(tactic|first | tm_at "tr" | fail)
local macro_rules|`(tactic|tm_at "t1")=>`(tactic|first|(with_reducible first|refine ZiI ?_|refine Zpy ?_|refine Zpx ?_|refine Zqa ?_|refine Zpz ?_|refine Zoj ?_|refine Zok ?_|refine Znh ?_|refine Zql ?_|refine Zqm ?_|refine tx_val ?_|refine tx_not ?_|refine tx_and ?_|refine tx_or ?_|refine Zoi ?_|refine Zng ?_|refine tx_callT ?_|refine Znj ?_)|(((with_reducible apply Zoo);tm_at "tr"))|(((with_reducible refine Zol ?hd ?h);(case hd=>decide)))|(((with_reducible refine Zom ?hd ?h);(case hd=>decide)))|(with_reducible first|refine ZpA ?_|refine tx_put ?_)|(((with_reducible apply ZkZ);tm_at "tr"))|(((with_reducible apply ZpC);rfl))|(tm_at "1"))
local macro_rules|`(tactic|walk_at "t1")=>`(tactic|first | tm_at "t1" | fail)
local macro_rules|`(tactic|walk_at "z")=>`(tactic|repeat' (first | tm_at "1" | fail))
local macro_rules|`(tactic|walk_at "tz")=>`(tactic|repeat' (first | tm_at "t1" | fail))
namespace L
open PySem PySem.W PyProof.Rows PM TM My
variable {a b e:Int} {n:Nat} {t:T} {ts:List T}
noncomputable def Zed(ns:List Int): T:=.lst (ns.map T.int)
noncomputable def Zcl(ns:List Int): Prop:=PyData.layable0 (.list (ns.map .int))=true
noncomputable def Zay(ns:List Int)(p:Nat)(r:Int): T:=.lst [Zed ns,.int p,.int r]
theorem Znq{ns:List Int}: (ns.map T.int).length=ns.length:=by simp
theorem ZmE{ns:List Int}(hL:Zcl ns): Cell 0:=by
 have:=cell_at hL (ns.length:Int)
 rw[cellAt_def]at this
 simpa using this
section
variable {Q:T→Prop}
theorem Zqb(h:Q (.int M5)): Pk (ZcR (.int 48271) (.int 14)) Q:=by
 have:=ZpY []
 simp only[oPow]at this
 split at this
 ·rename_i hc
  refine⟨_,by simp only[ZcR];rw[if_pos hc],?_⟩
  simp only[Option.some.injEq,Prod.mk.injEq,V.int.injEq,and_true]at this
  rw[this];exact h
 ·first|exact Zx0 this|cases this
theorem Zlt(h:Q (.int T60)): Pk (ZcR (.int 10) (.int 60)) Q:=by
 have:=ZoS []
 simp only[oPow]at this
 split at this
 ·rename_i hc
  refine⟨_,by simp only[ZcR];rw[if_pos hc],?_⟩
  simp only[Option.some.injEq,Prod.mk.injEq,V.int.injEq,and_true]at this
  rw[this];exact h
 ·first|exact Zx0 this|cases this
theorem Zou(h1:-(2 ^ 64)<b)(h2:b<2 ^ 64)(h:Q (.int (a*b))): Pk (ZbC (.int a) (.int b)) Q:=ZiH (Zmv h1 h2) h
theorem ZpJ{a b:Str}(h:a≠b): T.str a≠T.str b:=fun e=>h (by cases e;rfl)
theorem ZcO{a:Str}(ha:PyData.strOk a=true)(h:Q (.bool true)): Pk (qEq (.str a) (.str a)) Q:=Zk4 (n:=1) (m:=1) (.str ha) (.str ha) (by rw[Zlp rfl];exact h)
theorem Za6{a b:Str}(hab:(PyData.strOk a && PyData.strOk b && decide (a≠b))=true)(h:Q (.bool false)): Pk (qEq (.str a) (.str b)) Q:=by
 simp only[Bool.and_eq_true,decide_eq_true_eq]at hab
 exact Zk4 (n:=1) (m:=1) (.str hab.1.1) (.str hab.1.2) (by rw[ZiY (ZpJ hab.2)];exact h)
theorem ZbF(h1:0<b)(h2:b<2 ^ 30)(h:Q (.int (a.fdiv b))): Pk (ZbB (.int a) (.int b)) Q:=Zk0 (by omega) (PyProof.noPylong_small (by omega)) h
theorem Zix(h1:-(2 ^ 64)<a)(h2:a<2 ^ 64)(h:Q (.int (a*b))): Pk (ZbC (.int a) (.int b)) Q:=ZiH (Zmb h1 h2) h
end
section
variable {ns:List Int} {p:Nat} {r:Int} {Q:T→List T→Prop}
theorem ZkD(hL:Zcl ns)(h:∀v,Cell v→Q (.int v) [Zay ns (p+1) r]): Pr (ZeD [Zay ns p r]) Q:=by
 unfold ZeD ZhL Zay Zed
 have hl:(ns.map T.int).length=ns.length:=Znq
 walk_at "tz"
 refine⟨_,1,rfl,rfl,by decide,(by simp),?_⟩
 show Psx (ZB _ _ (ZC _ 0 (T.lst [T.lst (List.map T.int ns),T.int ((p:Int)+1),T.int r]))) _ _
 walk_at "tz"
 rw[hl]
 refine⟨fun c=>?_,fun c=>?_⟩
 ·walk_at "tz"
  exact h 0 (ZmE hL)
 ·have c:=of_decide_eq_false c
  have hp:p<ns.length:=by omega
  walk_at "tz"
  refine ZbP (t:=.int (cellAt ns p 0)) (by omega) ?_ ?_
  ·rw[show((p:Int)+1-1).toNat=p by omega,List.getElem?_map,Zy1 hp,cellAt_def]
   simp only[Zs1,T.int.injEq,Option.some.injEq]
   rw[List.getD_eq_getElem?_getD,show((p:Int)).toNat=p by omega,Zy1 hp]
   rfl
  walk_at "tz"
  exact h _ (cell_at hL _)
theorem Zcs{m:Int}(hL:Zcl ns)(hm:0<m)(h:∀v,0≤v→v<m→Q (.int v) [Zay ns (p+1) r]): Pr (ZbN [Zay ns p r,.int m]) Q:=by
 unfold ZbN Zhi
 walk_at "tz"
 refine(ZkD hL fun v hv=>?_)
 walk_at "tz"
 refine Zou (by decide) (by decide) ?_
 walk_at "tz"
 exact h _ (Int.fmod_nonneg_of_pos _ hm) (Int.fmod_lt_of_pos _ hm)
end
inductive Nice: Nat→T→Prop where
 | none {n:Nat}:Nice n .none
 | bool {n:Nat} (b:Bool):Nice n (.bool b)
 | int {n:Nat} (i:Int):Nice n (.int i)
 | str {n:Nat} {s:Str}:PyData.strOk s=true→Nice n (.str s)
 | tup {n:Nat} {ts:List T}:ts.length≤1000→(∀t∈ts,Nice n t)→Nice (n+1) (.tup ts)
 | lst {n:Nat} {ts:List T}:ts.length≤1000→(∀t∈ts,Nice n t)→Nice (n+1) (.lst ts)
theorem Nice.mono{m:Nat}(h:Nice n t)(k:n≤m): Nice m t:=by
 induction h generalizing m with
 | none=>exact .none
 | bool b=>exact .bool b
 | int i=>exact .int i
 | str h=>exact .str h
 | tup h1 h2 ih=>
  match m,k with
  | m+1,k=>exact .tup h1 fun t ht=>ih t ht (by omega)
 | lst h1 h2 ih=>
  match m,k with
  | m+1,k=>exact .lst h1 fun t ht=>ih t ht (by omega)
theorem ZjR{f:Nat→T}(h:t∈tab n f): ∃i,i<n∧f i=t:=by
 simp only[tab,List.mem_map,List.mem_range]at h
 obtain⟨i,a,b⟩:=h
 exact⟨i,a,b⟩
theorem nl0: ∀t∈([]:List T),Nice n t:=fun t h=>(List.not_mem_nil h).elim
theorem Z2(h:Nice n t)(k:∀t∈ts,Nice n t): ∀u∈t::ts,Nice n u:=fun u m=>by
 rcases Zz7.mp m with rfl | m
 ·exact h
 ·exact k u m
section
variable {ns:List Int} {p:Nat} {r:Int} {Q:T→List T→Prop}
end
noncomputable def iF: Str:=Str.ofString "if"
noncomputable def wH: Str:=Str.ofString "while"
noncomputable def ZcV(t:T): Prop:=Nice 3 t∧∃w rest,t=.tup (.str w::rest)∧(PyData.strOk w && PyData.strOk iF && decide (w≠iF))=true∧(PyData.strOk w && PyData.strOk wH && decide (w≠wH))=true
section
variable {ns:List Int} {p:Nat} {r:Int} {Q:T→List T→Prop}
end
noncomputable def ifT(c:T)(a b:List T): T:=.tup [.str iF,c,.lst a,.lst b]
noncomputable def whT(c:T)(a:List T): T:=.tup [.str wH,c,.lst a]
inductive Bs(S:Nat→T→Prop): Nat→List T→Prop where
 | nil:Bs S 0 []
 | cons {k m:Nat} {t:T} {ts:List T}:S k t→Bs S m ts→Bs S (k+m) (t::ts)
noncomputable def St: Nat→Nat→T→Prop
 | 0=>fun k t=>k=1∧ZcV t
 | n+1=>fun k t=>(k=1∧ZcV t)∨(∃c a b ka kb,t=ifT c a b∧Nice 2 c∧Bs (St n) ka a∧Bs (St n) kb b∧a.length≤4∧b.length≤4∧k=ka+kb+1)∨(∃c a ka,t=whT c a∧Nice 2 c∧Bs (St n) ka a∧a.length≤4∧k=ka+1)
theorem St.plain(h:ZcV t): St n 1 t:=by
 cases n with
 | zero=>exact⟨rfl,h⟩
 | succ n=>exact .inl ⟨rfl,h⟩
section
variable {ns:List Int} {p:Nat} {r:Int} {Q:T→List T→Prop}
end
theorem ZfR{σ:TL}{j:Nat}{F:List T→Option T}{g:PE}{Q:T→Prop}(hg:ZcS g σ=some ts)(hl:ts.length≤1000)(h:∀t∈ts,F [t]=some t)(q:Q (.lst ts)): Pk (Zbk (ZcS g) (ZaJ j) Za1 (ZW F (Zg (Zf j) Zq)) σ) Q:=by
 refine⟨.lst ts,?_,q⟩
 have:=ZhR (σ:=σ) (j:=j) (f:=ZW F (Zg (Zf j) Zq)) (h:=fun t=>t) (ts:=ts) fun t m=>by
  simp only[ZW,Zg,Zf,Zq,ZhS,Zs0,Zs1]
  exact h t m
 simp only[Zbk,hg,Zs0,this]
 rw[if_pos (by rw[Zab];omega)]
 simp
theorem Zmi(h:Nice n t): Zdp (n+1) [t]=some t:=by
 induction h with
 | none=>rfl
 | bool b=>rfl
 | int i=>rfl
 | str h=>rfl
 | @tup n ts hl hs ih=>
  apply Pk.eq
  show Pk (ZaV 1 (ZdZ (Zdp (n+1))) [.tup ts]) _
  unfold ZdZ
  walk_at "z"
  refine ZfR (ts:=ts) rfl hl ih ?_
  walk_at "z"
  rfl
 | @lst n ts hl hs ih=>
  apply Pk.eq
  show Pk (ZaV 1 (ZdZ (Zdp (n+1))) [.lst ts]) _
  unfold ZdZ
  walk_at "z"
  exact ZfR (ts:=ts) rfl hl ih rfl
theorem ZmF(h:Nice n t): Zdh (n+1) [t]=some t:=by
 induction h with
 | none=>rfl
 | bool b=>rfl
 | int i=>rfl
 | str h=>rfl
 | @tup n ts hl hs ih=>
  apply Pk.eq
  show Pk (ZaV 1 (ZdS (Zdh (n+1))) [.tup ts]) _
  unfold ZdS
  walk_at "z"
  refine ZfR (ts:=ts) rfl hl ih ?_
  walk_at "z"
  rfl
 | @lst n ts hl hs ih=>
  apply Pk.eq
  show Pk (ZaV 1 (ZdS (Zdh (n+1))) [.lst ts]) _
  unfold ZdS
  walk_at "z"
  exact ZfR (ts:=ts) rfl hl ih rfl
theorem ZjA(h:Nice 23 t): Ziq [t]=some t:=Zmi h
theorem ZjS(h:Nice 23 t): ZfE [t]=some t:=ZmF h
theorem eqB_bool(a b:Bool): ZbZ (.bool a) (.bool b)=some (a == b):=by
 cases a <;> cases b <;> decide +kernel
theorem ZhW{S:T→Option T}: ∀{ts:List T},(∀t∈ts,∃u,Zd2 S t=some u)→∃us,Zd3 S ts=some us
 | [],_=>⟨[],rfl⟩
 | t::ts,h=>by
  obtain⟨u,e⟩:=h t Zz5
  obtain⟨us,e2⟩:=ZhW (ts:=ts) fun t m=>h t (Zz2 _ m)
  exact⟨u::us,by simp only[Zd3,e,e2,Zs0,Zs1]⟩
theorem Znr(h:Nice n t): ∃u,Zd2 (ZbS n) t=some u:=by
 induction h with
 | none=>exact⟨_,rfl⟩
 | bool b=>exact⟨_,rfl⟩
 | int i=>exact⟨_,rfl⟩
 | str h=>exact⟨_,rfl⟩
 | @tup n ts hl hs ih=>
  obtain⟨us,e⟩:=ZhW (S:=ZbS n) ih
  exact⟨.tup us,by simp only[Zd2,ZbS,e,Zs1]⟩
 | @lst n ts hl hs ih=>
  obtain⟨us,e⟩:=ZhW (S:=ZbS n) ih
  exact⟨.lst (us++[.int 7]),by simp only[Zd2,ZbS,e,Zs1];rw[if_pos (by omega)]⟩
theorem Zkb{Q:T→List T→Prop}(h:Nice 24 (.lst ts))(k:∀u,Q .none [u]): Pr (Zez [.lst ts]) Q:=by
 obtain⟨u,e⟩:=Znr h
 have e:ZbS 24 (.lst ts)=some u:=e
 exact⟨.none,[u],by simp only[Zez,e,Zs1],k u⟩
noncomputable def goT: T:=.tup [.str (Str.ofString "go")]
noncomputable def ZaK(c:T)(b:Bool): T:=.tup [.str (Str.ofString "when"),c,.bool b]
noncomputable def rowT(a:Int)(t:T)(b:Int): T:=.tup [.int a,t,.int b]
inductive LyB(L:T→Int→List T→Int→Prop): List T→Int→List T→Int→Prop where
 | nil {u:Int}:LyB L [] u [] u
 | cons {t:T} {ts:List T} {u e e':Int} {r r':List T}:L t u r e→LyB L ts e r' e'→LyB L (t::ts) u (r++r') e'
noncomputable def LyS: Nat→T→Int→List T→Int→Prop
 | 0=>fun t u r e=>ZcV t∧r=[rowT u t (u+1)]∧e=u+1
 | n+1=>fun t u r e=>(ZcV t∧r=[rowT u t (u+1)]∧e=u+1) ∨
   (∃c a b ra ea rb eb,t=ifT c a b∧Nice 2 c∧LyB (LyS n) a (u+1) ra ea∧LyB (LyS n) b (ea+1) rb eb∧r=rowT u (ZaK c true) (u+1)::(ra++rowT u (ZaK c false) (ea+1)::(rb++[rowT ea goT (eb+1),rowT eb goT (eb+1)]))∧e=eb+1) ∨
   (∃c a ra ea,t=whT c a∧Nice 2 c∧LyB (LyS n) a (u+2) ra ea∧r=rowT u goT (u+1)::rowT (u+1) (ZaK c true) (u+2)::(ra++[rowT ea goT (u+1),rowT (u+1) (ZaK c false) (ea+1)])∧e=ea+1)
section
variable {Q:T→List T→Prop}
theorem Zov{c:T}{b:Bool}(h:Nice 2 c): ZhO [c,.bool b]=some (ZaK c b):=by
 apply Pk.eq
 unfold ZhO ZhN
 walk_at "z"
 refine Pk.of (ZjA (h.mono (by decide))) ?_
 walk_at "z"
 rfl
end
noncomputable def RowOk(e:Int)(x:T): Prop:=∃a t b,x=rowT a t b∧Nice 3 t∧0≤a∧a≤e∧0≤b∧b≤e
theorem RowOk.mono{e':Int}{x:T}(h:RowOk e x)(k:e≤e'): RowOk e' x:=by
 obtain⟨a,t,b,h1,h2,h3,h4,h5,h6⟩:=h
 exact⟨a,t,b,h1,h2,h3,by omega,h5,by omega⟩
noncomputable def ZiN(u:Int)(r:List T)(e:Int): Prop:=(∀x∈r,RowOk e x)∧(u<e→∃a t,rowT a t e∈r)
theorem Zgb: Nice (n+1) goT:=.tup (by simp) (Z2 (.str (by decide +kernel)) nl0)
theorem ZfS{c:T}{b:Bool}(h:Nice 2 c): Nice 3 (ZaK c b):=.tup (by simp) (Z2 (.str (by decide +kernel)) (Z2 h (Z2 (.bool b) nl0)))
theorem ZfV{L:T→Int→List T→Int→Prop}(hL:∀t u r e,L t u r e→0≤u→u<e∧ZiN u r e){r:List T}{u:Int}(h:LyB L ts u r e): 0≤u→u≤e∧ZiN u r e:=by
 induction h with
 | nil=>intro _;exact⟨by omega,by simp,fun q=>absurd q (by omega)⟩
 | @cons t ts u e e' r r' a _ ih=>
  intro h0
  obtain⟨h1,h2,h3⟩:=hL _ _ _ _ a h0
  obtain⟨h4,h5,h6⟩:=ih (by omega)
  refine⟨by omega,fun x m=>?_,fun q=>?_⟩
  ·rcases Zz8.mp m with m | m
   ·exact(h2 x m).mono h4
   ·exact h5 x m
  ·by_cases z:e<e'
   ·obtain⟨a,t,m⟩:=h6 z
    exact⟨a,t,List.mem_append_right _ m⟩
   ·have:e'=e:=by omega
    subst this
    obtain⟨a,t,m⟩:=h3 h1
    exact⟨a,t,Zy7 _ m⟩
theorem ZfW: ∀(n:Nat) (t:T) (u:Int) (r:List T) (e:Int),LyS n t u r e→0≤u→u<e∧ZiN u r e
 | 0,t,u,r,e,h,h0=>by
  obtain⟨h,rfl,rfl⟩:=h
  refine⟨by omega,fun x m=>?_,fun _=>⟨u,t,by simp⟩⟩
  simp at m
  subst m
  exact⟨u,t,u+1,rfl,h.1,h0,by omega,by omega,by omega⟩
 | n+1,t,u,r,e,h,h0=>by
  rcases h with⟨h1,rfl,rfl⟩ | ⟨c,a,b,ra,ea,rb,eb,rfl,hc,ha,hb,rfl,rfl⟩ | ⟨c,a,ra,ea,rfl,hc,ha,rfl,rfl⟩
  ·refine⟨by omega,fun x m=>?_,fun _=>⟨u,t,by simp⟩⟩
   simp at m
   subst m
   exact⟨u,t,u+1,rfl,h1.1,h0,by omega,by omega,by omega⟩
  ·obtain⟨l1,k1,_⟩:=ZfV (ZfW n) ha (by omega)
   obtain⟨l2,k2,_⟩:=ZfV (ZfW n) hb (by omega)
   refine⟨by omega,fun x m=>?_,fun _=>⟨ea,goT,by simp⟩⟩
   simp only[List.mem_cons,List.mem_append,List.not_mem_nil,or_false]at m
   rcases m with rfl | m | rfl | m | rfl | rfl
   ·exact⟨_,_,_,rfl,ZfS hc,by omega,by omega,by omega,by omega⟩
   ·exact(k1 x m).mono (by omega)
   ·exact⟨_,_,_,rfl,ZfS hc,by omega,by omega,by omega,by omega⟩
   ·exact(k2 x m).mono (by omega)
   ·exact⟨_,_,_,rfl,Zgb,by omega,by omega,by omega,by omega⟩
   ·exact⟨_,_,_,rfl,Zgb,by omega,by omega,by omega,by omega⟩
  ·obtain⟨l1,k1,_⟩:=ZfV (ZfW n) ha (by omega)
   refine⟨by omega,fun x m=>?_,fun _=>⟨u+1,ZaK c false,by simp⟩⟩
   simp only[List.mem_cons,List.mem_append,List.not_mem_nil,or_false]at m
   rcases m with rfl | rfl | m | rfl | rfl
   ·exact⟨_,_,_,rfl,Zgb,by omega,by omega,by omega,by omega⟩
   ·exact⟨_,_,_,rfl,ZfS hc,by omega,by omega,by omega,by omega⟩
   ·exact(k1 x m).mono (by omega)
   ·exact⟨_,_,_,rfl,Zgb,by omega,by omega,by omega,by omega⟩
   ·exact⟨_,_,_,rfl,ZfS hc,by omega,by omega,by omega,by omega⟩
noncomputable def mxI: T→Int
 | .tup [.int a,_,.int b]=>if b>a then b else a
 | _=>0
theorem Zkc: ∀(r:List T),Zbb (r.map fun x=>T.int (mxI x))=some (r.map mxI)
 | []=>rfl
 | x::r=>by simp[Zbb,Zkc r]
theorem Zow{r:List T}(h0:0≤e)(hl:r.length≤9000)(h1:∀x∈r,RowOk e x)(h2:0<e→∃a t,rowT a t e∈r): ZfN [.lst r]=some (.int e):=by
 apply Pk.eq
 unfold ZfN Zhy
 walk_at "z"
 have key:(r.map mxI).max?.getD 0=e:=by
  by_cases q:0<e
  ·have:(r.map mxI).max? = some e:=by
    rw[List.max?_eq_some_iff]
    refine⟨?_,fun c hc=>?_⟩
    ·obtain⟨a,t,m⟩:=h2 q
     obtain⟨a',t',b',e1,_,k1,k2,k3,k4⟩:=h1 _ m
     unfold rowT at e1
     cases e1
     refine Zz11.mpr ⟨_,m,?_⟩
     show(if e>a then e else a)=e
     split <;> omega
    ·obtain⟨x,m,rfl⟩:=Zz11.mp hc
     obtain⟨a,t,b,rfl,_,k1,k2,k3,k4⟩:=h1 x m
     show(if b>a then b else a)≤e
     split <;> omega
   rw[this]
   rfl
  ·have e0:e=0:=by omega
   subst e0
   cases r with
   | nil=>rfl
   | cons x r=>
    have:((x::r).map mxI).max? = some 0:=by
     rw[List.max?_eq_some_iff]
     have z:∀y∈x::r,mxI y=0:=fun y m=>by
      obtain⟨a,t,b,rfl,_,k1,k2,k3,k4⟩:=h1 y m
      show(if b>a then b else a)=0
      split <;> omega
     refine⟨Zz11.mpr ⟨x,List.mem_cons_self,z x Zz5⟩,fun c hc=>?_⟩
     obtain⟨y,m,rfl⟩:=Zz11.mp hc
     rw[z y m]
     exact Int.le_refl _
    rw[this]
    rfl
 refine⟨.lst (r.map fun x=>T.int (mxI x)),?_,?_⟩
 ·have:=ZhR (σ:=fun i=>[T.lst r][i]?) (j:=100) (f:=ZW Zfb (Zg (Zj ZD (Zf 100) (Zn 0)) (Zg (Zj ZD (Zf 100) (Zn 2)) Zq))) (h:=fun x=>T.int (mxI x)) (ts:=r) fun t m=>by
   obtain⟨a,t,b,rfl,_⟩:=h1 t m
   apply Pk.eq
   unfold rowT
   walk_at "z"
   rfl
  simp only[Zbk,show ZcS (Zf 0) (fun i=>[T.lst r][i]?)=some r from rfl,Zs0,this]
  rw[if_pos (by rw[Zab];omega)]
  simp
 ·walk_at "z"
  refine⟨.int e,?_,rfl⟩
  simp only[ZgH,Zkc,Zs1,key]
end L
open PySem PM TM
namespace L
variable {t:T} {K:Hp} {v:V} {P:Nat→Prop} {ts:List T} {vs:List V} {a b:Str} {p:PE} {n:Nat} {c x:Nat→Int} {d:Int}
noncomputable abbrev Mo:=Int×Int×List Int
noncomputable def ZbM(m:Mo): T:=.tup [.int m.1,.int m.2.1,.lst (m.2.2.map T.int)]
noncomputable def ZY(m:Mo)(b:Nat): V:=.tup [.int m.1,.int m.2.1,.ref b]
structure RS where
 n:Nat
 wt:List (Mo×T)
 m:Mo
noncomputable def ZcW(ts:List T)(k:Int): Option T:=(seqIndex? k ts.length).bind fun j=>ts[j]?
noncomputable def unL: T→Option (List T)
 | .lst ts=>some ts
 | _=>none
noncomputable def ZaT(tw:T)(m:Mo): Option (List T):=(unL tw).bind fun a=>(ZcW a m.1).bind fun b=>(unL b).bind fun c=>(ZcW c m.2.1).bind unL
noncomputable def unI: T→Option Int
 | .int k=>some k
 | _=>none
noncomputable def ZdO(t:T): Option (List Int):=(unL t).bind Zbb
noncomputable def ZgJ: T→Option Mo
 | .tup [.int f,.int p,.lst ts]=>(Zbb ts).map fun l=>(f,p,l)
 | _=>none
noncomputable def ZI(bs:List Int): T:=.lst (bs.map T.int)
noncomputable def ZdB(bs:List Int): List T→Option (List Int)
 | []=>some []
 | one::ts=>((Zbq [one,ZI bs]).bind unI).bind fun k=>(ZdB bs ts).map (k::·)
noncomputable def ZdC(tp:T)(g:Int)(given:List Int): Option Mo:=(ZfJ [tp,.int g,ZI given]).bind ZgJ
noncomputable def Zi2(bs:List Int)(x a:Int): Option (List Int):=(Zd4 [ZI bs,.int x,.int a]).bind ZdO
noncomputable def unD: T→Option (Option (List Int))
 | .none=>some none
 | .lst ts=>(Zbb ts).map some
 | _=>none
noncomputable def Zfg(bs:List Int)(act:T)(pick:Int): Option (Option (List Int)):=(Za0 [ZI bs,act,.int pick]).bind unD
noncomputable def ZiO(s:RS): Option RS:=s.wt.getLast?.bind fun fr=>s.m.2.2.getLast?.bind fun a=>match fr.2 with
 | .tup [_,.tup (_::.int x::_),.int q]=>(Zi2 fr.1.2.2 x a).map fun l=>⟨s.n,s.wt.dropLast,(fr.1.1,q,l)⟩
 | _=>none
noncomputable def Zgr(tp:T)(s:RS)(row:T): Option RS:=if s.wt.length<10000 then match row with
 | .tup [_,.tup [_,_,.int g,.lst sums],_]=>if sums.length<10000 then(ZdB s.m.2.2 sums).bind fun gv=>(ZdC tp g gv).map fun m=>⟨s.n,s.wt++[(s.m,row)],m⟩else none
 | _=>none else none
noncomputable def ZaL(ks:List Int)(n:Nat)(wd:Str): Nat×Int:=if wd=Str.ofString "any" then(n+1,ks.getD n 0)else(n,0)
noncomputable def Zfr: T→Option (T×Int)
 | .tup [_,act,.int q]=>some (act,q)
 | _=>none
noncomputable def ZgU(f q:Int)(m:Option Mo): Option (List Int)→Option Mo
 | none=>m
 | some l=>some (f,q,l)
noncomputable def Zd5(bs:List Int)(f pick:Int): List T→Option Mo→Option (Option Mo)
 | [],m=>some m
 | t::rs,m=>(Zfr t).bind fun aq=>(Zfg bs aq.1 pick).bind fun r=>Zd5 bs f pick rs (ZgU f aq.2 m r)
theorem ZmG{act:T}{q:Int}(e:Zfr t=some (act,q)): ∃h,t=.tup [h,act,.int q]:=by
 unfold Zfr at e
 split at e
 case h_2=>first|exact Zx0 e|cases e
 cases e
 exact⟨_,rfl⟩
noncomputable def Zby(tp tw:T)(ks:List Int)(s:RS): Option RS:=(ZaT tw s.m).bind fun rows=>match rows with
 | []=>ZiO s
 | row::rs=>match row with
  | .tup [_,.tup (.str wd::_),_]=>if PyData.strOk wd=true then(if wd=Str.ofString "call" then Zgr tp s row else((Zd5 s.m.2.2 s.m.1 (ZaL ks s.n wd).2 (row::rs) none).bind id).map fun m=>⟨(ZaL ks s.n wd).1,s.wt,m⟩)else none
  | _=>none
noncomputable def Zcy(tw:T)(s:RS): Option Bool:=(ZaT tw s.m).map fun rows=>rows.isEmpty && s.wt.isEmpty
noncomputable def RFo(K:Hp)(v:V)(t:T)(P:Nat→Prop): Prop:=∃F,RF K v t F∧∀a∈F,P a
theorem RFo.keep{K':Hp}(r:RFo K v t P)(h:∀a,P a→a<K.length→K'[a]?=K[a]?): RFo K' v t P:=by
 obtain⟨F,r,p⟩:=r
 exact⟨F,r.frame fun a m=>h a (p a m) (r.lt a m),p⟩
theorem RFo.lst(r:RFo K v (.lst ts) P): ∃b vs,v=.ref b∧K[b]?=some vs∧P b∧(∃F,RFs K vs ts F∧∀a∈F,P a):=by
 obtain⟨F,r,p⟩:=r
 cases r with
 | ref e hs=>exact⟨_,_,rfl,e,p _ Zz5,_,hs,fun a m=>p a (Zz2 _ m)⟩
theorem RFo.tup(r:RFo K v (.tup ts) P): ∃vs,v=.tup vs∧(∃F,RFs K vs ts F∧∀a∈F,P a):=by
 obtain⟨F,r,p⟩:=r
 cases r with
 | tup hs=>exact⟨_,rfl,_,hs,p⟩
theorem Zak(r:∃F,RFs K vs (t::ts) F∧∀a∈F,P a): ∃v us,vs=v::us∧RFo K v t P∧(∃F,RFs K us ts F∧∀a∈F,P a):=by
 obtain⟨F,r,p⟩:=r
 cases r with
 | cons a b=>exact⟨_,_,rfl,⟨_,a,fun x m=>p x (Zz4 _ m)⟩,_,b,fun x m=>p x (Zz3 _ m)⟩
theorem Zc4(r:∃F,RFs K vs [] F∧∀a∈F,P a): vs=[]:=by
 obtain⟨F,r,p⟩:=r
 cases r
 rfl
theorem RFo.int{k:Int}(r:RFo K v (.int k) P): v=.int k:=by
 obtain⟨F,r,_⟩:=r
 cases r
 rfl
theorem RFo.str{k:Str}(r:RFo K v (.str k) P): v=.str k:=by
 obtain⟨F,r,_⟩:=r
 cases r
 rfl
theorem Zd6{j:Nat}(r:∃F,RFs K vs ts F∧∀a∈F,P a)(e:ts[j]?=some t): ∃v,vs[j]?=some v∧RFo K v t P:=by
 obtain⟨F,r,p⟩:=r
 obtain⟨v,G,h1,h2,h3⟩:=r.at e
 exact⟨v,h1,G,h2,fun a m=>p a (h3.subset m)⟩
theorem ZeG{K:Hp}: ∀{ts:List T} {ks:List Int} {vs:List V} {F:List Nat},Zbb ts=some ks→RFs K vs ts F→vs=ks.map V.int∧F=[]∧ts=ks.map T.int
 | [],ks,vs,F,e,r=>by cases r;cases e;exact⟨rfl,rfl,rfl⟩
 | .int k::ts,ks,vs,F,e,r=>by
  obtain⟨js,e1,e2⟩:=Zz1.mp e
  subst e2
  cases r with
  | cons a b=>
   cases a
   obtain⟨rfl,rfl,rfl⟩:=ZeG e1 b
   exact⟨rfl,rfl,rfl⟩
theorem Ze2: ∀ks:List Int,Zbb (ks.map T.int)=some ks
 | []=>rfl
 | k::ks=>by simp[Zbb,Ze2 ks]
theorem Zd7{b:Nat}{bs:List Int}(e:K[b]?=some (bs.map V.int)): RF K (.ref b) (ZI bs) [b]:=.ref e (by
 have:∀ks:List Int,RFs K (ks.map V.int) (ks.map T.int) []:=fun ks=>by
  induction ks with
  | nil=>exact .nil
  | cons k ks ih=>exact .cons (.int k) ih
 exact this bs)
theorem Zgc{k:Int}(r:RFo K v (.lst ts) P)(e:ZcW ts k=some t): ∃u,Zl v (.int k) K=some (u,K)∧RFo K u t P:=by
 obtain⟨b,vs,rfl,e1,pb,rs⟩:=r.lst
 obtain⟨j,e2,e3⟩:=Zz0.mp e
 obtain⟨u,h1,h2⟩:=Zd6 rs e3
 have hl:vs.length=ts.length:=by obtain⟨F,r,_⟩:=rs;exact r.length
 refine⟨u,?_,h2⟩
 simp[Zl,e1,hl,e2,h1]
theorem ZeH(e:unL t=some ts): t=.lst ts:=by
 cases t <;> simp[unL]at e
 rw[e]
theorem Zlc(ha:PyData.strOk a=true)(hb:PyData.strOk b=true)(H:Hp): oEq (.str a) (.str b) H=some (.bool (decide (a=b)),H):=by
 simp[oEq,Zci,toD,SeqAt.shaped,PyData.canLay0,PyData.depth,PyData.eqv,ha,hb]
 rfl
theorem ZpK(ha:PyData.strOk a=true)(hb:PyData.strOk b=true)(H:Hp): oNe (.str a) (.str b) H=some (.bool (!decide (a=b)),H):=by
 simp[oNe,Zci,toD,SeqAt.shaped,PyData.canLay0,PyData.depth,PyData.eqv,ha,hb]
 rfl
theorem ZaA{a b:Sm}{ρ ρ1:Lc}{H H1:Hp}(h:a ρ H=some (none,ρ1,H1)): Zp a b ρ H=b ρ1 H1:=by simp[Zp,h]
section
variable {σ:TL} {Q:T→Prop}
theorem ZjT{σ:TL}{k:Nat}(h:Pk (p σ) fun t=>∃ts,t=.lst ts∧Q (.lst (ts.drop k))): Pk (Zea p k σ) Q:=by
 obtain⟨_,e,ts,rfl,q⟩:=h
 exact⟨_,by simp only[Zea,e,Zs0],q⟩
theorem Zi3{e:PE}(h:Pk (p σ) fun t=>∃ts,t=.lst ts∧Pk (e σ) fun u=>∃a:Nat,u=.int a∧Q (.lst (ts.take a))): Pk (Zcx p ZcI (ZcJ e) σ) Q:=by
 obtain⟨_,e1,ts,rfl,_,e2,a,rfl,q⟩:=h
 refine⟨_,?_,q⟩
 simp only[Zcx,e1,ZcI,ZcJ,e2,Zs0,ZnL ts rfl]
theorem Zqc{e:PE}(h:Pk (p σ) fun t=>∃ts,t=.lst ts∧Pk (e σ) fun u=>∃a:Nat,u=.int a∧Q (.lst (ts.drop a))): Pk (Zcx p (ZcJ e) ZcI σ) Q:=by
 obtain⟨_,e1,ts,rfl,_,e2,a,rfl,q⟩:=h
 refine⟨_,?_,q⟩
 simp only[Zcx,e1,ZcI,ZcJ,e2,Zs0,ZjK ts rfl]
theorem ZeS{a b:List T}(hl:a.length+b.length≤10000)(h:Q (.lst (a++b))): Pk (Zaj (.lst a) (.lst b)) Q:=by
 refine⟨_,?_,h⟩
 simp only[Zaj]
 rw[if_pos (by rw[Zab,List.length_append];omega)]
theorem Zox{a:T}(hn:n≤1000)(h:Q (.lst (tab n fun _=>a))): Pk (ZbC (.lst [a]) (.int n)) Q:=by
 have e:∀n,Zfp [a] n=tab n fun _=>a:=fun n=>by
  induction n with
  | zero=>rfl
  | succ n ih=>show Zfp [a] n++[a]=_;rw[ih];exact Zj4 (f:=fun _=>a)
 refine⟨_,?_,h⟩
 simp only[ZbC,List.length_cons,List.length_nil,Int.toNat_natCast,e]
 rw[if_pos ⟨by rw[Zab];omega,by omega,by omega⟩]
end
theorem Zns{f:Nat→T}: (tab (n+1) f).drop 1=tab n fun i=>f (i+1):=by
 apply List.ext_getElem
 ·simp[tab]
 ·intro i h1 h2
  simp[tab]
noncomputable def ZaF(c:Nat→Int)(x:Nat→Int): Nat→Int
 | 0=>c 0
 | j+1=>ZaF c x j+c (j+1)*x j
theorem ZkE{c x:Nat→Int}: ∀n,c 0+(tab n fun i=>c (i+1)*x i).sum=ZaF c x n
 | 0=>by simp[tab,ZaF]
 | n+1=>by
  rw[←Zj4 (n:=n) (f:=fun i=>c (i+1)*x i),List.sum_append]
  have:=ZkE (c:=c) (x:=x) n
  simp only[List.sum_cons,List.sum_nil,ZaF]
  omega
theorem Zoy{l:List T}{x:Nat}{w:T}(h:x<l.length): l.take x++[w]++l.drop (x+1)=l.set x w:=by
 rw[List.set_eq_take_append_cons_drop,if_pos h]
 simp
theorem Zoz{x:Nat}{f:Nat→T}{w:T}(hx:x<n)(hn:n≤1000)(hf:∀i,i<n→(f i).flat=true)(hw:w.flat=true): Zd4 [.lst (tab n f),.int ((x:Int)+1),w]=some (.lst (tab n fun i=>if i=x then w else f i)):=by
 apply Pk.eq
 unfold Zd4 ZiL
 have hlen:(tab n f).length=n:=Zaw
 walk_at "z"
 refine Zi3 ?_
 walk_at "z"
 refine⟨_,rfl,?_⟩
 walk_at "z"
 refine⟨x,by congr 1;omega,?_⟩
 walk_at "z"
 refine ZeS (by simp[hlen];omega) ?_
 refine Zqc ?_
 walk_at "z"
 refine⟨_,rfl,?_⟩
 walk_at "z"
 refine⟨x+1,rfl,?_⟩
 refine ZeS (by simp[hlen];omega) ?_
 rw[Zoy (by omega),ZnU]
 refine⟨ZhJ fun i hi=>?_,rfl⟩
 split
 ·exact hw
 ·exact hf i hi
theorem ZoA{m:Nat}{a:T}(ha:Pln n a)(hb:Pln m (.tup ts))(hn:n≤40:=by decide)(hm:m≤40:=by decide): Zfq a (.tup ts)=some (dec (a∈ts)):=by
 have ha:=ha.mono hn
 have hb:=hb.mono hm
 obtain⟨a1,a2,a3⟩:=ha.dat
 obtain⟨b1,b2,b3⟩:=hb.dat
 unfold Zfq Za3
 rw[a1,b1]
 simp only[Zs0,dd,inD]
 simp only[dd,PyData.canLay0]at b2
 rw[if_pos ⟨b2,a2,by omega⟩,Zk5]
 intro t m
 cases hb with
 | tup hs=>exact(hs t m).eqv ha
theorem ZdD{c d:Str}{Q:T→Prop}(hok:(PyData.strOk a && PyData.strOk b && PyData.strOk c && PyData.strOk d)=true){r:Bool}(hr:decide (a=b∨a=c∨a=d)=r)(h:Q (.bool r)): Pk (qIn (.str a) (.tup [.str b,.str c,.str d])) Q:=by
 simp only[Bool.and_eq_true]at hok
 obtain⟨⟨⟨ha,hb⟩,hc⟩,hd⟩:=hok
 refine⟨.bool r,?_,h⟩
 have hp:Pln 1 (.tup [.str b,.str c,.str d]):=.tup fun t m=>by
  simp at m
  rcases m with rfl | rfl | rfl
  ·exact .str hb
  ·exact .str hc
  ·exact .str hd
 simp only[qIn,ZoA (.str ha:Pln 1 (.str a)) hp,Zs1]
 congr 2
 rw[←hr]
 exact ZiG (by rw[decide_eq_true_eq];simp)
noncomputable def Zae(n:Nat)(c:Nat→Int): T:=.lst (tab (n+1) fun i=>.int (c i))
noncomputable def Sh(n:Nat)(c:Nat→Int): Prop:=∀i,i<n→-(2 ^ 64)<c (i+1)∧c (i+1)<2 ^ 64
theorem Zdv(hn:n≤60)(hc:Sh n c): Zbq [Zae n c,ZT n x]=some (.int (ZaF c x n)):=by
 apply Pk.eq
 unfold Zbq Zit Zae ZT
 have h0:0<n+1:=by omega
 walk_at "z"
 refine Znd (n:=n) (a:=fun i=>.int (c (i+1))) (b:=fun i=>.int (x i)) (c:=fun i=>.int (c (i+1)*x i)) (by omega) ?_ (fun i hi=>?_) ?_
 ·refine Zk2 ?_
  refine ZjT ?_
  walk_at "z"
  refine⟨_,rfl,?_⟩
  rw[Zns]
  walk_at "z"
  rfl
 ·walk_at "z"
  exact Zix (hc i hi).1 (hc i hi).2 rfl
 walk_at "z"
 refine⟨.int (tab n fun i=>c (i+1)*x i).sum,by simp only[ZgQ,ints_tab,Zs1],?_⟩
 walk_at "z"
 rw[show(Int.toNat 0)=0 from rfl,ZkE]
theorem ZfX(hn:n≤60)(hc:Sh n c): ZcY [Zae n c,ZT n x]=some (.int (ZaF c x n)):=by
 apply Pk.eq
 unfold ZcY Zjj Zae ZT
 have h0:0<n+1:=by omega
 walk_at "z"
 refine Zpr (n:=n) (a:=fun i=>.int i) (P:=fun k σ=>σ 0=some (.lst (tab (n+1) fun i=>.int (c i)))∧σ 1=some (.lst (tab n fun i=>.int (x i)))∧σ 2=some (.int (ZaF c x k))) ?_ ⟨by walk_at "r",by walk_at "r",by walk_at "r"⟩ ?_ ?_
 ·walk_at "z"
  rfl
 ·rintro i σ hi ⟨e0,e1,e2⟩
  walk_at "z"
  rw[show((i:Int)+1).toNat=i+1 by omega]
  refine Zix (hc i hi).1 (hc i hi).2 ?_
  walk_at "z"
  exact⟨by walk_at "r",by walk_at "r",by walk_at "r"⟩
 ·rintro σ ⟨e0,e1,e2⟩
  walk_at "z"
  rfl
noncomputable def unT(n:Nat)(c:Nat→Int): T:=.tup [.str (Str.ofString "under"),Zae n c]
noncomputable def smT(n:Nat)(c:Nat→Int): T:=.tup [.str (Str.ofString "same"),Zae n c]
noncomputable def evT(n:Nat)(c:Nat→Int)(d:Int): T:=.tup [.str (Str.ofString "even"),Zae n c,.int d]
noncomputable def Zlw(a:Int): Int:=if a<0 then -a else a
noncomputable abbrev Sp2:=Option Int×Option Int
theorem su: PyData.strOk (Str.ofString "under")=true:=by decide +kernel
theorem ss_: PyData.strOk (Str.ofString "same")=true:=by decide +kernel
theorem Zmj{v:Int}(h:Zbq [Zae n c,ZT n x]=some (.int v)): Zb5 [unT n c,ZT n x]=some (.bool (decide (v<0))):=by
 apply Pk.eq
 unfold Zb5 ZeR unT
 walk_at "z"
 refine Pk.of h ?_
 walk_at "z"
 refine ZcO su ?_
 walk_at "z"
 rfl
theorem Zmk{v:Int}(h:Zbq [Zae n c,ZT n x]=some (.int v)): Zb5 [smT n c,ZT n x]=some (.bool (decide (v=0))):=by
 apply Pk.eq
 unfold Zb5 ZeR smT
 walk_at "z"
 refine Pk.of h ?_
 walk_at "z"
 refine Za6 (by decide +kernel) ?_
 walk_at "z"
 refine ZcO ss_ ?_
 walk_at "z"
 rfl
theorem Zml{v:Int}(hd:0<d)(h:Zbq [Zae n c,ZT n x]=some (.int v)): Zb5 [evT n c d,ZT n x]=some (.bool (decide (v.fmod d=0))):=by
 apply Pk.eq
 unfold Zb5 ZeR evT
 walk_at "z"
 refine Pk.of h ?_
 walk_at "z"
 refine Za6 (by decide +kernel) ?_
 walk_at "z"
 refine Za6 (by decide +kernel) ?_
 walk_at "z"
 rfl
theorem ZlE{v:Int}(h:ZcY [Zae n c,ZT n x]=some (.int v)): Zdi [unT n c,ZT n x]=some (.bool (decide (v<0))):=by
 apply Pk.eq
 unfold Zdi ZfB unT
 walk_at "z"
 refine Pk.of h ?_
 walk_at "z"
 refine ZcO su ?_
 walk_at "z"
 rfl
theorem ZlF{v:Int}(h:ZcY [Zae n c,ZT n x]=some (.int v)): Zdi [smT n c,ZT n x]=some (.bool (decide (v=0))):=by
 apply Pk.eq
 unfold Zdi ZfB smT
 walk_at "z"
 refine Pk.of h ?_
 walk_at "z"
 refine Za6 (by decide +kernel) ?_
 walk_at "z"
 refine ZcO ss_ ?_
 walk_at "z"
 rfl
theorem ZlG{v:Int}(hd:0<d)(h:ZcY [Zae n c,ZT n x]=some (.int v)): Zdi [evT n c d,ZT n x]=some (.bool (decide (v.fmod d=0))):=by
 apply Pk.eq
 unfold Zdi ZfB evT
 walk_at "z"
 refine Pk.of h ?_
 walk_at "z"
 refine Za6 (by decide +kernel) ?_
 walk_at "z"
 refine Za6 (by decide +kernel) ?_
 walk_at "z"
 rfl
noncomputable def pkd(s:Sp2)(p:Int): Int:=match s.1,s.2 with
 | none,none=>p
 | some l,none=>l+Zlw p
 | none,some h=>h-Zlw p
 | some l,some h=>l+p.fmod (h-l+1)
theorem ZmH{s:Sp2}{p:Int}(h:∀x y,s.1=some x→s.2=some y→x≤y): ZfU [oT s.1,oT s.2,.int p]=some (.int (pkd s p)):=by
 apply Pk.eq
 unfold ZfU Zh8 pkd
 obtain⟨a,b⟩:=s
 cases a with
 | none=>
  cases b with
  | none=>rw[Zil];walk_at "z";rfl
  | some y=>rw[Zil,Zf6];walk_at "z";rfl
 | some x=>
  cases b with
  | none=>rw[Zil,Zf6];walk_at "z";rfl
  | some y=>
   have:y-x+1≠0:=by have:=h x y rfl rfl;omega
   rw[Zf6,Zf6];walk_at "z";rfl
theorem ZpL{a:Int}(bd:d.natAbs<2 ^ 300): Builtin.divisionGoesByPylong a d=false:=by
 refine PyProof.noPylong_of_log2 ?_
 by_cases h0:d.natAbs=0
 ·rw[h0];decide +kernel
 ·exact Nat.lt_of_lt_of_le ((Nat.log2_lt h0).mpr bd) (by decide)
section
variable {n X:Nat} {c x:Nat→Int} {d p v:Int} {s:Sp2} {A:T}
theorem ZeI(hX:X<n)(hn:n≤60): Zd4 [ZT n x,.int ((X:Int)+1),.int v]=some (ZT n fun i=>if i=X then v else x i):=by
 unfold ZT
 rw[Zoz hX (by omega) (fun i _=>rfl) rfl]
 congr 2
 refine Zmy fun i _=>?_
 show _=T.int (if i=X then v else x i)
 split <;> rfl
theorem Znt(hv:Zbq [Zae n c,ZT n x]=some (.int (ZaF c x n))): Zco [ZT n x,.tup [.str (Str.ofString "set"),.int ((X:Int)+1),Zae n c],.int p]=some (.int (ZaF c x n)):=by
 apply Pk.eq
 unfold Zco ZdT
 walk_at "z"
 refine Za6 (by decide +kernel) ?_
 walk_at "z"
 refine Pk.of hv ?_
 walk_at "z"
 refine Za6 (by decide +kernel) ?_
 walk_at "z"
 refine Za6 (by decide +kernel) ?_
 walk_at "z"
 rfl
theorem Znu(hX:X<n)(hn:n≤60)(hv:Zbq [Zae n c,ZT n x]=some (.int (ZaF c x n))): Za0 [ZT n x,.tup [.str (Str.ofString "set"),.int ((X:Int)+1),Zae n c],.int p]=some (ZT n fun i=>if i=X then ZaF c x n else x i):=by
 have hl:=ZeI (x:=x) (v:=ZaF c x n) hX hn
 have hw:=Znt (n:=n) (X:=X) (x:=x) (p:=p) hv
 apply Pk.eq
 unfold Za0 ZcK
 walk_at "z"
 refine Za6 (by decide +kernel) ?_
 walk_at "z"
 refine ZdD (by decide +kernel) (r:=false) (by decide +kernel) ?_
 walk_at "z"
 refine Pk.of hw ?_
 walk_at "z"
 exact Pk.of hl rfl
theorem ZmI(hd:0<d)(bd:d.natAbs<2 ^ 300)(hv:Zbq [Zae n c,ZT n x]=some (.int (ZaF c x n))): Zco [ZT n x,.tup [.str (Str.ofString "part"),.int ((X:Int)+1),Zae n c,.int d],.int p]=some (.int ((ZaF c x n).fdiv d)):=by
 apply Pk.eq
 unfold Zco ZdT
 walk_at "z"
 refine Za6 (by decide +kernel) ?_
 walk_at "z"
 refine Pk.of hv ?_
 walk_at "z"
 refine ZcO (by decide +kernel) ?_
 walk_at "z"
 exact Zk0 (by omega) (ZpL bd) rfl
theorem ZmJ(hX:X<n)(hn:n≤60)(hd:0<d)(bd:d.natAbs<2 ^ 300)(hv:Zbq [Zae n c,ZT n x]=some (.int (ZaF c x n))): Za0 [ZT n x,.tup [.str (Str.ofString "part"),.int ((X:Int)+1),Zae n c,.int d],.int p]=some (ZT n fun i=>if i=X then(ZaF c x n).fdiv d else x i):=by
 have hl:=ZeI (x:=x) (v:=(ZaF c x n).fdiv d) hX hn
 have hw:=ZmI (n:=n) (X:=X) (x:=x) (p:=p) hd bd hv
 apply Pk.eq
 unfold Za0 ZcK
 walk_at "z"
 refine Za6 (by decide +kernel) ?_
 walk_at "z"
 refine ZdD (by decide +kernel) (r:=false) (by decide +kernel) ?_
 walk_at "z"
 refine Pk.of hw ?_
 walk_at "z"
 exact Pk.of hl rfl
theorem ZmK(hd:0<d)(hv:Zbq [Zae n c,ZT n x]=some (.int (ZaF c x n))): Zco [ZT n x,.tup [.str (Str.ofString "rest"),.int ((X:Int)+1),Zae n c,.int d],.int p]=some (.int ((ZaF c x n).fmod d)):=by
 apply Pk.eq
 unfold Zco ZdT
 walk_at "z"
 refine Za6 (by decide +kernel) ?_
 walk_at "z"
 refine Pk.of hv ?_
 walk_at "z"
 refine Za6 (by decide +kernel) ?_
 walk_at "z"
 refine ZcO (by decide +kernel) ?_
 walk_at "z"
 rfl
theorem ZmL(hX:X<n)(hn:n≤60)(hd:0<d)(hv:Zbq [Zae n c,ZT n x]=some (.int (ZaF c x n))): Za0 [ZT n x,.tup [.str (Str.ofString "rest"),.int ((X:Int)+1),Zae n c,.int d],.int p]=some (ZT n fun i=>if i=X then(ZaF c x n).fmod d else x i):=by
 have hl:=ZeI (x:=x) (v:=(ZaF c x n).fmod d) hX hn
 have hw:=ZmK (n:=n) (X:=X) (x:=x) (p:=p) hd hv
 apply Pk.eq
 unfold Za0 ZcK
 walk_at "z"
 refine Za6 (by decide +kernel) ?_
 walk_at "z"
 refine ZdD (by decide +kernel) (r:=false) (by decide +kernel) ?_
 walk_at "z"
 refine Pk.of hw ?_
 walk_at "z"
 exact Pk.of hl rfl
theorem Znv(hs:∀x y,s.1=some x→s.2=some y→x≤y): Zco [ZT n x,.tup [.str (Str.ofString "any"),.int ((X:Int)+1),oT s.1,oT s.2],.int p]=some (.int (pkd s p)):=by
 apply Pk.eq
 unfold Zco ZdT
 walk_at "z"
 refine ZcO (by decide +kernel) ?_
 walk_at "z"
 exact Pk.of (ZmH hs) rfl
theorem Znw(hX:X<n)(hn:n≤60)(hs:∀x y,s.1=some x→s.2=some y→x≤y): Za0 [ZT n x,.tup [.str (Str.ofString "any"),.int ((X:Int)+1),oT s.1,oT s.2],.int p]=some (ZT n fun i=>if i=X then pkd s p else x i):=by
 have hl:=ZeI (x:=x) (v:=pkd s p) hX hn
 have hw:=Znv (n:=n) (X:=X) (x:=x) (p:=p) hs
 apply Pk.eq
 unfold Za0 ZcK
 walk_at "z"
 refine Za6 (by decide +kernel) ?_
 walk_at "z"
 refine ZdD (by decide +kernel) (r:=false) (by decide +kernel) ?_
 walk_at "z"
 refine Pk.of hw ?_
 walk_at "z"
 exact Pk.of hl rfl
theorem ZmM{Cl:T}{b r:Bool}(h:Zb5 [Cl,ZT n x]=some (.bool r)): Za0 [ZT n x,.tup [.str (Str.ofString "when"),Cl,.bool b],.int p]=some (if r=b then ZT n x else .none):=by
 have hl:∀{Q:T→Prop},Q (ZT n x)→Pk (ZdA [ZT n x]) Q:=fun h=>⟨_,rfl,h⟩
 have hf:(ZT n x).flatIn=true:=ZhJ fun _ _=>rfl
 apply Pk.eq
 unfold Za0 ZcK
 cases r <;> cases b
 all_goals
  walk_at "z"
  refine ZcO (by decide +kernel) ?_
  walk_at "z"
  refine Pk.of h ?_
  walk_at "z"
  first
  | rfl
  | (refine ZdD (by decide +kernel) (r:=true) (by decide +kernel) ?_;walk_at "z";refine hl ?_;refine⟨hf,?_⟩;walk_at "z";rfl)
theorem ZoB: Za0 [ZT n x,.tup [.str (Str.ofString "go")],.int p]=some (ZT n x):=by
 apply Pk.eq
 unfold Za0 ZcK
 walk_at "z"
 refine Za6 (by decide +kernel) ?_
 walk_at "z"
 refine ZdD (by decide +kernel) (r:=true) (by decide +kernel) ?_
 unfold ZT
 walk_at "z"
 rfl
theorem Znx: Za0 [ZT n x,.tup [.str (Str.ofString "say"),A],.int p]=some (ZT n x):=by
 apply Pk.eq
 unfold Za0 ZcK
 walk_at "z"
 refine Za6 (by decide +kernel) ?_
 walk_at "z"
 refine ZdD (by decide +kernel) (r:=true) (by decide +kernel) ?_
 unfold ZT
 walk_at "z"
 rfl
end
end L
open PySem PM TM
namespace L
variable {K K':Hp} {P:Nat→Prop} {vs:List V}
noncomputable def Off(o w m0 a:Nat): Prop:=a≠o∧a≠w∧a≠m0
noncomputable def FmR(K:Hp)(P:Nat→Prop)(v:V)(fr:Mo×T): Prop:=∃c vr,v=.tup [ZY fr.1 c,vr]∧K[c]?=some (fr.1.2.2.map V.int)∧P c∧RFo K vr fr.2 P
inductive FmRs(K:Hp)(P:Nat→Prop): List V→List (Mo×T)→Prop where
 | nil:FmRs K P [] []
 | snoc {vs:List V} {frs:List (Mo×T)} {v:V} {fr:Mo×T}:FmRs K P vs frs→FmR K P v fr→FmRs K P (vs++[v]) (frs++[fr])
theorem lt_of_at{a:Nat}{x:List V}(e:K[a]?=some x): a<K.length:=(Zz6.mp e).1
theorem FmR.keep{v:V}{fr:Mo×T}(r:FmR K P v fr)(h:∀a,P a→a<K.length→K'[a]?=K[a]?): FmR K' P v fr:=by
 obtain⟨c,vr,e1,e2,p,r⟩:=r
 exact⟨c,vr,e1,(h c p (lt_of_at e2)).trans e2,p,r.keep h⟩
theorem FmRs.keep{frs:List (Mo×T)}(r:FmRs K P vs frs)(h:∀a,P a→a<K.length→K'[a]?=K[a]?): FmRs K' P vs frs:=by
 induction r with
 | nil=>exact .nil
 | snoc _ b ih=>exact .snoc ih (b.keep h)
theorem FmRs.length{frs:List (Mo×T)}(r:FmRs K P vs frs): vs.length=frs.length:=by
 induction r with
 | nil=>rfl
 | snoc _ _ ih=>simp[ih]
theorem FmRs.last{frs:List (Mo×T)}{fr:Mo×T}(r:FmRs K P vs frs)(e:frs.getLast? = some fr): ∃us v,vs=us++[v]∧FmR K P v fr∧FmRs K P us frs.dropLast:=by
 cases r with
 | nil=>simp at e
 | snoc a b=>simp at e;subst e;exact⟨_,_,rfl,b,by simpa using a⟩
structure Rn(K:Hp)(o w b m0:Nat)(vp vw:V)(kk:Nat)(tp tw:T)(ks:List Int)(s:RS): Prop where
 ho:K[o]?=some [vp,vw,.ref kk,.int s.n,.ref w,ZY s.m b]
 hw:∃ws,K[w]?=some ws∧FmRs K (Off o w m0) ws s.wt
 hb:K[b]?=some (s.m.2.2.map V.int)
 rp:RFo K vp tp (Off o w m0)
 rw:RFo K vw tw (Off o w m0)
 rk:K[kk]?=some (ks.map V.int)
 ko:Off o w m0 kk
 bo:Off o w m0 b
 o0:o≠0
 w0:w≠0
 ow:o≠w
 mo:Off o w o m0
 ml:m0<K.length
section
variable {K:Hp} {o w b m0:Nat} {vp vw:V} {kk:Nat} {tp tw:T} {ks:List Int} {s:RS}
theorem Zkd{rows:List T}(R:Rn K o w b m0 vp vw kk tp tw ks s)(e:ZaT tw s.m=some rows): ∃v,Zem [.obj Runner_c o] K=some (v,K)∧RFo K v (.lst rows) (Off o w m0):=by
 obtain⟨a,e1,f1⟩:=Zz0.mp e
 obtain⟨t1,e2,f2⟩:=Zz0.mp f1
 obtain⟨c,e3,f3⟩:=Zz0.mp f2
 obtain⟨d,e4,f4⟩:=Zz0.mp f3
 have:=ZeH e1;subst this
 have:=ZeH e3;subst this
 have:=ZeH f4;subst this
 obtain⟨u1,h1,r1⟩:=Zgc R.rw e2
 obtain⟨u2,h2,r2⟩:=Zgc r1 e4
 refine⟨u2,?_,r2⟩
 unfold Zem ZgX ZG
 simp only[List.length_singleton,if_true]
 have i0:∀(x y z:V) H,Zl (.tup [x,y,z]) (.int 0) H=some (x,H):=fun _ _ _ _=>rfl
 have i1:∀(x y z:V) H,Zl (.tup [x,y,z]) (.int 1) H=some (y,H):=fun _ _ _ _=>rfl
 simp[Zw,Zc,ZO,Z1,Za,R.ho,Ze,ZY,i0,i1,h1,h2]
theorem Ziy{v:V}{ts:List T}(r:RFo K v (.lst ts) P): Zan [v] K=some (.int ts.length,K):=by
 obtain⟨c,vs,rfl,e1,pb,F,rs,_⟩:=r.lst
 simp[Zan,e1,rs.length]
theorem ZmN{q:Bool}(R:Rn K o w b m0 vp vw kk tp tw ks s)(e:Zcy tw s=some q): Zeu [.obj Runner_c o] K=some (.bool q,K):=by
 obtain⟨rows,e9,rfl⟩:=Zz1.mp e
 obtain⟨v,h1,h2⟩:=Zkd R e9
 obtain⟨ws,h3,h4⟩:=R.hw
 have l1:=Ziy h2
 have l2:=h4.length
 unfold Zeu Zhr ZG
 simp only[List.length_singleton,if_true]
 have ho:=R.ho
 cases rows with
 | nil=>
  simp only[List.length_nil]at l1
  cases hwt:s.wt with
  | nil=>
   rw[hwt]at l2
   have:ws=[]:=List.length_eq_zero_iff.mp (by simpa using l2)
   subst this
   have l6:Zan [.ref w] K=some (.int 0,K):=by simp[Zan,h3]
   simp[Zw,ZcE,Zc,Zk,Zb,Zd,ZZ,Za,ZaW,h1,l1,Ze,Zac,ZO,Z1,ho,l6]
  | cons f fs=>
   have:ws.length≠0:=by rw[l2,hwt];simp
   have l3:((ws.length:Int) == 0)=false:=by simpa using this
   have l4:ws≠[]:=by rintro rfl;simp at this
   have l6:Zan [.ref w] K=some (.int ws.length,K):=by simp[Zan,h3]
   simp[Zw,ZcE,Zc,Zk,Zb,Zd,ZZ,Za,ZaW,h1,l1,Ze,Zac,ZO,Z1,ho,l6,l3,l4]
 | cons r rs=>
  have l3:(((r::rs).length:Int) == 0)=false:=by simp;omega
  simp only[Zw,ZcE,Zc,Zk,Zb,Zd,ZZ,Za,ZaW,List.getElem?_cons_zero,Zs1,Zs0,beq_self_eq_true,if_true,h1,l1,Ze,Zlv,l3,Zac]
  simp
noncomputable def Zfs(K K':Hp)(o w m0:Nat)(vp vw:V)(kk:Nat)(tp tw:T)(ks:List Int)(s':RS): Prop:=∃b',Rn K' o w b' m0 vp vw kk tp tw ks s'∧K.length≤b'∧K.length≤K'.length∧∀a,a<K.length→a≠o→a≠w→K'[a]?=K[a]?
theorem Rn.mk'{b':Nat}{s':RS}(R:Rn K o w b m0 vp vw kk tp tw ks s)(kp:∀a,a<K.length→a≠o→a≠w→K'[a]?=K[a]?)(ho:K'[o]?=some [vp,vw,.ref kk,.int s'.n,.ref w,ZY s'.m b'])(hw:∃ws,K'[w]?=some ws∧FmRs K' (Off o w m0) ws s'.wt)(hb:K'[b']?=some (s'.m.2.2.map V.int))(hn:K.length≤b')(hl:K.length≤K'.length): Zfs K K' o w m0 vp vw kk tp tw ks s':=by
 have k2:∀a,Off o w m0 a→a<K.length→K'[a]?=K[a]?:=fun a p l=>kp a l p.1 p.2.1
 obtain⟨ws,w1,w2⟩:=R.hw
 have lo:=lt_of_at R.ho
 have lw:=lt_of_at w1
 have lm:=R.ml
 exact⟨b',⟨ho,hw,hb,R.rp.keep k2,R.rw.keep k2,(k2 _ R.ko (lt_of_at R.rk)).trans R.rk,R.ko,⟨by omega,by omega,by omega⟩,R.o0,R.w0,R.ow,R.mo,by omega⟩,hn,hl,kp⟩
theorem ZmO{s':RS}(R:Rn K o w b m0 vp vw kk tp tw ks s)(e:ZiO s=some s'): ∃K',ZfH [.obj Runner_c o] K=some (.none,K')∧Zfs K K' o w m0 vp vw kk tp tw ks s':=by
 obtain⟨fr,e1,e⟩:=Zz0.mp e
 obtain⟨a,e2,e⟩:=Zz0.mp e
 obtain⟨⟨cf,cp,cb⟩,row⟩:=fr
 dsimp only at e
 split at e
 case h_2=>first|exact Zx0 e|cases e
 rename_i th tw' x tas q _hq
 obtain⟨l,e3,e⟩:=Zz1.mp e
 subst e
 obtain⟨t,e3,e4⟩:=Zz0.mp e3
 obtain⟨ts,e4,e5⟩:=Zz0.mp e4
 have:=ZeH e4;subst this
 obtain⟨ws,w1,w2⟩:=R.hw
 obtain⟨us,v,rfl,w3,w4⟩:=w2.last e1
 obtain⟨c,vr,rfl,c1,c2,c3⟩:=w3
 obtain⟨vs3,rfl,d1⟩:=c3.tup
 obtain⟨vh,_,rfl,_,d1⟩:=Zak d1
 obtain⟨va,_,rfl,d2,d1⟩:=Zak d1
 obtain⟨vq,_,rfl,d3,d1⟩:=Zak d1
 have:=Zc4 d1;subst this
 have:=d3.int;subst this
 obtain⟨vas,rfl,d4⟩:=d2.tup
 obtain⟨vw0,_,rfl,_,d4⟩:=Zak d4
 obtain⟨vx,vrest,rfl,d5,_⟩:=Zak d4
 have:=d5.int;subst this
 have ho:=R.ho
 have hb:=R.hb
 have lo:=lt_of_at R.ho
 have lw:=lt_of_at w1
 have an:Zl (.ref b) (.int (-1)) K=some (.int a,K):=by
  obtain⟨ys,ey⟩:=List.getLast?_eq_some_iff.mp e2
  have hne:s.m.2.2.length=ys.length+1:=by rw[ey];simp
  simp only[Zl,hb,Zs0,List.length_map]
  have:seqIndex? (-1) s.m.2.2.length=some ys.length:=by
   unfold seqIndex?
   simp
   omega
  rw[this]
  simp[ey]
 generalize hK2:K.set w us=K2
 have k2o:K2[o]?=K[o]?:=by rw[←hK2,Zy2 (Ne.symm R.ow)]
 have k2c:K2[c]?=K[c]?:=by rw[←hK2,Zy2 (Ne.symm c2.2.1)]
 have l2:K2.length=K.length:=by rw[←hK2];simp
 obtain⟨v',X,F,g1,g2,g3,g4⟩:=Zlb K2 [.ref c,.int x,.int a] [ZI cb,.int x,.int a] (.lst ts) _ (by omega) (.cons (Zd7 (k2c.trans c1)) (.cons (.int x) (.one (.int a)))) e3
 obtain⟨gn,gl⟩:=g4 rfl
 cases g2 with
 | @ref b' vs' _ F' gb grs=>
 obtain⟨rfl,rfl,_⟩:=ZeG e5 grs
 have hb':=gl b' List.mem_cons_self
 have lb':=lt_of_at gb
 generalize hK3:(K2++X).set o [vp,vw,.ref kk,.int s.n,.ref w,ZY (cf,q,l) b']=K3
 have kp:∀a,a<K.length→a≠o→a≠w→K3[a]?=K[a]?:=fun a la ha hw=>by
  rw[←hK3,Zy2 (Ne.symm ha),Zy0 (show a<K2.length by omega),←hK2,Zy2 (Ne.symm hw)]
 have k3w:K3[w]?=some us:=by
  rw[←hK3,List.getElem?_set_ne R.ow,Zy0 (show w<K2.length by omega),←hK2,Zy6 lw]
 refine⟨K3,?_,R.mk' (b':=b') kp ?_ ⟨us,k3w,?_⟩ ?_ (by omega) ?_⟩
 ·unfold ZfH Zhm ZG
  simp only[List.length_singleton,if_true]
  have i0:∀(x y z:V) H,Zl (.tup [x,y,z]) (.int 0) H=some (x,H):=fun _ _ _ _=>rfl
  have i2:∀(x y z:V) H,Zl (.tup [x,y,z]) (.int 2) H=some (z,H):=fun _ _ _ _=>rfl
  have i1:∀(x y z:V) H,Zl (.tup [x,y,z]) (.int 1) H=some (y,H):=fun _ _ _ _=>rfl
  have j0:∀(x y:V) H,Zl (.tup [x,y]) (.int 0) H=some (x,H):=fun _ _ _=>rfl
  have j1:∀(x y:V) H,Zl (.tup [x,y]) (.int 1) H=some (y,H):=fun _ _ _=>rfl
  have a1:∀(x y:V) (ys:List V) H,Zl (.tup (x::y::ys)) (.int 1) H=some (y,H):=fun x y ys H=>by
   have:seqIndex? 1 (ys.length+1+1)=some 1:=by unfold seqIndex?;simp;omega
   simp[Zl,this]
  rw[ZaA (ρ1:=upd (fun i=>[V.obj Runner_c o][i]?) 1 (.int a)) (H1:=K) (by simp[Zu,Zc,ZO,Z1,Za,ho,Ze,ZY,i2,an])]
  rw[ZaA (ρ1:=upd (upd (fun i=>[V.obj Runner_c o][i]?) 1 (.int a)) 2 (.tup [ZY (cf,cp,cb) c,V.tup [vh,V.tup (vw0::V.int x::vrest),V.int q]])) (H1:=K2) (by simp[Zu,Zjc,ZO,Z1,Za,upd,ho,Zjb,w1,R.w0,hK2])]
  rw[ZaA (ρ1:=upd (upd (upd (fun i=>[V.obj Runner_c o][i]?) 1 (.int a)) 2 (.tup [ZY (cf,cp,cb) c,V.tup [vh,V.tup (vw0::V.int x::vrest),V.int q]])) 3 (ZY (cf,cp,cb) c)) (H1:=K2) (by simp[Zu,Zc,Za,upd,Ze,j0])]
  rw[ZaA (ρ1:=upd (upd (upd (upd (fun i=>[V.obj Runner_c o][i]?) 1 (.int a)) 2 (.tup [ZY (cf,cp,cb) c,V.tup [vh,V.tup (vw0::V.int x::vrest),V.int q]])) 3 (ZY (cf,cp,cb) c)) 4 (V.tup [vh,V.tup (vw0::V.int x::vrest),V.int q])) (H1:=K2) (by simp[Zu,Zc,Za,upd,Ze,j1])]
  have kxo:(K2++X)[o]?=some [vp,vw,.ref kk,.int s.n,.ref w,ZY s.m b]:=by rw[Zy0 (show o<K2.length by omega),k2o,ho]
  have e0:ZaH Runner_c 5 (.obj Runner_c o) (.tup [.int cf,.int q,.ref b']) (K2++X)=some K3:=by
   simp[ZaH,R.o0,kxo,ZY,←hK3]
  simp[Zat,Z3,Zb,Zd,Zc,Za,upd,Ze,ZY,i0,i2,i1,a1,Zk,g1,Zab,e0]
 ·rw[←hK3,Zy6 (by rw[List.length_append];omega)]
 ·exact w4.keep fun a p l=>kp a l p.1 p.2.1
 ·rw[←hK3,Zy2 (by omega)]
  exact gb
 ·rw[←hK3];simp;omega
end
end L
open PySem PM TM
namespace L
section
variable {K:Hp} {o w b m0:Nat} {vp vw:V} {kk:Nat} {tp tw:T} {ks:List Int} {s:RS}
theorem i30(x y z:V)(H:Hp): Zl (.tup [x,y,z]) (.int 0) H=some (x,H):=rfl
theorem i31(x y z:V)(H:Hp): Zl (.tup [x,y,z]) (.int 1) H=some (y,H):=rfl
theorem i32(x y z:V)(H:Hp): Zl (.tup [x,y,z]) (.int 2) H=some (z,H):=rfl
theorem i42(x y z u:V)(H:Hp): Zl (.tup [x,y,z,u]) (.int 2) H=some (z,H):=rfl
theorem i43(x y z u:V)(H:Hp): Zl (.tup [x,y,z,u]) (.int 3) H=some (u,H):=rfl
theorem ia0(x:V)(xs:List V)(H:Hp): Zl (.tup (x::xs)) (.int 0) H=some (x,H):=by
 have:seqIndex? 0 (xs.length+1)=some 0:=by unfold seqIndex?;simp
 simp[Zl,this]
noncomputable def Ze3: Ex:=Zk Zd0 (Zb (Za 100) (Zb (Zc Zl (ZO (Z1 (Runner_c) 5) (Za 0)) (Ze 2)) Zd))
theorem ZjB{ρ:Lc}{d:Nat}{vs:List V}{P:Nat→Prop}(h0:ρ 0=some (.obj Runner_c o))(ho:K[o]?=some [vp,vw,.ref kk,.int s.n,.ref w,ZY s.m b])(hb:K[b]?=some (s.m.2.2.map V.int))(hd:K[d]?=some vs)(hp:0<K.length): ∀(ts:List T) (i:Nat) (acc gv:List Int) (X:Hp),(∀(j:Nat) t,ts[j]?=some t→∃v,vs[i+j]?=some v∧RFo K v t P)→vs.length=i+ts.length→ZdB s.m.2.2 ts=some gv→acc.length+ts.length<ZM→∃Y,ZaB (Zal d) (ZK 100) Z5 Ze3 ρ (ts.length+1) i (acc.map V.int) (K++X)=some ((acc++gv).map V.int,K++Y)
 | [],i,acc,gv,X,hr,hl,e,hc=>by
  cases e
  have hn:vs[i]?=none:=Zy8 (by simp at hl;omega)
  refine⟨X,?_⟩
  have hd':(K++X)[d]?=some vs:=by rw[Zy0 (lt_of_at hd)];exact hd
  simp[ZaB,Zal,hd',hn]
 | one::ts,i,acc,gv,X,hr,hl,e,hc=>by
  obtain⟨k,e1,e⟩:=Zz0.mp e
  obtain⟨gv',e2,e3⟩:=Zz1.mp e
  subst e3
  obtain⟨t,e4,e5⟩:=Zz0.mp e1
  have et:t=.int k:=by
   cases t <;> simp[unI]at e5
   rw[e5]
  subst et
  obtain⟨v,v1,F1,v2,v3⟩:=hr 0 one rfl
  rw[Nat.add_zero]at v1
  have hd':(K++X)[d]?=some vs:=by rw[Zy0 (lt_of_at hd)];exact hd
  have hb':(K++X)[b]?=some (s.m.2.2.map V.int):=by rw[Zy0 (lt_of_at hb)];exact hb
  have ho':(K++X)[o]?=some [vp,vw,.ref kk,.int s.n,.ref w,ZY s.m b]:=by rw[Zy0 (lt_of_at ho)];exact ho
  obtain⟨u,Z,F,g1,g2,_⟩:=Ziu (K++X) [v,.ref b] [one,ZI s.m.2.2] (.int k) _ (by rw[List.length_append];omega) (.cons (v2.ext X) (.one (Zd7 hb'))) e4
  cases g2
  obtain⟨Y,y1⟩:=ZjB h0 ho hb hd hp ts (i+1) (acc++[k]) gv' (X++Z) (fun j t e=>by
   have:=hr (j+1) t (by simpa using e)
   rw[show i+(j+1)=i+1+j by omega]at this
   exact this) (by rw[hl];simp;omega) e2 (by simp at hc ⊢;omega)
  refine⟨Y,?_⟩
  have g3:Ze3 (upd ρ 100 v) (K++X)=some (.int k,K++(X++Z)):=by
   rw[List.append_assoc]at g1
   simp only[ZY]at ho'
   simp[Ze3,Zk,Zb,Zd,Za,upd,h0,Zc,ZO,Z1,ho',Ze,i32]
   exact g1
  have hc':acc.length<ZM:=by simp at hc;omega
  rw[List.length_cons]
  have y1':ZaB (Zal d) (ZK 100) Z5 Ze3 ρ (ts.length+1) (i+1) (acc.map V.int++[V.int k]) (K++(X++Z))=some ((acc++k::gv').map V.int,K++Y):=by
   have:(acc++[k]).map V.int=acc.map V.int++[V.int k]:=by simp
   rw[←this,y1]
   simp
  show((Zal d i (K++X)).bind _)=_
  have hx:Zal d i (K++X)=some (some v):=by simp[Zal,hd',v1]
  rw[hx]
  simp only[Zs0,ZK,Z5,if_true,g3,List.length_map,hc']
  exact y1'
theorem ZjC{t:T}{m:Mo}(e:ZgJ t=some m): ∃ts,t=.tup [.int m.1,.int m.2.1,.lst ts]∧Zbb ts=some m.2.2:=by
 unfold ZgJ at e
 split at e
 case h_2=>first|exact Zx0 e|cases e
 obtain⟨l,e1,e2⟩:=Zz1.mp e
 subst e2
 exact⟨_,rfl,e1⟩
theorem ZkF{v:V}{m:Mo}{ts:List T}{F:List Nat}(r:RF K v (.tup [.int m.1,.int m.2.1,.lst ts]) F)(e:Zbb ts=some m.2.2): ∃b',v=ZY m b'∧K[b']?=some (m.2.2.map V.int)∧F=[b']:=by
 cases r with
 | tup hs=>
  cases hs with
  | cons a hs=>
   cases a
   cases hs with
   | cons a hs=>
    cases a
    cases hs with
    | cons a hs=>
     cases hs
     cases a with
     | ref e1 hs=>
      obtain⟨rfl,rfl,_⟩:=ZeG e hs
      exact⟨_,rfl,e1,by simp⟩
theorem ZmP{s':RS}{vrow:V}{row:T}(R:Rn K o w b m0 vp vw kk tp tw ks s)(r:RFo K vrow row (Off o w m0))(e:Zgr tp s row=some s'): ∃K',ZfK [.obj Runner_c o,vrow] K=some (.none,K')∧Zfs K K' o w m0 vp vw kk tp tw ks s':=by
 have rr:=r
 unfold Zgr at e
 split at e
 case isFalse=>first|exact Zx0 e|cases e
 rename_i hlw
 split at e
 case h_2=>first|exact Zx0 e|cases e
 rename_i th tw0 tx g sums tq
 split at e
 case isFalse=>first|exact Zx0 e|cases e
 rename_i hls
 obtain⟨gv,e1,e⟩:=Zz0.mp e
 obtain⟨m,e2,e⟩:=Zz1.mp e
 subst e
 obtain⟨t,e2,e3⟩:=Zz0.mp e2
 obtain⟨ts,rfl,e4⟩:=ZjC e3
 obtain⟨vs3,rfl,d1⟩:=r.tup
 obtain⟨vh,_,rfl,_,d1⟩:=Zak d1
 obtain⟨va,_,rfl,d2,d1⟩:=Zak d1
 obtain⟨vq,_,rfl,d3,d1⟩:=Zak d1
 have:=Zc4 d1;subst this
 obtain⟨vas,rfl,d4⟩:=d2.tup
 obtain⟨v1,_,rfl,_,d4⟩:=Zak d4
 obtain⟨v2,_,rfl,_,d4⟩:=Zak d4
 obtain⟨v3,_,rfl,d5,d4⟩:=Zak d4
 obtain⟨v4,_,rfl,d6,d4⟩:=Zak d4
 have:=Zc4 d4;subst this
 have:=d5.int;subst this
 obtain⟨d,vs,rfl,hd,_,rs⟩:=d6.lst
 obtain⟨ws,w1,w2⟩:=R.hw
 have ho:=R.ho
 have hb:=R.hb
 have lo:=lt_of_at R.ho
 have lw:=lt_of_at w1
 have lvs:vs.length=sums.length:=by obtain⟨F,r,_⟩:=rs;exact r.length
 obtain⟨Y,gl⟩:=ZjB (ρ:=upd (fun i=>[V.obj Runner_c o,V.tup [vh,V.tup [v1,v2,V.int g,V.ref d],vq]][i]?) 2 (V.tup [v1,v2,V.int g,V.ref d])) (d:=d) (vs:=vs) (P:=Off o w m0) (by simp[upd]) ho hb hd (by omega) sums 0 [] gv [] (fun j t e=>by rw[Nat.zero_add];exact Zd6 rs e) (by omega) e1 (by rw[Zab];simp;omega)
 simp only[List.map_nil,List.append_nil,List.nil_append]at gl
 generalize hK3:K++Y++[gv.map V.int]=K3
 have l3:K3.length=K.length+Y.length+1:=by rw[←hK3];simp;omega
 have k3:∀a,a<K.length→K3[a]?=K[a]?:=fun a l=>by
  rw[←hK3,List.append_assoc,Zy0 l]
 have k3g:K3[(K++Y).length]?=some (gv.map V.int):=by rw[←hK3];simp
 generalize hK4:K3.set w (ws++[.tup [ZY s.m b,V.tup [vh,V.tup [v1,v2,V.int g,V.ref d],vq]]])=K4
 have l4:K4.length=K3.length:=by rw[←hK4];simp
 have lg:(K++Y).length<K3.length:=lt_of_at k3g
 have lky:(K++Y).length=K.length+Y.length:=by simp
 have k4:∀a,a<K3.length→a≠w→K4[a]?=K3[a]?:=fun a l h=>by rw[←hK4,Zy2 (Ne.symm h)]
 have k4w:K4[w]?=some (ws++[.tup [ZY s.m b,V.tup [vh,V.tup [v1,v2,V.int g,V.ref d],vq]]]):=by rw[←hK4,Zy6 (by omega)]
 have kp4:∀a,Off o w m0 a→a<K.length→K4[a]?=K[a]?:=fun a p l=>(k4 a (by omega) p.2.1).trans (k3 a l)
 obtain⟨Fp,rp,_⟩:=R.rp.keep kp4
 obtain⟨v',X,F,g1,g2,g3,g4⟩:=Zjq K4 [vp,.int g,.ref (K++Y).length] [tp,.int g,ZI gv] _ _ (by omega) (.cons rp (.cons (.int g) (.one (Zd7 ((k4 _ lg (by omega)).trans k3g))))) e2
 obtain⟨b',rfl,gb,rfl⟩:=ZkF (m:=m) g2 e4
 have hb':=(g4 rfl).2 b' List.mem_cons_self
 have lb':=lt_of_at gb
 generalize hK5:(K4++X).set o [vp,vw,.ref kk,.int s.n,.ref w,ZY m b']=K5
 have l5:K5.length=K4.length+X.length:=by rw[←hK5];simp
 have kp:∀a,a<K.length→a≠o→a≠w→K5[a]?=K[a]?:=fun a la ha hw=>by
  rw[←hK5,Zy2 (Ne.symm ha),Zy0 (show a<K4.length by omega),k4 a (by omega) hw,k3 a la]
 have k5w:K5[w]?=K4[w]?:=by
  rw[←hK5,List.getElem?_set_ne R.ow,Zy0 (show w<K4.length by omega)]
 have kpo:∀a,Off o w m0 a→a<K.length→K5[a]?=K[a]?:=fun a p l=>kp a l p.1 p.2.1
 refine⟨K5,?_,R.mk' (b':=b') kp ?_ ⟨_,k5w.trans k4w,?_⟩ ?_ (by omega) (by omega)⟩
 ·unfold ZfK Zhp ZG
  simp only[List.length_cons,List.length_nil,if_true]
  rw[ZaA (ρ1:=upd (fun i=>[V.obj Runner_c o,V.tup [vh,V.tup [v1,v2,V.int g,V.ref d],vq]][i]?) 2 (V.tup [v1,v2,V.int g,V.ref d])) (H1:=K) (by simp[Zu,Zc,Za,Ze,i31])]
  rw[ZaA (ρ1:=upd (upd (fun i=>[V.obj Runner_c o,V.tup [vh,V.tup [v1,v2,V.int g,V.ref d],vq]][i]?) 2 (V.tup [v1,v2,V.int g,V.ref d])) 3 (.ref (K++Y).length)) (H1:=K3) (by
   have gl':=gl
   rw[←lvs]at gl'
   simp only[Ze3]at gl'
   simp only[Zu,Zao,Zaq,Zc,Za,upd,if_true,Zs1,Zs0,Ze,i43,hd]
   rw[gl']
   simp[←hK3])]
  have h3o:K3[o]?=some [vp,vw,.ref kk,.int s.n,.ref w,ZY s.m b]:=(k3 o lo).trans ho
  have h3w:K3[w]?=some ws:=(k3 w lw).trans w1
  have lws:ws.length<100000:=by have:=w2.length;omega
  rw[ZaA (ρ1:=upd (upd (fun i=>[V.obj Runner_c o,V.tup [vh,V.tup [v1,v2,V.int g,V.ref d],vq]][i]?) 2 (V.tup [v1,v2,V.int g,V.ref d])) 3 (.ref (K++Y).length)) (H1:=K4) (by
   simp[ZP,Zau,ZO,Z1,Za,upd,h3o,Z3,Zb,Zd,Zb3,h3w,R.w0,Zab,lws,hK4])]
  have h4o:K4[o]?=some [vp,vw,.ref kk,.int s.n,.ref w,ZY s.m b]:=(k4 o (by omega) R.ow).trans h3o
  have kxo:(K4++X)[o]?=some [vp,vw,.ref kk,.int s.n,.ref w,ZY s.m b]:=by rw[Zy0 (show o<K4.length by omega),h4o]
  have e0:ZaH Runner_c 5 (.obj Runner_c o) (ZY m b') (K4++X)=some K5:=by
   simp[ZaH,R.o0,kxo,←hK5]
  have u1:ZO (Z1 Runner_c 0) (Za 0) (upd (upd (fun i=>[V.obj Runner_c o,V.tup [vh,V.tup [v1,v2,V.int g,V.ref d],vq]][i]?) 2 (V.tup [v1,v2,V.int g,V.ref d])) 3 (.ref (K++Y).length)) K4=some (vp,K4):=by
   simp[ZO,Z1,Za,upd,h4o]
  simp only[Zat,Zk,Zb,Zd,u1,Zs0,Zc,Za,upd,Ze,i42]
  simp only[if_true,if_false,Zs1,Zs0,i42,g1,show(2=3)=False from by simp,show(0=3)=False from by simp,show(0=2)=False from by simp,List.getElem?_cons_zero,e0]
  rfl
 ·rw[←hK5,Zy6 (by rw[List.length_append];omega)]
 ·refine .snoc (w2.keep kpo) ⟨b,_,rfl,(kpo b R.bo (lt_of_at hb)).trans hb,R.bo,?_⟩
  exact rr.keep kpo
 ·rw[←hK5,Zy2 (by omega)]
  exact gb
end
end L
open PySem PM TM
namespace L
section
variable {K:Hp} {o w b m0:Nat} {vp vw:V} {kk:Nat} {tp tw:T} {ks:List Int} {s:RS}
theorem Zny{wd:Str}{as:List V}(R:Rn K o w b m0 vp vw kk tp tw ks s)(hwd:PyData.strOk wd=true): ∃K',Zfx [.obj Runner_c o,.tup (.str wd::as)] K=some (.int (ZaL ks s.n wd).2,K')∧K'.length=K.length∧K'[o]?=some [vp,vw,.ref kk,.int (ZaL ks s.n wd).1,.ref w,ZY s.m b]∧∀a,a≠o→K'[a]?=K[a]?:=by
 have hn:=ZpK hwd (show PyData.strOk (Str.ofString "any")=true by decide +kernel) K
 unfold Zfx ZgZ ZG ZaL
 simp only[List.length_cons,List.length_nil,if_true]
 by_cases c:wd=Str.ofString "any"
 ·rw[decide_eq_true c]at hn
  generalize hK1:K.set o [vp,vw,.ref kk,.int (s.n+1:Nat),.ref w,ZY s.m b]=K1
  have lo:=lt_of_at R.ho
  have h1o:K1[o]?=some [vp,vw,.ref kk,.int (s.n+1:Nat),.ref w,ZY s.m b]:=by rw[←hK1,Zy6 lo]
  have h1k:K1[kk]?=some (ks.map V.int):=by rw[←hK1,Zy2 (Ne.symm R.ko.1)];exact R.rk
  refine⟨K1,?_,by rw[←hK1];simp,by simp[c,h1o],fun a h=>by rw[←hK1,Zy2 (Ne.symm h)]⟩
  rw[ZaA (ρ1:=(fun i=>[V.obj Runner_c o,V.tup (V.str wd::as)][i]?)) (H1:=K) (by simp[ZE,ZA,Zc,Za,Ze,ia0,ZN,hn,Zac,ZV])]
  rw[ZaA (ρ1:=(fun i=>[V.obj Runner_c o,V.tup (V.str wd::as)][i]?)) (H1:=K1) (by
   have e0:ZaH Runner_c 3 (.obj Runner_c o) (.int ((s.n:Int)+1)) K=some K1:=by
    simp[ZaH,R.o0,R.ho,←hK1]
   simp[Zat,Zc,ZO,Z1,Za,R.ho,Ze,e0])]
  have lk:Zan [.ref kk] K1=some (.int ks.length,K1):=by simp[Zan,h1k]
  by_cases c2:ks.length<s.n+1
  ·have hg:ks.getD s.n 0=0:=by
    rw[List.getD_eq_getElem?_getD,Zy8 (by omega)];rfl
   have c3:((ks.length:Int)<(s.n:Int)+1):=by omega
   simp[Zp,ZE,ZA,Zc,ZO,Z1,Za,h1o,Zk,Zb,Zd,lk,Zac,c3,Zw,Ze,c]
   rw[Zy8 (by omega)]
   rfl
  ·have c3:¬((ks.length:Int)<(s.n:Int)+1):=by omega
   have hx:Zl (.ref kk) (.int ((s.n:Int)+1-1)) K1=some (.int (ks.getD s.n 0),K1):=by
    have:seqIndex? ((s.n:Int)+1-1) ks.length=some s.n:=by unfold seqIndex?;simp;omega
    simp only[Zl,h1k,Zs0,List.length_map,this]
    rw[List.getElem?_map,Zy1 (by omega),List.getD_eq_getElem?_getD,Zy1 (by omega)]
    rfl
   simp only[Zp,ZE,ZA,Zc,ZO,Z1,Za,List.getElem?_cons_zero,Zs1,Zs0,if_true,h1o,Zk,Zb,Zd,List.getElem?_cons_succ]
   simp[lk,Zac,c3,ZV,Zw,Za,Ze,h1o,ZO,Zc,Z1,hx,c]
   simp only[Int.add_sub_cancel]at hx
   rw[hx]
   simp
 ·rw[decide_eq_false c]at hn
  refine⟨K,?_,rfl,by simp[c,R.ho],fun _ _=>rfl⟩
  simp[Zp,ZE,ZA,Zc,Za,Ze,ia0,ZN,hn,Zac,Zw,c]
noncomputable def Ze4: Sm:=Zp (Zu 5 (Zk Ze1 (Zb (Zc Zl (Za 3) (Ze 2)) (Zb (Zc Zl (Za 4) (Ze 1)) (Zb (Za 2) Zd))))) (ZE (ZA (Zc Zdw (Za 5) (Zbi))) (Zat (Runner_c) 5 (Z3 (Zb (Zc Zl (Za 3) (Ze 0)) (Zb (Zc Zl (Za 4) (Ze 2)) (Zb (Za 5) Zd)))) (Za 0)) ZV)
noncomputable def AlI(K:Hp)(o w:Nat)(vp vw:V)(kk n b:Nat)(s:RS)(acc:Option Mo)(K1:Hp): Prop:=K.length≤K1.length∧(∀a,a<K.length→a≠o→K1[a]?=K[a]?)∧match acc with
 | none=>K1[o]?=some [vp,vw,.ref kk,.int n,.ref w,ZY s.m b]
 | some m=>∃b',K.length≤b'∧K1[o]?=some [vp,vw,.ref kk,.int n,.ref w,ZY m b']∧K1[b']?=some (m.2.2.map V.int)
theorem AlI.at{n:Nat}{acc:Option Mo}{K1:Hp}(h:AlI K o w vp vw kk n b s acc K1): ∃x,K1[o]?=some [vp,vw,.ref kk,.int n,.ref w,x]:=by
 obtain⟨_,_,h⟩:=h
 cases acc with
 | none=>exact⟨_,h⟩
 | some m=>obtain⟨b',_,h,_⟩:=h;exact⟨_,h⟩
theorem ZjD{P:Nat→Prop}(hPo:∀a,P a→a≠o)(o0:o≠0){n r:Nat}{pick:Int}{vs:List V}(lo:o<K.length)(hr:K[r]?=some vs)(ro:r≠o)(hb:K[b]?=some (s.m.2.2.map V.int))(bo:b≠o): ∀(ts:List T) (i:Nat) (acc fin:Option Mo) (K1:Hp) (ρ:Lc),(∀(j:Nat) t,ts[j]?=some t→∃v,vs[i+j]?=some v∧RFo K v t P)→vs.length=i+ts.length→ρ 0=some (.obj Runner_c o)→ρ 2=some (.int pick)→ρ 3=some (ZY s.m b)→AlI K o w vp vw kk n b s acc K1→Zd5 s.m.2.2 s.m.1 pick ts acc=some fin→∃ρ' K',Zbe (Zal r) (ZK 4) Ze4 (ts.length+1) i ρ K1=some (none,ρ',K')∧AlI K o w vp vw kk n b s fin K'
 | [],i,acc,fin,K1,ρ,hv,hl,h0,h2,h3,A,e=>by
  cases e
  have hn:vs[i]?=none:=Zy8 (by simp at hl;omega)
  have hr':K1[r]?=some vs:=(A.2.1 r (lt_of_at hr) ro).trans hr
  exact⟨ρ,K1,by simp[Zbe,Zal,hr',hn],A⟩
 | t::ts,i,acc,fin,K1,ρ,hv,hl,h0,h2,h3,A,e=>by
  obtain⟨⟨act,q⟩,e0,e9⟩:=Zz0.mp e
  obtain⟨dn,e1,e2⟩:=Zz0.mp e9
  obtain⟨th,rfl⟩:=ZmG e0
  obtain⟨dt,e3,e4⟩:=Zz0.mp e1
  obtain⟨v,v1,v2⟩:=hv 0 _ rfl
  rw[Nat.add_zero]at v1
  have v2':=v2
  obtain⟨vs3,rfl,d1⟩:=v2.tup
  obtain⟨vh,_,rfl,_,d1⟩:=Zak d1
  obtain⟨va,_,rfl,d2,d1⟩:=Zak d1
  obtain⟨vq,_,rfl,d3,d1⟩:=Zak d1
  have:=Zc4 d1;subst this
  have:=d3.int;subst this
  have kp:∀a,P a→a<K.length→K1[a]?=K[a]?:=fun a p l=>A.2.1 a l (hPo a p)
  obtain⟨Fa,ra,_⟩:=d2.keep kp
  have hr':K1[r]?=some vs:=(A.2.1 r (lt_of_at hr) ro).trans hr
  have hb':K1[b]?=some (s.m.2.2.map V.int):=(A.2.1 b (lt_of_at hb) bo).trans hb
  have l1:=A.1
  obtain⟨u,X,F,g1,g2,g3,g4⟩:=ZpI K1 [.ref b,va,.int pick] [ZI s.m.2.2,act,.int pick] dt _ (by omega) (.cons (Zd7 hb') (.cons ra (.one (.int pick)))) e3
  have st5:∀ρ:Lc,ρ 2=some (.int pick)→ρ 3=some (ZY s.m b)→Zu 5 (Zk Ze1 (Zb (Zc Zl (Za 3) (Ze 2)) (Zb (Zc Zl (Za 4) (Ze 1)) (Zb (Za 2) Zd)))) (upd ρ 4 (V.tup [vh,va,V.int q])) K1=some (none,upd (upd ρ 4 (V.tup [vh,va,V.int q])) 5 u,K1++X):=fun ρ h2 h3=>by
   simp[Zu,Zk,Zb,Zd,Zc,Za,upd,h2,h3,Ze,ZY,i32,i31,g1]
  have nxt:∀j,j≤ts.length→True:=fun _ _=>trivial
  have body:∃K2,Ze4 (upd ρ 4 (V.tup [vh,va,V.int q])) K1=some (none,upd (upd ρ 4 (V.tup [vh,va,V.int q])) 5 u,K2)∧AlI K o w vp vw kk n b s (ZgU s.m.1 q acc dn) K2:=by
   unfold Ze4
   rw[ZaA (st5 ρ h2 h3)]
   obtain⟨A1,A2,A3⟩:=A
   have kx:∀a,a<K1.length→(K1++X)[a]?=K1[a]?:=fun a l=>Zy0 l
   cases dt with
   | none=>
    cases e4
    cases g2
    refine⟨K1++X,by simp[ZE,ZA,Zc,Za,upd,Zbi,Zac,ZV],by simp;omega,fun a l h=>(kx a (by omega)).trans (A2 a l h),?_⟩
    cases acc with
    | none=>exact(kx o (by omega)).trans A3
    | some m=>
     obtain⟨b',y1,y2,y3⟩:=A3
     exact⟨b',y1,(kx o (by omega)).trans y2,(kx b' (lt_of_at y3)).trans y3⟩
   | lst dts=>
    obtain⟨l,e5,e6⟩:=Zz1.mp e4
    subst e6
    obtain⟨gn,gl⟩:=g4 rfl
    cases g2 with
    | @ref b' vs' _ F' gb grs=>
    obtain⟨rfl,rfl,_⟩:=ZeG e5 grs
    have hb2:=gl b' List.mem_cons_self
    have lb':=lt_of_at gb
    obtain⟨x,ox⟩:=AlI.at (K:=K) (o:=o) (w:=w) (vp:=vp) (vw:=vw) (kk:=kk) (b:=b) (s:=s) ⟨A1,A2,A3⟩
    have kxo:(K1++X)[o]?=some [vp,vw,.ref kk,.int n,.ref w,x]:=(kx o (by omega)).trans ox
    generalize hK2:(K1++X).set o [vp,vw,.ref kk,.int n,.ref w,ZY (s.m.1,q,l) b']=K2
    have e0:ZaH Runner_c 5 (.obj Runner_c o) (.tup [.int s.m.1,.int q,.ref b']) (K1++X)=some K2:=by
     simp[ZaH,o0,kxo,ZY,←hK2]
    refine⟨K2,?_,by rw[←hK2];simp;omega,fun a l h=>by rw[←hK2,Zy2 (Ne.symm h)];exact(kx a (by omega)).trans (A2 a l h),b',by omega,by rw[←hK2,Zy6 (by rw[List.length_append];omega)],by rw[←hK2,Zy2 (by omega)];exact gb⟩
    simp[ZE,ZA,Zc,Za,upd,Zbi,Zac,Zat,Z3,Zb,Zd,h3,ZY,Ze,i30,i32,Zab,h0,e0]
   | bool _=>first|exact Zx0 e4|cases e4
   | int _=>first|exact Zx0 e4|cases e4
   | str _=>first|exact Zx0 e4|cases e4
   | tup _=>first|exact Zx0 e4|cases e4
   | ob _ _=>first|exact Zx0 e4|cases e4
  obtain⟨K2,b1,b2⟩:=body
  obtain⟨ρ',K',c1,c2⟩:=ZjD hPo o0 lo hr ro hb bo ts (i+1) _ fin K2 (upd (upd ρ 4 (V.tup [vh,va,V.int q])) 5 u) (fun j t e=>by
   have:=hv (j+1) t (by simpa using e)
   rw[show i+(j+1)=i+1+j by omega]at this
   exact this) (by rw[hl];simp;omega) (by simp[upd,h0]) (by simp[upd,h2]) (by simp[upd,h3]) b2 e2
  refine⟨ρ',K',?_,c2⟩
  rw[List.length_cons]
  show((Zal r i K1).bind _)=_
  have hx:Zal r i K1=some (some (V.tup [vh,va,V.int q])):=by simp[Zal,hr',v1]
  rw[hx]
  simp only[Zs0,ZK,b1]
  exact c1
theorem ZmQ{vrows:V}{wd:Str}{th tq:T}{tas rs:List T}{m:Mo}(R:Rn K o w b m0 vp vw kk tp tw ks s)(hwd:PyData.strOk wd=true)(r:RFo K vrows (.lst (.tup [th,.tup (.str wd::tas),tq]::rs)) (Off o w m0))(e:Zd5 s.m.2.2 s.m.1 (ZaL ks s.n wd).2 (.tup [th,.tup (.str wd::tas),tq]::rs) none=some (some m)): ∃K',Zfy [.obj Runner_c o,vrows] K=some (.none,K')∧Zfs K K' o w m0 vp vw kk tp tw ks ⟨(ZaL ks s.n wd).1,s.wt,m⟩:=by
 obtain⟨rr,vs,rfl,hr,hro,rs'⟩:=r.lst
 obtain⟨v0,h0,r0⟩:=Zd6 rs' (j:=0) rfl
 obtain⟨vs3,rfl,d1⟩:=r0.tup
 obtain⟨vh,_,rfl,_,d1⟩:=Zak d1
 obtain⟨va,_,rfl,d2,d1⟩:=Zak d1
 obtain⟨vq,_,rfl,d3,d1⟩:=Zak d1
 have:=Zc4 d1;subst this
 obtain⟨vas,rfl,d4⟩:=d2.tup
 obtain⟨vw0,vas,rfl,d5,_⟩:=Zak d4
 have:=d5.str;subst this
 obtain⟨K1,p1,p2,p3,p4⟩:=Zny (as:=vas) R hwd
 have lo:=lt_of_at R.ho
 have kp:∀a,Off o w m0 a→a<K.length→K1[a]?=K[a]?:=fun a p l=>p4 a p.1
 have hl:vs.length=rs.length+1:=by obtain⟨F,q,_⟩:=rs';have:=q.length;simpa using this
 have hr1:K1[rr]?=some vs:=(p4 rr hro.1).trans hr
 have hb1:K1[b]?=some (s.m.2.2.map V.int):=(p4 b R.bo.1).trans R.hb
 have lp:=ZjD (K:=K1) (o:=o) (w:=w) (b:=b) (vp:=vp) (vw:=vw) (kk:=kk) (s:=s) (P:=Off o w m0) (fun a p=>p.1) R.o0 (n:=(ZaL ks s.n wd).1) (pick:=(ZaL ks s.n wd).2) (by omega) hr1 hro.1 hb1 R.bo.1 (.tup [th,.tup (.str wd::tas),tq]::rs) 0 none (some m) K1 (upd (upd (fun i=>[V.obj Runner_c o,V.ref rr][i]?) 2 (.int (ZaL ks s.n wd).2)) 3 (ZY s.m b)) (fun j t e=>by
  rw[Nat.zero_add]
  obtain⟨v,z1,z2⟩:=Zd6 rs' e
  exact⟨v,z1,z2.keep kp⟩) (by simp[hl]) (by simp[upd]) (by simp[upd]) (by simp[upd]) ⟨Zz10 _,fun _ _ _=>rfl,p3⟩ e
 obtain⟨ρ',K',c1,c2,c3,b',c4,c5,c6⟩:=lp
 have lw:w<K.length:=by obtain⟨ws,w1,_⟩:=R.hw;exact lt_of_at w1
 have kq:∀a,a<K.length→a≠o→K'[a]?=K[a]?:=fun a l h=>(c3 a (by omega) h).trans (p4 a h)
 refine⟨K',?_,R.mk' (b':=b') (fun a l h _=>kq a l h) c5 ?_ c6 (by omega) (by omega)⟩
 ·unfold Zfy Zg0 ZG
  simp only[List.length_cons,List.length_nil,if_true]
  have ix:Zl (.ref rr) (.int 0) K=some (V.tup [vh,V.tup (V.str wd::vas),vq],K):=by
   have:seqIndex? 0 vs.length=some 0:=by rw[hl];unfold seqIndex?;simp
   simp[Zl,hr,this,h0]
  rw[ZaA (ρ1:=upd (fun i=>[V.obj Runner_c o,V.ref rr][i]?) 2 (.int (ZaL ks s.n wd).2)) (H1:=K1) (by
   simp[Zu,ZZ,Za,ZaW,Zb,Zd,Zc,Ze,ix,i31,p1])]
  rw[ZaA (ρ1:=upd (upd (fun i=>[V.obj Runner_c o,V.ref rr][i]?) 2 (.int (ZaL ks s.n wd).2)) 3 (ZY s.m b)) (H1:=K1) (by
   simp[Zu,ZO,Z1,Za,upd,p3])]
  have hx:ZaC (Zaq (Za 1)) (ZK 4) Ze4 (upd (upd (fun i=>[V.obj Runner_c o,V.ref rr][i]?) 2 (.int (ZaL ks s.n wd).2)) 3 (ZY s.m b)) K1=some (none,ρ',K'):=by
   have el:vs.length+1=(T.tup [th,.tup (.str wd::tas),tq]::rs).length+1:=by simp[hl]
   have ev:Zaq (Za 1) (upd (upd (fun i=>[V.obj Runner_c o,V.ref rr][i]?) 2 (.int (ZaL ks s.n wd).2)) 3 (ZY s.m b)) K1=some (Zal rr,vs.length+1,K1):=by
    simp[Zaq,Za,upd,hr1]
   unfold ZaC
   rw[ev,el]
   exact c1
  unfold Ze4 at hx
  rw[hx]
  rfl
 ·obtain⟨ws,w1,w2⟩:=R.hw
  exact⟨ws,(kq w lw (Ne.symm R.ow)).trans w1,w2.keep fun a p l=>kq a l p.1⟩
theorem ZmR{s':RS}(R:Rn K o w b m0 vp vw kk tp tw ks s)(e:Zby tp tw ks s=some s'): ∃K',Zet [.obj Runner_c o] K=some (.none,K')∧Zfs K K' o w m0 vp vw kk tp tw ks s':=by
 obtain⟨rows,e1,e⟩:=Zz0.mp e
 obtain⟨v,h1,h2⟩:=Zkd R e1
 have l1:=Ziy h2
 unfold Zet Zhq ZG
 simp only[List.length_singleton,if_true]
 rw[ZaA (ρ1:=upd (fun i=>[V.obj Runner_c o][i]?) 1 v) (H1:=K) (by simp[Zu,ZZ,Za,ZaW,Zd,h1])]
 cases rows with
 | nil=>
  obtain⟨K',g1,g2⟩:=ZmO R e
  refine⟨K',?_,g2⟩
  simp only[List.length_nil]at l1
  simp[ZE,ZA,Zc,Zk,Zb,Zd,Za,upd,l1,Ze,Zac,ZP,ZZ,ZaW,g1]
 | cons row rs=>
  dsimp only at e
  split at e
  case h_2=>first|exact Zx0 e|cases e
  rename_i th wd tas tq
  split at e
  case isFalse=>first|exact Zx0 e|cases e
  rename_i hwd
  have l3:(((T.tup [th,T.tup (T.str wd::tas),tq]::rs).length:Int) == 0)=false:=by simp;omega
  have h3:=h2
  obtain⟨rr,vs,rfl,hr,hro,rs'⟩:=h2.lst
  obtain⟨v0,h0,r0⟩:=Zd6 rs' (j:=0) rfl
  have r1:=r0
  obtain⟨vs3,rfl,d1⟩:=r0.tup
  obtain⟨vh,_,rfl,_,d1⟩:=Zak d1
  obtain⟨va,_,rfl,d2,d1⟩:=Zak d1
  obtain⟨vq,_,rfl,d3,d1⟩:=Zak d1
  have:=Zc4 d1;subst this
  obtain⟨vas,rfl,d4⟩:=d2.tup
  obtain⟨vw0,vas,rfl,d5,_⟩:=Zak d4
  have:=d5.str;subst this
  have hl:vs.length=rs.length+1:=by obtain⟨F,q,_⟩:=rs';have:=q.length;simpa using this
  have ix:Zl (.ref rr) (.int 0) K=some (V.tup [vh,V.tup (V.str wd::vas),vq],K):=by
   have:seqIndex? 0 vs.length=some 0:=by rw[hl];unfold seqIndex?;simp
   simp[Zl,hr,this,h0]
  have hn:=Zlc hwd (show PyData.strOk (Str.ofString "call")=true by decide +kernel) K
  have t1:ZA (Zc oEq (Zk Zan (Zb (Za 1) Zd)) (Ze 0)) (upd (fun i=>[V.obj Runner_c o][i]?) 1 (.ref rr)) K=some (false,K):=by
   simp only[ZA,Zc,Zk,Zb,Za,upd,if_true,Zs1,Zs0,Zd,l1,Ze,Zlv,l3,Zac]
  have t2:ZA (Zc oEq (Zc Zl (Zc Zl (Zc Zl (Za 1) (Ze 0)) (Ze 1)) (Ze 0)) (ZN (Str.ofString "call"))) (upd (fun i=>[V.obj Runner_c o][i]?) 1 (.ref rr)) K=some (decide (wd=Str.ofString "call"),K):=by
   simp only[ZA,Zc,Za,upd,if_true,Zs1,Zs0,Ze,ix,i31,ia0,ZN,hn,Zac]
  split at e
  ·rename_i hc
   obtain⟨K',g1,g2⟩:=ZmP R r1 e
   refine⟨K',?_,g2⟩
   rw[decide_eq_true hc]at t2
   simp only[ZE,t1,t2,Zs0,Bool.false_eq_true,if_false,if_true]
   simp[ZP,ZZ,Za,upd,ZaW,Zb,Zd,Zc,Ze,ix,g1]
  ·rename_i hc
   obtain⟨m,e2,rfl⟩:=Zz1.mp e
   obtain⟨om,e3,e4⟩:=Zz0.mp e2
   cases e4
   obtain⟨K',g1,g2⟩:=ZmQ R hwd h3 e3
   refine⟨K',?_,g2⟩
   rw[decide_eq_false hc]at t2
   simp only[ZE,t1,t2,Zs0,Bool.false_eq_true,if_false,if_true]
   simp[ZP,ZZ,Za,upd,ZaW,Zb,Zd,g1]
end
end L
open PySem PM TM
namespace L
variable {K:Hp} {a r ts:List T} {c t:T} {e h:Int} {C:List V→Hp→Option (V×Hp)}
theorem Zcz{a:Nat}{x:List V}(e:K[a]?=some x): a<K.length:=(Zz6.mp e).1
structure Ly(K:Hp)(o R L0:Nat)(rows:List T)(u:Int): Prop where
 ho:K[o]?=some [.ref R,.int u]
 hr:∃vs F,K[R]?=some vs∧RFs K vs rows F∧∀a∈F,L0≤a∧a≠o∧a≠R
 lo:L0≤o
 lR:L0≤R
 oR:o≠R
 l0:0<L0
noncomputable def Kl(K K':Hp)(o R:Nat): Prop:=(∀a,a<K.length→a≠o→a≠R→K'[a]?=K[a]?)∧K.length≤K'.length
section
variable {K K' K'':Hp} {o R L0:Nat} {rows:List T} {u:Int}
theorem Kl.trans(a:Kl K K' o R)(b:Kl K' K'' o R): Kl K K'' o R:=⟨fun i l h1 h2=>(b.1 i (Nat.lt_of_lt_of_le l a.2) h1 h2).trans (a.1 i l h1 h2),Nat.le_trans a.2 b.2⟩
theorem Kl.ext(X:Hp): Kl K (K++X) o R:=⟨fun i l _ _=>Zy0 l,by simp⟩
theorem Ly.ext(G:Ly K o R L0 rows u)(X:Hp): Ly (K++X) o R L0 rows u:=by
 obtain⟨vs,F,h1,h2,h3⟩:=G.hr
 exact⟨(Zy0 (Zcz G.ho)).trans G.ho,⟨vs,F,(Zy0 (Zcz h1)).trans h1,h2.ext X,h3⟩,G.lo,G.lR,G.oR,G.l0⟩
theorem RFo.kl{v:V}(r:RFo K v t (· < L0))(k:Kl K K' o R)(lo:L0≤o)(lR:L0≤R): RFo K' v t (· < L0):=r.keep fun a p l=>k.1 a l (by omega) (by omega)
theorem Zh9{b:Int}{va:V}{act:T}{Fa:List Nat}(G:Ly K o R L0 rows u)(ra:RF K va act Fa)(fa:∀a∈Fa,L0≤a∧a≠o∧a≠R)(hl:rows.length<10000): ∃K',ZdU [.obj Layer_c o,.int h,va,.int b] K=some (.none,K')∧Ly K' o R L0 (rows++[rowT h act b]) u∧Kl K K' o R:=by
 obtain⟨vs,F,h1,h2,h3⟩:=G.hr
 have lR:=Zcz h1
 generalize hK:K.set R (vs++[.tup [.int h,va,.int b]])=K2
 have k2:∀a,a≠R→K2[a]?=K[a]?:=fun a h=>by rw[←hK,Zy2 (Ne.symm h)]
 have q1:RF K2 (.tup [.int h,va,.int b]) (rowT h act b) Fa:=by
  have:=RFs.cons (RF.int (H:=K2) h) (RFs.cons (ra.frame fun a m=>k2 a (fa a m).2.2) (RFs.one (RF.int (H:=K2) b)))
  exact .tup (by simpa using this)
 refine⟨K2,?_,⟨(k2 o G.oR).trans G.ho,⟨_,F++Fa,by rw[←hK,Zy6 lR],(h2.frame fun a m=>k2 a (h3 a m).2.2).append (.one q1),fun a m=>(Zz8.mp m).elim (h3 a) (fa a)⟩,G.lo,G.lR,G.oR,G.l0⟩,fun a _ _ h=>k2 a h,by rw[←hK];simp⟩
 have R0:R≠0:=by have:=G.lR;have:=G.l0;omega
 have lv:vs.length<100000:=by rw[h2.length];omega
 unfold ZdU ZhB ZG
 simp[ZP,Zau,ZO,Z1,Za,G.ho,Z3,Zb,Zd,Zb3,h1,R0,lv,Zab,hK]
theorem ZfY{va:V}{act:T}{Fa:List Nat}(G:Ly K o R L0 rows u)(ra:RF K va act Fa)(fa:∀a∈Fa,L0≤a∧a≠o∧a≠R)(hl:rows.length<10000): ∃K',Zce [.obj Layer_c o,.int h,va] K=some (.int (u+1),K')∧Ly K' o R L0 (rows++[rowT h act (u+1)]) (u+1)∧Kl K K' o R:=by
 obtain⟨vs,F,h1,h2,h3⟩:=G.hr
 have lo:=Zcz G.ho
 have o0:o≠0:=by have:=G.lo;have:=G.l0;omega
 generalize hK:K.set o [.ref R,.int (u+1)]=K1
 have k1:∀a,a≠o→K1[a]?=K[a]?:=fun a h=>by rw[←hK,Zy2 (Ne.symm h)]
 have G1:Ly K1 o R L0 rows (u+1):=⟨by rw[←hK,Zy6 lo],⟨vs,F,(k1 R (Ne.symm G.oR)).trans h1,h2.frame fun a m=>k1 a (h3 a m).2.1,h3⟩,G.lo,G.lR,G.oR,G.l0⟩
 obtain⟨K',q1,G',q2⟩:=Zh9 (h:=h) (b:=u+1) G1 (ra.frame fun a m=>k1 a (fa a m).2.1) fa hl
 refine⟨K',?_,G',Kl.trans ⟨fun a _ h _=>k1 a h,by rw[←hK];simp⟩ q2⟩
 have fst:Zat Layer_c 1 (Zc Z0 (ZO (Z1 Layer_c 1) (Za 0)) (Ze 1)) (Za 0) (fun i=>[V.obj Layer_c o,.int h,va][i]?) K=some (none,(fun i=>[V.obj Layer_c o,.int h,va][i]?),K1):=by
  simp[Zat,Zc,ZO,Z1,Za,G.ho,Ze,ZaH,o0,hK]
 unfold Zce Zg9 ZG
 rw[if_pos (by rfl),ZaA fst]
 simp[Zp,ZP,ZZ,Za,ZaW,Zb,ZO,Z1,G1.ho,Zd,q1,Zw,G'.ho]
noncomputable def LaS(C:List V→Hp→Option (V×Hp))(o R L0:Nat)(t:T)(r:List T)(u e:Int): Prop:=∀(K:Hp) (rows:List T) (v:V),rows.length+r.length≤9000→Ly K o R L0 rows u→RFo K v t (· < L0)→∃K',C [.obj Layer_c o,v,.int u] K=some (.int e,K')∧Ly K' o R L0 (rows++r) e∧Kl K K' o R
theorem ZfZ{vc:V}{b:Bool}(G:Ly K o R L0 rows u)(hc:Nice 2 c)(rc:RFo K vc c (· < L0))(hl:rows.length<10000): ∃va X K',Zdm [vc,.bool b] K=some (va,K++X)∧Zce [.obj Layer_c o,.int h,va] (K++X)=some (.int (u+1),K')∧Ly K' o R L0 (rows++[rowT h (ZaK c b) (u+1)]) (u+1)∧Kl K K' o R:=by
 obtain⟨Fc,rc,_⟩:=rc
 have lo:=Zcz G.ho
 obtain⟨vs,F,h1,_,_⟩:=G.hr
 have lR:=Zcz h1
 obtain⟨va,X,Fa,g1,g2,g3,g4⟩:=Zmh K [vc,.bool b] [c,.bool b] _ _ (by omega) (.cons rc (.one (.bool b))) (Zov hc)
 have:=(g4 rfl).2
 obtain⟨K',q1,q2,q3⟩:=ZfY (h:=h) (G.ext X) g2 (fun a m=>by have:=this a m;have:=G.lo;exact⟨by omega,by omega,by omega⟩) hl
 exact⟨va,X,K',g1,q1,q2,(Kl.ext X).trans q3⟩
theorem Zgs: RF K (.tup [.str (Str.ofString "go")]) goT []:=.tup (by simpa using RFs.one (RF.str (H:=K) (Str.ofString "go")))
theorem Zfh{L0 o R:Nat}: ∀a∈([]:List Nat),L0≤a∧a≠o∧a≠R:=fun a m=>(List.not_mem_nil m).elim
theorem ZoC{b ra rb:List T}{ea eb:Int}(hc:Nice 2 c)(ha:LaS C o R L0 (.lst a) ra (u+1) ea)(hb:LaS C o R L0 (.lst b) rb (ea+1) eb): LaS (ZfG C) o R L0 (ifT c a b) (rowT u (ZaK c true) (u+1)::(ra++rowT u (ZaK c false) (ea+1)::(rb++[rowT ea goT (eb+1),rowT eb goT (eb+1)]))) u (eb+1):=by
 intro K rows v hl G r
 simp only[List.length_cons,List.length_append,List.length_nil]at hl
 obtain⟨vs0,rfl,rs0⟩:=r.tup
 obtain⟨vw,vs1,rfl,d0,rs1⟩:=Zak rs0
 obtain⟨vc,vs2,rfl,dc,rs2⟩:=Zak rs1
 obtain⟨va,vs3,rfl,da,rs3⟩:=Zak rs2
 obtain⟨vb,vs4,rfl,db,rs4⟩:=Zak rs3
 have:=Zc4 rs4;subst this
 obtain⟨w1,X1,K1,p1,p2,G1,k1⟩:=ZfZ (h:=u) (b:=true) G hc dc (by omega)
 obtain⟨K2,p3,G2,k2⟩:=ha K1 _ va (by simp;omega) G1 (da.kl k1 G.lo G.lR)
 obtain⟨w3,X3,K3,p4,p5,G3,k3⟩:=ZfZ (h:=u) (b:=false) G2 hc (dc.kl (k1.trans k2) G.lo G.lR) (by simp;omega)
 obtain⟨K4,p6,G4,k4⟩:=hb K3 _ vb (by simp;omega) G3 (db.kl ((k1.trans k2).trans k3) G.lo G.lR)
 obtain⟨K5,p7,G5,k5⟩:=ZfY (h:=ea) G4 Zgs Zfh (by simp;omega)
 obtain⟨K6,p8,G6,k6⟩:=Zh9 (h:=eb) (b:=eb+1) G5 Zgs Zfh (by simp;omega)
 refine⟨K6,?_,by simpa using G6,((((k1.trans k2).trans k3).trans k4).trans k5).trans k6⟩
 unfold ZfG Zhl ZG
 have i1:∀H,Zl (.tup [vw,vc,va,vb]) (.int 1) H=some (vc,H):=fun _=>rfl
 have i2:∀H,Zl (.tup [vw,vc,va,vb]) (.int 2) H=some (va,H):=fun _=>rfl
 have i3:∀H,Zl (.tup [vw,vc,va,vb]) (.int 3) H=some (vb,H):=fun _=>rfl
 have ln:(1:Nat)≤ZM:=by rw[Zab];omega
 simp[Zp,Zu,ZP,Zw,ZZ,Za,upd,ZaW,Zb,Zd,Zk,Zc,Ze,Zbs,ZN,Z3,i1,i2,i3,p1,p2,p3,p4,p5,p6,p7,p8,ln]
theorem ZoD{ra:List T}{ea:Int}(hc:Nice 2 c)(ha:LaS C o R L0 (.lst a) ra (u+2) ea): LaS (Zfw C) o R L0 (whT c a) (rowT u goT (u+1)::rowT (u+1) (ZaK c true) (u+2)::(ra++[rowT ea goT (u+1),rowT (u+1) (ZaK c false) (ea+1)])) u (ea+1):=by
 intro K rows v hl G r
 simp only[List.length_cons,List.length_append,List.length_nil]at hl
 obtain⟨vs0,rfl,rs0⟩:=r.tup
 obtain⟨vw,vs1,rfl,d0,rs1⟩:=Zak rs0
 obtain⟨vc,vs2,rfl,dc,rs2⟩:=Zak rs1
 obtain⟨va,vs3,rfl,da,rs3⟩:=Zak rs2
 have:=Zc4 rs3;subst this
 obtain⟨K1,p1,G1,k1⟩:=ZfY (h:=u) G Zgs Zfh (by omega)
 obtain⟨w2,X2,K2,p2,p3,G2,k2⟩:=ZfZ (h:=u+1) (b:=true) G1 hc (dc.kl k1 G.lo G.lR) (by simp;omega)
 rw[show u+1+1=u+2 by omega]at p3 G2
 obtain⟨K3,p4,G3,k3⟩:=ha K2 _ va (by simp;omega) G2 (da.kl (k1.trans k2) G.lo G.lR)
 obtain⟨K4,p5,G4,k4⟩:=Zh9 (h:=ea) (b:=u+1) G3 Zgs Zfh (by simp;omega)
 obtain⟨w5,X5,K5,p6,p7,G5,k5⟩:=ZfZ (h:=u+1) (b:=false) G4 hc (dc.kl (((k1.trans k2).trans k3).trans k4) G.lo G.lR) (by simp;omega)
 refine⟨K5,?_,by simpa using G5,(((k1.trans k2).trans k3).trans k4).trans k5⟩
 unfold Zfw ZgY ZG
 have i1:∀H,Zl (.tup [vw,vc,va]) (.int 1) H=some (vc,H):=fun _=>rfl
 have i2:∀H,Zl (.tup [vw,vc,va]) (.int 2) H=some (va,H):=fun _=>rfl
 have ln:(1:Nat)≤ZM:=by rw[Zab];omega
 simp[Zp,Zu,ZP,Zw,ZZ,Za,upd,ZaW,Zb,Zd,Zk,Zc,Ze,Zbs,ZN,Z3,i1,i2,p1,p2,p3,p4,p5,p6,p7,ln]
theorem ZeJ{ρ:Lc}{wd w:Str}{as:List V}(h:ρ 1=some (.tup (.str wd::as)))(h1:PyData.strOk wd=true)(h2:PyData.strOk w=true): ZA (Zc oEq (Zc Zl (Za 1) (Ze 0)) (ZN w)) ρ K=some (decide (wd=w),K):=by
 have i0:Zl (.tup (.str wd::as)) (.int 0) K=some (.str wd,K):=by
  have:seqIndex? 0 (as.length+1)=some 0:=by unfold seqIndex?;simp
  simp[Zl,this]
 simp[ZA,Zc,Za,h,Ze,i0,ZN,Zlc h1 h2,Zac]
theorem Znz{n:Nat}(hC:∀m,m<n→∀ts u r e,LyB (LyS m) ts u r e→LaS C o R L0 (.lst ts) r u e)(h:LyS n t u r e): LaS (Zcd C) o R L0 t r u e:=by
 have plain:ZcV t→r=[rowT u t (u+1)]→e=u+1→LaS (Zcd C) o R L0 t r u e:=by
  rintro⟨hN,w,rest,rfl,q1,q2⟩ rfl rfl K rows v hl G r
  have rr:=r
  obtain⟨Fr,r0,_⟩:=r
  have lo:=Zcz G.ho
  obtain⟨vs,F,h1,_,_⟩:=G.hr
  have lR:=Zcz h1
  obtain⟨va,X,Fa,g1,g2,g3,g4⟩:=ZkC K [v] [_] _ _ (by omega) (.one r0) (ZjA (hN.mono (by decide)))
  have nw:=(g4 rfl).2
  obtain⟨K',p1,G',k'⟩:=ZfY (h:=u) (G.ext X) g2 (fun a m=>by have:=nw a m;have:=G.lo;exact⟨by omega,by omega,by omega⟩) (by simp at hl;omega)
  refine⟨K',?_,G',(Kl.ext X).trans k'⟩
  obtain⟨vs0,rfl,rs0⟩:=rr.tup
  obtain⟨vw,vs1,rfl,d0,rs1⟩:=Zak rs0
  have:=d0.str;subst this
  simp only[Bool.and_eq_true,decide_eq_true_eq]at q1 q2
  have t1:=ZeJ (K:=K) (ρ:=fun i=>[V.obj Layer_c o,.tup (.str w::vs1),.int u][i]?) (w:=Str.ofString "if") rfl q1.1.1 (by decide +kernel)
  have t2:=ZeJ (K:=K) (ρ:=fun i=>[V.obj Layer_c o,.tup (.str w::vs1),.int u][i]?) (w:=Str.ofString "while") rfl q1.1.1 (by decide +kernel)
  rw[decide_eq_false (show w≠Str.ofString "if" from q1.2)]at t1
  rw[decide_eq_false (show w≠Str.ofString "while" from q2.2)]at t2
  unfold Zcd Zel ZG
  simp only[List.length_cons,List.length_nil,if_true,Zp,ZE,t1,t2,Zs0,Bool.false_eq_true,if_false,ZV]
  simp[Zw,ZZ,Za,ZaW,Zb,Zd,Zk,g1,p1]
 match n,h with
 | 0,h=>exact plain h.1 h.2.1 h.2.2
 | n+1,h=>
  rcases h with⟨h1,h2,h3⟩ | ⟨c,a,b,ra,ea,rb,eb,rfl,hc,ha,hb,rfl,rfl⟩ | ⟨c,a,ra,ea,rfl,hc,ha,rfl,rfl⟩
  ·exact plain h1 h2 h3
  ·intro K rows v hl G r
   obtain⟨K',p1,G',k'⟩:=ZoC hc (hC n (by omega) _ _ _ _ ha) (hC n (by omega) _ _ _ _ hb) K rows v hl G r
   refine⟨K',?_,G',k'⟩
   obtain⟨vs0,rfl,rs0⟩:=r.tup
   obtain⟨vw,vs1,rfl,d0,rs1⟩:=Zak rs0
   have:=d0.str;subst this
   have t1:=ZeJ (K:=K) (ρ:=fun i=>[V.obj Layer_c o,.tup (.str iF::vs1),.int u][i]?) (wd:=iF) (w:=Str.ofString "if") rfl (by decide +kernel) (by decide +kernel)
   rw[decide_eq_true (show iF=Str.ofString "if" from rfl)]at t1
   unfold Zcd Zel ZG
   simp only[List.length_cons,List.length_nil,if_true,Zp,ZE,t1,Zs0]
   simp[Zw,ZZ,Za,ZaW,Zb,Zd,p1]
  ·intro K rows v hl G r
   obtain⟨K',p1,G',k'⟩:=ZoD hc (hC n (by omega) _ _ _ _ ha) K rows v hl G r
   refine⟨K',?_,G',k'⟩
   obtain⟨vs0,rfl,rs0⟩:=r.tup
   obtain⟨vw,vs1,rfl,d0,rs1⟩:=Zak rs0
   have:=d0.str;subst this
   have t1:=ZeJ (K:=K) (ρ:=fun i=>[V.obj Layer_c o,.tup (.str wH::vs1),.int u][i]?) (wd:=wH) (w:=Str.ofString "if") rfl (by decide +kernel) (by decide +kernel)
   rw[decide_eq_false (by decide +kernel)]at t1
   have t2:=ZeJ (K:=K) (ρ:=fun i=>[V.obj Layer_c o,.tup (.str wH::vs1),.int u][i]?) (wd:=wH) (w:=Str.ofString "while") rfl (by decide +kernel) (by decide +kernel)
   rw[decide_eq_true (show wH=Str.ofString "while" from rfl)]at t2
   unfold Zcd Zel ZG
   simp only[List.length_cons,List.length_nil,if_true,Zp,ZE,t1,t2,Zs0,Bool.false_eq_true,if_false,ZV]
   simp[Zw,ZZ,Za,ZaW,Zb,Zd,p1]
theorem ZjE{C:List V→Hp→Option (V×Hp)}{n pb:Nat}{vs:List V}(hS:∀t u r e,LyS n t u r e→LaS (Zcd C) o R L0 t r u e)(hpb:pb<L0){e:Int}: ∀(ts:List T) (i:Nat) (u:Int) (r rows:List T) (K:Hp) (ρ:Lc),LyB (LyS n) ts u r e→rows.length+r.length≤9000→vs.length=i+ts.length→K[pb]?=some vs→(∀(j:Nat) t,ts[j]?=some t→∃v,vs[i+j]?=some v∧RFo K v t (· < L0))→Ly K o R L0 rows u→ρ 0=some (.obj Layer_c o)→ρ 3=some (.int u)→∃K' ρ',Zbe (Zal pb) (ZK 4) (Zu 3 (ZZ (Layer_c) (Zcd C) (Za 0) (Zb (Za 4) (Zb (Za 3) Zd)))) (ts.length+1) i ρ K=some (none,ρ',K')∧ρ' 3=some (.int e)∧Ly K' o R L0 (rows++r) e∧Kl K K' o R
 | [],i,u,r,rows,K,ρ,h,hl,hv,hp,hx,G,r0,r3=>by
  cases h
  have hn:vs[i]?=none:=Zy8 (by simp at hv;omega)
  exact⟨K,ρ,by simp[Zbe,Zal,hp,hn],r3,by simpa using G,fun _ _ _ _=>rfl,Nat.le_refl _⟩
 | t::ts,i,u,r,rows,K,ρ,h,hl,hv,hp,hx,G,r0,r3=>by
  cases h with
  | @cons _ _ _ e1 _ ra rb hs hb=>
   simp only[List.length_append]at hl
   obtain⟨v,v1,v2⟩:=hx 0 t rfl
   rw[Nat.add_zero]at v1
   obtain⟨K1,p1,G1,k1⟩:=hS _ _ _ _ hs K rows v (by omega) G v2
   have hpl:=Zcz hp
   have hp1:K1[pb]?=some vs:=(k1.1 pb hpl (by have:=G.lo;omega) (by have:=G.lR;omega)).trans hp
   obtain⟨K',ρ',q1,q2,q3,q4⟩:=ZjE hS hpb ts (i+1) e1 rb (rows++ra) K1 (upd (upd ρ 4 v) 3 (.int e1)) hb (by simp;omega) (by rw[hv];simp;omega) hp1 (fun j t' e'=>by
    obtain⟨w,w1,w2⟩:=hx (j+1) t' (by simpa using e')
    exact⟨w,by rw[show i+1+j=i+(j+1)by omega];exact w1,w2.kl k1 G.lo G.lR⟩) G1 (by simp[upd,r0]) (by simp[upd])
   refine⟨K',ρ',?_,q2,by simpa using q3,k1.trans q4⟩
   rw[List.length_cons]
   show((Zal pb i K).bind _)=_
   have hx:Zal pb i K=some (some v):=by simp[Zal,hp,v1]
   rw[hx]
   have bb:Zu 3 (ZZ (Layer_c) (Zcd C) (Za 0) (Zb (Za 4) (Zb (Za 3) Zd))) (upd ρ 4 v) K=some (none,upd (upd ρ 4 v) 3 (.int e1),K1):=by
    simp[Zu,ZZ,Za,upd,r0,r3,ZaW,Zb,Zd,p1]
   simp only[Zs0,ZK,bb]
   exact q1
theorem ZjU: ∀(N n:Nat),n<N→∀ts u r e,LyB (LyS n) ts u r e→LaS (ZcX N) o R L0 (.lst ts) r u e
 | 0,n,h,ts,u,r,e,hb=>absurd h (by omega)
 | N+1,n,h,ts,u,r,e,hb=>by
  intro K rows v hl G rv
  obtain⟨pb,vs,rfl,hp,pl,rs⟩:=rv.lst
  have hlv:vs.length=ts.length:=by obtain⟨F,r,_⟩:=rs;exact r.length
  obtain⟨K',ρ',q1,q2,q3,q4⟩:=ZjE (C:=ZcX N) (vs:=vs) (fun t u r e hs=>Znz (fun m hm ts u r e hb=>ZjU N m (by omega) ts u r e hb) hs) pl ts 0 u r rows K (upd (fun i=>[V.obj Layer_c o,.ref pb,.int u][i]?) 3 (.int u)) hb hl (by omega) hp (fun j t e=>by rw[Nat.zero_add];exact Zd6 rs e) G (by simp[upd]) (by simp[upd])
  refine⟨K',?_,q3,q4⟩
  show((ZfA (ZcX N) (fun i=>[V.obj Layer_c o,.ref pb,.int u][i]?) K).map _)=_
  unfold ZfA
  rw[ZaA (ρ1:=upd (fun i=>[V.obj Layer_c o,.ref pb,.int u][i]?) 3 (.int u)) (H1:=K) (by simp[Zu,Za])]
  have ev:Zaq (Za 1) (upd (fun i=>[V.obj Layer_c o,.ref pb,.int u][i]?) 3 (.int u)) K=some (Zal pb,vs.length+1,K):=by simp[Zaq,Za,upd,hp]
  have s2:ZaC (Zaq (Za 1)) (ZK 4) (Zu 3 (ZZ (Layer_c) (Zcd (ZcX N)) (Za 0) (Zb (Za 4) (Zb (Za 3) Zd)))) (upd (fun i=>[V.obj Layer_c o,.ref pb,.int u][i]?) 3 (.int u)) K=some (none,ρ',K'):=by
   unfold ZaC
   rw[ev,hlv]
   exact q1
  rw[ZaA s2]
  simp[Zw,Za,q2]
end
open Classical in
noncomputable def Zee: T→Option T
 | .lst ts=>if h:∃r,∃e,LyB (LyS 8) ts 0 r e∧r.length≤9000 then some (.lst (choose h))else none
 | _=>none
theorem ZmS{v:V}{rs:T}{F:List Nat}(hp:0<K.length)(r:RF K v t F)(e:Zee t=some rs): ∃v' X F',ZeE [v] K=some (v',K++X)∧RF (K++X) v' rs F'∧∀a∈F',K.length≤a:=by
 unfold Zee at e
 split at e
 case h_2=>first|exact Zx0 e|cases e
 rename_i ts
 split at e
 case isFalse=>first|exact Zx0 e|cases e
 rename_i hx
 cases e
 obtain⟨e,h1,h2⟩:=Classical.choose_spec hx
 generalize Classical.choose hx=rows at *
 generalize hK1:K++[[.ref (K.length+1),.int 0],[]]=K1
 have l1:K1.length=K.length+2:=by rw[←hK1];simp
 have k1:∀a,a<K.length→K1[a]?=K[a]?:=fun a l=>by rw[←hK1,Zy0 l]
 have G:Ly K1 K.length (K.length+1) K.length [] 0:=by
  refine⟨?_,⟨[],[],?_,.nil,Zfh⟩,Nat.le_refl _,by omega,by omega,hp⟩
  ·rw[←hK1,Zy5 (by omega),show K.length-K.length=0 by omega];rfl
  ·rw[←hK1,Zy5 (by omega),show K.length+1-K.length=1 by omega];rfl
 have rv:RFo K1 v (.lst ts) (· < K.length):=⟨F,r.frame fun a m=>k1 a (r.lt a m),r.lt⟩
 obtain⟨K',p1,G',k'⟩:=ZjU 9 8 (by omega) ts 0 rows e h1 K1 [] v (by simpa using h2) G rv
 obtain⟨vs,F',q1,q2,q3⟩:=G'.hr
 have keep:∀a,a<K.length→K'[a]?=K[a]?:=fun a l=>(k'.1 a (by omega) (by omega) (by omega)).trans (k1 a l)
 have lK:K.length≤K'.length:=by have:=k'.2;omega
 have eK:K'=K++K'.drop K.length:=by
  apply List.ext_getElem?
  intro i
  by_cases c:i<K.length
  ·rw[Zy0 c,keep i c]
  ·rw[Zy5 (by omega),List.getElem?_drop];congr 1;omega
 refine⟨.ref (K.length+1),K'.drop K.length,(K.length+1)::F',?_,?_,fun a m=>?_⟩
 ·rw[←eK]
  unfold ZeE ZhV ZG
  simp only[List.length_singleton,if_true]
  have n1:ZcF Layer_c ZfF Zd (fun i=>[v][i]?) K=some (.obj Layer_c K.length,K1):=by
   unfold ZcF ZfF Zhk ZG
   have hc:Layer_c.2.length=2:=rfl
   have K0:K.length≠0:=by omega
   generalize hA:K++[[],[]]=A
   have a0:A[K.length]?=some []:=by rw[←hA,Zy5 (by omega),show K.length-K.length=0 by omega];rfl
   have lA:K.length<A.length:=Zcz a0
   have b0:(A.set K.length [.ref (K.length+1)])[K.length]?=some [.ref (K.length+1)]:=by rw[Zy6 lA]
   have e1:(A.set K.length [.ref (K.length+1)]).set K.length [.ref (K.length+1),.int 0]=K1:=by rw[←hK1,←hA];simp
   have n0:Zad Zd (fun i=>[V.obj Layer_c K.length][i]?) (K++[[]])=some (.ref (K.length+1),A):=by
    simp[Zad,Zd,←hA]
   have s0:Zat Layer_c 0 (Zad Zd) (Za 0) (fun i=>[V.obj Layer_c K.length][i]?) (K++[[]])=some (none,(fun i=>[V.obj Layer_c K.length][i]?),A.set K.length [.ref (K.length+1)]):=by
    simp only[Zat,n0,Zs0,Za,List.getElem?_cons_zero,Zs1,ZaH,a0]
    simp[K0,hc]
   have s1:Zat Layer_c 1 (Ze 0) (Za 0) (fun i=>[V.obj Layer_c K.length][i]?) (A.set K.length [.ref (K.length+1)])=some (none,(fun i=>[V.obj Layer_c K.length][i]?),K1):=by
    simp only[Zat,Ze,Zs0,Za,List.getElem?_cons_zero,Zs1,ZaH,b0]
    simp only[List.cons_append,List.nil_append,List.length_singleton,e1]
    simp[K0,hc]
   simp only[Zd,Zs0,List.length_singleton,if_true]
   rw[ZaA s0,s1]
   rfl
  rw[ZaA (ρ1:=upd (fun i=>[v][i]?) 1 (.obj Layer_c K.length)) (H1:=K1) (by simp[Zu,n1])]
  have p1':Zg5 [.obj Layer_c K.length,v,.int 0] K1=some (.int e,K'):=p1
  simp[Zp,ZP,ZZ,Za,upd,ZaW,Zb,Zd,Ze,p1',Zw,ZO,Z1,G'.ho]
 ·rw[←eK]
  exact .ref q1 (by simpa using q2)
 ·rcases Zz7.mp m with rfl | m
  ·omega
  ·exact(q3 a m).1
theorem Zgd{L:T→Int→List T→Int→Prop}(hL:∀t u r e r' e',L t u r e→L t u r' e'→r=r'∧e=e'){u:Int}(h:LyB L ts u r e): ∀{r':List T} {e':Int},LyB L ts u r' e'→r=r'∧e=e':=by
 induction h with
 | nil=>intro r' e' k;cases k;exact⟨rfl,rfl⟩
 | cons a _ ih=>
  intro r' e' k
  cases k with
  | cons a' k=>
   obtain⟨rfl,rfl⟩:=hL _ _ _ _ _ _ a a'
   obtain⟨rfl,rfl⟩:=ih k
   exact⟨rfl,rfl⟩
theorem Zld{b:List T}(h:ZcV (ifT c a b)): False:=by
 obtain⟨_,w,rest,e,q,_⟩:=h
 cases e
 exact absurd q (by decide +kernel)
theorem Zle(h:ZcV (whT c a)): False:=by
 obtain⟨_,w,rest,e,_,q⟩:=h
 cases e
 exact absurd q (by decide +kernel)
theorem Zge: ∀(n:Nat) (t:T) (u:Int) (r:List T) (e:Int) (r':List T) (e':Int),LyS n t u r e→LyS n t u r' e'→r=r'∧e=e'
 | 0,t,u,r,e,r',e',h,k=>by
  obtain⟨_,rfl,rfl⟩:=h
  obtain⟨_,rfl,rfl⟩:=k
  exact⟨rfl,rfl⟩
 | n+1,t,u,r,e,r',e',h,k=>by
  rcases h with⟨hp,rfl,rfl⟩ | ⟨c,a,b,ra,ea,rb,eb,rfl,hc,ha,hb,rfl,rfl⟩ | ⟨c,a,ra,ea,rfl,hc,ha,rfl,rfl⟩
  ·rcases k with⟨_,rfl,rfl⟩ | ⟨c,a,b,ra,ea,rb,eb,rfl,_⟩ | ⟨c,a,ra,ea,rfl,_⟩
   ·exact⟨rfl,rfl⟩
   ·exact(Zld hp).elim
   ·exact(Zle hp).elim
  ·rcases k with⟨hp,_⟩ | ⟨c',a',b',ra',ea',rb',eb',et,_,ha',hb',rfl,rfl⟩ | ⟨c',a',ra',ea',et,_⟩
   ·exact(Zld hp).elim
   ·first|exact Zx0 et|cases et
    obtain⟨rfl,rfl⟩:=Zgd (Zge n) ha ha'
    obtain⟨rfl,rfl⟩:=Zgd (Zge n) hb hb'
    exact⟨rfl,rfl⟩
   ·first|exact Zx0 et|cases et
  ·rcases k with⟨hp,_⟩ | ⟨c',a',b',ra',ea',rb',eb',et,_⟩ | ⟨c',a',ra',ea',et,_,ha',rfl,rfl⟩
   ·exact(Zle hp).elim
   ·first|exact Zx0 et|cases et
   ·first|exact Zx0 et|cases et
    obtain⟨rfl,rfl⟩:=Zgd (Zge n) ha ha'
    exact⟨rfl,rfl⟩
theorem Zgf{L L':T→Int→List T→Int→Prop}(hL:∀t u r e,L t u r e→L' t u r e){u:Int}(h:LyB L ts u r e): LyB L' ts u r e:=by
 induction h with
 | nil=>exact .nil
 | cons a _ ih=>exact .cons (hL _ _ _ _ a) ih
theorem Zc6: ∀(n:Nat) (t:T) (u:Int) (r:List T) (e:Int),LyS n t u r e→LyS (n+1) t u r e
 | 0,t,u,r,e,h=>.inl h
 | n+1,t,u,r,e,h=>by
  rcases h with h | ⟨c,a,b,ra,ea,rb,eb,h1,hc,ha,hb,h2⟩ | ⟨c,a,ra,ea,h1,hc,ha,h2⟩
  ·exact .inl h
  ·exact .inr (.inl ⟨c,a,b,ra,ea,rb,eb,h1,hc,Zgf (Zc6 n) ha,Zgf (Zc6 n) hb,h2⟩)
  ·exact .inr (.inr ⟨c,a,ra,ea,h1,hc,Zgf (Zc6 n) ha,h2⟩)
theorem ZnA(h:LyB (LyS 3) ts 0 r e)(hl:r.length≤9000): Zee (.lst ts)=some (.lst r):=by
 have h8:LyB (LyS 8) ts 0 r e:=Zgf (fun t u r e h=>Zc6 7 _ _ _ _ (Zc6 6 _ _ _ _ (Zc6 5 _ _ _ _ (Zc6 4 _ _ _ _ (Zc6 3 _ _ _ _ h))))) h
 have hx:∃r,∃e,LyB (LyS 8) ts 0 r e∧r.length≤9000:=⟨r,e,h8,hl⟩
 unfold Zee
 simp only
 rw[dif_pos hx]
 obtain⟨e',k,_⟩:=Classical.choose_spec hx
 rw[(Zgd (Zge 8) k h8).1]
end L
open PySem PM TM
namespace L
variable {K:Hp} {F:List Nat}
theorem ZpM{b:Int}{H:Hp}(hb:0≤b)(hb9:b≤90000): Zbg 0 b 1 H=some (ZbO 0 1 b.toNat,b.toNat+1,H):=by
 unfold Zbg rngN
 rw[Zgz hb,if_pos]
 refine⟨by decide,?_,hb,by rw[Zab];omega,?_⟩
 ·unfold Builtin.Range.small
  rw[Zgz hb]
  simp only[Builtin.Range.rangeFitsLong,Bool.and_eq_true,Bool.or_eq_true,decide_eq_true_eq,beq_iff_eq]
  rw[if_pos (by decide)]
  simp only[Bool.and_eq_true,decide_eq_true_eq]
  by_cases h:(0:Int)<b
  ·refine⟨⟨⟨⟨?_,?_⟩,?_⟩,?_⟩,Or.inr ?_⟩ <;> omega
  ·refine⟨⟨⟨⟨?_,?_⟩,?_⟩,?_⟩,?_⟩ <;> first | omega | (left;omega)
 ·exact PyProof.noPylong_small (by omega)
theorem ZkG{a b:Sm}{ρ ρ1:Lc}{H H1:Hp}(h:a ρ H=some (none,ρ1,H1)): Zp a b ρ H=b ρ1 H1:=by simp[Zp,h]
noncomputable def src(q:Int): T→Bool
 | .tup (.int a::_)=>a == q
 | _=>false
noncomputable def ZaQ(q:Int): V→Bool
 | .tup (.int a::_)=>a == q
 | _=>false
noncomputable def Zi4(n:Nat): T→Bool
 | .tup (.int a::_)=>decide (0≤a∧a<n)
 | _=>false
noncomputable def byP(n:Nat)(rows:List T): T:=.lst ((List.range n).map fun(p:Nat)=>.lst (rows.filter (src p)))
noncomputable def ZeT: T→Option T
 | .lst rows=>match ZfN [.lst rows]with
  | some (.int e)=>if 0≤e∧e≤80000∧rows.length≤10000∧rows.all (Zi4 (e.toNat+1))=true then some (byP (e.toNat+1) rows)else none
  | _=>none
 | _=>none
theorem ZoE{v:V}{t:T}{q:Int}(r:RF K v t F): ZaQ q v=src q t:=by
 cases r with
 | tup hs=>
  cases hs with
  | nil=>rfl
  | cons a b=>cases a <;> rfl
 | _=>rfl
theorem Zke{K:Hp}{q:Int}: ∀{vs:List V} {ts:List T} {F:List Nat},RFs K vs ts F→∃G,RFs K (vs.filter (ZaQ q)) (ts.filter (src q)) G∧∀a∈G,a∈F
 | _,_,_,.nil=>⟨[],.nil,fun a m=>m⟩
 | _,_,_,.cons (v:=v) (t:=t) a r=>by
  obtain⟨G,h1,h2⟩:=Zke (q:=q) r
  have e:=ZoE (q:=q) a
  by_cases c:src q t=true
  ·rw[List.filter_cons_of_pos (by rw[e];exact c),List.filter_cons_of_pos c]
   exact⟨_,.cons a h1,fun x m=>(Zz8.mp m).elim (fun m=>Zy7 _ m) (fun m=>List.mem_append_right _ (h2 x m))⟩
  ·rw[List.filter_cons_of_neg (by rw[e];exact c),List.filter_cons_of_neg c]
   exact⟨G,h1,fun x m=>List.mem_append_right _ (h2 x m)⟩
theorem ZkH{ρ:Lc}{n:Nat}: ∀(m i:Nat) (acc:List V) (H:Hp),i+m=n→acc.length+m<ZM→ZaB (ZbO 0 1 n) (ZK 100) Z5 (Zad Zd) ρ (m+1) i acc H=some (acc++(List.range m).map (fun j=>V.ref (H.length+j)),H++List.replicate m [])
 | 0,i,acc,H,h,hl=>by
  have:¬i<n:=by omega
  simp[ZaB,ZbO,this]
 | m+1,i,acc,H,h,hl=>by
  have c:i<n:=by omega
  have ih:=ZkH (ρ:=ρ) (n:=n) m (i+1) (acc++[V.ref H.length]) (H++[[]]) (by omega) (by simp;omega)
  have hl':acc.length<ZM:=by omega
  show((ZbO 0 1 n i H).bind _)=_
  simp only[ZbO,if_pos c,Zs0,ZK,Z5,if_true,Zad,Zd,List.length_nil,Nat.zero_le,hl']
  rw[ih,List.range_succ_eq_map]
  simp[List.replicate_succ,Function.comp_def]
  intro a _
  omega
theorem ZkI{B R n:Nat}{K:Hp}{vrows:List V}{bs:List Nat}(hB:∀p,p<n→bs[p]?=some (K.length+p))(hbl:bs.length=n)(hR:R<K.length)(hK:K[R]?=some vrows)(hB':B=K.length+n)(hp:0<K.length)(hlen:vrows.length≤10000): ∀(ws us:List V) (i:Nat) (ρ:Lc),vrows=us++ws→us.length=i→ρ 1=some (.ref B)→(∀w∈ws,∃a rest,w=.tup (.int a::rest)∧0≤a∧a<n)→∃ρ',Zbe (Zal R) (ZK 2) (ZP (Zau (Zc Zl (Za 1) (Zc Zl (Za 2) (Ze 0))) (Za 2))) (ws.length+1) i ρ (K++((List.range n).map fun(p:Nat)=>us.filter (ZaQ p))++[bs.map V.ref])=some (none,ρ',K++((List.range n).map fun(p:Nat)=>vrows.filter (ZaQ p))++[bs.map V.ref])∧ρ' 1=some (.ref B)
 | [],us,i,ρ,hv,hu,r1,hw=>by
  subst hv
  have e1:(K++((List.range n).map fun(p:Nat)=>us.filter (ZaQ p))++[bs.map V.ref])[R]?=some (us++[]):=by
   rw[List.append_assoc,Zy0 hR];exact hK
  refine⟨ρ,?_,r1⟩
  have:(us++([]:List V))[i]?=none:=Zy8 (by simp;omega)
  simp only[List.length_nil,Zbe,Zal,e1,Zs1,this,Zs0]
  simp
 | w::ws,us,i,ρ,hv,hu,r1,hw=>by
  obtain⟨a,rest,rfl,a0,an⟩:=hw w Zz5
  obtain⟨ρ',h1,h2⟩:=ZkI hB hbl hR hK hB' hp hlen ws (us++[V.tup (.int a::rest)]) (i+1) (upd ρ 2 (V.tup (.int a::rest))) (by rw[hv];simp) (by simp[hu]) (by simp[upd,r1]) (fun w m=>hw w (Zz2 _ m))
  refine⟨ρ',?_,h2⟩
  generalize hH:K++((List.range n).map fun(p:Nat)=>us.filter (ZaQ p))++[bs.map V.ref]=H
  have e1:H[R]?=some vrows:=by rw[←hH,List.append_assoc,Zy0 hR];exact hK
  have ew:vrows[i]?=some (V.tup (.int a::rest)):=by
   rw[hv,Zy5 (by omega),hu];simp
  have eB:H[B]?=some (bs.map V.ref):=by
   rw[←hH,Zy5 (by simp;omega)]
   simp[hB']
  have ep:H[K.length+a.toNat]?=some (us.filter (ZaQ a)):=by
   rw[←hH,Zy0 (by simp;omega),Zy5 (by omega)]
   rw[show K.length+a.toNat-K.length=a.toNat by omega,List.getElem?_map,List.getElem?_range (by omega)]
   simp only[Zs1]
   rw[show((a.toNat:Nat):Int)=a by omega]
  have ei:(bs.map V.ref)[a.toNat]?=some (.ref (K.length+a.toNat)):=by
   rw[List.getElem?_map,hB a.toNat (by omega)];rfl
  have eset:H.set (K.length+a.toNat) (us.filter (ZaQ a)++[V.tup (.int a::rest)])=K++((List.range n).map fun(p:Nat)=>(us++[V.tup (.int a::rest)]).filter (ZaQ p))++[bs.map V.ref]:=by
   rw[←hH,List.set_append_left _ _ (by simp;omega),List.set_append_right _ _ (by omega)]
   congr 2
   apply List.ext_getElem
   ·simp
   ·intro j l1 l2
    simp at l1
    rw[List.getElem_set]
    by_cases c:K.length+a.toNat-K.length=j
    ·rw[if_pos c]
     have:j=a.toNat:=by omega
     subst this
     simp only[List.getElem_map,List.getElem_range]
     rw[List.filter_append,show((a.toNat:Nat):Int)=a by omega]
     simp[ZaQ]
    ·rw[if_neg c]
     simp only[List.getElem_map,List.getElem_range,List.filter_append]
     have:¬a=(j:Int):=by omega
     simp[ZaQ,this]
  have sx:ZP (Zau (Zc Zl (Za 1) (Zc Zl (Za 2) (Ze 0))) (Za 2)) (upd ρ 2 (V.tup (.int a::rest))) H=some (none,upd ρ 2 (V.tup (.int a::rest)),K++((List.range n).map fun(p:Nat)=>(us++[V.tup (.int a::rest)]).filter (ZaQ p))++[bs.map V.ref]):=by
   have i0:Zl (V.tup (.int a::rest)) (.int 0) H=some (.int a,H):=by
    have:seqIndex? 0 (rest.length+1)=some 0:=by unfold seqIndex?;simp
    simp[Zl,this]
   have i1:Zl (.ref B) (.int a) H=some (.ref (K.length+a.toNat),H):=by
    have:seqIndex? a (bs.map V.ref).length=some a.toNat:=by unfold seqIndex?;simp[hbl];omega
    simp only[Zl,eB,Zs0,this,ei,Zs1]
   have hl:(us.filter (ZaQ a)).length<ZM:=by
    have:=List.length_filter_le (ZaQ a) us
    have:us.length≤vrows.length:=by rw[hv];simp
    rw[Zab];omega
   have g1:Za 1 (upd ρ 2 (V.tup (.int a::rest))) H=some (.ref B,H):=by simp[Za,upd,r1]
   have g2:Za 2 (upd ρ 2 (V.tup (.int a::rest))) H=some (V.tup (.int a::rest),H):=by simp[Za,upd]
   simp only[ZP,Zau,Zc,g1,g2,Zs0,Ze,i0,i1,Zb3,ep]
   rw[if_pos ⟨by omega,hl⟩]
   simp only[Zs1,eset]
  rw[List.length_cons]
  show((Zal R i H).bind _)=_
  have hx:Zal R i H=some (some (V.tup (.int a::rest))):=by simp[Zal,e1,ew]
  rw[hx]
  simp only[Zs0,ZK,sx]
  exact h1
theorem Zmm{v:V}{t u:T}(hp:0<K.length)(r:RF K v t F)(e:ZeT t=some u): ∃v' X F',Zeo [v] K=some (v',K++X)∧RF (K++X) v' u F'∧∀a∈F',K.length≤a∨a∈F:=by
 unfold ZeT at e
 split at e
 case h_2=>first|exact Zx0 e|cases e
 rename_i rows
 split at e
 case h_2=>first|exact Zx0 e|cases e
 rename_i le hle
 split at e
 case isFalse=>first|exact Zx0 e|cases e
 rename_i hc
 obtain⟨h0,h8,hl,hall⟩:=hc
 cases e
 have r':=r
 cases r with
 | @ref R vrows _ Fr hR rs=>
 obtain⟨w,X,G,g1,g2,_⟩:=ZlY K [.ref R] [.lst rows] _ _ hp (.one r') hle
 cases g2
 generalize hK1:K++X=K1 at *
 have lR:=(Zz6.mp hR).1
 have l1:K.length≤K1.length:=by rw[←hK1];simp
 have hR1:K1[R]?=some vrows:=by rw[←hK1,Zy0 lR];exact hR
 have rs1:RFs K1 vrows rows Fr:=by rw[←hK1];exact rs.ext X
 have hlv:vrows.length=rows.length:=rs.length
 generalize hn:le.toNat+1=n at *
 have cm:=ZkH (ρ:=fun i=>[V.ref R][i]?) (n:=n) n 0 [] K1 (by omega) (by rw[Zab];simp;omega)
 simp only[List.nil_append]at cm
 generalize hbs:(List.range n).map (fun j=>K1.length+j)=bs
 have ebs:(List.range n).map (fun j=>V.ref (K1.length+j))=bs.map V.ref:=by rw[←hbs];simp
 have hB:∀p,p<n→bs[p]?=some (K1.length+p):=fun p hp=>by rw[←hbs,List.getElem?_map,List.getElem?_range hp];rfl
 have hbl:bs.length=n:=by rw[←hbs];simp
 have emp:List.replicate n ([]:List V)=(List.range n).map fun(p:Nat)=>([]:List V).filter (ZaQ p):=by
  apply List.ext_getElem
  ·simp
  ·intro i _ _;simp
 obtain⟨ρ',lp,lr⟩:=ZkI (B:=K1.length+n) hB hbl (by omega) hR1 rfl (by omega) (by omega) vrows [] 0 (upd (fun i=>[V.ref R][i]?) 1 (.ref (K1.length+n))) rfl rfl (by simp[upd]) (fun w m=>by
  obtain⟨i,hi,ew⟩:=List.getElem_of_mem m
  have ht:rows[i]?=some rows[i]:=Zy1 (by omega)
  obtain⟨v,G,q1,q2,_⟩:=rs.at ht
  have hi':vrows[i]?=some w:=by rw[Zy1 hi];exact congrArg some ew
  rw[hi']at q1
  cases q1
  clear hi' ew
  have ok:=List.all_eq_true.mp hall rows[i] (List.getElem_mem _)
  generalize rows[i]=t at *
  unfold Zi4 at ok
  split at ok
  case h_2=>first|exact Zx0 ok|cases ok
  cases q2 with
  | tup hs=>
   cases hs with
   | cons a b=>
    cases a
    simp only[decide_eq_true_eq]at ok
    exact⟨_,_,rfl,ok.1,ok.2⟩)
 generalize hKf:K1++((List.range n).map fun(p:Nat)=>vrows.filter (ZaQ p))++[bs.map V.ref]=Kf at *
 have rsf:RFs Kf vrows rows Fr:=rs1.frame fun a m=>by rw[←hKf,List.append_assoc,Zy0 (rs1.lt a m)]
 have key:∀m,m≤n→∃G,RFs Kf (((List.range m).map fun(p:Nat)=>V.ref (K1.length+p))) ((List.range m).map fun(p:Nat)=>T.lst (rows.filter (src p))) G∧∀a∈G,K.length≤a∨a∈Fr:=by
  intro m
  induction m with
  | zero=>intro _;exact⟨[],.nil,fun a m=>(List.not_mem_nil m).elim⟩
  | succ m ih=>
   intro hm
   obtain⟨G,g1,g2⟩:=ih (by omega)
   obtain⟨G',k1,k2⟩:=Zke (q:=(m:Int)) rsf
   rw[List.range_succ,List.map_append,List.map_append]
   have em:Kf[K1.length+m]?=some (vrows.filter (ZaQ m)):=by
    rw[←hKf,Zy0 (by simp;omega),Zy5 (by omega),show K1.length+m-K1.length=m by omega,List.getElem?_map,List.getElem?_range (by omega)]
    rfl
   refine⟨_,g1.append (.one (.ref em k1)),fun a q=>?_⟩
   rcases Zz8.mp q with q | q
   ·exact g2 a q
   ·rcases Zz7.mp q with rfl | q
    ·exact .inl (by omega)
    ·exact .inr (k2 a q)
 obtain⟨G,G1,G2⟩:=key n (Zz10 _)
 rw[ebs]at G1
 have eB:Kf[K1.length+n]?=some (bs.map V.ref):=by
  rw[←hKf,Zy5 (by simp)]
  simp
 refine⟨.ref (K1.length+n),X++(((List.range n).map fun(p:Nat)=>vrows.filter (ZaQ p))++[bs.map V.ref]),(K1.length+n)::G,?_,?_,fun a m=>?_⟩
 ·rw[←List.append_assoc,hK1,←List.append_assoc,hKf]
  unfold Zeo Zha ZG
  simp only[List.length_singleton,if_true]
  have s1:Zu 1 (Zao (ZaY (Zb (Zc Z0 (Zk Zex (Zb (Za 0) Zd)) (Ze 1)) Zd)) (ZK 100) Z5 (Zad Zd)) (fun i=>[V.ref R][i]?) K=some (none,upd (fun i=>[V.ref R][i]?) 1 (.ref (K1.length+n)),K1++((List.range n).map fun(p:Nat)=>([]:List V).filter (ZaQ p))++[bs.map V.ref]):=by
   have rg:ZaY (Zb (Zc Z0 (Zk Zex (Zb (Za 0) Zd)) (Ze 1)) Zd) (fun i=>[V.ref R][i]?) K=some (ZbO 0 1 n,n+1,K1):=by
    have:=ZpM (b:=le+1) (H:=K1) (by omega) (by omega)
    rw[show(le+1).toNat=n by omega]at this
    simp only[ZaY,Zb,Zd,Zc,Zk,Za,List.getElem?_cons_zero,Zs1,Zs0,g1,Ze,ZpX]
    exact this
   rw[ebs]at cm
   simp only[Zu,Zao,rg,Zs0,cm,Zs1,emp]
   simp
  rw[ZkG s1]
  have ev:Zaq (Za 0) (upd (fun i=>[V.ref R][i]?) 1 (.ref (K1.length+n))) (K1++((List.range n).map fun(p:Nat)=>([]:List V).filter (ZaQ p))++[bs.map V.ref])=some (Zal R,vrows.length+1,K1++((List.range n).map fun(p:Nat)=>([]:List V).filter (ZaQ p))++[bs.map V.ref]):=by
   have:(K1++((List.range n).map fun(p:Nat)=>([]:List V).filter (ZaQ p))++[bs.map V.ref])[R]?=some vrows:=by
    rw[List.append_assoc,Zy0 (by omega)];exact hR1
   simp only[Zaq,Za,upd,show(0=1)=False from by simp,if_false,List.getElem?_cons_zero,Zs1,Zs0,this]
  have s2:ZaC (Zaq (Za 0)) (ZK 2) (ZP (Zau (Zc Zl (Za 1) (Zc Zl (Za 2) (Ze 0))) (Za 2))) (upd (fun i=>[V.ref R][i]?) 1 (.ref (K1.length+n))) (K1++((List.range n).map fun(p:Nat)=>([]:List V).filter (ZaQ p))++[bs.map V.ref])=some (none,ρ',Kf):=by
   simp only[ZaC,ev,Zs0]
   exact lp
  rw[ZkG s2]
  simp[Zw,Za,lr]
 ·rw[←List.append_assoc,hK1,←List.append_assoc,hKf]
  exact .ref eB G1
 ·rcases Zz7.mp m with rfl | m
  ·exact .inl (by omega)
  ·rcases G2 a m with q | q
   ·exact .inl q
   ·exact .inr (Zz2 _ q)
noncomputable def ZiQ: T→Option T
 | .tup (_::_::b::_)=>some b
 | _=>none
noncomputable def Zfi: List T→Option (List T)
 | []=>some []
 | f::fs=>(ZiQ f).bind fun b=>(Zee b).bind fun rs=>(ZeT rs).bind fun pl=>(Zfi fs).map (pl::·)
noncomputable def prE: Ex:=Zk Zeo (Zb (Zk ZeE (Zb (Zc Zl (Za 100) (Ze 2)) Zd)) Zd)
theorem ZkJ{K:Hp}{ρ:Lc}{d:Nat}{vs:List V}(hd:K[d]?=some vs)(hp:0<K.length): ∀(fs:List T) (i:Nat) (acc:List V) (at_ pls:List T) (X:Hp) (G:List Nat),(∀(j:Nat) t,fs[j]?=some t→∃v F,vs[i+j]?=some v∧RF K v t F)→vs.length=i+fs.length→RFs (K++X) acc at_ G→(∀a∈G,K.length≤a)→Zfi fs=some pls→acc.length+fs.length<ZM→∃Y ws G',ZaB (Zal d) (ZK 100) Z5 prE ρ (fs.length+1) i acc (K++X)=some (ws,K++Y)∧RFs (K++Y) ws (at_++pls) G'∧∀a∈G',K.length≤a
 | [],i,acc,at_,pls,X,G,hr,hl,ha,hg,e,hc=>by
  cases e
  have hn:vs[i]?=none:=Zy8 (by simp at hl;omega)
  have hd':(K++X)[d]?=some vs:=by rw[Zy0 (Zz6.mp hd).1];exact hd
  exact⟨X,acc,G,by simp[ZaB,Zal,hd',hn],by simpa using ha,hg⟩
 | f::fs,i,acc,at_,pls,X,G,hr,hl,ha,hg,e,hc=>by
  obtain⟨b,e1,e⟩:=Zz0.mp e
  obtain⟨rs,e2,e⟩:=Zz0.mp e
  obtain⟨pl,e3,e⟩:=Zz0.mp e
  obtain⟨pls',e4,rfl⟩:=Zz1.mp e
  obtain⟨v,F,v1,v2⟩:=hr 0 f rfl
  rw[Nat.add_zero]at v1
  have hd':(K++X)[d]?=some vs:=by rw[Zy0 (Zz6.mp hd).1];exact hd
  have hv:∃x y w us,v=.tup (x::y::w::us)∧∃Fb,RF K w b Fb:=by
   unfold ZiQ at e1
   split at e1
   case h_2=>first|exact Zx0 e1|cases e1
   cases e1
   cases v2 with
   | tup hs=>
    cases hs with
    | cons a hs=>
     cases hs with
     | cons a2 hs=>
      cases hs with
      | cons a3 hs=>exact⟨_,_,_,_,rfl,_,a3⟩
  obtain⟨x0,y0,w,us,rfl,Fb,rb⟩:=hv
  have hpx:0<(K++X).length:=by rw[List.length_append];omega
  obtain⟨u1,X1,F1,g1,g2,g5⟩:=ZmS hpx (rb.ext X) e2
  obtain⟨u2,X2,F2,k1,k2,k3⟩:=Zmm (K:=K++X++X1) (by rw[List.length_append];omega) g2 e3
  have lx:K.length≤(K++X).length:=by rw[List.length_append];omega
  have new2:∀a∈F2,K.length≤a:=fun a m=>by
   rcases k3 a m with q | q
   ·rw[List.length_append]at q;omega
   ·have:=g5 a q;omega
  have ee:K++X++X1++X2=K++(X++(X1++X2)):=by simp
  rw[ee]at k1 k2
  have ha2:RFs (K++(X++(X1++X2))) (acc++[u2]) (at_++[pl]) (G++F2):=by
   have:=(ha.ext (X1++X2)).append (.one (by rw[List.append_assoc];exact k2))
   rw[List.append_assoc]at this
   exact this
  obtain⟨Y,ws,G',y1,y2,y3⟩:=ZkJ hd hp fs (i+1) (acc++[u2]) (at_++[pl]) pls' (X++(X1++X2)) (G++F2) (fun j t e=>by
   have:=hr (j+1) t (by simpa using e)
   rw[show i+(j+1)=i+1+j by omega]at this
   exact this) (by rw[hl];simp;omega) ha2 (fun a m=>(Zz8.mp m).elim (hg a) (new2 a)) e4 (by simp at hc ⊢;omega)
  refine⟨Y,ws,G',?_,by simpa using y2,y3⟩
  have i2:∀H,Zl (.tup (x0::y0::w::us)) (.int 2) H=some (w,H):=fun H=>by
   have:seqIndex? 2 (us.length+1+1+1)=some 2:=by unfold seqIndex?;simp;omega
   simp[Zl,this]
  have g6:prE (upd ρ 100 (.tup (x0::y0::w::us))) (K++X)=some (u2,K++(X++(X1++X2))):=by
   simp only[prE,Zk,Zb,Zd,Zc,Za,upd,if_true,Zs1,Zs0,Ze,i2,g1,k1]
  have hc':acc.length<ZM:=by simp at hc;omega
  rw[List.length_cons]
  show((Zal d i (K++X)).bind _)=_
  have hx:Zal d i (K++X)=some (some (.tup (x0::y0::w::us))):=by simp[Zal,hd',v1]
  rw[hx]
  simp only[Zs0,ZK,Z5,if_true,g6,hc']
  exact y1
noncomputable def ZcZ: List T→Option T
 | [.lst fns]=>if fns.length<10000 then(Zfi fns).map .lst else none
 | _=>none
theorem Zl4{vp:V}{fns:List T}{tw:T}(hp:0<K.length)(r:RF K vp (.lst fns) F)(e:ZcZ [.lst fns]=some tw): ∃v X F',ZfL [vp] K=some (v,K++X)∧RF (K++X) v tw F'∧∀a∈F',K.length≤a:=by
 unfold ZcZ at e
 dsimp only at e
 split at e
 case isFalse=>first|exact Zx0 e|cases e
 rename_i hl
 obtain⟨pls,e1,rfl⟩:=Zz1.mp e
 cases r with
 | @ref d vs _ Fr hd rs=>
 obtain⟨Y,ws,G,y1,y2,y3⟩:=ZkJ (ρ:=fun i=>[V.ref d][i]?) hd hp fns 0 [] [] pls [] [] (fun j t e=>by
  obtain⟨v,G,q1,q2,_⟩:=rs.at e
  exact⟨v,G,by rw[Nat.zero_add];exact q1,q2⟩) (by rw[rs.length];omega) .nil (fun a m=>(List.not_mem_nil m).elim) e1 (by rw[Zab];simp;omega)
 simp only[List.append_nil,List.nil_append]at y1 y2
 refine⟨.ref (K++Y).length,Y++[ws],(K++Y).length::G,?_,?_,fun a m=>?_⟩
 ·unfold ZfL Zhs ZG
  simp only[List.length_singleton,if_true]
  have:=rs.length
  unfold prE at y1
  rw[←this]at y1
  simp only[Zw,Zao,Zaq,Za,List.getElem?_cons_zero,Zs1,Zs0,hd]
  rw[y1]
  simp
 ·rw[←List.append_assoc]
  exact .ref (by simp) (y2.ext _)
 ·rcases Zz7.mp m with rfl | m
  ·simp
  ·exact y3 a m
end L
open PySem PM TM
namespace L
variable {a b e q u v:Int} {H:Hp} {body fns fs r s ts:List T} {c t tw:T} {bs ks:List Int} {X h k m n:Nat} {sig:Nat→Nat×Nat}
noncomputable def Zi5: Sm:=Zp (ZE (ZA (Zc oNe (Zk Zan (Zb (Za 1) Zd)) (Zc Zl (Zc Zl (Za 0) (ZO Zdf (Ze 1))) (Ze 0)))) (PM.sNo) ZV) (Zp (Zu 4 (ZcF (Runner_c) Zep (Zb (Za 0) (Zb (Za 1) (Zb (Za 2) Zd))))) (Zp (Zu 5 (Zad (Zb (ZO (Z1 (Runner_c) 5) (Za 4)) Zd))) (Zp (Zdx (ZaU (ZA (Zc oLe (Zk Zan (Zb (Za 5) Zd)) (Za 3))) (ZaU (ZcD (ZA (ZZ (Runner_c) Zeu (Za 4) Zd))) Z5)) (Zp (ZP (ZZ (Runner_c) Zet (Za 4) Zd)) (ZP (Zau (Za 5) (ZO (Z1 (Runner_c) 5) (Za 4))))) 1000000) (Zw (Za 5)))))
noncomputable def Zdc: List V→Hp→Option (V×Hp):=ZG 4 Zi5
noncomputable def Zef(fns:List T): Option Int:=fns.getLast?.bind fun t=>match t with
 | .tup (.int p::_)=>some p
 | _=>none
noncomputable def Zeg(tp tw:T)(ks:List Int): Nat→RS→Option (List Mo)
 | 0,_=>some []
 | k+1,s=>(Zcy tw s).bind fun q=>if q then some []else(Zby tp tw ks s).bind fun s'=>(Zeg tp tw ks k s').map (s'.m::·)
noncomputable def ZcP: List T→Option T
 | [.lst fns,st,pk,.int steps]=>(ZdO st).bind fun ss=>(ZdO pk).bind fun ks=>(Zef fns).bind fun pr=>if(ss.length:Int)=pr∧steps≤10000 then(ZcZ [.lst fns]).bind fun tw=>(ZdC (.lst fns) ((fns.length:Int)-1) ss).bind fun m=>(Zeg (.lst fns) tw ks steps.toNat ⟨0,[],m⟩).map fun ms=>.lst ((m::ms).map ZbM)else none
 | _=>none
inductive MomR(K:Hp)(P:Nat→Prop): List V→List Mo→List Nat→Prop where
 | nil:MomR K P [] [] []
 | snoc {vs:List V} {ms:List Mo} {F:List Nat} {m:Mo} {b:Nat}:MomR K P vs ms F→K[b]?=some (m.2.2.map V.int)→P b→b∉F→MomR K P (vs++[ZY m b]) (ms++[m]) (F++[b])
section
variable {K K':Hp} {P:Nat→Prop} {vs:List V} {ms:List Mo} {F:List Nat}
theorem MomR.keep(r:MomR K P vs ms F)(h:∀a,P a→a<K.length→K'[a]?=K[a]?): MomR K' P vs ms F:=by
 induction r with
 | nil=>exact .nil
 | snoc _ b p n ih=>exact .snoc ih ((h _ p (lt_of_at b)).trans b) p n
theorem MomR.length(r:MomR K P vs ms F): vs.length=ms.length:=by
 induction r with
 | nil=>rfl
 | snoc _ _ _ _ ih=>simp[ih]
theorem MomR.lt(r:MomR K P vs ms F): ∀a∈F,a<K.length∧P a:=by
 induction r with
 | nil=>intro a m;cases m
 | snoc _ b p _ ih=>
  intro a m
  rcases Zz8.mp m with m | m
  ·exact ih a m
  ·rw[List.mem_singleton]at m;subst m;exact⟨lt_of_at b,p⟩
theorem MomR.nodup(r:MomR K P vs ms F): F.Nodup:=by
 induction r with
 | nil=>exact List.nodup_nil
 | snoc _ _ _ n ih=>exact List.nodup_append.mpr ⟨ih,by simp,fun a h c k q=>by rw[List.mem_singleton]at k;subst k;exact n (q▸h)⟩
theorem ZpN{b:Nat}{m:Mo}(e:K[b]?=some (m.2.2.map V.int)): RF K (ZY m b) (ZbM m) [b]:=by
 have:=RFs.cons (RF.int (H:=K) m.1) (RFs.cons (RF.int (H:=K) m.2.1) (RFs.one (Zd7 e)))
 exact .tup (by simpa [ZI]using this)
theorem MomR.rfs(r:MomR K P vs ms F): RFs K vs (ms.map ZbM) F:=by
 induction r with
 | nil=>exact .nil
 | snoc _ b _ _ ih=>rw[List.map_append];exact ih.append (RFs.one (ZpN b))
end
noncomputable def ZdE: Ts:=ZaU (ZA (Zc oLe (Zk Zan (Zb (Za 5) Zd)) (Za 3))) (ZaU (ZcD (ZA (ZZ (Runner_c) Zeu (Za 4) Zd))) Z5)
noncomputable def Zgt: Sm:=Zp (ZP (ZZ (Runner_c) Zet (Za 4) Zd)) (ZP (Zau (Za 5) (ZO (Z1 (Runner_c) 5) (Za 4))))
section
variable {o w m0:Nat} {vp vw:V} {kk:Nat} {tp tw:T} {ks:List Int}
theorem ZjV{steps:Int}{ρ:Lc}{L0:Nat}(h3:ρ 3=some (.int steps))(h4:ρ 4=some (.obj Runner_c o))(h5:ρ 5=some (.ref m0))(hm:m0≠0)(hs:steps≤10000)(lo:L0≤o)(lw:L0≤w)(lm:L0≤m0): ∀(k fuel:Nat) (s:RS) (b:Nat) (K:Hp) (vs:List V) (ms ms':List Mo) (F:List Nat),Rn K o w b m0 vp vw kk tp tw ks s→K[m0]?=some vs→MomR K (fun a=>Off o w m0 a∧L0≤a) vs ms F→1≤vs.length→vs.length-1+k=steps.toNat→L0≤K.length→k<fuel→Zeg tp tw ks k s=some ms'→∃K' vs' F',Zdx ZdE Zgt fuel ρ K=some (none,ρ,K')∧K'[m0]?=some vs'∧MomR K' (fun a=>Off o w m0 a∧L0≤a) vs' (ms++ms') F'∧L0≤K'.length∧∀a,a<L0→K'[a]?=K[a]?
 | 0,fuel+1,s,b,K,vs,ms,ms',F,R,km,M,l1,l2,lk,hf,e=>by
  cases e
  refine⟨K,vs,F,?_,km,by simpa using M,lk,fun _ _=>rfl⟩
  have c:¬((vs.length:Int)≤steps):=by omega
  simp[Zdx,ZdE,ZaU,ZA,Zc,Zk,Zb,Zd,Za,h5,Zan,km,h3,c,Zac]
 | k+1,fuel+1,s,b,K,vs,ms,ms',F,R,km,M,l1,l2,lk,hf,e=>by
  obtain⟨q,e1,e⟩:=Zz0.mp e
  have c:((vs.length:Int)≤steps):=by omega
  have en:=ZmN R e1
  cases q with
  | true=>
   rw[if_pos rfl]at e
   cases e
   refine⟨K,vs,F,?_,km,by simpa using M,lk,fun _ _=>rfl⟩
   simp[Zdx,ZdE,ZaU,ZA,Zc,Zk,Zb,Zd,Za,h5,Zan,km,h3,c,Zac,ZcD,ZZ,h4,ZaW,en]
  | false=>
   rw[if_neg (by decide)]at e
   obtain⟨s',e2,e⟩:=Zz0.mp e
   obtain⟨ms2,e3,rfl⟩:=Zz1.mp e
   obtain⟨K1,g1,b',R1,g2,g3,g4⟩:=ZmR R e2
   have lm0:=lt_of_at km
   have km1:K1[m0]?=some vs:=(g4 m0 lm0 R.mo.1 R.mo.2.1).trans km
   generalize hK2:K1.set m0 (vs++[ZY s'.m b'])=K2
   have kp2:∀a,a≠m0→K2[a]?=K1[a]?:=fun a h=>by rw[←hK2,Zy2 (Ne.symm h)]
   have kq:∀a,Off o w m0 a→a<K1.length→K2[a]?=K1[a]?:=fun a p _=>kp2 a p.2.2
   have km2:K2[m0]?=some (vs++[ZY s'.m b']):=by rw[←hK2,Zy6 (by omega)]
   obtain⟨ws,w1,w2⟩:=R1.hw
   have R2:Rn K2 o w b' m0 vp vw kk tp tw ks s':=⟨(kp2 o (Ne.symm R.mo.1)).trans R1.ho,⟨ws,(kp2 w (Ne.symm R.mo.2.1)).trans w1,w2.keep kq⟩,(kq b' R1.bo (lt_of_at R1.hb)).trans R1.hb,R1.rp.keep kq,R1.rw.keep kq,(kq _ R1.ko (lt_of_at R1.rk)).trans R1.rk,R1.ko,R1.bo,R1.o0,R1.w0,R1.ow,R1.mo,by rw[←hK2];simpa using R1.ml⟩
   have M2:MomR K2 (fun a=>Off o w m0 a∧L0≤a) (vs++[ZY s'.m b']) (ms++[s'.m]) (F++[b']):=
    .snoc (M.keep fun a p l=>(kq a p.1 (by omega)).trans (g4 a l p.1.1 p.1.2.1)) R2.hb ⟨R2.bo,by omega⟩ (fun q=>by have:=(M.lt b' q).1;omega)
   obtain⟨K',vs',F',c1,c2,c3,c4,c5⟩:=ZjV h3 h4 h5 hm hs lo lw lm k fuel s' b' K2 (vs++[ZY s'.m b']) (ms++[s'.m]) ms2 (F++[b']) R2 km2 M2 (by simp) (by simp;omega) (by rw[←hK2];simp;omega) (by omega) e3
   refine⟨K',vs',F',?_,c2,by simpa using c3,c4,fun a l=>(c5 a l).trans ((kp2 a (by omega)).trans (g4 a (by omega) (by omega) (by omega)))⟩
   have tt:ZdE ρ K=some (true,K):=by
    simp[ZdE,ZaU,ZA,Zc,Zk,Zb,Zd,Za,h5,Zan,km,h3,c,Zac,ZcD,ZZ,h4,ZaW,en,Z5]
   have lvs:vs.length<100000:=by omega
   have bb:Zgt ρ K=some (none,ρ,K2):=by
    simp[Zgt,Zp,ZP,ZZ,Za,h4,ZaW,Zd,g1,Zau,h5,ZO,Z1,R1.ho,Zb3,km1,hm,Zab,lvs,hK2]
   show((ZdE ρ K).bind _)=_
   rw[tt]
   simp only[Zs0,if_true,bb]
   exact c1
theorem ZnB{ss:List Int}{sp:Nat}{m:Mo}{Fp:List Nat}(hp:0<H.length)(rp:RF H vp (.lst fns) Fp)(rs:H[sp]?=some (ss.map V.int))(rk:H[kk]?=some (ks.map V.int))(e1:ZcZ [.lst fns]=some tw)(e2:ZdC (.lst fns) ((fns.length:Int)-1) ss=some m): ∃K vw w b Fw,ZcF Runner_c Zep (fun _ H=>some ([vp,.ref sp,.ref kk],H)) (fun _=>none) H=some (.obj Runner_c H.length,K)∧K[H.length]?=some [vp,vw,.ref kk,.int 0,.ref w,ZY m b]∧K[w]?=some []∧K[b]?=some (m.2.2.map V.int)∧RF K vw tw Fw∧(∀a∈Fw,H.length<a∧a<w)∧H.length<w∧w<b∧b<K.length∧∀a,a<H.length→K[a]?=H[a]?:=by
 obtain⟨tm,e2,e3⟩:=Zz0.mp e2
 obtain⟨ts,rfl,e4⟩:=ZjC e3
 have lp:∀a∈Fp,a<H.length:=rp.lt
 generalize ho:H.length=o at *
 have o0:o≠0:=by omega
 generalize hK1:H++[[vp]]=K1
 have l1:K1.length=o+1:=by rw[←hK1];simp[ho]
 have k1:∀a,a<o→K1[a]?=H[a]?:=fun a l=>by rw[←hK1,Zy0 (by omega)]
 have k1o:K1[o]?=some [vp]:=by rw[←hK1,←ho];simp
 have rp1:RF K1 vp (.lst fns) Fp:=rp.frame fun a m=>k1 a (lp a m)
 obtain⟨vw,X,Fw,g1,g2,gl⟩:=Zl4 (by omega) rp1 e1
 generalize hK4:(K1++X).set o [vp,vw,.ref kk,.int 0]=K4
 have l4:K4.length=o+1+X.length:=by rw[←hK4];simp[l1]
 have k4:∀a,a<K1.length+X.length→a≠o→K4[a]?=(K1++X)[a]?:=fun a l h=>by rw[←hK4,Zy2 (Ne.symm h)]
 have k4o:K4[o]?=some [vp,vw,.ref kk,.int 0]:=by rw[←hK4,Zy6 (by rw[List.length_append];omega)]
 generalize hw:K4.length=w at *
 generalize hK5:(K4++[[]]).set o [vp,vw,.ref kk,.int 0,.ref w]=K5
 have l5:K5.length=w+1:=by rw[←hK5];simp[hw]
 have k5:∀a,a<w→a≠o→K5[a]?=K4[a]?:=fun a l h=>by rw[←hK5,Zy2 (Ne.symm h),Zy0 (by omega)]
 have k5o:K5[o]?=some [vp,vw,.ref kk,.int 0,.ref w]:=by rw[←hK5,Zy6 (by rw[List.length_append];omega)]
 have k5w:K5[w]?=some []:=by rw[←hK5,Zy2 (by omega),←hw];simp
 have k5h:∀a,a<o→K5[a]?=H[a]?:=fun a l=>by
  rw[k5 a (by omega) (by omega),k4 a (by omega) (by omega),Zy0 (by omega),k1 a l]
 have rp5:RF K5 vp (.lst fns) Fp:=rp.frame fun a m=>k5h a (lp a m)
 have rs5:K5[sp]?=some (ss.map V.int):=(k5h sp (by have:=lt_of_at rs;omega)).trans rs
 obtain⟨v',Y,F,y1,y2,y3,y4⟩:=Zjq K5 [vp,.int ((fns.length:Int)-1),.ref sp] [.lst fns,.int ((fns.length:Int)-1),ZI ss] _ _ (by omega) (.cons rp5 (.cons (.int _) (.one (Zd7 rs5)))) e2
 obtain⟨b,rfl,yb,rfl⟩:=ZkF (m:=m) y2 e4
 have hb:=(y4 rfl).2 b Zz5
 have lb:=lt_of_at yb
 rw[List.length_append]at lb
 generalize hK6:(K5++Y).set o [vp,vw,.ref kk,.int 0,.ref w,ZY m b]=K6
 have l6:K6.length=w+1+Y.length:=by rw[←hK6];simp[l5]
 have k6:∀a,a<w+1→a≠o→K6[a]?=K5[a]?:=fun a l h=>by rw[←hK6,Zy2 (Ne.symm h),Zy0 (by omega)]
 have lFw:∀a∈Fw,o<a∧a<w:=fun a m=>by
  have p1:=gl a m
  have p2:=g2.lt a m
  rw[List.length_append]at p2
  omega
 refine⟨K6,vw,w,b,Fw,?_,?_,(k6 w (by omega) (by omega)).trans k5w,?_,?_,lFw,by omega,by omega,by omega,fun a l=>(k6 a (by omega) (by omega)).trans (k5h a l)⟩
 ·unfold ZcF Zep Zhb ZG
  simp only[Zs0,List.length_cons,List.length_nil,if_true,ho]
  have hl:Runner_c.2.length=6:=rfl
  have k0o:(H++[[]])[o]?=some []:=by rw[←ho];simp
  have s1:(H++[[]]).set o [vp]=K1:=by rw[←hK1,←ho];simp
  rw[ZaA (ρ1:=(fun i=>[V.obj Runner_c o,vp,V.ref sp,V.ref kk][i]?)) (H1:=K1) (by
   have:ZaH Runner_c 0 (.obj Runner_c o) vp (H++[[]])=some K1:=by simp[ZaH,o0,k0o,hl,s1]
   simp[Zat,Za,this])]
  generalize hK2:(K1++X).set o [vp,vw]=K2
  have kxo:(K1++X)[o]?=some [vp]:=by rw[Zy0 (by omega)];exact k1o
  have lkx:o<(K1++X).length:=lt_of_at kxo
  rw[ZaA (ρ1:=(fun i=>[V.obj Runner_c o,vp,V.ref sp,V.ref kk][i]?)) (H1:=K2) (by
   have:ZaH Runner_c 1 (.obj Runner_c o) vw (K1++X)=some K2:=by simp[ZaH,o0,kxo,hl,hK2]
   simp[Zat,Za,Zk,Zb,Zd,g1,this])]
  generalize hK3:(K1++X).set o [vp,vw,.ref kk]=K3
  have k2o:K2[o]?=some [vp,vw]:=by rw[←hK2,Zy6 lkx]
  rw[ZaA (ρ1:=(fun i=>[V.obj Runner_c o,vp,V.ref sp,V.ref kk][i]?)) (H1:=K3) (by
   have:ZaH Runner_c 2 (.obj Runner_c o) (.ref kk) K2=some K3:=by simp[ZaH,o0,k2o,hl,←hK3];rw[←hK2];simp
   simp[Zat,Za,this])]
  have k3o:K3[o]?=some [vp,vw,.ref kk]:=by rw[←hK3,Zy6 lkx]
  rw[ZaA (ρ1:=(fun i=>[V.obj Runner_c o,vp,V.ref sp,V.ref kk][i]?)) (H1:=K4) (by
   have:ZaH Runner_c 3 (.obj Runner_c o) (.int 0) K3=some K4:=by simp[ZaH,o0,k3o,hl,←hK4];rw[←hK3];simp
   simp[Zat,Za,Ze,this])]
  have k4e:(K4++[[]])[o]?=some [vp,vw,.ref kk,.int 0]:=by rw[Zy0 (by omega)];exact k4o
  rw[ZaA (ρ1:=(fun i=>[V.obj Runner_c o,vp,V.ref sp,V.ref kk][i]?)) (H1:=K5) (by
   have:ZaH Runner_c 4 (.obj Runner_c o) (.ref w) (K4++[[]])=some K5:=by simp[ZaH,o0,k4e,hl,←hK5]
   simp[Zat,Za,Zad,Zd,hw,this])]
  have k5e:(K5++Y)[o]?=some [vp,vw,.ref kk,.int 0,.ref w]:=by rw[Zy0 (by omega)];exact k5o
  have e6:ZaH Runner_c 5 (.obj Runner_c o) (ZY m b) (K5++Y)=some K6:=by simp[ZaH,o0,k5e,hl,←hK6]
  have ln:=Ziy (P:=fun _=>True) ⟨_,rp5,fun _ _=>trivial⟩
  simp[Zat,Za,Zk,Zb,Zd,Zc,Ze,ln,y1,e6]
 ·rw[←hK6,Zy6 (by rw[List.length_append];omega)]
 ·rw[←hK6,Zy2 (by omega)];exact yb
 ·refine g2.frame fun a m=>?_
  have:=lFw a m
  rw[k6 a (by omega) (by omega),k5 a (by omega) (by omega),k4 a (by omega) (by omega)]
end
theorem ZpO{K:Hp}(l:H.length≤K.length)(h:∀a,a<H.length→K[a]?=H[a]?): K=H++K.drop H.length:=by
 apply List.ext_getElem?
 intro i
 by_cases c:i<H.length
 ·rw[Zy0 c,h i c]
 ·rw[Zy5 (by omega),List.getElem?_drop]
  congr 1
  omega
theorem ZhX(e:ZdO t=some ks): t=ZI ks:=by
 obtain⟨ts,e1,e2⟩:=Zz0.mp e
 have:=ZeH e1;subst this
 have:∀{ts:List T} {ks:List Int},Zbb ts=some ks→ts=ks.map T.int:=by
  intro ts
  induction ts with
  | nil=>intro ks e;cases e;rfl
  | cons t ts ih=>
   intro ks e
   cases t <;> simp[Zbb]at e
   obtain⟨js,a,rfl⟩:=e
   rw[ih a]
   rfl
 rw[this e2]
 rfl
theorem ZiR{v:V}{F:List Nat}(r:RF H v (ZI ks) F): ∃b,v=.ref b∧H[b]?=some (ks.map V.int):=by
 cases r with
 | ref e hs=>
  obtain⟨rfl,_,_⟩:=ZeG (Ze2 ks) hs
  exact⟨_,rfl,e⟩
theorem Ze5: SimF true Zdc ZcP:=fun H vs ts t F1 hp r e=>by
 unfold ZcP at e
 split at e
 case h_2=>first|exact Zx0 e|cases e
 rename_i fns st pk steps
 obtain⟨ss,e1,e⟩:=Zz0.mp e
 obtain⟨ks,e2,e⟩:=Zz0.mp e
 obtain⟨pr,e3,e⟩:=Zz0.mp e
 split at e
 case isFalse=>first|exact Zx0 e|cases e
 rename_i hc
 obtain⟨hc,hst⟩:=hc
 obtain⟨tw,e4,e⟩:=Zz0.mp e
 obtain⟨m,e5,e⟩:=Zz0.mp e
 obtain⟨ms,e6,e⟩:=Zz1.mp e
 subst e
 have:=ZhX e1;subst this
 have:=ZhX e2;subst this
 cases r with
 | @cons vp _ Fp _ _ _ rp r=>
 cases r with
 | @cons vs0 _ Fs _ _ _ rs r=>
 cases r with
 | @cons vk _ Fk _ _ _ rk r=>
 cases r with
 | @cons v3 _ F3 _ _ _ r3 r=>
 cases r
 cases r3
 obtain⟨sp,rfl,hs⟩:=ZiR rs
 obtain⟨kk,rfl,hk⟩:=ZiR rk
 obtain⟨K,vw,w,b,Fw,n1,n2,n3,n4,n5,n6,n7,n8,n9,n10⟩:=ZnB hp rp hs hk e4 e5
 generalize ho:H.length=o at *
 generalize hm0:K.length=m0 at *
 generalize hK1:K++[[ZY m b]]=K1
 have l1:K1.length=m0+1:=by rw[←hK1];simp[hm0]
 have k1:∀a,a<m0→K1[a]?=K[a]?:=fun a l=>by rw[←hK1,Zy0 (by omega)]
 have k1m:K1[m0]?=some [ZY m b]:=by rw[←hK1,←hm0];simp
 have lFp:∀a∈Fp,a<o:=fun a m=>by have:=rp.lt a m;omega
 have lk:=lt_of_at hk
 have R:Rn K1 o w b m0 vp vw kk (.lst fns) tw ks ⟨0,[],m⟩:=by
  refine⟨(k1 o (by omega)).trans n2,⟨[],(k1 w (by omega)).trans n3,.nil⟩,(k1 b (by omega)).trans n4,⟨Fp,rp.frame fun a m=>?_,fun a m=>?_⟩,⟨Fw,n5.frame fun a m=>?_,fun a m=>?_⟩,?_,⟨by omega,by omega,by omega⟩,⟨by omega,by omega,by omega⟩,by omega,by omega,by omega,⟨by omega,by omega,by omega⟩,by omega⟩
  ·have:=lFp a m;rw[k1 a (by omega),n10 a (by omega)]
  ·have:=lFp a m;exact⟨by omega,by omega,by omega⟩
  ·have:=n6 a m;rw[k1 a (by omega)]
  ·have:=n6 a m;exact⟨by omega,by omega,by omega⟩
  ·rw[k1 kk (by omega),n10 kk (by omega)];exact hk
 have M:MomR K1 (fun a=>Off o w m0 a∧o≤a) [ZY m b] [m] [b]:=MomR.snoc (vs:=[]) (ms:=[]) (F:=[]) .nil R.hb ⟨R.bo,by omega⟩ (by simp)
 generalize hρ:upd (upd (fun i=>[vp,V.ref sp,V.ref kk,V.int steps][i]?) 4 (.obj Runner_c o)) 5 (.ref m0)=ρ
 obtain⟨K',vs',F',c1,c2,c3,c4,c5⟩:=ZjV (steps:=steps) (ρ:=ρ) (L0:=o) (by rw[←hρ];simp[upd]) (by rw[←hρ];simp[upd]) (by rw[←hρ];simp[upd]) (by omega) hst (by omega) (by omega) (by omega) steps.toNat 1000000 _ b K1 [ZY m b] [m] ms [b] R k1m M (by simp) (by simp) (by omega) (by omega) e6
 have keep:∀a,a<H.length→K'[a]?=H[a]?:=fun a l=>(c5 a (by omega)).trans ((k1 a (by omega)).trans (n10 a (by omega)))
 have eK:=ZpO (H:=H) (K:=K') (by omega) keep
 have fm:∀a∈F',a≠m0∧o≤a:=fun a q=>⟨(c3.lt a q).2.1.2.2,(c3.lt a q).2.2⟩
 refine⟨.ref m0,K'.drop H.length,m0::F',?_,?_,fun a q=>.inl ?_,fun _=>⟨List.nodup_cons.mpr ⟨fun q=>(fm m0 q).1 rfl,c3.nodup⟩,fun a q=>?_⟩⟩
 ·rw[←eK]
  unfold Zdc Zi5 ZG
  simp only[List.length_cons,List.length_nil,if_true]
  rw[ZaA (ρ1:=(fun i=>[vp,V.ref sp,V.ref kk,V.int steps][i]?)) (H1:=H) (by
   obtain⟨lt,q1,q2⟩:=Zz0.mp e3
   obtain⟨ys,ey⟩:=List.getLast?_eq_some_iff.mp q1
   split at q2
   case h_2=>first|exact Zx0 q2|cases q2
   rename_i pr2 tl
   cases q2
   have ix:ZcW fns (-1)=some (T.tup (T.int (ss.length:Int)::tl)):=by
    have:seqIndex? (-1) fns.length=some ys.length:=by
     rw[ey]
     unfold seqIndex?
     simp
     omega
    simp only[ZcW,this,Zs0]
    rw[ey,hc]
    simp
   obtain⟨u,u1,u2⟩:=Zgc (P:=fun _=>True) ⟨_,rp,fun _ _=>trivial⟩ ix
   obtain⟨us,rfl,u3⟩:=u2.tup
   obtain⟨u4,us4,rfl,u5,_⟩:=Zak u3
   have:=u5.int;subst this
   have ln:Zan [V.ref sp] H=some (.int ss.length,H):=by simp[Zan,hs]
   simp[ZE,ZA,Zc,Zk,Zb,Zd,Za,ln,ZO,Ze,u1,ia0,Zac,ZV])]
  rw[ZaA (ρ1:=upd (fun i=>[vp,V.ref sp,V.ref kk,V.int steps][i]?) 4 (.obj Runner_c o)) (H1:=K) (by
   have:ZcF Runner_c Zep (Zb (Za 0) (Zb (Za 1) (Zb (Za 2) Zd))) (fun i=>[vp,V.ref sp,V.ref kk,V.int steps][i]?) H=some (.obj Runner_c o,K):=by
    rw[←n1]
    simp[ZcF,Zb,Za,Zd]
   simp[Zu,this])]
  rw[ZaA (ρ1:=ρ) (H1:=K1) (by
   simp[Zu,Zad,Zb,Zd,ZO,Z1,Za,upd,n2,Zab,hm0,hK1,←hρ])]
  unfold ZdE Zgt at c1
  rw[ZaA c1]
  simp[Zw,Za,←hρ,upd]
 ·rw[←eK]
  exact .ref c2 (by simpa using c3.rfs)
 ·rcases Zz7.mp q with rfl | q
  ·omega
  ·have:=(fm a q).2;omega
 ·rcases Zz7.mp q with rfl | q
  ·omega
  ·have:=(fm a q).2;omega
theorem Zbd(bs:List Int): ZI bs=ZT bs.length (fun i=>bs.getD i 0):=by
 unfold ZI ZT
 congr 1
 apply List.ext_getElem
 ·simp[tab]
 ·intro i h1 h2
  simp[tab]at h1 h2 ⊢
  rw[Zy1 (by omega)]
  rfl
theorem ZpP(n:Nat)(f:Nat→Int): ZT n f=ZI (tab n f):=by
 unfold ZI ZT
 congr 1
 simp[tab]
theorem ZeU: ZT bs.length (fun i=>if i=X then v else bs.getD i 0)=ZI (bs.set X v):=by
 rw[ZpP]
 congr 1
 apply List.ext_getElem
 ·simp[tab]
 ·intro i h1 h2
  simp[tab]at h1 h2 ⊢
  rw[List.getElem_set]
  by_cases c:i=X
  ·rw[if_pos c,if_pos c.symm]
  ·rw[if_neg c,if_neg (Ne.symm c),Zy1 (by omega)]
   rfl
noncomputable def Zje(c:Nat→Int)(bs:List Int): Int:=ZaF c (fun i=>bs.getD i 0) bs.length
section
variable {bs:List Int} {c:Nat→Int}
theorem ZoF(hn:bs.length≤60)(hc:Sh bs.length c): Zbq [Zae bs.length c,ZI bs]=some (.int (Zje c bs)):=by
 rw[Zbd];exact Zdv hn hc
theorem ZnC(hn:bs.length≤60)(hc:Sh bs.length c): ZcY [Zae bs.length c,ZI bs]=some (.int (Zje c bs)):=by
 rw[Zbd];exact ZfX hn hc
end
inductive ClOk(n:Nat): T→Prop where
 | un {c:Nat→Int}:Sh n c→ClOk n (unT n c)
 | sm {c:Nat→Int}:Sh n c→ClOk n (smT n c)
 | ev {c:Nat→Int} {d:Int}:Sh n c→0<d→ClOk n (evT n c d)
theorem Zqd(h:ClOk bs.length t)(hn:bs.length≤60): ∃r,Zb5 [t,ZI bs]=some (.bool r)∧Zdi [t,ZI bs]=some (.bool r):=by
 cases h with
 | @un c hc=>
  have h1:=Zdv (x:=fun i=>bs.getD i 0) hn hc
  have h2:=ZfX (x:=fun i=>bs.getD i 0) hn hc
  exact⟨_,by rw[Zbd];exact Zmj h1,by rw[Zbd];exact ZlE h2⟩
 | @sm c hc=>
  have h1:=Zdv (x:=fun i=>bs.getD i 0) hn hc
  have h2:=ZfX (x:=fun i=>bs.getD i 0) hn hc
  exact⟨_,by rw[Zbd];exact Zmk h1,by rw[Zbd];exact ZlF h2⟩
 | @ev c d hc hd=>
  have h1:=Zdv (x:=fun i=>bs.getD i 0) hn hc
  have h2:=ZfX (x:=fun i=>bs.getD i 0) hn hc
  exact⟨_,by rw[Zbd];exact Zml hd h1,by rw[Zbd];exact ZlG hd h2⟩
inductive PlOk(sig:Nat→Nat×Nat)(g n:Nat): T→Prop where
 | set {X:Nat} {c:Nat→Int}:X<n→Sh n c→PlOk sig g n (.tup [.str (Str.ofString "set"),.int ((X:Int)+1),Zae n c])
 | part {X:Nat} {c:Nat→Int} {d:Int}:X<n→Sh n c→0<d→d.natAbs<2 ^ 300→PlOk sig g n (.tup [.str (Str.ofString "part"),.int ((X:Int)+1),Zae n c,.int d])
 | rest {X:Nat} {c:Nat→Int} {d:Int}:X<n→Sh n c→0<d→PlOk sig g n (.tup [.str (Str.ofString "rest"),.int ((X:Int)+1),Zae n c,.int d])
 | any {X:Nat} {s:Sp2}:X<n→(∀x y,s.1=some x→s.2=some y→x≤y)→PlOk sig g n (.tup [.str (Str.ofString "any"),.int ((X:Int)+1),oT s.1,oT s.2])
 | say {c:T}:ClOk n c→PlOk sig g n (.tup [.str (Str.ofString "say"),c])
 | call {X h:Nat} {sums:List T}:X<n→h<g→sums.length=(sig h).1→(∀s∈sums,∃c,s=Zae n c∧Sh n c)→PlOk sig g n (.tup [.str (Str.ofString "call"),.int ((X:Int)+1),.int h,.lst sums])
noncomputable def Zbz(tp tw:T)(ks:List Int): Nat→RS→Option (List Mo×Nat)
 | 0,s=>some ([],s.n)
 | k+1,s=>(Zcy tw s).bind fun q=>if q then some ([],s.n)else(Zby tp tw ks s).bind fun s'=>(Zbz tp tw ks k s').map fun r=>(s'.m::r.1,r.2)
theorem ZkK{tp tw:T}{ks:List Int}: ∀{k:Nat} {s:RS} {r:List Mo×Nat},Zbz tp tw ks k s=some r→Zeg tp tw ks k s=some r.1
 | 0,s,r,e=>by cases e;rfl
 | k+1,s,r,e=>by
  obtain⟨q,e1,e⟩:=Zz0.mp e
  cases q with
  | true=>rw[if_pos rfl]at e;cases e;simp[Zeg,e1]
  | false=>
   rw[if_neg (by decide)]at e
   obtain⟨s',e2,e⟩:=Zz0.mp e
   obtain⟨r',e3,rfl⟩:=Zz1.mp e
   simp[Zeg,e1,e2,ZkK e3]
section
variable {tp tw:T} {ks:List Int} {most:Nat} {s s' s'':RS} {ms ms' ms'':List Mo}
end
section
variable {tp tw:T} {ks:List Int} {n:Nat} {wt:List (Mo×T)} {f u:Int} {bs:List Int}
theorem Zkf{s:RS}{row:T}{rs:List T}(h:ZaT tw s.m=some (row::rs)): Zcy tw s=some false:=by
 simp[Zcy,h]
theorem Ziz(l:List Int): ZdO (ZI l)=some l:=by
 simp[ZdO,ZI,unL,Ze2]
theorem Zlf(l:List Int): unD (ZI l)=some (some l):=by
 simp[unD,ZI,Ze2]
theorem Zkg{wd:Str}{as:List T}{bs':List Int}(h:ZaT tw (f,u,bs)=some [rowT u (.tup (.str wd::as)) q])(hw:PyData.strOk wd=true)(hc:wd≠Str.ofString "call")(hd:Za0 [ZI bs,.tup (.str wd::as),.int (ZaL ks n wd).2]=some (ZI bs')): Zby tp tw ks ⟨n,wt,(f,u,bs)⟩=some ⟨(ZaL ks n wd).1,wt,(f,q,bs')⟩:=by
 have e:Zfg bs (.tup (.str wd::as)) (ZaL ks n wd).2=some (some bs'):=by simp[Zfg,hd,Zlf]
 unfold rowT at h
 simp only[Zby,h,Zs0,if_pos hw,if_neg hc,Zd5,Zfr,e,ZgU,Zs1,id]
theorem ZmT{q1 q2:Int}{r:Bool}(h:ZaT tw (f,u,bs)=some [rowT u (ZaK c true) q1,rowT u (ZaK c false) q2])(hh:Zb5 [c,ZI bs]=some (.bool r)): Zby tp tw ks ⟨n,wt,(f,u,bs)⟩=some ⟨n,wt,(f,if r then q1 else q2,bs)⟩:=by
 have hp:ZaL ks n (Str.ofString "when")=(n,0):=by
  unfold ZaL;rw[if_neg (by decide +kernel)]
 have d:∀b:Bool,Zfg bs (ZaK c b) 0=some (if r=b then some bs else none):=fun b=>by
  have:=ZmM (n:=bs.length) (x:=fun i=>bs.getD i 0) (p:=0) (b:=b) (by rw[←Zbd];exact hh)
  rw[←Zbd]at this
  unfold Zfg ZaK
  rw[this]
  cases r <;> cases b <;> simp[Zlf] <;> rfl
 have d1:=d true
 have d2:=d false
 unfold rowT at h
 unfold ZaK at h d1 d2
 simp only[Zby,h,Zs0,if_pos (show PyData.strOk (Str.ofString "when")=true by decide +kernel),if_neg (show Str.ofString "when"≠Str.ofString "call" by decide +kernel),hp,Zd5,Zfr,d1,d2]
 cases r <;> simp[ZgU]
end
section
variable {K K' K'':Hp} {g mk kk L0 x:Nat} {vp:V} {tp:T} {ks:List Int} {most u:Nat} {ms:List Mo} {F F' F'':List Nat} {bs:List Int}
end
section
variable {K:Hp} {g mk kk L0 x:Nat} {vp:V} {tp:T} {ks:List Int} {most u:Nat} {ms:List Mo} {F:List Nat} {bs:List Int}
end
noncomputable def SL(sig:Nat→Nat×Nat)(g n:Nat): Nat→T→Int→List T→Int→Prop
 | 0=>fun t u r e=>PlOk sig g n t∧r=[rowT u t (u+1)]∧e=u+1
 | k+1=>fun t u r e=>(PlOk sig g n t∧r=[rowT u t (u+1)]∧e=u+1) ∨
   (∃c a b ra ea rb eb,t=ifT c a b∧ClOk n c∧LyB (SL sig g n k) a (u+1) ra ea∧LyB (SL sig g n k) b (ea+1) rb eb∧r=rowT u (ZaK c true) (u+1)::(ra++rowT u (ZaK c false) (ea+1)::(rb++[rowT ea goT (eb+1),rowT eb goT (eb+1)]))∧e=eb+1) ∨
   (∃c a ra ea,t=whT c a∧ClOk n c∧LyB (SL sig g n k) a (u+2) ra ea∧r=rowT u goT (u+1)::rowT (u+1) (ZaK c true) (u+2)::(ra++[rowT ea goT (u+1),rowT (u+1) (ZaK c false) (ea+1)])∧e=ea+1)
noncomputable def Btw(u e:Int)(r:List T): Prop:=∀x∈r,∃a t b,x=rowT a t b∧u≤a∧a<e
theorem Btw.mono{u' e':Int}(h:Btw u e r)(h1:u'≤u)(h2:e≤e'): Btw u' e' r:=fun x m=>by
 obtain⟨a,t,b,q,l1,l2⟩:=h x m
 exact⟨a,t,b,q,by omega,by omega⟩
theorem Btw.app(h:Btw u e r)(k:Btw u e s): Btw u e (r++s):=fun x m=>(Zz8.mp m).elim (h x) (k x)
theorem Btw.cons(h1:u≤a)(h2:a<e)(k:Btw u e s): Btw u e (rowT a t b::s):=fun x m=>by
 rcases Zz7.mp m with rfl | m
 ·exact⟨a,t,b,rfl,h1,h2⟩
 ·exact k x m
theorem Btw.nil: Btw u e []:=fun x m=>(List.not_mem_nil m).elim
theorem Zct{L:T→Int→List T→Int→Prop}(hL:∀t u r e,L t u r e→u<e∧Btw u e r)(h:LyB L ts u r e): u≤e∧Btw u e r:=by
 induction h with
 | nil=>exact⟨by omega,.nil⟩
 | cons a _ ih=>
  obtain⟨h1,h2⟩:=hL _ _ _ _ a
  obtain⟨h3,h4⟩:=ih
  exact⟨by omega,(h2.mono (by omega) h3).app (h4.mono (by omega) (by omega))⟩
section
variable {sig:Nat→Nat×Nat} {g n:Nat}
theorem Zch: ∀(k:Nat) (t:T) (u:Int) (r:List T) (e:Int),SL sig g n k t u r e→u<e∧Btw u e r
 | 0,t,u,r,e,h=>by
  obtain⟨_,rfl,rfl⟩:=h
  exact⟨by omega,.cons (by omega) (by omega) .nil⟩
 | k+1,t,u,r,e,h=>by
  rcases h with⟨_,rfl,rfl⟩ | ⟨c,a,b,ra,ea,rb,eb,rfl,hc,ha,hb,rfl,rfl⟩ | ⟨c,a,ra,ea,rfl,hc,ha,rfl,rfl⟩
  ·exact⟨by omega,.cons (by omega) (by omega) .nil⟩
  ·obtain⟨l1,k1⟩:=Zct (Zch k) ha
   obtain⟨l2,k2⟩:=Zct (Zch k) hb
   exact⟨by omega,.cons (by omega) (by omega) ((k1.mono (by omega) (by omega)).app (.cons (by omega) (by omega) ((k2.mono (by omega) (by omega)).app (.cons (by omega) (by omega) (.cons (by omega) (by omega) .nil)))))⟩
  ·obtain⟨l1,k1⟩:=Zct (Zch k) ha
   exact⟨by omega,.cons (by omega) (by omega) (.cons (by omega) (by omega) ((k1.mono (by omega) (by omega)).app (.cons (by omega) (by omega) (.cons (by omega) (by omega) .nil))))⟩
end
theorem ZiA: src q (rowT a t b)=(a == q):=rfl
theorem Zb6(h:Btw u e r)(hq:q<u∨e≤q): r.filter (src q)=[]:=by
 rw[List.filter_eq_nil_iff]
 intro x m
 obtain⟨a,t,b,rfl,l1,l2⟩:=h x m
 rw[ZiA]
 simp
 omega
noncomputable def Seg(tw:T)(f u e:Int)(r:List T): Prop:=∀q bs,u≤q→q<e→ZaT tw (f,q,bs)=some (r.filter (src q))
section
variable {tw:T} {f u e u1 e1:Int} {r r1 r2:List T}
end
section
variable {sig:Nat→Nat×Nat} {g n:Nat}
theorem ZkL(h:PlOk sig g n t): ∃w rest,t=.tup (.str w::rest)∧(PyData.strOk w && PyData.strOk iF && decide (w≠iF))=true∧(PyData.strOk w && PyData.strOk wH && decide (w≠wH))=true∧PyData.strOk w=true:=by
 cases h <;> exact⟨_,_,rfl,by decide +kernel,by decide +kernel,by decide +kernel⟩
end
theorem Zmn(l:List Int): T.flatIn (.lst (l.map T.int))=true:=by
 show T.flats _=true
 induction l with
 | nil=>rfl
 | cons a l ih=>simp[T.flats,T.flat,ih]
noncomputable def callT(X:Nat)(h:Nat)(sums:List T): T:=.tup [.str (Str.ofString "call"),.int ((X:Int)+1),.int h,.lst sums]
section
variable {tp tw:T} {ks:List Int} {n:Nat} {wt:List (Mo×T)} {f u:Int} {bs:List Int}
theorem Zmo{sums:List T}{gv:List Int}{m:Mo}(hr:ZaT tw (f,u,bs)=some [rowT u (callT X h sums) q])(hg:ZdB bs sums=some gv)(hf:ZdC tp h gv=some m)(hl:wt.length<10000)(hs:sums.length<10000): Zby tp tw ks ⟨n,wt,(f,u,bs)⟩=some ⟨n,wt++[((f,u,bs),rowT u (callT X h sums) q)],m⟩:=by
 unfold rowT callT at *
 simp only[Zby,hr,Zs0,if_pos (show PyData.strOk (Str.ofString "call")=true by decide +kernel),if_true,Zgr,if_pos hl,if_pos hs,hg,hf,Zs1]
theorem ZnD(hX:X<bs.length)(hn:bs.length≤60): Zi2 bs ((X:Int)+1) a=some (bs.set X a):=by
 unfold Zi2
 rw[Zbd,ZeI hX hn,ZeU]
 exact Ziz _
theorem Zmp{sums:List T}{f' p':Int}{bs':List Int}(hr:ZaT tw (f',p',bs')=some [])(ha:bs'.getLast? = some a)(hX:X<bs.length)(hn:bs.length≤60): Zby tp tw ks ⟨n,wt++[((f,u,bs),rowT u (callT X h sums) q)],(f',p',bs')⟩=some ⟨n,wt,(f,q,bs.set X a)⟩:=by
 have:=ZnD (a:=a) hX hn
 unfold rowT callT
 simp[Zby,hr,ZiO,ha,this]
theorem ZnE{s:RS}{fr:Mo×T}{rows:List T}(h:ZaT tw s.m=some rows)(hw:s.wt=wt++[fr]): Zcy tw s=some false:=by
 simp[Zcy,h,hw]
theorem Zkh{p:Nat}{gv:List Int}(e:fns[h]?=some (.tup [.int p,.int m,.lst body]))(hg:gv.length=p)(hm:m≤60)(hp:p≤m): ZdC (.lst fns) h gv=some ((h:Int),0,gv++List.replicate (m-p) 0):=by
 have hlt:h<fns.length:=(Zz6.mp e).1
 have:ZfJ [.lst fns,.int h,ZI gv]=some (ZbM ((h:Int),0,gv++List.replicate (m-p) 0)):=by
  apply Pk.eq
  unfold ZfJ Zho ZI
  walk_at "z"
  refine ZbP (t:=.tup [.int p,.int m,.lst body]) (by omega) (by simpa using e) ?_
  walk_at "z"
  refine Zod (n:=m-p) (a:=fun i=>.int i) (b:=fun _=>.int 0) (by omega) ?_ (fun i hi=>?_) ?_
  ·refine Zj5 ?_
   walk_at "z"
   refine .inl ⟨m-p,?_,by omega,rfl⟩
   rw[List.length_map,hg]
   congr 2
   omega
  ·walk_at "z"
   rfl
  ·have et:(gv.map T.int++tab (m-p) fun _=>T.int 0)=(gv++List.replicate (m-p) 0).map T.int:=by
    rw[List.map_append]
    congr 1
    apply List.ext_getElem
    ·simp[tab]
    ·intro i h1 h2
     simp[tab]
   refine ZeS (by simp[hg,tab];omega) ?_
   rw[et]
   refine⟨Zmn _,?_⟩
   walk_at "z"
   rfl
 simp only[ZdC,this,Zs0,ZbM,ZgJ,Ze2,Zs1]
end
structure Wo(fns:List T)(tw:T)(sig:Nat→Nat×Nat)(nf:Nat): Prop where
 fn:∀h,h<nf→∃body r e,fns[h]?=some (.tup [.int (sig h).1,.int (sig h).2,.lst body])∧LyB (SL sig h (sig h).2 3) body 0 r e∧Seg tw h 0 e r∧∀bs,ZaT tw ((h:Int),e,bs)=some []
 sg:∀h,h<nf→(sig h).1≤(sig h).2∧1≤(sig h).2∧(sig h).2≤4
section
variable {fns:List T} {tw:T} {ks:List Int} {g mk kk L0:Nat} {vp:V} {most:Nat} {sig:Nat→Nat×Nat} {fg nf:Nat} {wt:List (Mo×T)}
end
theorem ZcC(h:a=q): (rowT a t b::s).filter (src q)=rowT a t b::s.filter (src q):=by
 rw[List.filter_cons_of_pos (by rw[ZiA];simpa using h)]
theorem Zbc(h:a≠q): (rowT a t b::s).filter (src q)=s.filter (src q):=by
 rw[List.filter_cons_of_neg (by rw[ZiA];simpa using h)]
theorem ZoG: Za0 [ZI bs,goT,.int (ZaL ks n (Str.ofString "go")).2]=some (ZI bs):=by
 rw[Zbd];exact ZoB
section
variable {fns:List T} {tw:T} {ks:List Int} {g mk kk L0:Nat} {vp:V} {most:Nat} {sig:Nat→Nat×Nat} {fg nf:Nat} {wt:List (Mo×T)}
end
section
variable {fns:List T} {tw:T} {ks:List Int} {g mk kk L0:Nat} {vp:V} {most:Nat} {sig:Nat→Nat×Nat} {fg nf:Nat} {wt:List (Mo×T)}
end
noncomputable def lgP(bs:List Int): List T→Option (List Int)
 | []=>some []
 | one::ts=>((ZcY [one,ZI bs]).bind unI).bind fun k=>(lgP bs ts).map (k::·)
theorem ZjF{bs:List Int}(hn:bs.length≤60): ∀{sums:List T},(∀s∈sums,∃c,s=Zae bs.length c∧Sh bs.length c)→∃gv,ZdB bs sums=some gv∧lgP bs sums=some gv∧gv.length=sums.length
 | [],_=>⟨[],rfl,rfl,rfl⟩
 | s::sums,h=>by
  obtain⟨gv,e1,e2,e3⟩:=ZjF hn (sums:=sums) fun s m=>h s (Zz2 _ m)
  obtain⟨c,rfl,hc⟩:=h s Zz5
  exact⟨Zje c bs::gv,by simp[ZdB,ZoF hn hc,unI,e1],by simp[lgP,ZnC hn hc,unI,e2],by simp[e3]⟩
section
variable {fns:List T} {tw:T} {ks:List Int} {g mk kk L0:Nat} {vp:V} {most:Nat} {sig:Nat→Nat×Nat} {fg nf:Nat} {wt:List (Mo×T)}
end
section
variable {fns:List T} {tw:T} {ks:List Int} {g mk kk L0:Nat} {vp:V} {most:Nat} {sig:Nat→Nat×Nat} {nf:Nat}
theorem ZnF{fg:Nat}(hp:PlOk sig fg n t): (∃X h sums,t=callT X h sums∧X<n∧h<fg∧sums.length=(sig h).1∧∀s∈sums,∃c,s=Zae n c∧Sh n c)∨∃wd rest,t=.tup (.str wd::rest)∧wd≠Str.ofString "call":=by
 cases hp with
 | call c1 c2 c3 c4=>exact .inl ⟨_,_,_,rfl,c1,c2,c3,c4⟩
 | set=>exact .inr ⟨_,_,rfl,by decide +kernel⟩
 | part=>exact .inr ⟨_,_,rfl,by decide +kernel⟩
 | rest=>exact .inr ⟨_,_,rfl,by decide +kernel⟩
 | any=>exact .inr ⟨_,_,rfl,by decide +kernel⟩
 | say=>exact .inr ⟨_,_,rfl,by decide +kernel⟩
end
section
variable {sig:Nat→Nat×Nat} {g n:Nat}
theorem Zdn{c:Nat→Int}(h:m≤60): Nice (k+1) (Zae m c):=.lst (by simp[tab];omega) (fun t ht=>by
 obtain⟨i,_,rfl⟩:=ZjR ht
 exact .int _)
theorem ZeV(h:ClOk n t)(hn:n≤60): Nice 2 t:=by
 cases h with
 | un hc=>exact .tup (by simp) (Z2 (.str su) (Z2 (Zdn hn) nl0))
 | sm hc=>exact .tup (by simp) (Z2 (.str ss_) (Z2 (Zdn hn) nl0))
 | ev hc hd=>exact .tup (by simp) (Z2 (.str (by decide +kernel)) (Z2 (Zdn hn) (Z2 (.int _) nl0)))
theorem ZkM{a:Option Int}: Nice k (oT a):=by
 cases a with
 | none=>exact .none
 | some a=>exact .int a
theorem ZiB(h:PlOk sig g n t)(hn:n≤60)(hs:∀h,(sig h).1≤60): ZcV t:=by
 refine⟨?_,?_⟩
 ·cases h with
  | set _ _=>exact .tup (by simp) (Z2 (.str (by decide +kernel)) (Z2 (.int _) (Z2 (Zdn hn) nl0)))
  | part _ _ _ _=>exact .tup (by simp) (Z2 (.str (by decide +kernel)) (Z2 (.int _) (Z2 (Zdn hn) (Z2 (.int _) nl0))))
  | rest _ _ _=>exact .tup (by simp) (Z2 (.str (by decide +kernel)) (Z2 (.int _) (Z2 (Zdn hn) (Z2 (.int _) nl0))))
  | any _ _=>exact .tup (by simp) (Z2 (.str (by decide +kernel)) (Z2 (.int _) (Z2 ZkM (Z2 ZkM nl0))))
  | say hc=>exact .tup (by simp) (Z2 (.str (by decide +kernel)) (Z2 (ZeV hc hn) nl0))
  | @call X h sums h1 h2 h3 h4=>
   refine .tup (by simp) (Z2 (.str (by decide +kernel)) (Z2 (.int _) (Z2 (.int _) (Z2 (.lst ?_ fun t ht=>?_) nl0))))
   ·rw[h3];have:=hs h;omega
   ·obtain⟨c,rfl,_⟩:=h4 t ht
    exact Zdn hn
 ·obtain⟨w,rest,e,h1,h2,_⟩:=ZkL h
  exact⟨w,rest,e,h1,h2⟩
theorem Zcr{L L':T→Int→List T→Int→Prop}(hL:∀t u r e,L t u r e→L' t u r e)(h:LyB L ts u r e): LyB L' ts u r e:=by
 induction h with
 | nil=>exact .nil
 | cons a _ ih=>exact .cons (hL _ _ _ _ a) ih
theorem Zgu(hn:n≤60)(hs:∀h,(sig h).1≤60): ∀(k:Nat) (t:T) (u:Int) (r:List T) (e:Int),SL sig g n k t u r e→LyS k t u r e
 | 0,t,u,r,e,h=>⟨ZiB h.1 hn hs,h.2⟩
 | k+1,t,u,r,e,h=>by
  rcases h with⟨hp,h2⟩ | ⟨c,a,b,ra,ea,rb,eb,h1,hc,ha,hb,h2⟩ | ⟨c,a,ra,ea,h1,hc,ha,h2⟩
  ·exact .inl ⟨ZiB hp hn hs,h2⟩
  ·exact .inr (.inl ⟨c,a,b,ra,ea,rb,eb,h1,ZeV hc hn,Zcr (Zgu hn hs k) ha,Zcr (Zgu hn hs k) hb,h2⟩)
  ·exact .inr (.inr ⟨c,a,ra,ea,h1,ZeV hc hn,Zcr (Zgu hn hs k) ha,h2⟩)
theorem Zgg{L:T→Int→List T→Int→Prop}(hL:∀t u r e,L t u r e→e-u≤r.length)(h:LyB L ts u r e): e-u≤r.length:=by
 induction h with
 | nil=>simp
 | cons a _ ih=>
  have:=hL _ _ _ _ a
  simp
  omega
theorem Zgv: ∀(k:Nat) (t:T) (u:Int) (r:List T) (e:Int),SL sig g n k t u r e→e-u≤r.length
 | 0,t,u,r,e,h=>by
  obtain⟨_,rfl,rfl⟩:=h
  simp
  omega
 | k+1,t,u,r,e,h=>by
  rcases h with⟨_,rfl,rfl⟩ | ⟨c,a,b,ra,ea,rb,eb,rfl,hc,ha,hb,rfl,rfl⟩ | ⟨c,a,ra,ea,rfl,hc,ha,rfl,rfl⟩
  ·simp
   omega
  ·have:=Zgg (Zgv k) ha
   have:=Zgg (Zgv k) hb
   simp
   omega
  ·have:=Zgg (Zgv k) ha
   simp
   omega
theorem ZmU(hn:n≤60)(hs:∀h,(sig h).1≤60)(h:LyB (SL sig g n 3) body 0 r e)(hl:r.length≤9000): 0≤e∧Zee (.lst body)=some (.lst r)∧ZeT (.lst r)=some (byP (e.toNat+1) r):=by
 have h':=Zcr (Zgu hn hs 3) h
 obtain⟨e0,hr1,hr2⟩:=ZfV (ZfW 3) h' (by omega)
 have hb:=Zgg (Zgv 3) h
 obtain⟨_,bt⟩:=Zct (Zch 3) h
 refine⟨e0,ZnA h' hl,?_⟩
 have la:=Zow e0 hl hr1 (fun q=>hr2 q)
 simp only[ZeT,la]
 rw[if_pos]
 refine⟨e0,by omega,by omega,?_⟩
 rw[List.all_eq_true]
 intro x m
 obtain⟨a,t,b,rfl,l1,l2⟩:=bt x m
 simp only[Zi4,rowT,decide_eq_true_eq]
 omega
theorem ZkN{k:Int}(h0:0≤k)(h:ts[k.toNat]?=some t): ZcW ts k=some t:=by
 have hlt:k.toNat<ts.length:=(Zz6.mp h).1
 have:seqIndex? k ts.length=some k.toNat:=by unfold seqIndex?;simp;omega
 simp[ZcW,this,h]
end
structure PrOk(fns:List T)(sig:Nat→Nat×Nat): Prop where
 fn:∀h,h<fns.length→∃body r e,fns[h]?=some (.tup [.int (sig h).1,.int (sig h).2,.lst body])∧LyB (SL sig h (sig h).2 3) body 0 r e∧r.length≤9000
 sg:∀h,(sig h).1≤(sig h).2∧1≤(sig h).2∧(sig h).2≤4
theorem ZkO{sig:Nat→Nat×Nat}(hs:∀h,(sig h).1≤(sig h).2∧1≤(sig h).2∧(sig h).2≤4): ∀(fs:List T) (k:Nat),(∀j,j<fs.length→∃body r e,fs[j]?=some (.tup [.int (sig (k+j)).1,.int (sig (k+j)).2,.lst body])∧LyB (SL sig (k+j) (sig (k+j)).2 3) body 0 r e∧r.length≤9000)→∃pls,Zfi fs=some pls∧∀j,j<fs.length→∃body r e,fs[j]?=some (.tup [.int (sig (k+j)).1,.int (sig (k+j)).2,.lst body])∧LyB (SL sig (k+j) (sig (k+j)).2 3) body 0 r e∧0≤e∧pls[j]?=some (byP (e.toNat+1) r)
 | [],k,h=>⟨[],rfl,fun j hj=>by simp at hj⟩
 | f::fs,k,h=>by
  obtain⟨body,r,e,h1,h2,h3⟩:=h 0 (by simp)
  obtain⟨pls,p1,p2⟩:=ZkO hs fs (k+1) (fun j hj=>by
   have:=h (j+1) (by simp;omega)
   rw[show k+(j+1)=k+1+j by omega]at this
   simpa using this)
  obtain⟨e0,q1,q2⟩:=ZmU (by have:=(hs (k+0)).2.2;omega) (fun h=>by have:=hs h;omega) h2 h3
  simp only[List.getElem?_cons_zero,Option.some.injEq]at h1
  subst h1
  refine⟨byP (e.toNat+1) r::pls,by simp[Zfi,ZiQ,q1,q2,p1],fun j hj=>?_⟩
  match j,hj with
  | 0,_=>exact⟨body,r,e,rfl,h2,e0,rfl⟩
  | j+1,hj=>
   obtain⟨b',r',e',z1,z2,z3,z4⟩:=p2 j (by simp at hj;omega)
   rw[show k+(j+1)=k+1+j by omega]
   exact⟨b',r',e',by simpa using z1,z2,z3,by simpa using z4⟩
theorem Zqe(P:PrOk fns sig)(hl:fns.length≤100): ∃tw,ZcZ [.lst fns]=some tw∧Wo fns tw sig fns.length:=by
 obtain⟨pls,p1,p2⟩:=ZkO P.sg fns 0 (fun j hj=>by rw[Nat.zero_add];exact P.fn j hj)
 refine⟨.lst pls,by simp only[ZcZ];rw[if_pos (by omega),p1];rfl,⟨fun h hh=>?_,fun h _=>P.sg h⟩⟩
 obtain⟨body,r,e,z1,z2,z3,z4⟩:=p2 h hh
 rw[Nat.zero_add]at z1 z2
 obtain⟨_,bt⟩:=Zct (Zch 3) z2
 have key:∀q bs,0≤q→q≤e→ZaT (.lst pls) ((h:Int),q,bs)=some (r.filter (src q)):=fun q bs q0 q1=>by
  have i1:=ZkN (ts:=pls) (k:=(h:Int)) (by omega) (by simpa using z4)
  have i2:=ZkN (ts:=(List.range (e.toNat+1)).map fun(p:Nat)=>T.lst (r.filter (src p))) (k:=q) (t:=.lst (r.filter (src q))) q0 (by
   rw[List.getElem?_map,List.getElem?_range (by omega)]
   simp only[Zs1]
   rw[show((q.toNat:Nat):Int)=q by omega])
  simp only[ZaT,unL,Zs0,i1,byP,i2]
 refine⟨body,r,e,z1,z2,fun q bs q0 q1=>key q bs q0 (by omega),fun bs=>?_⟩
 rw[key e bs z3 (by omega),Zb6 bt (.inr (by omega))]
section
variable {Q:T→Prop}
end
theorem ZmV{d:Int}(hd:0<d)(h:Cell v): Cell (v.fdiv d):=by
 refine⟨?_⟩
 have hb:=h.bits
 unfold Builtin.Int.intBits at hb ⊢
 rw[Int.fdiv_eq_ediv_of_nonneg v (by lia)]
 by_cases z:v / d=0
 ·simp[z]
 ·have hv:v≠0:=fun q=>z (by rw[q];simp)
  rw[if_neg (by simpa using hv)]at hb
  rw[if_neg (by simpa using z)]
  have hn:(v / d).natAbs≤v.natAbs:=Int.natAbs_ediv_le_natAbs v d
  have h1:v.natAbs.log2<2 ^ 20:=by lia
  have h3:(v / d).natAbs.log2<2 ^ 20:=(Nat.log2_lt (by lia)).mpr (Nat.lt_of_le_of_lt hn ((Nat.log2_lt (by lia)).mp h1))
  lia
theorem ZpQ(hv:Cell v): ZbT (v.fdiv 7) M5=true:=by
 have:=(ZmV (d:=7) (by decide) hv).bits
 refine Zm7 (Nat.le_trans this (by decide)) ?_
 unfold M5
 exact Nat.le_trans (PyProof.Rows.intBits_le (k:=256) (by decide +kernel)) (by decide)
theorem ZpR: T60<2 ^ 200:=by
 unfold T60;decide
noncomputable def B60(v:Int): Prop:=v.natAbs<2 ^ 210
noncomputable def bk: Nat→Nat
 | 0=>1
 | k+1=>4+8*bk k
section
variable {ns:List Int} {p:Nat} {r:Int} {Q:T→List T→Prop}
theorem ZnG{l:List Int}(hl:l.length=n+1): T.lst (l.map T.int)=Zae n (fun i=>l.getD i 0):=by
 have:=Zbd l
 unfold ZI ZT at this
 rw[hl]at this
 exact this
end
noncomputable def Zft(fs:List T)(sig:Nat→Nat×Nat): Prop:=∀j,j<fs.length→∃rest,fs[j]?=some (.tup (.int (sig j).1::rest))∧(sig j).1≤4
section
variable {ns:List Int} {p:Nat} {r:Int} {Q:T→List T→Prop} {fs:List T} {sig:Nat→Nat×Nat} {n:Nat} {sp low code:Int}
theorem Zgh{k:Int}(h0:0≤k)(h1:k<2): ∃o:Option Int,([T.int a,T.none]:List T)[k.toNat]?=some (oT o)∧(∀x,o=some x→x=a)∧(oT o).flat=true:=by
 have hk:k=0∨k=1:=by omega
 rcases hk with rfl | rfl
 ·exact⟨some a,rfl,fun x h=>by cases h;rfl,rfl⟩
 ·exact⟨none,rfl,fun x h=>(by cases h),rfl⟩
theorem ZgK(k:Int): 0≤(k.fmod 4).fdiv 3∧(k.fmod 4).fdiv 3<2:=by
 have h1:=Int.fmod_nonneg_of_pos k (show(0:Int)<4 by decide)
 have h2:=Int.fmod_lt_of_pos k (show(0:Int)<4 by decide)
 generalize k.fmod 4=m at *
 have hm:m=0∨m=1∨m=2∨m=3:=by omega
 rcases hm with rfl | rfl | rfl | rfl <;> decide
end
noncomputable def StD(sig:Nat→Nat×Nat)(g n k:Nat)(t:T): Prop:=(∀u,∃r e,SL sig g n k t u r e∧r.length≤bk k)∧Nice (3+2*k) t
noncomputable def BodyD(sig:Nat→Nat×Nat)(g n k:Nat)(ts:List T): Prop:=ts.length≤4∧∀t∈ts,StD sig g n k t
section
variable {sig:Nat→Nat×Nat} {g n k:Nat}
theorem ZjW: ∀{ts:List T},(∀t∈ts,StD sig g n k t)→∀u,∃r e,LyB (SL sig g n k) ts u r e∧r.length≤ts.length*bk k
 | [],_,u=>⟨[],u,.nil,by simp⟩
 | t::ts,h,u=>by
  obtain⟨r,e,h1,h2⟩:=(h t Zz5).1 u
  obtain⟨r',e',h3,h4⟩:=ZjW (fun t m=>h t (Zz2 _ m)) e
  refine⟨r++r',e',.cons h1 h3,?_⟩
  rw[List.length_append,List.length_cons,Nat.add_mul]
  omega
theorem BodyD.rows(h:BodyD sig g n k ts)(u:Int): ∃r e,LyB (SL sig g n k) ts u r e∧r.length≤4*bk k:=by
 obtain⟨r,e,h1,h2⟩:=ZjW h.2 u
 exact⟨r,e,h1,Nat.le_trans h2 (Nat.mul_le_mul_right _ h.1)⟩
theorem BodyD.nice(h:BodyD sig g n k ts): Nice (3+2*k+1) (.lst ts):=.lst (by have:=h.1;omega) fun t m=>(h.2 t m).2
theorem StD.plain(h:PlOk sig g n t)(hn:n≤60)(hs:∀h,(sig h).1≤60): StD sig g n k t:=by
 refine⟨fun u=>?_,((ZiB h hn hs).1).mono (by omega)⟩
 cases k with
 | zero=>exact⟨_,_,⟨h,rfl,rfl⟩,by simp[bk]⟩
 | succ k=>exact⟨_,_,.inl ⟨h,rfl,rfl⟩,by simp[bk];omega⟩
theorem ZoH{a b:List T}(hc:ClOk n c)(hn:n≤60)(ha:BodyD sig g n k a)(hb:BodyD sig g n k b): StD sig g n (k+1) (ifT c a b):=by
 refine⟨fun u=>?_,?_⟩
 ·obtain⟨ra,ea,h1,h2⟩:=ha.rows (u+1)
  obtain⟨rb,eb,h3,h4⟩:=hb.rows (ea+1)
  exact⟨_,_,.inr (.inl ⟨c,a,b,ra,ea,rb,eb,rfl,hc,h1,h3,rfl,rfl⟩),by simp[bk];omega⟩
 ·rw[show 3+2*(k+1)=3+2*k+1+1 by omega]
  exact .tup (by simp) (Z2 (.str (by decide +kernel)) (Z2 ((ZeV hc hn).mono (by omega)) (Z2 ha.nice (Z2 hb.nice nl0))))
theorem ZoI{a:List T}(hc:ClOk n c)(hn:n≤60)(ha:BodyD sig g n k a): StD sig g n (k+1) (whT c a):=by
 refine⟨fun u=>?_,?_⟩
 ·obtain⟨ra,ea,h1,h2⟩:=ha.rows (u+2)
  exact⟨_,_,.inr (.inr ⟨c,a,ra,ea,rfl,hc,h1,rfl,rfl⟩),by simp[bk];omega⟩
 ·rw[show 3+2*(k+1)=3+2*k+1+1 by omega]
  exact .tup (by simp) (Z2 (.str (by decide +kernel)) (Z2 ((ZeV hc hn).mono (by omega)) (Z2 ha.nice nl0)))
end
section
variable {ns:List Int} {p:Nat} {r:Int} {Q:T→List T→Prop} {fs:List T} {sig:Nat→Nat×Nat} {n:Nat} {sp low:Int}
end
section
variable {sig sig':Nat→Nat×Nat} {g n:Nat}
theorem PlOk.congr(h:∀j,j<g→sig j=sig' j)(p:PlOk sig g n t): PlOk sig' g n t:=by
 cases p with
 | set a b=>exact .set a b
 | part a b c d=>exact .part a b c d
 | rest a b c=>exact .rest a b c
 | any a b=>exact .any a b
 | say a=>exact .say a
 | call a b c d=>exact .call a b (by rw[←h _ b];exact c) d
theorem SL.congr(h:∀j,j<g→sig j=sig' j): ∀(k:Nat) (t:T) (u:Int) (r:List T) (e:Int),SL sig g n k t u r e→SL sig' g n k t u r e
 | 0,t,u,r,e,x=>⟨x.1.congr h,x.2⟩
 | k+1,t,u,r,e,x=>by
  rcases x with⟨hp,h2⟩ | ⟨c,a,b,ra,ea,rb,eb,h1,hc,ha,hb,h2⟩ | ⟨c,a,ra,ea,h1,hc,ha,h2⟩
  ·exact .inl ⟨hp.congr h,h2⟩
  ·exact .inr (.inl ⟨c,a,b,ra,ea,rb,eb,h1,hc,Zcr (SL.congr h k) ha,Zcr (SL.congr h k) hb,h2⟩)
  ·exact .inr (.inr ⟨c,a,ra,ea,h1,hc,Zcr (SL.congr h k) ha,h2⟩)
theorem SL.up: ∀(k:Nat) (t:T) (u:Int) (r:List T) (e:Int),SL sig g n k t u r e→SL sig g n (k+1) t u r e
 | 0,t,u,r,e,x=>.inl x
 | k+1,t,u,r,e,x=>by
  rcases x with⟨hp,h2⟩ | ⟨c,a,b,ra,ea,rb,eb,h1,hc,ha,hb,h2⟩ | ⟨c,a,ra,ea,h1,hc,ha,h2⟩
  ·exact .inl ⟨hp,h2⟩
  ·exact .inr (.inl ⟨c,a,b,ra,ea,rb,eb,h1,hc,Zcr (SL.up k) ha,Zcr (SL.up k) hb,h2⟩)
  ·exact .inr (.inr ⟨c,a,ra,ea,h1,hc,Zcr (SL.up k) ha,h2⟩)
theorem StD.congr(h:∀j,j<g→sig j=sig' j)(x:StD sig g n k t): StD sig' g n k t:=⟨fun u=>by
 obtain⟨r,e,h1,h2⟩:=x.1 u
 exact⟨r,e,h1.congr h _ _ _ _ _,h2⟩,x.2⟩
theorem StD.up(x:StD sig g n k t): StD sig g n (k+1) t:=⟨fun u=>by
 obtain⟨r,e,h1,h2⟩:=x.1 u
 exact⟨r,e,h1.up _ _ _ _ _,by simp[bk];omega⟩,x.2.mono (by omega)⟩
end
structure GoodFs(fs:List T)(sig:Nat→Nat×Nat): Prop where
 fn:∀j,j<fs.length→∃body,fs[j]?=some (.tup [.int (sig j).1,.int (sig j).2,.lst body])∧BodyD sig j (sig j).2 3 body
 sg:∀h,(sig h).1≤(sig h).2∧1≤(sig h).2∧(sig h).2≤4
theorem GoodFs.fsok(G:GoodFs fs sig): Zft fs sig:=fun j hj=>by
 obtain⟨b,h1,_⟩:=G.fn j hj
 have:=G.sg j
 exact⟨_,h1,by omega⟩
theorem GoodFs.snoc{p:Nat}(G:GoodFs fs sig)(h1:p≤m)(h2:1≤m)(h3:m≤4)(hb:BodyD sig fs.length m 3 body): ∃sig',GoodFs (fs++[.tup [.int p,.int m,.lst body]]) sig':=by
 refine⟨fun j=>if j=fs.length then(p,m)else sig j,⟨fun j hj=>?_,fun h=>?_⟩⟩
 ·have cg:∀i,i≤fs.length→∀j,j<i→sig j=(if j=fs.length then(p,m)else sig j):=fun i hi j hj=>by rw[if_neg (by omega)]
  by_cases c:j=fs.length
  ·subst c
   simp only[if_true]
   refine⟨body,by simp,hb.1,fun t m=>(hb.2 t m).congr (cg fs.length (Zz10 _))⟩
  ·simp at hj
   obtain⟨b,q1,q2⟩:=G.fn j (by omega)
   simp only[c,if_false]
   refine⟨b,by rw[Zy0 (by omega)];exact q1,q2.1,fun t m=>(q2.2 t m).congr (cg j (by omega))⟩
 ·split
  ·exact⟨h1,h2,h3⟩
  ·exact G.sg h
theorem GoodFs.pr(G:GoodFs fs sig): PrOk fs sig:=⟨fun h hh=>by
 obtain⟨b,q1,q2⟩:=G.fn h hh
 obtain⟨r,e,q3,q4⟩:=q2.rows 0
 exact⟨b,r,e,q1,q3,Nat.le_trans q4 (by decide)⟩,G.sg⟩
theorem GoodFs.nice(G:GoodFs fs sig)(hl:fs.length≤4): Nice 12 (.lst fs):=.lst (by omega) fun t m=>by
 obtain⟨i,hi,rfl⟩:=List.getElem_of_mem m
 obtain⟨b,q1,q2⟩:=G.fn i hi
 rw[Zy1 hi]at q1
 rw[Option.some.inj q1]
 exact .tup (by simp) (Z2 (.int _) (Z2 (.int _) (Z2 q2.nice nl0)))
section
variable {ns:List Int} {p:Nat} {r:Int} {Q:T→List T→Prop}
end
section
variable {ns:List Int} {p:Nat} {r:Int} {Q:T→List T→Prop}
theorem Zdq(hL:Zcl ns)(h:∀v,B60 v→Q (.int v) [Zay ns (p+1) r]): Pr (ZcG [Zay ns p r]) Q:=by
 have t0:=ZpR
 have t1:0<T60:=by unfold T60;decide
 unfold ZcG Zg7
 walk_at "tz"
 refine(ZkD hL fun v hv=>?_)
 walk_at "tz"
 refine ZbF (by decide) (by decide) ?_
 walk_at "tz"
 refine Zqb ?_
 walk_at "tz"
 refine ZiH (ZpQ hv) ?_
 walk_at "tz"
 refine⟨fun c=>?_,fun c=>?_⟩
 ·walk_at "tz"
  refine Zlt ?_
  walk_at "tz"
  refine Zix (by decide) (by decide) ?_
  walk_at "tz"
  refine Zlt ?_
  walk_at "tz"
  refine h _ ?_
  have h1:=Int.fmod_nonneg_of_pos (v.fdiv 7*M5) (show 0<2*T60-1 by lia)
  have h2:=Int.fmod_lt_of_pos (v.fdiv 7*M5) (show 0<2*T60-1 by lia)
  unfold B60
  omega
 ·walk_at "tz"
  refine h _ ?_
  have h1:=Int.fmod_nonneg_of_pos (v.fdiv 7*M5) (show(0:Int)<13 by lia)
  have h2:=Int.fmod_lt_of_pos (v.fdiv 7*M5) (show(0:Int)<13 by lia)
  unfold B60
  omega
theorem Zdd(hL:Zcl ns)(hn:n≤100)(h:∀c p',Sh n c→Q (Zae n c) [Zay ns p' r]): Pr (Zc0 [Zay ns p r,.int n]) Q:=by
 unfold Zc0 Zhw
 walk_at "tz"
 refine Zdq hL fun v hv=>?_
 walk_at "tz"
 refine Zcs hL (by decide) fun cd c0 c1=>?_
 walk_at "tz"
 refine Zky (n:=n) (a:=fun i=>.int (i:Nat)) (fun i τ=>∃ks p' cd,τ 0=some (Zay ns p' r)∧τ 2=some (.lst ((v::ks).map T.int))∧τ 3=some (.int cd)∧ks.length=i∧∀k∈ks,-(2 ^ 64)<k∧k<2 ^ 64) ?_ ⟨[],p+1+1,cd,?_,?_,?_,rfl,fun k hk=>(List.not_mem_nil hk).elim⟩ (fun i τ hi hI=>?_) (fun τ hI=>?_)
 ·walk_at "tz"
  rfl
 ·walk_at "tr"
 ·walk_at "tr"
 ·walk_at "tr"
 ·obtain⟨ks,p',cd,e0,e2,e3,h1,h2⟩:=hI
  have m0:=Int.fmod_nonneg_of_pos cd (show(0:Int)<5 by decide)
  have m1:=Int.fmod_lt_of_pos cd (show(0:Int)<5 by decide)
  walk_at "tz"
  refine⟨(v::ks).map T.int,by walk_at "tr",by simp;lia,?_⟩
  walk_at "tz"
  refine ZbF (by decide) (by decide) ?_
  refine⟨ks++[cd.fmod 5-2],p',cd.fdiv 5,?_,?_,?_,by simp[h1],fun k hk=>?_⟩
  ·walk_at "tr"
  ·rw[←List.cons_append,List.map_append];walk_at "tr"
  ·walk_at "tr"
  ·rcases Zz8.mp hk with hk | hk
   ·exact h2 k hk
   ·simp at hk;subst hk;omega
 ·obtain⟨ks,p',cd,e0,e2,e3,h1,h2⟩:=hI
  walk_at "tz"
  rw[ZnG (n:=n) (by simp[h1])]
  refine h _ _ fun i hi=>?_
  have:(v::ks).getD (i+1) 0=ks[i]:=by
   rw[List.getD_eq_getElem?_getD,List.getElem?_cons_succ,Zy1 (by omega)]
   rfl
  rw[this]
  exact h2 _ (List.getElem_mem _)
theorem ZeW(hL:Zcl ns)(hn:n≤60)(h:∀c p',ClOk n c→Q c [Zay ns p' r]): Pr (Zer [Zay ns p r,.int n]) Q:=by
 unfold Zer Zhg
 walk_at "tz"
 refine Zcs hL (by decide) fun v v0 v1=>?_
 walk_at "tz"
 have hv:v=0∨v=1∨v=2:=by lia
 rcases hv with rfl | rfl | rfl
 ·refine ZbP (t:=.str (Str.ofString "under")) (by decide) rfl ⟨rfl,?_⟩
  walk_at "tz"
  refine Zdd hL (by lia) fun c p' hc=>?_
  walk_at "tz"
  refine Za6 (by decide +kernel) ?_
  walk_at "tz"
  exact h _ _ (.un hc)
 ·refine ZbP (t:=.str (Str.ofString "same")) (by decide) rfl ⟨rfl,?_⟩
  walk_at "tz"
  refine Zdd hL (by omega) fun c p' hc=>?_
  walk_at "tz"
  refine Za6 (by decide +kernel) ?_
  walk_at "tz"
  exact h _ _ (.sm hc)
 ·refine ZbP (t:=.str (Str.ofString "even")) (by decide) rfl ⟨rfl,?_⟩
  walk_at "tz"
  refine Zdd hL (by omega) fun c p' hc=>?_
  walk_at "tz"
  refine ZcO (by decide +kernel) ?_
  walk_at "tz"
  refine Zcs hL (by decide) fun d d0 d1=>?_
  walk_at "tz"
  exact h _ _ (.ev hc (by lia))
end
section
variable {ns:List Int} {p:Nat} {r:Int} {Q:T→List T→Prop} {fs:List T} {sig:Nat→Nat×Nat} {n:Nat} {sp low code:Int}
theorem ZkP(hL:Zcl ns)(hF:Zft fs sig)(hfl:fs.length≤10)(h0:0≤code)(hl0:1≤low)(hl1:low≤n)(hn:n≤4)(h:∀t p',PlOk sig fs.length n t→Q t [Zay ns p' r]): Pr (ZfC [Zay ns p r,.lst fs,.lst [.int sp,.int n],.int low,.int code]) Q:=by
 have hd:(n:Int)-low+1≠0:=by omega
 have x0:=Int.fmod_nonneg_of_pos (code.fdiv 10) (show 0<(n:Int)-low+1 by omega)
 have x1:=Int.fmod_lt_of_pos (code.fdiv 10) (show 0<(n:Int)-low+1 by omega)
 obtain⟨X,hX⟩:∃X:Nat,low+(code.fdiv 10).fmod ((n:Int)-low+1)=(X:Int)+1:=⟨(low+(code.fdiv 10).fmod ((n:Int)-low+1)-1).toNat,by omega⟩
 have hXn:X<n:=by omega
 unfold ZfC Zhe
 walk_at "tz"
 refine ZbF (by decide) (by decide) ?_
 walk_at "tz"
 rw[hX]
 refine⟨fun c=>?_,fun c=>?_⟩
 ·walk_at "tz"
  refine Zdd hL (by omega) fun c p' hc=>?_
  walk_at "tz"
  refine Zdq hL fun d hd=>?_
  walk_at "tz"
  refine h _ _ (.part hXn hc ?_ ?_)
  ·split <;> omega
  ·unfold B60 at hd;split <;> omega
 walk_at "tz"
 refine⟨fun c=>?_,fun c=>?_⟩
 ·walk_at "tz"
  refine Zdd hL (by omega) fun c p' hc=>?_
  walk_at "tz"
  refine Zdq hL fun d hd=>?_
  walk_at "tz"
  refine h _ _ (.rest hXn hc ?_)
  split <;> omega
 walk_at "tz"
 refine⟨fun c5=>?_,fun c5=>?_⟩
 ·refine⟨fun _=>?_,fun q=>(by cases q)⟩
  walk_at "tz"
  refine Zdq hL fun lo hlo=>?_
  walk_at "tz"
  refine ZbF (by decide) (by decide) ?_
  walk_at "tz"
  refine ZbF (by decide) (by decide) ?_
  obtain⟨a0,a1⟩:=ZgK (code.fdiv 40)
  obtain⟨o1,e1,q1,f1⟩:=Zgh (a:=lo) a0 a1
  refine ZbP (t:=oT o1) a0 e1 ⟨f1,?_⟩
  walk_at "tz"
  refine ZbF (by decide) (by decide) ?_
  walk_at "tz"
  refine ZbF (by decide) (by decide) ?_
  walk_at "tz"
  refine ZbF (by decide) (by decide) ?_
  obtain⟨b0,b1⟩:=ZgK (code.fdiv 1440)
  obtain⟨o2,e2,q2,f2⟩:=Zgh (a:=lo+(code.fdiv 160).fmod 9) b0 b1
  refine ZbP (t:=oT o2) b0 e2 ⟨f2,?_⟩
  walk_at "tz"
  refine h _ _ (.any (s:=(o1,o2)) hXn fun x y hx hy=>?_)
  have:=q1 x hx
  have:=q2 y hy
  have:=Int.fmod_nonneg_of_pos (code.fdiv 160) (show(0:Int)<9 by decide)
  omega
 walk_at "tz"
 refine⟨fun c6=>?_,fun c6=>?_⟩
 ·refine⟨fun _=>?_,fun q=>(by cases q)⟩
  walk_at "tz"
  refine Zdq hL fun lo hlo=>?_
  walk_at "tz"
  refine ZbF (by decide) (by decide) ?_
  walk_at "tz"
  refine ZbF (by decide) (by decide) ?_
  obtain⟨a0,a1⟩:=ZgK (code.fdiv 40)
  obtain⟨o1,e1,q1,f1⟩:=Zgh (a:=lo) a0 a1
  refine ZbP (t:=oT o1) a0 e1 ⟨f1,?_⟩
  walk_at "tz"
  refine ZbF (by decide) (by decide) ?_
  walk_at "tz"
  refine ZbF (by decide) (by decide) ?_
  walk_at "tz"
  refine ZbF (by decide) (by decide) ?_
  obtain⟨b0,b1⟩:=ZgK (code.fdiv 1440)
  obtain⟨o2,e2,q2,f2⟩:=Zgh (a:=lo+(code.fdiv 160).fmod 9) b0 b1
  refine ZbP (t:=oT o2) b0 e2 ⟨f2,?_⟩
  walk_at "tz"
  refine h _ _ (.any (s:=(o1,o2)) hXn fun x y hx hy=>?_)
  have:=q1 x hx
  have:=q2 y hy
  have:=Int.fmod_nonneg_of_pos (code.fdiv 160) (show(0:Int)<9 by decide)
  omega
 walk_at "tz"
 refine⟨fun c=>?_,fun c=>?_⟩
 ·walk_at "tz"
  refine⟨fun c2=>?_,fun c2=>?_⟩
  ·have c2:=of_decide_eq_true c2
   walk_at "tz"
   obtain⟨rest,ej,pj⟩:=hF 0 (by omega)
   refine Zin (n:=(sig 0).1) (a:=fun i=>.int (i:Nat)) (fun t:T=>t) .none (fun _ t=>∃c,t=Zae n c∧Sh n c) (fun _ τ=>(∃p',τ 0=some (Zay ns p' r))∧τ 2=some (.lst [.int sp,.int n])∧τ 5=some (.int ((X:Int)+1))) (by omega) ?_ ⟨⟨p,?_⟩,?_,?_⟩ (fun i τ hi hI=>?_) fun y τ hy hI=>?_
   ·walk_at "tz"
    refine ZbP (t:=.tup (.int (sig 0).1::rest)) (by omega) (by simpa using ej) ?_
    walk_at "tz"
    rfl
   ·walk_at "tr"
   ·walk_at "tr"
   ·walk_at "tr"
   ·obtain⟨⟨p',e0⟩,e2,e5⟩:=hI
    walk_at "tz"
    refine Zdd hL (by omega) fun c p'' hc=>?_
    refine⟨⟨_,rfl,c,rfl,hc⟩,⟨p'',?_⟩,?_,?_⟩
    ·walk_at "tr"
    ·walk_at "tr"
    ·walk_at "tr"
   ·obtain⟨⟨p',e0⟩,e2,e5⟩:=hI
    walk_at "tz"
    refine h _ _ (.call (h:=0) hXn (by omega) (by rw[Zaw]) fun s hs=>?_)
    obtain⟨i,hi,rfl⟩:=ZjR hs
    exact hy i hi
  ·walk_at "tz"
   refine Zdd hL (by omega) fun c p' hc=>?_
   walk_at "tz"
   exact h _ _ (.set hXn hc)
 ·refine⟨fun q=>(by cases q),fun _=>?_⟩
  walk_at "tz"
  refine Zdd hL (by omega) fun c p' hc=>?_
  walk_at "tz"
  exact h _ _ (.set hXn hc)
end
noncomputable def Zf0(fs:List T)(sig:Nat→Nat×Nat)(n:Nat)(sp low:Int)(d:Nat)(P:List T→Option (T×List T)): Prop:=∀(ns:List Int) (p:Nat) (r:Int) (Q:T→List T→Prop),Zcl ns→(∀ts p' r',BodyD sig fs.length n (3-d) ts→Q (.lst ts) [Zay ns p' r'])→Pr (P [Zay ns p r,.lst fs,.lst [.int sp,.int n],.int low,.int d]) Q
section
variable {ns:List Int} {p:Nat} {r:Int} {Q:T→List T→Prop} {fs:List T} {sig:Nat→Nat×Nat} {n:Nat} {sp low:Int}
theorem Zl5{d:Nat}{P:List T→Option (T×List T)}(hL:Zcl ns)(hF:Zft fs sig)(hfl:fs.length≤10)(hs:∀h,(sig h).1≤60)(hl0:1≤low)(hn:n≤4)(hd:d≤2)(hP:d<2→Zf0 fs sig n sp low (d+1) P)(h:∀t p' r',StD sig fs.length n (3-d) t→Q t [Zay ns p' r']): Pr (Zfv P [Zay ns p r,.lst fs,.lst [.int sp,.int n],.int low,.int d]) Q:=by
 unfold Zfv ZgW
 have e3:Zay ns p r=T.lst [Zed ns,T.int p,T.int r]:=rfl
 rw[e3]
 walk_at "tz"
 refine⟨_,2,rfl,rfl,by decide,(by simp),?_⟩
 show Psx (ZB _ _ (ZC _ 0 (Zay ns p (r-1)))) _ _
 walk_at "tz"
 refine Zcs hL (by decide) fun v v0 v1=>?_
 walk_at "tz"
 refine⟨fun c=>?_,fun c=>?_⟩
 ·walk_at "tz"
  refine⟨fun c2=>?_,fun c2=>?_⟩
  ·have d3:d<2:=by have:=of_decide_eq_true c2;omega
   have ed:(d:Int)+1=((d+1:Nat):Int):=by omega
   have en:3-d=3-(d+1)+1:=by omega
   walk_at "tz"
   refine ZeW hL (by omega) fun cl p1 hc=>?_
   walk_at "tz"
   rw[ed]
   refine hP d3 _ _ _ _ hL fun a p2 r2 ha=>?_
   walk_at "tz"
   refine⟨fun c4=>?_,fun c4=>?_⟩
   ·walk_at "tz"
    refine h _ _ _ ?_
    rw[en]
    exact ZoI hc (by omega) ha
   ·walk_at "tz"
    rw[ed]
    refine hP d3 _ _ _ _ hL fun b p3 r3 hb=>?_
    walk_at "tz"
    refine h _ _ _ ?_
    rw[en]
    exact ZoH hc (by omega) ha hb
  ·refine⟨fun q=>(by cases q),fun _=>?_⟩
   walk_at "tz"
   refine⟨fun c5=>?_,fun c5=>?_⟩
   ·refine⟨fun _=>?_,fun q=>(by cases q)⟩
    walk_at "tz"
    refine ZeW hL (by omega) fun c p' hc=>?_
    walk_at "tz"
    exact h _ _ _ (StD.plain (.say hc) (by omega) hs)
   ·have c5:=of_decide_eq_false c5
    walk_at "tz"
    refine⟨fun c6=>?_,fun c6=>?_⟩
    ·refine⟨fun _=>?_,fun q=>(by cases q)⟩
     walk_at "tz"
     refine ZeW hL (by omega) fun c p' hc=>?_
     walk_at "tz"
     exact h _ _ _ (StD.plain (.say hc) (by omega) hs)
    ·walk_at "tz"
     refine ZkP hL hF hfl v0 hl0 (by omega) hn fun t p' ht=>?_
     walk_at "tz"
     exact h _ _ _ (StD.plain ht (by omega) hs)
 ·refine⟨fun q=>(by cases q),fun _=>?_⟩
  walk_at "tz"
  refine⟨fun c5=>?_,fun c5=>?_⟩
  ·refine⟨fun _=>?_,fun q=>(by cases q)⟩
   walk_at "tz"
   refine ZeW hL (by omega) fun c p' hc=>?_
   walk_at "tz"
   exact h _ _ _ (StD.plain (.say hc) (by omega) hs)
  ·have c5:=of_decide_eq_false c5
   walk_at "tz"
   refine⟨fun c6=>?_,fun c6=>?_⟩
   ·refine⟨fun _=>?_,fun q=>(by cases q)⟩
    walk_at "tz"
    refine ZeW hL (by omega) fun c p' hc=>?_
    walk_at "tz"
    exact h _ _ _ (StD.plain (.say hc) (by omega) hs)
   ·walk_at "tz"
    refine ZkP hL hF hfl v0 hl0 (by omega) hn fun t p' ht=>?_
    walk_at "tz"
    exact h _ _ _ (StD.plain ht (by omega) hs)
theorem Zl6{d:Nat}{P:List T→Option (T×List T)}(hF:Zft fs sig)(hfl:fs.length≤10)(hs:∀h,(sig h).1≤60)(hl0:1≤low)(hn:n≤4)(hd:d≤2)(hP:d<2→Zf0 fs sig n sp low (d+1) P): Zf0 fs sig n sp low d (Zbu 5 [(0,1)] (ZfM P)):=fun ns p r Q hL h=>by
 unfold ZfM
 walk_at "tz"
 refine Zon ?_
 walk_at "tz"
 refine Zcs hL (by decide) fun v v0 v1=>?_
 walk_at "tz"
 obtain⟨m,hm,hm4⟩:∃m:Nat,v+1-(if(d:Int)<1 then(d:Int)else 1)=m∧m≤4:=⟨(v+1-(if(d:Int)<1 then(d:Int)else 1)).toNat,by split <;> omega,by split <;> omega⟩
 rw[hm]
 refine Rn.one (by omega) ?_
 refine Zni (fun i τ=>∃ts p' r',τ 0=some (Zay ns p' r')∧τ 1=some (.lst fs)∧τ 2=some (.lst [.int sp,.int n])∧τ 3=some (.int low)∧τ 4=some (.int d)∧τ 5=some (.lst ts)∧(∀t∈ts,StD sig fs.length n (3-d) t)∧ts.length≤i) ⟨[],p+1,r,?_,?_,?_,?_,?_,?_,fun t m=>(List.not_mem_nil m).elim,by simp⟩ (fun i τ hi hI=>?_) (fun τ hI=>?_)
 ·walk_at "tr"
 ·walk_at "tr"
 ·walk_at "tr"
 ·walk_at "tr"
 ·walk_at "tr"
 ·walk_at "tr"
 ·obtain⟨ts,p',r',e0,e1,e2,e3,e4,e5,hb,hl⟩:=hI
  have e9:Zay ns p' r'=T.lst [Zed ns,T.int p',T.int r']:=rfl
  walk_at "tz"
  rw[e9]
  refine ZbP (t:=.int r') (by decide) rfl ?_
  walk_at "tz"
  refine⟨fun c=>?_,fun c=>?_⟩
  ·walk_at "tz"
   refine Zl5 hL hF hfl hs hl0 hn hd hP fun t p2 r2 ht=>?_
   walk_at "tz"
   refine⟨ts,?_,by omega,ts++[t],p2,r2,?_,?_,?_,?_,?_,?_,fun t' m'=>?_,by simp;omega⟩
   ·walk_at "tr"
   ·walk_at "tr"
   ·walk_at "tr"
   ·walk_at "tr"
   ·walk_at "tr"
   ·walk_at "tr"
   ·walk_at "tr"
   ·rcases Zz8.mp m' with m' | m'
    ·exact hb t' m'
    ·simp at m';subst m';exact ht
  ·walk_at "tz"
   refine⟨ts,p',r',?_,?_,?_,?_,?_,?_,hb,by omega⟩
   ·walk_at "tr"
   ·walk_at "tr"
   ·walk_at "tr"
   ·walk_at "tr"
   ·walk_at "tr"
   ·walk_at "tr"
 ·obtain⟨ts,p',r',e0,e1,e2,e3,e4,e5,hb,hl⟩:=hI
  walk_at "tz"
  exact h ts p' r' ⟨by omega,hb⟩
theorem ZiS(hF:Zft fs sig)(hfl:fs.length≤10)(hs:∀h,(sig h).1≤60)(hl0:1≤low)(hn:n≤4): ∀(f d:Nat),d≤2→3≤f+d→Zf0 fs sig n sp low d (Zes f)
 | 0,d,h1,h2=>absurd h2 (by omega)
 | f+1,d,h1,h2=>Zl6 hF hfl hs hl0 hn h1 fun h=>ZiS hF hfl hs hl0 hn f (d+1) (by omega) (by omega)
theorem ZmW(hL:Zcl ns)(h:∀fs sig p' r',GoodFs fs sig→1≤fs.length→fs.length≤2→(∀j,j<fs.length→(sig j).1≤3)→Q (.lst fs) [Zay ns p' r']): Pr (Zfz [Zay ns p r]) Q:=by
 unfold Zfz Zg3
 walk_at "tz"
 refine Zcs hL (by decide) fun v v0 v1=>?_
 walk_at "tz"
 obtain⟨m,rfl⟩:∃m:Nat,v=m:=⟨_,(Int.toNat_of_nonneg v0).symm⟩
 refine Zky (n:=m+1) (a:=fun i=>.int (i:Nat)) (fun i τ=>∃fs sig p' r',τ 0=some (Zay ns p' r')∧τ 1=some (.lst fs)∧τ 2=some (.int m)∧fs.length=i∧GoodFs fs sig∧∀t∈fs,∃(a:Nat) (rest:List T),t=.tup (.int a::rest)∧a≤3) ?_ ⟨[],fun _=>(0,1),p+1,r,?_,?_,?_,rfl,⟨fun j hj=>by simp at hj,fun _=>by decide⟩,fun t m=>(List.not_mem_nil m).elim⟩ (fun i τ hi hI=>?_) (fun τ hI=>?_)
 ·walk_at "tz"
  rw[show(m:Int)+1=((m+1:Nat):Int)by omega]
  exact Rn.one (by omega) rfl
 ·walk_at "tr"
 ·walk_at "tr"
 ·walk_at "tr"
 ·obtain⟨fs,sig,p',r',e0,e1,e2,hl,G,h3⟩:=hI
  have hF:=G.fsok
  have hs:∀h,(sig h).1≤60:=fun h=>by have:=G.sg h;omega
  walk_at "tz"
  refine Zcs hL (by decide) fun cd c0 c1=>?_
  have k0:=Int.fmod_nonneg_of_pos cd (show(0:Int)<3 by decide)
  have k1:=Int.fmod_lt_of_pos cd (show(0:Int)<3 by decide)
  have kd:(2:Int)+cd.fmod 3≠0:=by omega
  have s0:=Int.fmod_nonneg_of_pos (cd.fdiv 3) (show(0:Int)<2+cd.fmod 3 by omega)
  have s1:=Int.fmod_lt_of_pos (cd.fdiv 3) (show(0:Int)<2+cd.fmod 3 by omega)
  obtain⟨sp,hsp⟩:∃sp:Nat,(cd.fdiv 3).fmod (2+cd.fmod 3)=sp:=⟨_,(Int.toNat_of_nonneg s0).symm⟩
  obtain⟨n,hn⟩:∃n:Nat,1+cd.fmod 3=n:=⟨(1+cd.fmod 3).toNat,by omega⟩
  walk_at "tz"
  refine ZbF (by decide) (by decide) ?_
  walk_at "tz"
  rw[hsp,hn]
  refine⟨fun c=>?_,fun c=>?_⟩
  ·have c':=of_decide_eq_true c
   walk_at "tz"
   refine⟨_,rfl,?_⟩
   walk_at "tz"
   rw[c]
   refine⟨.int 1,rfl,?_⟩
   walk_at "tz"
   refine ZiS (low:=(sp:Int)+1) (sp:=sp) hF (by omega) hs (by omega) (by omega) 9 1 (by omega) (by omega) _ _ _ _ hL fun ts p2 r2 hb=>?_
   walk_at "tz"
   have hb3:BodyD sig fs.length n 3 ts:=⟨hb.1,fun t m=>(hb.2 t m).up⟩
   obtain⟨sig',G'⟩:=G.snoc (p:=sp) (m:=n) (by omega) (by omega) (by omega) hb3
   refine⟨fs,by walk_at "tr",by omega,fs++[.tup [.int sp,.int n,.lst ts]],sig',p2,r2,?_,?_,?_,by simp[hl],G',fun t m=>(Zz8.mp m).elim (h3 t) fun m=>⟨sp,_,List.mem_singleton.mp m,by omega⟩⟩
   ·walk_at "tr"
   ·walk_at "tr"
   ·walk_at "tr"
  ·have c':=of_decide_eq_false c
   walk_at "tz"
   refine ZbP (t:=.int r') (by decide) rfl ?_
   walk_at "tz"
   refine⟨_,2,rfl,rfl,by decide,(by simp),?_⟩
   show Psx (Zda _ _ _ (ZC _ 0 (Zay ns (p'+1) (r'+7)))) _ _
   walk_at "tz"
   refine⟨_,rfl,?_⟩
   walk_at "tz"
   rw[c]
   refine⟨.int 0,rfl,?_⟩
   walk_at "tz"
   refine ZiS (low:=1) (sp:=sp) hF (by omega) hs (by omega) (by omega) 9 0 (by omega) (by omega) _ _ _ _ hL fun ts p2 r2 hb=>?_
   walk_at "tz"
   have hb3:BodyD sig fs.length n 3 ts:=⟨hb.1,fun t m=>hb.2 t m⟩
   obtain⟨sig',G'⟩:=G.snoc (p:=sp) (m:=n) (by omega) (by omega) (by omega) hb3
   refine⟨fs,by walk_at "tr",by omega,fs++[.tup [.int sp,.int n,.lst ts]],sig',p2,r2,?_,?_,?_,by simp[hl],G',fun t m=>(Zz8.mp m).elim (h3 t) fun m=>⟨sp,_,List.mem_singleton.mp m,by omega⟩⟩
   ·walk_at "tr"
   ·walk_at "tr"
   ·walk_at "tr"
 ·obtain⟨fs,sig,p',r',e0,e1,e2,hl,G,h3⟩:=hI
  walk_at "tz"
  refine h fs sig p' r' G (by omega) (by omega) fun j hj=>?_
  obtain⟨b,hb,_⟩:=G.fn j hj
  obtain⟨a,rest,ha,a3⟩:=h3 _ (Zy4 hb)
  injection ha with ha
  injection ha with ha _
  injection ha with ha
  omega
end
inductive Out(sig:Nat→Nat×Nat)(g n:Nat)(q e:Int): List T→Prop where
 | one {act:T} {q':Int}:(PlOk sig g n act∨act=goT)→0≤q'→q'≤e→Out sig g n q e [rowT q act q']
 | two {c:T} {a b:Int}:ClOk n c→0≤a→a≤e→0≤b→b≤e→Out sig g n q e [rowT q (ZaK c true) a,rowT q (ZaK c false) b]
theorem Out.mono{g:Nat}{e':Int}{l:List T}(h:Out sig g n q e l)(k:e≤e'): Out sig g n q e' l:=by
 cases h with
 | one a b c=>exact .one a b (by omega)
 | two a b c d f=>exact .two a b (by omega) d (by omega)
section
variable {sig:Nat→Nat×Nat} {g n:Nat}
theorem Zgi(hS:∀t u r e,SL sig g n k t u r e→0≤u→∀q,u≤q→q<e→Out sig g n q e (r.filter (src q)))(h:LyB (SL sig g n k) ts u r e): 0≤u→∀q,u≤q→q<e→Out sig g n q e (r.filter (src q)):=by
 induction h with
 | nil=>intro _ q h1 h2;omega
 | @cons t ts u e1 e2 r1 r2 a b ih=>
  intro h0 q h1 h2
  obtain⟨l1,b1⟩:=Zch _ _ _ _ _ a
  obtain⟨l2,b2⟩:=Zct (Zch _) b
  rw[List.filter_append]
  by_cases c:q<e1
  ·rw[Zb6 b2 (.inl c),List.append_nil]
   exact(hS _ _ _ _ a h0 q h1 c).mono l2
  ·rw[Zb6 b1 (.inr (by omega)),List.nil_append]
   exact ih (by omega) q (by omega) h2
theorem Zgw: ∀(k:Nat) (t:T) (u:Int) (r:List T) (e:Int),SL sig g n k t u r e→0≤u→∀q,u≤q→q<e→Out sig g n q e (r.filter (src q))
 | 0,t,u,r,e,h,h0,q,h1,h2=>by
  obtain⟨hp,rfl,rfl⟩:=h
  have:q=u:=by omega
  subst this
  rw[ZcC rfl,List.filter_nil]
  exact .one (.inl hp) (by omega) (by omega)
 | k+1,t,u,r,e,h,h0,q,h1,h2=>by
  rcases h with⟨hp,rfl,rfl⟩ | ⟨c,a,b,ra,ea,rb,eb,rfl,hc,ha,hb,rfl,rfl⟩ | ⟨c,a,ra,ea,rfl,hc,ha,rfl,rfl⟩
  ·have:q=u:=by omega
   subst this
   rw[ZcC rfl,List.filter_nil]
   exact .one (.inl hp) (by omega) (by omega)
  ·obtain⟨l1,b1⟩:=Zct (Zch _) ha
   obtain⟨l2,b2⟩:=Zct (Zch _) hb
   by_cases c1:q=u
   ·subst c1
    rw[ZcC rfl,List.filter_append,Zb6 b1 (.inl (by omega)),List.nil_append,ZcC rfl,List.filter_append,Zb6 b2 (.inl (by omega)),List.nil_append,Zbc (by omega),Zbc (by omega),List.filter_nil]
    exact .two hc (by omega) (by omega) (by omega) (by omega)
   rw[Zbc (Ne.symm c1),List.filter_append,Zbc (Ne.symm c1),List.filter_append]
   by_cases c2:q<ea
   ·rw[Zb6 b2 (.inl (by omega)),List.nil_append,Zbc (by omega),Zbc (by omega),List.filter_nil,List.append_nil]
    exact(Zgi (Zgw k) ha (by omega) q (by omega) c2).mono (by omega)
   rw[Zb6 b1 (.inr (by omega)),List.nil_append]
   by_cases c3:q=ea
   ·subst c3
    rw[Zb6 b2 (.inl (by omega)),List.nil_append,ZcC rfl,Zbc (by omega),List.filter_nil]
    exact .one (.inr rfl) (by omega) (by omega)
   by_cases c4:q<eb
   ·rw[Zbc (by omega),Zbc (by omega),List.filter_nil,List.append_nil]
    exact(Zgi (Zgw k) hb (by omega) q (by omega) c4).mono (by omega)
   ·have:q=eb:=by omega
    subst this
    rw[Zb6 b2 (.inr (by omega)),List.nil_append,Zbc (by omega),ZcC rfl,List.filter_nil]
    exact .one (.inr rfl) (by omega) (by omega)
  ·obtain⟨l1,b1⟩:=Zct (Zch _) ha
   by_cases c1:q=u
   ·subst c1
    rw[ZcC rfl,Zbc (by omega),List.filter_append,Zb6 b1 (.inl (by omega)),List.nil_append,Zbc (by omega),Zbc (by omega),List.filter_nil]
    exact .one (.inr rfl) (by omega) (by omega)
   rw[Zbc (Ne.symm c1)]
   by_cases c2:q=u+1
   ·subst c2
    rw[ZcC rfl,List.filter_append,Zb6 b1 (.inl (by omega)),List.nil_append,Zbc (by omega),ZcC rfl,List.filter_nil]
    exact .two hc (by omega) (by omega) (by omega) (by omega)
   rw[Zbc (Ne.symm c2),List.filter_append]
   by_cases c3:q<ea
   ·rw[Zbc (by omega),Zbc (Ne.symm c2),List.filter_nil,List.append_nil]
    exact(Zgi (Zgw k) ha (by omega) q (by omega) c3).mono (by omega)
   ·have:q=ea:=by omega
    subst this
    rw[Zb6 b1 (.inr (by omega)),List.nil_append,ZcC rfl,Zbc (Ne.symm c2),List.filter_nil]
    exact .one (.inr rfl) (by omega) (by omega)
end
structure Wp(fns:List T)(tw:T)(sig:Nat→Nat×Nat)(nf:Nat)(en:Nat→Int): Prop where
 out:∀h,h<nf→∀q bs,0≤q→q<en h→∃l,ZaT tw ((h:Int),q,bs)=some l∧Out sig h (sig h).2 q (en h) l
 fin:∀h,h<nf→∀bs,ZaT tw ((h:Int),en h,bs)=some []
 e0:∀h,h<nf→0≤en h
 sg:∀h,h<nf→(sig h).1≤(sig h).2∧1≤(sig h).2∧(sig h).2≤4
 fn:∀h,h<nf→∃body,fns[h]?=some (.tup [.int (sig h).1,.int (sig h).2,.lst body])
theorem Zqf{nf:Nat}(W:Wo fns tw sig nf): ∃en,Wp fns tw sig nf en:=by
 have hx:∀h,∃e:Int,h<nf→∃body r,fns[h]?=some (.tup [.int (sig h).1,.int (sig h).2,.lst body])∧LyB (SL sig h (sig h).2 3) body 0 r e∧Seg tw h 0 e r∧∀bs,ZaT tw ((h:Int),e,bs)=some []:=fun h=>by
  by_cases c:h<nf
  ·obtain⟨b,r,e,q⟩:=W.fn h c
   exact⟨e,fun _=>⟨b,r,q⟩⟩
  ·exact⟨0,fun q=>absurd q c⟩
 refine⟨fun h=>Classical.choose (hx h),⟨fun h hh q bs q0 q1=>?_,fun h hh=>?_,fun h hh=>?_,W.sg,fun h hh=>?_⟩⟩
 ·obtain⟨b,r,h1,h2,h3,h4⟩:=Classical.choose_spec (hx h) hh
  exact⟨_,h3 q bs q0 q1,Zgi (Zgw 3) h2 (by omega) q q0 q1⟩
 ·obtain⟨b,r,h1,h2,h3,h4⟩:=Classical.choose_spec (hx h) hh
  exact h4
 ·obtain⟨b,r,h1,h2,h3,h4⟩:=Classical.choose_spec (hx h) hh
  exact(Zct (Zch 3) h2).1
 ·obtain⟨b,r,h1,_⟩:=Classical.choose_spec (hx h) hh
  exact⟨b,h1⟩
structure IsM(sig:Nat→Nat×Nat)(nf:Nat)(en:Nat→Int)(h:Nat)(m:Mo): Prop where
 f:m.1=h
 hn:h<nf
 p0:0≤m.2.1
 pe:m.2.1≤en h
 bl:m.2.2.length=(sig h).2
noncomputable def IsW(tw:T)(sig:Nat→Nat×Nat)(nf:Nat)(en:Nat→Int)(h:Nat)(fr:Mo×T): Prop:=IsM sig nf en h fr.1∧ZaT tw fr.1=some [fr.2]∧∃X g sums q,fr.2=rowT fr.1.2.1 (callT X g sums) q∧X<(sig h).2∧0≤q∧q≤en h
structure Inv(tw:T)(sig:Nat→Nat×Nat)(nf:Nat)(en:Nat→Int)(s:RS): Prop where
 m:∃h,IsM sig nf en h s.m∧s.wt.length+h<nf
 w:∀(i:Nat) fr,s.wt[i]?=some fr→∃h,IsW tw sig nf en h fr∧i+h<nf
inductive Stp(fns:List T)(tw:T)(sig:Nat→Nat×Nat)(ks:List Int)(s:RS): RS→Prop where
 | leave {wt:List (Mo×T)} {m:Mo} {X g:Nat} {sums:List T} {q a:Int}:s.wt=wt++[(m,rowT m.2.1 (callT X g sums) q)]→ZaT tw s.m=some []→s.m.2.2.getLast? = some a→X<m.2.2.length→ZaT tw m=some [rowT m.2.1 (callT X g sums) q]→Stp fns tw sig ks s ⟨s.n,wt,(m.1,q,m.2.2.set X a)⟩
 | enter {X g:Nat} {sums:List T} {q:Int} {gv:List Int} {body:List T}:ZaT tw s.m=some [rowT s.m.2.1 (callT X g sums) q]→ZdB s.m.2.2 sums=some gv→gv.length=(sig g).1→fns[g]?=some (.tup [.int (sig g).1,.int (sig g).2,.lst body])→(∀t∈sums,∃c,t=Zae s.m.2.2.length c∧Sh s.m.2.2.length c)→sums.length=(sig g).1→Stp fns tw sig ks s ⟨s.n,s.wt++[(s.m,rowT s.m.2.1 (callT X g sums) q)],((g:Int),0,gv++List.replicate ((sig g).2-(sig g).1) 0)⟩
 | act {wd:Str} {as:List T} {q:Int} {bs:List Int} {h:Nat}:ZaT tw s.m=some [rowT s.m.2.1 (.tup (.str wd::as)) q]→(PlOk sig h s.m.2.2.length (.tup (.str wd::as))∨T.tup (.str wd::as)=goT)→PyData.strOk wd=true→wd≠Str.ofString "call"→Za0 [ZI s.m.2.2,.tup (.str wd::as),.int (ZaL ks s.n wd).2]=some (ZI bs)→Stp fns tw sig ks s ⟨(ZaL ks s.n wd).1,s.wt,(s.m.1,q,bs)⟩
 | when {c:T} {a b:Int} {r:Bool}:ZaT tw s.m=some [rowT s.m.2.1 (ZaK c true) a,rowT s.m.2.1 (ZaK c false) b]→ClOk s.m.2.2.length c→Zb5 [c,ZI s.m.2.2]=some (.bool r)→Stp fns tw sig ks s ⟨s.n,s.wt,(s.m.1,if r then a else b,s.m.2.2)⟩
section
variable {fns:List T} {tw:T} {sig:Nat→Nat×Nat} {nf:Nat} {en:Nat→Int} {ks:List Int}
theorem ZoJ{g:Nat}{wd:Str}{as:List T}{pick:Int}(hl:bs.length=n)(hn:n≤60)(hc:wd≠Str.ofString "call")(P:PlOk sig g n (.tup (.str wd::as))): PyData.strOk wd=true∧∃bs',Za0 [ZI bs,.tup (.str wd::as),.int pick]=some (ZI bs')∧bs'.length=n:=by
 subst hl
 obtain⟨w,rest,ew,_,_,ok⟩:=ZkL P
 cases ew
 refine⟨ok,?_⟩
 cases P with
 | @set X c hX hc'=>exact⟨bs.set X (ZaF c (fun i=>bs.getD i 0) bs.length),by rw[Zbd,←ZeU];exact Znu hX hn (Zdv hn hc'),by simp⟩
 | @part X c d hX hc' hd bd=>exact⟨bs.set X ((ZaF c (fun i=>bs.getD i 0) bs.length).fdiv d),by rw[Zbd,←ZeU];exact ZmJ hX hn hd bd (Zdv hn hc'),by simp⟩
 | @rest X c d hX hc' hd=>exact⟨bs.set X ((ZaF c (fun i=>bs.getD i 0) bs.length).fmod d),by rw[Zbd,←ZeU];exact ZmL hX hn hd (Zdv hn hc'),by simp⟩
 | @any X s hX hs=>exact⟨bs.set X (pkd s pick),by rw[Zbd,←ZeU];exact Znw hX hn hs,by simp⟩
 | @say c hcl=>exact⟨bs,by rw[Zbd];exact Znx,rfl⟩
 | call=>exact absurd rfl hc
theorem ZoK(W:Wp fns tw sig nf en)(hnf:nf≤100){s:RS}(I:Inv tw sig nf en s): Zcy tw s=some true∨(Zcy tw s=some false∧∃s',Stp fns tw sig ks s s'∧Zby (.lst fns) tw ks s=some s'∧Inv tw sig nf en s'):=by
 obtain⟨n,wt,f,p,bs⟩:=s
 obtain⟨⟨h,M,hwt⟩,Iw⟩:=I
 obtain⟨ff,hn,p0,pe,bl⟩:=M
 dsimp only at ff p0 pe bl hwt Iw
 subst ff
 obtain⟨s1,s2,s3⟩:=W.sg h hn
 have hb60:bs.length≤60:=by omega
 by_cases c:p<en h
 ·right
  obtain⟨l,l1,l2⟩:=W.out h hn p bs p0 c
  have inv:∀(q:Int) (bs':List Int) (n':Nat),0≤q→q≤en h→bs'.length=(sig h).2→Inv tw sig nf en ⟨n',wt,((h:Int),q,bs')⟩:=fun q bs' n' a b d=>⟨⟨h,⟨rfl,hn,a,b,d⟩,hwt⟩,Iw⟩
  cases l2 with
  | @one act q' ha q0 q1=>
   refine⟨Zkf (s:=⟨n,wt,((h:Int),p,bs)⟩) l1,?_⟩
   rcases ha with ha | rfl
   ·rcases ZnF ha with⟨X,g,sums,rfl,c1,c2,c3,c4⟩ | ⟨wd,rest,rfl,hc⟩
    ·obtain⟨gv,g1,_,g3⟩:=ZjF (bs:=bs) (sums:=sums) hb60 (by rw[bl];exact c4)
     obtain⟨body,hbd⟩:=W.fn g (by omega)
     obtain⟨t1,t2,t3⟩:=W.sg g (by omega)
     have hf:=Zkh (fns:=fns) (h:=g) (gv:=gv) hbd (by omega) (by omega) t1
     refine⟨_,.enter l1 g1 (by omega) hbd (by dsimp only;rw[bl];exact c4) c3,Zmo l1 g1 hf (by omega) (by omega),⟨⟨g,⟨rfl,by omega,Int.le_refl _,W.e0 g (by omega),by simp;omega⟩,by simp;omega⟩,fun i fr e=>?_⟩⟩
     by_cases ci:i<wt.length
     ·rw[Zy0 ci]at e
      exact Iw i fr e
     ·rw[Zy5 (show wt.length≤i by omega)]at e
      have hi:i-wt.length=0:=by
       by_cases z:i-wt.length=0
       ·exact z
       ·rw[Zy8 (show([(((h:Int),p,bs),rowT p (callT X g sums) q')]:List (Mo×T)).length≤i-wt.length by simp;omega)]at e;cases e
      rw[hi]at e
      cases e
      exact⟨h,⟨⟨rfl,hn,p0,pe,bl⟩,l1,X,g,sums,q',rfl,c1,q0,q1⟩,by omega⟩
    ·obtain⟨ok,bs',d1,d2⟩:=ZoJ (pick:=(ZaL ks n wd).2) bl (by omega) hc ha
     exact⟨_,.act (h:=h) l1 (.inl (by dsimp only;rw[bl];exact ha)) ok hc d1,Zkg l1 ok hc d1,inv q' bs' _ q0 q1 d2⟩
   ·have hd:Za0 [ZI bs,goT,.int (ZaL ks n (Str.ofString "go")).2]=some (ZI bs):=ZoG
    exact⟨_,.act (h:=h) (wd:=Str.ofString "go") (as:=[]) l1 (.inr rfl) (by decide +kernel) (by decide +kernel) hd,Zkg (wd:=Str.ofString "go") (as:=[]) l1 (by decide +kernel) (by decide +kernel) hd,inv q' bs _ q0 q1 bl⟩
  | @two cl a b hc a0 a1 b0 b1=>
   refine⟨Zkf (s:=⟨n,wt,((h:Int),p,bs)⟩) l1,?_⟩
   have hc':ClOk bs.length cl:=by rw[bl];exact hc
   obtain⟨r,p1,_⟩:=Zqd hc' hb60
   exact⟨_,.when l1 hc' p1,ZmT l1 p1,inv _ bs n (by split <;> omega) (by split <;> omega) bl⟩
 ·have:p=en h:=by omega
  subst this
  have l1:=W.fin h hn bs
  rcases List.eq_nil_or_concat wt with rfl | ⟨wt0,fr,rfl⟩
  ·left
   simp[Zcy,l1]
  ·right
   rw[List.concat_eq_append]at *
   obtain⟨h',⟨M',r',X,g,sums,q,er,hX,q0,q1⟩,hi⟩:=Iw wt0.length fr (by simp)
   obtain⟨m',row⟩:=fr
   dsimp only at er r' M'
   subst er
   obtain⟨f',p',bs'⟩:=m'
   obtain⟨ff',hn',p0',pe',bl'⟩:=M'
   dsimp only at ff' p0' pe' bl'
   subst ff'
   obtain⟨t1,t2,t3⟩:=W.sg h' hn'
   have ne:bs≠[]:=by intro z;rw[z]at bl;simp at bl;omega
   have ha:bs.getLast? = some (bs.getLast ne):=List.getLast?_eq_some_getLast ne
   refine⟨ZnE l1 rfl,_,.leave (m:=((h':Int),p',bs')) rfl l1 ha (by dsimp only;omega) r',Zmp l1 ha (by omega) (by omega),⟨⟨h',⟨rfl,hn',q0,q1,by simpa using bl'⟩,by dsimp only;omega⟩,fun i fr e=>Iw i fr ?_⟩⟩
   rw[Zy0 (Zz6.mp e).1]
   exact e
theorem ZjG(W:Wp fns tw sig nf en)(hnf:nf≤100): ∀(k:Nat) {s:RS},Inv tw sig nf en s→∃r,Zbz (.lst fns) tw ks k s=some r∧∀m∈r.1,m.2.2.length≤4
 | 0,s,I=>⟨_,rfl,fun m hm=>(List.not_mem_nil hm).elim⟩
 | k+1,s,I=>by
  rcases ZoK (ks:=ks) W hnf I with e | ⟨e,s',_,e2,I'⟩
  ·exact⟨([],s.n),by simp[Zbz,e],fun m hm=>(List.not_mem_nil hm).elim⟩
  ·obtain⟨r,hr,hb⟩:=ZjG W hnf k I'
   refine⟨(s'.m::r.1,r.2),by simp[Zbz,e,e2,hr],fun m hm=>?_⟩
   rcases Zz7.mp hm with rfl | hm
   ·obtain⟨⟨h,M,_⟩,_⟩:=I'
    have:=W.sg h M.hn
    rw[M.bl];omega
   ·exact hb m hm
end
inductive Bl: Nat→T→Prop where
 | none {n:Nat}:Bl n .none
 | bool {n:Nat} {b:Bool}:Bl n (.bool b)
 | int {n:Nat} {i:Int}:Bl n (.int i)
 | str {n:Nat} {x:Str}:PyData.strOk x=true→Bl n (.str x)
 | tup {n:Nat} {ts:List T}:(∀t∈ts,Bl n t)→ts.length≤10000→Bl (n+1) (.tup ts)
 | lst {n:Nat} {ts:List T}:(∀t∈ts,Bl n t)→ts.length≤10000→Bl (n+1) (.lst ts)
theorem Bl.mono(h:Bl n t): ∀{m:Nat},n≤m→Bl m t:=by
 induction h with
 | none=>intro m _;exact .none
 | bool=>intro m _;exact .bool
 | int=>intro m _;exact .int
 | str h=>intro m _;exact .str h
 | tup hs hl ih=>
  intro m hm
  cases m with
  | zero=>omega
  | succ m=>exact .tup (fun t a=>ih t a (by omega)) hl
 | lst hs hl ih=>
  intro m hm
  cases m with
  | zero=>omega
  | succ m=>exact .lst (fun t a=>ih t a (by omega)) hl
theorem Bl.dat(h:Bl n t): Zbn n t=some (dd t)∧PyData.canLay0 (dd t)=true∧PyData.depth (dd t)≤n:=by
 induction h with
 | @none n=>cases n <;> exact⟨rfl,rfl,by simp[dd,PyData.depth]⟩
 | @bool n b=>cases n <;> exact⟨rfl,rfl,by simp[dd,PyData.depth]⟩
 | @int n i=>cases n <;> exact⟨rfl,rfl,by simp[dd,PyData.depth]⟩
 | @str n x h=>cases n <;> exact⟨rfl,by simpa [dd,PyData.canLay0]using h,by simp[dd,PyData.depth]⟩
 | @tup n ts _ _ ih=>
  refine⟨?_,?_,?_⟩
  ·simp only[Zbn,ZeF fun t m=>(ih t m).1,Zs1,dd]
  ·simp only[dd,PyData.canLay0];exact ZeN fun t m=>(ih t m).2.1
  ·simp only[dd,PyData.depth]
   have:=ZeO fun t m=>(ih t m).2.2
   omega
 | @lst n ts _ _ ih=>
  refine⟨?_,?_,?_⟩
  ·simp only[Zbn,ZeF fun t m=>(ih t m).1,Zs1,dd]
  ·simp only[dd,PyData.canLay0];exact ZeN fun t m=>(ih t m).2.1
  ·simp only[dd,PyData.depth]
   have:=ZeO fun t m=>(ih t m).2.2
   omega
theorem ZhY: ∀{ts:List T},(∀t∈ts,PyData.eqv (dd t) (dd t)=true)→PyData.eqvAll (dds ts) (dds ts)=true
 | [],_=>by simp[dds,PyData.eqvAll]
 | t::ts,h=>by
  simp only[dds,PyData.eqvAll,Bool.and_eq_true,h t Zz5,ZhY fun t m=>h t (Zz2 _ m),and_self]
theorem Bl.eqv(h:Bl n t): PyData.eqv (dd t) (dd t)=true:=by
 induction h with
 | none=>simp[dd,PyData.eqv]
 | bool=>simp[dd,PyData.eqv]
 | int=>simp[dd,PyData.eqv]
 | str _=>simp[dd,PyData.eqv]
 | tup hs _ ih=>simp only[dd,PyData.eqv];exact ZhY ih
 | lst hs _ ih=>simp only[dd,PyData.eqv];exact ZhY ih
theorem Zki{a:T}(ha:Bl n a)(hn:n≤40:=by decide): ZbZ a a=some true:=by
 have ha:=ha.mono hn
 obtain⟨a1,a2,a3⟩:=ha.dat
 unfold ZbZ Za3
 rw[a1]
 simp only[Zs0]
 have hs:SeqAt.shaped (dd a)=true:=by simp only[SeqAt.shaped,a2,Bool.true_and,decide_eq_true_eq];omega
 rw[if_pos ⟨hs,hs⟩,ha.eqv]
section
variable {Q:T→Prop}
theorem Zlg{a:T}(ha:Bl n a)(h:Q (.bool true))(hn:n≤40:=by decide): Pk (qEq a a) Q:=⟨_,by simp only[qEq,Zki ha hn,Zs1],h⟩
theorem Zlh{a:T}(ha:Bl n a)(h:Q (.bool false))(hn:n≤40:=by decide): Pk (qNe a a) Q:=⟨_,by simp only[qNe,Zki ha hn,Zs1];rfl,h⟩
end
theorem Nice.blr(h:Nice n t): Bl n t:=by
 induction h with
 | none=>exact .none
 | bool b=>exact .bool
 | int i=>exact .int
 | str h=>exact .str h
 | tup hl _ ih=>exact .tup ih (by omega)
 | lst hl _ ih=>exact .lst ih (by omega)
theorem ZhZ{l:List Int}(h:l.length≤60): Nice (n+1) (ZI l):=.lst (by simp;omega) (fun t m=>by
 obtain⟨k,_,rfl⟩:=Zz11.mp m
 exact .int _)
theorem ZnH{m:Mo}(h:m.2.2.length≤60): Nice (n+2) (ZbM m):=.tup (by simp) (Z2 (.int _) (Z2 (.int _) (Z2 (ZhZ h) nl0)))
theorem ZjX{ms:List Mo}(hl:ms.length≤900)(h:∀m∈ms,m.2.2.length≤60): Nice 3 (.lst (ms.map ZbM)):=.lst (by simp;omega) (fun t m=>by
 obtain⟨k,hk,rfl⟩:=Zz11.mp m
 exact ZnH (h k hk))
noncomputable def m0r(sig:Nat→Nat×Nat)(last:Nat)(ss:List Int): Mo:=((last:Int),0,ss++List.replicate ((sig last).2-(sig last).1) 0)
theorem ZjH{tp tw:T}{ks:List Int}: ∀{k:Nat} {s:RS} {r:List Mo×Nat},Zbz tp tw ks k s=some r→r.1.length≤k
 | 0,s,r,e=>by cases e;simp
 | k+1,s,r,e=>by
  obtain⟨q,e1,e⟩:=Zz0.mp e
  cases q with
  | true=>rw[if_pos rfl]at e;cases e;simp
  | false=>
   rw[if_neg (by decide)]at e
   obtain⟨s',e2,e⟩:=Zz0.mp e
   obtain⟨r',e3,rfl⟩:=Zz1.mp e
   have:=ZjH e3
   simp
   omega
theorem ZjI{tp tw:T}{ks:List Int}: ∀{k:Nat} {s:RS} {r:List Mo×Nat} {j:Nat},Zbz tp tw ks k s=some r→j≤k→∃n,Zbz tp tw ks j s=some (r.1.take j,n)
 | k,s,r,0,e,h=>⟨_,rfl⟩
 | 0,s,r,j+1,e,h=>absurd h (by omega)
 | k+1,s,r,j+1,e,h=>by
  obtain⟨q,e1,e⟩:=Zz0.mp e
  cases q with
  | true=>
   rw[if_pos rfl]at e
   cases e
   exact⟨s.n,by simp[Zbz,e1]⟩
  | false=>
   rw[if_neg (by decide)]at e
   obtain⟨s',e2,e⟩:=Zz0.mp e
   obtain⟨r',e3,rfl⟩:=Zz1.mp e
   obtain⟨n,e4⟩:=ZjI e3 (show j≤k by omega)
   exact⟨n,by simp[Zbz,e1,e2,e4]⟩
theorem Zl7(ks:List Int)(z n:Nat): (ks++List.replicate z 0).getD n 0=ks.getD n 0:=by
 simp only[List.getD_eq_getElem?_getD]
 by_cases c:n<ks.length
 ·rw[Zy0 c]
 ·rw[Zy5 (by omega),Zy8 (show ks.length≤n by omega),List.getElem?_replicate]
  split <;> rfl
theorem Zl8{tp:T}{z:Nat}: Zby tp tw (ks++List.replicate z 0)=Zby tp tw ks:=by
 funext s
 simp only[Zby,ZaL,Zl7]
theorem Zjt{tp tw:T}{ks:List Int}{z:Nat}: ∀(k:Nat) (s:RS),Zbz tp tw (ks++List.replicate z 0) k s=Zbz tp tw ks k s
 | 0,s=>rfl
 | k+1,s=>by
  have ih:=fun s=>Zjt (tp:=tp) (tw:=tw) (ks:=ks) (z:=z) k s
  simp only[Zbz,Zl8,ih]
theorem ZiT{ss:List Int}{steps:Int}{r:List Mo×Nat}(P:PrOk fns sig)(h1:1≤fns.length)(hss:ss.length=(sig (fns.length-1)).1)(s9:steps≤900)(hw:ZcZ [.lst fns]=some tw)(hm:Zbz (.lst fns) tw ks steps.toNat ⟨0,[],m0r sig (fns.length-1) ss⟩=some r): ZcP [.lst fns,ZI ss,ZI ks,.int steps]=some (.lst ((m0r sig (fns.length-1) ss::r.1).map ZbM)):=by
 obtain⟨b,r0,e,f1,_⟩:=P.fn (fns.length-1) (by omega)
 obtain⟨q1,q2,q3⟩:=P.sg (fns.length-1)
 have hmain:Zef fns=some ((sig (fns.length-1)).1:Int):=by
  have:fns.getLast? = some (.tup [.int (sig (fns.length-1)).1,.int (sig (fns.length-1)).2,.lst b]):=by
   rw[List.getLast?_eq_getElem?];exact f1
  simp[Zef,this]
 have hf:ZdC (.lst fns) ((fns.length:Int)-1) ss=some (m0r sig (fns.length-1) ss):=by
  have:=Zkh (gv:=ss) f1 hss (by omega) q1
  rw[show((fns.length-1:Nat):Int)=(fns.length:Int)-1 by omega]at this
  rw[this]
  unfold m0r
  rw[show((fns.length-1:Nat):Int)=(fns.length:Int)-1 by omega]
 simp only[ZcP,Ziz,Zs0,hmain]
 rw[if_pos ⟨by rw[hss],by omega⟩]
 simp only[hw,Zs0,hf,ZkK hm,Zs1]
theorem ZoL(P:PrOk fns sig)(h1:1≤fns.length)(h4:fns.length≤100): ∃tw,ZcZ [.lst fns]=some tw∧∀(ks ss:List Int) (k:Nat),ss.length=(sig (fns.length-1)).1→∃r,Zbz (.lst fns) tw ks k ⟨0,[],m0r sig (fns.length-1) ss⟩=some r∧∀m∈m0r sig (fns.length-1) ss::r.1,m.2.2.length≤4:=by
 obtain⟨tw,hw,W⟩:=Zqe P h4
 obtain⟨en,Wq⟩:=Zqf W
 refine⟨tw,hw,fun ks ss k hss=>?_⟩
 obtain⟨q1,q2,q3⟩:=P.sg (fns.length-1)
 have l0:(m0r sig (fns.length-1) ss).2.2.length=(sig (fns.length-1)).2:=by simp[m0r,hss];omega
 obtain⟨r,e,hr⟩:=ZjG (ks:=ks) Wq h4 k (s:=⟨0,[],m0r sig (fns.length-1) ss⟩) ⟨⟨fns.length-1,⟨rfl,by omega,Int.le_refl _,Wq.e0 _ (by omega),l0⟩,by simp;omega⟩,fun i fr e=>by simp at e⟩
 refine⟨r,e,fun m hm=>?_⟩
 rcases Zz7.mp hm with rfl | hm
 ·rw[l0];omega
 ·exact hr m hm
theorem ZoM(P:PrOk fns sig)(h1:1≤fns.length): Zef fns=some ((sig (fns.length-1)).1:Int):=by
 obtain⟨b,r0,e,f1,_⟩:=P.fn (fns.length-1) (by omega)
 have:fns.getLast? = some (.tup [.int (sig (fns.length-1)).1,.int (sig (fns.length-1)).2,.lst b]):=by
  rw[List.getLast?_eq_getElem?];exact f1
 simp[Zef,this]
end L
open PySem PM TM
namespace L
noncomputable def ZiU: SmR:=rIf (ZA (Zc oNe (Zk Zan (Zb (Za 1) Zd)) (Zc Zl (Zc Zl (Za 0) (ZO Zdf (Ze 1))) (Ze 0)))) (ZiJ 145 (Zb (ZN (Str.ofString "a start has one number for each parameter of the main function")) Zd)) rNo
noncomputable def ZgL: List V→Hp→Option (Addr×Hp):=ZgS 4 ZiU
noncomputable def Zg4: Lc→Hp→Option (V×Hp):=fun ρ H=>(ZgI ZgL (Zb (Za 0) (Zb (Za 1) (Zb (Zad Zd) (Zb (Za 2) Zd)))) (upd ρ 3 (.bool false)) H).bind fun q=>if q.1=145 then some (.bool true,q.2)else none
noncomputable def Zen: List V→Hp→Option (V×Hp):=ZgT 3 Zg4
noncomputable def ZdP: List T→Option T
 | [.lst fns,st,.int _]=>(ZdO st).bind fun ss=>(Zef fns).bind fun pr=>if(ss.length:Int)≠pr then some (.bool true)else none
 | _=>none
theorem Zjf: SimF true Zen ZdP:=fun H vs ts t F1 hp r e=>by
 unfold ZdP at e
 split at e
 case h_2=>first|exact Zx0 e|cases e
 rename_i fns st k
 obtain⟨ss,e1,e⟩:=Zz0.mp e
 obtain⟨pr,e3,e⟩:=Zz0.mp e
 split at e
 case isFalse=>first|exact Zx0 e|cases e
 rename_i hc
 cases e
 have:=ZhX e1;subst this
 cases r with
 | @cons vp _ Fp _ _ _ rp r=>
 cases r with
 | @cons vs0 _ Fs _ _ _ rs r=>
 cases r with
 | @cons v3 _ F3 _ _ _ r3 r=>
 cases r
 cases r3
 obtain⟨sp,rfl,hs⟩:=ZiR rs
 obtain⟨lt,q1,q2⟩:=Zz0.mp e3
 obtain⟨ys,ey⟩:=List.getLast?_eq_some_iff.mp q1
 split at q2
 case h_2=>first|exact Zx0 q2|cases q2
 rename_i pr2 tl
 cases q2
 have ix:ZcW fns (-1)=some (T.tup (T.int pr::tl)):=by
  have:seqIndex? (-1) fns.length=some ys.length:=by
   rw[ey]
   unfold seqIndex?
   simp
   omega
  simp only[ZcW,this,Zs0]
  rw[ey]
  simp
 have rp':RF (H++[[]]) vp (.lst fns) Fp:=rp.frame fun a m=>Zy0 (rp.lt a m)
 obtain⟨u,u1,u2⟩:=Zgc (P:=fun _=>True) ⟨_,rp',fun _ _=>trivial⟩ ix
 obtain⟨us,rfl,u3⟩:=u2.tup
 obtain⟨u4,us4,rfl,u5,_⟩:=Zak u3
 have:=u5.int;subst this
 have hs':(H++[[]])[sp]?=some (ss.map V.int):=(Zy0 (lt_of_at hs)).trans hs
 have ln:Zan [V.ref sp] (H++[[]])=some (.int ss.length,H++[[]]):=by simp[Zan,hs']
 have ne:oNe (.int (ss.length:Int)) (.int pr) (H++[[]])=some (.bool true,H++[[]]):=by
  simp[oNe,Zci,toD,SeqAt.shaped,PyData.canLay0,PyData.depth,PyData.eqv,hc]
 have key:ZgI ZgL (Zb (Za 0) (Zb (Za 1) (Zb (Zad Zd) (Zb (Za 2) Zd)))) (upd (fun i=>[vp,V.ref sp,V.int k][i]?) 3 (.bool false)) H=some (145,H++[[]]):=by
  simp[ZgI,Zb,Za,Zd,Zad,upd,Zab,ZgL,ZgS,ZiU,rIf,ZA,Zc,Zk,ln,ZO,Ze,Zdf,u1,ia0,ne,Zac,ZiJ,ZN]
 refine⟨.bool true,[[]],[],?_,.bool true,fun a m=>(List.not_mem_nil m).elim,fun _=>⟨List.nodup_nil,fun a m=>(List.not_mem_nil m).elim⟩⟩
 simp[Zen,ZgT,Zg4,key]
end L
open PySem PM TM
namespace L
noncomputable def Zia: Sm:=Zp (Zu 1 (Zad (Zb (Za 0) (Zb (Ze 0) (Zb (Ze 7) Zd))))) (Zp (Zu 2 (Zk Za9 (Zb (Za 1) (Zb (Ze 61) Zd)))) (Zp (Zu 3 (Zc oMod (Zk Za9 (Zb (Za 1) (Zb (Ze 61) Zd))) (Zc Z0 (Za 2) (Ze 1)))) (Zp (Zu 4 (Zao (ZaY (Zb (Zk Za9 (Zb (Za 1) (Zb (Ze 5) Zd))) Zd)) (ZK 100) Z5 (Zk ZbD (Zb (Za 1) Zd)))) (Zp (Zu 5 (Zao (ZaY (Zb (Ze 3) Zd)) (ZK 102) Z5 (Zk ZbD (Zb (Za 1) Zd)))) (Zp (Zu 6 (Zk Zg2 (Zb (Za 1) Zd))) (Zp (Zu 7 (Zcv (Za 5) ZcL (ZcM (Zc Zl (Zc Zl (Za 6) (ZO Zdf (Ze 1))) (Ze 0))))) (Zp (ZE (ZcD (ZA (Zk Zen (Zb (Za 6) (Zb (Zc Z0 (Za 7) (Zad (Zb (Za 3) Zd))) (Zb (Za 2) Zd)))))) (Zw (Zbs false)) ZV) (Zp (ZE (ZaU (ZA (Zc oGt (Zk Zan (Zb (Za 7) Zd)) (Ze 0))) (ZaU (ZcD (ZA (Zk Zen (Zb (Za 6) (Zb (ZdG (Za 7) 1) (Zb (Za 2) Zd)))))) Z5)) (Zw (Zbs false)) ZV) (Zp (Zu 8 (Zad (Zb (Zk ZfD (Zb (Za 6) Zd)) (Zb (Zk Zbx (Zb (Za 7) Zd)) (Zb (Zk Zbx (Zb (Za 4) Zd)) Zd))))) (Zp (Zu 9 (Zk Zdc (Zb (Zc Zl (Za 8) (Ze 0)) (Zb (Zc Zl (Za 8) (Ze 1)) (Zb (Zc Zl (Za 8) (Ze 2)) (Zb (Za 2) Zd)))))) (Zp (ZE (tOr (ZA (Zc oGt (Zk Zan (Zb (Za 9) Zd)) (Zc Z0 (Za 2) (Ze 1)))) (tOr (ZA (Zc oNe (Zk Zdc (Zb (Za 6) (Zb (Za 7) (Zb (Za 4) (Zb (Za 3) Zd))))) (Zcv (Za 9) ZcL (ZcM (Zc Z0 (Za 3) (Ze 1)))))) ZbR)) (Zw (Zbs false)) ZV) (Zp (ZE (ZA (Zc oNe (Zk Zdc (Zb (Za 6) (Zb (Za 7) (Zb (Zc Z0 (Za 4) (Zc Zcj (Zad (Zb (Ze 0) Zd)) (Zc Z0 (Ze 1) (Zc oMod (Za 3) (Ze 3))))) (Zb (Za 2) Zd))))) (Za 9))) (Zw (Zbs false)) ZV) (Zp (Zu 10 (Zk ZfD (Zb (Za 9) Zd))) (Zp (Zu 11 (Zk Zdc (Zb (Zc Zl (Za 8) (Ze 0)) (Zb (Zc Zl (Za 8) (Ze 1)) (Zb (Zc Zl (Za 8) (Ze 2)) (Zb (Za 2) Zd)))))) (Zp (ZP (Zk ZfO (Zb (Za 8) Zd))) (Zp (ZP (Zk ZfO (Zb (Za 11) Zd))) (Zw (ZcE (Zc oEq (Za 9) (Za 10)) (Zc oEq (Zk Zdc (Zb (Za 6) (Zb (Za 7) (Zb (Za 4) (Zb (Za 2) Zd))))) (Za 10))))))))))))))))))))
noncomputable def Zkj: List V→Hp→Option (V×Hp):=ZG 1 Zia
noncomputable def Zib: PS:=(ZB (ZbL 1 (Zbt (Zg (Zf 0) (Zg (Zn 0) (Zg (Zn 7) Zq))))) (ZB (Zap 2 (Zah false [1] ZbN (Zg (Zf 1) (Zg (Zn 61) Zq)))) (ZB (Zap 3 (ZaP 1000 (Zah false [1] ZbN (Zg (Zf 1) (Zg (Zn 61) Zq))) (xP (Zj Zas (Zf 1000) (Zj Zaj (Zf 2) (Zn 1)))))) (ZB (Zap 4 (ZaP 1001 (Zah false [1] ZbN (Zg (Zf 1) (Zg (Zn 5) Zq))) (Zec (ZbG (Zg (Zf 1001) Zq)) 100 (Zah false [1] ZcG (Zg (Zf 1) Zq))))) (ZB (Zap 5 (Zec (ZbG (Zg (Zn 3) Zq)) 102 (Zah false [1] ZcG (Zg (Zf 1) Zq)))) (ZB (Zap 6 (Zah false [1] Zfz (Zg (Zf 1) Zq))) (ZB (Zap 7 (xP (Zcx (Zf 5) ZcI (ZcJ (Zj ZD (Zj ZD (Zf 6) (pUn Zi6 (Zn 1))) (Zn 0)))))) (ZB (Za8 (xB (Zfn (Z6 (ZW ZdP (Zg (Zf 6) (Zg (Zj Zaj (Zf 7) (Zbt (Zg (Zf 3) Zq))) (Zg (Zf 2) Zq))))))) (Zax (xP (Ze9 false))) Zam) (ZB (Za8 (xB (ZbK (Z6 (Zj qGt (ZW Zb0 (Zg (Zf 7) Zq)) (Zn 0))) (ZbK (Zfn (Z6 (ZW ZdP (Zg (Zf 6) (Zg (Zea (Zf 7) 1) (Zg (Zf 2) Zq)))))) Za1))) (Zax (xP (Ze9 false))) Zam) (ZB (Zap 8 (xP (Zbt (Zg (ZW ZfE (Zg (Zf 6) Zq)) (Zg (pFl (ZW ZdA (Zg (Zf 7) Zq))) (Zg (pFl (ZW ZdA (Zg (Zf 4) Zq))) Zq)))))) (ZB (Zap 9 (xP (ZW ZcP (Zg (Zj ZD (Zf 8) (Zn 0)) (Zg (Zj ZD (Zf 8) (Zn 1)) (Zg (Zj ZD (Zf 8) (Zn 2)) (Zg (Zf 2) Zq))))))) (ZB (Za8 (xB (bOr (Z6 (Zj qGt (ZW Zb0 (Zg (Zf 9) Zq)) (Zj Zaj (Zf 2) (Zn 1)))) (bOr (Z6 (Zj qNe (ZW ZcP (Zg (Zf 6) (Zg (Zf 7) (Zg (Zf 4) (Zg (Zf 3) Zq))))) (Zcx (Zf 9) ZcI (ZcJ (Zj Zaj (Zf 3) (Zn 1)))))) ZeX))) (Zax (xP (Ze9 false))) Zam) (ZB (Za8 (xB (Z6 (Zj qNe (ZW ZcP (Zg (Zf 6) (Zg (Zf 7) (Zg (Zj Zaj (Zf 4) (Zj ZbC (Zbt (Zg (Zn 0) Zq)) (Zj Zaj (Zn 1) (Zj Zas (Zf 3) (Zn 3))))) (Zg (Zf 2) Zq))))) (Zf 9)))) (Zax (xP (Ze9 false))) Zam) (ZB (Zap 10 (xP (ZW ZfE (Zg (Zf 9) Zq)))) (ZB (Zap 11 (xP (ZW ZcP (Zg (Zj ZD (Zf 8) (Zn 0)) (Zg (Zj ZD (Zf 8) (Zn 1)) (Zg (Zj ZD (Zf 8) (Zn 2)) (Zg (Zf 2) Zq))))))) (ZB (Zfd (Zah false [8] Zez (Zg (Zf 8) Zq))) (ZB (Zfd (Zah false [11] Zez (Zg (Zf 11) Zq))) (Zax (xP ((Zfo (Zj qEq (Zf 9) (Zf 10)) (Zj qEq (ZW ZcP (Zg (Zf 6) (Zg (Zf 7) (Zg (Zf 4) (Zg (Zf 2) Zq))))) (Zf 10)))))))))))))))))))))))
noncomputable def Zf1: List T→Option (T×List T):=Zbu 1 [] Zib
theorem ZnI: SimX 1 [] true Zkj Zf1:=SimX.of (show SU [] [] [] [(11,999),(8,999)] [] true Zia Zib from(SU.seq (Zku (i:=1) (O':=[]) (S':=[]) (Zv (Zh 0) (Zv (Zo _) (Zv (Zo _) ZF))) (by decide) (by decide) (by decide) (by decide)) (SU.seq (SU.set (i:=2) (O':=[]) (S':=[(1,1)]) (EX.call (b:=false) (xs:=[1]) (as:=[some 1,none]) (M:=[]) Zcm (XAs.slot (Zaf (Zo _) (by decide) XAs.nil)))) (SU.seq (SU.set (i:=3) (O':=[]) (S':=[(1,1)]) (Zbv (k:=1000) (C:=fun e=>(Zc oMod (e) (Zc Z0 (Za 2) (Ze 1)))) (e:=(Zk Za9 (Zb (Za 1) (Zb (Ze 61) Zd)))) (Zdt (ZaS) (fun ρ v H=>rfl)) (EX.call (b:=false) (xs:=[1]) (as:=[some 1,none]) (M:=[]) Zcm (XAs.slot (Zaf (Zo _) (by decide) XAs.nil))) (Z7 (Zy ZaD (Zh 1000) (ZaI Zaz (Zh 2) (Zo _))) (by decide)) (by decide) (by decide))) (SU.seq (SU.set (i:=4) (O':=[]) (S':=[(1,1)]) (Zbv (k:=1001) (C:=fun e=>(Zao (ZaY (Zb (e) Zd)) (ZK 100) Z5 (Zk ZbD (Zb (Za 1) Zd)))) (e:=(Zk Za9 (Zb (Za 1) (Zb (Ze 5) Zd)))) (Ct.comp (by decide) (Cg.range (Cts.head (ZaS) (fun ρ v H=>rfl))) (fun ρ v H=>rfl) (fun ρ v H=>rfl)) (EX.call (b:=false) (xs:=[1]) (as:=[some 1,none]) (M:=[]) Zcm (XAs.slot (Zaf (Zo _) (by decide) XAs.nil))) (EX.comp (Gs.range (Zv (Zh 1001) ZF)) (by decide) (by decide) (EX.call (b:=false) (xs:=[1]) (as:=[some 1]) (M:=[]) ZdQ (XAs.slot XAs.nil))) (by decide) (by decide))) (SU.seq (SU.set (i:=5) (O':=[]) (S':=[(1,1)]) (EX.comp (Gs.range (Zv (Zo _) ZF)) (by decide) (by decide) (EX.call (b:=false) (xs:=[1]) (as:=[some 1]) (M:=[]) ZdQ (XAs.slot XAs.nil)))) (SU.seq (Zor (x:=1) (i:=6) ZlA (by decide)) (SU.seq (SU.set (i:=7) (O':=[]) (S':=[]) (Z7 (Zf4 (Zh 5) Pe.none (Pe.some (ZQ ZR (ZQ ZR (Zh 6) (ZpZ Zp1 (Zo _))) (Zo _)))) (by decide))) (SU.seq (Zbr (Zbp (ZkU (Bt.val (E.fn Zjf (Zv (Zh 6) (Zv (ZaI Zaz (Zh 7) (E.list (Zv (Zh 3) ZF) (by decide))) (Zv (Zh 2) ZF))))))) (ZaN (O':=[]) (S':=[]) (Z7 (E.bool _) (by decide)) (by decide) (by decide)) SU.next) (SU.seq (Zbr (Zbp (Zcw (Bt.val (Zy ZdM (ZbE Zfa (Zv (Zh 7) ZF)) (Zo _))) (Zcw (ZkU (Bt.val (E.fn Zjf (Zv (Zh 6) (Zv (ZkX (Zh 7)) (Zv (Zh 2) ZF)))))) Zb4))) (ZaN (O':=[]) (S':=[]) (Z7 (E.bool _) (by decide)) (by decide) (by decide)) SU.next) (SU.seq (Zkt (i:=8) (d:=999) (O':=[]) (S':=[]) (Z7 (E.list (Z4 (ZcN Zjp (Zv (Zh 6) ZF)) (Z4 (Zic Zig (Zv (Zh 7) ZF)) (Z4 (Zic Zig (Zv (Zh 4) ZF)) ZF (by decide) (by decide)) (by decide) (by decide)) (by decide) (by decide)) (by decide)) (by decide)) (by decide) (by decide)) (SU.seq (SU.set (i:=9) (O':=[]) (S':=[(8,999)]) (Z7 (ZcN Ze5 (Zv (ZQ ZR (Zh 8) (Zo _)) (Zv (ZQ ZR (Zh 8) (Zo _)) (Zv (ZQ ZR (Zh 8) (Zo _)) (Zv (Zh 2) ZF))))) (by decide))) (SU.seq (Zbr (Zbp (Zd9 (Bt.val (Zy ZdM (ZbE Zfa (Zv (Zh 9) ZF)) (ZaI Zaz (Zh 2) (Zo _)))) (Zd9 (Bt.val (Zy Zi8 (E.fn Ze5 (Zv (Zh 6) (Zv (Zh 7) (Zv (Zh 4) (Zv (Zh 3) ZF))))) (Zf4 (Zh 9) Pe.none (Pe.some (ZaI Zaz (Zh 3) (Zo _)))))) Zh2))) (ZaN (O':=[]) (S':=[(8,999)]) (Z7 (E.bool _) (by decide)) (by decide) (by decide)) SU.next) (SU.seq (Zbr (Zbp (Bt.val (Zy Zi8 (E.fn Ze5 (Zv (Zh 6) (Zv (Zh 7) (Zv (ZaI Zaz (Zh 4) (ZaI Zfc (E.list (Zv (Zo _) ZF) (by decide)) (ZaI Zaz (Zo _) (Zy ZaD (Zh 3) (Zo _))))) (Zv (Zh 2) ZF))))) (Zh 9)))) (ZaN (O':=[]) (S':=[(8,999)]) (Z7 (E.bool _) (by decide)) (by decide) (by decide)) SU.next) (SU.seq (SU.set (i:=10) (O':=[]) (S':=[(8,999)]) (Z7 (E.fn Zjp (Zv (Zh 9) ZF)) (by decide))) (SU.seq (Zkt (i:=11) (d:=999) (O':=[]) (S':=[(8,999)]) (Z7 (ZcN Ze5 (Zv (ZQ ZR (Zh 8) (Zo _)) (Zv (ZQ ZR (Zh 8) (Zo _)) (Zv (ZQ ZR (Zh 8) (Zo _)) (Zv (Zh 2) ZF))))) (by decide)) (by decide) (by decide)) (SU.seq (Zk6 (EX.call (b:=false) (xs:=[8]) (as:=[some 8]) (M:=[]) Zjw (XAs.slot XAs.nil))) (SU.seq (Zk6 (EX.call (b:=false) (xs:=[11]) (as:=[some 11]) (M:=[]) Zjw (XAs.slot XAs.nil))) (ZaN (O':=[]) (S':=[(11,999),(8,999)]) (Z7 ((Zp0 (Zy Zbo (Zh 9) (Zh 10)) (Zy Zbo (E.fn Ze5 (Zv (Zh 6) (Zv (Zh 7) (Zv (Zh 4) (Zv (Zh 2) ZF))))) (Zh 10)))) (by decide)) (by decide) (by decide)))))))))))))))))))) (by decide) (by decide)
structure Hid(p:Prop): Prop where
 h:p
theorem ints_tab{n:Nat}{y:Nat→Int}: T.lst (tab n fun i=>T.int (y i))=ZI (tab n y):=by
 unfold ZI
 congr 1
 simp[tab]
theorem ZnJ{Q:T→Prop}{ts:List T}{t:T}(h:ts[ts.length-1]?=some t)(k:Q t): Pk (ZD (.lst ts) (.int (-1))) Q:=by
 refine⟨t,?_,k⟩
 have hlt:=(Zz6.mp h).1
 have:seqIndex? (-1) ts.length=some (ts.length-1):=by
  unfold seqIndex?
  simp
  omega
 simp[ZD,this,h]
theorem Zkk{c:Option (Option T×TL)}{R:T→TL→Prop}{N N':TL→Prop}(h:Psx c R N')(k:∀σ,N' σ→N σ): Psx c R N:=by
 obtain⟨o,σ,h1,h2,h3⟩:=h
 exact⟨o,σ,h1,h2,fun e=>k σ (h3 e)⟩
theorem ZoN{A B C:PS}{σ:TL}{R:T→TL→Prop}{N N':TL→Prop}(h:Psx (A σ) R (fun σ1=>Psx (B σ1) R N'))(k:∀σ,N' σ→Psx (C σ) R N): Psx (ZB A (ZB B C) σ) R N:=ZiI (Zkk h fun σ1 h1=>ZiI (Zkk h1 k))
theorem ZkQ{l:List Int}: (ZI l).flatIn=true:=by
 unfold ZI T.flatIn
 induction l with
 | nil=>rfl
 | cons a l ih=>simpa [T.flats,T.flat]using ih
theorem ZpS{l:List Int}: Zb0 [ZI l]=some (.int l.length):=by simp[Zb0,ZI]
theorem ZjY{fs:List T}{sig:Nat→Nat×Nat}{zs:List Int}{k:Int}(P:PrOk fs sig)(h1:1≤fs.length)(hz:zs.length≠(sig (fs.length-1)).1): ZdP [.lst fs,ZI zs,.int k]=some (.bool true):=by
 simp only[ZdP,Ziz,Zs0,ZoM P h1]
 rw[if_pos (by omega)]
theorem Zl9{ns:List Int}(hL:Zcl ns): ∃us,Zf1 [Zed ns]=some (.bool true,us):=by
 have:Pr (Zf1 [Zed ns]) fun t _=>t=.bool true:=by
  unfold Zf1 Zib
  walk_at "tz"
  refine Zcs (p:=0) (r:=7) hL (by decide) fun s s0 s1=>?_
  walk_at "tz"
  refine Zcs hL (by decide) fun f f0 f1=>?_
  have sd:s+1≠0:=by omega
  have g0:=Int.fmod_nonneg_of_pos f (show 0<s+1 by omega)
  have g1:=Int.fmod_lt_of_pos f (show 0<s+1 by omega)
  walk_at "tz"
  generalize hfew:f.fmod (s+1)=few at *
  refine Zcs hL (by decide) fun v v0 v1=>?_
  walk_at "tz"
  obtain⟨m,rfl⟩:∃m:Nat,v=m:=⟨_,(Int.toNat_of_nonneg v0).symm⟩
  refine Zin (n:=m) (a:=fun i=>.int (i:Nat)) (fun k:Int=>T.int k) 0 (fun _ _=>True) (fun _ τ=>(∃p',τ 1=some (Zay ns p' 7))∧τ 2=some (.int s)∧τ 3=some (.int few)) (by omega) ?_ ⟨⟨0+1+1+1,?_⟩,?_,?_⟩ (fun i τ hi hI=>?_) fun y τ hy hI=>?_
  ·walk_at "tz"
   rfl
  ·walk_at "tr"
  ·walk_at "tr"
  ·walk_at "tr"
  ·obtain⟨⟨p',t1⟩,t2,t3⟩:=hI
   walk_at "tz"
   refine Zdq hL fun k hk=>?_
   refine⟨⟨_,rfl,trivial⟩,⟨p'+1,?_⟩,?_,?_⟩
   ·walk_at "tr"
   ·walk_at "tr"
   ·walk_at "tr"
  obtain⟨⟨p2,t1⟩,t2,t3⟩:=hI
  rw[ints_tab]
  generalize hks:tab m y=ks
  have lks:ks.length≤5:=by rw[←hks,Zaw];omega
  walk_at "tz"
  refine Zin (n:=3) (a:=fun i=>.int (i:Nat)) (fun k:Int=>T.int k) 0 (fun _ _=>True) (fun _ τ=>(∃p',τ 1=some (Zay ns p' 7))∧τ 2=some (.int s)∧τ 3=some (.int few)∧τ 4=some (ZI ks)) (by omega) ?_ ⟨⟨p2,?_⟩,?_,?_,?_⟩ (fun i τ hi hI=>?_) fun y2 τ2 hy2 hI=>?_
  ·walk_at "tz"
   exact Rn.one (n:=3) (by omega) rfl
  ·walk_at "tr"
  ·walk_at "tr"
  ·walk_at "tr"
  ·walk_at "tr"
  ·obtain⟨⟨p',t1⟩,t2,t3,t4⟩:=hI
   walk_at "tz"
   refine Zdq hL fun k hk=>?_
   refine⟨⟨_,rfl,trivial⟩,⟨p'+1,?_⟩,?_,?_,?_⟩
   ·walk_at "tr"
   ·walk_at "tr"
   ·walk_at "tr"
   ·walk_at "tr"
  obtain⟨⟨p3,t1⟩,t2,t3,t4⟩:=hI
  rw[ints_tab]
  generalize hnm:tab 3 y2=nm
  have lnm:nm.length=3:=by rw[←hnm,Zaw]
  walk_at "tz"
  refine ZmW hL fun fs sig p' r' G h1 h4 h3=>?_
  have h3:=h3 (fs.length-1) (by omega)
  have P:=G.pr
  obtain⟨b,r0,e,q0,_⟩:=P.fn (fs.length-1) (by omega)
  obtain⟨q1,q2,q3⟩:=P.sg (fs.length-1)
  have ix:(fs)[(fs.length-1:Nat)]?=some (.tup [.int (sig (fs.length-1)).1,.int (sig (fs.length-1)).2,.lst b]):=q0
  walk_at "tz"
  refine Zi3 ?_
  walk_at "tz"
  refine⟨_,rfl,?_⟩
  walk_at "tz"
  refine ZnJ ix ?_
  walk_at "tz"
  refine⟨(sig (fs.length-1)).1,rfl,?_⟩
  have ess:T.lst ((nm.map T.int).take (sig (fs.length-1)).1)=ZI (nm.take (sig (fs.length-1)).1):=by
   unfold ZI;rw[List.map_take]
  rw[ess]
  generalize hss:nm.take (sig (fs.length-1)).1=ss
  have lss:ss.length=(sig (fs.length-1)).1:=by rw[←hss,List.length_take];omega
  obtain⟨tw,hw,RA⟩:=ZoL P h1 (by omega)
  obtain⟨r,hr,hr9⟩:=RA ks ss s.toNat lss
  have hrun:=Hid.mk (ZiT P h1 lss (show s≤900 by omega) hw hr)
  have hlen:=ZjH hr
  obtain⟨nf,hf⟩:=ZjI hr (show few.toNat≤s.toNat by omega)
  have hrunf:=Hid.mk (ZiT (steps:=few) P h1 lss (by omega) hw hf)
  obtain⟨z,hz⟩:∃z:Nat,1+few.fmod 3=z:=⟨(1+few.fmod 3).toNat,by have:=Int.fmod_nonneg_of_pos few (show(0:Int)<3 by decide);omega⟩
  have z3:z≤3:=by have:=Int.fmod_lt_of_pos few (show(0:Int)<3 by decide);omega
  have hrunz:=Hid.mk (ZiT (ks:=ks++List.replicate z 0) P h1 lss (show s≤900 by omega) hw ((Zjt _ _).trans hr))
  have hN:=G.nice (by omega)
  have hM:Nice 3 (.lst ((m0r sig (fs.length-1) ss::r.1).map ZbM)):=ZjX (by simp;omega) fun m hm=>by have:=hr9 m hm;omega
  have lM:((m0r sig (fs.length-1) ss::r.1).map ZbM).length≤s+1:=by simp;omega
  have hT:T.lst ((m0r sig (fs.length-1) ss::r.1.take few.toNat).map ZbM)=T.lst (((m0r sig (fs.length-1) ss::r.1).map ZbM).take (few.toNat+1)):=by
   simp[List.map_take]
  have hMf:Nice 3 (.lst (((m0r sig (fs.length-1) ss::r.1).map ZbM).take (few.toNat+1))):=by
   rw[←hT]
   refine ZjX (by simp;omega) fun m hm=>?_
   have:=hr9 m (by
    rcases Zz7.mp hm with h | h
    ·exact h▸List.mem_cons_self
    ·exact Zz2 _ (List.mem_of_mem_take h))
   omega
  rw[hT]at hrunf
  clear hT hr hf RA hw
  generalize hmm:(m0r sig (fs.length-1) ss::r.1).map ZbM=mm at *
  clear hmm hr9 hlen
  refine ZoN (N':=fun σ=>σ 2=some (.int s)∧σ 3=some (.int few)∧σ 4=some (ZI ks)∧σ 6=some (.lst fs)∧σ 7=some (ZI ss)) ?_ fun σ hσ=>?_
  ·walk_at "tz"
   refine ZeS (a:=ss.map T.int) (b:=[.int few]) (by simp;omega) ?_
   rw[show T.lst (ss.map T.int++[.int few])=ZI (ss++[few])by simp[ZI]]
   walk_at "tz"
   refine Pk.of (ZjY P h1 (by simp;omega)) ?_
   walk_at "tz"
   refine Pk.of ZpS ?_
   walk_at "tz"
   refine⟨fun c=>?_,fun c=>?_⟩
   ·have c:=of_decide_eq_true c
    walk_at "tz"
    refine ZjT ?_
    walk_at "tz"
    refine⟨ss.map T.int,rfl,?_⟩
    rw[show T.lst ((ss.map T.int).drop 1)=ZI (ss.drop 1)by simp[ZI]]
    walk_at "tz"
    refine Pk.of (ZjY P h1 (by simp;omega)) ?_
    walk_at "tz"
    exact⟨by walk_at "tr",by walk_at "tr",by walk_at "tr",by walk_at "tr",by walk_at "tr"⟩
   ·refine⟨fun q=>(by cases q),fun _=>?_⟩
    walk_at "tz"
    exact⟨by walk_at "tr",by walk_at "tr",by walk_at "tr",by walk_at "tr",by walk_at "tr"⟩
  obtain⟨e2,e3,e4,e6,e7⟩:=hσ
  walk_at "tz"
  refine Pk.of (ZjS (hN.mono (by decide))) ?_
  walk_at "tz"
  refine⟨ZI ss,rfl,?_⟩
  walk_at "tz"
  refine⟨ZkQ,?_⟩
  walk_at "tz"
  refine⟨ZI ks,rfl,?_⟩
  walk_at "tz"
  refine⟨ZkQ,?_⟩
  walk_at "tz"
  refine Pk.of hrun.h ?_
  walk_at "tz"
  refine Pk.of hrunf.h ?_
  walk_at "tz"
  refine Zi3 ?_
  walk_at "tz"
  refine⟨mm,rfl,?_⟩
  walk_at "tz"
  refine⟨few.toNat+1,by rw[show few+1=((few.toNat+1:Nat):Int)by omega],?_⟩
  refine Zlh (hMf.blr) ?_ (by decide)
  walk_at "tz"
  rw[hz]
  refine Zox (by omega) ?_
  refine ZeS (a:=ks.map T.int) (by simp[tab];omega) ?_
  rw[show T.lst (ks.map T.int++tab z fun _=>T.int 0)=ZI (ks++List.replicate z 0)by simp[ZI,tab,List.map_const']]
  walk_at "tz"
  refine Pk.of hrunz.h ?_
  walk_at "tz"
  refine Zlh (hM.blr) ?_ (by decide)
  walk_at "tz"
  refine Pk.of (ZjS (hM.mono (by decide))) ?_
  walk_at "tz"
  refine Pk.of hrun.h ?_
  walk_at "tz"
  refine Zkb (.lst (by simp) (Z2 (hN.mono (by decide)) (Z2 (ZhZ (by omega)) (Z2 (ZhZ (by omega)) nl0)))) fun u=>?_
  walk_at "tz"
  refine Zkb (hM.mono (by decide)) fun u2=>?_
  walk_at "tz"
  refine Zlg (hM.blr) ?_ (by decide)
  walk_at "tz"
  refine Pk.of hrun.h ?_
  walk_at "tz"
  refine Zlg (hM.blr) ?_ (by decide)
  walk_at "tz"
  rfl
 obtain⟨t,us,e,rfl⟩:=this
 exact⟨us,e⟩
theorem Zl0{ns:List Int}(hlen:ns.length≤63)(hL:PyData.layable0 (.list (ns.map .int))=true): ∃H',Zkj [.ref 0] [ns.map V.int]=some (.bool true,H'):=Zmf ZnI ns (Zl9 hL)
end L
end
section
open PySem PySem.W PyProof.Rows
namespace PySem.W.Fast
theorem tw5105673956185107153:True:=⟨⟩
theorem tw16968176118458789586:True:=⟨⟩
theorem tw9497945907656264259:True:=⟨⟩
theorem tw1176975735165151067:True:=⟨⟩
theorem tw13698048360955963301:True:=⟨⟩
theorem tw10199354318988768051:True:=⟨⟩
theorem tw6397798872860733234:True:=⟨⟩
theorem tw4621932581444047675:True:=⟨⟩
theorem tw14869557710840242666:True:=⟨⟩
theorem tw17643754061406199020:True:=⟨⟩
theorem tw11187973929812520656:True:=⟨⟩
theorem tw9601000219436670146:True:=⟨⟩
theorem tw15452572443179084588:True:=⟨⟩
theorem tw15711008358662736583:True:=⟨⟩
theorem tw9156678896304099913:True:=⟨⟩
theorem tw15886500619415505586:True:=⟨⟩
theorem tw12048056826642495367:True:=⟨⟩
theorem tw4419873286371483742:True:=⟨⟩
theorem tw15221209806709932071:True:=⟨⟩
theorem tw11930311979851757478:True:=⟨⟩
theorem tw12798869161161681673:True:=⟨⟩
theorem tw10209164474934016114:True:=⟨⟩
theorem tw9774394379856643515:True:=⟨⟩
theorem tw2257529940240947247:True:=⟨⟩
theorem tw3101917741504857134:True:=⟨⟩
theorem tw16002967266952078866:True:=⟨⟩
theorem tw17704188385166749297:True:=⟨⟩
theorem tw7523194637212750777:True:=⟨⟩
theorem tw4361700775904427359:True:=⟨⟩
theorem tw7498633149979677338:True:=⟨⟩
theorem tw3092117133297227249:True:=⟨⟩
theorem tw10299302589577801163:True:=⟨⟩
theorem tw13840814423707232359:True:=⟨⟩
theorem tw15515405784836723652:True:=⟨⟩
theorem tw9795096235747971337:True:=⟨⟩
theorem tw17624731456758155189:True:=⟨⟩
theorem tw11519117686961666697:True:=⟨⟩
theorem tw2947586027576077979:True:=⟨⟩
theorem tw16932301668260661676:True:=⟨⟩
theorem tw4157206338815638501:True:=⟨⟩
theorem tw11630328935867623959:True:=⟨⟩
theorem tw5587826856885255690:True:=⟨⟩
theorem tw1349388230604553621:True:=⟨⟩
theorem tw16472409268878238316:True:=⟨⟩
theorem tw10700183255674453818:True:=⟨⟩
theorem tw8164005668110941744:True:=⟨⟩
theorem tw3764688243253525356:True:=⟨⟩
theorem tw13426244417702134072:True:=⟨⟩
theorem tw742405457713269000:True:=⟨⟩
theorem tw5681066748535004433:True:=⟨⟩
theorem tw234749781942434899:True:=⟨⟩
theorem tw529536973988259948:True:=⟨⟩
theorem tw1906743188756502811:True:=⟨⟩
theorem tw7875376050956498882:True:=⟨⟩
theorem tw8426798971799828003:True:=⟨⟩
theorem tw10335527622381539264:True:=⟨⟩
theorem tw14501001857826371202:True:=⟨⟩
theorem tw17925384258215065573:True:=⟨⟩
theorem tw4026151001005817321:True:=⟨⟩
theorem tw5030944203280556702:True:=⟨⟩
theorem tw16131593051203169754:True:=⟨⟩
theorem tw8933567498414919238:True:=⟨⟩
theorem tw5623994078177797194:True:=⟨⟩
theorem tw14191745827877185554:True:=⟨⟩
theorem tw5312734613080425828:True:=⟨⟩
theorem tw2518989090492156107:True:=⟨⟩
theorem tw17849293660312457548:True:=⟨⟩
theorem tw16364373167927100580:True:=⟨⟩
theorem tw14613296582639449008:True:=⟨⟩
theorem tw12018387782679925087:True:=⟨⟩
theorem tw16745343075639119971:True:=⟨⟩
theorem tw16749348522385944071:True:=⟨⟩
theorem tw12996339429388188178:True:=⟨⟩
theorem tw69414778264802052:True:=⟨⟩
theorem tw7537285074954141530:True:=⟨⟩
theorem tw734138898119960010:True:=⟨⟩
theorem tw16950569574821323974:True:=⟨⟩
theorem tw3172541193896328996:True:=⟨⟩
theorem tw4843473975253519250:True:=⟨⟩
theorem tw16172578528114110199:True:=⟨⟩
theorem tw1541540961381408409:True:=⟨⟩
theorem tw3307598998989760257:True:=⟨⟩
theorem tw8789256864460932259:True:=⟨⟩
theorem tw15622835117965313283:True:=⟨⟩
theorem tw5388663596951873645:True:=⟨⟩
theorem tw11849525312028181438:True:=⟨⟩
theorem tw10785849952161257653:True:=⟨⟩
theorem tw569269584081339442:True:=⟨⟩
theorem tw15943592676296772274:True:=⟨⟩
theorem tw7317576523658780031:True:=⟨⟩
theorem tw8621301723031713458:True:=⟨⟩
theorem tw17312996333117680517:True:=⟨⟩
theorem tw4248988804066548162:True:=⟨⟩
theorem tw3414106826494052011:True:=⟨⟩
theorem tw15431481666456513963:True:=⟨⟩
theorem tw12068798485007620914:True:=⟨⟩
theorem tw12941643214049860704:True:=⟨⟩
theorem tw13056512690104125533:True:=⟨⟩
theorem tw8934421753687110507:True:=⟨⟩
theorem tw3094701115853657799:True:=⟨⟩
theorem tw1385777081429181588:True:=⟨⟩
theorem tw16279701975793424917:True:=⟨⟩
theorem tw305048472116853797:True:=⟨⟩
theorem tw3857615796733700780:True:=⟨⟩
theorem tw15508019666092448443:True:=⟨⟩
theorem tw804092199982636349:True:=⟨⟩
theorem tw13829591483307370896:True:=⟨⟩
theorem tw2133357390318303931:True:=⟨⟩
theorem tw17969941481158815411:True:=⟨⟩
theorem tw16469568281967520401:True:=⟨⟩
theorem tw15213048550514571353:True:=⟨⟩
theorem tw17427895641331663283:True:=⟨⟩
theorem tw1165732905965986049:True:=⟨⟩
theorem tw4033379813872489195:True:=⟨⟩
theorem tw14712817762504950641:True:=⟨⟩
theorem tw8903238766108814736:True:=⟨⟩
theorem tw539595736760451978:True:=⟨⟩
theorem tw16149030986926176842:True:=⟨⟩
theorem tw11622863634709415212:True:=⟨⟩
theorem tw13478877428745155630:True:=⟨⟩
theorem tw1820406046763328738:True:=⟨⟩
theorem tw8436589768386056944:True:=⟨⟩
theorem tw3103751414666246812:True:=⟨⟩
theorem tw10097012582147076362:True:=⟨⟩
theorem tw5882939126944850896:True:=⟨⟩
theorem tw17721039672839981703:True:=⟨⟩
theorem tw112567504061534027:True:=⟨⟩
theorem tw9192171586001469603:True:=⟨⟩
theorem tw8646929664414959583:True:=⟨⟩
theorem tw2766794811542550618:True:=⟨⟩
theorem tw17004574920194074796:True:=⟨⟩
theorem tw7825248364748044718:True:=⟨⟩
theorem tw17845374550828520631:True:=⟨⟩
theorem tw17619882183920601743:True:=⟨⟩
theorem tw14439765378166140033:True:=⟨⟩
theorem tw8454840944936950519:True:=⟨⟩
theorem tw18221076124747093969:True:=⟨⟩
theorem tw10752687858943698738:True:=⟨⟩
theorem tw7927676657355488515:True:=⟨⟩
theorem tw17601101962401091345:True:=⟨⟩
theorem tw16629561534657121264:True:=⟨⟩
theorem tw14864845329073380503:True:=⟨⟩
theorem tw7586693836618795562:True:=⟨⟩
theorem tw12059592832596718669:True:=⟨⟩
theorem tw16118103595353321548:True:=⟨⟩
theorem tw11712190458185945011:True:=⟨⟩
theorem tw10746989603658154836:True:=⟨⟩
theorem tw15210816241431372910:True:=⟨⟩
theorem tw11905978938385298303:True:=⟨⟩
theorem tw13231743877010270464:True:=⟨⟩
theorem tw14566440943485919492:True:=⟨⟩
theorem tw4733640183689119296:True:=⟨⟩
theorem tw14374603453287560736:True:=⟨⟩
theorem tw15069716523494295500:True:=⟨⟩
theorem tw14678158920106854735:True:=⟨⟩
theorem tw14790834132378566595:True:=⟨⟩
theorem tw8839083969933755074:True:=⟨⟩
theorem tw8369868683130302868:True:=⟨⟩
theorem tw802917404587063742:True:=⟨⟩
theorem tw5488966160659634681:True:=⟨⟩
theorem tw15845117809764550140:True:=⟨⟩
theorem tw6664951462986138201:True:=⟨⟩
theorem tw5294717298865556989:True:=⟨⟩
theorem tw12532165626772418067:True:=⟨⟩
theorem tw3241244739717862871:True:=⟨⟩
theorem tw15679247252792206210:True:=⟨⟩
theorem tw8160871880118814707:True:=⟨⟩
theorem tw5904261775270647668:True:=⟨⟩
theorem tw9715166753854553471:True:=⟨⟩
theorem tw15431134087688302020:True:=⟨⟩
theorem tw9897558803702562313:True:=⟨⟩
theorem tw11236927865952529332:True:=⟨⟩
theorem tw9508736203920968164:True:=⟨⟩
theorem tw4951363175026504823:True:=⟨⟩
theorem tw6585068141940680455:True:=⟨⟩
theorem tw11990459337992974956:True:=⟨⟩
theorem tw5036445103931068615:True:=⟨⟩
theorem tw517312751163448032:True:=⟨⟩
theorem tw10780761586765376359:True:=⟨⟩
theorem tw11732214188671553305:True:=⟨⟩
theorem tw13792483299354683862:True:=⟨⟩
theorem tw6834397320308548248:True:=⟨⟩
theorem tw4954584648838934644:True:=⟨⟩
theorem tw3482820431698744051:True:=⟨⟩
theorem tw11002848052431835627:True:=⟨⟩
theorem tw6737687440995333003:True:=⟨⟩
theorem tw11289143093466461953:True:=⟨⟩
theorem tw13989995598129119793:True:=⟨⟩
theorem tw9516800180062724845:True:=⟨⟩
theorem tw1948689806639624469:True:=⟨⟩
theorem tw2852278927748849453:True:=⟨⟩
theorem tw5427499738942290107:True:=⟨⟩
theorem tw10390157646234782899:True:=⟨⟩
theorem tw10042499479572932358:True:=⟨⟩
theorem tw2906307230902593747:True:=⟨⟩
theorem tw17996964024917085871:True:=⟨⟩
theorem tw3992908553847606798:True:=⟨⟩
theorem tw7042659310547366237:True:=⟨⟩
theorem tw10015853644003576960:True:=⟨⟩
theorem tw931956834028986255:True:=⟨⟩
theorem tw17857563459279650048:True:=⟨⟩
theorem tw4211952112222678748:True:=⟨⟩
theorem tw8864380892348041232:True:=⟨⟩
theorem tw1322031339247656150:True:=⟨⟩
theorem tw7388713464098733815:True:=⟨⟩
theorem tw12434779806091606683:True:=⟨⟩
theorem tw4268201051430804902:True:=⟨⟩
theorem tw13218621648322568166:True:=⟨⟩
theorem tw14495299557687959983:True:=⟨⟩
theorem tw5353813085845620550:True:=⟨⟩
theorem tw12184380411685104690:True:=⟨⟩
theorem tw17165822852637170231:True:=⟨⟩
theorem tw10693841506766600124:True:=⟨⟩
theorem tw15724745641170818534:True:=⟨⟩
theorem tw13481268755573549168:True:=⟨⟩
theorem tw5485572742587201778:True:=⟨⟩
theorem tw11081772624950168284:True:=⟨⟩
theorem tw14347909398734512454:True:=⟨⟩
theorem tw17093224777342109595:True:=⟨⟩
theorem tw8237626310708396552:True:=⟨⟩
theorem tw4211700434839312001:True:=⟨⟩
theorem tw17837415989878807268:True:=⟨⟩
theorem tw9585978970863474492:True:=⟨⟩
theorem tw1556301984515379406:True:=⟨⟩
theorem tw4674102799890499726:True:=⟨⟩
theorem tw5552461122284547459:True:=⟨⟩
theorem tw15862806813707239167:True:=⟨⟩
theorem tw6315216371427503177:True:=⟨⟩
theorem tw5260856337621036202:True:=⟨⟩
theorem tw8824595633291508535:True:=⟨⟩
theorem tw1611551182742943237:True:=⟨⟩
theorem tw9761588102954696855:True:=⟨⟩
theorem tw7921918552585031126:True:=⟨⟩
theorem tw14805814515597417852:True:=⟨⟩
theorem tw2385268686561707046:True:=⟨⟩
theorem tw729466047920990731:True:=⟨⟩
theorem tw15137687247720179910:True:=⟨⟩
theorem tw17513604867990543079:True:=⟨⟩
theorem tw8605165415444627158:True:=⟨⟩
theorem tw13553050674002434610:True:=⟨⟩
theorem tw7097827964152542560:True:=⟨⟩
theorem tw15632992782082381434:True:=⟨⟩
theorem tw5426448371682200115:True:=⟨⟩
theorem tw5661640270340304354:True:=⟨⟩
theorem tw17094580856887593759:True:=⟨⟩
theorem tw3904583755211930517:True:=⟨⟩
theorem tw17119971604622065936:True:=⟨⟩
theorem tw14788362278542820120:True:=⟨⟩
theorem tw2648174423076098445:True:=⟨⟩
theorem tw5266450434754204200:True:=⟨⟩
theorem tw10069975712529536831:True:=⟨⟩
theorem tw7317234293075219:True:=⟨⟩
theorem tw4425046354534653865:True:=⟨⟩
theorem tw2969480146181677978:True:=⟨⟩
theorem tw3373145609055282853:True:=⟨⟩
theorem tw18431155831084640082:True:=⟨⟩
theorem tw14722794537435163219:True:=⟨⟩
theorem tw11069628954808310989:True:=⟨⟩
theorem tw7942853410682446962:True:=⟨⟩
theorem tw17698735102306075112:True:=⟨⟩
theorem tw317932667124481529:True:=⟨⟩
theorem tw11118301316682269745:True:=⟨⟩
theorem tw15078095837771203109:True:=⟨⟩
theorem tw9503969654606681043:True:=⟨⟩
theorem tw11188117447681078326:True:=⟨⟩
theorem tw4227517698962585424:True:=⟨⟩
theorem tw10150853320135153451:True:=⟨⟩
theorem tw11763852733077360975:True:=⟨⟩
theorem tw8526028360262338249:True:=⟨⟩
theorem tw10052001805573714066:True:=⟨⟩
theorem tw1877378965866140348:True:=⟨⟩
theorem tw306725001281121169:True:=⟨⟩
theorem tw12694589447371642155:True:=⟨⟩
theorem tw17882641709403210578:True:=⟨⟩
theorem tw4153491320931672185:True:=⟨⟩
theorem tw12067549021546063074:True:=⟨⟩
theorem tw16396790404030501481:True:=⟨⟩
theorem tw15755044616229629136:True:=⟨⟩
theorem tw1647960591809683682:True:=⟨⟩
theorem tw17878424488110687958:True:=⟨⟩
theorem tw14267268813261638861:True:=⟨⟩
theorem tw4401931739994206002:True:=⟨⟩
theorem tw10015450608781386451:True:=⟨⟩
theorem tw4185518321428705831:True:=⟨⟩
theorem tw3345597093286824917:True:=⟨⟩
theorem tw5680315236850328200:True:=⟨⟩
theorem tw8174591469460913490:True:=⟨⟩
theorem tw11786325122171474085:True:=⟨⟩
theorem tw15223397061033166810:True:=⟨⟩
theorem tw7343611390307366373:True:=⟨⟩
theorem tw1491140678604924462:True:=⟨⟩
theorem tw7340446101256811000:True:=⟨⟩
theorem tw3121739546393284973:True:=⟨⟩
theorem tw14323227155912201964:True:=⟨⟩
theorem tw14734032772098568817:True:=⟨⟩
theorem tw2962324470309885386:True:=⟨⟩
theorem tw16266442582153907279:True:=⟨⟩
theorem tw11320351676317602388:True:=⟨⟩
theorem tw4693335582198445222:True:=⟨⟩
theorem tw6793172497655745189:True:=⟨⟩
theorem tw6905212232875527693:True:=⟨⟩
theorem tw13952158723898717365:True:=⟨⟩
theorem tw18012574323051992567:True:=⟨⟩
theorem tw5310652868755799522:True:=⟨⟩
theorem tw7524379617451308511:True:=⟨⟩
theorem tw18167724695441219349:True:=⟨⟩
theorem tw12392129776423771058:True:=⟨⟩
theorem tw4968929673044707356:True:=⟨⟩
theorem tw4679911139625869227:True:=⟨⟩
theorem tw12867135839079473525:True:=⟨⟩
theorem tw1391549112126926301:True:=⟨⟩
theorem tw12712400820596877648:True:=⟨⟩
theorem tw10846345724684618374:True:=⟨⟩
theorem tw13055661147411815287:True:=⟨⟩
theorem tw7076977106511060911:True:=⟨⟩
theorem tw6705545979299501561:True:=⟨⟩
theorem tw274189353798237994:True:=⟨⟩
theorem tw10896712999787139778:True:=⟨⟩
theorem tw16655083059833703075:True:=⟨⟩
theorem tw3664731896753646195:True:=⟨⟩
theorem tw6771182271545134960:True:=⟨⟩
theorem tw6873971014812347169:True:=⟨⟩
theorem tw8891557043749499067:True:=⟨⟩
theorem tw4340971767527515617:True:=⟨⟩
theorem tw10497823618577955822:True:=⟨⟩
theorem tw644751248652905101:True:=⟨⟩
theorem tw13508602156133886167:True:=⟨⟩
theorem tw2680141511932349947:True:=⟨⟩
theorem tw897888412878121761:True:=⟨⟩
theorem tw14279065940840616024:True:=⟨⟩
theorem tw4038909232737020655:True:=⟨⟩
theorem tw10131873952172028942:True:=⟨⟩
theorem tw18329075359065952542:True:=⟨⟩
theorem tw1267704075650749254:True:=⟨⟩
theorem tw16463793508043411602:True:=⟨⟩
theorem tw5587484289544270231:True:=⟨⟩
theorem tw12356241338228022558:True:=⟨⟩
theorem tw8131721106225051767:True:=⟨⟩
theorem tw3808584094389355786:True:=⟨⟩
theorem tw10800367221633172730:True:=⟨⟩
theorem tw10134030333460990790:True:=⟨⟩
theorem tw4177351759533223642:True:=⟨⟩
theorem tw2202087279664922802:True:=⟨⟩
theorem tw16925118299729312639:True:=⟨⟩
theorem tw15486039339569374305:True:=⟨⟩
theorem tw3471986238504059686:True:=⟨⟩
theorem tw4799189423077775474:True:=⟨⟩
theorem tw5767506341489999366:True:=⟨⟩
theorem tw17456480263006714056:True:=⟨⟩
theorem tw17084317755948004794:True:=⟨⟩
theorem tw5363195699714531557:True:=⟨⟩
theorem tw1567247161763788871:True:=⟨⟩
theorem tw18182889222666715495:True:=⟨⟩
theorem tw7894344252036594922:True:=⟨⟩
theorem tw5845538515087863352:True:=⟨⟩
theorem tw7090585071989052306:True:=⟨⟩
theorem tw438459731153329746:True:=⟨⟩
theorem tw4188684199736651882:True:=⟨⟩
theorem tw17338234738716814015:True:=⟨⟩
theorem tw11517140324859352983:True:=⟨⟩
theorem tw12325562205625792791:True:=⟨⟩
theorem tw704147369595269066:True:=⟨⟩
theorem tw6623812351622530092:True:=⟨⟩
theorem tw1998032249293215463:True:=⟨⟩
theorem tw9161490523856799436:True:=⟨⟩
theorem tw6760056911573607715:True:=⟨⟩
theorem tw7618804249908900691:True:=⟨⟩
theorem tw11300376045408061371:True:=⟨⟩
theorem tw3369663099759083609:True:=⟨⟩
theorem tw3133745999044795564:True:=⟨⟩
theorem tw5730711873857126911:True:=⟨⟩
theorem tw671769174312181376:True:=⟨⟩
theorem tw670427922429333600:True:=⟨⟩
theorem tw3083371992184736890:True:=⟨⟩
theorem tw7395645310213146516:True:=⟨⟩
theorem tw3302770140995672700:True:=⟨⟩
theorem tw12079628635447562283:True:=⟨⟩
theorem tw6252695792229605141:True:=⟨⟩
theorem tw14658174975189471336:True:=⟨⟩
theorem tw12487779173672901959:True:=⟨⟩
theorem tw10393078302967963895:True:=⟨⟩
theorem tw4984483018247401171:True:=⟨⟩
theorem tw16884622931589843948:True:=⟨⟩
theorem tw5015507407206683207:True:=⟨⟩
theorem tw8621336744817483243:True:=⟨⟩
theorem tw16408362238061914836:True:=⟨⟩
theorem tw10412780308102683651:True:=⟨⟩
theorem tw14064692534454641163:True:=⟨⟩
theorem tw15155859288707382567:True:=⟨⟩
theorem tw5425125011635884837:True:=⟨⟩
theorem tw11347631108264317165:True:=⟨⟩
theorem tw11586196018267737339:True:=⟨⟩
theorem tw14398365135244066966:True:=⟨⟩
theorem tw4842887358765978389:True:=⟨⟩
theorem tw6606014719576569030:True:=⟨⟩
theorem tw6999941293234460784:True:=⟨⟩
theorem tw10241233070082051121:True:=⟨⟩
theorem tw17960406059949683352:True:=⟨⟩
theorem tw14112606434462084385:True:=⟨⟩
theorem tw12319047049370110589:True:=⟨⟩
theorem tw7158441374720773216:True:=⟨⟩
theorem tw133755455108545178:True:=⟨⟩
theorem tw16286715671046524454:True:=⟨⟩
theorem tw4551872649113716216:True:=⟨⟩
theorem tw12514039047250868702:True:=⟨⟩
theorem tw5609530884314319229:True:=⟨⟩
theorem tw6788773261714906821:True:=⟨⟩
theorem tw7945405709010385892:True:=⟨⟩
theorem tw12694112234171929671:True:=⟨⟩
theorem tw7717702957765121957:True:=⟨⟩
theorem tw13350131943787299761:True:=⟨⟩
theorem tw1354003750591732747:True:=⟨⟩
theorem tw11887224372650548316:True:=⟨⟩
theorem tw8078195926588453703:True:=⟨⟩
theorem tw3822784309164373692:True:=⟨⟩
theorem tw12523711969749109062:True:=⟨⟩
theorem tw5011889884212318148:True:=⟨⟩
theorem tw11970942820725077907:True:=⟨⟩
theorem tw14245618210516037357:True:=⟨⟩
theorem tw6784790241324674965:True:=⟨⟩
theorem tw8697654515486363317:True:=⟨⟩
theorem tw2456577590951144490:True:=⟨⟩
theorem tw12661032092557703082:True:=⟨⟩
theorem tw4636031889025220839:True:=⟨⟩
theorem tw16607927582987124570:True:=⟨⟩
theorem tw4589182232624314844:True:=⟨⟩
theorem tw16970792351503237766:True:=⟨⟩
theorem tw14949513074056673275:True:=⟨⟩
theorem tw18112643488718220441:True:=⟨⟩
theorem tw1620389302784492585:True:=⟨⟩
theorem tw13323373534744806615:True:=⟨⟩
theorem tw15854262060937163188:True:=⟨⟩
theorem tw17802128708061929859:True:=⟨⟩
theorem tw9835382159548102362:True:=⟨⟩
theorem tw5517803901209239669:True:=⟨⟩
theorem tw14650769484350525481:True:=⟨⟩
theorem tw5713610079918043996:True:=⟨⟩
theorem tw18042889414512086050:True:=⟨⟩
theorem tw3016012700857477809:True:=⟨⟩
theorem tw3942624392001961204:True:=⟨⟩
theorem tw5738919822854818926:True:=⟨⟩
theorem tw6728313399510405491:True:=⟨⟩
theorem tw2450569374399577549:True:=⟨⟩
theorem tw6662249597110656733:True:=⟨⟩
theorem tw16803143847538834185:True:=⟨⟩
theorem tw11843833423457600547:True:=⟨⟩
theorem tw15536387163757344236:True:=⟨⟩
theorem tw17108046237660401759:True:=⟨⟩
theorem tw16504757533647375273:True:=⟨⟩
end PySem.W.Fast
set_option maxRecDepth 100000 in
set_option maxHeartbeats 8000000 in
open_top head for PySem.Challenge.rw_seer_k16_runs_cut
end
section
open PySem PySem.W PySem.Calls PyProof.Rows PM
namespace L
section
variable {w:World} {s₀:Shared} {mg mb:Str→Option Value}
theorem ZpT: DefR PySem.Challenge.rw_seer_k16_runs_cut.row.prog w (head.heap_39 w.params) head.view_39 (looseW head.view_39 []) (ExcName.means s₀.heap) mg mb 359 58 ZgL:=by
 k_fill
 refine' DefR.of (names:=[Str.ofString "program",Str.ofString "start",Str.ofString "picks",Str.ofString "steps",Str.ofString "runner",Str.ofString "moments"]) (n:=4) (room:=57) (g:=ZiU) (ho:=?ho) (hcd:=?hcd) (nd:=by decide) (hbind:=?hb) (hkinds:=?hk) (hnc:=?h1) (hc:=?h2) (hco:=?z1) (hgen:=?z2) (hk:=?z3) (hbody:=?hbody)
 case ho=>k_is
 case z1=>rfl
 case z2=>rfl
 case z3=>rfl
 case hcd=>k_is
 case hb=>intro s xs hx;match xs,hx with | [x0,x1,x2,x3],_=>exact BindsTo.of_eq rfl
 case hk=>decide
 case h1=>decide
 case h2=>intro n;rfl
 case hbody=>
  intro base dp un gd L outer h₀ hu clr hd1 hu1
  exact ThS.head (Zos (Z8 (Za4 (nm_built clr.clr (by k_is) (by boot_by_name) (by decide) rfl rfl rfl rfl rfl) (ZL (ZJ (rd_loc (by rfl) rfl rfl rfl)) Zm) ok_len) (Zt (Zt (ZJ (rd_loc (by rfl) rfl rfl rfl)) (J.un (J.int _ _ _) ok_neg)) (J.int _ _ _)) ok_ne) (ThS.head (ZmD clr (by k_is) (by k_exc) PySem.F.excBase_ValueError (ZL (J.str _ _ _) Zm) rfl rfl rfl (by decide))) ThS.no)
local macro_rules|`(tactic|walk_at "pad 0")=>`(tactic|skip)
local macro_rules|`(tactic|walk_at "pad 1")=>`(tactic|skip)
local macro_rules|`(tactic|walk_at "pad 2")=>`(tactic|skip)
local macro_rules|`(tactic|walk_at "pad 3")=>`(tactic|skip)
local macro_rules|`(tactic|walk_at "pad 4")=>`(tactic|skip)
local macro_rules|`(tactic|walk_at "pad 5")=>`(tactic|skip)
local macro_rules|`(tactic|walk_at "pad 6")=>`(tactic|skip)
local macro_rules|`(tactic|walk_at "pad 7")=>`(tactic|skip)
local macro_rules|`(tactic|walk_at "pad 8")=>`(tactic|skip)
local macro_rules|`(tactic|walk_at "pad 9")=>`(tactic|skip)
local macro_rules|`(tactic|walk_at "pad 10")=>`(tactic|skip)
local macro_rules|`(tactic|walk_at "pad 11")=>`(tactic|skip)
local macro_rules|`(tactic|walk_at "call builtin:isinstance")=>`(tactic|first|((k_here; (with_reducible show wpAny _ _ (call _ [Value.ref _, _]) _ _ _); (with_reducible rename My.OeCls _ _ => zc'); (k_dflt (refine' kia_one (My.kitx_of ?ka ?kb ?kc ?k5 ?k6 ?k7 ?k8 ?k9) ?X ?I ?ee ?nb ?_; (case I => (refine' My.of_news ?N9 ?m9 ?c9; (case N9 => k_asm); (case m9 => k_mem); (case c9 => assumption))); (case X => k_in); (case ee => kit_is); (case nb => kit_nb); (case ka => k_is); (case kb => k_is); (case kc => k_is); (case k5 => k_is); (case k6 => k_is); (case k7 => k_is); (case k8 => k_is); (case k9 => k_is); k_whole; intro _))))|((k_here; (with_reducible show wpAny _ _ (call _ [Value.ref _, Value.ref _]) _ _ _); (with_reducible rename My.OeCls _ _ => zc'); (k_dflt (refine' kia_tup (My.kitx_of ?ka ?kb ?kc ?k5 ?k6 ?k7 ?k8 ?k9) ?X ?I ?p ?ee ?nb ?_; (case I => (refine' My.of_news ?N9 ?m9 ?c9; (case N9 => k_asm); (case m9 => k_mem); (case c9 => assumption))); (case p => kit_tp); (case X => k_in); (case ee => kit_is); (case nb => kit_nb); (case ka => k_is); (case kb => k_is); (case kc => k_is); (case k5 => k_is); (case k6 => k_is); (case k7 => k_is); (case k8 => k_is); (case k9 => k_is); k_whole; intro _)))))
theorem law_refused_v16_d: DefT PySem.Challenge.rw_seer_k16_runs_cut.row.prog w (head.heap_39 w.params) head.view_39 (looseW head.view_39 []) (ExcName.means s₀.heap) mg mb 444 60 Zen:=by
 k_fill
 refine' DefT.of (names:=[Str.ofString "_law_program_here",Str.ofString "_law_start",Str.ofString "_law_steps",Str.ofString "_law_apart"]) (n:=3) (room:=59) (g:=Zg4) (ho:=?ho) (hcd:=?hcd) (nd:=by decide) (hbind:=?hb) (hkinds:=?hk) (hnc:=?h1) (hc:=?h2) (hco:=?z1) (hgen:=?z2) (hk:=?z3) (hbody:=?hbody)
 case ho=>k_is
 case z1=>rfl
 case z2=>rfl
 case z3=>rfl
 case hcd=>k_is
 case hb=>intro s xs hx;match xs,hx with | [x0,x1,x2],_=>exact BindsTo.of_eq rfl
 case hk=>decide
 case h1=>decide
 case h2=>intro n;rfl
 case hbody=>
  intro base dp un gd L env L₀ h₀ hu hf XB TB D clr hd1 hu1 W ρ H s Q E v H' r e post
  obtain⟨⟨C,H1⟩,e1,e2⟩:=Zz0.mp e
  have hC:C=145∧v=.bool true∧H1=H':=by
   dsimp only at e2
   split at e2
   ·rename_i z
    cases e2
    exact⟨z,rfl,rfl⟩
   ·first|exact Zx0 e2|cases e2
  obtain⟨rfl,rfl,rfl⟩:=hC
  refine wpAny_execs_cons ((ZU (i:=3) (sto_loc (by decide) (by rfl) rfl rfl) (J.bool false _ _)) W ρ H [] s _ E _ r rfl fun W1 k1 t1 l1 r1=>?_)
  refine wpAny_execs_cons (wpAny_Try_except ?_)
  refine wpAny_execs_cons (Zl3 clr (nm_def clr.clr (by k_is) rfl rfl rfl rfl) (by k_is) ZpT (by omega) (by omega) (ZL (ZJ (rd_loc (by rfl) rfl rfl rfl)) (ZL (ZJ (rd_loc (by rfl) rfl rfl rfl)) (ZL (J.list Zm) (ZL (ZJ (rd_loc (by rfl) rfl rfl rfl)) Zm)))) rfl (by intro _;rfl) rfl rfl W1 _ H [] _ _ _ 145 H1 r1 e1 fun e hh tk' th=>?_)
  obtain⟨W',l',G,m,t,vs,news,F2,R2,U2,hr⟩:=th
  obtain⟨_,_,_,_,_,_,A₀',eA,eE,B,X,T,hk⟩:=clr
  have B₂:Below { handled:=none,depth:=dp,frames:=some [env],guards:=gd,units:=un } base [env] h₀:=⟨rfl,B.stays,B.frames⟩
  have ef:[env].filterMap (·.frame)=[L₀]:=by simp[hf]
  rw[←ef]at D post
  refine caught_SOB (A₀:={ handled:=none,depth:=dp,frames:=some [env],guards:=gd,units:=un }) (L:=L) (news:=news) R2 F2 B₂ U2 XB TB D KtsTurn.refl (by k_is) (by kts_isx) ?_ rfl rfl rfl (by decide)
  intro h' g' n₂ tk T' F' N₂ G' N' K' X' P' D'
  obtain⟨oe,hoe,N9⟩:=My.got_more G' N₂ N'
  clear N₂ N' G' D' R2 U2 F2 r1 r B₂ B X T XB TB D
  w_strict (k_steps;(rename News _ _ _ _=>n8);(rename Fr _ _ _ _=>f8);(exact post W' _ g' _ _ _ news (l1.trans l') T' f8 (fun q hq=>n8 q (by first | exact hq | exact Zz2 _ hq | simp[hq])) hr (.bool true)))
end
end L
seal PM.J PM.Js PM.JT PM.JA PM.JF PM.JI PM.JI2 PM.JP PM.S1 PM.Ss PM.Sto PM.Rd PM.Nm PM.OpN PM.Op2 PM.Def
namespace L
variable {F:List V→Hp→Option (V×Hp)}
noncomputable abbrev DD(w:World)(s₀:Shared)(mg mb:Str→Option Value)(f:Addr)(r:Nat)(F:List V→Hp→Option (V×Hp)): Prop:=Def PySem.Challenge.rw_seer_k16_runs_cut.row.prog w (head.heap_39 w.params) head.view_39 (looseW head.view_39 []) (ExcName.means s₀.heap) mg mb f r F
section
variable {w:World} {s₀:Shared} {mg mb:Str→Option Value}
theorem ZjJ: DD w s₀ mg mb 371 1 ZeC:=by
 unfold DD;k_fill
 refine Dof (names:=["_law_feed"]) (g:=ZhK) ?_
 exact fun _ _ _ _ _ _ _ c _ _=>(Zs (S1.put (Zz (Zt vL jI) jI ok_add) vL jI) (Zs (Zaa (Z8 (Zt vL jI) (Za4 (nB c) (jc (Zt vL jI) Zm) ok_len) ok_gt) (Zx (ZH jI)) Zag) (Zx (ZH (Zt (Zt vL jI) (Zz (Zt vL jI) jI Zbw))))))
theorem Zcn: DD w s₀ mg mb 378 2 Za9:=by
 unfold DD;k_fill
 refine Dof (names:=["_law_feed","_law_many"]) (g:=Zhh) ?_
 exact fun _ _ _ _ _ _ _ c _ _=>(Zx (ZH (Zz (Zz (Zz (cF c ZjJ (jc vL Zm)) jI ok_mul) jI ok_mod) vL ok_mod)))
theorem law_number_v16_d: DD w s₀ mg mb 385 2 ZbD:=by
 unfold DD;k_fill
 refine Dof (names:=["_law_feed","_law_cell","_law_wide"]) (g:=Zg6) ?_
 exact fun _ _ _ _ _ _ _ c _ _=>(Zs (ZU sL (cF c ZjJ (jc vL Zm))) (Zs (ZU sL (Zz (Zz vL jI Zcu) (Zz jI jI ZiE) ok_mul)) (Zs (Zaa (Z8 (Zz vL jI ok_mod) jI ok_eq) (Zx (ZH (Zz (Zz vL (Zz (Zz jI (Zz jI jI ZiE) ok_mul) jI Zbw) ok_mod) (Zz (Zz jI jI ZiE) jI Zbw) Zbw))) Zag) (Zx (ZH (Zz (Zz vL jI ok_mod) jI Zbw))))))
theorem Zew: DD w s₀ mg mb 392 3 Zcf:=by
 unfold DD;k_fill
 refine Dof (names:=["_law_feed","_law_many","_law_one","_law_code","_law_k"]) (g:=Zhv) ?_
 exact fun _ _ _ _ _ _ _ c _ _=>(Zs (ZU sL (J.list (jc (cF c law_number_v16_d (jc vL Zm)) Zm))) (Zs (ZU sL (cF c Zcn (jc vL (jc jI Zm)))) (Zs (Zdy sL (JI.range (nB c) (jc vL Zm)) (Zs (Zba (J.append vL (Zz (Zz vL jI ok_mod) jI Zbw))) (Zx (ZU sL (Zz vL jI Zcu))))) (Zx (ZH vL)))))
theorem ZlJ: DD w s₀ mg mb 404 4 Zhd:=by
 unfold DD;k_fill
 refine Dof (names:=["_law_feed","_law_program_here","_law_shape","_law_low","_law_code","_law_x","_law_lo"]) (g:=Zhc) ?_
 exact fun _ _ _ _ _ _ _ c _ _=>(Zs (ZU sL (Zz vL (Zz (Zz vL jI Zcu) (Zz (Zz (Zt vC jI) vL Zbw) jI ok_add) ok_mod) ok_add)) (Zs (Zaa (Z8 (Zz vL jI ok_mod) jI ok_eq) (Zx (ZH (J.tup (jc jS (jc vL (jc (cF c Zew (jc vC (jc (Zt vC jI) Zm))) (jc (Zz jI (Za4 (nB c) (jc (cF c law_number_v16_d (jc vC Zm)) Zm) Zgj) ok_add) Zm))))))) Zag) (Zs (Zaa (Z8 (Zz vL jI ok_mod) jI ok_eq) (Zx (ZH (J.tup (jc jS (jc vL (jc (cF c Zew (jc vC (jc (Zt vC jI) Zm))) (jc (Zz jI (Za4 (nB c) (jc (cF c law_number_v16_d (jc vC Zm)) Zm) Zgj) ok_add) Zm))))))) Zag) (Zs (Zaa (Zcq (Zc2 (Z8 (Zz vL jI ok_mod) jI ok_eq) (Zc2 (Z8 (Zz vL jI ok_mod) jI ok_eq) ZfT))) (Zs (ZU sL (cF c law_number_v16_d (jc vC Zm))) (Zx (ZH (J.tup (jc jS (jc vL (jc (Zt (J.list (jc vL (jc jN Zm))) (Zz (Zz (Zz vL jI Zcu) jI ok_mod) jI Zcu)) (jc (Zt (J.list (jc (Zz vL (Zz (Zz vL jI Zcu) jI ok_mod) ok_add) (jc jN Zm))) (Zz (Zz (Zz vL jI Zcu) jI ok_mod) jI Zcu)) Zm)))))))) Zag) (Zs (Zaa (Zcq (Zb1 (Z8 (Zz vL jI ok_mod) jI ok_gt) (Zb1 (Z8 (Za4 (nB c) (jc vL Zm) ok_len) jI ok_gt) ZdV))) (Zx (ZH (J.tup (jc jS (jc vL (jc jI (jc (by refine cO ?_ ?_ ?_;(exact(JI.range (nB c) (jc (Zt (Zt vL jI) jI) Zm)));(exact fun _ _=>(cF (Clr.comp c) Zew (jc vD (jc (Zt vD jI) Zm))));(exact fun _ _=>JF.nil)) Zm))))))) Zag) (Zx (ZH (J.tup (jc jS (jc vL (jc (cF c Zew (jc vC (jc (Zt vC jI) Zm))) Zm)))))))))))
theorem Zjm: DD w s₀ mg mb 399 4 Zeq:=by
 unfold DD;k_fill
 refine Dof (names:=["_law_feed","_law_many","_law_word","_law_one"]) (g:=Zhf) ?_
 exact fun _ _ _ _ _ _ _ c _ _=>(Zs (ZU sL (Zt (J.list (jc jS (jc jS (jc jS Zm)))) (cF c Zcn (jc vL (jc jI Zm))))) (Zs (ZU sL (cF c Zew (jc vL (jc vL Zm)))) (Zs (Zaa (Z8 vL jS ok_eq) (Zx (ZH (J.tup (jc vL (jc vL (jc (Zz jI (cF c Zcn (jc vL (jc jI Zm))) ok_add) Zm)))))) Zag) (Zx (ZH (J.tup (jc vL (jc vL Zm))))))))
theorem Zlz(n:Nat)(ih:Def PySem.Challenge.rw_seer_k16_runs_cut.row.prog w (head.heap_39 w.params) head.view_39 (looseW head.view_39 []) (ExcName.means s₀.heap) mg mb 418 (2*n+4) F): Def PySem.Challenge.rw_seer_k16_runs_cut.row.prog w (head.heap_39 w.params) head.view_39 (looseW head.view_39 []) (ExcName.means s₀.heap) mg mb 411 (2*n+5) (Zfu F):=by
  k_fill
  refine' Def.of (names:=["_law_feed","_law_program_here","_law_shape","_law_low","_law_depth","_law_code","_law_claim_here","_law_body_here"]) (n:=5) (room:=2*n+4) (g:=ZgV F) (ho:=?ho) (hcd:=?hcd) (nd:=by decide) (hn:=by decide) (hbind:=?hb) (hkinds:=?hk) (hone:=?h1) (hco:=?z1) (hgen:=?z2) (hk:=?z3) (hbody:=?hbody)
  case ho=>k_is
  case z1=>rfl
  case z2=>rfl
  case z3=>rfl
  case hcd=>k_is
  case hb=>intro s xs hx;match xs,hx with | [x0,x1,x2,x3,x4],_=>exact BindsTo.of_eq rfl
  case hk=>decide
  case h1=>decide +kernel
  case hbody=>
   intro dp un gd L outer h₀ hu clr hd1 hu1
   exact(Zs (S1.put (Zz (Zt vL jI) jI Zbw) vL jI) (Zs (ZU sL (cF clr Zcn (jc vL (jc jI Zm)))) (Zs (Zaa (Zcq (Zb1 (Z8 (Zz vL jI ok_mod) jI Zd8) (Zb1 (Z8 vL jI Zd8) ZdV))) (Zs (ZU sL (cF clr Zjm (jc vL (jc (Zt vL jI) Zm)))) (Zs (ZU sL (cF clr ih (jc vL (jc vL (jc vL (jc vL (jc (Zz vL jI ok_add) Zm))))))) (Zs (Zaa (Z8 (Zz vL jI ok_mod) jI Zd8) (Zx (ZH (J.tup (jc jS (jc vL (jc vL Zm)))))) Zag) (Zx (ZH (J.tup (jc jS (jc vL (jc vL (jc (cF clr ih (jc vL (jc vL (jc vL (jc vL (jc (Zz vL jI ok_add) Zm)))))) Zm)))))))))) Zag) (Zs (Zaa (Zcq (Zc2 (Z8 vL (Zt vL jI) ok_gt) (Zc2 (Z8 (Zz vL jI ok_mod) jI ok_eq) ZfT))) (Zx (ZH (J.tup (jc jS (jc (cF clr Zjm (jc vL (jc (Zt vL jI) Zm))) Zm))))) Zag) (Zx (ZH (cF clr ZlJ (jc vL (jc vL (jc vL (jc vL (jc vL Zm))))))))))))
theorem Zjn: ∀n:Nat,Def PySem.Challenge.rw_seer_k16_runs_cut.row.prog w (head.heap_39 w.params) head.view_39 (looseW head.view_39 []) (ExcName.means s₀.heap) mg mb 418 (2*n+4) (Zdj n)
 | 0=>Def.zero
 | n+1=>by
  have ih:=Zjn n
  k_fill
  have e0:2*(n+1)+4=(2*n+5)+1:=by omega
  rw[e0]
  refine' Def.of (names:=["_law_feed","_law_program_here","_law_shape","_law_low","_law_depth","_law_body_here","_law_k"]) (n:=5) (room:=2*n+5) (g:=Zht (Zdj n)) (ho:=?ho) (hcd:=?hcd) (nd:=by decide) (hn:=by decide) (hbind:=?hb) (hkinds:=?hk) (hone:=?h1) (hco:=?z1) (hgen:=?z2) (hk:=?z3) (hbody:=?hbody)
  case ho=>k_is
  case z1=>rfl
  case z2=>rfl
  case z3=>rfl
  case hcd=>k_is
  case hb=>intro s xs hx;match xs,hx with | [x0,x1,x2,x3,x4],_=>exact BindsTo.of_eq rfl
  case hk=>decide
  case h1=>decide +kernel
  case hbody=>
   intro dp un gd L outer h₀ hu clr hd1 hu1
   exact(Zs (ZU sL (J.list Zm)) (Zs (Zdy sL (JI.range (nB clr) (jc (Zz (Zz (cF clr Zcn (jc vL (jc jI Zm))) jI ok_add) (Za4 (nB clr) (jc jI (jc vL Zm)) ZnN) Zbw) Zm)) (Zx (Zaa (Z8 (Zt vL jI) jI ok_gt) (Zx (Zba (J.append vL (Zbh clr (nm_def clr (by k_is) rfl rfl rfl rfl) (by k_is) (Zlz n ih) (by omega) (by omega) (jc vL (jc vL (jc vL (jc vL (jc vL Zm))))))))) Zag))) (Zx (ZH vL))))
theorem ZlN: Def PySem.Challenge.rw_seer_k16_runs_cut.row.prog w (head.heap_39 w.params) head.view_39 (looseW head.view_39 []) (ExcName.means s₀.heap) mg mb 418 22 Zdl:=Zjn 9
theorem law_program_v16_d: DD w s₀ mg mb 425 23 Zg2:=by
 unfold DD;k_fill
 refine Dof (names:=["_law_feed","_law_program_here","_law_count","_law_f","_law_code","_law_shape","_law_low"]) (g:=Zg1) ?_
 exact fun _ _ _ _ _ _ _ c _ _=>(Zs (ZU sL (J.list Zm)) (Zs (ZU sL (cF c Zcn (jc vL (jc jI Zm)))) (Zs (Zdy sL (JI.range (nB c) (jc (Zz vL jI ok_add) Zm)) (Zs (ZU sL (cF c Zcn (jc vL (jc jI Zm)))) (Zs (ZU sL (J.list (jc (Zz (Zz vL jI Zcu) (Zz jI (Zz vL jI ok_mod) ok_add) ok_mod) (jc (Zz jI (Zz vL jI ok_mod) ok_add) Zm)))) (Zs (ZU sL jI) (Zs (Zaa (Z8 vL vL Zd8) (Zx (ZU sL (Zz (Zt vL jI) jI ok_add))) (Zx (S1.put (Zz (Zt vL jI) jI ok_add) vL jI))) (Zx (Zba (J.append vL (J.tup (jc (Zt vL jI) (jc (Zt vL jI) (jc (cF c ZlN (jc vL (jc (Zdr (nB c) (jc vL Zm) ok_list1) (jc vL (jc vL (jc (Zdr (nB c) (jc (Zc7 vL vL Zd8) Zm) Zoq) Zm)))))) Zm)))))))))))) (Zx (ZH vL)))))
theorem Zl1: DD w s₀ mg mb 234 1 Zex:=by
 unfold DD;k_fill
 refine Dof (names:=["rows"]) (g:=Zhx) ?_
 exact fun _ _ _ _ _ _ _ c _ _=>(Zx (ZH (ZpD (nB c) (by refine cO ?_ ?_ ?_;(exact(JI.seq vL));(exact fun _ _=>(Za4 (nB (Clr.comp c)) (jc (Zt vO jI) (jc (Zt vO jI) Zm)) ZnM));(exact fun _ _=>JF.nil)))))
theorem ZlK: DD w s₀ mg mb 246 2 Zeo:=by
 unfold DD;k_fill
 refine Dof (names:=["rows","by_place","row"]) (g:=Zha) ?_
 exact fun _ _ _ _ _ _ _ c _ _=>(Zs (by refine sO sL ?_ ?_ ?_;(exact(JI.range (nB c) (jc (Zz (cF c Zl1 (jc vL Zm)) jI ok_add) Zm)));(exact fun _ _=>(J.list Zm));(exact fun _ _=>JF.nil)) (Zs (Zdy sL (JI.seq vL) (Zx (Zba (J.append (Zt vL (Zt vL jI)) vL)))) (Zx (ZH vL))))
theorem ZlO: DD w s₀ mg mb 173 1 ZfF:=by
 unfold DD;k_fill
 refine Dof (names:=["self"]) (g:=Zhk) ?_
 exact fun _ _ _ _ _ _ _ c _ _=>(Zs (ZbQ (Clr.keep c) (J.list Zm) vL (by rfl) (by decide) (by decide) (by k_is) (by k_is) (by k_is) (by k_is)) (Zx (ZbQ (Clr.keep c) jI vL (by rfl) (by decide) (by decide) (by k_is) (by k_is) (by k_is) (by k_is))))
theorem ZhD: DD w s₀ mg mb 187 1 ZdU:=by
 unfold DD;k_fill
 refine Dof (names:=["self","here","act","there"]) (g:=ZhB) ?_
 exact fun _ _ _ _ _ _ _ c _ _=>(Zx (Zba (J.append (ZaO (Clr.keep c) vL (by rfl) (by decide) (by k_is) (by k_is) (by k_is) (by k_is)) (J.tup (jc vL (jc vL (jc vL Zm)))))))
theorem Zdk: DD w s₀ mg mb 180 2 Zce:=by
 unfold DD;k_fill
 refine Dof (names:=["self","here","act"]) (g:=Zg9) ?_
 exact fun _ _ _ _ _ _ _ c _ _=>(Zs (ZbQ (Clr.keep c) (Zz (ZaO (Clr.keep c) vL (by rfl) (by decide) (by k_is) (by k_is) (by k_is) (by k_is)) jI ok_add) vL (by rfl) (by decide) (by decide) (by k_is) (by k_is) (by k_is) (by k_is)) (Zs (Zba (Za5 c vL (by k_is) (by k_is) (by k_is) (by decide) (by k_is) ZhD (by omega) (by omega) (jc vL (jc vL (jc (ZaO (Clr.keep c) vL (by rfl) (by decide) (by k_is) (by k_is) (by k_is) (by k_is)) Zm))))) (Zx (ZH (ZaO (Clr.keep c) vL (by rfl) (by decide) (by k_is) (by k_is) (by k_is) (by k_is))))))
theorem Zkl: ∀n:Nat,Def PySem.Challenge.rw_seer_k16_runs_cut.row.prog w (head.heap_39 w.params) head.view_39 (looseW head.view_39 []) (ExcName.means s₀.heap) mg mb 19 (1*n+0) (ZdY n)
 | 0=>Def.zero
 | n+1=>by
  have ih:=Zkl n
  k_fill
  have e0:1*(n+1)+0=(1*n+0)+1:=by omega
  rw[e0]
  refine' Def.of (names:=["thing"]) (n:=1) (room:=1*n+0) (g:=Zip (ZdY n)) (ho:=?ho) (hcd:=?hcd) (nd:=by decide) (hn:=by decide) (hbind:=?hb) (hkinds:=?hk) (hone:=?h1) (hco:=?z1) (hgen:=?z2) (hk:=?z3) (hbody:=?hbody)
  case ho=>k_is
  case z1=>rfl
  case z2=>rfl
  case z3=>rfl
  case hcd=>k_is
  case hb=>intro s xs hx;match xs,hx with | [x0],_=>exact BindsTo.of_eq rfl
  case hk=>decide
  case h1=>decide +kernel
  case hbody=>
   intro dp un gd L outer h₀ hu clr hd1 hu1
   exact(Zs (Zaa (JT.val (Zdo (nB clr) (nB clr) (.inr (.inr (.inl rfl))) vL)) (Zx (ZH (by refine cO ?_ ?_ ?_;(exact(JI.seq vL));(exact fun _ _=>(cF (Clr.comp clr) ih (jc vO Zm)));(exact fun _ _=>JF.nil)))) Zag) (Zs (Zaa (JT.val (Zdo (nB clr) (nB clr) (.inr (.inr (.inr rfl))) vL)) (Zx (ZH (Zdr (nB clr) (jc (by refine cO ?_ ?_ ?_;(exact(JI.seq vL));(exact fun _ _=>(cF (Clr.comp clr) ih (jc vO Zm)));(exact fun _ _=>JF.nil)) Zm) ZjN))) Zag) (Zx (ZH vL))))
theorem ZkR: Def PySem.Challenge.rw_seer_k16_runs_cut.row.prog w (head.heap_39 w.params) head.view_39 (looseW head.view_39 []) (ExcName.means s₀.heap) mg mb 19 24 Zga:=Zkl 24
theorem ZfP: DD w s₀ mg mb 241 25 Zdm:=by
 unfold DD;k_fill
 refine Dof (names:=["claim","truth"]) (g:=ZhM) ?_
 exact fun _ _ _ _ _ _ _ c _ _=>(Zx (ZH (J.tup (jc jS (jc (cF c ZkR (jc vL Zm)) (jc vL Zm))))))
theorem ZlP(n:Nat)(ih:Def PySem.Challenge.rw_seer_k16_runs_cut.row.prog w (head.heap_39 w.params) head.view_39 (looseW head.view_39 []) (ExcName.means s₀.heap) mg mb 194 (3*n+25) F): Def PySem.Challenge.rw_seer_k16_runs_cut.row.prog w (head.heap_39 w.params) head.view_39 (looseW head.view_39 []) (ExcName.means s₀.heap) mg mb 208 (3*n+26) (ZfG F):=by
  k_fill
  refine' Def.of (names:=["self","statement","here","then","then_end","other","other_end","end"]) (n:=3) (room:=3*n+25) (g:=Zhl F) (ho:=?ho) (hcd:=?hcd) (nd:=by decide) (hn:=by decide) (hbind:=?hb) (hkinds:=?hk) (hone:=?h1) (hco:=?z1) (hgen:=?z2) (hk:=?z3) (hbody:=?hbody)
  case ho=>k_is
  case z1=>rfl
  case z2=>rfl
  case z3=>rfl
  case hcd=>k_is
  case hb=>intro s xs hx;match xs,hx with | [x0,x1,x2],_=>exact BindsTo.of_eq rfl
  case hk=>decide
  case h1=>decide +kernel
  case hbody=>
   intro dp un gd L outer h₀ hu clr hd1 hu1
   exact(Zs (ZU sL (Za5 clr vL (by k_is) (by k_is) (by k_is) (by decide) (by k_is) Zdk (by omega) (by omega) (jc vL (jc (cF clr ZfP (jc (Zt vL jI) (jc jB Zm))) Zm)))) (Zs (ZU sL (Za5 clr vL (by k_is) (by k_is) (by k_is) (by decide) (by k_is) ih (by omega) (by omega) (jc (Zt vL jI) (jc vL Zm)))) (Zs (ZU sL (Za5 clr vL (by k_is) (by k_is) (by k_is) (by decide) (by k_is) Zdk (by omega) (by omega) (jc vL (jc (cF clr ZfP (jc (Zt vL jI) (jc jB Zm))) Zm)))) (Zs (ZU sL (Za5 clr vL (by k_is) (by k_is) (by k_is) (by decide) (by k_is) ih (by omega) (by omega) (jc (Zt vL jI) (jc vL Zm)))) (Zs (ZU sL (Za5 clr vL (by k_is) (by k_is) (by k_is) (by decide) (by k_is) Zdk (by omega) (by omega) (jc vL (jc (J.tup (jc jS Zm)) Zm)))) (Zs (Zba (Za5 clr vL (by k_is) (by k_is) (by k_is) (by decide) (by k_is) ZhD (by omega) (by omega) (jc vL (jc (J.tup (jc jS Zm)) (jc vL Zm))))) (Zx (ZH vL))))))))
theorem ZlB(n:Nat)(ih:Def PySem.Challenge.rw_seer_k16_runs_cut.row.prog w (head.heap_39 w.params) head.view_39 (looseW head.view_39 []) (ExcName.means s₀.heap) mg mb 194 (3*n+25) F): Def PySem.Challenge.rw_seer_k16_runs_cut.row.prog w (head.heap_39 w.params) head.view_39 (looseW head.view_39 []) (ExcName.means s₀.heap) mg mb 215 (3*n+26) (Zfw F):=by
  k_fill
  refine' Def.of (names:=["self","statement","here","head","again","again_end"]) (n:=3) (room:=3*n+25) (g:=ZgY F) (ho:=?ho) (hcd:=?hcd) (nd:=by decide) (hn:=by decide) (hbind:=?hb) (hkinds:=?hk) (hone:=?h1) (hco:=?z1) (hgen:=?z2) (hk:=?z3) (hbody:=?hbody)
  case ho=>k_is
  case z1=>rfl
  case z2=>rfl
  case z3=>rfl
  case hcd=>k_is
  case hb=>intro s xs hx;match xs,hx with | [x0,x1,x2],_=>exact BindsTo.of_eq rfl
  case hk=>decide
  case h1=>decide +kernel
  case hbody=>
   intro dp un gd L outer h₀ hu clr hd1 hu1
   exact(Zs (ZU sL (Za5 clr vL (by k_is) (by k_is) (by k_is) (by decide) (by k_is) Zdk (by omega) (by omega) (jc vL (jc (J.tup (jc jS Zm)) Zm)))) (Zs (ZU sL (Za5 clr vL (by k_is) (by k_is) (by k_is) (by decide) (by k_is) Zdk (by omega) (by omega) (jc vL (jc (cF clr ZfP (jc (Zt vL jI) (jc jB Zm))) Zm)))) (Zs (ZU sL (Za5 clr vL (by k_is) (by k_is) (by k_is) (by decide) (by k_is) ih (by omega) (by omega) (jc (Zt vL jI) (jc vL Zm)))) (Zs (Zba (Za5 clr vL (by k_is) (by k_is) (by k_is) (by decide) (by k_is) ZhD (by omega) (by omega) (jc vL (jc (J.tup (jc jS Zm)) (jc vL Zm))))) (Zx (ZH (Za5 clr vL (by k_is) (by k_is) (by k_is) (by decide) (by k_is) Zdk (by omega) (by omega) (jc vL (jc (cF clr ZfP (jc (Zt vL jI) (jc jB Zm))) Zm)))))))))
theorem Zlx(n:Nat)(ih:Def PySem.Challenge.rw_seer_k16_runs_cut.row.prog w (head.heap_39 w.params) head.view_39 (looseW head.view_39 []) (ExcName.means s₀.heap) mg mb 194 (3*n+25) F): Def PySem.Challenge.rw_seer_k16_runs_cut.row.prog w (head.heap_39 w.params) head.view_39 (looseW head.view_39 []) (ExcName.means s₀.heap) mg mb 201 (3*n+27) (Zcd F):=by
  k_fill
  refine' Def.of (names:=["self","statement","here"]) (n:=3) (room:=3*n+26) (g:=Zel F) (ho:=?ho) (hcd:=?hcd) (nd:=by decide) (hn:=by decide) (hbind:=?hb) (hkinds:=?hk) (hone:=?h1) (hco:=?z1) (hgen:=?z2) (hk:=?z3) (hbody:=?hbody)
  case ho=>k_is
  case z1=>rfl
  case z2=>rfl
  case z3=>rfl
  case hcd=>k_is
  case hb=>intro s xs hx;match xs,hx with | [x0,x1,x2],_=>exact BindsTo.of_eq rfl
  case hk=>decide
  case h1=>decide +kernel
  case hbody=>
   intro dp un gd L outer h₀ hu clr hd1 hu1
   exact(Zs (Zaa (Z8 (Zt vL jI) jS ok_eq) (Zx (ZH (Za5 clr vL (by k_is) (by k_is) (by k_is) (by decide) (by k_is) (ZlP n ih) (by omega) (by omega) (jc vL (jc vL Zm))))) Zag) (Zs (Zaa (Z8 (Zt vL jI) jS ok_eq) (Zx (ZH (Za5 clr vL (by k_is) (by k_is) (by k_is) (by decide) (by k_is) (ZlB n ih) (by omega) (by omega) (jc vL (jc vL Zm))))) Zag) (Zx (ZH (Za5 clr vL (by k_is) (by k_is) (by k_is) (by decide) (by k_is) Zdk (by omega) (by omega) (jc vL (jc (cF clr ZkR (jc vL Zm)) Zm)))))))
theorem Zjh: ∀n:Nat,Def PySem.Challenge.rw_seer_k16_runs_cut.row.prog w (head.heap_39 w.params) head.view_39 (looseW head.view_39 []) (ExcName.means s₀.heap) mg mb 194 (3*n+25) (ZcX n)
 | 0=>Def.zero
 | n+1=>by
  have ih:=Zjh n
  k_fill
  have e0:3*(n+1)+25=(3*n+27)+1:=by omega
  rw[e0]
  refine' Def.of (names:=["self","body","here","place","statement"]) (n:=3) (room:=3*n+27) (g:=ZfA (ZcX n)) (ho:=?ho) (hcd:=?hcd) (nd:=by decide) (hn:=by decide) (hbind:=?hb) (hkinds:=?hk) (hone:=?h1) (hco:=?z1) (hgen:=?z2) (hk:=?z3) (hbody:=?hbody)
  case ho=>k_is
  case z1=>rfl
  case z2=>rfl
  case z3=>rfl
  case hcd=>k_is
  case hb=>intro s xs hx;match xs,hx with | [x0,x1,x2],_=>exact BindsTo.of_eq rfl
  case hk=>decide
  case h1=>decide +kernel
  case hbody=>
   intro dp un gd L outer h₀ hu clr hd1 hu1
   exact(Zs (ZU sL vL) (Zs (Zdy sL (JI.seq vL) (Zx (ZU sL (Za5 clr vL (by k_is) (by k_is) (by k_is) (by decide) (by k_is) (Zlx n ih) (by omega) (by omega) (jc vL (jc vL Zm)))))) (Zx (ZH vL))))
theorem ZlH: Def PySem.Challenge.rw_seer_k16_runs_cut.row.prog w (head.heap_39 w.params) head.view_39 (looseW head.view_39 []) (ExcName.means s₀.heap) mg mb 194 52 Zg5:=Zjh 9
theorem ZmX: DD w s₀ mg mb 229 54 ZeE:=by
 unfold DD;k_fill
 refine Dof (names:=["body","layer"]) (g:=ZhV) ?_
 exact fun _ _ _ _ _ _ _ c _ _=>(Zs (ZU sL (Zpt c (nm_def c (by k_is) rfl rfl rfl rfl) (by k_is) (by k_is) (by k_is) (by k_is) ZlO (by omega) (by omega))) (Zs (Zba (Za5 c vL (by k_is) (by k_is) (by k_is) (by decide) (by k_is) ZlH (by omega) (by omega) (jc vL (jc jI Zm)))) (Zx (ZH (ZaO (Clr.keep c) vL (by rfl) (by decide) (by k_is) (by k_is) (by k_is) (by k_is))))))
theorem ZlQ: DD w s₀ mg mb 251 55 ZfL:=by
 unfold DD;k_fill
 refine Dof (names:=["program"]) (g:=Zhs) ?_
 exact fun _ _ _ _ _ _ _ c _ _=>(Zx (ZH (by refine cO ?_ ?_ ?_;(exact(JI.seq vL));(exact fun _ _=>(cF (Clr.comp c) ZlK (jc (cF (Clr.comp c) ZmX (jc (Zt vO jI) Zm)) Zm)));(exact fun _ _=>JF.nil))))
theorem Zjs: DD w s₀ mg mb 364 1 ZfI:=by
 unfold DD;k_fill
 refine Dof (names:=["program","function","given","many"]) (g:=Zhn) ?_
 exact fun _ _ _ _ _ _ _ c _ _=>(Zs (ZU sL (Zt (Zt vL vL) jI)) (Zx (ZH (J.tup (jc vL (jc jI (jc (Zz vL (by refine cO ?_ ?_ ?_;(exact(JI.range (nB c) (jc (Zz vL (Za4 (nB c) (jc vL Zm) ok_len) Zbw) Zm)));(exact fun _ _=>jI);(exact fun _ _=>JF.nil)) ok_add) Zm)))))))
theorem ZlL: DD w s₀ mg mb 298 56 Zep:=by
 unfold DD;k_fill
 refine Dof (names:=["self","program","start","picks"]) (g:=Zhb) ?_
 exact fun _ _ _ _ _ _ _ c _ _=>(Zs (ZbQ (Clr.keep c) vL vL (by rfl) (by decide) (by decide) (by k_is) (by k_is) (by k_is) (by k_is)) (Zs (ZbQ (Clr.keep c) (cF c ZlQ (jc vL Zm)) vL (by rfl) (by decide) (by decide) (by k_is) (by k_is) (by k_is) (by k_is)) (Zs (ZbQ (Clr.keep c) vL vL (by rfl) (by decide) (by decide) (by k_is) (by k_is) (by k_is) (by k_is)) (Zs (ZbQ (Clr.keep c) jI vL (by rfl) (by decide) (by decide) (by k_is) (by k_is) (by k_is) (by k_is)) (Zs (ZbQ (Clr.keep c) (J.list Zm) vL (by rfl) (by decide) (by decide) (by k_is) (by k_is) (by k_is) (by k_is)) (Zx (ZbQ (Clr.keep c) (cF c Zjs (jc vL (jc (Zz (Za4 (nB c) (jc vL Zm) ok_len) jI Zbw) (jc vL Zm)))) vL (by rfl) (by decide) (by decide) (by k_is) (by k_is) (by k_is) (by k_is))))))))
theorem Zjg: DD w s₀ mg mb 305 1 Zem:=by
 unfold DD;k_fill
 refine Dof (names:=["self"]) (g:=ZgX) ?_
 exact fun _ _ _ _ _ _ _ c _ _=>(Zx (ZH (Zt (Zt (ZaO (Clr.keep c) vL (by rfl) (by decide) (by k_is) (by k_is) (by k_is) (by k_is)) (Zt (ZaO (Clr.keep c) vL (by rfl) (by decide) (by k_is) (by k_is) (by k_is) (by k_is)) jI)) (Zt (ZaO (Clr.keep c) vL (by rfl) (by decide) (by k_is) (by k_is) (by k_is) (by k_is)) jI))))
theorem Zli: DD w s₀ mg mb 26 1 Zgq:=by
 unfold DD;k_fill
 refine Dof (names:=["row","x","thing"]) (g:=ZiK) ?_
 exact fun _ _ _ _ _ _ _ c _ _=>(Zx (ZH (Zz (Zz (ZeK vL JP.none (JP.some (Zz vL jI Zbw))) (J.list (jc vL Zm)) ok_add) (ZeK vL (JP.some vL) JP.none) ok_add)))
theorem ZlR: DD w s₀ mg mb 331 2 ZfH:=by
 unfold DD;k_fill
 refine Dof (names:=["self","answer","call","caller","row"]) (g:=Zhm) ?_
 exact fun _ _ _ _ _ _ _ c _ _=>(Zs (ZU sL (Zt (Zt (ZaO (Clr.keep c) vL (by rfl) (by decide) (by k_is) (by k_is) (by k_is) (by k_is)) jI) (J.un jI ok_neg))) (Zs (ZU sL (J.pop (ZaO (Clr.keep c) vL (by rfl) (by decide) (by k_is) (by k_is) (by k_is) (by k_is)))) (Zs (ZU sL (Zt vL jI)) (Zs (ZU sL (Zt vL jI)) (Zx (ZbQ (Clr.keep c) (J.tup (jc (Zt vL jI) (jc (Zt vL jI) (jc (cF c Zli (jc (Zt vL jI) (jc (Zt (Zt vL jI) jI) (jc vL Zm)))) Zm)))) vL (by rfl) (by decide) (by decide) (by k_is) (by k_is) (by k_is) (by k_is)))))))
theorem ZiC: DD w s₀ mg mb 256 1 Zd0:=by
 unfold DD;k_fill
 refine Dof (names:=["one","boxes"]) (g:=Zis) ?_
 exact fun _ _ _ _ _ _ _ c _ _=>(Zx (ZH (Zz (Zt vL jI) (Za4 (nB c) (jc (by refine cT ?_ ?_;(exact(JI2.zip (nB c) (ZkT vL jI) vL));(exact fun _ _=>(Zz vO vO ok_mul))) Zm) ZoP) ok_add)))
theorem ZlS: DD w s₀ mg mb 324 2 ZfK:=by
 unfold DD;k_fill
 refine Dof (names:=["self","row","act","given"]) (g:=Zhp) ?_
 exact fun _ _ _ _ _ _ _ c _ _=>(Zs (ZU sL (Zt vL jI)) (Zs (by refine sO sL ?_ ?_ ?_;(exact(JI.seq (Zt vL jI)));(exact fun _ _=>(cF (Clr.comp c) ZiC (jc vO (jc (Zt (ZaO (Clr.keep (Clr.comp c)) vD (by rfl) (by decide) (by k_is) (by k_is) (by k_is) (by k_is)) jI) Zm))));(exact fun _ _=>JF.nil)) (Zs (Zba (J.append (ZaO (Clr.keep c) vC (by rfl) (by decide) (by k_is) (by k_is) (by k_is) (by k_is)) (J.tup (jc (ZaO (Clr.keep c) vC (by rfl) (by decide) (by k_is) (by k_is) (by k_is) (by k_is)) (jc vL Zm))))) (Zx (ZbQ (Clr.keep c) (cF c Zjs (jc (ZaO (Clr.keep c) vC (by rfl) (by decide) (by k_is) (by k_is) (by k_is) (by k_is)) (jc (Zt vL jI) (jc vL Zm)))) vC (by rfl) (by decide) (by decide) (by k_is) (by k_is) (by k_is) (by k_is))))))
theorem ZlC: DD w s₀ mg mb 345 1 Zfx:=by
 unfold DD;k_fill
 refine Dof (names:=["self","act"]) (g:=ZgZ) ?_
 exact fun _ _ _ _ _ _ _ c _ _=>(Zs (Zaa (Z8 (Zt vL jI) jS ok_ne) (Zx (ZH jI)) Zag) (Zs (ZbQ (Clr.keep c) (Zz (ZaO (Clr.keep c) vL (by rfl) (by decide) (by k_is) (by k_is) (by k_is) (by k_is)) jI ok_add) vL (by rfl) (by decide) (by decide) (by k_is) (by k_is) (by k_is) (by k_is)) (Zs (Zaa (Z8 (ZaO (Clr.keep c) vL (by rfl) (by decide) (by k_is) (by k_is) (by k_is) (by k_is)) (Za4 (nB c) (jc (ZaO (Clr.keep c) vL (by rfl) (by decide) (by k_is) (by k_is) (by k_is) (by k_is)) Zm) ok_len) ok_gt) (Zx (ZH jI)) Zag) (Zx (ZH (Zt (ZaO (Clr.keep c) vL (by rfl) (by decide) (by k_is) (by k_is) (by k_is) (by k_is)) (Zz (ZaO (Clr.keep c) vL (by rfl) (by decide) (by k_is) (by k_is) (by k_is) (by k_is)) jI Zbw)))))))
theorem ZnK: DD w s₀ mg mb 284 1 Zh7:=by
 unfold DD;k_fill
 refine Dof (names:=["lo","hi","pick"]) (g:=Zh6) ?_
 exact fun _ _ _ _ _ _ _ c _ _=>(Zs (Zaa (Zcq (Zb1 (Z8 vL jN Zgy) (Zb1 (Z8 vL jN Zgy) ZdV))) (Zx (ZH vL)) Zag) (Zs (Zaa (Z8 vL jN Zgy) (Zx (ZH (Zz vL (Za4 (nB c) (jc vL Zm) Zgj) ok_add))) Zag) (Zs (Zaa (Z8 vL jN Zgy) (Zx (ZH (Zz vL (Za4 (nB c) (jc vL Zm) Zgj) Zbw))) Zag) (Zx (ZH (Zz vL (Zz vL (Zz (Zz vL vL Zbw) jI ok_add) ok_mod) ok_add))))))
theorem Zl2: DD w s₀ mg mb 277 2 ZhA:=by
 unfold DD;k_fill
 refine Dof (names:=["boxes","act","pick","number"]) (g:=Zhz) ?_
 exact fun _ _ _ _ _ _ _ c _ _=>(Zs (Zaa (Z8 (Zt vL jI) jS ok_eq) (Zx (ZH (cF c ZnK (jc (Zt vL jI) (jc (Zt vL jI) (jc vL Zm)))))) Zag) (Zs (ZU sL (cF c ZiC (jc (Zt vL jI) (jc vL Zm)))) (Zs (Zaa (Z8 (Zt vL jI) jS ok_eq) (Zx (ZH (Zz vL (Zt vL jI) Zcu))) Zag) (Zs (Zaa (Z8 (Zt vL jI) jS ok_eq) (Zx (ZH (Zz vL (Zt vL jI) ok_mod))) Zag) (Zx (ZH vL))))))
theorem ZoO: DD w s₀ mg mb 263 2 Ziw:=by
 unfold DD;k_fill
 refine Dof (names:=["claim","boxes","told"]) (g:=Ziv) ?_
 exact fun _ _ _ _ _ _ _ c _ _=>(Zs (ZU sL (cF c ZiC (jc (Zt vL jI) (jc vL Zm)))) (Zs (Zaa (Z8 (Zt vL jI) jS ok_eq) (Zx (ZH (Zc7 vL jI Zd8))) Zag) (Zs (Zaa (Z8 (Zt vL jI) jS ok_eq) (Zx (ZH (Zc7 vL jI ok_eq))) Zag) (Zx (ZH (Zc7 (Zz vL (Zt vL jI) ok_mod) jI ok_eq))))))
theorem ZpU: DD w s₀ mg mb 270 3 Ze1:=by
 unfold DD;k_fill
 refine Dof (names:=["boxes","act","pick"]) (g:=ZiM) ?_
 exact fun _ _ _ _ _ _ _ c _ _=>(Zs (Zaa (Zcq (Zb1 (Z8 (Zt vL jI) jS ok_eq) (Zb1 (Z8 (cF c ZoO (jc (Zt vL jI) (jc vL Zm))) (Zt vL jI) ok_ne) ZdV))) (Zx (ZH jN)) Zag) (Zs (Zaa (Z8 (Zt vL jI) (J.tup (jc jS (jc jS (jc jS Zm)))) Zp9) (Zx (ZH (Zdr (nB c) (jc vL Zm) ok_list1))) Zag) (Zx (ZH (cF c Zli (jc vL (jc (Zt vL jI) (jc (cF c Zl2 (jc vL (jc vL (jc vL Zm)))) Zm))))))))
theorem ZlD: DD w s₀ mg mb 338 4 Zfy:=by
 unfold DD;k_fill
 refine Dof (names:=["self","rows","pick","here","row","boxes"]) (g:=Zg0) ?_
 exact fun _ _ _ _ _ _ _ c _ _=>(Zs (ZU sL (Za5 c vL (by k_is) (by k_is) (by k_is) (by decide) (by k_is) ZlC (by omega) (by omega) (jc (Zt (Zt vL jI) jI) Zm))) (Zs (ZU sL (ZaO (Clr.keep c) vL (by rfl) (by decide) (by k_is) (by k_is) (by k_is) (by k_is))) (Zx (Zdy sL (JI.seq vL) (Zs (ZU sL (cF c ZpU (jc (Zt vL jI) (jc (Zt vL jI) (jc vL Zm))))) (Zx (Zaa (Z8 vL jN ZmZ) (Zx (ZbQ (Clr.keep c) (J.tup (jc (Zt vL jI) (jc (Zt vL jI) (jc vL Zm)))) vL (by rfl) (by decide) (by decide) (by k_is) (by k_is) (by k_is) (by k_is))) Zag)))))))
theorem ZlT: DD w s₀ mg mb 319 5 Zet:=by
 unfold DD;k_fill
 refine Dof (names:=["self","rows"]) (g:=Zhq) ?_
 exact fun _ _ _ _ _ _ _ c _ _=>(Zs (ZU sL (ZeP c vL (by k_is) (by k_is) (by k_is) (by decide) (by k_is) Zjg (by omega) (by omega))) (Zx (Zaa (Z8 (Za4 (nB c) (jc vL Zm) ok_len) jI ok_eq) (Zx (Zba (ZeP c vL (by k_is) (by k_is) (by k_is) (by decide) (by k_is) ZlR (by omega) (by omega)))) (Zx (Zaa (Z8 (Zt (Zt (Zt vL jI) jI) jI) jS ok_eq) (Zx (Zba (Za5 c vL (by k_is) (by k_is) (by k_is) (by decide) (by k_is) ZlS (by omega) (by omega) (jc (Zt vL jI) Zm)))) (Zx (Zba (Za5 c vL (by k_is) (by k_is) (by k_is) (by decide) (by k_is) ZlD (by omega) (by omega) (jc vL Zm)))))))))
theorem ZlU: DD w s₀ mg mb 312 2 Zeu:=by
 unfold DD;k_fill
 refine Dof (names:=["self"]) (g:=Zhr) ?_
 exact fun _ _ _ _ _ _ _ c _ _=>(Zx (ZH (Zlk (Zc7 (Za4 (nB c) (jc (ZeP c vL (by k_is) (by k_is) (by k_is) (by decide) (by k_is) Zjg (by omega) (by omega)) Zm) ok_len) jI ok_eq) (Zc7 (Za4 (nB c) (jc (ZaO (Clr.keep c) vL (by rfl) (by decide) (by k_is) (by k_is) (by k_is) (by k_is)) Zm) ok_len) jI ok_eq))))
theorem run_d: DD w s₀ mg mb 359 58 Zdc:=by
 unfold DD;k_fill
 refine Dof (names:=["program","start","picks","steps","runner","moments"]) (g:=Zi5) ?_
 exact fun _ _ _ _ _ _ _ c _ _=>(Zs (Zaa (Z8 (Za4 (nB c) (jc vL Zm) ok_len) (Zt (Zt vL (J.un jI ok_neg)) jI) ok_ne) (Zx (S1.no)) Zag) (Zs (ZU sL (J.new c (nm_def c (by k_is) rfl rfl rfl rfl) (by k_is) (by k_is) (by k_is) (by k_is) ZlL (by omega) (by omega) (jc vL (jc vL (jc vL Zm))))) (Zs (ZU sL (J.list (jc (ZaO (Clr.keep c) vL (by rfl) (by decide) (by k_is) (by k_is) (by k_is) (by k_is)) Zm))) (Zs (Zm2 1000000 (Zcq (Zb1 (Z8 (Za4 (nB c) (jc vL Zm) ok_len) vL ZpV) (Zb1 (ZiD (JT.val (ZeP c vL (by k_is) (by k_is) (by k_is) (by decide) (by k_is) ZlU (by omega) (by omega)))) ZdV))) (Zs (Zba (ZeP c vL (by k_is) (by k_is) (by k_is) (by decide) (by k_is) ZlT (by omega) (by omega))) (Zx (Zba (J.append vL (ZaO (Clr.keep c) vL (by rfl) (by decide) (by k_is) (by k_is) (by k_is) (by k_is))))))) (Zx (ZH vL))))))
theorem Zjo: ∀n:Nat,Def PySem.Challenge.rw_seer_k16_runs_cut.row.prog w (head.heap_39 w.params) head.view_39 (looseW head.view_39 []) (ExcName.means s₀.heap) mg mb 430 (1*n+0) (ZdR n)
 | 0=>Def.zero
 | n+1=>by
  have ih:=Zjo n
  k_fill
  have e0:1*(n+1)+0=(1*n+0)+1:=by omega
  rw[e0]
  refine' Def.of (names:=["_law_thing"]) (n:=1) (room:=1*n+0) (g:=Zhj (ZdR n)) (ho:=?ho) (hcd:=?hcd) (nd:=by decide) (hn:=by decide) (hbind:=?hb) (hkinds:=?hk) (hone:=?h1) (hco:=?z1) (hgen:=?z2) (hk:=?z3) (hbody:=?hbody)
  case ho=>k_is
  case z1=>rfl
  case z2=>rfl
  case z3=>rfl
  case hcd=>k_is
  case hb=>intro s xs hx;match xs,hx with | [x0],_=>exact BindsTo.of_eq rfl
  case hk=>decide
  case h1=>decide +kernel
  case hbody=>
   intro dp un gd L outer h₀ hu clr hd1 hu1
   exact(Zs (Zaa (JT.val (Zdo (nB clr) (nB clr) (.inr (.inr (.inl rfl))) vL)) (Zx (ZH (by refine cO ?_ ?_ ?_;(exact(JI.seq vL));(exact fun _ _=>(cF (Clr.comp clr) ih (jc vO Zm)));(exact fun _ _=>JF.nil)))) Zag) (Zs (Zaa (JT.val (Zdo (nB clr) (nB clr) (.inr (.inr (.inr rfl))) vL)) (Zx (ZH (Zdr (nB clr) (jc (by refine cO ?_ ?_ ?_;(exact(JI.seq vL));(exact fun _ _=>(cF (Clr.comp clr) ih (jc vO Zm)));(exact fun _ _=>JF.nil)) Zm) ZjN))) Zag) (Zx (ZH vL))))
theorem law_copy_v12_d: Def PySem.Challenge.rw_seer_k16_runs_cut.row.prog w (head.heap_39 w.params) head.view_39 (looseW head.view_39 []) (ExcName.means s₀.heap) mg mb 430 24 ZfD:=Zjo 24
theorem Zju: ∀n:Nat,Def PySem.Challenge.rw_seer_k16_runs_cut.row.prog w (head.heap_39 w.params) head.view_39 (looseW head.view_39 []) (ExcName.means s₀.heap) mg mb 437 (1*n+0) (Zc1 n)
 | 0=>Def.zero
 | n+1=>by
  have ih:=Zju n
  k_fill
  have e0:1*(n+1)+0=(1*n+0)+1:=by omega
  rw[e0]
  refine' Def.of (names:=["_law_thing","_law_each"]) (n:=1) (room:=1*n+0) (g:=ZhC (Zc1 n)) (ho:=?ho) (hcd:=?hcd) (nd:=by decide) (hn:=by decide) (hbind:=?hb) (hkinds:=?hk) (hone:=?h1) (hco:=?z1) (hgen:=?z2) (hk:=?z3) (hbody:=?hbody)
  case ho=>k_is
  case z1=>rfl
  case z2=>rfl
  case z3=>rfl
  case hcd=>k_is
  case hb=>intro s xs hx;match xs,hx with | [x0],_=>exact BindsTo.of_eq rfl
  case hk=>decide
  case h1=>decide +kernel
  case hbody=>
   intro dp un gd L outer h₀ hu clr hd1 hu1
   exact(Zs (Zdy sL (JI.seq vL) (Zx (Zaa (Zcq (Zc2 (JT.val (Zdo (nB clr) (nB clr) (.inr (.inr (.inl rfl))) vL)) (Zc2 (JT.val (Zdo (nB clr) (nB clr) (.inr (.inr (.inr rfl))) vL)) ZfT))) (Zx (Zba (cF clr ih (jc vL Zm)))) Zag))) (Zx (Zaa (JT.val (Zdo (nB clr) (nB clr) (.inr (.inr (.inl rfl))) vL)) (Zx (Zba (J.append vL jI))) Zag)))
theorem law_spoil_d: Def PySem.Challenge.rw_seer_k16_runs_cut.row.prog w (head.heap_39 w.params) head.view_39 (looseW head.view_39 []) (ExcName.means s₀.heap) mg mb 437 24 ZfO:=Zju 24
end
end L
end
section
open PySem PySem.W PySem.Calls PyProof.Rows PM
open L
seal PySem.wpAny PM.J PM.Js PM.JT PM.JA PM.JF PM.JI PM.JI2 PM.JP PM.S1 PM.Ss PM.Sto PM.Rd PM.Nm PM.OpN PM.Op2 PM.Def
theorem PySem.Challenge.cw_seer_k16_runs_cut_holds : PySem.Challenge.rw_seer_k16_runs_cut.Holds :=
 head (by
  w_strict (k_go0;(rename Well _ _ _ _=>w9);(rename Frag.In _ _=>kx9);(rename Top _ _ _ _ _ _=>t9);(rename Fr _ _ _ _=>f9);(rename News _ _ _ _=>n9);(rename CellsAre _ _ _=>x9);(rename (PyData.layable0 _=true)=>hl9);(obtain⟨H9,e9⟩:=L.Zl0 (by omega) hl9);(refine' PM.Zno (names:=[Str.ofString "_law_script",Str.ofString "_law_feed",Str.ofString "_law_steps",Str.ofString "_law_fewer",Str.ofString "_law_picks",Str.ofString "_law_numbers",Str.ofString "_law_program_here",Str.ofString "_law_start",Str.ofString "_law_handed",Str.ofString "_law_told",Str.ofString "_law_kept",Str.ofString "_law_again"]) (g:=Zia) (room:=60) ?hb ?h1 ?h2 ?h3 ?h4 kx9 t9 w9 ?len f9 n9 x9 e9 ?post);(case h1=>decide);(case h2=>decide);(case h3=>rfl);(case h4=>rfl);(case len=>(rw[PM.Zab];omega));(case hb=>(intro dp un gd L a ccd h₀ hu clrB XB TB hd1 hu1;have clr:=clrB.clr;exact(Zs (ZU (ZnO (by decide) (by rfl) rfl rfl rfl) (J.list (ZL (ZJ (rd_loc (by rfl) rfl rfl rfl)) (ZL (J.int _ _ _) (ZL (J.int _ _ _) Zm))))) (Zs (ZU (sto_loc (by decide) (by rfl) rfl rfl) (Zbh clr (nm_def clr (by k_is) rfl rfl rfl rfl) (by k_is) Zcn (by omega) (by omega) (ZL (ZJ (rd_cel (by rfl) rfl rfl rfl)) (ZL (J.int _ _ _) Zm)))) (Zs (ZU (sto_loc (by decide) (by rfl) rfl rfl) (Zz (Zbh clr (nm_def clr (by k_is) rfl rfl rfl rfl) (by k_is) Zcn (by omega) (by omega) (ZL (ZJ (rd_cel (by rfl) rfl rfl rfl)) (ZL (J.int _ _ _) Zm))) (Zz (ZJ (rd_loc (by rfl) rfl rfl rfl)) (J.int _ _ _) ok_add) ok_mod)) (Zs (by refine ZhG (t:=100) (hsw:=by rfl) (hclos:=by with_unfolding_all rfl) (hy:=(sto_loc (by decide) (by rfl) rfl rfl)) (hg:=?pg100) (hel:=?pe100) (hif:=?pi100) (hcell:=by decide) (hkind:=rfl) (hnames:=by decide) (hx:=rfl);(case pg100=>exact(JI.range (nm_built clr (by k_is) (by boot_by_name) (by decide) rfl rfl rfl rfl rfl) (ZL (Zbh clr (nm_def clr (by k_is) rfl rfl rfl rfl) (by k_is) Zcn (by omega) (by omega) (ZL (ZJ (rd_cel (by rfl) rfl rfl rfl)) (ZL (J.int _ _ _) Zm))) Zm)));(case pe100=>intro C ρ;exact(Zbh (Clr.comp clr) (nm_def (Clr.comp clr) (by k_is) rfl rfl rfl rfl) (by k_is) law_number_v16_d (by omega) (by omega) (ZL (ZJ (rdc_cel (by rfl) rfl (by decide) rfl rfl rfl rfl)) Zm)));(case pi100=>intro C ρ;exact JF.nil)) (Zs (by refine ZhG (t:=102) (hsw:=by rfl) (hclos:=by with_unfolding_all rfl) (hy:=(sto_loc (by decide) (by rfl) rfl rfl)) (hg:=?pg102) (hel:=?pe102) (hif:=?pi102) (hcell:=by decide) (hkind:=rfl) (hnames:=by decide) (hx:=rfl);(case pg102=>exact(JI.range (nm_built clr (by k_is) (by boot_by_name) (by decide) rfl rfl rfl rfl rfl) (ZL (J.int _ _ _) Zm)));(case pe102=>intro C ρ;exact(Zbh (Clr.comp clr) (nm_def (Clr.comp clr) (by k_is) rfl rfl rfl rfl) (by k_is) law_number_v16_d (by omega) (by omega) (ZL (ZJ (rdc_cel (by rfl) rfl (by decide) rfl rfl rfl rfl)) Zm)));(case pi102=>intro C ρ;exact JF.nil)) (Zs (ZU (sto_loc (by decide) (by rfl) rfl rfl) (Zbh clr (nm_def clr (by k_is) rfl rfl rfl rfl) (by k_is) law_program_v16_d (by omega) (by omega) (ZL (ZJ (rd_cel (by rfl) rfl rfl rfl)) Zm))) (Zs (ZU (sto_loc (by decide) (by rfl) rfl rfl) (ZeK (ZJ (rd_loc (by rfl) rfl rfl rfl)) JP.none (JP.some (Zt (Zt (ZJ (rd_loc (by rfl) rfl rfl rfl)) (J.un (J.int _ _ _) ok_neg)) (J.int _ _ _))))) (Zs (Zaa (ZiD (JT.val (ZjQ clrB XB TB (nm_def clr (by k_is) rfl rfl rfl rfl) (by k_is) law_refused_v16_d (by omega) (by omega) (ZL (ZJ (rd_loc (by rfl) rfl rfl rfl)) (ZL (Zz (ZJ (rd_loc (by rfl) rfl rfl rfl)) (J.list (ZL (ZJ (rd_loc (by rfl) rfl rfl rfl)) Zm)) ok_add) (ZL (ZJ (rd_loc (by rfl) rfl rfl rfl)) Zm)))))) (Zx (ZH (J.bool _ _ _))) Zag) (Zs (Zaa (Zcq (Zb1 (Z8 (Za4 (nm_built clr (by k_is) (by boot_by_name) (by decide) rfl rfl rfl rfl rfl) (ZL (ZJ (rd_loc (by rfl) rfl rfl rfl)) Zm) ok_len) (J.int _ _ _) ok_gt) (Zb1 (ZiD (JT.val (ZjQ clrB XB TB (nm_def clr (by k_is) rfl rfl rfl rfl) (by k_is) law_refused_v16_d (by omega) (by omega) (ZL (ZJ (rd_loc (by rfl) rfl rfl rfl)) (ZL (ZkT (ZJ (rd_loc (by rfl) rfl rfl rfl)) (J.int _ _ _)) (ZL (ZJ (rd_loc (by rfl) rfl rfl rfl)) Zm)))))) ZdV))) (Zx (ZH (J.bool _ _ _))) Zag) (Zs (ZU (sto_loc (by decide) (by rfl) rfl rfl) (J.list (ZL (Zbh clr (nm_def clr (by k_is) rfl rfl rfl rfl) (by k_is) law_copy_v12_d (by omega) (by omega) (ZL (ZJ (rd_loc (by rfl) rfl rfl rfl)) Zm)) (ZL (Zdr (nm_built clr (by k_is) (by boot_by_name) (by decide) rfl rfl rfl rfl rfl) (ZL (ZJ (rd_loc (by rfl) rfl rfl rfl)) Zm) ok_list1) (ZL (Zdr (nm_built clr (by k_is) (by boot_by_name) (by decide) rfl rfl rfl rfl rfl) (ZL (ZJ (rd_loc (by rfl) rfl rfl rfl)) Zm) ok_list1) Zm))))) (Zs (ZU (sto_loc (by decide) (by rfl) rfl rfl) (Zbh clr (nm_def clr (by k_is) rfl rfl rfl rfl) (by k_is) run_d (by omega) (by omega) (ZL (Zt (ZJ (rd_loc (by rfl) rfl rfl rfl)) (J.int _ _ _)) (ZL (Zt (ZJ (rd_loc (by rfl) rfl rfl rfl)) (J.int _ _ _)) (ZL (Zt (ZJ (rd_loc (by rfl) rfl rfl rfl)) (J.int _ _ _)) (ZL (ZJ (rd_loc (by rfl) rfl rfl rfl)) Zm)))))) (Zs (Zaa (Zcq (Zc2 (Z8 (Za4 (nm_built clr (by k_is) (by boot_by_name) (by decide) rfl rfl rfl rfl rfl) (ZL (ZJ (rd_loc (by rfl) rfl rfl rfl)) Zm) ok_len) (Zz (ZJ (rd_loc (by rfl) rfl rfl rfl)) (J.int _ _ _) ok_add) ok_gt) (Zc2 (Z8 (Zbh clr (nm_def clr (by k_is) rfl rfl rfl rfl) (by k_is) run_d (by omega) (by omega) (ZL (ZJ (rd_loc (by rfl) rfl rfl rfl)) (ZL (ZJ (rd_loc (by rfl) rfl rfl rfl)) (ZL (ZJ (rd_loc (by rfl) rfl rfl rfl)) (ZL (ZJ (rd_loc (by rfl) rfl rfl rfl)) Zm))))) (ZeK (ZJ (rd_loc (by rfl) rfl rfl rfl)) JP.none (JP.some (Zz (ZJ (rd_loc (by rfl) rfl rfl rfl)) (J.int _ _ _) ok_add))) ok_ne) ZfT))) (Zx (ZH (J.bool _ _ _))) Zag) (Zs (Zaa (Z8 (Zbh clr (nm_def clr (by k_is) rfl rfl rfl rfl) (by k_is) run_d (by omega) (by omega) (ZL (ZJ (rd_loc (by rfl) rfl rfl rfl)) (ZL (ZJ (rd_loc (by rfl) rfl rfl rfl)) (ZL (Zz (ZJ (rd_loc (by rfl) rfl rfl rfl)) (Zz (J.list (ZL (J.int _ _ _) Zm)) (Zz (J.int _ _ _) (Zz (ZJ (rd_loc (by rfl) rfl rfl rfl)) (J.int _ _ _) ok_mod) ok_add) ok_mul) ok_add) (ZL (ZJ (rd_loc (by rfl) rfl rfl rfl)) Zm))))) (ZJ (rd_loc (by rfl) rfl rfl rfl)) ok_ne) (Zx (ZH (J.bool _ _ _))) Zag) (Zs (ZU (sto_loc (by decide) (by rfl) rfl rfl) (Zbh clr (nm_def clr (by k_is) rfl rfl rfl rfl) (by k_is) law_copy_v12_d (by omega) (by omega) (ZL (ZJ (rd_loc (by rfl) rfl rfl rfl)) Zm))) (Zs (ZU (sto_loc (by decide) (by rfl) rfl rfl) (Zbh clr (nm_def clr (by k_is) rfl rfl rfl rfl) (by k_is) run_d (by omega) (by omega) (ZL (Zt (ZJ (rd_loc (by rfl) rfl rfl rfl)) (J.int _ _ _)) (ZL (Zt (ZJ (rd_loc (by rfl) rfl rfl rfl)) (J.int _ _ _)) (ZL (Zt (ZJ (rd_loc (by rfl) rfl rfl rfl)) (J.int _ _ _)) (ZL (ZJ (rd_loc (by rfl) rfl rfl rfl)) Zm)))))) (Zs (Zba (Zbh clr (nm_def clr (by k_is) rfl rfl rfl rfl) (by k_is) law_spoil_d (by omega) (by omega) (ZL (ZJ (rd_loc (by rfl) rfl rfl rfl)) Zm))) (Zs (Zba (Zbh clr (nm_def clr (by k_is) rfl rfl rfl rfl) (by k_is) law_spoil_d (by omega) (by omega) (ZL (ZJ (rd_loc (by rfl) rfl rfl rfl)) Zm))) (Zx (ZH (Zlk (Zc7 (ZJ (rd_loc (by rfl) rfl rfl rfl)) (ZJ (rd_loc (by rfl) rfl rfl rfl)) ok_eq) (Zc7 (Zbh clr (nm_def clr (by k_is) rfl rfl rfl rfl) (by k_is) run_d (by omega) (by omega) (ZL (ZJ (rd_loc (by rfl) rfl rfl rfl)) (ZL (ZJ (rd_loc (by rfl) rfl rfl rfl)) (ZL (ZJ (rd_loc (by rfl) rfl rfl rfl)) (ZL (ZJ (rd_loc (by rfl) rfl rfl rfl)) Zm))))) (ZJ (rd_loc (by rfl) rfl rfl rfl)) ok_eq)))))))))))))))))))))));(case post=>(intro h' tk' m' F';k_steps)))
  )
end
