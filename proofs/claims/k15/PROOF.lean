import PyProof.Rows.All
import Wide.All
import OpenK.AllK
import Wide.FinOn
import PySem.Challenge.RW_seer_k15_whole_run_by_statements
import PyProof.Rows.News
import PyProof.Rows.Nodes
import PyProof.Rows.Chain
import PyProof.Rows.TupSub
import ObjForm.Fk.ObjNew
import ObjForm.Fk.InstLoad
import PyProof.PureInt
import PyProof.Rules2
import PyProof.Rules3
import PyProof.Rows.Globals
import PyProof.Rows.RuleB_mod
import PyProof.Rows.RuleB_floordiv
import PyProof.Rows.RuleB_small
import PyProof.NoPylong
import PyProof.Rows.RuleB_pow
import PyProof.Rows.EqDataRows
import PyProof.Rows.StrTemp
import PyProof.Rows.TupAdd
import PyProof.Rows.ListMul
import PyProof.ListIndexNeg
import PyProof.SliceList
import PyProof.Methods
import PyProof.Rows.Tup
import PyProof.IsiPairs
import PyProof.IsiHeapPairs
import PyProof.IsiNone
import PyProof.Rows.RuleN_abs
import PyProof.Rows.SumAny
import PyProof.WalkInts
import PyProof.PvWalk
import PyProof.RulesRaise
import PyProof.Raises
import PyProof.Dict
import PyProof.Seq
import PyProof.Rows.ListAppend
import PyProof.ForAppend
import PyProof.ForAny
import PyProof.Walks
import PyProof.WalksT
import KE.KItem
import PyProof.WalksMore
import PyProof.RangeFor
import PyProof.Rows.Range3
import OpenK.KCell
import KE.KTree
import KE.RegLcTurns
import KE.KCompFold
import KE.KLcPair
import KE.LcTurns
import PyProof.CompUse
import PyProof.Rows.ZipGen
import OpenK.KLine
import KE.KState
import Wide.Well
import PyProof.ListCopy
import PyProof.Rows.TupleOfSeqD
import KE.LcSums
import KE.KCellOne
import PyProof.FitsBits
import KE.KEqDeep
import PyProof.Rows.TupMore
import PyProof.Rows.NestLooks
import PyProof.EnumMake
import PyProof.WalksEnum
import OpenK.KWalk
import OpenK.KMake
import PyProof.AssignAttr
import PyProof.Rows.AttrNodeAny
import PyProof.Draws
import PyProof.Rows.CallKwBuiltin
import PyProof.Rows.SortWalk
import PyProof.DictStraight
import PyProof.EqAt
import PyProof.Rows.SeqMore2
import KE.KSortTup
import PyProof.WalksPairs
import KE.KAnyBase
import PyProof.Rows.SeqSlice
import PyProof.Rows.SetFrom
import PyProof.FactsAll.set_1
import PyProof.FactsAll.set_2
import PyProof.Conv_int_bool
import PyProof.FactsAll.list_4
import PyProof.ListRange
import PyProof.LongRange
import KE.KRevIter
namespace My
end My
set_option linter.all false
set_option maxRecDepth 100000
set_option maxHeartbeats 8000000
theorem Zx0{α:Type _}{a:α}{P:Prop}(h:none=some a):P:=by cases h
noncomputable abbrev Zy0:=@List.getElem?_append_left
noncomputable abbrev Zy1:=@List.getElem?_eq_getElem
noncomputable abbrev Zy2:=@List.getElem?_set_ne
noncomputable abbrev Zy3:=@List.mem_cons_of_mem
noncomputable abbrev Zy4:=@List.mem_of_getElem?
noncomputable abbrev Zy5:=@List.getElem?_append_right
noncomputable abbrev Zy6:=@List.getElem?_set_self
noncomputable abbrev Zy7:=@List.mem_append_left
noncomputable abbrev Zy8:=@List.getElem?_eq_none
noncomputable abbrev Zy9:=@List.mem_filter
noncomputable abbrev Zy10:=@List.append_assoc
theorem Zs0{α β:Type _}(a:α)(f:α→Option β):(some a).bind f=f a:=rfl
theorem Zs1{α β:Type _}(a:α)(f:α→β):(some a).map f=some (f a):=rfl
noncomputable abbrev Zz0:=@Option.bind_eq_some_iff
noncomputable abbrev Zz1:=@Option.map_eq_some_iff
noncomputable abbrev Zz2:=@List.mem_cons_of_mem
noncomputable abbrev Zz3:=@List.mem_append_right
noncomputable abbrev Zz4:=@List.mem_append_left
noncomputable abbrev Zz5:=@List.mem_cons_self
noncomputable abbrev Zz6:=@List.getElem?_eq_some_iff
noncomputable abbrev Zz7:=@List.mem_cons
noncomputable abbrev Zz8:=@List.mem_append
noncomputable abbrev Zz9:=@List.mem_singleton
noncomputable abbrev Zz10:=@Nat.le_refl
noncomputable abbrev Zz11:=@List.mem_map
set_option Elab.async false
set_option compiler.extract_closed false
theorem Q02{P A B:Prop}(f:A→B→P):(A∧B)→P:=fun h=>f h.1 h.2
theorem Q11{α:Sort _}{A:α→Prop}{P:Prop}(f:∀x,A x→P):(∃x,A x)→P:=fun h=>h.elim f
theorem Q03{P A B C:Prop}(f:A→B→C→P):(A∧B∧C)→P:=fun h=>f h.1 h.2.1 h.2.2
theorem Q12{α:Sort _}{A B:α→Prop}{P:Prop}(f:∀x,A x→B x→P):(∃x,A x∧B x)→P:=fun h=>h.elim fun x h=>f x h.1 h.2
theorem Q21{α β:Sort _}{A:α→β→Prop}{P:Prop}(f:∀x y,A x y→P):(∃x y,A x y)→P:=fun h=>h.elim fun x h=>h.elim fun y h=>f x y h
theorem Q04{P A B C D:Prop}(f:A→B→C→D→P):(A∧B∧C∧D)→P:=fun h=>f h.1 h.2.1 h.2.2.1 h.2.2.2
theorem Q13{α:Sort _}{A B C:α→Prop}{P:Prop}(f:∀x,A x→B x→C x→P):(∃x,A x∧B x∧C x)→P:=fun h=>h.elim fun x h=>f x h.1 h.2.1 h.2.2
theorem Q22{α β:Sort _}{A B:α→β→Prop}{P:Prop}(f:∀x y,A x y→B x y→P):(∃x y,A x y∧B x y)→P:=fun h=>h.elim fun x h=>h.elim fun y h=>f x y h.1 h.2
theorem Q31{α β γ:Sort _}{A:α→β→γ→Prop}{P:Prop}(f:∀x y z,A x y z→P):(∃x y z,A x y z)→P:=fun h=>h.elim fun x h=>h.elim fun y h=>h.elim fun z h=>f x y z h
theorem Q05{P A B C D E:Prop}(f:A→B→C→D→E→P):(A∧B∧C∧D∧E)→P:=fun h=>f h.1 h.2.1 h.2.2.1 h.2.2.2.1 h.2.2.2.2
theorem Q14{α:Sort _}{A B C D:α→Prop}{P:Prop}(f:∀x,A x→B x→C x→D x→P):(∃x,A x∧B x∧C x∧D x)→P:=fun h=>h.elim fun x h=>f x h.1 h.2.1 h.2.2.1 h.2.2.2
theorem Q23{α β:Sort _}{A B C:α→β→Prop}{P:Prop}(f:∀x y,A x y→B x y→C x y→P):(∃x y,A x y∧B x y∧C x y)→P:=fun h=>h.elim fun x h=>h.elim fun y h=>f x y h.1 h.2.1 h.2.2
theorem Q32{α β γ:Sort _}{A B:α→β→γ→Prop}{P:Prop}(f:∀x y z,A x y z→B x y z→P):(∃x y z,A x y z∧B x y z)→P:=fun h=>h.elim fun x h=>h.elim fun y h=>h.elim fun z h=>f x y z h.1 h.2
theorem Q41{α β γ δ:Sort _}{A:α→β→γ→δ→Prop}{P:Prop}(f:∀x y z u,A x y z u→P):(∃x y z u,A x y z u)→P:=fun h=>h.elim fun x h=>h.elim fun y h=>h.elim fun z h=>h.elim fun u h=>f x y z u h
theorem Q06{P A B C D E F:Prop}(f:A→B→C→D→E→F→P):(A∧B∧C∧D∧E∧F)→P:=fun h=>f h.1 h.2.1 h.2.2.1 h.2.2.2.1 h.2.2.2.2.1 h.2.2.2.2.2
theorem Q15{α:Sort _}{A B C D E:α→Prop}{P:Prop}(f:∀x,A x→B x→C x→D x→E x→P):(∃x,A x∧B x∧C x∧D x∧E x)→P:=fun h=>h.elim fun x h=>f x h.1 h.2.1 h.2.2.1 h.2.2.2.1 h.2.2.2.2
theorem Q24{α β:Sort _}{A B C D:α→β→Prop}{P:Prop}(f:∀x y,A x y→B x y→C x y→D x y→P):(∃x y,A x y∧B x y∧C x y∧D x y)→P:=fun h=>h.elim fun x h=>h.elim fun y h=>f x y h.1 h.2.1 h.2.2.1 h.2.2.2
theorem Q33{α β γ:Sort _}{A B C:α→β→γ→Prop}{P:Prop}(f:∀x y z,A x y z→B x y z→C x y z→P):(∃x y z,A x y z∧B x y z∧C x y z)→P:=fun h=>h.elim fun x h=>h.elim fun y h=>h.elim fun z h=>f x y z h.1 h.2.1 h.2.2
theorem Q42{α β γ δ:Sort _}{A B:α→β→γ→δ→Prop}{P:Prop}(f:∀x y z u,A x y z u→B x y z u→P):(∃x y z u,A x y z u∧B x y z u)→P:=fun h=>h.elim fun x h=>h.elim fun y h=>h.elim fun z h=>h.elim fun u h=>f x y z u h.1 h.2
theorem Q51{α β γ δ ε:Sort _}{A:α→β→γ→δ→ε→Prop}{P:Prop}(f:∀x y z u v,A x y z u v→P):(∃x y z u v,A x y z u v)→P:=fun h=>h.elim fun x h=>h.elim fun y h=>h.elim fun z h=>h.elim fun u h=>h.elim fun v h=>f x y z u v h
theorem Q07{P A B C D E F G:Prop}(f:A→B→C→D→E→F→G→P):(A∧B∧C∧D∧E∧F∧G)→P:=fun h=>f h.1 h.2.1 h.2.2.1 h.2.2.2.1 h.2.2.2.2.1 h.2.2.2.2.2.1 h.2.2.2.2.2.2
theorem Q16{α:Sort _}{A B C D E F:α→Prop}{P:Prop}(f:∀x,A x→B x→C x→D x→E x→F x→P):(∃x,A x∧B x∧C x∧D x∧E x∧F x)→P:=fun h=>h.elim fun x h=>f x h.1 h.2.1 h.2.2.1 h.2.2.2.1 h.2.2.2.2.1 h.2.2.2.2.2
theorem Q25{α β:Sort _}{A B C D E:α→β→Prop}{P:Prop}(f:∀x y,A x y→B x y→C x y→D x y→E x y→P):(∃x y,A x y∧B x y∧C x y∧D x y∧E x y)→P:=fun h=>h.elim fun x h=>h.elim fun y h=>f x y h.1 h.2.1 h.2.2.1 h.2.2.2.1 h.2.2.2.2
theorem Q34{α β γ:Sort _}{A B C D:α→β→γ→Prop}{P:Prop}(f:∀x y z,A x y z→B x y z→C x y z→D x y z→P):(∃x y z,A x y z∧B x y z∧C x y z∧D x y z)→P:=fun h=>h.elim fun x h=>h.elim fun y h=>h.elim fun z h=>f x y z h.1 h.2.1 h.2.2.1 h.2.2.2
theorem Q43{α β γ δ:Sort _}{A B C:α→β→γ→δ→Prop}{P:Prop}(f:∀x y z u,A x y z u→B x y z u→C x y z u→P):(∃x y z u,A x y z u∧B x y z u∧C x y z u)→P:=fun h=>h.elim fun x h=>h.elim fun y h=>h.elim fun z h=>h.elim fun u h=>f x y z u h.1 h.2.1 h.2.2
theorem Q52{α β γ δ ε:Sort _}{A B:α→β→γ→δ→ε→Prop}{P:Prop}(f:∀x y z u v,A x y z u v→B x y z u v→P):(∃x y z u v,A x y z u v∧B x y z u v)→P:=fun h=>h.elim fun x h=>h.elim fun y h=>h.elim fun z h=>h.elim fun u h=>h.elim fun v h=>f x y z u v h.1 h.2
theorem Q61{α β γ δ ε ζ:Sort _}{A:α→β→γ→δ→ε→ζ→Prop}{P:Prop}(f:∀x y z u v w,A x y z u v w→P):(∃x y z u v w,A x y z u v w)→P:=fun h=>h.elim fun x h=>h.elim fun y h=>h.elim fun z h=>h.elim fun u h=>h.elim fun v h=>h.elim fun w h=>f x y z u v w h
theorem Q08{P A B C D E F G H:Prop}(f:A→B→C→D→E→F→G→H→P):(A∧B∧C∧D∧E∧F∧G∧H)→P:=fun h=>f h.1 h.2.1 h.2.2.1 h.2.2.2.1 h.2.2.2.2.1 h.2.2.2.2.2.1 h.2.2.2.2.2.2.1 h.2.2.2.2.2.2.2
theorem Q17{α:Sort _}{A B C D E F G:α→Prop}{P:Prop}(f:∀x,A x→B x→C x→D x→E x→F x→G x→P):(∃x,A x∧B x∧C x∧D x∧E x∧F x∧G x)→P:=fun h=>h.elim fun x h=>f x h.1 h.2.1 h.2.2.1 h.2.2.2.1 h.2.2.2.2.1 h.2.2.2.2.2.1 h.2.2.2.2.2.2
theorem Q26{α β:Sort _}{A B C D E F:α→β→Prop}{P:Prop}(f:∀x y,A x y→B x y→C x y→D x y→E x y→F x y→P):(∃x y,A x y∧B x y∧C x y∧D x y∧E x y∧F x y)→P:=fun h=>h.elim fun x h=>h.elim fun y h=>f x y h.1 h.2.1 h.2.2.1 h.2.2.2.1 h.2.2.2.2.1 h.2.2.2.2.2
theorem Q35{α β γ:Sort _}{A B C D E:α→β→γ→Prop}{P:Prop}(f:∀x y z,A x y z→B x y z→C x y z→D x y z→E x y z→P):(∃x y z,A x y z∧B x y z∧C x y z∧D x y z∧E x y z)→P:=fun h=>h.elim fun x h=>h.elim fun y h=>h.elim fun z h=>f x y z h.1 h.2.1 h.2.2.1 h.2.2.2.1 h.2.2.2.2
theorem Q44{α β γ δ:Sort _}{A B C D:α→β→γ→δ→Prop}{P:Prop}(f:∀x y z u,A x y z u→B x y z u→C x y z u→D x y z u→P):(∃x y z u,A x y z u∧B x y z u∧C x y z u∧D x y z u)→P:=fun h=>h.elim fun x h=>h.elim fun y h=>h.elim fun z h=>h.elim fun u h=>f x y z u h.1 h.2.1 h.2.2.1 h.2.2.2
theorem Q53{α β γ δ ε:Sort _}{A B C:α→β→γ→δ→ε→Prop}{P:Prop}(f:∀x y z u v,A x y z u v→B x y z u v→C x y z u v→P):(∃x y z u v,A x y z u v∧B x y z u v∧C x y z u v)→P:=fun h=>h.elim fun x h=>h.elim fun y h=>h.elim fun z h=>h.elim fun u h=>h.elim fun v h=>f x y z u v h.1 h.2.1 h.2.2
theorem Q62{α β γ δ ε ζ:Sort _}{A B:α→β→γ→δ→ε→ζ→Prop}{P:Prop}(f:∀x y z u v w,A x y z u v w→B x y z u v w→P):(∃x y z u v w,A x y z u v w∧B x y z u v w)→P:=fun h=>h.elim fun x h=>h.elim fun y h=>h.elim fun z h=>h.elim fun u h=>h.elim fun v h=>h.elim fun w h=>f x y z u v w h.1 h.2
theorem Q71{α β γ δ ε ζ η:Sort _}{A:α→β→γ→δ→ε→ζ→η→Prop}{P:Prop}(f:∀x y z u v w s,A x y z u v w s→P):(∃x y z u v w s,A x y z u v w s)→P:=fun h=>h.elim fun x h=>h.elim fun y h=>h.elim fun z h=>h.elim fun u h=>h.elim fun v h=>h.elim fun w h=>h.elim fun s h=>f x y z u v w s h
local macro_rules|`(tactic|obtain⟨$ps,*⟩:=$t)=>do
 let ps:=ps.getElems
 let n:=ps.size
 if n<2 then Lean.Macro.throwUnsupported
 let mut bs:Array Lean.Term:= #[]
 let mut qs:Array (Array (Lean.TSyntax `tactic)):= #[]
 for p in ps do
  let r:=p.raw[0]
  let c:=r[0][0]
  if r[0].getNumArgs>1 then Lean.Macro.throwUnsupported
  if c.isOfKind ``Lean.Parser.Tactic.rcasesPat.one&&c[0].getId != `rfl then
   bs:=bs.push ⟨c[0]⟩
   qs:=qs.push #[]
  else if c.isOfKind ``Lean.Parser.Tactic.rcasesPat.ignore then
   bs:=bs.push (← `(_))
   qs:=qs.push #[]
  else
   let q:=Lean.mkIdent (← Lean.Macro.addMacroScope (.mkSimple s!"q{bs.size}"))
   bs:=bs.push q
   qs:=qs.push #[← `(tactic|obtain $(⟨r⟩):rcasesPatMed:= $q)]
 let mut r:Array (Lean.TSyntax `tactic):= #[]
 for d in [0:n] do
  let j:=n-d
  let mut b:Array Lean.Term:= #[]
  let mut s:Array (Lean.TSyntax `tactic):= #[]
  for i in [0:j] do
   if s.isEmpty then b:=b.push bs[i]! else s:=s.push (← `(tactic|intro $(bs[i]!):term))
   s:=s++qs[i]!
  if j=n&&n<9 then
   for k in [0:n] do
    let f:=Lean.mkIdent (.mkSimple s!"Q{k}{n-k}")
    r:=r.push (← `(tactic|(refine $f fun $b* =>?_;($[$s:tactic];*))))
  if j<n&&j<8 then
   let z:=ps.extract j n
   for k in [0:j+1] do
    let f:=Lean.mkIdent (.mkSimple s!"Q{k}{j+1-k}")
    r:=r.push (← `(tactic|(refine $f fun $b* =>?_;($[$s:tactic];*);intro q;obtain⟨$z,*⟩:=q)))
 let u:Lean.TSyntax `tactic← (if t.raw.isIdent then let i:Lean.Ident:=⟨t⟩;`(tactic|revert $i:ident) else `(tactic|(have q:= $t;revert q)))
 `(tactic|($u:tactic;first $[|$r:tactic]*))
section
/-! The plain machine: values as trees, lists as places; and how it stands for the model's heap. -/
namespace PM
open PySem PyProof.Rows
inductive V where
 | none
 | bool (b:Bool)
 | int (i:Int)
 | str (s:Str)
 | tup (vs:List V)
 | ref (a:Nat)
 | obj (c:Nat×List Str) (a:Nat)
noncomputable abbrev Hp:=List (List V)
noncomputable abbrev Lc:=Nat→Option V
noncomputable def ZX: Nat:=100000
theorem Zac: ZX=100000:=rfl
theorem Zcr{n:Nat}(h:n≤ZX): n≤sizeLine:=by
 have:sizeLine=2 ^ 24:=rfl
 rw[this];rw[Zac]at h;lia
noncomputable abbrev ZdD(xs:List Value)(k:Nat): Obj:={ cls:=.type "tuple",data:=.seq xs.toArray k }
noncomputable abbrev Zbf(xs:List Value)(k:Nat): Obj:={ cls:=.type "list",data:=.seq xs.toArray k }
structure Wd where
 pi:List Addr
 tups:List (Addr×Obj)
 sc:Addr×Obj
 ins:List (Nat×List Str)
structure Wd.Le(W W':Wd): Prop where
 pi:W.pi <+: W'.pi
 tups:∀q∈W.tups,q∈W'.tups
 sc:W'.sc=W.sc
 ins:∀q∈W.ins,q∈W'.ins
 inew:∀q∈W'.ins,q∈W.ins∨W.pi.length≤q.1
theorem Wd.Le.refl(W:Wd): W.Le W:=⟨List.prefix_refl _,fun _ h=>h,rfl,fun _ h=>h,fun _ h=>.inl h⟩
theorem Wd.Le.trans{W W' W'':Wd}(a:W.Le W')(b:W'.Le W''): W.Le W'':=⟨a.pi.trans b.pi,fun q h=>b.tups q (a.tups q h),b.sc.trans a.sc,fun q h=>b.ins q (a.ins q h),fun q h=>by
 rcases b.inew q h with z | z
 ·exact a.inew q z
 ·exact .inr (Nat.le_trans a.pi.length_le z)⟩
noncomputable def Wd.At(W:Wd)(i:Nat)(a:Addr): Prop:=W.pi[i]?=some a∧∀q∈W.ins,q.1≠i
noncomputable def Zjv(o:Obj)(C dx:Addr): Prop:=o = { cls:=.ref C,dict:=some dx,data:=.plain }
inductive FE: List Str→List Value→List DictEntry→Prop where
 | nil {fs:List Str}:FE fs [] []
 | cons {f:Str} {fs:List Str} {x:Value} {xs:List Value} {hs:Int} {t:Tok} {es:List DictEntry}:FE fs xs es→FE (f::fs) (x::xs) (⟨hs,.str f t,x⟩::es)
noncomputable def ZlJ(o:Obj)(fs:List Str)(xs:List Value): Prop:=∃es n,o = { cls:=.type "dict",data:=.dict es.toArray n }∧FE fs xs es
theorem Wd.Le.piAt{W W':Wd}(h:W.Le W'){i:Nat}{a:Addr}(e:W.pi[i]?=some a): W'.pi[i]?=some a:=by
 obtain⟨t,ht⟩:=h.pi
 have hi:i<W.pi.length:=(Zz6.mp e).1
 rw[←ht,Zy0 hi]
 exact e
theorem Wd.Le.at{W W':Wd}(h:W.Le W'){i:Nat}{a:Addr}(e:W.At i a): W'.At i a:=⟨h.piAt e.1,fun q hq z=>by
 rcases h.inew q hq with y | y
 ·exact e.2 q y z
 ·have:=(Zz6.mp e.1).1
  lia⟩
mutual
inductive VR(W:Wd): V→Value→Prop where
 | none:VR W .none .none
 | bool (b:Bool):VR W (.bool b) (.bool b)
 | int (i:Int) (t:Tok):VR W (.int i) (.int i t)
 | str (s:Str) (t:Tok):VR W (.str s) (.str s t)
 | tup {vs:List V} {a:Addr} {xs:List Value} {k:Nat}:(a,ZdD xs k)∈W.tups→vs.length≤ZX→VRs W vs xs→VR W (.tup vs) (.ref a)
 | ref {i:Nat} {a:Addr}:W.At i a→VR W (.ref i) (.ref a)
 | obj {c:Nat×List Str} {i:Nat} {a x:Addr} {ox:Obj}:W.pi[i]?=some a→(i,c.2)∈W.ins→(x,ox)∈W.tups→Zjv ox c.1 a→VR W (.obj c i) (.ref x)
inductive VRs(W:Wd): List V→List Value→Prop where
 | nil:VRs W [] []
 | cons {v:V} {x:Value} {vs:List V} {xs:List Value}:VR W v x→VRs W vs xs→VRs W (v::vs) (x::xs)
end
mutual
theorem VR.mono{W W':Wd}(h:W.Le W'){v:V}{x:Value}(r:VR W v x): VR W' v x:=by
 cases r with
 | none=>exact .none
 | bool b=>exact .bool b
 | int i t=>exact .int i t
 | str s t=>exact .str s t
 | tup hm hl hs=>exact .tup (h.tups _ hm) hl (VRs.mono h hs)
 | ref e=>exact .ref (h.at e)
 | obj h1 h2 h3 h4=>exact .obj (h.piAt h1) (h.ins _ h2) (h.tups _ h3) h4
theorem VRs.mono{W W':Wd}(h:W.Le W'){vs:List V}{xs:List Value}(r:VRs W vs xs): VRs W' vs xs:=by
 cases r with
 | nil=>exact .nil
 | cons a b=>exact .cons (VR.mono h a) (VRs.mono h b)
end
theorem VRs.length{W:Wd}: ∀{vs:List V} {xs:List Value},VRs W vs xs→xs.length=vs.length
 | _,_,.nil=>rfl
 | _,_,.cons _ r=>by rw[List.length_cons,List.length_cons,r.length]
theorem VRs.at{W:Wd}: ∀{vs:List V} {xs:List Value} {i:Nat} {v:V},VRs W vs xs→vs[i]?=some v→∃x,xs[i]?=some x∧VR W v x
 | _,_,_,_,.nil,e=>by simp at e
 | _,_,0,_,.cons a _,e=>by
  simp at e
  exact⟨_,by simp,e▸a⟩
 | _,_,i+1,_,.cons _ r,e=>by
  simp at e
  obtain⟨x,hx,hr⟩:=r.at e
  exact⟨x,by simpa using hx,hr⟩
theorem VRs.append{W:Wd}: ∀{vs us:List V} {xs ys:List Value},VRs W vs xs→VRs W us ys→VRs W (vs++us) (xs++ys)
 | _,_,_,_,.nil,h=>h
 | _,_,_,_,.cons a r,h=>.cons a (r.append h)
theorem VRs.snoc{W:Wd}{vs:List V}{xs:List Value}{v:V}{x:Value}(h:VRs W vs xs)(r:VR W v x): VRs W (vs++[v]) (xs++[x]):=h.append (.cons r .nil)
theorem VRs.set{W:Wd}: ∀{vs:List V} {xs:List Value} {v:V} {x:Value} (i:Nat),VRs W vs xs→VR W v x→VRs W (vs.set i v) (xs.set i x)
 | _,_,_,_,_,.nil,_=>.nil
 | _,_,_,_,0,.cons _ r,h=>.cons h r
 | _,_,_,_,i+1,.cons a r,h=>.cons a (r.set i h)
theorem VRs.drop{W:Wd}: ∀{vs:List V} {xs:List Value} (i:Nat),VRs W vs xs→VRs W (vs.drop i) (xs.drop i)
 | _,_,0,h=>h
 | _,_,_+1,.nil=>.nil
 | _,_,i+1,.cons _ r=>r.drop i
structure HR(W:Wd)(H:Hp)(led:List (Addr×Obj)): Prop where
 len:W.pi.length=H.length
 nd:W.pi.Nodup
 lists:∀(i:Nat) (vs:List V),H[i]?=some vs→(∀q∈W.ins,q.1≠i)→vs.length≤ZX∧∃a xs k,W.pi[i]?=some a∧(a,Zbf xs k)∈led∧VRs W vs xs
 tups:∀q∈W.tups,q∈led
 kind:∀q∈W.tups,(∃xs k,q.2=ZdD xs k)∨∃C dx,Zjv q.2 C dx
 objs:∀(i:Nat) (vs:List V) (fs:List Str),H[i]?=some vs→(i,fs)∈W.ins→vs.length≤fs.length∧∃a od xs,W.pi[i]?=some a∧(a,od)∈led∧ZlJ od fs xs∧VRs W vs xs
 inlt:∀q∈W.ins,q.1<H.length
 iuni:∀q∈W.ins,∀r∈W.ins,q.1=r.1→q=r
theorem HR.mono{W:Wd}{H:Hp}{led led':List (Addr×Obj)}(R:HR W H led)(h:∀q∈led,q∈led'): HR W H led':=
 ⟨R.len,R.nd,fun i vs e ni=>by
  obtain⟨l,a,xs,k,h1,h2,h3⟩:=R.lists i vs e ni
  exact⟨l,a,xs,k,h1,h _ h2,h3⟩,fun q hq=>h q (R.tups q hq),R.kind,fun i vs fs e hi=>by
  obtain⟨l,a,od,xs,h1,h2,h3⟩:=R.objs i vs fs e hi
  exact⟨l,a,od,xs,h1,h _ h2,h3⟩,R.inlt,R.iuni⟩
theorem HR.any{W:Wd}{H:Hp}{led:List (Addr×Obj)}(R:HR W H led){i:Nat}{vs:List V}(e:H[i]?=some vs): ∃a o,W.pi[i]?=some a∧(a,o)∈led∧(o.cls=.type "list"∨o.cls=.type "dict"):=by
 by_cases ni:∀q∈W.ins,q.1≠i
 ·obtain⟨_,a,xs,k,h1,h2,_⟩:=R.lists i vs e ni
  exact⟨a,_,h1,h2,.inl rfl⟩
 ·obtain⟨⟨j,fs⟩,hq⟩:=Classical.not_forall.mp ni
  obtain⟨hq',z⟩:=Classical.not_imp.mp hq
  have z:j=i:=Classical.not_not.mp z
  rw[z]at hq'
  obtain⟨_,a,od,xs,h1,h2,h3,_⟩:=R.objs i vs fs e hq'
  obtain⟨es,n,eo,_⟩:=h3
  exact⟨a,od,h1,h2,.inr (by rw[eo])⟩
theorem Zks{o:Obj}(k:(∃xs k,o=ZdD xs k)∨∃C dx,Zjv o C dx): o.cls≠.type "list"∧o.cls≠.type "dict":=by
 rcases k with⟨xs,k,e⟩ | ⟨C,dx,e⟩
 ·rw[e];exact⟨by simp,by simp⟩
 ·rw[show o=_ from e];exact⟨by simp,by simp⟩
structure Cx where
 A:Around
 env:Env
 h₀:Heap
 L:Addr
 hh:A.handled=none
 hu:A.units+200<cLine
 Own:Wd→Lc→(Str→Option Value)→List (Addr×Obj)→Prop
 mono:∀{W W':Wd} {ρ:Lc} {m:Str→Option Value} {c:List (Addr×Obj)},W.Le W'→Own W ρ m c→Own W' ρ m c
structure Rep'(Γ:Cx)(W:Wd)(ρ:Lc)(H:Hp)(fr:List (Addr×Obj))(h:Heap)(m:Str→Option Value)(cells led:List (Addr×Obj)): Prop where
 F:Fr Γ.h₀ Γ.L h m
 N:News Γ.h₀ Γ.L h led
 R:HR W H (W.sc::led)
 sc:Γ.h₀.get? W.sc.1=some W.sc.2
 sc0:W.pi[0]?=some W.sc.1
 frIn:∀q∈fr,q∈led
 frOff:∀q∈fr,q.1∉W.pi
 clIn:∀q∈cells,q∈led
 clOff:∀q∈cells,q.1∉W.pi
 apart:∀q∈cells,∀r∈fr,q.1≠r.1
 frTup:∀q∈fr,∀t∈W.tups,q.1≠t.1
 clTup:∀q∈cells,∀t∈W.tups,q.1≠t.1
 own:Γ.Own W ρ m cells
noncomputable def Rep(Γ:Cx)(W:Wd)(ρ:Lc)(H:Hp)(fr:List (Addr×Obj))(h:Heap): Prop:=∃m cells led,Rep' Γ W ρ H fr h m cells led
theorem Rep.grown{Γ:Cx}{W:Wd}{ρ:Lc}{H:Hp}{fr:List (Addr×Obj)}{h h':Heap}(r:Rep Γ W ρ H fr h)(up:∀b o,h.get? b=some o→h'.get? b=some o): Rep Γ W ρ H fr h':=by
 obtain⟨m,c,led,r⟩:=r
 refine⟨m,c,led,⟨⟨?_,fun b o e=>up b o (r.F.keep b o e),r.F.above⟩,fun q hq=>⟨up _ _ (r.N q hq).1,(r.N q hq).2⟩,r.R,r.sc,r.sc0,r.frIn,r.frOff,r.clIn,r.clOff,r.apart,r.frTup,r.clTup,r.own⟩⟩
 obtain⟨o,es,ep,h1,h2⟩:=r.F.ns
 exact⟨o,es,ep,up _ _ h1,h2⟩
theorem Rep.push{Γ:Cx}{W:Wd}{ρ:Lc}{H:Hp}{fr:List (Addr×Obj)}{h:Heap}(r:Rep Γ W ρ H fr h)(o:Obj): Rep Γ W ρ H fr (h.push o):=r.grown fun _ _ e=>Heap.get?_push_of_some _ e
theorem ZbQ{q s:Addr×Obj}{l l':List (Addr×Obj)}(h:q∈s::l)(m:q∈l→q∈l'): q∈s::l':=by
 rcases Zz7.mp h with e | h
 ·exact e▸List.mem_cons_self
 ·exact Zz2 _ (m h)
theorem Zc9{q s:Addr×Obj}{l l':List (Addr×Obj)}(h:q∈s::l)(m:∀x∈l,x∈l'): q∈s::l':=by
 rcases Zz7.mp h with e | h
 ·exact e▸List.mem_cons_self
 ·exact Zz2 _ (m q h)
theorem Rep'.get{Γ:Cx}{W:Wd}{ρ:Lc}{H:Hp}{fr:List (Addr×Obj)}{h:Heap}{m:Str→Option Value}{c led:List (Addr×Obj)}(r:Rep' Γ W ρ H fr h m c led){q:Addr×Obj}(hq:q∈W.sc::led): h.get? q.1=some q.2:=by
 rcases Zz7.mp hq with e | hq
 ·rw[e]
  exact r.F.keep _ _ r.sc
 ·exact(r.N q hq).1
theorem Rep'.off{Γ:Cx}{W:Wd}{ρ:Lc}{H:Hp}{fr:List (Addr×Obj)}{h:Heap}{m:Str→Option Value}{c led:List (Addr×Obj)}(r:Rep' Γ W ρ H fr h m c led): ∀q∈W.sc::led,q.1≠h.objs.size:=fun q hq=>Nat.ne_of_lt (Heap.lt_size (r.get hq))
theorem Rep'.piIn{Γ:Cx}{W:Wd}{ρ:Lc}{H:Hp}{fr:List (Addr×Obj)}{h:Heap}{m:Str→Option Value}{c led:List (Addr×Obj)}(r:Rep' Γ W ρ H fr h m c led): ∀a∈W.pi,∃o,(a,o)∈W.sc::led:=by
 intro a ha
 obtain⟨i,hi,e⟩:=List.getElem_of_mem ha
 have hi':i<H.length:=r.R.len▸hi
 obtain⟨b,o,h1,h2,_⟩:=r.R.any (Zy1 hi')
 have:b=a:=by rw[Zy1 hi,e]at h1;exact(Option.some.inj h1).symm
 exact⟨_,this▸h2⟩
theorem Rep'.inLed{Γ:Cx}{W:Wd}{ρ:Lc}{H:Hp}{fr:List (Addr×Obj)}{h:Heap}{m:Str→Option Value}{c led:List (Addr×Obj)}(r:Rep' Γ W ρ H fr h m c led){i:Nat}{a:Addr}{o:Obj}(hi:i≠0)(ea:W.pi[i]?=some a)(hm:(a,o)∈W.sc::led): (a,o)∈led:=by
 rcases Zz7.mp hm with e | hm
 ·have e1:a=W.sc.1:=congrArg (·.1) e
  have hl:i<W.pi.length:=(Zz6.mp ea).1
  have:i=0:=(List.getElem?_inj hl r.R.nd).mp (by rw[ea,r.sc0,e1])
  exact absurd this hi
 ·exact hm
theorem Rep'.notSc{Γ:Cx}{W:Wd}{ρ:Lc}{H:Hp}{fr:List (Addr×Obj)}{h:Heap}{m:Str→Option Value}{c led:List (Addr×Obj)}(r:Rep' Γ W ρ H fr h m c led): ∀q∈led,q.1≠W.sc.1:=fun q hq e=>by
 have:=(r.N q hq).2.2
 rw[e,r.sc]at this
 cases this
theorem Rep'.newTup{Γ:Cx}{W:Wd}{ρ:Lc}{H:Hp}{fr:List (Addr×Obj)}{h h':Heap}{m:Str→Option Value}{c led:List (Addr×Obj)}{vs:List V}{xs:List Value}{k:Nat}{n:Addr}(r:Rep' Γ W ρ H fr h m c led)(F':Fr Γ.h₀ Γ.L h' m)(N':News Γ.h₀ Γ.L h' ((n,ZdD xs k)::led))(hn:∀q∈W.sc::led,q.1≠n)(hv:VRs W vs xs)(hl:vs.length≤ZX):
  ∃W',W.Le W'∧Rep Γ W' ρ H fr h'∧VR W' (.tup vs) (.ref n):=by
 have le:W.Le ⟨W.pi,(n,ZdD xs k)::W.tups,W.sc,W.ins⟩:=⟨List.prefix_refl _,fun q hq=>Zy3 _ hq,rfl,fun _ h=>h,fun _ h=>.inl h⟩
 refine⟨⟨W.pi,(n,ZdD xs k)::W.tups,W.sc,W.ins⟩,le,⟨m,c,(n,ZdD xs k)::led,⟨F',N',?_,r.sc,r.sc0,fun q hq=>Zy3 _ (r.frIn q hq),r.frOff,fun q hq=>Zy3 _ (r.clIn q hq),r.clOff,r.apart,fun q hq t ht=>?_,fun q hq t ht=>?_,Γ.mono le r.own⟩⟩,.tup Zz5 hl (hv.mono le)⟩
 ·refine⟨r.R.len,r.R.nd,fun i us e ni=>?_,fun q hq=>?_,fun q hq=>?_,fun i us fs e hi=>?_,r.R.inlt,r.R.iuni⟩
  ·obtain⟨l,a,ys,j,h1,h2,h3⟩:=r.R.lists i us e ni
   exact⟨l,a,ys,j,h1,Zc9 h2 fun x hx=>Zy3 _ hx,h3.mono le⟩
  ·rcases Zz7.mp hq with e | hq
   ·exact e▸Zy3 _ Zz5
   ·exact Zc9 (r.R.tups q hq) fun x hx=>Zy3 _ hx
  ·rcases Zz7.mp hq with e | hq
   ·exact .inl ⟨xs,k,by rw[e]⟩
   ·exact r.R.kind q hq
  ·obtain⟨l,a,od,ys,h1,h2,h3,h4⟩:=r.R.objs i us fs e hi
   exact⟨l,a,od,ys,h1,Zc9 h2 fun x hx=>Zy3 _ hx,h3,h4.mono le⟩
 ·rcases Zz7.mp ht with e | ht
  ·rw[e]
   exact hn q (Zz2 _ (r.frIn q hq))
  ·exact r.frTup q hq t ht
 ·rcases Zz7.mp ht with e | ht
  ·rw[e]
   exact hn q (Zz2 _ (r.clIn q hq))
  ·exact r.clTup q hq t ht
theorem Rep.tuple{Γ:Cx}{W:Wd}{ρ:Lc}{H:Hp}{fr:List (Addr×Obj)}{h:Heap}{vs:List V}{xs:List Value}{k:Nat}(r:Rep Γ W ρ H fr h)(hv:VRs W vs xs)(hl:vs.length≤ZX):
  ∃W',W.Le W'∧Rep Γ W' ρ H fr (h.push (ZdD xs k))∧VR W' (.tup vs) (.ref h.objs.size):=by
 obtain⟨m,c,led,r⟩:=r
 exact r.newTup (r.F.push _) (News.push r.F r.N _) r.off hv hl
theorem Rep'.newList{Γ:Cx}{W:Wd}{ρ:Lc}{H:Hp}{fr:List (Addr×Obj)}{h h':Heap}{m:Str→Option Value}{c led:List (Addr×Obj)}{vs:List V}{xs:List Value}{k:Nat}{n:Addr}(r:Rep' Γ W ρ H fr h m c led)(F':Fr Γ.h₀ Γ.L h' m)(N':News Γ.h₀ Γ.L h' ((n,Zbf xs k)::led))(hn:∀q∈W.sc::led,q.1≠n)(hv:VRs W vs xs)(hl:vs.length≤ZX):
  ∃W',W.Le W'∧Rep Γ W' ρ (H++[vs]) fr h'∧VR W' (.ref H.length) (.ref n):=by
 have le:W.Le ⟨W.pi++[n],W.tups,W.sc,W.ins⟩:=⟨List.prefix_append _ _,fun q hq=>hq,rfl,fun _ h=>h,fun _ h=>.inl h⟩
 have h0:0<W.pi.length:=(Zz6.mp r.sc0).1
 have at_n:(W.pi++[n])[H.length]?=some n:=by rw[←r.R.len];simp
 have nin:∀q∈W.ins,q.1≠H.length:=fun q hq e=>by have:=r.R.inlt q hq;lia
 refine⟨⟨W.pi++[n],W.tups,W.sc,W.ins⟩,le,⟨m,c,(n,Zbf xs k)::led,⟨F',N',?_,r.sc,(Zy0 h0).trans r.sc0,fun q hq=>Zy3 _ (r.frIn q hq),fun q hq=>?_,fun q hq=>Zy3 _ (r.clIn q hq),fun q hq=>?_,r.apart,r.frTup,r.clTup,Γ.mono le r.own⟩⟩,.ref ⟨at_n,nin⟩⟩
 ·refine⟨by simp[r.R.len],?_,fun i us e ni=>?_,fun q hq=>Zc9 (r.R.tups q hq) fun x hx=>Zy3 _ hx,r.R.kind,fun i us fs e hi=>?_,fun q hq=>by have:=r.R.inlt q hq;simp;lia,r.R.iuni⟩
  ·show(W.pi++[n]).Nodup
   rw[List.nodup_append]
   refine⟨r.R.nd,by simp,fun a ha b hb=>?_⟩
   rw[List.mem_singleton.mp hb]
   obtain⟨o,ho⟩:=r.piIn a ha
   exact hn _ ho
  ·by_cases hi:i<H.length
   ·rw[Zy0 hi]at e
    obtain⟨l,a,ys,j,h1,h2,h3⟩:=r.R.lists i us e ni
    exact⟨l,a,ys,j,le.piAt h1,Zc9 h2 fun x hx=>Zy3 _ hx,h3.mono le⟩
   ·have:i=H.length:=by
     have:=(Zz6.mp e).1
     simp at this
     lia
    subst this
    simp at e
    subst e
    exact⟨hl,n,xs,k,at_n,Zy3 _ Zz5,hv.mono le⟩
  ·have hi':i<H.length:=r.R.inlt _ hi
   rw[Zy0 hi']at e
   obtain⟨l,a,od,ys,h1,h2,h3,h4⟩:=r.R.objs i us fs e hi
   exact⟨l,a,od,ys,le.piAt h1,Zc9 h2 fun x hx=>Zy3 _ hx,h3,h4.mono le⟩
 ·intro hm
  rcases Zz8.mp hm with hm | hm
  ·exact r.frOff q hq hm
  ·exact hn q (Zz2 _ (r.frIn q hq)) (Zz9.mp hm)
 ·intro hm
  rcases Zz8.mp hm with hm | hm
  ·exact r.clOff q hq hm
  ·exact hn q (Zz2 _ (r.clIn q hq)) (Zz9.mp hm)
theorem Rep.list{Γ:Cx}{W:Wd}{ρ:Lc}{H:Hp}{fr:List (Addr×Obj)}{h:Heap}{vs:List V}{xs:List Value}{k:Nat}(r:Rep Γ W ρ H fr h)(hv:VRs W vs xs)(hl:vs.length≤ZX):
  ∃W',W.Le W'∧Rep Γ W' ρ (H++[vs]) fr (h.push (Zbf xs k))∧VR W' (.ref H.length) (.ref h.objs.size):=by
 obtain⟨m,c,led,r⟩:=r
 exact r.newList (r.F.push _) (News.push r.F r.N _) r.off hv hl
theorem Rep.at{Γ:Cx}{W:Wd}{ρ:Lc}{H:Hp}{fr:List (Addr×Obj)}{h:Heap}{i:Nat}{a:Addr}{vs:List V}(r:Rep Γ W ρ H fr h)(e:H[i]?=some vs)(ea:W.At i a): vs.length≤ZX∧∃xs k,h.get? a=some (Zbf xs k)∧VRs W vs xs:=by
 obtain⟨m,c,led,r⟩:=r
 obtain⟨l,b,xs,k,h1,h2,h3⟩:=r.R.lists i vs e ea.2
 rw[ea.1]at h1
 cases h1
 exact⟨l,xs,k,r.get h2,h3⟩
theorem Rep.tupAt{Γ:Cx}{W:Wd}{ρ:Lc}{H:Hp}{fr:List (Addr×Obj)}{h:Heap}{q:Addr×Obj}(r:Rep Γ W ρ H fr h)(e:q∈W.tups): h.get? q.1=some q.2:=by
 obtain⟨m,c,led,r⟩:=r
 exact r.get (r.R.tups _ e)
theorem Rep'.changed{Γ:Cx}{W:Wd}{ρ:Lc}{H:Hp}{fr:List (Addr×Obj)}{h h':Heap}{m:Str→Option Value}{c led:List (Addr×Obj)}{i:Nat}{a:Addr}{vs us:List V}{ys:List Value}{k:Nat}(r:Rep' Γ W ρ H fr h m c led)(i0:i≠0)(e:H[i]?=some vs)(ea:W.At i a)(F':Fr Γ.h₀ Γ.L h' m)(N':News Γ.h₀ Γ.L h' ((a,Zbf ys k)::led.filter (fun q=>decide (q.1≠a))))(hv:VRs W us ys)(hl:us.length≤ZX):
  Rep Γ W ρ (H.set i us) fr h':=by
 obtain⟨_,b,xs,j,h1,h2,h3⟩:=r.R.lists i vs e ea.2
 rw[ea.1]at h1
 cases h1
 have h2:=r.inLed i0 ea.1 h2
 have hN:=r.N _ h2
 have hm:a∈W.pi:=Zy4 ea.1
 have hi:i<H.length:=(Zz6.mp e).1
 refine⟨m,c,(a,Zbf ys k)::led.filter (fun q=>decide (q.1≠a)),⟨F',N',?_,r.sc,r.sc0,fun q hq=>?_,r.frOff,fun q hq=>?_,r.clOff,r.apart,r.frTup,r.clTup,r.own⟩⟩
 ·refine⟨by simp[r.R.len],r.R.nd,fun n ws en ni=>?_,fun q hq=>?_,r.R.kind,fun n ws fs en hi'=>?_,fun q hq=>by have:=r.R.inlt q hq;simpa using this,r.R.iuni⟩
  ·by_cases hn:n=i
   ·subst hn
    rw[Zy6 hi]at en
    cases en
    exact⟨hl,a,ys,k,ea.1,Zy3 _ Zz5,hv⟩
   ·rw[Zy2 (Ne.symm hn)]at en
    obtain⟨l,d,zs,j',g1,g2,g3⟩:=r.R.lists n ws en ni
    refine⟨l,d,zs,j',g1,ZbQ g2 fun g2=>Zy3 _ (Zy9.mpr ⟨g2,?_⟩),g3⟩
    have:d≠a:=fun e=>by
     subst e
     exact hn ((List.getElem?_inj (Zz6.mp g1).1 r.R.nd).mp (g1.trans ea.1.symm))
    simpa using this
  ·refine ZbQ (r.R.tups q hq) fun g2=>Zy3 _ (Zy9.mpr ⟨g2,?_⟩)
   have:q.1≠a:=fun e=>by
    have hk:=Zks (r.R.kind q hq)
    have g:=r.get (r.R.tups q hq)
    rw[e,hN.1]at g
    have c:=congrArg Obj.cls (Option.some.inj g)
    exact hk.1 c.symm
   simpa using this
  ·have hn:n≠i:=fun q=>ea.2 _ hi' q
   rw[Zy2 (Ne.symm hn)]at en
   obtain⟨l,d,od,zs,g1,g2,g3,g4⟩:=r.R.objs n ws fs en hi'
   refine⟨l,d,od,zs,g1,ZbQ g2 fun g2=>Zy3 _ (Zy9.mpr ⟨g2,?_⟩),g3,g4⟩
   have:d≠a:=fun e=>by
    subst e
    exact hn ((List.getElem?_inj (Zz6.mp g1).1 r.R.nd).mp (g1.trans ea.1.symm))
   simpa using this
 ·refine Zz2 _ (Zy9.mpr ⟨r.frIn q hq,?_⟩)
  have:q.1≠a:=fun e=>r.frOff q hq (e▸hm)
  simpa using this
 ·refine Zz2 _ (Zy9.mpr ⟨r.clIn q hq,?_⟩)
  have:q.1≠a:=fun e=>r.clOff q hq (e▸hm)
  simpa using this
theorem Rep.change{Γ:Cx}{W:Wd}{ρ:Lc}{H:Hp}{fr:List (Addr×Obj)}{h h':Heap}{i:Nat}{a:Addr}{vs us:List V}{ys:List Value}{k:Nat}(r:Rep Γ W ρ H fr h)(i0:i≠0)(e:H[i]?=some vs)(ea:W.At i a)(sb:Heap.SameBut a h h')(ha:h'.get? a=some (Zbf ys k))(hv:VRs W us ys)(hl:us.length≤ZX):
  Rep Γ W ρ (H.set i us) fr h':=by
 obtain⟨m,c,led,r⟩:=r
 obtain⟨_,b,xs,j,h1,h2,h3⟩:=r.R.lists i vs e ea.2
 rw[ea.1]at h1
 cases h1
 have h2:=r.inLed i0 ea.1 h2
 have hN:=r.N _ h2
 have keep:∀q∈led,q.1≠a→h'.get? q.1=some q.2:=fun q hq hn=>sb.extBut _ _ hn (r.N q hq).1
 refine r.changed (k:=k) i0 e ea ⟨r.F.ns.sameBut sb (Ne.symm hN.2.1),fun b o eb=>sb.extBut b o (fun q=>?_) (r.F.keep b o eb),r.F.above⟩ (fun q hq=>?_) hv hl
 ·subst q
  rw[hN.2.2]at eb
  cases eb
 ·rcases Zz7.mp hq with e | hq
  ·subst e
   exact⟨ha,hN.2⟩
  ·obtain⟨h1,h2⟩:=List.mem_filter.mp hq
   exact⟨keep q h1 (by simpa using h2),(r.N q h1).2⟩
theorem Rep.swap{Γ:Cx}{W:Wd}{ρ:Lc}{H:Hp}{fs fs' fr:List (Addr×Obj)}{h h':Heap}(r:Rep Γ W ρ H (fs++fr) h)(ap:∀q∈fs,∀t∈fr,q.1≠t.1)(keep:∀b o,b∉fs.map (·.1)→h.get? b=some o→h'.get? b=some o)(new:∀q∈fs',h'.get? q.1=some q.2∧q.1∈fs.map (·.1)): Rep Γ W ρ H (fs'++fr) h':=by
 obtain⟨m,c,led,r⟩:=r
 have inF:∀q∈fs,q∈fs++fr:=fun q hq=>Zy7 _ hq
 have nL:∀a∈fs.map (·.1),a≠Γ.L∧Γ.h₀.get? a=none:=fun a ha=>by
  obtain⟨q,hq,e⟩:=Zz11.mp ha
  exact e▸(r.N q (r.frIn q (inF q hq))).2
 have kp:∀q∈led,q.1∉fs.map (·.1)→h'.get? q.1=some q.2:=fun q hq hn=>keep _ _ hn (r.N q hq).1
 refine⟨m,c,fs'++led.filter (fun q=>decide (q.1∉fs.map (·.1))),⟨⟨?_,fun b o e=>?_,r.F.above⟩,fun q hq=>?_,⟨r.R.len,r.R.nd,fun i vs e ni=>?_,fun q hq=>?_,r.R.kind,fun i vs fn e hi=>?_,r.R.inlt,r.R.iuni⟩,r.sc,r.sc0,fun q hq=>?_,fun q hq=>?_,fun q hq=>?_,r.clOff,fun q hq t ht=>?_,fun q hq t ht=>?_,r.clTup,r.own⟩⟩
 ·obtain⟨o,es,ep,h1,h2⟩:=r.F.ns
  exact⟨o,es,ep,keep _ _ (fun q=>(nL _ q).1 rfl) h1,h2⟩
 ·refine keep b o (fun q=>?_) (r.F.keep b o e)
  rw[(nL b q).2]at e
  cases e
 ·rcases Zz8.mp hq with hq | hq
  ·obtain⟨h1,h2⟩:=new q hq
   exact⟨h1,nL _ h2⟩
  ·obtain⟨h1,h2⟩:=List.mem_filter.mp hq
   exact⟨kp q h1 (by simpa using h2),(r.N q h1).2⟩
 ·obtain⟨l,a,xs,k,h1,h2,h3⟩:=r.R.lists i vs e ni
  refine⟨l,a,xs,k,h1,ZbQ h2 fun h2=>List.mem_append_right _ (Zy9.mpr ⟨h2,?_⟩),h3⟩
  have:a∉fs.map (·.1):=fun q=>by
   obtain⟨t,ht,e⟩:=Zz11.mp q
   exact r.frOff t (inF t ht) (e▸Zy4 h1)
  simpa using this
 ·refine ZbQ (r.R.tups q hq) fun h2=>List.mem_append_right _ (Zy9.mpr ⟨h2,?_⟩)
  have:q.1∉fs.map (·.1):=fun z=>by
   obtain⟨t,ht,e⟩:=Zz11.mp z
   exact r.frTup t (inF t ht) q hq e
  simpa using this
 ·obtain⟨l,a,od,xs,h1,h2,h3⟩:=r.R.objs i vs fn e hi
  refine⟨l,a,od,xs,h1,ZbQ h2 fun h2=>List.mem_append_right _ (Zy9.mpr ⟨h2,?_⟩),h3⟩
  have:a∉fs.map (·.1):=fun q=>by
   obtain⟨t,ht,e⟩:=Zz11.mp q
   exact r.frOff t (inF t ht) (e▸Zy4 h1)
  simpa using this
 ·rcases Zz8.mp hq with hq | hq
  ·exact Zz4 _ hq
  ·refine Zz3 _ (Zy9.mpr ⟨r.frIn q (Zz3 _ hq),?_⟩)
   have:q.1∉fs.map (·.1):=fun z=>by
    obtain⟨t,ht,e⟩:=Zz11.mp z
    exact ap t ht q hq e
   simpa using this
 ·rcases Zz8.mp hq with hq | hq
  ·obtain⟨t,ht,e⟩:=Zz11.mp (new q hq).2
   exact e▸r.frOff t (inF t ht)
  ·exact r.frOff q (Zz3 _ hq)
 ·refine Zz3 _ (Zy9.mpr ⟨r.clIn q hq,?_⟩)
  have:q.1∉fs.map (·.1):=fun z=>by
   obtain⟨t,ht,e⟩:=Zz11.mp z
   exact r.apart q hq t (inF t ht) e.symm
  simpa using this
 ·rcases Zz8.mp ht with ht | ht
  ·obtain⟨u,hu,e⟩:=Zz11.mp (new t ht).2
   exact e▸r.apart q hq u (inF u hu)
  ·exact r.apart q hq t (Zz3 _ ht)
 ·rcases Zz8.mp hq with hq | hq
  ·obtain⟨u,hu,e⟩:=Zz11.mp (new q hq).2
   exact e▸r.frTup u (inF u hu) t ht
  ·exact r.frTup q (Zz3 _ hq) t ht
theorem Rep.more{Γ:Cx}{W:Wd}{ρ:Lc}{H:Hp}{fs fr:List (Addr×Obj)}{h h':Heap}(r:Rep Γ W ρ H fr h)(up:∀b o,h.get? b=some o→h'.get? b=some o)(new:∀q∈fs,h'.get? q.1=some q.2∧h.objs.size≤q.1): Rep Γ W ρ H (fs++fr) h'∧∀q∈fs,∀t∈fr,q.1≠t.1:=by
 have r':=r.grown up
 obtain⟨m,c,led,r⟩:=r
 have lt:∀q∈W.sc::led,q.1<h.objs.size:=fun q hq=>Heap.lt_size (r.get hq)
 have ne:∀q∈fs,∀t∈W.sc::led,q.1≠t.1:=fun q hq t ht=>Nat.ne_of_gt (Nat.lt_of_lt_of_le (lt t ht) (new q hq).2)
 refine⟨⟨m,c,fs++led,⟨⟨?_,fun b o e=>up b o (r.F.keep b o e),r.F.above⟩,fun q hq=>?_,r.R.mono fun q hq=>Zc9 hq fun x hx=>List.mem_append_right _ hx,r.sc,r.sc0,fun q hq=>?_,fun q hq=>?_,fun q hq=>List.mem_append_right _ (r.clIn q hq),r.clOff,fun q hq t ht=>?_,fun q hq t ht=>?_,r.clTup,r.own⟩⟩,fun q hq t ht=>ne q hq t (Zz2 _ (r.frIn t ht))⟩
 ·obtain⟨o,es,ep,h1,h2⟩:=r.F.ns
  exact⟨o,es,ep,up _ _ h1,h2⟩
 ·rcases Zz8.mp hq with hq | hq
  ·obtain⟨h1,h2⟩:=new q hq
   refine⟨h1,fun e=>?_,?_⟩
   ·exact absurd (e▸r.F.ns.lt) (Nat.not_lt.mpr h2)
   ·cases e:Γ.h₀.get? q.1 with
    | none=>rfl
    | some o=>exact absurd (Heap.lt_size (r.F.keep _ _ e)) (Nat.not_lt.mpr h2)
  ·exact⟨up _ _ (r.N q hq).1,(r.N q hq).2⟩
 ·rcases Zz8.mp hq with hq | hq
  ·exact Zz4 _ hq
  ·exact Zz3 _ (r.frIn q hq)
 ·rcases Zz8.mp hq with hq | hq
  ·intro hm
   obtain⟨o,ho⟩:=r.piIn _ hm
   exact ne q hq _ ho rfl
  ·exact r.frOff q hq
 ·rcases Zz8.mp ht with ht | ht
  ·exact(ne t ht q (Zz2 _ (r.clIn q hq))).symm
  ·exact r.apart q hq t ht
 ·rcases Zz8.mp hq with hq | hq
  ·exact ne q hq t (r.R.tups t ht)
  ·exact r.frTup q hq t ht
theorem Rep.less{Γ:Cx}{W:Wd}{ρ:Lc}{H:Hp}{fs fr:List (Addr×Obj)}{h:Heap}(r:Rep Γ W ρ H fs h)(sub:∀q∈fr,q∈fs): Rep Γ W ρ H fr h:=by
 obtain⟨m,c,led,r⟩:=r
 exact⟨m,c,led,⟨r.F,r.N,r.R,r.sc,r.sc0,fun q hq=>r.frIn q (sub q hq),fun q hq=>r.frOff q (sub q hq),r.clIn,r.clOff,fun q hq t ht=>r.apart q hq t (sub t ht),fun q hq=>r.frTup q (sub q hq),r.clTup,r.own⟩⟩
theorem Rep.frAt{Γ:Cx}{W:Wd}{ρ:Lc}{H:Hp}{fr:List (Addr×Obj)}{h:Heap}{q:Addr×Obj}(r:Rep Γ W ρ H fr h)(hq:q∈fr): h.get? q.1=some q.2:=by
 obtain⟨m,c,led,r⟩:=r
 exact(r.N q (r.frIn q hq)).1
end PM
end
section
namespace PM
open PySem PyProof.Rows PyProof
noncomputable abbrev Ex:=Lc→Hp→Option (V×Hp)
noncomputable abbrev Z7:=Lc→Hp→Option (List V×Hp)
noncomputable abbrev Ts:=Lc→Hp→Option (Bool×Hp)
noncomputable abbrev Zex(Γ:Cx)(W:Wd)(ρ:Lc)(H:Hp)(fr:List (Addr×Obj))(s:Shared)(Q:Value→Shared→Prop)(v:V): Prop:=
 ∀(W':Wd) (h':Heap) (tk':Nat) (x:Value),W.Le W'→Rep Γ W' ρ H fr h'→VR W' v x→Q x { s with heap:=h',toks:=tk' }
noncomputable abbrev Zg1(Γ:Cx)(W:Wd)(ρ:Lc)(H:Hp)(fr:List (Addr×Obj))(s:Shared)(Q:Bool→Shared→Prop)(b:Bool): Prop:=
 ∀(W':Wd) (h':Heap) (tk':Nat),W.Le W'→Rep Γ W' ρ H fr h'→Q b { s with heap:=h',toks:=tk' }
section
variable (prog:Program) (w:World)
noncomputable def J(Γ:Cx)(e:Expr)(f:Ex): Prop:=∀(W:Wd) (ρ:Lc) (H:Hp) (fr:List (Addr×Obj)) (s:Shared) (Q E:Value→Shared→Prop) (v:V) (H':Hp),
 Rep Γ W ρ H fr s.heap→f ρ H=some (v,H')→Zex Γ W ρ H' fr s Q v→wpAny (model prog w) Γ.A (eval e Γ.env) Q E s
noncomputable def Js(Γ:Cx)(es:List Expr)(f:Z7): Prop:=∀(pos:Pos) (W:Wd) (ρ:Lc) (H:Hp) (fr:List (Addr×Obj)) (s:Shared) (Q:List Value→Shared→Prop) (E:Value→Shared→Prop) (vs:List V) (H':Hp),
 Rep Γ W ρ H fr s.heap→f ρ H=some (vs,H')→(∀(W':Wd) (h':Heap) (tk':Nat) (xs:List Value),W.Le W'→Rep Γ W' ρ H' fr h'→VRs W' vs xs→Q xs { s with heap:=h',toks:=tk' })→wpAny (model prog w) Γ.A (spliced (backTo pos (starEach es Γ.env))) Q E s
noncomputable def JT(Γ:Cx)(e:Expr)(f:Ts): Prop:=∀(W:Wd) (ρ:Lc) (H:Hp) (fr:List (Addr×Obj)) (s:Shared) (Q:Bool→Shared→Prop) (E:Value→Shared→Prop) (b:Bool) (H':Hp),
 Rep Γ W ρ H fr s.heap→f ρ H=some (b,H')→Zg1 Γ W ρ H' fr s Q b→wpAny (model prog w) Γ.A (isTrue e Γ.env (eval e Γ.env)) Q E s
noncomputable def Op2(m:Value→Value→Sem Value)(o:V→V→Hp→Option (V×Hp)): Prop:=∀(Γ:Cx) (W:Wd) (ρ:Lc) (H:Hp) (fr:List (Addr×Obj)) (s:Shared) (Q E:Value→Shared→Prop) (a b:V) (x y:Value) (v:V) (H':Hp),
 Rep Γ W ρ H fr s.heap→VR W a x→VR W b y→o a b H=some (v,H')→Zex Γ W ρ H' fr s Q v→wpAny (model prog w) Γ.A (m x y) Q E s
noncomputable def Op1(m:Value→Sem Value)(o:V→Hp→Option (V×Hp)): Prop:=∀(Γ:Cx) (W:Wd) (ρ:Lc) (H:Hp) (fr:List (Addr×Obj)) (s:Shared) (Q E:Value→Shared→Prop) (a:V) (x:Value) (v:V) (H':Hp),
 Rep Γ W ρ H fr s.heap→VR W a x→o a H=some (v,H')→Zex Γ W ρ H' fr s Q v→wpAny (model prog w) Γ.A (m x) Q E s
noncomputable def OpT(m:Value→Sem Bool)(o:V→Hp→Option Bool): Prop:=∀(Γ:Cx) (W:Wd) (ρ:Lc) (H:Hp) (fr:List (Addr×Obj)) (s:Shared) (Q:Bool→Shared→Prop) (E:Value→Shared→Prop) (a:V) (x:Value) (b:Bool),
 Rep Γ W ρ H fr s.heap→VR W a x→o a H=some b→Zg1 Γ W ρ H fr s Q b→wpAny (model prog w) Γ.A (m x) Q E s
end
noncomputable def Zd(k:Int): Ex:=fun _ H=>some (.int k,H)
noncomputable def ZaT: Ex:=fun _ H=>some (.none,H)
noncomputable def ZbH(b:Bool): Ex:=fun _ H=>some (.bool b,H)
noncomputable def ZG(x:Str): Ex:=fun _ H=>some (.str x,H)
noncomputable def Za(i:Nat): Ex:=fun ρ H=>(ρ i).map fun v=>(v,H)
noncomputable def Zc(o:V→V→Hp→Option (V×Hp))(f g:Ex): Ex:=fun ρ H=>(f ρ H).bind fun p=>(g ρ p.2).bind fun q=>o p.1 q.1 q.2
noncomputable def ZM(o:V→Hp→Option (V×Hp))(f:Ex): Ex:=fun ρ H=>(f ρ H).bind fun p=>o p.1 p.2
noncomputable def eIf(t:Ts)(f g:Ex): Ex:=fun ρ H=>(t ρ H).bind fun p=>if p.1 then f ρ p.2 else g ρ p.2
noncomputable def Ze: Z7:=fun _ H=>some ([],H)
noncomputable def Zb(f:Ex)(g:Z7): Z7:=fun ρ H=>(f ρ H).bind fun p=>(g ρ p.2).bind fun q=>some (p.1::q.1,q.2)
noncomputable def Z8(g:Z7): Ex:=fun ρ H=>(g ρ H).bind fun p=>if p.1.length≤ZX then some (.tup p.1,p.2)else none
noncomputable def ZU(g:Z7): Ex:=fun ρ H=>(g ρ H).bind fun p=>if p.1.length≤ZX then some (.ref p.2.length,p.2++[p.1])else none
noncomputable def Zak: V→Hp→Option Bool
 | .bool b,_=>some b
 | .int i,_=>some (i != 0)
 | .none,_=>some false
 | _,_=>none
noncomputable def Zs(f:Ex): Ts:=fun ρ H=>(f ρ H).bind fun p=>(Zak p.1 p.2).map fun b=>(b,p.2)
noncomputable def Zca(t:Ts): Ts:=fun ρ H=>(t ρ H).map fun p=>(!p.1,p.2)
noncomputable def ZZ: Ts:=fun _ H=>some (true,H)
noncomputable def Zdq: Ts:=fun _ H=>some (false,H)
noncomputable def Zav(t u:Ts): Ts:=fun ρ H=>(t ρ H).bind fun p=>if p.1 then u ρ p.2 else some (false,p.2)
noncomputable def tOr(t u:Ts): Ts:=fun ρ H=>(t ρ H).bind fun p=>if p.1 then some (true,p.2)else u ρ p.2
noncomputable def tIf(t u v:Ts): Ts:=fun ρ H=>(t ρ H).bind fun p=>if p.1 then u ρ p.2 else v ρ p.2
noncomputable def ZqT(f:Ex): Ex:=fun ρ H=>(f ρ H).bind fun p=>(Zak p.1 p.2).map fun b=>(.bool (!b),p.2)
noncomputable def Zey(f g:Ex): Ex:=fun ρ H=>(f ρ H).bind fun p=>(Zak p.1 p.2).bind fun b=>if b then g ρ p.2 else some p
noncomputable def eOr(f g:Ex): Ex:=fun ρ H=>(f ρ H).bind fun p=>(Zak p.1 p.2).bind fun b=>if b then some p else g ρ p.2
section
variable {prog:Program} {w:World} {Γ:Cx}
theorem J.int(k:Int)(n:Nat)(pos:Pos): J prog w Γ (.Constant (.int k) n pos) (Zd k):=fun W ρ H fr s Q E v H' r e post=>by
 cases e
 exact wpAny_Constant_int (post W s.heap _ _ (.refl W) r (.int k _))
theorem J.none(n:Nat)(pos:Pos): J prog w Γ (.Constant .none n pos) ZaT:=fun W ρ H fr s Q E v H' r e post=>by
 cases e
 exact wpAny_Constant_none (post W s.heap s.toks _ (.refl W) r .none)
theorem J.bool(b:Bool)(n:Nat)(pos:Pos): J prog w Γ (.Constant (.bool b) n pos) (ZbH b):=fun W ρ H fr s Q E v H' r e post=>by
 cases e
 exact wpAny_Constant_bool (post W s.heap s.toks _ (.refl W) r (.bool b))
theorem J.str(x:Str)(n:Nat)(pos:Pos): J prog w Γ (.Constant (.str x) n pos) (ZG x):=fun W ρ H fr s Q E v H' r e post=>by
 cases e
 exact wpAny_Constant_str (post W s.heap _ _ (.refl W) r (.str x _))
theorem Zt{e1 e2:Expr}{op:Operator}{pos:Pos}{f g:Ex}{o:V→V→Hp→Option (V×Hp)}(h1:J prog w Γ e1 f)(h2:J prog w Γ e2 g)(ho:Op2 prog w (binaryOp op) o): J prog w Γ (.BinOp e1 op e2 pos) (Zc o f g):=by
 intro W ρ H fr s Q E v H' r hf post
 obtain⟨p,e1,hf⟩:=Zz0.mp hf
 obtain⟨q,e2,e3⟩:=Zz0.mp hf
 refine wpAny_BinOp (h1 W ρ H fr s _ E _ _ r e1 fun W1 k1 t1 x l1 r1 x1=>?_)
 refine h2 W1 ρ _ fr _ _ E _ _ r1 e2 fun W2 k2 t2 y l2 r2 y2=>?_
 exact ho Γ W2 ρ _ fr _ Q E _ _ x y v H' r2 (x1.mono l2) y2 e3 fun W3 k3 t3 z l3 r3 z3=>post W3 k3 t3 z ((l1.trans l2).trans l3) r3 z3
theorem Zcy{e1 e2:Expr}{op:CmpOp}{pos:Pos}{f g:Ex}{o:V→V→Hp→Option (V×Hp)}(h1:J prog w Γ e1 f)(h2:J prog w Γ e2 g)(ho:Op2 prog w (compareOp op) o)(hm:behindInMarks op e2=false:=by with_unfolding_all rfl): J prog w Γ (.Compare e1 [op] [e2] pos) (Zc o f g):=by
 intro W ρ H fr s Q E v H' r hf post
 obtain⟨p,e1,hf⟩:=Zz0.mp hf
 obtain⟨q,e2,e3⟩:=Zz0.mp hf
 refine wpAny_Compare1 (h1 W ρ H fr s _ E _ _ r e1 fun W1 k1 t1 x l1 r1 x1=>?_) hm
 refine h2 W1 ρ _ fr _ _ E _ _ r1 e2 fun W2 k2 t2 y l2 r2 y2=>?_
 exact ho Γ W2 ρ _ fr _ Q E _ _ x y v H' r2 (x1.mono l2) y2 e3 fun W3 k3 t3 z l3 r3 z3=>post W3 k3 t3 z ((l1.trans l2).trans l3) r3 z3
theorem J.un{e1:Expr}{op:UnaryOp}{pos:Pos}{f:Ex}{o:V→Hp→Option (V×Hp)}(h1:J prog w Γ e1 f)(ho:Op1 prog w (unaryOp op) o): J prog w Γ (.UnaryOp op e1 pos) (ZM o f):=by
 intro W ρ H fr s Q E v H' r hf post
 obtain⟨p,e1,hf⟩:=Zz0.mp hf
 refine wpAny_UnaryOp (h1 W ρ H fr s _ E _ _ r e1 fun W1 k1 t1 x l1 r1 x1=>?_)
 exact ho Γ W1 ρ _ fr _ Q E _ x v H' r1 x1 hf fun W3 k3 t3 z l3 r3 z3=>post W3 k3 t3 z (l1.trans l3) r3 z3
theorem truth: OpT prog w truthy Zak:=by
 intro Γ W ρ H fr s Q E a x b r hx ho post
 cases hx with
 | none=>cases ho;exact truthy_none (post W s.heap s.toks (.refl W) r)
 | bool c=>cases ho;exact fun _ _ _=>post W s.heap s.toks (.refl W) r
 | int i t=>cases ho;exact P.truthy_int (post W s.heap s.toks (.refl W) r)
 | str _ _=>first|exact Zx0 ho|cases ho
 | tup _ _ _=>first|exact Zx0 ho|cases ho
 | ref _=>first|exact Zx0 ho|cases ho
 | obj _ _ _ _=>first|exact Zx0 ho|cases ho
theorem ZqC{e1 e2:Expr}{pos:Pos}{f g:Ex}(h1:J prog w Γ e1 f)(h2:J prog w Γ e2 g): J prog w Γ (.BoolOp .And [e1,e2] pos) (Zey f g):=by
 intro W ρ H fr s Q E v H' r hf post
 obtain⟨p,e1,hf⟩:=Zz0.mp hf
 obtain⟨b,e2,e3⟩:=Zz0.mp hf
 refine wpAny_And2 (h1 W ρ H fr s _ E _ _ r e1 fun W1 k1 t1 x l1 r1 x1=>?_)
 refine truth Γ W1 ρ _ fr _ _ E _ x b r1 x1 e2 fun W2 k2 t2 l2 r2=>?_
 cases b with
 | true=>exact h2 W2 ρ _ fr _ Q E v H' r2 e3 fun W3 k3 t3 z l3 r3 z3=>post W3 k3 t3 z ((l1.trans l2).trans l3) r3 z3
 | false=>
  cases e3
  exact post W2 k2 t2 x (l1.trans l2) r2 (x1.mono l2)
theorem Zn: Js prog w Γ [] Ze:=fun pos W ρ H fr s Q E vs H' r hf post=>by
 cases hf
 exact wpAny_items_nil (post W s.heap s.toks [] (.refl W) r .nil)
theorem Zaa{e:Expr}{es:List Expr}{f:Ex}{g:Z7}(h1:J prog w Γ e f)(h2:Js prog w Γ es g)(he:starEach (e::es) Γ.env=(false,eval e Γ.env)::starEach es Γ.env:=by rfl): Js prog w Γ (e::es) (Zb f g):=by
 intro pos W ρ H fr s Q E vs H' r hf post
 obtain⟨p,e1,hf⟩:=Zz0.mp hf
 obtain⟨q,e2,e3⟩:=Zz0.mp hf
 cases e3
 refine wpAny_items_cons (h1 W ρ H fr s _ E _ _ r e1 fun W1 k1 t1 x l1 r1 x1=>?_) he
 exact h2 pos W1 ρ _ fr _ _ E _ _ r1 e2 fun W2 k2 t2 ys l2 r2 y2=>post W2 k2 t2 _ (l1.trans l2) r2 (.cons (x1.mono l2) y2)
theorem J.tup{es:List Expr}{k:Nat}{pos:Pos}{g:Z7}(h:Js prog w Γ es g): J prog w Γ (.Tuple es k pos) (Z8 g):=by
 intro W ρ H fr s Q E v H' r hf post
 obtain⟨p,e1,hf⟩:=Zz0.mp hf
 by_cases hl:p.1.length≤ZX
 ·rw[if_pos hl]at hf
  cases hf
  refine wpAny_Tuple (h pos W ρ H fr s _ E _ _ r e1 fun W1 k1 t1 xs l1 r1 x1=>⟨Zcr (by rw[x1.length];exact hl),?_⟩)
  obtain⟨W2,l2,r2,v2⟩:=r1.tuple (k:=0) x1 hl
  exact post W2 _ _ _ (l1.trans l2) r2 v2
 ·rw[if_neg hl]at hf
  cases hf
theorem J.list{es:List Expr}{pos:Pos}{g:Z7}(h:Js prog w Γ es g): J prog w Γ (.List es pos) (ZU g):=by
 intro W ρ H fr s Q E v H' r hf post
 obtain⟨p,e1,hf⟩:=Zz0.mp hf
 by_cases hl:p.1.length≤ZX
 ·rw[if_pos hl]at hf
  cases hf
  refine wpAny_List (h pos W ρ H fr s _ E _ _ r e1 fun W1 k1 t1 xs l1 r1 x1=>⟨Zcr (by rw[x1.length];exact hl),?_⟩)
  obtain⟨W2,l2,r2,v2⟩:=r1.list (k:=0) x1 hl
  exact post W2 _ _ _ (l1.trans l2) r2 v2
 ·rw[if_neg hl]at hf
  cases hf
theorem Zei{e:Expr}{pos:Pos}{t:Ts}(h:JT prog w Γ e t): JT prog w Γ (.UnaryOp .Not e pos) (Zca t):=by
 intro W ρ H fr s Q E b H' r hf post
 obtain⟨p,e1,e2⟩:=Zz1.mp hf
 cases e2
 exact isTrue_not (h W ρ H fr s _ E _ _ r e1 post)
noncomputable def JA(prog:Program)(w:World)(Γ:Cx)(op:BoolOp)(es:List Expr)(f:Ts): Prop:=∀(W:Wd) (ρ:Lc) (H:Hp) (fr:List (Addr×Obj)) (s:Shared) (Q:Bool→Shared→Prop) (E:Value→Shared→Prop) (b:Bool) (H':Hp),
 Rep Γ W ρ H fr s.heap→f ρ H=some (b,H')→Zg1 Γ W ρ H' fr s Q b→wpAny (model prog w) Γ.A (allTrue op es Γ.env) Q E s
theorem ZdP: JA prog w Γ .And [] ZZ:=fun W ρ H fr s Q E b H' r hf post=>by
 cases hf
 exact wpAny_allTrue_And_nil (post W s.heap s.toks (.refl W) r)
theorem Zgk: JA prog w Γ .Or [] Zdq:=fun W ρ H fr s Q E b H' r hf post=>by
 cases hf
 exact wpAny_allTrue_Or_nil (post W s.heap s.toks (.refl W) r)
theorem ZbM{e:Expr}{es:List Expr}{t u:Ts}(h1:JT prog w Γ e t)(h2:JA prog w Γ .And es u): JA prog w Γ .And (e::es) (Zav t u):=by
 intro W ρ H fr s Q E b H' r hf post
 obtain⟨p,e1,hf⟩:=Zz0.mp hf
 refine wpAny_allTrue_And_cons (h1 W ρ H fr s _ E _ _ r e1 fun W1 k1 t1 l1 r1=>?_)
 obtain⟨c,H1⟩:=p
 cases c with
 | true=>exact h2 W1 ρ _ fr _ Q E b H' r1 hf fun W3 k3 t3 l3 r3=>post W3 k3 t3 (l1.trans l3) r3
 | false=>
  cases hf
  exact post W1 k1 t1 l1 r1
theorem ZcV{e:Expr}{es:List Expr}{t u:Ts}(h1:JT prog w Γ e t)(h2:JA prog w Γ .Or es u): JA prog w Γ .Or (e::es) (tOr t u):=by
 intro W ρ H fr s Q E b H' r hf post
 obtain⟨p,e1,hf⟩:=Zz0.mp hf
 refine wpAny_allTrue_Or_cons (h1 W ρ H fr s _ E _ _ r e1 fun W1 k1 t1 l1 r1=>?_)
 obtain⟨c,H1⟩:=p
 cases c with
 | false=>exact h2 W1 ρ _ fr _ Q E b H' r1 hf fun W3 k3 t3 l3 r3=>post W3 k3 t3 (l1.trans l3) r3
 | true=>
  cases hf
  exact post W1 k1 t1 l1 r1
theorem Zcs{op:BoolOp}{es:List Expr}{pos:Pos}{t:Ts}(h:JA prog w Γ op es t): JT prog w Γ (.BoolOp op es pos) t:=fun W ρ H fr s Q E b H' r hf post=>wpAny_isTrue_BoolOp (h W ρ H fr s Q E b H' r hf post)
theorem JT.val{e:Expr}{f:Ex}(h:J prog w Γ e f)(he:isTrue e Γ.env (eval e Γ.env)=(do let v ←eval e Γ.env;standAt e.pos;holding [v] (truthy v)):=by rfl): JT prog w Γ e (Zs f):=by
 intro W ρ H fr s Q E b H' r hf post
 obtain⟨p,e1,hf⟩:=Zz0.mp hf
 obtain⟨c,e2,e3⟩:=Zz1.mp hf
 cases e3
 refine isTrue_plain (h W ρ H fr s _ E _ _ r e1 fun W1 k1 t1 x l1 r1 x1=>?_) he
 exact truth Γ W1 ρ _ fr _ _ E _ x b r1 x1 e2 fun W2 k2 t2 l2 r2=>post W2 k2 t2 (l1.trans l2) r2
theorem ZW{e1 e2:Expr}{op:CmpOp}{pos:Pos}{f g:Ex}{o:V→V→Hp→Option (V×Hp)}(h1:J prog w Γ e1 f)(h2:J prog w Γ e2 g)(ho:Op2 prog w (compareOp op) o)(hm:behindInMarks op e2=false:=by with_unfolding_all rfl): JT prog w Γ (.Compare e1 [op] [e2] pos) (Zs (Zc o f g)):=by
 intro W ρ H fr s Q E b H' r hf post
 obtain⟨pp,e0,hf0⟩:=Zz0.mp hf
 obtain⟨c,e4,e5⟩:=Zz1.mp hf0
 cases e5
 obtain⟨p,e1,hf⟩:=Zz0.mp e0
 obtain⟨q,e2,e3⟩:=Zz0.mp hf
 refine wpAny_isTrue_Compare1 (h1 W ρ H fr s _ E _ _ r e1 fun W1 k1 t1 x l1 r1 x1=>?_) hm
 refine h2 W1 ρ _ fr _ _ E _ _ r1 e2 fun W2 k2 t2 y l2 r2 y2=>?_
 refine ho Γ W2 ρ _ fr _ _ E _ _ x y _ _ r2 (x1.mono l2) y2 e3 fun W3 k3 t3 z l3 r3 z3=>?_
 exact truth Γ W3 ρ _ fr _ _ E _ z b r3 z3 e4 fun W4 k4 t4 l4 r4=>post W4 k4 t4 (((l1.trans l2).trans l3).trans l4) r4
end
end PM
end
section
namespace PM
open PySem PyProof.Rows PyProof
noncomputable def Zb8(a b:Int): Bool:=!(decide (Builtin.Int.intBits a>shortFactorBits) && decide (Builtin.Int.intBits b>shortFactorBits) && Builtin.Int.intTooBig (Builtin.Int.intBits a+Builtin.Int.intBits b))
theorem ZnB{a b:Int}(h:Zb8 a b=true): IntMulOk a b:=by
 unfold Zb8 at h
 unfold IntMulOk
 intro c
 rw[c]at h
 cases h
noncomputable def Zaf: V→V→Hp→Option (V×Hp)
 | .int a,.int b,H=>some (.int (a-b),H)
 | _,_,_=>none
noncomputable def oDiv: V→V→Hp→Option (V×Hp)
 | .int a,.int b,H=>if b≠0∧Builtin.divisionGoesByPylong a b=false then some (.int (a.fdiv b),H)else none
 | _,_,_=>none
noncomputable def oMod: V→V→Hp→Option (V×Hp)
 | .int a,.int b,H=>if b≠0 then some (.int (a.fmod b),H)else none
 | _,_,_=>none
noncomputable def oPow: V→V→Hp→Option (V×Hp)
 | .int a,.int b,H=>if 0≤b∧(Builtin.Int.intBits a:Int)*b≤2 ^ 27 then some (.int (a ^ b.toNat),H)else none
 | _,_,_=>none
noncomputable def Zbl: V→Hp→Option (V×Hp)
 | .int a,H=>some (.int (-a),H)
 | _,_=>none
noncomputable def ZfI(p:Int→Int→Bool): V→V→Hp→Option (V×Hp)
 | .int a,.int b,H=>some (.bool (p a b),H)
 | _,_,_=>none
noncomputable def oLt:=ZfI fun a b=>decide (a<b)
noncomputable def oLe:=ZfI fun a b=>decide (a≤b)
noncomputable def oGt:=ZfI fun a b=>decide (b<a)
noncomputable def oGe:=ZfI fun a b=>decide (b≤a)
section
variable {prog:Program} {w:World}
theorem ok_sub: Op2 prog w (binaryOp .Sub) Zaf:=by
 intro Γ W ρ H fr s Q E a b x y v H' r hx hy ho post
 cases hx <;> first|exact Zx0 ho|(cases ho;done)| skip
 cases hy <;> first|exact Zx0 ho|(cases ho;done)| skip
 cases ho
 exact PySem.P.sub_int (post W s.heap _ _ (.refl W) r (.int _ _))
theorem ZaE: Op2 prog w (binaryOp .Mod) oMod:=by
 intro Γ W ρ H fr s Q E a b x y v H' r hx hy ho post
 cases hx <;> first|exact Zx0 ho|(cases ho;done)| skip
 cases hy <;> first|exact Zx0 ho|(cases ho;done)| skip
 rename_i i t j u
 simp only[oMod]at ho
 by_cases hb:j≠0
 ·rw[if_pos hb]at ho
  cases ho
  exact mod_int' hb (post W s.heap _ _ (.refl W) r (.int _ _))
 ·rw[if_neg hb]at ho
  cases ho
theorem Zb6: Op2 prog w (binaryOp .FloorDiv) oDiv:=by
 intro Γ W ρ H fr s Q E a b x y v H' r hx hy ho post
 cases hx <;> first|exact Zx0 ho|(cases ho;done)| skip
 cases hy <;> first|exact Zx0 ho|(cases ho;done)| skip
 rename_i i t j u
 simp only[oDiv]at ho
 by_cases hb:j≠0∧Builtin.divisionGoesByPylong i j=false
 ·rw[if_pos hb]at ho
  cases ho
  exact floordiv_int hb.1 (post W s.heap _ _ (.refl W) r (.int _ _)) (.inl hb.2)
 ·rw[if_neg hb]at ho
  cases ho
theorem ZgM: Op2 prog w (binaryOp .Pow) oPow:=by
 intro Γ W ρ H fr s Q E a b x y v H' r hx hy ho post
 cases hx <;> first|exact Zx0 ho|(cases ho;done)| skip
 cases hy <;> first|exact Zx0 ho|(cases ho;done)| skip
 rename_i i t j u
 simp only[oPow]at ho
 by_cases hb:0≤j∧(Builtin.Int.intBits i:Int)*j≤2 ^ 27
 ·rw[if_pos hb]at ho
  cases ho
  exact pow_int hb.1 hb.2 (post W s.heap _ _ (.refl W) r (.int _ _))
 ·rw[if_neg hb]at ho
  cases ho
theorem ok_neg: Op1 prog w (unaryOp .USub) Zbl:=by
 intro Γ W ρ H fr s Q E a x v H' r hx ho post
 cases hx <;> first|exact Zx0 ho|(cases ho;done)| skip
 cases ho
 exact PySem.P.neg_int (post W s.heap _ _ (.refl W) r (.int _ _))
theorem Zcz: Op2 prog w (compareOp .Lt) oLt:=by
 intro Γ W ρ H fr s Q E a b x y v H' r hx hy ho post
 cases hx <;> first|exact Zx0 ho|(cases ho;done)| skip
 cases hy <;> first|exact Zx0 ho|(cases ho;done)| skip
 cases ho
 exact PySem.P.lt_int (post W s.heap s.toks _ (.refl W) r (.bool _))
theorem ZqD: Op2 prog w (compareOp .LtE) oLe:=by
 intro Γ W ρ H fr s Q E a b x y v H' r hx hy ho post
 cases hx <;> first|exact Zx0 ho|(cases ho;done)| skip
 cases hy <;> first|exact Zx0 ho|(cases ho;done)| skip
 cases ho
 exact PySem.P.le_int (post W s.heap s.toks _ (.refl W) r (.bool _))
theorem Zeo: Op2 prog w (compareOp .Gt) oGt:=by
 intro Γ W ρ H fr s Q E a b x y v H' r hx hy ho post
 cases hx <;> first|exact Zx0 ho|(cases ho;done)| skip
 cases hy <;> first|exact Zx0 ho|(cases ho;done)| skip
 cases ho
 exact PySem.P.gt_int (post W s.heap s.toks _ (.refl W) r (.bool _))
end
end PM
end
section
namespace PM
open PySem PyProof.Rows PyProof
noncomputable def Zez(f:V→Option PyData): List V→Option (List PyData)
 | []=>some []
 | v::vs=>(f v).bind fun d=>(Zez f vs).bind fun ds=>some (d::ds)
noncomputable def toD(H:Hp): Nat→V→Option PyData
 | _,.none=>some .none
 | _,.bool b=>some (.bool b)
 | _,.int i=>some (.int i)
 | _,.str x=>some (.str x)
 | n+1,.tup vs=>(Zez (toD H n) vs).map .tuple
 | n+1,.ref a=>H[a]?.bind fun vs=>(Zez (toD H n) vs).map .list
 | 0,.tup _=>none
 | 0,.ref _=>none
 | _,.obj _ _=>none
theorem Zib{W:Wd}{h:Heap}{f:V→Option PyData}(ih:∀v x d,VR W v x→f v=some d→∃as,Reads h x d as): ∀{vs:List V} {xs:List Value} {ds:List PyData},VRs W vs xs→Zez f vs=some ds→∃as,ReadsAll h xs ds as
 | _,_,_,.nil,e=>by
  cases e
  exact⟨_,.nil⟩
 | _,_,_,.cons a r,e=>by
  obtain⟨d,e1,e⟩:=Zz0.mp e
  obtain⟨ds,e2,e3⟩:=Zz0.mp e
  cases e3
  obtain⟨as,h1⟩:=ih _ _ _ a e1
  obtain⟨bs,h2⟩:=Zib ih r e2
  exact⟨_,.cons h1 h2⟩
theorem Zed{Γ:Cx}{W:Wd}{ρ:Lc}{H:Hp}{fr:List (Addr×Obj)}{h:Heap}(r:Rep Γ W ρ H fr h): ∀(n:Nat) (v:V) (x:Value) (d:PyData),VR W v x→toD H n v=some d→∃as,Reads h x d as:=by
 intro n
 induction n with
 | zero=>
  intro v x d hv e
  cases hv with
  | none=>cases e;exact⟨_,.none⟩
  | bool b=>cases e;exact⟨_,.bool b⟩
  | int i t=>cases e;exact⟨_,.int i t⟩
  | str y t=>cases e;exact⟨_,.str y t⟩
  | tup _ _ _=>first|exact Zx0 e|cases e
  | ref _=>first|exact Zx0 e|cases e
  | obj _ _ _ _=>first|exact Zx0 e|cases e
 | succ n ih=>
  intro v x d hv e
  cases hv with
  | none=>cases e;exact⟨_,.none⟩
  | bool b=>cases e;exact⟨_,.bool b⟩
  | int i t=>cases e;exact⟨_,.int i t⟩
  | str y t=>cases e;exact⟨_,.str y t⟩
  | @tup vs a xs k hm hl hs=>
   obtain⟨ds,e1,e2⟩:=Zz1.mp e
   subst e2
   obtain⟨as,h1⟩:=Zib ih hs e1
   exact⟨_,.tuple (r.tupAt hm) rfl rfl (by simpa using h1)⟩
  | @ref i a ea=>
   obtain⟨vs,e0,e⟩:=Zz0.mp e
   obtain⟨ds,e1,e2⟩:=Zz1.mp e
   subst e2
   obtain⟨hl,xs,k,hg,hs⟩:=r.at e0 ea
   obtain⟨as,h1⟩:=Zib ih hs e1
   exact⟨_,.list hg rfl rfl (by simpa using h1)⟩
  | obj _ _ _ _=>first|exact Zx0 e|cases e
noncomputable def Zbg: Nat:=40
noncomputable def ZcN(a b:V)(H:Hp): Option Bool:=(toD H Zbg a).bind fun d=>(toD H Zbg b).bind fun e=>if SeqAt.shaped d=true∧SeqAt.shaped e=true then some (PyData.eqv d e)else none
noncomputable def ZN(a b:V)(H:Hp): Option (V×Hp):=(ZcN a b H).map fun c=>(.bool c,H)
noncomputable def oNe(a b:V)(H:Hp): Option (V×Hp):=(ZcN a b H).map fun c=>(.bool (!c),H)
noncomputable def oIs: V→V→Hp→Option (V×Hp)
 | .none,.none,H=>some (.bool true,H)
 | .bool _,.none,H=>some (.bool false,H)
 | .int _,.none,H=>some (.bool false,H)
 | .str _,.none,H=>some (.bool false,H)
 | .tup _,.none,H=>some (.bool false,H)
 | .ref _,.none,H=>some (.bool false,H)
 | .obj _ _,.none,H=>some (.bool false,H)
 | _,_,_=>none
noncomputable def ZdX(a b:V)(H:Hp): Option (V×Hp):=(oIs a b H).bind fun p=>match p.1 with | .bool c=>some (.bool (!c),p.2) | _=>none
section
variable {prog:Program} {w:World}
theorem ok_eq: Op2 prog w (compareOp .Eq) ZN:=by
 intro Γ W ρ H fr s Q E a b x y v H' r hx hy ho post
 obtain⟨c,e1,e2⟩:=Zz1.mp ho
 cases e2
 obtain⟨d,h1,e1⟩:=Zz0.mp e1
 obtain⟨e,h2,e1⟩:=Zz0.mp e1
 by_cases hs:SeqAt.shaped d=true∧SeqAt.shaped e=true
 ·rw[if_pos hs]at e1
  cases e1
  obtain⟨as,R1⟩:=Zed r Zbg a x d hx h1
  obtain⟨bs,R2⟩:=Zed r Zbg b y e hy h2
  exact eq_dataH R1 R2 hs.1 hs.2 (by have:=Γ.hu;lia) (post W s.heap s.toks _ (.refl W) r (.bool _))
 ·rw[if_neg hs]at e1
  cases e1
theorem Zfu: Op2 prog w (compareOp .NotEq) oNe:=by
 intro Γ W ρ H fr s Q E a b x y v H' r hx hy ho post
 obtain⟨c,e1,e2⟩:=Zz1.mp ho
 cases e2
 obtain⟨d,h1,e1⟩:=Zz0.mp e1
 obtain⟨e,h2,e1⟩:=Zz0.mp e1
 by_cases hs:SeqAt.shaped d=true∧SeqAt.shaped e=true
 ·rw[if_pos hs]at e1
  cases e1
  obtain⟨as,R1⟩:=Zed r Zbg a x d hx h1
  obtain⟨bs,R2⟩:=Zed r Zbg b y e hy h2
  exact ne_dataH R1 R2 hs.1 hs.2 (by have:=Γ.hu;lia) (post W s.heap s.toks _ (.refl W) r (.bool _))
 ·rw[if_neg hs]at e1
  cases e1
theorem Zxb{a b:V}{H:Hp}{p:V×Hp}:oIs a b H=some p→b=.none:=by cases b <;> first|exact fun _=>rfl|(cases a <;> exact Zx0)
theorem Zdu: Op2 prog w (compareOp .Is) oIs:=by
 intro Γ W ρ H fr s Q E a b x y v H' r hx hy ho post
 have:=Zxb ho;subst this;cases hy
 refine PySem.is_none ?_
 cases hx <;> (cases ho;exact post W s.heap s.toks _ (.refl W) r (.bool _))
theorem ZnC: Op2 prog w (compareOp .IsNot) ZdX:=by
 intro Γ W ρ H fr s Q E a b x y v H' r hx hy ho post
 obtain⟨p,h,_⟩:=Zz0.mp ho
 have:=Zxb h;subst this;cases hy
 refine PySem.isNot_none ?_
 cases hx <;> (cases ho;exact post W s.heap s.toks _ (.refl W) r (.bool _))
end
end PM
end
section
namespace PM
open PySem PyProof.Rows PyProof
noncomputable def Zf: V→V→Hp→Option (V×Hp)
 | .ref a,.int k,H=>H[a]?.bind fun vs=>(seqIndex? k vs.length).bind fun j=>vs[j]?.map fun v=>(v,H)
 | .tup vs,.int k,H=>(seqIndex? k vs.length).bind fun j=>vs[j]?.map fun v=>(v,H)
 | _,_,_=>none
theorem Zj3{k:Int}{n j:Nat}(h:seqIndex? k n=some j): j<n∧(k:Int)<n∧-(n:Int)≤k∧(0≤k→k.toNat=j)∧(k<0→(k+n).toNat=j):=by
 unfold seqIndex? at h
 by_cases c:k<0
 ·simp only[c,if_true]at h
  split at h
  ·rename_i d
   simp at d h
   lia
  ·first|exact Zx0 h|cases h
 ·simp only[c,if_false]at h
  split at h
  ·rename_i d
   simp at d h
   lia
  ·first|exact Zx0 h|cases h
section
variable {prog:Program} {w:World} {Γ:Cx}
theorem Zq{e1 e2:Expr}{pos:Pos}{f g:Ex}(h1:J prog w Γ e1 f)(h2:J prog w Γ e2 g)(hs:∀a k u,subscripted e2 false (.ref a) (.int k u)=operate [.ref a,.int k u] (getItem (.ref a) (.int k u)):=by intros;with_unfolding_all rfl): J prog w Γ (.Subscript e1 e2 pos) (Zc Zf f g):=by
 intro W ρ H fr s Q E v H' r hf post
 obtain⟨p,e1,hf⟩:=Zz0.mp hf
 obtain⟨q,e2,e3⟩:=Zz0.mp hf
 refine Subscript_ (h1 W ρ H fr s _ E _ _ r e1 fun W1 k1 t1 x l1 r1 x1=>?_)
 refine h2 W1 ρ _ fr _ _ E _ _ r1 e2 fun W2 k2 t2 y l2 r2 y2=>?_
 have x2:=x1.mono l2
 obtain⟨v1,H1⟩:=p
 obtain⟨v2,H2⟩:=q
 simp only at e3 r2 x2 y2
 cases y2 <;> first | (cases x2 <;> cases e3;done) | skip
 rename_i k u
 cases x2 <;> first|exact Zx0 e3|(cases e3;done)| skip
 ·rename_i vs a xs kk hm hl hv
  obtain⟨j,hj,e4⟩:=Zz0.mp e3
  obtain⟨z,hz,e5⟩:=Zz1.mp e4
  cases e5
  obtain⟨z',hz',rz⟩:=hv.at hz
  have hx:xs.length=vs.length:=hv.length
  have hb:=Zj3 hj
  rw[Zac]at hl
  have it:IsTup k2 a xs.toArray:=⟨_,r2.tupAt hm,rfl,kk,rfl⟩
  exact item_tupleT it (by lia) (by lia) (by rw[hx];exact hj) hz' (post W2 k2 t2 z' (l1.trans l2) r2 rz) (hs _ _ _)
 ·rename_i i a ea
  obtain⟨vs,hvs,e3⟩:=Zz0.mp e3
  obtain⟨j,hj,e4⟩:=Zz0.mp e3
  obtain⟨z,hz,e5⟩:=Zz1.mp e4
  cases e5
  obtain⟨hl,xs,kk,hg,hv⟩:=r2.at hvs ea
  obtain⟨z',hz',rz⟩:=hv.at hz
  have hx:xs.length=vs.length:=hv.length
  have hb:=Zj3 hj
  rw[Zac]at hl
  have isl:k2.IsList a xs.toArray:=⟨_,hg,rfl,kk,rfl⟩
  refine tail_any (s:={ s with heap:=k2,toks:=t2 }) isl.typeIs slot_list_getitem.lookup ?_ (hs _ _ _)
  by_cases hk:0≤k
  ·exact wpAny_getItem_list isl hk (by lia) (by rw[hb.2.2.2.1 hk];simpa using hz') (post W2 k2 t2 z' (l1.trans l2) r2 rz)
  ·refine wpAny_getItem_list_neg isl (by lia) (by simp;lia) (by lia) ?_ (post W2 k2 t2 z' (l1.trans l2) r2 rz)
   have:=hb.2.2.2.2 (by omega)
   rw[←hx]at this
   simpa [this]using hz'
end
noncomputable def Zby{α:Type}(vs:List α)(lo hi:Option Int): List α:=(sliceRange (sliceBounds lo hi none vs.length).1 (sliceBounds lo hi none vs.length).2.1 (sliceBounds lo hi none vs.length).2.2).filterMap fun i=>vs[i]?
theorem VRs.pick{W:Wd}{vs:List V}{xs:List Value}(h:VRs W vs xs)(l:List Nat): VRs W (l.filterMap fun i=>vs[i]?) (l.filterMap fun i=>xs[i]?):=by
 induction l with
 | nil=>exact .nil
 | cons i l ih=>
  simp only[List.filterMap_cons]
  have hl:=h.length
  cases e:vs[i]? with
  | none=>
   have:xs[i]?=none:=by rw[List.getElem?_eq_none_iff]at e ⊢;lia
   rw[this]
   exact ih
  | some v=>
   obtain⟨x,hx,hr⟩:=h.at e
   rw[hx]
   exact .cons hr ih
theorem ZnD{α:Type}(vs:List α)(lo hi:Option Int): (Zby vs lo hi).length≤vs.length:=by
 unfold Zby
 refine Nat.le_trans (List.length_filterMap_le _ _) ?_
 refine sliceRange_length_le _ _ _ _ (fun _=>?_) fun c=>?_
 ·unfold sliceBounds
  cases lo <;> cases hi <;> simp <;> omega
 ·exact absurd (by unfold sliceBounds;simp) c
theorem ZnE{α:Type}(vs:List α)(a:Nat): ∀m:Nat,a+m≤vs.length→((List.range m).map fun k=>a+k).filterMap (fun i=>vs[i]?)=(vs.drop a).take m:=by
 intro m
 induction m with
 | zero=>intro _;simp
 | succ m ih=>
  intro h
  rw[List.range_succ,List.map_append,List.filterMap_append,ih (by lia),List.take_add_one]
  congr 1
  simp only[List.map_cons,List.map_nil,List.filterMap_cons,List.filterMap_nil,List.getElem?_drop]
  cases e:vs[a+m]? with
  | none=>rw[List.getElem?_eq_none_iff]at e;lia
  | some v=>rfl
theorem Zgu{α:Type}(vs:List α)(lo hi:Option Int){a b:Nat}(ha:(sliceBounds lo hi none vs.length).1=(a:Int))(hb:(sliceBounds lo hi none vs.length).2.1=(b:Int))(h:b≤vs.length): Zby vs lo hi=(vs.drop a).take (b-a):=by
 have hc:(sliceBounds lo hi none vs.length).2.2=1:=by unfold sliceBounds;rfl
 unfold Zby
 rw[ha,hb,hc]
 have e:sliceRange (a:Int) (b:Int) 1=(List.range (b-a)).map fun k=>a+k:=by
  unfold sliceRange
  simp only[show(1:Int)>0 from by decide,if_true]
  by_cases c:(a:Int)<b
  ·rw[if_pos c]
   have:((b:Int)-a+1-1) / 1=((b-a:Nat):Int):=by lia
   rw[this]
   simp only[Int.toNat_natCast]
   refine List.map_congr_left fun k _=>?_
   lia
  ·rw[if_neg c]
   have:b-a=0:=by lia
   rw[this]
   rfl
 rw[e]
 by_cases c:a≤b
 ·exact ZnE vs a (b-a) (by lia)
 ·have:b-a=0:=by lia
  rw[this]
  simp
theorem Zkg{α:Type}(vs:List α){k:Int}{a:Nat}(e:k=(a:Int)): Zby vs (some k) none=vs.drop a:=by
 by_cases h:a≤vs.length
 ·rw[Zgu vs (some k) none (a:=a) (b:=vs.length) (by unfold sliceBounds;simp;lia) (by unfold sliceBounds;simp) (Zz10 _)]
  rw[List.take_of_length_le (by simp)]
 ·rw[Zgu vs (some k) none (a:=vs.length) (b:=vs.length) (by unfold sliceBounds;simp;lia) (by unfold sliceBounds;simp) (Zz10 _)]
  simp
  lia
theorem Zop{α:Type}(vs:List α){k:Int}{a:Nat}(e:k=(a:Int)): Zby vs none (some k)=vs.take a:=by
 by_cases h:a≤vs.length
 ·rw[Zgu vs none (some k) (a:=0) (b:=a) (by unfold sliceBounds;simp) (by unfold sliceBounds;simp;lia) h]
  simp
 ·rw[Zgu vs none (some k) (a:=0) (b:=vs.length) (by unfold sliceBounds;simp) (by unfold sliceBounds;simp;lia) (Zz10 _)]
  rw[List.drop_zero,Nat.sub_zero,List.take_of_length_le (Zz10 _),List.take_of_length_le (by lia)]
noncomputable def Zfv: Option V→Option (Option Int)
 | none=>some none
 | some (.int k)=>some (some k)
 | _=>none
noncomputable abbrev Pt:=Lc→Hp→Option (Option V×Hp)
noncomputable def Zdv: Pt:=fun _ H=>some (none,H)
noncomputable def Zdw(f:Ex): Pt:=fun ρ H=>(f ρ H).map fun p=>(some p.1,p.2)
noncomputable def Zc0(f:Ex)(lo hi:Pt): Ex:=fun ρ H=>(f ρ H).bind fun p=>(lo ρ p.2).bind fun q=>(hi ρ q.2).bind fun u=>(Zfv q.1).bind fun a=>(Zfv u.1).bind fun b=>match p.1 with
 | .ref i=>u.2[i]?.bind fun vs=>some (.ref u.2.length,u.2++[Zby vs a b])
 | _=>none
inductive VP(W:Wd): Option V→Value→Prop where
 | none:VP W none .none
 | some {v:V} {x:Value}:VR W v x→VP W (some v) x
theorem VP.mono{W W':Wd}{v:Option V}{x:Value}(l:W.Le W')(h:VP W v x): VP W' v x:=by
 cases h with
 | none=>exact .none
 | some h=>exact .some (h.mono l)
theorem VP.part{W:Wd}{v:Option V}{x:Value}{k:Option Int}(h:VP W v x)(e:Zfv v=Option.some k): IsPart x k:=by
 cases h with
 | none=>cases e;exact .none
 | some h=>cases h <;> cases e;exact .int _ _
noncomputable def JP(prog:Program)(w:World)(Γ:Cx)(e:Option Expr)(f:Pt): Prop:=∀(W:Wd) (ρ:Lc) (H:Hp) (fr:List (Addr×Obj)) (s:Shared) (Q E:Value→Shared→Prop) (v:Option V) (H':Hp),
 Rep Γ W ρ H fr s.heap→f ρ H=some (v,H')→(∀(W':Wd) (h':Heap) (tk':Nat) (x:Value),W.Le W'→Rep Γ W' ρ H' fr h'→VP W' v x→Q x { s with heap:=h',toks:=tk' })→wpAny (model prog w) Γ.A (evalPart e Γ.env) Q E s
section
variable {prog:Program} {w:World} {Γ:Cx}
theorem JP.none: JP prog w Γ none Zdv:=fun W ρ H fr s Q E v H' r hf post=>by
 cases hf
 exact wpAny_evalPart_none (post W s.heap s.toks _ (.refl W) r .none)
theorem JP.some{e:Expr}{f:Ex}(h:J prog w Γ e f): JP prog w Γ (some e) (Zdw f):=fun W ρ H fr s Q E v H' r hf post=>by
 obtain⟨p,e1,e2⟩:=Zz1.mp hf
 cases e2
 exact wpAny_evalPart_some (h W ρ H fr s _ E _ _ r e1 fun W1 k1 t1 x l1 r1 x1=>post W1 k1 t1 x l1 r1 (.some x1))
theorem Zgv{e:Expr}{lo hi:Option Expr}{p pos:Pos}{f:Ex}{a b:Pt}(h:J prog w Γ e f)(hlo:JP prog w Γ lo a)(hhi:JP prog w Γ hi b)(ht:∀o r,letTemporaryGo e o r=pure ():=by intro _ _;rfl): J prog w Γ (.Subscript e (.Slice lo hi Option.none p) pos) (Zc0 f a b):=by
 intro W ρ H fr s Q E v H' r hf post
 obtain⟨p,e1,hf⟩:=Zz0.mp hf
 obtain⟨q,e2,hf⟩:=Zz0.mp hf
 obtain⟨u,e3,hf⟩:=Zz0.mp hf
 obtain⟨ka,e4,hf⟩:=Zz0.mp hf
 obtain⟨kb,e5,hf⟩:=Zz0.mp hf
 refine wpAny_Subscript_list_slice (h W ρ H fr s _ E _ _ r e1 fun W1 k1 t1 x l1 r1 x1=>?_) ht
 refine hlo W1 ρ _ fr _ _ E _ _ r1 e2 fun W2 k2 t2 y l2 r2 y2=>?_
 refine hhi W2 ρ _ fr _ _ E _ _ r2 e3 fun W3 k3 t3 z l3 r3 z3=>?_
 have x3:=x1.mono (l2.trans l3)
 obtain⟨v1,H1⟩:=p
 simp only at hf x3
 cases x3 with
 | none=>first|exact Zx0 hf|cases hf
 | bool _=>first|exact Zx0 hf|cases hf
 | int _ _=>first|exact Zx0 hf|cases hf
 | str _ _=>first|exact Zx0 hf|cases hf
 | tup _ _ _=>first|exact Zx0 hf|cases hf
 | obj _ _ _ _=>first|exact Zx0 hf|cases hf
 | @ref i a ea=>
  obtain⟨vs,hvs,e6⟩:=Zz0.mp hf
  cases e6
  obtain⟨hl,xs,kk,hg,hv⟩:=r3.at hvs ea
  have isl:k3.IsList a xs.toArray:=⟨_,hg,rfl,kk,rfl⟩
  refine⟨a,xs.toArray,ka,kb,rfl,isl,Zcr (by simp[hv.length];exact hl),(y2.mono l3).part e4,z3.part e5,?_⟩
  have hp:VRs W3 (Zby vs ka kb) (Zby xs ka kb):=by
   unfold Zby
   rw[hv.length]
   exact hv.pick _
  have hx:slicePick xs.toArray ka kb Option.none=(Zby xs ka kb).toArray:=by
   unfold slicePick Zby
   simp
  obtain⟨W4,l4,r4,v4⟩:=(r3.push { cls:=.type "slice",data:=.fields #[y,z,.none] }).list (k:=0) hp (Nat.le_trans (ZnD vs ka kb) hl)
  rw[hx]
  have:=post W4 _ t3 _ (((l1.trans l2).trans l3).trans l4) r4 v4
  rw[Heap.size_push]at this
  exact this
end
end PM
end
section
namespace PM
open PySem PyProof.Rows PyProof
noncomputable def Nm(prog:Program)(w:World)(Γ:Cx)(x:Str)(v:Value): Prop:=∀(pos:Pos) (m:Str→Option Value) (s:Shared) (Q E:Value→Shared→Prop),Fr Γ.h₀ Γ.L s.heap m→Q v s→wpAny (model prog w) Γ.A (eval (.Name x pos) Γ.env) Q E s
theorem Nm.use{prog:Program}{w:World}{Γ:Cx}{x:Str}{y:Value}(h:Nm prog w Γ x y){pos:Pos}{W:Wd}{ρ:Lc}{H:Hp}{fr:List (Addr×Obj)}{s:Shared}{Q E:Value→Shared→Prop}(r:Rep Γ W ρ H fr s.heap)(q:Q y s): wpAny (model prog w) Γ.A (eval (.Name x pos) Γ.env) Q E s:=by
 obtain⟨m,c,led,r⟩:=r
 exact h pos m s Q E r.F q
noncomputable def OpN(prog:Program)(w:World)(m:List Value→Sem Value)(o:List V→Hp→Option (V×Hp)): Prop:=∀(Γ:Cx) (W:Wd) (ρ:Lc) (H:Hp) (fr:List (Addr×Obj)) (s:Shared) (Q E:Value→Shared→Prop) (as:List V) (xs:List Value) (v:V) (H':Hp),
 Rep Γ W ρ H fr s.heap→VRs W as xs→o as H=some (v,H')→Zex Γ W ρ H' fr s Q v→wpAny (model prog w) Γ.A (m xs) Q E s
noncomputable def Zh(o:List V→Hp→Option (V×Hp))(g:Z7): Ex:=fun ρ H=>(g ρ H).bind fun p=>o p.1 p.2
section
variable {prog:Program} {w:World} {Γ:Cx}
theorem Zay{x:Str}{np pos:Pos}{id:String}{e:Expr}{es:List Expr}{g:Z7}{o:List V→Hp→Option (V×Hp)}(hn:Nm prog w Γ x (.builtin id))(h:Js prog w Γ (e::es) g)(ho:OpN prog w (fun xs=>call (.builtin id) xs) o)
  (he:starEach (e::es) Γ.env=(false,eval e Γ.env)::starEach es Γ.env:=by rfl) (hp:∀pos,(backTo pos (starEach es Γ.env)).any (·.1)=false:=by intro _;rfl):J prog w Γ (.Call (.Name x np) (e::es) [] pos) (Zh o g):=by
 intro W ρ H fr s Q E v H' r hf post
 obtain⟨p,e1,hf⟩:=Zz0.mp hf
 refine wpAny_Call_ofName (hn.use r ?_)
 refine callWith_builtin1 (h pos W ρ H fr s _ E _ _ r e1 fun W1 k1 t1 xs l1 r1 x1=>?_) he (hp pos)
 exact ho Γ W1 ρ _ fr _ Q E _ xs v H' r1 x1 hf fun W2 k2 t2 y l2 r2 y2=>post W2 k2 t2 y (l1.trans l2) r2 y2
theorem Zdn{x:Str}{np pos:Pos}{T:String}{e:Expr}{es:List Expr}{g:Z7}{o:List V→Hp→Option (V×Hp)}(hn:Nm prog w Γ x (.type T))(h:Js prog w Γ (e::es) g)(ho:OpN prog w (fun xs=>call (.type T) xs) o)
  (he:starEach (e::es) Γ.env=(false,eval e Γ.env)::starEach es Γ.env:=by rfl) (hp:∀pos,(backTo pos (starEach es Γ.env)).any (·.1)=false:=by intro _;rfl):J prog w Γ (.Call (.Name x np) (e::es) [] pos) (Zh o g):=by
 intro W ρ H fr s Q E v H' r hf post
 obtain⟨p,e1,hf⟩:=Zz0.mp hf
 refine wpAny_Call_ofName (hn.use r ?_)
 refine PySem.Pv.callWith_type1 (h pos W ρ H fr s _ E _ _ r e1 fun W1 k1 t1 xs l1 r1 x1=>?_) he (hp pos)
 exact ho Γ W1 ρ _ fr _ Q E _ xs v H' r1 x1 hf fun W2 k2 t2 y l2 r2 y2=>post W2 k2 t2 y (l1.trans l2) r2 y2
end
noncomputable def ZiM: V→String
 | .none=>"NoneType"
 | .bool _=>"bool"
 | .int _=>"int"
 | .str _=>"str"
 | .tup _=>"tuple"
 | .ref _=>"list"
 | .obj _ _=>"object"
noncomputable def Zb7(T:String)(v:V): Bool:=ZiM v == T || (T == "int" && ZiM v == "bool")
noncomputable def Zfw: V→Bool
 | .obj _ _=>true
 | _=>false
noncomputable def eIs(T:String)(f:Ex): Ex:=fun ρ H=>(f ρ H).bind fun p=>if Zfw p.1 then none else some (.bool (Zb7 T p.1),p.2)
section
variable {prog:Program} {w:World} {Γ:Cx}
theorem isinst{T:String}(hT:T="int"∨T="bool"∨T="list"∨T="tuple"){W:Wd}{ρ:Lc}{H:Hp}{fr:List (Addr×Obj)}{s:Shared}{Q E:Value→Shared→Prop}{a:V}{x:Value}(r:Rep Γ W ρ H fr s.heap)(hx:VR W a x)(hin:∀i,a=.ref i→i<H.length)(hob:Zfw a=false)
  (post:∀tk,Q (.bool (Zb7 T a)) { s with toks:=tk }):wpAny (model prog w) Γ.A (call (.builtin "isinstance") [x,.type T]) Q E s:=by
 cases hx with
 | none=>
      rcases hT with e | e | e | e <;> subst e
      ·exact call_isinstance (isinstance_false_none (by decide +kernel) F.isi_meta_int (by rw[isSubtype_type];kernel_rfl)) (post _)
      ·exact call_isinstance (isinstance_false_none (by decide +kernel) F.isi_meta_bool (by rw[isSubtype_type];kernel_rfl)) (post _)
      ·exact call_isinstance (isinstance_false_none (by decide +kernel) F.isi_meta_list (by rw[isSubtype_type];kernel_rfl)) (post _)
      ·exact call_isinstance (isinstance_false_none (by decide +kernel) F.isi_meta_tuple (by rw[isSubtype_type];kernel_rfl)) (post _)
 | bool b=>
       rcases hT with e | e | e | e <;> subst e
       ·exact IsiPair.bool_int (post s.toks)
       ·exact IsiPair.bool_bool (post s.toks)
       ·exact IsiPair.bool_list (post _)
       ·exact IsiPair.bool_tuple (post _)
 | int i t=>
       rcases hT with e | e | e | e <;> subst e
       ·exact IsiPair.int_int (post s.toks)
       ·exact IsiPair.int_bool (post _)
       ·exact IsiPair.int_list (post _)
       ·exact IsiPair.int_tuple (post _)
 | str y t=>
       rcases hT with e | e | e | e <;> subst e
       ·exact IsiPair.str_int (post _)
       ·exact IsiPair.str_bool (post _)
       ·exact IsiPair.str_list (post _)
       ·exact IsiPair.str_tuple (post _)
 | tup hm hl hs=>
  have hg:=r.tupAt hm
  rcases hT with e | e | e | e <;> subst e
  ·exact IsiPair.tuple_int hg rfl (post _)
  ·exact IsiPair.tuple_bool hg rfl (post _)
  ·exact IsiPair.tuple_list hg rfl (post _)
  ·exact IsiPair.tuple_tuple hg rfl (post s.toks)
 | @ref i a ea=>
  obtain⟨hl,xs,k,hg,hv⟩:=r.at (Zy1 (hin i rfl)) ea
  rcases hT with e | e | e | e <;> subst e
  ·exact IsiPair.list_int hg rfl (post _)
  ·exact IsiPair.list_bool hg rfl (post _)
  ·exact IsiPair.list_list hg rfl (post s.toks)
  ·exact IsiPair.list_tuple hg rfl (post _)
 | obj _ _ _ _=>first|exact Zx0 hob|cases hob
end
theorem Rep.refIn{Γ:Cx}{W:Wd}{ρ:Lc}{H:Hp}{fr:List (Addr×Obj)}{h:Heap}{i:Nat}{x:Value}(r:Rep Γ W ρ H fr h)(hx:VR W (.ref i) x): i<H.length:=by
 obtain⟨m,c,led,r⟩:=r
 cases hx with
 | ref e=>rw[←r.R.len];exact(Zz6.mp e.1).1
section
variable {prog:Program} {w:World} {Γ:Cx}
theorem ZcW{np tp pos:Pos}{x y:Str}{T:String}{e:Expr}{f:Ex}(hn:Nm prog w Γ x (.builtin "isinstance"))(hy:Nm prog w Γ y (.type T))(hT:T="int"∨T="bool"∨T="list"∨T="tuple")(h:J prog w Γ e f)
  (he:starEach [e,.Name y tp] Γ.env=(false,eval e Γ.env)::starEach [.Name y tp] Γ.env:=by rfl) (hp:∀pos,(backTo pos (starEach [.Name y tp] Γ.env)).any (·.1)=false:=by intro _;rfl):J prog w Γ (.Call (.Name x np) [e,.Name y tp] [] pos) (eIs T f):=by
 intro W ρ H fr s Q E v H' r hf post
 obtain⟨p,e1,e2⟩:=Zz0.mp hf
 by_cases hob:Zfw p.1=true
 ·rw[if_pos hob]at e2;cases e2
 rw[if_neg hob]at e2
 cases e2
 refine wpAny_Call_ofName (hn.use r ?_)
 refine callWith_builtin1 (wpAny_items_cons (h W ρ H fr s _ E _ _ r e1 fun W1 k1 t1 z l1 r1 z1=>?_) he) he (hp pos)
 refine wpAny_items_cons (hy.use (s:={ s with heap:=k1,toks:=t1 }) r1 ?_)
 refine wpAny_items_nil ?_
 exact PM.isinst hT r1 z1 (fun i e=>by rw[e]at z1;exact r1.refIn z1) (by simpa using hob) fun tk=>post W1 k1 tk _ l1 r1 (.bool _)
end
noncomputable def Z3: List V→Hp→Option (V×Hp)
 | [.ref a],H=>H[a]?.map fun vs=>(.int vs.length,H)
 | [.tup vs],H=>some (.int vs.length,H)
 | _,_=>none
noncomputable def ZbI: List V→Hp→Option (V×Hp)
 | [.int a],H=>some (.int (if a<0 then -a else a),H)
 | _,_=>none
noncomputable def Zfx: List V→Hp→Option (V×Hp)
 | [.int a,.int b],H=>some (.int (if b>a then b else a),H)
 | _,_=>none
noncomputable def Zd3: List V→Hp→Option (V×Hp)
 | [.int a,.int b],H=>some (.int (if b<a then b else a),H)
 | _,_=>none
noncomputable def Zc1: List V→Option (List Int)
 | []=>some []
 | .int k::vs=>(Zc1 vs).map fun ks=>k::ks
 | _::_=>none
noncomputable def ZfJ: List V→Hp→Option (V×Hp)
 | [.ref a],H=>H[a]?.bind fun vs=>(Zc1 vs).map fun ks=>(.int ks.sum,H)
 | _,_=>none
theorem VRs.one{W:Wd}{v:V}{xs:List Value}(h:VRs W [v] xs): ∃x,xs=[x]∧VR W v x:=by
 cases h with
 | cons a b=>cases b;exact⟨_,rfl,a⟩
theorem VRs.two{W:Wd}{v u:V}{xs:List Value}(h:VRs W [v,u] xs): ∃x y,xs=[x,y]∧VR W v x∧VR W u y:=by
 cases h with
 | cons a b=>obtain⟨y,e,r⟩:=b.one;subst e;exact⟨_,_,rfl,a,r⟩
theorem Zmr{W:Wd}: ∀{vs:List V} {xs:List Value} {ks:List Int},VRs W vs xs→Zc1 vs=some ks→∃ts:Array (Int×Tok),xs.toArray=intItems ts∧preSum (numAt ts) ts.size=ks.sum:=by
 have key:∀{vs:List V} {xs:List Value} {ks:List Int},VRs W vs xs→Zc1 vs=some ks→∃ts:List (Int×Tok),xs=ts.map (fun p=>Value.int p.1 p.2)∧ts.map (·.1)=ks:=by
  intro vs
  induction vs with
  | nil=>intro xs ks h e;cases h;cases e;exact⟨[],rfl,rfl⟩
  | cons v vs ih=>
   intro xs ks h e
   cases h with
   | cons a b=>
    cases v with
    | int i=>
     obtain⟨js,e1,e2⟩:=Zz1.mp e
     subst e2
     cases a with
     | int _ t=>
      obtain⟨ts,h1,h2⟩:=ih b e1
      exact⟨(i,t)::ts,by rw[h1];rfl,by rw[List.map_cons,h2]⟩
    | none=>first|exact Zx0 e|cases e
    | bool _=>first|exact Zx0 e|cases e
    | str _=>first|exact Zx0 e|cases e
    | tup _=>first|exact Zx0 e|cases e
    | ref _=>first|exact Zx0 e|cases e
    | obj _ _=>first|exact Zx0 e|cases e
 intro vs xs ks h e
 obtain⟨ts,h1,h2⟩:=key h e
 refine⟨ts.toArray,by rw[h1];simp[intItems],?_⟩
 rw[preSum_eq,List.take_of_length_le (by simp),←h2]
noncomputable def ZE: V→V→Hp→Option (V×Hp)
 | .int a,.int b,H=>some (.int (a+b),H)
 | .ref a,.ref b,H=>H[a]?.bind fun vs=>H[b]?.bind fun us=>if(vs++us).length≤ZX then some (.ref H.length,H++[vs++us])else none
 | .tup vs,.tup us,H=>if(vs++us).length≤ZX then some (.tup (vs++us),H)else none
 | _,_,_=>none
noncomputable def Zdf(vs:List V): Nat→List V
 | 0=>[]
 | n+1=>Zdf vs n++vs
noncomputable def Zbh: V→V→Hp→Option (V×Hp)
 | .int a,.int b,H=>if Zb8 a b=true then some (.int (a*b),H)else none
 | .ref a,.int k,H=>H[a]?.bind fun vs=>if vs.length*k.toNat≤ZX∧-(2 ^ 63:Int)≤k∧k<2 ^ 63 then some (.ref H.length,H++[Zdf vs k.toNat])else none
 | _,_,_=>none
section
variable {prog:Program} {w:World}
theorem ok_len: OpN prog w (fun xs=>call (.builtin "len") xs) Z3:=by
 intro Γ W ρ H fr s Q E as xs v H' r hx ho post
 unfold Z3 at ho
 split at ho
 ·rename_i a
  obtain⟨vs,e1,e2⟩:=Zz1.mp ho
  cases e2
  obtain⟨x,ex,rx⟩:=hx.one
  subst ex
  cases rx with
  | ref ea=>
   obtain⟨hl,ys,k,hg,hv⟩:=r.at e1 ea
   have isl:s.heap.IsList _ ys.toArray:=⟨_,hg,rfl,k,rfl⟩
   have e3:(ys.toArray.size:Int)=vs.length:=by simp[hv.length]
   rw[Zac]at hl
   refine Calls.call_len_list isl (by rw[e3];lia) ?_
   rw[e3]
   exact post W s.heap _ _ (.refl W) r (.int _ _)
 ·rename_i vs
  cases ho
  obtain⟨x,ex,rx⟩:=hx.one
  subst ex
  cases rx with
  | @tup _ a ys k hm hl hs=>
   have it:IsTup s.heap a ys.toArray:=⟨_,r.tupAt hm,rfl,k,rfl⟩
   have e3:(ys.toArray.size:Int)=vs.length:=by simp[hs.length]
   rw[Zac]at hl
   refine len_tuple it (by rw[e3];lia) ?_
   rw[e3]
   exact post W s.heap _ _ (.refl W) r (.int _ _)
 ·first|exact Zx0 ho|cases ho
theorem ZdY: OpN prog w (fun xs=>call (.builtin "abs") xs) ZbI:=by
 intro Γ W ρ H fr s Q E as xs v H' r hx ho post
 unfold ZbI at ho
 split at ho
 ·first|exact Zx0 ho|cases ho
  obtain⟨x,ex,rx⟩:=hx.one
  subst ex
  cases rx with
  | int i t=>exact call_abs_int fun u tk=>post W s.heap tk _ (.refl W) r (.int _ _)
 ·first|exact Zx0 ho|cases ho
theorem Zoq: OpN prog w (fun xs=>call (.builtin "max") xs) Zfx:=by
 intro Γ W ρ H fr s Q E as xs v H' r hx ho post
 unfold Zfx at ho
 split at ho
 ·first|exact Zx0 ho|cases ho
  obtain⟨x,y,ex,rx,ry⟩:=hx.two
  subst ex
  cases rx with
  | int i t=>
   cases ry with
   | int j u=>
    refine max_two_ints Γ.hh fun h' tk up=>?_
    split
    ·rename_i c
     rw[if_pos c]at post
     exact post W h' tk _ (.refl W) (r.grown up) (.int _ _)
    ·rename_i c
     rw[if_neg c]at post
     exact post W h' tk _ (.refl W) (r.grown up) (.int _ _)
 ·first|exact Zx0 ho|cases ho
theorem Zor: OpN prog w (fun xs=>call (.builtin "min") xs) Zd3:=by
 intro Γ W ρ H fr s Q E as xs v H' r hx ho post
 unfold Zd3 at ho
 split at ho
 ·first|exact Zx0 ho|cases ho
  obtain⟨x,y,ex,rx,ry⟩:=hx.two
  subst ex
  cases rx with
  | int i t=>
   cases ry with
   | int j u=>
    refine min_two_ints Γ.hh fun h' tk up=>?_
    split
    ·rename_i c
     rw[if_pos c]at post
     exact post W h' tk _ (.refl W) (r.grown up) (.int _ _)
    ·rename_i c
     rw[if_neg c]at post
     exact post W h' tk _ (.refl W) (r.grown up) (.int _ _)
 ·first|exact Zx0 ho|cases ho
theorem Zpq: OpN prog w (fun xs=>call (.builtin "sum") xs) ZfJ:=by
 intro Γ W ρ H fr s Q E as xs v H' r hx ho post
 unfold ZfJ at ho
 split at ho
 ·obtain⟨vs,e1,e2⟩:=Zz0.mp ho
  obtain⟨ks,e3,e4⟩:=Zz1.mp e2
  cases e4
  obtain⟨x,ex,rx⟩:=hx.one
  subst ex
  cases rx with
  | ref ea=>
   obtain⟨hl,ys,k,hg,hv⟩:=r.at e1 ea
   obtain⟨ts,h1,h2⟩:=Zmr hv e3
   have isl:s.heap.IsList _ (intItems ts):=⟨_,hg,rfl,k,by rw[←h1]⟩
   refine sum_intListG Γ.hh isl fun h' tk t' up=>?_
   rw[h2]
   exact post W h' tk _ (.refl W) (r.grown up) (.int _ _)
 ·first|exact Zx0 ho|cases ho
theorem ok_add: Op2 prog w (binaryOp .Add) ZE:=by
 intro Γ W ρ H fr s Q E a b x y v H' r hx hy ho post
 unfold ZE at ho
 split at ho
 ·first|exact Zx0 ho|cases ho
  cases hx;cases hy
  exact PySem.P.add_int (post W s.heap _ _ (.refl W) r (.int _ _))
 ·obtain⟨vs,e1,ho⟩:=Zz0.mp ho
  obtain⟨us,e2,ho⟩:=Zz0.mp ho
  by_cases hl:(vs++us).length≤ZX
  ·rw[if_pos hl]at ho
   cases ho
   cases hx with
   | ref ea=>
   cases hy with
   | ref eb=>
   obtain⟨l1,ys,k,hg,hv⟩:=r.at e1 ea
   obtain⟨l2,zs,k2,hg2,hv2⟩:=r.at e2 eb
   obtain⟨m,c,led,r'⟩:=r
   have i1:s.heap.IsList _ ys.toArray:=⟨_,hg,rfl,k,rfl⟩
   have i2:s.heap.IsList _ zs.toArray:=⟨_,hg2,rfl,k2,rfl⟩
   refine add_lists (hsz:=Zcr (by rw[hv.length,hv2.length,←List.length_append];exact hl)) r'.F r'.N i1 i2 fun h' F' N'=>?_
   obtain⟨W2,le2,r2,v2⟩:=r'.newList F' N' r'.off (hv.append hv2) hl
   exact post W2 h' s.toks _ le2 r2 v2
  ·rw[if_neg hl]at ho
   cases ho
 ·rename_i vs us
  by_cases hl:(vs++us).length≤ZX
  ·rw[if_pos hl]at ho
   cases ho
   cases hx with
   | @tup _ a ys k hm h1 hv=>
   cases hy with
   | @tup _ b zs k2 hm2 h2 hv2=>
   have t1:IsTup s.heap a ys.toArray:=⟨_,r.tupAt hm,rfl,k,rfl⟩
   have t2:IsTup s.heap b zs.toArray:=⟨_,r.tupAt hm2,rfl,k2,rfl⟩
   have r0:=r
   obtain⟨m,c,led,r'⟩:=r
   refine add_tuples (hsz:=Zcr (by rw[hv.length,hv2.length,←List.length_append];exact hl)) r'.F r'.N t1 t2 (fun e=>?_) (fun _ e=>?_) fun _ _ h' F' N'=>?_
   ·have:vs=[]:=List.length_eq_zero_iff.mp (by rw[←hv.length,e];rfl)
    subst this
    exact post W s.heap s.toks _ (.refl W) r0 (.tup hm2 h2 hv2)
   ·have:us=[]:=List.length_eq_zero_iff.mp (by rw[←hv2.length,e];rfl)
    subst this
    rw[List.append_nil]at post
    exact post W s.heap s.toks _ (.refl W) r0 (.tup hm h1 hv)
   ·obtain⟨W2,le2,r2,v2⟩:=r'.newTup F' N' r'.off (hv.append hv2) hl
    exact post W2 h' s.toks _ le2 r2 v2
  ·rw[if_neg hl]at ho
   cases ho
 ·first|exact Zx0 ho|cases ho
theorem Zkt(vs:List V): ∀n,(Zdf vs n).length=vs.length*n
 | 0=>rfl
 | n+1=>by rw[Zdf,List.length_append,Zkt vs n,Nat.mul_succ]
theorem ZmX(xs:List Value)(n:Nat): ∀acc:Array Value,(List.foldl (fun x1 x2=>x1++x2) acc (List.replicate n xs.toArray))=acc++(List.replicate n xs).flatten.toArray:=by
 induction n with
 | zero=>intro acc;simp
 | succ n ih=>
  intro acc
  rw[List.replicate_succ,List.foldl_cons,ih,List.replicate_succ,List.flatten_cons]
  simp[Array.append_assoc]
theorem ZkQ{W:Wd}{vs:List V}{xs:List Value}(h:VRs W vs xs): ∀n,VRs W (Zdf vs n) (List.replicate n xs).flatten
 | 0=>.nil
 | n+1=>by
  rw[Zdf,List.replicate_succ',List.flatten_append]
  simp only[List.flatten_cons,List.flatten_nil,List.append_nil]
  exact(ZkQ h n).append h
theorem ok_mul: Op2 prog w (binaryOp .Mult) Zbh:=by
 intro Γ W ρ H fr s Q E a b x y v H' r hx hy ho post
 unfold Zbh at ho
 split at ho
 ·rename_i i j
  by_cases hm:Zb8 i j=true
  ·rw[if_pos hm]at ho
   cases ho
   cases hx;cases hy
   exact PySem.P.mul_int (post W s.heap _ _ (.refl W) r (.int _ _)) (ZnB hm)
  ·rw[if_neg hm]at ho
   cases ho
 ·rename_i i k
  obtain⟨vs,e1,ho⟩:=Zz0.mp ho
  by_cases hc:vs.length*k.toNat≤ZX∧-(2 ^ 63:Int)≤k∧k<2 ^ 63
  ·rw[if_pos hc]at ho
   cases ho
   cases hx with
   | ref ea=>
   cases hy with
   | int _ u=>
   obtain⟨l1,ys,kk,hg,hv⟩:=r.at e1 ea
   obtain⟨m,c,led,r'⟩:=r
   have hl:=hc.1
   rw[Zac]at hl
   refine mul_list r'.F r'.N hg hc.2.1 hc.2.2 (by rw[List.size_toArray,hv.length];lia) fun h' F' N'=>?_
   have e2:(List.foldl (fun x1 x2=>x1++x2) #[] (List.replicate (if ys.toArray.isEmpty=true then 0 else k.toNat) ys.toArray))=(List.replicate k.toNat ys).flatten.toArray:=by
    cases ys with
    | nil=>
     simp
    | cons y0 ys0=>
     have:((y0::ys0).toArray.isEmpty=true)=False:=by simp
     simp only[this,if_false]
     rw[ZmX]
     simp
   rw[e2]at N'
   obtain⟨W2,le2,r2,v2⟩:=r'.newList F' N' r'.off (ZkQ hv k.toNat) (by rw[Zkt];exact hc.1)
   exact post W2 h' s.toks _ le2 r2 v2
  ·rw[if_neg hc]at ho
   cases ho
 ·first|exact Zx0 ho|cases ho
end
end PM
end
section
namespace PM
open PySem PyProof.Rows PyProof
noncomputable def upd(ρ:Lc)(i:Nat)(v:V): Lc:=fun j=>if j=i then some v else ρ j
noncomputable abbrev Sm:=Lc→Hp→Option (Option V×Lc×Hp)
noncomputable def ZL: Sm:=fun ρ H=>some (none,ρ,H)
noncomputable def Zm(a b:Sm): Sm:=fun ρ H=>(a ρ H).bind fun p=>match p.1 with
 | some _=>some p
 | none=>b p.2.1 p.2.2
noncomputable def Zy(f:Ex): Sm:=fun ρ H=>(f ρ H).map fun p=>(some p.1,ρ,p.2)
noncomputable def Zw(i:Nat)(f:Ex): Sm:=fun ρ H=>(f ρ H).map fun p=>(none,upd ρ i p.1,p.2)
noncomputable def Zz(t:Ts)(a b:Sm): Sm:=fun ρ H=>(t ρ H).bind fun p=>if p.1 then a ρ p.2 else b ρ p.2
noncomputable def ZC(f:Ex): Sm:=fun ρ H=>(f ρ H).map fun p=>(none,ρ,p.2)
noncomputable def ZdE: V→V→V→Hp→Option Hp
 | .ref a,.int k,v,H=>H[a]?.bind fun vs=>if a≠0∧0≤k∧k<vs.length then some (H.set a (vs.set k.toNat v))else none
 | _,_,_,_=>none
noncomputable def ZaY(f o i:Ex): Sm:=fun ρ H=>(f ρ H).bind fun p=>(o ρ p.2).bind fun q=>(i ρ q.2).bind fun u=>(ZdE q.1 u.1 p.1 u.2).map fun K=>(none,ρ,K)
noncomputable def Zc2(t:Ts)(b:Sm): Nat→Sm
 | 0=>fun _ _=>none
 | n+1=>fun ρ H=>(t ρ H).bind fun p=>if p.1 then(b ρ p.2).bind fun q=>(match q.1 with
   | some _=>some q
   | none=>Zc2 t b n q.2.1 q.2.2)else some (none,ρ,p.2)
noncomputable def PostS(Γ:Cx)(W:Wd)(fr:List (Addr×Obj))(s:Shared)(Q:Flow→Shared→Prop): Option V×Lc×Hp→Prop
 | (none,ρ',H')=>∀(W':Wd) (h':Heap) (tk':Nat),W.Le W'→Rep Γ W' ρ' H' fr h'→Q .next { s with heap:=h',toks:=tk' }
 | (some v,ρ',H')=>∀(W':Wd) (h':Heap) (tk':Nat) (x:Value),W.Le W'→Rep Γ W' ρ' H' fr h'→VR W' v x→Q (.ret x) { s with heap:=h',toks:=tk' }
theorem PostS.le{Γ:Cx}{W W':Wd}{fr:List (Addr×Obj)}{s:Shared}{h:Heap}{tk:Nat}{Q:Flow→Shared→Prop}{r:Option V×Lc×Hp}(l:W.Le W')(p:PostS Γ W fr s Q r): PostS Γ W' fr { s with heap:=h,toks:=tk } Q r:=by
 obtain⟨o,ρ',H'⟩:=r
 cases o with
 | none=>exact fun W2 h2 t2 l2 r2=>p W2 h2 t2 (l.trans l2) r2
 | some v=>exact fun W2 h2 t2 x l2 r2 x2=>p W2 h2 t2 x (l.trans l2) r2 x2
section
variable (prog:Program) (w:World)
noncomputable def S1(Γ:Cx)(st:Stmt)(g:Sm): Prop:=∀(W:Wd) (ρ:Lc) (H:Hp) (fr:List (Addr×Obj)) (s:Shared) (Q:Flow→Shared→Prop) (E:Value→Shared→Prop) (r:Option V×Lc×Hp),
 Rep Γ W ρ H fr s.heap→g ρ H=some r→PostS Γ W fr s Q r→wpAny (model prog w) Γ.A (exec st Γ.env) Q E s
noncomputable def Ss(Γ:Cx)(ss:List Stmt)(g:Sm): Prop:=∀(W:Wd) (ρ:Lc) (H:Hp) (fr:List (Addr×Obj)) (s:Shared) (Q:Flow→Shared→Prop) (E:Value→Shared→Prop) (r:Option V×Lc×Hp),
 Rep Γ W ρ H fr s.heap→g ρ H=some r→PostS Γ W fr s Q r→wpAny (model prog w) Γ.A (execs ss Γ.env) Q E s
noncomputable def Sto(Γ:Cx)(x:Str)(i:Nat): Prop:=∀(W:Wd) (ρ:Lc) (H:Hp) (fr:List (Addr×Obj)) (s:Shared) (Q:Unit→Shared→Prop) (E:Value→Shared→Prop) (v:V) (y:Value),
 Rep Γ W ρ H fr s.heap→VR W v y→(∀(h':Heap) (tk':Nat),Rep Γ W (upd ρ i v) H fr h'→Q () { s with heap:=h',toks:=tk' })→wpAny (model prog w) Γ.A (storeName Γ.env x y) Q E s
noncomputable def Rd(Γ:Cx)(x:Str)(i:Nat): Prop:=∀(W:Wd) (ρ:Lc) (H:Hp) (fr:List (Addr×Obj)) (s:Shared) (Q E:Value→Shared→Prop) (v:V) (pos:Pos),
 Rep Γ W ρ H fr s.heap→ρ i=some v→(∀y,VR W v y→Q y s)→wpAny (model prog w) Γ.A (eval (.Name x pos) Γ.env) Q E s
end
section
variable {prog:Program} {w:World} {Γ:Cx}
theorem Zal{x:Str}{i:Nat}{pos:Pos}(h:Rd prog w Γ x i): J prog w Γ (.Name x pos) (Za i):=by
 intro W ρ H fr s Q E v H' r hf post
 obtain⟨u,e1,e2⟩:=Zz1.mp hf
 cases e2
 exact h W ρ H fr s Q E v pos r e1 fun y hy=>post W s.heap s.toks y (.refl W) r hy
theorem Z4: Ss prog w Γ [] ZL:=fun W ρ H fr s Q E r rp hf post=>by
 cases hf
 exact wpAny_execs_nil (post W s.heap s.toks (.refl W) rp)
theorem Zr{st:Stmt}{ss:List Stmt}{a b:Sm}(h1:S1 prog w Γ st a)(h2:Ss prog w Γ ss b): Ss prog w Γ (st::ss) (Zm a b):=by
 intro W ρ H fr s Q E r rp hf post
 obtain⟨p,e1,hf⟩:=Zz0.mp hf
 refine wpAny_execs_cons (h1 W ρ H fr s _ E p rp e1 ?_)
 obtain⟨o,ρ1,H1⟩:=p
 cases o with
 | some v=>
  cases hf
  exact fun W1 k1 t1 x l1 r1 x1=>post W1 k1 t1 x l1 r1 x1
 | none=>exact fun W1 k1 t1 l1 r1=>h2 W1 ρ1 H1 fr _ Q E r r1 hf (post.le l1)
theorem Zv{st:Stmt}{a:Sm}(h1:S1 prog w Γ st a): Ss prog w Γ [st] a:=by
 intro W ρ H fr s Q E r rp hf post
 refine wpAny_execs_cons (h1 W ρ H fr s _ E r rp hf ?_)
 obtain⟨o,ρ1,H1⟩:=r
 cases o with
 | some v=>exact fun W1 k1 t1 x l1 r1 x1=>post W1 k1 t1 x l1 r1 x1
 | none=>exact fun W1 k1 t1 l1 r1=>wpAny_execs_nil (post W1 k1 t1 l1 r1)
theorem ZJ{e:Expr}{pos:Pos}{f:Ex}(h:J prog w Γ e f): S1 prog w Γ (.Return (some e) pos) (Zy f):=by
 intro W ρ H fr s Q E r rp hf post
 obtain⟨p,e1,e2⟩:=Zz1.mp hf
 cases e2
 exact wpAny_Return_some (h W ρ H fr s _ E _ _ rp e1 post)
theorem ZY{t:Expr}{a b:List Stmt}{pos:Pos}{u:Ts}{f g:Sm}(ht:JT prog w Γ t u)(h1:Ss prog w Γ a f)(h2:Ss prog w Γ b g): S1 prog w Γ (.If t a b pos) (Zz u f g):=by
 intro W ρ H fr s Q E r rp hf post
 obtain⟨p,e1,hf⟩:=Zz0.mp hf
 refine wpAny_If (ht W ρ H fr s _ E _ _ rp e1 fun W1 k1 t1 l1 r1=>?_)
 obtain⟨c,H1⟩:=p
 cases c with
 | true=>exact h1 W1 ρ H1 fr _ Q E r r1 hf (post.le l1)
 | false=>exact h2 W1 ρ H1 fr _ Q E r r1 hf (post.le l1)
theorem Zau{e:Expr}{pos:Pos}{f:Ex}(h:J prog w Γ e f)(hi:interactive Γ.env=false:=by rfl)(hs:swapsWith e none pos.line Γ.env=pure false:=by rfl): S1 prog w Γ (.Expr e pos) (ZC f):=by
 intro W ρ H fr s Q E r rp hf post
 obtain⟨p,e1,e2⟩:=Zz1.mp hf
 cases e2
 exact wpAny_Expr_any (h W ρ H fr s _ E _ _ rp e1 fun W1 k1 t1 x l1 r1 x1=>post W1 k1 t1 l1 r1) hi hs
theorem ZR{x:Str}{i:Nat}{e:Expr}{pos' pos:Pos}{f:Ex}(hx:Sto prog w Γ x i)(h:J prog w Γ e f)(hs:swapsWith e (some (.Name x pos')) pos.line Γ.env=pure false:=by rfl): S1 prog w Γ (.Assign [.Name x pos'] e pos) (Zw i f):=by
 intro W ρ H fr s Q E r rp hf post
 obtain⟨p,e1,e2⟩:=Zz1.mp hf
 cases e2
 refine wpAny_Assign_Name (h W ρ H fr s _ E _ _ rp e1 fun W1 k1 t1 y l1 r1 y1=>?_) hs
 exact hx W1 ρ _ fr _ _ E _ y r1 y1 fun h' tk' r2=>post W1 h' tk' l1 r2
theorem Zku{t:Expr}{a:List Stmt}{pos:Pos}{u:Ts}{f:Sm}(n:Nat)(ht:JT prog w Γ t u)(h1:Ss prog w Γ a f): S1 prog w Γ (.While t a [] pos) (Zc2 u f n):=by
 intro W ρ H fr s Q E r rp hf post
 refine wpAny_While ?_
 refine codeAny_whileLoop (fun k s'=>∃W' ρ' H' h' tk',s' = { s with heap:=h',toks:=tk' }∧W.Le W'∧Rep Γ W' ρ' H' fr h'∧Zc2 u f k ρ' H'=some r) ?_ n ⟨W,ρ,H,s.heap,s.toks,rfl,.refl W,rp,hf⟩
 rintro k s' ⟨W1,ρ1,H1,k1,t1,rfl,l1,r1,e⟩
 cases k with
 | zero=>first|exact Zx0 e|cases e
 | succ k=>
  obtain⟨p,e1,e⟩:=Zz0.mp e
  refine ht W1 ρ1 H1 fr _ _ _ _ _ r1 e1 fun W2 k2 t2 l2 r2=>?_
  obtain⟨c,H2⟩:=p
  cases c with
  | false=>
   cases e
   exact wpAny_execs_nil (post W2 k2 t2 (l1.trans l2) r2)
  | true=>
   obtain⟨q,e2,e⟩:=Zz0.mp e
   refine h1 W2 ρ1 H2 fr _ _ _ q r2 e2 ?_
   obtain⟨o,ρ3,H3⟩:=q
   cases o with
   | some v=>
    cases e
    exact fun W3 k3 t3 x l3 r3 x3=>post W3 k3 t3 x ((l1.trans l2).trans l3) r3 x3
   | none=>exact fun W3 k3 t3 l3 r3=>⟨k,Nat.lt_succ_self k,W3,ρ3,H3,k3,t3,rfl,(l1.trans l2).trans l3,r3,e⟩
end
noncomputable def Zcf: List V→Hp→Option (V×Hp)
 | [.ref a,v],H=>H[a]?.bind fun vs=>if a≠0∧vs.length<ZX then some (.none,H.set a (vs++[v]))else none
 | _,_=>none
section
variable {prog:Program} {w:World} {Γ:Cx}
theorem ZmY: OpN prog w (fun xs=>call (.builtin "list.append") xs) Zcf:=by
 intro Γ W ρ H fr s Q E as xs v H' r hx ho post
 unfold Zcf at ho
 split at ho
 ·obtain⟨vs,e1,e2⟩:=Zz0.mp ho
  obtain⟨x,y,ex,rx,ry⟩:=hx.two
  subst ex
  split at e2
  ·rename_i hl
   cases e2
   cases rx with
   | @ref _ a0 ea=>
    obtain⟨_,ys,k,hg,hv⟩:=r.at e1 ea
    refine append_at (hsz:=Zcr (by rw[List.size_toArray,hv.length];omega)) hg fun h' sb hg'=>?_
    have hg2:h'.get? a0=some (Zbf (ys++[y]) (k+1)):=by rw[hg'];simp
    exact post W h' s.toks _ (.refl W) (r.change hl.1 e1 ea sb hg2 (hv.snoc ry) (by simp;lia)) .none
  ·first|exact Zx0 e2|cases e2
 ·first|exact Zx0 ho|cases ho
end
end PM
end
section
namespace PM
open PySem PySem.W PyProof.Rows PyProof
theorem ZkR: ∀{l:List Value} {k:Nat} {v:Value},k<l.length→ki_setL l k v=some (l.set k v)
 | [],_,_,h=>by simp at h
 | x::r,0,v,_=>by simp[ki_setL]
 | x::r,k+1,v,h=>by
  have:=ZkR (l:=r) (k:=k) (v:=v) (by simpa using h)
  simp[ki_setL,this]
theorem ZmZ{a k v:V}{H K:Hp}(h:ZdE a k v H=some K): ∃i j vs,a=.ref i∧k=.int j∧H[i]?=some vs∧(i≠0∧0≤j∧j<vs.length)∧K=H.set i (vs.set j.toNat v):=by
 cases a <;> first|exact Zx0 h|(cases h;done)| skip
 cases k <;> first|exact Zx0 h|(cases h;done)| skip
 obtain⟨vs,e1,e2⟩:=Zz0.mp h
 split at e2
 ·rename_i c
  cases e2
  exact⟨_,_,vs,rfl,rfl,e1,c,rfl⟩
 ·first|exact Zx0 e2|cases e2
theorem Zms{a v x:V}{H K:Hp}(h:Zcf [a,v] H=some (x,K)): ∃i,a=.ref i:=by
 cases a <;> first|exact Zx0 h|(cases h;done)| skip
 exact⟨_,rfl⟩
noncomputable def ZaD(o f:Ex): Ex:=fun ρ H=>(o ρ H).bind fun p=>(f ρ p.2).bind fun q=>Zcf [p.1,q.1] q.2
section
variable {prog:Program} {w:World} {Γ:Cx}
theorem S1.put{o i value:Expr}{pos' pos:Pos}{f g k:Ex}(hf:J prog w Γ value f)(ho:J prog w Γ o g)(hi:J prog w Γ i k)(hs:swapsWith value (some (.Subscript o i pos')) pos.line Γ.env=pure false:=by rfl): S1 prog w Γ (.Assign [.Subscript o i pos'] value pos) (ZaY f g k):=by
 intro W ρ H fr s Q E r rp hx post
 obtain⟨p,e1,hx⟩:=Zz0.mp hx
 obtain⟨q,e2,hx⟩:=Zz0.mp hx
 obtain⟨u,e3,hx⟩:=Zz0.mp hx
 obtain⟨K,e4,e5⟩:=Zz1.mp hx
 cases e5
 refine wpAny_Assign_Subscript (hf W ρ H fr s _ E _ _ rp e1 fun W1 k1 t1 x l1 r1 x1=>?_) hs
 refine ho W1 ρ _ fr _ _ E _ _ r1 e2 fun W2 k2 t2 y l2 r2 y2=>?_
 refine hi W2 ρ _ fr _ _ E _ _ r2 e3 fun W3 k3 t3 z l3 r3 z3=>?_
 have x3:=x1.mono (l2.trans l3)
 have y3:=y2.mono l3
 obtain⟨b,kk,vs,eb,ek,hvs,hc,e6⟩:=ZmZ e4
 subst e6
 rw[eb]at y3
 rw[ek]at z3
 cases y3 with
 | @ref _ a ea=>
 cases z3 with
 | int _ tz=>
 obtain⟨hl,xs,n,hg,hv⟩:=r3.at hvs ea
 obtain⟨m,c,led,r'⟩:=r3
 have hll:=hl
 rw[Zac]at hll
 have hk:kk.toNat<xs.length:=by rw[hv.length];omega
 obtain⟨_,a',xs',n',h1,h2,h3⟩:=r'.R.lists b vs hvs ea.2
 rw[ea.1]at h1
 cases h1
 have h2:=r'.inLed hc.1 ea.1 h2
 have N2:News Γ.h₀ Γ.L k3 ((a,Zbf xs n)::led.filter (fun q=>decide (q.1≠a))):=by
  intro q hq
  rcases Zz7.mp hq with e | hq
  ·subst e
   exact⟨hg,(r'.N _ h2).2⟩
  ·exact r'.N q (List.mem_filter.mp hq).1
 refine ki_set (its:=xs.toArray) (n:=n) (q:=xs.set kk.toNat x) r'.F N2 hc.2.1 (by lia) (by simpa using ZkR hk) (Upd.head fun q hq=>by simpa using (List.mem_filter.mp hq).2) fun h' F' N'=>?_
 exact post W3 h' t3 ((l1.trans l2).trans l3) (r'.changed hc.1 hvs ea F' N' (hv.set _ x3) (by simpa using hl))
theorem J.append{o e:Expr}{apos pos:Pos}{f g:Ex}(ho:J prog w Γ o f)(he:J prog w Γ e g)(hbase:attributeBase o "append" Γ.env (eval o Γ.env)=eval o Γ.env:=by rfl)
  (hfew:((backTo pos (starEach [e] Γ.env)).all (fun x=>!x.1) && (backToKw pos (keywordEach [] Γ.env)).all (fun x=>x.1.isSome) && decide (([e]:List Expr).length+([]:List Keyword).length+(if([]:List Keyword).isEmpty then 0 else 1)<30))=true:=by rfl)
  (hline:(apos.endLine == pos.line)=true:=by rfl) (htrees:backTo pos (starEach [e] Γ.env)=[(false,eval e Γ.env)]:=by rfl):J prog w Γ (.Call (.Attribute o "append" apos) [e] [] pos) (ZaD f g):=by
 intro W ρ H fr s Q E v H' r hx post
 obtain⟨p,e1,hx⟩:=Zz0.mp hx
 obtain⟨q,e2,e3⟩:=Zz0.mp hx
 refine wpAny_Call_append hbase hfew hline htrees (ho W ρ H fr s _ E _ _ r e1 fun W1 k1 t1 x l1 r1 x1=>?_)
 obtain⟨v1,H1⟩:=p
 obtain⟨b,hb⟩:=Zms e3
 subst hb
 have hb:=r1.refIn x1
 cases x1 with
 | @ref _ a ea=>
 obtain⟨_,xs,n,hg,hv⟩:=r1.at (Zy1 hb) ea
 refine⟨a,xs.toArray,rfl,⟨_,n,hg,rfl,rfl,rfl⟩,?_⟩
 refine he W1 ρ _ fr _ _ E _ _ r1 e2 fun W2 k2 t2 y l2 r2 y2=>?_
 exact ZmY Γ W2 ρ _ fr _ Q E _ [.ref a,y] v H' r2 (.cons (.ref (l2.at ea)) (.cons y2 .nil)) e3 fun W3 k3 t3 z l3 r3 z3=>post W3 k3 t3 z ((l1.trans l2).trans l3) r3 z3
end
end PM
end
section
namespace PM
open PySem PySem.W PyProof.Rows PyProof
noncomputable abbrev Nx:=Nat→Hp→Option (Option V)
noncomputable def ZqE(Γ:Cx)(W:Wd)(ρ:Lc)(H:Hp)(fr:List (Addr×Obj))(s:Shared)(It:Nat→List (Addr×Obj)→Prop)(i:Nat)(Q:Option Value→Shared→Prop): Option V→Prop
 | none=>∀(h':Heap) (tk':Nat),Rep Γ W ρ H fr h'→Q none { s with heap:=h',toks:=tk' }
 | some v=>∀(fs':List (Addr×Obj)) (h':Heap) (tk':Nat) (x:Value),It (i+1) fs'→Rep Γ W ρ H (fs'++fr) h'→VR W v x→Q (some x) { s with heap:=h',toks:=tk' }
structure Itr(prog:Program)(w:World)(Γ:Cx)(W0:Wd)(it:Value)(as:List Addr)(It:Nat→List (Addr×Obj)→Prop)(nx:Nx): Prop where
 adr:∀i fs,It i fs→fs.map (·.1)=as
 next:∀(i:Nat) (W:Wd) (ρ:Lc) (H:Hp) (fr fs:List (Addr×Obj)) (s:Shared) (Q:Option Value→Shared→Prop) (E:Value→Shared→Prop) (o:Option V),W0.Le W→Rep Γ W ρ H (fs++fr) s.heap→(∀a∈as,∀t∈fr,a≠t.1)→It i fs→nx i H=some o →
  ZqE Γ W ρ H fr s It i Q o→wpAny (model prog w) Γ.A (pyNext it) Q E s
 self:∀(i:Nat) (W:Wd) (ρ:Lc) (H:Hp) (fr fs:List (Addr×Obj)) (s:Shared) (Q E:Value→Shared→Prop),W0.Le W→Rep Γ W ρ H (fs++fr) s.heap→It i fs→Q it s→wpAny (model prog w) Γ.A (pyIter it) Q E s
noncomputable abbrev Src:=Lc→Hp→Option (Nx×Nat×Hp)
noncomputable def JI(prog:Program)(w:World)(Γ:Cx)(e:Expr)(g:Src): Prop:=∀(W:Wd) (ρ:Lc) (H:Hp) (fr:List (Addr×Obj)) (s:Shared) (Q E:Value→Shared→Prop) (nx:Nx) (n:Nat) (H':Hp),
 Rep Γ W ρ H fr s.heap→g ρ H=some (nx,n,H') →
 (∀(W':Wd) (h':Heap) (tk':Nat) (it:Value) (as:List Addr) (It:Nat→List (Addr×Obj)→Prop) (fs:List (Addr×Obj)),W.Le W'→It 0 fs→Rep Γ W' ρ H' (fs++fr) h'→(∀a∈as,∀t∈fr,a≠t.1)→Itr prog w Γ W' it as It nx→Q it { s with heap:=h',toks:=tk' }) →
 wpAny (model prog w) Γ.A (eval e Γ.env) (fun xv s₁=>wpAny (model prog w) Γ.A (pyIter xv) Q E s₁) E s
noncomputable def Zad(a:Nat): Nx:=fun i H=>H[a]?.map fun vs=>vs[i]?
noncomputable def Zjh(vs:List V): Nx:=fun i _=>some vs[i]?
noncomputable def Zb3(a c:Int)(n:Nat): Nx:=fun i _=>some (if i<n then some (.int (a+i*c))else none)
noncomputable def Zar(f:Ex): Src:=fun ρ H=>(f ρ H).bind fun p=>match p.1 with
 | .ref a=>p.2[a]?.map fun vs=>(Zad a,vs.length+1,p.2)
 | .tup vs=>some (Zjh vs,vs.length+1,p.2)
 | _=>none
noncomputable def rngN(a b c:Int): Nat:=(Builtin.Range.rangeSize a b c).toNat
noncomputable def Zbw(a b c:Int)(H:Hp): Option (Nx×Nat×Hp):=if c≠0∧Builtin.Range.small a b c=true∧0≤Builtin.Range.rangeSize a b c∧rngN a b c≤ZX∧Builtin.divisionGoesByPylong (b-a) c=false then some (Zb3 a c (rngN a b c),rngN a b c+1,H)else none
noncomputable def Za7(g:Z7): Src:=fun ρ H=>(g ρ H).bind fun p=>match p.1 with
 | [.int b]=>Zbw 0 b 1 p.2
 | [.int a,.int b]=>Zbw a b 1 p.2
 | [.int a,.int b,.int c]=>Zbw a b c p.2
 | _=>none
section
variable {prog:Program} {w:World} {Γ:Cx}
theorem Zji{W0:Wd}{I:Addr}{nx:Nx}(P:Nat→Obj→Prop)
  (next:∀(i:Nat) (W:Wd) (ρ:Lc) (H:Hp) (fr:List (Addr×Obj)) (ob:Obj) (s:Shared) (Q:Option Value→Shared→Prop) (E:Value→Shared→Prop) (o:Option V),W0.Le W→Rep Γ W ρ H ((I,ob)::fr) s.heap→P i ob→nx i H=some o →
   (match o with
    | none=>∀(h':Heap) (tk':Nat),(∀b o,b≠I→s.heap.get? b=some o→h'.get? b=some o)→Q none { s with heap:=h',toks:=tk' }
    | some v=>∀(ob':Obj) (h':Heap) (tk':Nat) (x:Value),P (i+1) ob'→h'.get? I=some ob'→(∀b o,b≠I→s.heap.get? b=some o→h'.get? b=some o)→VR W v x→Q (some x) { s with heap:=h',toks:=tk' })→wpAny (model prog w) Γ.A (pyNext (.ref I)) Q E s)
  (self:∀(i:Nat) (W:Wd) (ρ:Lc) (H:Hp) (fr:List (Addr×Obj)) (ob:Obj) (s:Shared) (Q E:Value→Shared→Prop),W0.Le W→Rep Γ W ρ H ((I,ob)::fr) s.heap→P i ob→Q (.ref I) s→wpAny (model prog w) Γ.A (pyIter (.ref I)) Q E s):
  Itr prog w Γ W0 (.ref I) [I] (fun i fs=>∃ob,fs=[(I,ob)]∧P i ob) nx:=by
 refine⟨?_,?_,?_⟩
 ·rintro i fs ⟨ob,e,_⟩
  rw[e]
  rfl
 ·rintro i W ρ H fr fs s Q E o le r ap ⟨ob,e,hp⟩ hn post
  subst e
  refine next i W ρ H fr ob s Q E o le r hp hn ?_
  have ap':∀q∈[(I,ob)],∀t∈fr,q.1≠t.1:=fun q hq t ht=>by rw[List.mem_singleton.mp hq];exact ap I Zz5 t ht
  cases o with
  | none=>
   intro h' tk' keep
   have:=Rep.swap (fs:=[(I,ob)]) (fs':=[]) r ap' (fun b o hb e=>keep b o (fun q=>hb (by simp[q])) e) (fun q hq=>nomatch hq)
   exact post h' tk' this
  | some v=>
   intro ob' h' tk' x hp' hg keep hx
   have:=Rep.swap (fs:=[(I,ob)]) (fs':=[(I,ob')]) r ap' (fun b o hb e=>keep b o (fun q=>hb (by simp[q])) e) (fun q hq=>by rw[List.mem_singleton.mp hq];exact⟨hg,by simp⟩)
   exact post [(I,ob')] h' tk' x ⟨ob',rfl,hp'⟩ this hx
 ·rintro i W ρ H fr fs s Q E le r ⟨ob,e,hp⟩ q
  subst e
  exact self i W ρ H fr ob s Q E le r hp q
theorem JI.seq{e:Expr}{f:Ex}(h:J prog w Γ e f): JI prog w Γ e (Zar f):=by
 intro W ρ H fr s Q E nx n H' r hf post
 obtain⟨p,e1,hf⟩:=Zz0.mp hf
 refine h W ρ H fr s _ E _ _ r e1 fun W1 k1 t1 x l1 r1 x1=>?_
 obtain⟨v,H1⟩:=p
 cases x1 with
 | none=>first|exact Zx0 hf|cases hf
 | bool _=>first|exact Zx0 hf|cases hf
 | int _ _=>first|exact Zx0 hf|cases hf
 | str _ _=>first|exact Zx0 hf|cases hf
 | obj _ _ _ _=>first|exact Zx0 hf|cases hf
 | @tup vs a xs k hm hl hs=>
  cases hf
  have it:k1.IsTuple a xs.toArray:=⟨_,r1.tupAt hm,rfl,k,rfl⟩
  refine wpAny_pyIter_tuple it ?_
  obtain⟨r2,ap⟩:=r1.more (fs:=[(k1.objs.size,{ cls:=.type "tuple_iterator",data:=.fields #[.ref a,.int 0 0] })]) (fun b o e=>Heap.get?_push_of_some { cls:=.type "tuple_iterator",data:=.fields #[.ref a,.int 0 0] } e) (fun q hq=>by rw[List.mem_singleton.mp hq];exact⟨Heap.get?_push_size _ rfl,Nat.le_refl _⟩)
  refine post W1 _ t1 _ [k1.objs.size] _ _ l1 ⟨_,rfl,?_⟩ r2 (fun b hb t ht=>by rw[List.mem_singleton.mp hb];exact ap _ Zz5 t ht)
   (Zji (fun i ob=>ob.cls=.type "tuple_iterator"∧ob.data=.fields #[.ref a,.int i 0]) ?_ ?_)
  ·intro i W ρ H fr ob s Q E o le r hp hn post
   have g1:s.heap.IsTupleIter k1.objs.size a i:=⟨ob,r.frAt Zz5,hp.1,hp.2⟩
   have g2:s.heap.IsTuple a xs.toArray:=⟨_,r.tupAt (le.tups _ hm),rfl,k,rfl⟩
   have ne:a≠k1.objs.size:=Nat.ne_of_lt (Heap.lt_size (r1.tupAt hm))
   have Wk:=Walks.tuple (prog:=prog) (w:=w) Γ.hh k1.objs.size a ne xs.toArray
   cases hn
   cases ev:vs[i]? with
   | none=>
    rw[ev]at post
    have hi:xs.toArray[i]?=none:=by have:=List.getElem?_eq_none_iff.mp ev;rw[←hs.length]at this;simpa using this
    exact wpAny_pyNext_tuple_end Γ.hh g1 g2 hi fun h' he'=>post h' s.toks fun b o hb e=>he' b o hb e
   | some v=>
    rw[ev]at post
    obtain⟨y,hy,ry⟩:=hs.at ev
    refine wpAny_pyNext_tuple_item g1 g2 (x:=y) (by simpa using hy) fun h' hit' hs'=>?_
    obtain⟨ob',h1,h2,h3⟩:=hit'
    exact post ob' h' s.toks y ⟨h2,h3⟩ h1 (fun b o hb e=>hs'.extBut b o hb e) (ry.mono le)
  ·intro i W ρ H fr ob s Q E le r hp q
   exact wpAny_pyIter_tupleiter (⟨ob,r.frAt Zz5,hp.1,hp.2⟩:s.heap.IsTupleIter k1.objs.size a i) q
  ·exact⟨rfl,rfl⟩
 | @ref i0 a ea=>
  obtain⟨vs,e2,e3⟩:=Zz1.mp hf
  cases e3
  obtain⟨hl,xs,k,hg,hv⟩:=r1.at e2 ea
  have isl:k1.IsList a xs.toArray:=⟨_,hg,rfl,k,rfl⟩
  refine wpAny_pyIter_list isl ?_
  obtain⟨r2,ap⟩:=r1.more (fs:=[(k1.objs.size,{ cls:=.type "list_iterator",data:=.fields #[.ref a,.int 0 0] })]) (fun b o e=>Heap.get?_push_of_some { cls:=.type "list_iterator",data:=.fields #[.ref a,.int 0 0] } e) (fun q hq=>by rw[List.mem_singleton.mp hq];exact⟨Heap.get?_push_size _ rfl,Nat.le_refl _⟩)
  refine post W1 _ t1 _ [k1.objs.size] _ _ l1 ⟨_,rfl,?_⟩ r2 (fun b hb t ht=>by rw[List.mem_singleton.mp hb];exact ap _ Zz5 t ht)
   (Zji (fun i ob=>ob.cls=.type "list_iterator"∧ob.data=.fields #[.ref a,.int i 0]) ?_ ?_)
  ·intro i W ρ H fr ob s Q E o le r hp hn post
   obtain⟨us,eu,e4⟩:=Zz1.mp hn
   subst e4
   obtain⟨hl2,ys,k2,hg2,hv2⟩:=r.at eu (le.at ea)
   have g1:s.heap.IsListIter k1.objs.size a i:=⟨ob,r.frAt Zz5,hp.1,hp.2⟩
   have g2:s.heap.IsList a ys.toArray:=⟨_,hg2,rfl,k2,rfl⟩
   cases ev:us[i]? with
   | none=>
    rw[ev]at post
    have hi:ys.toArray[i]?=none:=by have:=List.getElem?_eq_none_iff.mp ev;rw[←hv2.length]at this;simpa using this
    exact wpAny_pyNext_list_end Γ.hh g1 g2 hi fun h' he'=>post h' s.toks fun b o hb e=>he' b o hb e
   | some v=>
    rw[ev]at post
    obtain⟨y,hy,ry⟩:=hv2.at ev
    refine wpAny_pyNext_list_item g1 g2 (x:=y) (by simpa using hy) fun h' hit' hs'=>?_
    obtain⟨ob',h1,h2,h3⟩:=hit'
    exact post ob' h' s.toks y ⟨h2,h3⟩ h1 (fun b o hb e=>hs'.extBut b o hb e) ry
  ·intro i W ρ H fr ob s Q E le r hp q
   exact wpAny_pyIter_listiter (⟨ob,r.frAt Zz5,hp.1,hp.2⟩:s.heap.IsListIter k1.objs.size a i) q
  ·exact⟨rfl,rfl⟩
theorem Zmt{a b c:Int}{H:Hp}{z:Nx×Nat×Hp}(h:Zbw a b c H=some z): c≠0∧Builtin.divisionGoesByPylong (b-a) c=false:=by
 unfold Zbw at h
 split at h
 ·rename_i hc
  exact⟨hc.1,hc.2.2.2.2⟩
 ·first|exact Zx0 h|cases h
theorem ZnF{W0:Wd}{I:Addr}{a c:Int}{n:Nat}: Itr prog w Γ W0 (.ref I) [I] (fun i fs=>∃ob,fs=[(I,ob)]∧(i≤n∧ob = { cls:=.type "range_iterator",dict:=none,data:=.fields #[rawInt (a+(i:Nat)*c),rawInt ((n:Int)-(i:Nat)),rawInt c],slots:=#[] })) (Zb3 a c n):=by
 have Wk:=Walks.range (prog:=prog) (w:=w) Γ.hh I a c n
 refine Zji (fun i ob=>i≤n∧ob = { cls:=.type "range_iterator",dict:=none,data:=.fields #[rawInt (a+(i:Nat)*c),rawInt ((n:Int)-(i:Nat)),rawInt c],slots:=#[] }) ?_ ?_
 ·intro i W ρ H fr ob s Q E o le r hp hn post
  have g:IsRangeIter s.heap I (a+(i:Nat)*c) ((n:Int)-(i:Nat)) c:=(r.frAt Zz5).trans (congrArg some hp.2)
  cases hn
  by_cases hi:i<n
  ·rw[if_pos hi]at post
   refine Wk.item i s Q E hi g fun v h' tk hv st keep=>?_
   obtain⟨t,e⟩:=hv
   subst e
   exact post _ h' tk _ ⟨hi,rfl⟩ st (fun b o hb e=>keep b o (by simpa using hb) e) (.int _ _)
  ·rw[if_neg hi]at post
   have e:i=n:=by have:=hp.1;lia
   subst e
   exact Wk.done s Q E g fun h' tk keep=>post h' tk fun b o hb e=>keep b o (by simpa using hb) e
 ·intro i W ρ H fr ob s Q E le r hp q
  have g:IsRangeIter s.heap I (a+(i:Nat)*c) ((n:Int)-(i:Nat)) c:=(r.frAt Zz5).trans (congrArg some hp.2)
  exact Wk.self i s Q E g q
theorem Zic{a b c:Int}{t u v:Tok}{W:Wd}{ρ:Lc}{H:Hp}{fr:List (Addr×Obj)}{s:Shared}{k:Heap}{tk:Nat}{Q E:Value→Shared→Prop}{nx:Nx}{n:Nat}{H':Hp}(r:Rep Γ W ρ H fr k)(hm:Zbw a b c H=some (nx,n,H'))
  (post:∀(W':Wd) (h':Heap) (tk':Nat) (it:Value) (as:List Addr) (It:Nat→List (Addr×Obj)→Prop) (fs:List (Addr×Obj)),W.Le W'→It 0 fs→Rep Γ W' ρ H' (fs++fr) h'→(∀a∈as,∀t∈fr,a≠t.1)→Itr prog w Γ W' it as It nx→Q it { s with heap:=h',toks:=tk' }):
  wpAny (model prog w) Γ.A (pyIter (.ref k.objs.size)) Q E { s with heap:=k.push { cls:=.type "range",data:=.fields #[.int a t,.int b u,.int c v] },toks:=tk }:=by
 unfold Zbw at hm
 split at hm
 ·rename_i hc
  cases hm
  have hr:IsRange (k.push { cls:=.type "range",data:=.fields #[.int a t,.int b u,.int c v] }) k.objs.size a b c t u v:=IsRange.new ..
  refine wpAny_pyIter_range hr hc.2.1 ?_
  have rp:=r.push { cls:=.type "range",data:=.fields #[.int a t,.int b u,.int c v] }
  have en:Builtin.Range.rangeSize a b c=((rngN a b c:Nat):Int):=(Int.toNat_of_nonneg hc.2.2.1).symm
  dsimp only
  generalize hk:k.push { cls:=.type "range",data:=.fields #[.int a t,.int b u,.int c v] } = k2 at rp ⊢
  obtain⟨r2,ap⟩:=rp.more (fs:=[(k2.objs.size,{ cls:=.type "range_iterator",data:=.fields #[rawInt a,rawInt (Builtin.Range.rangeSize a b c),rawInt c] })]) (fun b' o e=>Heap.get?_push_of_some { cls:=.type "range_iterator",data:=.fields #[rawInt a,rawInt (Builtin.Range.rangeSize a b c),rawInt c] } e) (fun q hq=>by rw[List.mem_singleton.mp hq];exact⟨Heap.get?_push_size _ rfl,Nat.le_refl _⟩)
  refine post W _ tk _ [k2.objs.size] _ _ (.refl W) ⟨_,rfl,Nat.zero_le _,?_⟩ r2 (fun b hb t ht=>by rw[List.mem_singleton.mp hb];exact ap _ Zz5 t ht) (ZnF (a:=a) (c:=c) (n:=rngN a b c))
  rw[en]
  simp
 ·first|exact Zx0 hm|cases hm
theorem JI.range{x:Str}{np pos:Pos}{e:Expr}{es:List Expr}{g:Z7}(hn:Nm prog w Γ x (.type "range"))(h:Js prog w Γ (e::es) g)
  (he:starEach (e::es) Γ.env=(false,eval e Γ.env)::starEach es Γ.env:=by rfl) (hp:∀pos,(backTo pos (starEach es Γ.env)).any (·.1)=false:=by intro _;rfl):JI prog w Γ (.Call (.Name x np) (e::es) [] pos) (Za7 g):=by
 intro W ρ H fr s Q E nx n H' r hf post
 obtain⟨p,e1,hf⟩:=Zz0.mp hf
 refine wpAny_Call_ofName (hn.use r ?_)
 refine PySem.Pv.callWith_type1 (h pos W ρ H fr s _ E _ _ r e1 fun W1 k1 t1 xs l1 r1 x1=>?_) he (hp pos)
 obtain⟨vs,H1⟩:=p
 dsimp only at hf x1 r1
 have post1:=fun W' h' tk' it as It fs (l:W1.Le W')=>post W' h' tk' it as It fs (l1.trans l)
 split at hf
 ·obtain⟨y,ex,ry⟩:=x1.one
  subst ex
  cases ry
  exact call_range_1 (Zic r1 hf post1)
 ·obtain⟨y,z,ex,ry,rz⟩:=x1.two
  subst ex
  cases ry
  cases rz
  exact call_range_2 (Zic r1 hf post1)
 ·cases x1 with
  | cons ry x1=>
  obtain⟨y,z,ex,rz,ru⟩:=x1.two
  subst ex
  cases ry
  cases rz
  cases ru
  have hc:=Zmt hf
  exact call_range_3 hc.1 (Zic r1 hf post1) (.inl hc.2)
 ·first|exact Zx0 hf|cases hf
end
noncomputable def Za3(nx:Nx)(put:V→Lc→Option Lc)(b:Sm): Nat→Nat→Sm
 | 0,_=>fun _ _=>none
 | n+1,i=>fun ρ H=>(nx i H).bind fun o=>match o with
  | none=>some (none,ρ,H)
  | some v=>(put v ρ).bind fun ρ1=>(b ρ1 H).bind fun q=>match q.1 with
   | some _=>some q
   | none=>Za3 nx put b n (i+1) q.2.1 q.2.2
noncomputable def ZaL(g:Src)(put:V→Lc→Option Lc)(b:Sm): Sm:=fun ρ H=>(g ρ H).bind fun z=>Za3 z.1 put b z.2.1 0 ρ z.2.2
noncomputable def ZQ(i:Nat): V→Lc→Option Lc:=fun v ρ=>some (upd ρ i v)
section
variable {prog:Program} {w:World} {Γ:Cx}
theorem Zcw{x:Str}{i:Nat}{px pos:Pos}{it:Expr}{body:List Stmt}{g:Src}{b:Sm}(hx:Sto prog w Γ x i)(hg:JI prog w Γ it g)(hb:Ss prog w Γ body b)(hs:∀x,foldedSetIterable it Γ.env x=pure x:=by intro _;rfl): S1 prog w Γ (.For (.Name x px) it body [] pos) (ZaL g (ZQ i) b):=by
 intro W ρ H fr s Q E r rp hf post
 obtain⟨z,e1,hf⟩:=Zz0.mp hf
 obtain⟨nx,n,H0⟩:=z
 refine wpAny_For (hg W ρ H fr s _ E nx n H0 rp e1 fun W1 k1 t1 itv as It fs l1 i1 r1 ap I1=>?_) hs
 refine codeAny_forLoop (fun k s'=>∃W' ρ' H' h' tk' j fs',s' = { s with heap:=h',toks:=tk' }∧W1.Le W'∧It j fs'∧Rep Γ W' ρ' H' (fs'++fr) h'∧Za3 nx (ZQ i) b k j ρ' H'=some r) ?_ n ⟨W1,ρ,H0,k1,t1,0,fs,rfl,.refl _,i1,r1,hf⟩
 rintro k s' ⟨W2,ρ2,H2,k2,t2,j,fs2,rfl,l2,i2,r2,e⟩
 cases k with
 | zero=>first|exact Zx0 e|cases e
 | succ k=>
  obtain⟨o,e2,e⟩:=Zz0.mp e
  refine I1.next j W2 ρ2 H2 fr fs2 _ _ _ o l2 r2 ap i2 e2 ?_
  cases o with
  | none=>
   cases e
   intro h' tk' r3
   exact wpAny_execs_nil (post W2 h' tk' (l1.trans l2) r3)
  | some v=>
   intro fs3 k3 t3 y i3 r3 y3
   obtain⟨ρ3,e3,e⟩:=Zz0.mp e
   cases e3
   obtain⟨q,e4,e⟩:=Zz0.mp e
   refine wpAny_assign_Name (hx W2 ρ2 H2 (fs3++fr) _ _ _ v y r3 y3 fun k4 t4 r4=>?_)
   refine hb W2 _ H2 (fs3++fr) _ _ _ q r4 e4 ?_
   obtain⟨u,ρ5,H5⟩:=q
   cases u with
   | some u=>
    cases e
    exact fun W5 k5 t5 x5 l5 r5 v5=>post W5 k5 t5 x5 ((l1.trans l2).trans l5) (r5.less fun q hq=>List.mem_append_right _ hq) v5
   | none=>exact fun W5 k5 t5 l5 r5=>⟨k,Nat.lt_succ_self k,W5,ρ5,H5,k5,t5,j+1,fs3,rfl,l2.trans l5,i3,r5,e⟩
end
end PM
end
section
namespace PM
open PySem PySem.W PySem.Calls PyProof.Rows PyProof
structure OwnF(names:List Str)(cs:Scope)(cl:List (Str×Addr))(W:Wd)(ρ:Lc)(m:Str→Option Value)(cells:List (Addr×Obj)): Prop where
 loc:∀(i:Nat) (x:Str) (v:V),names[i]?=some x→cs.names.lookup x=some .local→ρ i=some v→∃y,m x=some y∧VR W v y
 cel:∀(i:Nat) (x:Str) (v:V),names[i]?=some x→cs.names.lookup x=some .cell→ρ i=some v→∃c o y,cl.lookup x=some c∧(c,o)∈cells∧o.data=.cell (some y)∧VR W v y
 all:∀(x:Str) (c:Addr),cl.lookup x=some c→∃o v₀,(c,o)∈cells∧o.data=.cell v₀
 one:∀(x y:Str) (c:Addr),cl.lookup x=some c→cl.lookup y=some c→x=y
theorem OwnF.mono{names:List Str}{cs:Scope}{cl:List (Str×Addr)}{W W':Wd}{ρ:Lc}{m:Str→Option Value}{cells:List (Addr×Obj)}(l:W.Le W')(h:OwnF names cs cl W ρ m cells): OwnF names cs cl W' ρ m cells:=
 ⟨fun i x v a b c=>by
  obtain⟨y,h1,h2⟩:=h.loc i x v a b c
  exact⟨y,h1,h2.mono l⟩,fun i x v a b c=>by
  obtain⟨d,o,y,h1,h2,h3,h4⟩:=h.cel i x v a b c
  exact⟨d,o,y,h1,h2,h3,h4.mono l⟩,h.all,h.one⟩
noncomputable def Zbm(dp un:Nat)(gd:Option (List Code))(cn:Str)(cs:Scope)(L a:Addr)(ccd:Value)(cl:List (Str×Addr))(outer:List Env)(h₀:Heap)(hu:un+200<cLine)(names:List Str): Cx where
 A:=ktrTop dp un gd cn cs L a ccd cl outer
 env:=envX cn cs L a ccd cl
 h₀:=h₀
 L:=L
 hh:=rfl
 hu:=hu
 Own:=OwnF names cs cl
 mono:=OwnF.mono
section
variable {prog:Program} {w:World} {dp un:Nat} {gd:Option (List Code)} {cn:Str} {cs:Scope} {L a:Addr} {ccd:Value} {cl:List (Str×Addr)} {outer:List Env} {h₀:Heap} {hu:un+200<cLine} {names:List Str}
theorem rd_loc{x:Str}{i:Nat}(hi:names[i]?=some x)(hx:cs.names.lookup x=some .local)(hk:cs.kind=.function)(hd:(x == ("__debug__":Str))=false): Rd prog w (Zbm dp un gd cn cs L a ccd cl outer h₀ hu names) x i:=by
 intro W ρ H fr s Q E v pos r e q
 obtain⟨m,c,led,r⟩:=r
 obtain⟨y,h1,h2⟩:=r.own.loc i x v hi hx e
 exact nameX_L r.F h1 (q y h2) hk hx hd
theorem rd_cel{x:Str}{i:Nat}(hi:names[i]?=some x)(hx:cs.names.lookup x=some .cell)(hk:cs.kind=.function)(hd:(x == ("__debug__":Str))=false): Rd prog w (Zbm dp un gd cn cs L a ccd cl outer h₀ hu names) x i:=by
 intro W ρ H fr s Q E v pos r e q
 obtain⟨m,c,led,r⟩:=r
 obtain⟨d,o,y,h1,h2,h3,h4⟩:=r.own.cel i x v hi hx e
 exact nameX_C r.N h1 (r.clIn _ h2) h3 (q y h4) hk hx hd
theorem sto_loc{x:Str}{i:Nat}(nd:names.Nodup)(hi:names[i]?=some x)(hx:cs.names.lookup x=some .local)(hk:cs.kind=.function): Sto prog w (Zbm dp un gd cn cs L a ccd cl outer h₀ hu names) x i:=by
 intro W ρ H fr s Q E v y r vy q
 obtain⟨m,c,led,r⟩:=r
 have hi':i<names.length:=(Zz6.mp hi).1
 refine storeX_L r.F r.N (fun h' F' N'=>q h' _ ⟨_,c,led,⟨F',N',r.R,r.sc,r.sc0,r.frIn,r.frOff,r.clIn,r.clOff,r.apart,r.frTup,r.clTup,⟨fun j z u hj hz hu=>?_,fun j z u hj hz hu=>?_,r.own.all,r.own.one⟩⟩⟩) hk hx
 ·by_cases e:j=i
  ·subst e
   rw[hi]at hj
   cases hj
   simp only[upd,if_true]at hu
   cases hu
   exact⟨y,by simp,vy⟩
  ·have hzx:z≠x:=fun e'=>by
    subst e'
    exact e ((List.getElem?_inj (Zz6.mp hj).1 nd).mp (hj.trans hi.symm))
   simp only[upd,if_neg e]at hu
   obtain⟨y',h1,h2⟩:=r.own.loc j z u hj hz hu
   exact⟨y',by simp[hzx,h1],h2⟩
 ·by_cases e:j=i
  ·subst e
   rw[hi]at hj
   cases hj
   rw[hx]at hz
   cases hz
  ·simp only[upd,if_neg e]at hu
   exact r.own.cel j z u hj hz hu
theorem sto_cel{x:Str}{i:Nat}(nd:names.Nodup)(hi:names[i]?=some x)(hx:cs.names.lookup x=some .cell)(hk:cs.kind=.function)(hcl:(cl.lookup x).isSome=true): Sto prog w (Zbm dp un gd cn cs L a ccd cl outer h₀ hu names) x i:=by
 intro W ρ H fr s Q E v y r vy q
 obtain⟨m,c,led,r⟩:=r
 obtain⟨d,hd⟩:=Option.isSome_iff_exists.mp hcl
 obtain⟨o,v₀,ho,hv₀⟩:=r.own.all x d hd
 have inl:=r.clIn _ ho
 have N2:News h₀ L s.heap ((d,o)::led.filter (fun q=>decide (q.1≠d))):=by
  intro q hq
  rcases Zz7.mp hq with e | hq
  ·subst e
   exact r.N _ inl
  ·exact r.N q (List.mem_filter.mp hq).1
 refine storeX_C r.F N2 hd (UpdF.head fun q hq=>by simpa using (List.mem_filter.mp hq).2) hv₀ (fun h' o' F' N' ho'=>?_) hk hx
 have keep:∀q∈led,q.1≠d→q∈(d,o')::led.filter (fun q=>decide (q.1≠d)):=fun q hq hn=>Zy3 _ (Zy9.mpr ⟨hq,by simpa using hn⟩)
 refine q h' s.toks ⟨m,(d,o')::c.filter (fun q=>decide (q.1≠d)),_,⟨F',N',⟨r.R.len,r.R.nd,fun j vs e ni=>?_,fun q hq=>ZbQ (r.R.tups q hq) fun z=>keep q z (r.clTup _ ho q hq).symm,r.R.kind,fun j vs fs e hi=>?_,r.R.inlt,r.R.iuni⟩,r.sc,r.sc0,fun q hq=>keep q (r.frIn q hq) (r.apart _ ho q hq).symm,r.frOff,fun q hq=>?_,fun q hq=>?_,fun q hq t ht=>?_,r.frTup,fun q hq t ht=>?_,⟨fun j z u hj hz hu=>?_,fun j z u hj hz hu=>?_,fun z e hz=>?_,r.own.one⟩⟩⟩
 ·obtain⟨l,b,xs,k,h1,h2,h3⟩:=r.R.lists j vs e ni
  exact⟨l,b,xs,k,h1,ZbQ h2 fun z=>keep _ z fun e=>r.clOff _ ho (e▸Zy4 h1),h3⟩
 ·obtain⟨l,b,od,xs,h1,h2,h3⟩:=r.R.objs j vs fs e hi
  exact⟨l,b,od,xs,h1,ZbQ h2 fun z=>keep _ z fun e=>r.clOff _ ho (e▸Zy4 h1),h3⟩
 ·rcases Zz7.mp hq with e | hq
  ·exact e▸List.mem_cons_self
  ·obtain⟨h1,h2⟩:=List.mem_filter.mp hq
   exact keep q (r.clIn q h1) (by simpa using h2)
 ·rcases Zz7.mp hq with e | hq
  ·rw[e]
   exact(r.clOff _ ho:d∉W.pi)
  ·exact r.clOff q (List.mem_filter.mp hq).1
 ·rcases Zz7.mp hq with e | hq
  ·rw[e]
   exact(r.apart _ ho t ht:d≠t.1)
  ·exact r.apart q (List.mem_filter.mp hq).1 t ht
 ·rcases Zz7.mp hq with e | hq
  ·rw[e]
   exact(r.clTup _ ho t ht:d≠t.1)
  ·exact r.clTup q (List.mem_filter.mp hq).1 t ht
 ·by_cases e:j=i
  ·subst e
   rw[hi]at hj
   cases hj
   rw[hx]at hz
   cases hz
  ·simp only[upd,if_neg e]at hu
   exact r.own.loc j z u hj hz hu
 ·by_cases e:j=i
  ·subst e
   rw[hi]at hj
   cases hj
   simp only[upd,if_true]at hu
   cases hu
   exact⟨d,o',y,hd,List.mem_cons_self,ho',vy⟩
  ·have hzx:z≠x:=fun e'=>by
    subst e'
    exact e ((List.getElem?_inj (Zz6.mp hj).1 nd).mp (hj.trans hi.symm))
   simp only[upd,if_neg e]at hu
   obtain⟨b,ob,y',h1,h2,h3,h4⟩:=r.own.cel j z u hj hz hu
   have:b≠d:=fun e'=>by
    subst e'
    exact hzx (r.own.one z x b h1 hd)
   exact⟨b,ob,y',h1,Zy3 _ (Zy9.mpr ⟨h2,by simpa using this⟩),h3,h4⟩
 ·by_cases e':e=d
  ·subst e'
   exact⟨o',_,List.mem_cons_self,ho'⟩
  ·obtain⟨ob,v1,h1,h2⟩:=r.own.all z e hz
   exact⟨ob,v1,Zy3 _ (Zy9.mpr ⟨h1,by simpa using e'⟩),h2⟩
end
end PM
end
section
namespace PM
open PySem PySem.W PySem.Calls PyProof.Rows PyProof PyProof.Rows.LCg
theorem Ziq{Γ:Cx}{W:Wd}{ρ:Lc}{H:Hp}{fr:List (Addr×Obj)}{h:Heap}{D:Addr}{ys:List Value}{k:Nat}{vs:List V}(r:Rep Γ W ρ H ((D,Zbf ys k)::fr) h)(ap:∀t∈fr,D≠t.1)(hv:VRs W vs ys)(hl:vs.length≤ZX):
  ∃W',W.Le W'∧Rep Γ W' ρ (H++[vs]) fr h∧VR W' (.ref H.length) (.ref D):=by
 obtain⟨m,c,led,r⟩:=r
 have le:W.Le ⟨W.pi++[D],W.tups,W.sc,W.ins⟩:=⟨List.prefix_append _ _,fun q hq=>hq,rfl,fun _ h=>h,fun _ h=>.inl h⟩
 have nin:∀q∈W.ins,q.1≠H.length:=fun q hq e=>by have:=r.R.inlt q hq;lia
 have h0:0<W.pi.length:=(Zz6.mp r.sc0).1
 have at_n:(W.pi++[D])[H.length]?=some D:=by rw[←r.R.len];simp
 have off:=r.frOff _ Zz5
 refine⟨⟨W.pi++[D],W.tups,W.sc,W.ins⟩,le,⟨m,c,led,⟨r.F,r.N,⟨by simp[r.R.len],?_,fun i us e ni=>?_,r.R.tups,r.R.kind,fun i us fs e hi=>?_,fun q hq=>by have:=r.R.inlt q hq;simp;lia,r.R.iuni⟩,r.sc,(Zy0 h0).trans r.sc0,fun q hq=>r.frIn q (Zz2 _ hq),fun q hq=>?_,r.clIn,fun q hq=>?_,fun q hq t ht=>r.apart q hq t (Zz2 _ ht),fun q hq=>r.frTup q (Zz2 _ hq),r.clTup,Γ.mono le r.own⟩⟩,.ref ⟨at_n,nin⟩⟩
 ·show(W.pi++[D]).Nodup
  rw[List.nodup_append]
  refine⟨r.R.nd,by simp,fun a ha b hb=>?_⟩
  rw[List.mem_singleton.mp hb]
  exact fun e=>off (e▸ha)
 ·by_cases hi:i<H.length
  ·rw[Zy0 hi]at e
   obtain⟨l,a,zs,j,h1,h2,h3⟩:=r.R.lists i us e ni
   exact⟨l,a,zs,j,le.piAt h1,h2,h3.mono le⟩
  ·have:i=H.length:=by
    have:=(Zz6.mp e).1
    simp at this
    lia
   subst this
   simp at e
   subst e
   exact⟨hl,D,ys,k,at_n,Zy3 _ (r.frIn _ Zz5),hv.mono le⟩
 ·have hi':i<H.length:=r.R.inlt _ hi
  rw[Zy0 hi']at e
  obtain⟨l,a,od,zs,h1,h2,h3,h4⟩:=r.R.objs i us fs e hi
  exact⟨l,a,od,zs,le.piAt h1,h2,h3,h4.mono le⟩
 ·intro hm
  rcases Zz8.mp hm with hm | hm
  ·exact r.frOff q (Zz2 _ hq) hm
  ·exact ap q hq (Zz9.mp hm).symm
 ·intro hm
  rcases Zz8.mp hm with hm | hm
  ·exact r.clOff q hq hm
  ·exact r.apart q hq _ Zz5 (Zz9.mp hm)
noncomputable def ZqU(Γ:Cx)(C:Addr)(ts:List (Str×Nat))(ρ0:Lc)(W:Wd)(ρ:Lc)(m:Str→Option Value)(cells:List (Addr×Obj)): Prop:=
 ∃oC m₂ cs,cells=(C,oC)::cs∧(∀q∈cs,q.1≠C)∧NsObj oC m₂∧(∀p∈ts,∃v y,ρ p.2=some v∧m₂ p.1=some y∧VR W v y)∧(∀j,(∀p∈ts,p.2≠j)→ρ j=ρ0 j)∧Γ.Own W ρ0 m cs
noncomputable def ZaZ(Γ:Cx)(scope:Scope)(cl:List (Str×Addr))(C:Addr)(ts:List (Str×Nat))(ρ0:Lc): Cx where
 A:=Γ.A
 env:=compEnvC scope cl C Γ.env
 h₀:=Γ.h₀
 L:=Γ.L
 hh:=Γ.hh
 hu:=Γ.hu
 Own:=ZqU Γ C ts ρ0
 mono:=fun l h=>by
  obtain⟨oC,m₂,cs,e,h0,h1,h2,h3,h4⟩:=h
  exact⟨oC,m₂,cs,e,h0,h1,fun p hp=>by
   obtain⟨v,y,a,b,c⟩:=h2 p hp
   exact⟨v,y,a,b,c.mono l⟩,h3,Γ.mono l h4⟩
section
variable {Γ:Cx} {scope:Scope} {cl:List (Str×Addr)} {C:Addr} {ts:List (Str×Nat)} {ρ0:Lc} {W:Wd} {ρ:Lc} {H:Hp} {fr:List (Addr×Obj)} {h:Heap}
theorem ZkS{oC:Obj}{m₂:Str→Option Value}(r:Rep Γ W ρ0 H ((C,oC)::fr) h)(ap:∀t∈fr,C≠t.1)(hC:NsObj oC m₂)(ht:∀p∈ts,∃v y,ρ p.2=some v∧m₂ p.1=some y∧VR W v y)(hj:∀j,(∀p∈ts,p.2≠j)→ρ j=ρ0 j): Rep (ZaZ Γ scope cl C ts ρ0) W ρ H fr h:=by
 obtain⟨m,c,led,r⟩:=r
 refine⟨m,(C,oC)::c,led,⟨r.F,r.N,r.R,r.sc,r.sc0,fun q hq=>r.frIn q (Zz2 _ hq),fun q hq=>r.frOff q (Zz2 _ hq),fun q hq=>?_,fun q hq=>?_,fun q hq t ht=>?_,fun q hq=>r.frTup q (Zz2 _ hq),fun q hq t ht=>?_,⟨oC,m₂,c,rfl,fun q hq=>r.apart q hq _ Zz5,hC,ht,hj,r.own⟩⟩⟩
 ·rcases Zz7.mp hq with e | hq
  ·exact e▸r.frIn _ Zz5
  ·exact r.clIn q hq
 ·rcases Zz7.mp hq with e | hq
  ·exact e▸r.frOff _ Zz5
  ·exact r.clOff q hq
 ·rcases Zz7.mp hq with e | hq
  ·exact e▸ap t ht
  ·exact r.apart q hq t (Zz2 _ ht)
 ·rcases Zz7.mp hq with e | hq
  ·exact e▸r.frTup _ Zz5 t ht
  ·exact r.clTup q hq t ht
theorem Rep.fromC(r:Rep (ZaZ Γ scope cl C ts ρ0) W ρ H fr h): ∃oC m₂,NsObj oC m₂∧Rep Γ W ρ0 H ((C,oC)::fr) h:=by
 obtain⟨m,c,led,r⟩:=r
 obtain⟨oC,m₂,cs,e,h0,h1,h2,h3,h4⟩:=r.own
 subst e
 refine⟨oC,m₂,h1,m,cs,led,⟨r.F,r.N,r.R,r.sc,r.sc0,fun q hq=>?_,fun q hq=>?_,fun q hq=>r.clIn q (Zz2 _ hq),fun q hq=>r.clOff q (Zz2 _ hq),fun q hq t ht=>?_,fun q hq t ht=>?_,fun q hq=>r.clTup q (Zz2 _ hq),h4⟩⟩
 ·rcases Zz7.mp hq with e | hq
  ·exact e▸r.clIn _ Zz5
  ·exact r.frIn q hq
 ·rcases Zz7.mp hq with e | hq
  ·exact e▸r.clOff _ Zz5
  ·exact r.frOff q hq
 ·rcases Zz7.mp ht with e | ht
  ·rw[e]
   exact h0 q hq
  ·exact r.apart q (Zz2 _ hq) t ht
 ·rcases Zz7.mp hq with e | hq
  ·exact e▸r.clTup _ Zz5 t ht
  ·exact r.frTup q hq t ht
end
noncomputable def JF(prog:Program)(w:World)(Γ:Cx)(ifs:List Expr)(f:Ts): Prop:=∀(W:Wd) (ρ:Lc) (H:Hp) (fr:List (Addr×Obj)) (s:Shared) (Q:Bool→Shared→Prop) (E:Value→Shared→Prop) (b:Bool) (H':Hp),
 Rep Γ W ρ H fr s.heap→f ρ H=some (b,H')→Zg1 Γ W ρ H' fr s Q b →
 wpAny (model prog w) Γ.A (forIn ifs true fun c r=>if r=true then do let ok ←isTrue c Γ.env (eval c Γ.env);pure (ForInStep.yield ok)else pure (ForInStep.yield r)) Q E s
section
variable {prog:Program} {w:World} {Γ:Cx}
theorem JF.nil: JF prog w Γ [] ZZ:=fun W ρ H fr s Q E b H' r hf post=>by
 cases hf
 exact wpAny_pure (post W s.heap s.toks (.refl W) r)
end
end PM
end
section
namespace PM
open PySem PySem.W PySem.Calls PyProof.Rows PyProof PyProof.Rows.LCg
noncomputable def ZaF(nx:Nx)(put:V→Lc→Option Lc)(c:Ts)(f:Ex)(ρ:Lc): Nat→Nat→List V→Hp→Option (List V×Hp)
 | 0,_,_,_=>none
 | n+1,i,acc,H=>(nx i H).bind fun o=>match o with
  | none=>some (acc,H)
  | some v=>(put v ρ).bind fun ρ1=>(c ρ1 H).bind fun b=>if b.1 then(f ρ1 b.2).bind fun p=>(if acc.length<ZX then ZaF nx put c f ρ n (i+1) (acc++[p.1]) p.2 else none)else ZaF nx put c f ρ n (i+1) acc b.2
noncomputable def Zam(g:Src)(put:V→Lc→Option Lc)(c:Ts)(f:Ex): Ex:=fun ρ H=>(g ρ H).bind fun z=>(ZaF z.1 put c f ρ z.2.1 0 [] z.2.2).map fun q=>(.ref q.2.length,q.2++[q.1])
noncomputable def ZfK(Γ:Cx)(W0:Wd)(ρ:Lc)(fr:List (Addr×Obj))(C D:Addr)(It:Nat→List (Addr×Obj)→Prop)(nx:Nx)(put:V→Lc→Option Lc)(c:Ts)(f:Ex)(q:List V×Hp)(s:Shared)(k:Nat)(s':Shared): Prop:=
 ∃W' H' h' tk' j fs acc ys oC m₂,s' = { s with heap:=h',toks:=tk' }∧W0.Le W'∧It j fs∧NsObj oC m₂∧VRs W' acc ys∧acc.length≤ZX∧Rep Γ W' ρ H' ((C,oC)::(D,lst ys)::(fs++fr)) h'∧ZaF nx put c f ρ k j acc H'=some q
section
variable {prog:Program} {w:World} {Γ:Cx}
theorem Zkh{scope:Scope}{cl:List (Str×Addr)}{elt:Expr}{ts:List (Str×Nat)}{W0 W:Wd}{ρ ρ1:Lc}{H:Hp}{fr fs:List (Addr×Obj)}{C D:Addr}{It:Nat→List (Addr×Obj)→Prop}{nx:Nx}{put:V→Lc→Option Lc}{c:Ts}{f:Ex}{q:List V×Hp}{s:Shared}{h:Heap}{tk:Nat}{k j:Nat}{acc:List V}{ys:List Value}{E:Value→Shared→Prop}
  (hel:J prog w (ZaZ Γ scope cl C ts ρ) elt f) (aD:∀t∈fs++fr,D≠t.1) (cd:C≠D) (l0:W0.Le W) (hit:It (j+1) fs) (hv:VRs W acc ys) (r:Rep (ZaZ Γ scope cl C ts ρ) W ρ1 H ((D,lst ys)::(fs++fr)) h)
  (e:((f ρ1 H).bind fun p=>(if acc.length<ZX then ZaF nx put c f ρ k (j+1) (acc++[p.1]) p.2 else none))=some q):
  wpAny (model prog w) Γ.A (eval elt (compEnvC scope cl C Γ.env)) (fun x s₄=>wpAny (model prog w) Γ.A (call (.builtin "list.append") [.ref D,x]) (fun _ s₅=>∃m,m<k+1∧ZfK Γ W0 ρ fr C D It nx put c f q s m s₅) E s₄) E { s with heap:=h,toks:=tk }:=by
 obtain⟨p,e2,e⟩:=Zz0.mp e
 by_cases hlt:acc.length<ZX
 ·rw[if_pos hlt]at e
  refine hel W ρ1 H _ _ _ E _ _ r e2 fun W2 k2 t2 x l2 r2 x2=>?_
  obtain⟨oC',m₃,hC',r3⟩:=r2.fromC
  have hD:k2.get? D=some (lst ys):=r3.frAt (q:=(D,lst ys)) (Zz2 _ Zz5)
  refine append_at (hsz:=Zcr (by rw[List.size_toArray,hv.length];lia)) hD fun h' sb hg=>?_
  have hg':h'.get? D=some (lst (ys++[x])):=hg.trans (congrArg some (lst_snoc ys x))
  have r4:Rep Γ W2 ρ p.2 ([(D,lst ys)]++((C,oC')::(fs++fr))) k2:=r3.less fun q hq=>by
   rcases Zz8.mp hq with hq | hq
   ·rw[List.mem_singleton.mp hq]
    exact Zz2 _ Zz5
   ·rcases Zz7.mp hq with e | hq
    ·exact e▸List.mem_cons_self
    ·exact Zz2 _ (Zz2 _ hq)
  have r5:Rep Γ W2 ρ p.2 ([(D,lst (ys++[x]))]++((C,oC')::(fs++fr))) h':=by
   refine r4.swap (fun q hq t ht=>?_) (fun b o hb e=>sb.extBut b o (fun z=>hb (by simp[z])) e) fun q hq=>?_
   ·rw[List.mem_singleton.mp hq]
    rcases Zz7.mp ht with e | ht
    ·rw[e]
     exact cd.symm
    ·exact aD t ht
   ·rw[List.mem_singleton.mp hq]
    exact⟨hg',by simp⟩
  have r6:Rep Γ W2 ρ p.2 ((C,oC')::(D,lst (ys++[x]))::(fs++fr)) h':=r5.less fun q hq=>by
   rcases Zz7.mp hq with e | hq
   ·exact e▸List.mem_append_right _ Zz5
   ·rcases Zz7.mp hq with e | hq
    ·exact e▸Zy7 _ Zz5
    ·exact Zz3 _ (Zz2 _ hq)
  exact⟨k,Nat.lt_succ_self k,W2,p.2,h',t2,j+1,fs,acc++[p.1],ys++[x],oC',m₃,rfl,l0.trans l2,hit,hC',(hv.mono l2).snoc x2,by simp;lia,r6,e⟩
 ·rw[if_neg hlt]at e
  cases e
theorem ZnG{scope:Scope}{cl:List (Str×Addr)}{elt:Expr}{ifs:List Expr}{ts:List (Str×Nat)}{W0 W:Wd}{ρ ρ1:Lc}{H:Hp}{fr fs:List (Addr×Obj)}{C D:Addr}{It:Nat→List (Addr×Obj)→Prop}{nx:Nx}{put:V→Lc→Option Lc}{c:Ts}{f:Ex}{q:List V×Hp}{s s1:Shared}{k j:Nat}{acc:List V}{ys:List Value}{oC:Obj}{m₂:Str→Option Value}{E:Value→Shared→Prop}
  (hel:J prog w (ZaZ Γ scope cl C ts ρ) elt f) (hif:JF prog w (ZaZ Γ scope cl C ts ρ) ifs c) (hs:∃h tk,s1 = { s with heap:=h,toks:=tk })
  (aC:∀t∈(D,lst ys)::(fs++fr),C≠t.1) (aD:∀t∈fs++fr,D≠t.1) (l0:W0.Le W) (hit:It (j+1) fs) (hC:NsObj oC m₂) (hv:VRs W acc ys) (hl:acc.length≤ZX) (r:Rep Γ W ρ H ((C,oC)::(D,lst ys)::(fs++fr)) s1.heap)
  (ht:∀p∈ts,∃v y,ρ1 p.2=some v∧m₂ p.1=some y∧VR W v y) (hj:∀i,(∀p∈ts,p.2≠i)→ρ1 i=ρ i)
  (e:((c ρ1 H).bind fun b=>if b.1 then(f ρ1 b.2).bind fun p=>(if acc.length<ZX then ZaF nx put c f ρ k (j+1) (acc++[p.1]) p.2 else none)else ZaF nx put c f ρ k (j+1) acc b.2)=some q):
  wpAny (model prog w) Γ.A (forIn ifs true fun c r=>if r=true then do let ok ←isTrue c (compEnvC scope cl C Γ.env) (eval c (compEnvC scope cl C Γ.env));pure (ForInStep.yield ok)else pure (ForInStep.yield r)) (fun ok s₃=>
   if ok=true then wpAny (model prog w) Γ.A (eval elt (compEnvC scope cl C Γ.env)) (fun x s₄=>wpAny (model prog w) Γ.A (call (.builtin "list.append") [.ref D,x]) (fun _ s₅=>∃m,m<k+1∧ZfK Γ W0 ρ fr C D It nx put c f q s m s₅) E s₄) E s₃
   else ∃m,m<k+1∧ZfK Γ W0 ρ fr C D It nx put c f q s m s₃) E s1:=by
 obtain⟨h,tk,rfl⟩:=hs
 obtain⟨b,e1,e⟩:=Zz0.mp e
 obtain⟨b,H1⟩:=b
 have rc:=ZkS (scope:=scope) (cl:=cl) r aC hC ht hj
 refine hif W ρ1 H _ _ _ E b H1 rc e1 fun W1 k1 t1 l1 r1=>?_
 cases b with
 | false=>
  obtain⟨oC',m₃,hC',r2⟩:=r1.fromC
  exact⟨k,Nat.lt_succ_self k,W1,H1,k1,t1,j+1,fs,acc,ys,oC',m₃,rfl,l0.trans l1,hit,hC',hv.mono l1,hl,r2,e⟩
 | true=>exact Zkh hel aD (aC (D,lst ys) Zz5) (l0.trans l1) hit (hv.mono l1) r1 e
theorem comp_core{elt iter:Expr}{x:Str}{px:Pos}{ifs:List Expr}{scope:Scope}{pos:Pos}{cl:List (Str×Addr)}{t:Nat}{g:Src}{c:Ts}{f:Ex}(hg:JI prog w Γ iter g)(hel:∀C ρ,J prog w (ZaZ Γ scope cl C [(x,t)] ρ) elt f)(hif:∀C ρ,JF prog w (ZaZ Γ scope cl C [(x,t)] ρ) ifs c)
  (hcell:∀y∈scope.names,y.2≠.cell) (hkind:scope.kind=.function) (hx:scope.names.lookup x=some .local)
  {W:Wd} {ρ:Lc} {H:Hp} {fr:List (Addr×Obj)} {s:Shared} {E:Value→Shared→Prop} {q:List V×Hp} {RR:Value→Addr→Result→Shared→Prop} (r:Rep Γ W ρ H fr s.heap) (hf:((g ρ H).bind fun z=>ZaF z.1 (ZQ t) c f ρ z.2.1 0 [] z.2.2)=some q)
  (hR:∀(W':Wd) (h':Heap) (tk':Nat) (C D:Addr) (oC:Obj) (m₂:Str→Option Value) (ys:List Value),W.Le W'→NsObj oC m₂→VRs W' q.1 ys→q.1.length≤ZX→(∀t∈fr,D≠t.1)→(∀t∈fr,C≠t.1)→C≠D→Rep Γ W' ρ q.2 ((C,oC)::(D,lst ys)::fr) h'→RR (.ref D) C (.ok .next) { s with heap:=h',toks:=tk' }):
  wpAny (model prog w) Γ.A (eval iter Γ.env) (fun xv s₁=>wpAny (model prog w) Γ.A (pyIter xv) (fun it s₂=>wpAny (model prog w) Γ.A (newList []) (fun acc s₃=>wpAny (model prog w) Γ.A (newFunctionEnv scope Γ.env.globals cl [] Γ.env.qual none .none (some Γ.env)) (fun cenv s₄=>
   codeAny (model prog w) Γ.A (.compStart (.ListComp elt [⟨.Name x px,iter,ifs,0⟩] scope pos) 0 it acc { cenv with scope:=relabel scope Γ.env }) (RR acc cenv.locals) s₄) E s₃) E s₂) E s₁) E s:=by
 obtain⟨z,e1,e2⟩:=Zz0.mp hf
 obtain⟨nx,n,H0⟩:=z
 refine hg W ρ H fr s _ E nx n H0 r e1 fun W1 k1 t1 itv as It fs l1 i1 r1 ap I1=>?_
 refine wpAny_newObj_type (wpAny_newFunctionEnv hcell (fun y hy=>by simp at hy) (fun h₂ hns hsb=>?_) hkind)
 dsimp only at hns hsb ⊢
 obtain⟨rD,aD⟩:=r1.more (fs:=[(k1.objs.size,lst [])]) (fun b o e=>Heap.get?_push_of_some (lst []) e) (fun q hq=>by rw[List.mem_singleton.mp hq];exact⟨Heap.get?_push_size _ rfl,Nat.le_refl _⟩)
 generalize eH:k1.push { cls:=.type "list",dict:=none,data:=.seq ([]:List Value).toArray } = K at hns hsb ⊢
 have eK:k1.push (lst [])=K:=eH
 rw[eK]at rD
 obtain⟨oC,gC,nC⟩:=ns_obj hns
 have up:∀b o,K.get? b=some o→h₂.get? b=some o:=fun b o e=>hsb.extBut b o (Nat.ne_of_lt (Heap.lt_size e)) (Heap.get?_push_of_some _ e)
 obtain⟨rC,aC⟩:=rD.more (fs:=[(K.objs.size,oC)]) up (fun q hq=>by rw[List.mem_singleton.mp hq];exact⟨gC,Nat.le_refl _⟩)
 have adr0:=I1.adr 0 fs i1
 have offs:∀b∈as,b≠k1.objs.size∧b≠K.objs.size:=fun b hb=>by
  rw[←adr0]at hb
  obtain⟨q,hq,e⟩:=Zz11.mp hb
  exact⟨e▸(aD _ Zz5 q (Zz4 _ hq)).symm,e▸(aC _ Zz5 q (Zz3 _ (Zz4 _ hq))).symm⟩
 have cd:K.objs.size≠k1.objs.size:=aC _ Zz5 (k1.objs.size,lst []) (Zz4 _ Zz5)
 have cfr:∀t∈fr,K.objs.size≠t.1:=fun t ht=>aC _ Zz5 t (Zz3 _ (Zz3 _ ht))
 have dfr:∀t∈fr,k1.objs.size≠t.1:=fun t ht=>aD _ Zz5 t (Zz3 _ ht)
 generalize k1.objs.size=D at *
 generalize K.objs.size=C at *
 have loop:∀s₃:Shared,s₃ = { s with heap:=h₂,toks:=t1+([]:List (Str×Value)).length } →
   codeAny (model prog w) Γ.A (.compLoop (.ListComp elt [⟨.Name x px,iter,ifs,0⟩] scope pos) 0 itv (.ref D) (compEnvC scope cl C Γ.env)) (RR (.ref D) C) s₃:=by
  intro s₃ hs₃
  subst hs₃
  refine codeAny_compLoop_tests (ZfK Γ W1 ρ fr C D It nx (ZQ t) c f q s) ?_ n ⟨W1,H0,h₂,_,0,fs,[],[],oC,_,rfl,.refl _,i1,nC,.nil,Nat.zero_le _,rC,e2⟩
  rintro k s' ⟨W2,H2,k2,t2,j,fs2,acc,ys,oC2,m₂,rfl,l2,i2,hC2,hv2,hl2,r2,e⟩
  cases k with
  | zero=>first|exact Zx0 e|cases e
  | succ k=>
   obtain⟨o,e4,e⟩:=Zz0.mp e
   have r2':Rep Γ W2 ρ H2 (fs2++((C,oC2)::(D,lst ys)::fr)) k2:=r2.less fun q hq=>by
    rcases Zz8.mp hq with hq | hq
    ·exact Zz2 _ (Zz2 _ (Zz4 _ hq))
    ·rcases Zz7.mp hq with e | hq
     ·exact e▸List.mem_cons_self
     ·rcases Zz7.mp hq with e | hq
      ·exact e▸Zy3 _ Zz5
      ·exact Zz2 _ (Zz2 _ (Zz3 _ hq))
   have ap2:∀b∈as,∀t∈(C,oC2)::(D,lst ys)::fr,b≠t.1:=fun b hb t ht=>by
    rcases Zz7.mp ht with e | ht
    ·rw[e]
     exact(offs b hb).2
    ·rcases Zz7.mp ht with e | ht
     ·rw[e]
      exact(offs b hb).1
     ·exact ap b hb t ht
   refine I1.next j W2 ρ H2 _ fs2 _ _ _ o l2 r2' ap2 i2 e4 ?_
   cases o with
   | none=>
    cases e
    intro h' tk' r3
    exact hR W2 h' tk' C D oC2 m₂ ys (l1.trans l2) hC2 hv2 hl2 dfr cfr cd r3
   | some v=>
    intro fs3 k3 t3 y i3 r3 y3
    obtain⟨ρ3,e5,e⟩:=Zz0.mp e
    cases e5
    have a3:∀t∈fs3,t.1∈as:=fun t ht=>by
     rw[←I1.adr _ _ i3]
     exact List.mem_map_of_mem ht
    have gC3:k3.get? C=some oC2:=r3.frAt (q:=(C,oC2)) (Zz3 _ Zz5)
    have nC3:k3.Ns C m₂:=hC2.ns gC3
    refine wpAny_assign_Name (wpAny_storeName_local (lookup_relabel_local hx) nC3 (fun h4 hn4 sb4=>?_) (by simp[compEnvC,relabel,hkind]))
    obtain⟨oC4,gC4,nC4⟩:=ns_obj hn4
    have r3':Rep Γ W2 ρ H2 ([(C,oC2)]++((D,lst ys)::(fs3++fr))) k3:=r3.less fun q hq=>by
     rcases Zz8.mp hq with hq | hq
     ·rw[List.mem_singleton.mp hq]
      exact Zz3 _ Zz5
     ·rcases Zz7.mp hq with e | hq
      ·exact e▸List.mem_append_right _ (Zz2 _ Zz5)
      ·rcases Zz8.mp hq with hq | hq
       ·exact Zz4 _ hq
       ·exact Zz3 _ (Zz2 _ (Zz2 _ hq))
    have aC3:∀t∈(D,lst ys)::(fs3++fr),C≠t.1:=fun t ht=>by
     rcases Zz7.mp ht with e | ht
     ·rw[e]
      exact cd
     ·rcases Zz8.mp ht with ht | ht
      ·exact(offs _ (a3 t ht)).2.symm
      ·exact cfr t ht
    have aD3:∀t∈fs3++fr,D≠t.1:=fun t ht=>by
     rcases Zz8.mp ht with ht | ht
     ·exact(offs _ (a3 t ht)).1.symm
     ·exact dfr t ht
    have r4:Rep Γ W2 ρ H2 ([(C,oC4)]++((D,lst ys)::(fs3++fr))) h4:=by
     refine r3'.swap (fun q hq t ht=>?_) (fun b o hb e=>sb4.extBut b o (fun z=>hb (by simp[z,compEnvC])) e) fun q hq=>?_
     ·rw[List.mem_singleton.mp hq]
      exact aC3 t ht
     ·rw[List.mem_singleton.mp hq]
      exact⟨gC4,by simp⟩
    refine ZnG (hel C ρ) (hif C ρ) ⟨h4,_,rfl⟩ aC3 aD3 l2 i3 nC4 hv2 hl2 r4 (fun p hp=>?_) (fun i hi=>?_) e
    ·rw[List.mem_singleton.mp hp]
     exact⟨v,y,by simp[upd],by simp,y3⟩
    ·have:i≠t:=fun e=>hi (x,t) Zz5 e.symm
     simp[upd,this]
 refine codeAny_compStart_list (loop _ rfl) ?_
 exact I1.self 0 W1 ρ H0 (([(C,oC)]++[(D,lst [])])++fr) fs _ _ _ (.refl _) (rC.less fun q hq=>by
  rcases Zz8.mp hq with hq | hq
  ·exact Zz3 _ (Zz3 _ (Zz4 _ hq))
  ·rcases Zz8.mp hq with hq | hq
   ·rcases Zz8.mp hq with hq | hq
    ·exact Zz4 _ hq
    ·exact Zz3 _ (Zz4 _ hq)
   ·exact Zz3 _ (Zz3 _ (Zz3 _ hq))) i1 (loop _ rfl)
theorem Zkv{W:Wd}{ρ:Lc}{q:List V×Hp}{fr:List (Addr×Obj)}{C D:Addr}{oC:Obj}{ys:List Value}{h' h'':Heap}(hv:VRs W q.1 ys)(hl:q.1.length≤ZX)(aD:∀t∈fr,D≠t.1)(aC:∀t∈fr,C≠t.1)(cd:C≠D)(r:Rep Γ W ρ q.2 ((C,oC)::(D,lst ys)::fr) h')(sb:Heap.SameBut C h' h''):
  ∃W',W.Le W'∧Rep Γ W' ρ (q.2++[q.1]) fr h''∧VR W' (.ref q.2.length) (.ref D):=by
 have r4:Rep Γ W ρ q.2 ([]++((D,lst ys)::fr)) h'':=by
  refine Rep.swap (fs:=[(C,oC)]) (fs':=[]) r (fun q hq t ht=>?_) (fun b o hb e=>sb.extBut b o (fun z=>hb (by simp[z])) e) fun q hq=>nomatch hq
  rw[List.mem_singleton.mp hq]
  rcases Zz7.mp ht with e | ht
  ·rw[e]
   exact cd
  ·exact aC t ht
 exact Ziq r4 aD hv hl
theorem J.comp{elt iter:Expr}{x:Str}{px:Pos}{ifs:List Expr}{scope:Scope}{pos:Pos}{cl:List (Str×Addr)}{t:Nat}{g:Src}{c:Ts}{f:Ex}(hg:JI prog w Γ iter g)(hel:∀C ρ,J prog w (ZaZ Γ scope cl C [(x,t)] ρ) elt f)(hif:∀C ρ,JF prog w (ZaZ Γ scope cl C [(x,t)] ρ) ifs c)
  (hclos:closureFor scope Γ.env=pure cl) (hcell:∀y∈scope.names,y.2≠.cell) (hkind:scope.kind=.function) (hnames:∀y∈scope.names,y.2=.local→scope.names.lookup y.1=some .local) (hx:scope.names.lookup x=some .local) (hs:∀x,foldedSetIterable iter Γ.env x=pure x:=by intro _;rfl):
  J prog w Γ (.ListComp elt [⟨.Name x px,iter,ifs,0⟩] scope pos) (Zam g (ZQ t) c f):=by
 intro W ρ H fr s Q E v H' r hf post
 obtain⟨z,e1,hf⟩:=Zz0.mp hf
 obtain⟨q,e2,e3⟩:=Zz1.mp hf
 cases e3
 rw[eval_ListComp]
 refine wpAny_comprehension_free (use:=Option.none) rfl hs hclos hkind hnames ?_
 refine comp_core (RR:=fun acc C=>compPost (model prog w) Γ.A E Option.none Q acc C) hg hel hif hcell hkind hx r (q:=q) (by rw[e1];exact e2) fun W2 h' tk' C D oC m₂ ys l2 hC hv hl aD aC cd r3=>?_
 refine⟨m₂,hC.ns (r3.frAt (q:=(C,oC)) Zz5),fun h'' sb=>?_⟩
 obtain⟨W5,l5,r5,v5⟩:=Zkv hv hl aD aC cd r3 sb
 exact post W5 h'' tk' _ (l2.trans l5) r5 v5
theorem Zid{elt iter:Expr}{x y:Str}{px py pos spos:Pos}{ifs:List Expr}{scope:Scope}{cl:List (Str×Addr)}{t i:Nat}{g:Src}{c:Ts}{f:Ex}(hy:Sto prog w Γ y i)(hg:JI prog w Γ iter g)(hel:∀C ρ,J prog w (ZaZ Γ scope cl C [(x,t)] ρ) elt f)(hif:∀C ρ,JF prog w (ZaZ Γ scope cl C [(x,t)] ρ) ifs c)
  (hsw:swapsWith (.ListComp elt [⟨.Name x px,iter,ifs,0⟩] scope pos) (some (.Name y py)) spos.line Γ.env=pure true)
  (hclos:closureFor scope Γ.env=pure cl) (hcell:∀y∈scope.names,y.2≠.cell) (hkind:scope.kind=.function) (hnames:∀y∈scope.names,y.2=.local→scope.names.lookup y.1=some .local) (hx:scope.names.lookup x=some .local) (hs:∀x,foldedSetIterable iter Γ.env x=pure x:=by intro _;rfl):
  S1 prog w Γ (.Assign [.Name y py] (.ListComp elt [⟨.Name x px,iter,ifs,0⟩] scope pos) spos) (Zw i (Zam g (ZQ t) c f)):=by
 intro W ρ H fr s Q E r rp hf post
 obtain⟨p,e0,e9⟩:=Zz1.mp hf
 cases e9
 obtain⟨z,e1,hf⟩:=Zz0.mp e0
 obtain⟨q,e2,e3⟩:=Zz1.mp hf
 cases e3
 rw[exec_Assign_Name_used _ _ _ _ hsw]
 refine wpAny_bind (wpAny_standAt (wpAny_bind ?_))
 show wpAny _ Γ.A (do let _ ←comprehension (.ListComp elt [⟨.Name x px,iter,ifs,0⟩] scope pos) scope Γ.env _ (newList []) false (eval iter Γ.env) (some (assign (.Name y py) Γ.env))) _ _ s
 refine wpAny_bind (wpAny_mono (wpAny_comprehension_free (use:=some (assign (.Name y py) Γ.env)) (Q:=fun _ s'=>Q .next s') rfl hs hclos hkind hnames ?_) (fun _ s' h'=>wpAny_pure (wpAny_pure h')) fun _ _ e=>e)
 refine comp_core (RR:=fun acc C=>compPost (model prog w) Γ.A E (some (assign (.Name y py) Γ.env)) (fun _ s'=>Q .next s') acc C) hg hel hif hcell hkind hx rp (q:=q) (by rw[e1];exact e2) fun W2 h' tk' C D oC m₂ ys l2 hC hv hl aD aC cd r3=>?_
 have r4:Rep Γ W2 ρ q.2 ((D,lst ys)::(C,oC)::fr) h':=r3.less fun t ht=>by
  rcases Zz7.mp ht with e | ht
  ·exact e▸Zy3 _ Zz5
  ·rcases Zz7.mp ht with e | ht
   ·exact e▸List.mem_cons_self
   ·exact Zz2 _ (Zz2 _ ht)
 obtain⟨W5,l5,r5,v5⟩:=Ziq r4 (fun t ht=>by
  rcases Zz7.mp ht with e | ht
  ·rw[e]
   exact cd.symm
  ·exact aD t ht) hv hl
 refine wpAny_assign_Name (hy W5 ρ _ _ _ _ _ _ _ r5 v5 fun h6 t6 r6=>?_)
 refine⟨m₂,hC.ns (r6.frAt (q:=(C,oC)) Zz5),fun h'' sb=>?_⟩
 have r7:Rep Γ W5 (upd ρ i (.ref q.2.length)) (q.2++[q.1]) ([]++fr) h'':=
  Rep.swap (fs:=[(C,oC)]) (fs':=[]) r6 (fun q hq t ht=>by rw[List.mem_singleton.mp hq];exact aC t ht) (fun b o hb e=>sb.extBut b o (fun z=>hb (by simp[z])) e) fun q hq=>nomatch hq
 exact post W5 h'' t6 (l2.trans l5) r7
end
end PM
end
section
namespace PM
open PySem PySem.W PySem.Calls PyProof.Rows PyProof PyProof.Rows.LCg PyProof.Rows.LCp
theorem ZlW(h:Heap): ∀as:List Addr,(∀a∈as,∃o,h.get? a=some o)→∃fs:List (Addr×Obj),fs.map (·.1)=as∧∀q∈fs,h.get? q.1=some q.2
 | [],_=>⟨[],rfl,fun q hq=>nomatch hq⟩
 | a::as,d=>by
  obtain⟨o,ho⟩:=d a Zz5
  obtain⟨fs,h1,h2⟩:=ZlW h as fun b hb=>d b (Zz2 _ hb)
  refine⟨(a,o)::fs,by rw[List.map_cons,h1],fun q hq=>?_⟩
  rcases Zz7.mp hq with e | hq
  ·rw[e]
   exact ho
  ·exact h2 q hq
structure Itr2(prog:Program)(w:World)(Γ:Cx)(W0:Wd)(it:Value)(as:List Addr)(It:Nat→List (Addr×Obj)→Prop)(nx:Nx): Prop where
 adr:∀i fs,It i fs→fs.map (·.1)=as
 pair:∀i H v,nx i H=some (some v)→∃a b,v=.tup [a,b]
 item:∀(i:Nat) (W:Wd) (ρ:Lc) (H:Hp) (fr fs:List (Addr×Obj)) (s:Shared) (Q:Option Value→Shared→Prop) (E:Value→Shared→Prop) (a b:V),W0.Le W→Rep Γ W ρ H (fs++fr) s.heap→(∀a∈as,∀t∈fr,a≠t.1)→It i fs→nx i H=some (some (.tup [a,b])) →
  (∀(T:Addr) (h1:Heap) (t1:Nat),(∀(elts:List Expr) (k:Nat) (pos:Pos) (s1:Shared) (Q1:Unit→Shared→Prop) (E1:Value→Shared→Prop),s1 = { s with heap:=h1,toks:=t1 } →
    (∀(fs':List (Addr×Obj)) (h':Heap) (x y:Value),It (i+1) fs'→Rep Γ W ρ H (fs'++fr) h'→IsTup h' T #[x,y]→VR W a x→VR W b y→Q1 () { s with heap:=h',toks:=t1 })→wpAny (model prog w) Γ.A (letOwnedTupleGo (.Tuple elts k pos) it (.ref T)) Q1 E1 s1)→Q (some (.ref T)) { s with heap:=h1,toks:=t1 })→wpAny (model prog w) Γ.A (pyNext it) Q E s
 done:∀(i:Nat) (W:Wd) (ρ:Lc) (H:Hp) (fr fs:List (Addr×Obj)) (s:Shared) (Q:Option Value→Shared→Prop) (E:Value→Shared→Prop),W0.Le W→Rep Γ W ρ H (fs++fr) s.heap→(∀a∈as,∀t∈fr,a≠t.1)→It i fs→nx i H=some none →
  (∀(h':Heap) (tk':Nat),Rep Γ W ρ H fr h'→Q none { s with heap:=h',toks:=tk' })→wpAny (model prog w) Γ.A (pyNext it) Q E s
 self:∀(i:Nat) (W:Wd) (ρ:Lc) (H:Hp) (fr fs:List (Addr×Obj)) (s:Shared) (Q E:Value→Shared→Prop) (o:Option V),W0.Le W→Rep Γ W ρ H (fs++fr) s.heap→It i fs→nx i H=some o→Q it s→wpAny (model prog w) Γ.A (pyIter it) Q E s
noncomputable def JI2(prog:Program)(w:World)(Γ:Cx)(e:Expr)(g:Src): Prop:=∀(W:Wd) (ρ:Lc) (H:Hp) (fr:List (Addr×Obj)) (s:Shared) (Q E:Value→Shared→Prop) (nx:Nx) (n:Nat) (H':Hp),
 Rep Γ W ρ H fr s.heap→g ρ H=some (nx,n,H') →
 (∀(W':Wd) (h':Heap) (tk':Nat) (it:Value) (as:List Addr) (It:Nat→List (Addr×Obj)→Prop) (fs:List (Addr×Obj)),W.Le W'→It 0 fs→Rep Γ W' ρ H' (fs++fr) h'→(∀a∈as,∀t∈fr,a≠t.1)→Itr2 prog w Γ W' it as It nx→(∃o,nx 0 H'=some o)→Q it { s with heap:=h',toks:=tk' }) →
 wpAny (model prog w) Γ.A (eval e Γ.env) (fun xv s₁=>wpAny (model prog w) Γ.A (pyIter xv) Q E s₁) E s
noncomputable def Zfy(a b:Nat): Nx:=fun i H=>H[a]?.bind fun vs=>H[b]?.bind fun us=>match vs[i]?,us[i]? with
 | some x,some y=>some (some (.tup [x,y]))
 | _,_=>if i=min vs.length us.length then some none else none
noncomputable def Zhe(f g:Ex): Src:=fun ρ H=>(f ρ H).bind fun p=>(g ρ p.2).bind fun q=>match p.1,q.1 with
 | .ref a,.ref b=>q.2[a]?.bind fun vs=>q.2[b]?.map fun us=>(Zfy a b,min vs.length us.length+1,q.2)
 | _,_=>none
noncomputable def Zd5(i j:Nat): V→Lc→Option Lc
 | .tup [a,b],ρ=>some (upd (upd ρ i a) j b)
 | _,_=>none
noncomputable def ZS(z TI TO i1 i2 l1 l2:Addr)(i:Nat)(h:Heap): Prop:=IsZip h z TI TO .none∧PySem.IsPair h TI (.ref i1) (.ref i2)∧(∃a b,PySem.IsPair h TO a b)∧h.IsListIter i1 l1 i∧h.IsListIter i2 l2 i
theorem ZS.at{z TI TO i1 i2 l1 l2:Addr}{i:Nat}{h h':Heap}(x:ZS z TI TO i1 i2 l1 l2 i h)(e:∀a∈[z,TI,TO,i1,i2],∀o,h.get? a=some o→h'.get? a=some o): ZS z TI TO i1 i2 l1 l2 i h':=by
 obtain⟨h1,h2,⟨a,b,h3⟩,h4,h5⟩:=x
 exact⟨e z (by simp) _ h1,e TI (by simp) _ h2,⟨a,b,e TO (by simp) _ h3⟩,h4.at fun o x=>e i1 (by simp) o x,h5.at fun o x=>e i2 (by simp) o x⟩
theorem ZS.have{z TI TO i1 i2 l1 l2:Addr}{i:Nat}{h:Heap}(x:ZS z TI TO i1 i2 l1 l2 i h): ∀a∈[z,TI,TO,i1,i2],∃o,h.get? a=some o:=by
 obtain⟨h1,h2,⟨a,b,h3⟩,⟨o4,h4,_⟩,⟨o5,h5,_⟩⟩:=x
 intro c hc
 simp only[List.mem_cons,List.not_mem_nil,or_false]at hc
 rcases hc with e | e | e | e | e <;> subst e
 ·exact⟨_,h1⟩
 ·exact⟨_,h2⟩
 ·exact⟨_,h3⟩
 ·exact⟨_,h4⟩
 ·exact⟨_,h5⟩
noncomputable def ZIt(z TI TO i1 i2 l1 l2:Addr)(i:Nat)(fs:List (Addr×Obj)): Prop:=fs.map (·.1)=[z,TI,TO,i1,i2]∧∀h:Heap,(∀q∈fs,h.get? q.1=some q.2)→ZS z TI TO i1 i2 l1 l2 i h
theorem ZIt.mk'{z TI TO i1 i2 l1 l2:Addr}{i:Nat}{h:Heap}(x:ZS z TI TO i1 i2 l1 l2 i h): ∃fs,ZIt z TI TO i1 i2 l1 l2 i fs∧∀q∈fs,h.get? q.1=some q.2:=by
 obtain⟨fs,h1,h2⟩:=ZlW h [z,TI,TO,i1,i2] x.have
 refine⟨fs,⟨h1,fun h' e=>x.at fun a ha o ho=>?_⟩,h2⟩
 rw[←h1]at ha
 obtain⟨q,hq,eq⟩:=Zz11.mp ha
 have:=h2 q hq
 rw[eq,ho]at this
 cases this
 exact eq▸e q hq
section
variable {prog:Program} {w:World} {Γ:Cx}
theorem Zpr{W0:Wd}{z TI TO i1 i2 l1 l2:Addr}{a b:Nat}(ea:W0.At a l1)(eb:W0.At b l2)(D:ZipApart z TI TO i1 i2 l1 l2):
  Itr2 prog w Γ W0 (.ref z) [z,TI,TO,i1,i2] (ZIt z TI TO i1 i2 l1 l2) (Zfy a b):=by
 refine⟨fun i fs h=>h.1,?_,?_,?_,?_⟩
 ·intro i H v e
  obtain⟨vs,e1,e⟩:=Zz0.mp e
  obtain⟨us,e2,e⟩:=Zz0.mp e
  split at e
  ·first|exact Zx0 e|cases e
   exact⟨_,_,rfl⟩
  ·split at e <;> cases e
 ·intro i W ρ H fr fs s Q E va vb le r ap hit hn post
  obtain⟨vs,e1,e⟩:=Zz0.mp hn
  obtain⟨us,e2,e⟩:=Zz0.mp e
  have hvu:vs[i]?=some va∧us[i]?=some vb:=by
   split at e
   ·rename_i x y h1 h2
    cases e
    exact⟨h1,h2⟩
   ·split at e <;> cases e
  obtain⟨_,xs,k1,g1,v1⟩:=r.at e1 (le.at ea)
  obtain⟨_,ys,k2,g2,v2⟩:=r.at e2 (le.at eb)
  obtain⟨x,hx,rx⟩:=v1.at hvu.1
  obtain⟨y,hy,ry⟩:=v2.at hvu.2
  have st:ZS z TI TO i1 i2 l1 l2 i s.heap:=hit.2 _ fun q hq=>r.frAt (Zz4 _ hq)
  have Wk:=WalksT.zip2 (prog:=prog) (w:=w) (A:=Γ.A) Γ.hh z TI TO i1 i2 l1 l2 D xs.toArray ys.toArray
  have isl1:s.heap.IsList l1 xs.toArray:=⟨_,g1,rfl,k1,rfl⟩
  have isl2:s.heap.IsList l2 ys.toArray:=⟨_,g2,rfl,k2,rfl⟩
  have hi:i<min xs.toArray.size ys.toArray.size:=by
   have h1:=(Zz6.mp hx).1
   have h2:=(Zz6.mp hy).1
   simp
   omega
  refine Wk.item i s Q E hi ⟨st.1,st.2.1,st.2.2.1,st.2.2.2.1,st.2.2.2.2,isl1,isl2⟩ fun T vals h1 t1 hp hT hTup hmid keep1=>post T h1 t1 ?_
  intro elts k pos s1 Q1 E1 es1 q1
  subst es1
  have hTw:=Wk.apart i T _ hmid
  refine Wk.go elts k pos i T _ Q1 E1 hmid fun h2 st2 keep2=>?_
  obtain⟨x',y',hx',hy',ev⟩:=hp
  have ex:x'=x:=by
   have:xs[i]?=some x':=by simpa using hx'
   rw[hx]at this
   exact(Option.some.inj this).symm
  have ey:y'=y:=by
   have:ys[i]?=some y':=by simpa using hy'
   rw[hy]at this
   exact(Option.some.inj this).symm
  subst ex ey ev
  obtain⟨fs',hit',at'⟩:=ZIt.mk' (h:=h2) (⟨st2.1,st2.2.1,st2.2.2.1,st2.2.2.2.1,st2.2.2.2.2.1⟩:ZS z TI TO i1 i2 l1 l2 (i+1) h2)
  obtain⟨oT,gT,cT,nT,dT⟩:=hTup
  refine q1 fs' h2 x' y' hit' ?_ ⟨oT,keep2 T oT hTw gT,cT,nT,dT⟩ rx ry
  refine r.swap (fs':=fs') (fun q hq t ht=>?_) (fun c o hc e=>?_) fun q hq=>⟨at' q hq,?_⟩
  ·exact ap _ (hit.1▸List.mem_map_of_mem hq) t ht
  ·rw[hit.1]at hc
   have hcw:c∉[z,TO,i1,i2]:=fun h=>hc (by simp at h ⊢;rcases h with h | h | h | h <;> simp[h])
   exact keep2 c o hcw (keep1 c o hcw e)
  ·rw[hit.1,←hit'.1]
   exact List.mem_map_of_mem hq
 ·intro i W ρ H fr fs s Q E le r ap hit hn post
  obtain⟨vs,e1,e⟩:=Zz0.mp hn
  obtain⟨us,e2,e⟩:=Zz0.mp e
  obtain⟨_,xs,k1,g1,v1⟩:=r.at e1 (le.at ea)
  obtain⟨_,ys,k2,g2,v2⟩:=r.at e2 (le.at eb)
  have hi:i=min vs.length us.length:=by
   split at e
   ·first|exact Zx0 e|cases e
   ·split at e
    ·assumption
    ·first|exact Zx0 e|cases e
  have st:ZS z TI TO i1 i2 l1 l2 i s.heap:=hit.2 _ fun q hq=>r.frAt (Zz4 _ hq)
  have Wk:=WalksT.zip2 (prog:=prog) (w:=w) (A:=Γ.A) Γ.hh z TI TO i1 i2 l1 l2 D xs.toArray ys.toArray
  have hm:min xs.toArray.size ys.toArray.size=i:=by simp[v1.length,v2.length,hi]
  refine Wk.done s Q E (by rw[hm];exact⟨st.1,st.2.1,st.2.2.1,st.2.2.2.1,st.2.2.2.2,⟨_,g1,rfl,k1,rfl⟩,⟨_,g2,rfl,k2,rfl⟩⟩) fun h' tk keep=>post h' tk ?_
  have:=r.swap (fs':=[]) (fun q hq t ht=>ap _ (hit.1▸List.mem_map_of_mem hq) t ht) (fun c o hc e=>keep c o (fun h=>hc (by rw[hit.1];simp at h ⊢;rcases h with h | h | h | h <;> simp[h])) e) (fun q hq=>nomatch hq)
  exact this
 ·intro i W ρ H fr fs s Q E o le r hit hn q
  obtain⟨vs,e1,e⟩:=Zz0.mp hn
  obtain⟨us,e2,e⟩:=Zz0.mp e
  obtain⟨_,xs,k1,g1,v1⟩:=r.at e1 (le.at ea)
  obtain⟨_,ys,k2,g2,v2⟩:=r.at e2 (le.at eb)
  have st:ZS z TI TO i1 i2 l1 l2 i s.heap:=hit.2 _ fun q hq=>r.frAt (Zz4 _ hq)
  have Wk:=WalksT.zip2 (prog:=prog) (w:=w) (A:=Γ.A) Γ.hh z TI TO i1 i2 l1 l2 D xs.toArray ys.toArray
  exact Wk.self i s Q E ⟨st.1,st.2.1,st.2.2.1,st.2.2.2.1,st.2.2.2.2,⟨_,g1,rfl,k1,rfl⟩,⟨_,g2,rfl,k2,rfl⟩⟩ q
theorem JI2.zip{x:Str}{np pos:Pos}{e1 e2:Expr}{f g:Ex}(hn:Nm prog w Γ x (.type "zip"))(h1:J prog w Γ e1 f)(h2:J prog w Γ e2 g)
  (he:starEach [e1,e2] Γ.env=(false,eval e1 Γ.env)::starEach [e2] Γ.env:=by rfl) (he2:starEach [e2] Γ.env=(false,eval e2 Γ.env)::starEach [] Γ.env:=by rfl) (hp:∀pos,(backTo pos (starEach [e2] Γ.env)).any (·.1)=false:=by intro _;rfl):JI2 prog w Γ (.Call (.Name x np) [e1,e2] [] pos) (Zhe f g):=by
 intro W ρ H fr s Q E nx n H' r hf post
 obtain⟨p,a1,hf⟩:=Zz0.mp hf
 obtain⟨q,a2,hf⟩:=Zz0.mp hf
 refine wpAny_Call_ofName (hn.use r ?_)
 refine PySem.Pv.callWith_type1 (wpAny_items_cons (h1 W ρ H fr s _ E _ _ r a1 fun W1 k1 t1 y1 l1 r1 v1=>?_) he) he (hp pos)
 refine wpAny_items_cons (h2 W1 ρ _ fr _ _ E _ _ r1 a2 fun W2 k2 t2 y2 l2 r2 v2=>wpAny_items_nil ?_) he2
 have v1':=v1.mono l2
 obtain⟨u1,H1⟩:=p
 obtain⟨u2,H2⟩:=q
 simp only at hf v1' v2 r2
 cases u1 <;> first|exact Zx0 hf|(cases hf;done)| skip
 rename_i b1
 cases u2 <;> first|exact Zx0 hf|(cases hf;done)| skip
 rename_i b2
 obtain⟨vs,c1,hf⟩:=Zz0.mp hf
 obtain⟨us,c2,c3⟩:=Zz1.mp hf
 cases c3
 cases v1' with
 | @ref _ m1 ea=>
 cases v2 with
 | @ref _ m2 eb=>
 obtain⟨_,xs,n1,g1,w1⟩:=r2.at c1 ea
 obtain⟨_,ys,n2,g2,w2⟩:=r2.at c2 eb
 have isl1:k2.IsList m1 xs.toArray:=⟨_,g1,rfl,n1,rfl⟩
 have isl2:k2.IsList m2 ys.toArray:=⟨_,g2,rfl,n2,rfl⟩
 refine call_zip_2 (s:={ s with heap:=k2,toks:=t2 }) isl1 isl2 fun h₁ hz hTI hTO hi1 hi2 hsz up=>?_
 have ap:=zipApart_new (n:=k2.objs.size) (Heap.lt_size g1) (Heap.lt_size g2)
 have Wk:=WalksT.zip2 (prog:=prog) (w:=w) (A:=Γ.A) Γ.hh _ _ _ _ _ m1 m2 ap xs.toArray ys.toArray
 have zs:ZS (k2.objs.size+4) (k2.objs.size+2) (k2.objs.size+3) k2.objs.size (k2.objs.size+1) m1 m2 0 h₁:=⟨hz,hTI,⟨_,_,hTO⟩,hi1,hi2⟩
 refine Wk.self 0 _ _ _ ⟨hz,hTI,⟨_,_,hTO⟩,hi1,hi2,isl1.at fun o e=>up _ o e,isl2.at fun o e=>up _ o e⟩ ?_
 obtain⟨fs,hit,at'⟩:=ZIt.mk' zs
 obtain⟨r3,ap3⟩:=r2.more (fs:=fs) (h':=h₁) (fun b o e=>up b o e) (fun q hq=>⟨at' q hq,by
  have:q.1∈fs.map (·.1):=List.mem_map_of_mem hq
  rw[hit.1]at this
  simp at this
  rcases this with e | e | e | e | e <;> rw[e] <;> (first | lia | omega)⟩)
 refine post W2 h₁ t2 _ _ _ fs (l1.trans l2) hit r3 (fun b hb t ht=>?_) (Zpr ea eb ap) ?_
 ·rw[←hit.1]at hb
  obtain⟨q,hq,e⟩:=Zz11.mp hb
  exact e▸ap3 q hq t ht
 ·simp only[Zfy,c1,c2,Zs0]
  split
  ·exact⟨_,rfl⟩
  ·rename_i hno
   have:0=min vs.length us.length:=by
    rcases Nat.eq_zero_or_pos vs.length with z | z
    ·rw[z];simp
    ·rcases Nat.eq_zero_or_pos us.length with z' | z'
     ·rw[z'];simp
     ·exact(hno vs[0] us[0] (by simp[z]) (by simp[z'])).elim
   rw[if_pos this]
   exact⟨_,rfl⟩
theorem ZmE{elt iter:Expr}{x x₂:Str}{px px₂ tp:Pos}{kt:Nat}{scope:Scope}{pos:Pos}{cl:List (Str×Addr)}{t t₂:Nat}{g:Src}{f:Ex}(hg:JI2 prog w Γ iter g)(hel:∀C ρ,J prog w (ZaZ Γ scope cl C [(x,t),(x₂,t₂)] ρ) elt f)
  (hcell:∀y∈scope.names,y.2≠.cell) (hkind:scope.kind=.function) (hx:scope.names.lookup x=some .local) (hx₂:scope.names.lookup x₂=some .local) (hxx:x≠x₂) (htt:t≠t₂)
  {W:Wd} {ρ:Lc} {H:Hp} {fr:List (Addr×Obj)} {s:Shared} {E:Value→Shared→Prop} {q:List V×Hp} {RR:Value→Addr→Result→Shared→Prop} (r:Rep Γ W ρ H fr s.heap) (hf:((g ρ H).bind fun z=>ZaF z.1 (Zd5 t t₂) ZZ f ρ z.2.1 0 [] z.2.2)=some q)
  (hR:∀(W':Wd) (h':Heap) (tk':Nat) (C D:Addr) (oC:Obj) (m₂:Str→Option Value) (ys:List Value),W.Le W'→NsObj oC m₂→VRs W' q.1 ys→q.1.length≤ZX→(∀t∈fr,D≠t.1)→(∀t∈fr,C≠t.1)→C≠D→Rep Γ W' ρ q.2 ((C,oC)::(D,lst ys)::fr) h'→RR (.ref D) C (.ok .next) { s with heap:=h',toks:=tk' }):
  wpAny (model prog w) Γ.A (eval iter Γ.env) (fun xv s₁=>wpAny (model prog w) Γ.A (pyIter xv) (fun it s₂=>wpAny (model prog w) Γ.A (newList []) (fun acc s₃=>wpAny (model prog w) Γ.A (newFunctionEnv scope Γ.env.globals cl [] Γ.env.qual none .none (some Γ.env)) (fun cenv s₄=>
   codeAny (model prog w) Γ.A (.compStart (.ListComp elt [⟨.Tuple [.Name x px,.Name x₂ px₂] kt tp,iter,[],0⟩] scope pos) 0 it acc { cenv with scope:=relabel scope Γ.env }) (RR acc cenv.locals) s₄) E s₃) E s₂) E s₁) E s:=by
 obtain⟨z,e1,e2⟩:=Zz0.mp hf
 obtain⟨nx,n,H0⟩:=z
 refine hg W ρ H fr s _ E nx n H0 r e1 fun W1 k1 t1 itv as It fs l1 i1 r1 ap I1 hstart=>?_
 refine wpAny_newObj_type (wpAny_newFunctionEnv hcell (fun y hy=>by simp at hy) (fun h₂ hns hsb=>?_) hkind)
 dsimp only at hns hsb ⊢
 obtain⟨rD,aD⟩:=r1.more (fs:=[(k1.objs.size,lst [])]) (fun b o e=>Heap.get?_push_of_some (lst []) e) (fun q hq=>by rw[List.mem_singleton.mp hq];exact⟨Heap.get?_push_size _ rfl,Nat.le_refl _⟩)
 generalize eH:k1.push { cls:=.type "list",dict:=none,data:=.seq ([]:List Value).toArray } = K at hns hsb ⊢
 have eK:k1.push (lst [])=K:=eH
 rw[eK]at rD
 obtain⟨oC,gC,nC⟩:=ns_obj hns
 have up:∀b o,K.get? b=some o→h₂.get? b=some o:=fun b o e=>hsb.extBut b o (Nat.ne_of_lt (Heap.lt_size e)) (Heap.get?_push_of_some _ e)
 obtain⟨rC,aC⟩:=rD.more (fs:=[(K.objs.size,oC)]) up (fun q hq=>by rw[List.mem_singleton.mp hq];exact⟨gC,Nat.le_refl _⟩)
 have adr0:=I1.adr 0 fs i1
 have offs:∀b∈as,b≠k1.objs.size∧b≠K.objs.size:=fun b hb=>by
  rw[←adr0]at hb
  obtain⟨q,hq,e⟩:=Zz11.mp hb
  exact⟨e▸(aD _ Zz5 q (Zz4 _ hq)).symm,e▸(aC _ Zz5 q (Zz3 _ (Zz4 _ hq))).symm⟩
 have cd:K.objs.size≠k1.objs.size:=aC _ Zz5 (k1.objs.size,lst []) (Zz4 _ Zz5)
 have cfr:∀t∈fr,K.objs.size≠t.1:=fun t ht=>aC _ Zz5 t (Zz3 _ (Zz3 _ ht))
 have dfr:∀t∈fr,k1.objs.size≠t.1:=fun t ht=>aD _ Zz5 t (Zz3 _ ht)
 generalize k1.objs.size=D at *
 generalize K.objs.size=C at *
 have loop:∀s₃:Shared,s₃ = { s with heap:=h₂,toks:=t1+([]:List (Str×Value)).length } →
   codeAny (model prog w) Γ.A (.compLoop (.ListComp elt [⟨.Tuple [.Name x px,.Name x₂ px₂] kt tp,iter,[],0⟩] scope pos) 0 itv (.ref D) (compEnvC scope cl C Γ.env)) (RR (.ref D) C) s₃:=by
  intro s₃ hs₃
  subst hs₃
  refine codeAny_compLoop_pair (ZfK Γ W1 ρ fr C D It nx (Zd5 t t₂) ZZ f q s) ?_ n ⟨W1,H0,h₂,_,0,fs,[],[],oC,_,rfl,.refl _,i1,nC,.nil,Nat.zero_le _,rC,e2⟩
  rintro k s' ⟨W2,H2,k2,t2,j,fs2,acc,ys,oC2,m₂,rfl,l2,i2,hC2,hv2,hl2,r2,e⟩
  cases k with
  | zero=>first|exact Zx0 e|cases e
  | succ k=>
   obtain⟨o,e4,e⟩:=Zz0.mp e
   have r2':Rep Γ W2 ρ H2 (fs2++((C,oC2)::(D,lst ys)::fr)) k2:=r2.less fun q hq=>by
    rcases Zz8.mp hq with hq | hq
    ·exact Zz2 _ (Zz2 _ (Zz4 _ hq))
    ·rcases Zz7.mp hq with e | hq
     ·exact e▸List.mem_cons_self
     ·rcases Zz7.mp hq with e | hq
      ·exact e▸Zy3 _ Zz5
      ·exact Zz2 _ (Zz2 _ (Zz3 _ hq))
   have ap2:∀b∈as,∀t∈(C,oC2)::(D,lst ys)::fr,b≠t.1:=fun b hb t ht=>by
    rcases Zz7.mp ht with e | ht
    ·rw[e]
     exact(offs b hb).2
    ·rcases Zz7.mp ht with e | ht
     ·rw[e]
      exact(offs b hb).1
     ·exact ap b hb t ht
   cases o with
   | none=>
    cases e
    exact I1.done j W2 ρ H2 _ fs2 _ _ _ l2 r2' ap2 i2 e4 fun h' tk' r3=>hR W2 h' tk' C D oC2 m₂ ys (l1.trans l2) hC2 hv2 hl2 dfr cfr cd r3
   | some v=>
    obtain⟨va,vb,ev⟩:=I1.pair j H2 v e4
    subst ev
    refine I1.item j W2 ρ H2 _ fs2 _ _ _ va vb l2 r2' ap2 i2 e4 fun T h3 t3 go=>?_
    obtain⟨ρ3,e5,e⟩:=Zz0.mp e
    cases e5
    refine go _ _ _ _ _ _ rfl fun fs3 k3 y1 y2 i3 r3 htup w1 w2=>?_
    have a3:∀t∈fs3,t.1∈as:=fun t ht=>by
     rw[←I1.adr _ _ i3]
     exact List.mem_map_of_mem ht
    refine assign_Tuple_tuple (s:={ s with heap:=k3,toks:=t3 }) Γ.hh htup rfl rfl fun g₄ he=>?_
    have r3g:=r3.grown (h':=g₄) fun b o e=>he b o (Nat.ne_of_lt (Heap.lt_size e)) e
    have gC3:g₄.get? C=some oC2:=r3g.frAt (q:=(C,oC2)) (Zz3 _ Zz5)
    have nC3:g₄.Ns C m₂:=hC2.ns gC3
    refine assignInOrder_cons (wpAny_assign_Name (wpAny_storeName_local (lookup_relabel_local hx) nC3 (fun h5 hn5 sb5=>?_) (by simp[compEnvC,relabel,hkind])))
    refine assignInOrder_cons (wpAny_assign_Name (wpAny_storeName_local (lookup_relabel_local hx₂) hn5 (fun h4 hn4 sb4=>?_) (by simp[compEnvC,relabel,hkind])))
    refine assignInOrder_nil ?_
    obtain⟨oC4,gC4,nC4⟩:=ns_obj hn4
    have r3':Rep Γ W2 ρ H2 ([(C,oC2)]++((D,lst ys)::(fs3++fr))) g₄:=r3g.less fun q hq=>by
     rcases Zz8.mp hq with hq | hq
     ·rw[List.mem_singleton.mp hq]
      exact Zz3 _ Zz5
     ·rcases Zz7.mp hq with e | hq
      ·exact e▸List.mem_append_right _ (Zz2 _ Zz5)
      ·rcases Zz8.mp hq with hq | hq
       ·exact Zz4 _ hq
       ·exact Zz3 _ (Zz2 _ (Zz2 _ hq))
    have aC3:∀t∈(D,lst ys)::(fs3++fr),C≠t.1:=fun t ht=>by
     rcases Zz7.mp ht with e | ht
     ·rw[e]
      exact cd
     ·rcases Zz8.mp ht with ht | ht
      ·exact(offs _ (a3 t ht)).2.symm
      ·exact cfr t ht
    have aD3:∀t∈fs3++fr,D≠t.1:=fun t ht=>by
     rcases Zz8.mp ht with ht | ht
     ·exact(offs _ (a3 t ht)).1.symm
     ·exact dfr t ht
    have r4:Rep Γ W2 ρ H2 ([(C,oC4)]++((D,lst ys)::(fs3++fr))) h4:=by
     refine r3'.swap (fun q hq t ht=>?_) (fun b o hb e=>sb4.extBut b o (fun z=>hb (by simp[z,compEnvC])) (sb5.extBut b o (fun z=>hb (by simp[z,compEnvC])) e)) fun q hq=>?_
     ·rw[List.mem_singleton.mp hq]
      exact aC3 t ht
     ·rw[List.mem_singleton.mp hq]
      exact⟨gC4,by simp⟩
    have rc:=ZkS (scope:=scope) (cl:=cl) (ts:=[(x,t),(x₂,t₂)]) (ρ:=upd (upd ρ t va) t₂ vb) r4 aC3 nC4 (fun p hp=>by
     rcases Zz7.mp hp with e | hp
     ·rw[e]
      exact⟨va,y1,by simp[upd,htt],by simp[hxx],w1⟩
     ·rw[List.mem_singleton.mp hp]
      exact⟨vb,y2,by simp[upd],by simp,w2⟩) (fun i hi=>by
     have h1:i≠t:=fun e=>hi (x,t) Zz5 e.symm
     have h2:i≠t₂:=fun e=>hi (x₂,t₂) (Zz2 _ Zz5) e.symm
     simp[upd,h1,h2])
    exact Zkh (hel C ρ) aD3 cd l2 i3 hv2 rc e
 refine codeAny_compStart_list (loop _ rfl) ?_
 obtain⟨o0,ho0⟩:=hstart
 exact I1.self 0 W1 ρ H0 (([(C,oC)]++[(D,lst [])])++fr) fs _ _ _ o0 (.refl _) (rC.less fun q hq=>by
  rcases Zz8.mp hq with hq | hq
  ·exact Zz3 _ (Zz3 _ (Zz4 _ hq))
  ·rcases Zz8.mp hq with hq | hq
   ·rcases Zz8.mp hq with hq | hq
    ·exact Zz4 _ hq
    ·exact Zz3 _ (Zz4 _ hq)
   ·exact Zz3 _ (Zz3 _ (Zz3 _ hq))) i1 ho0 (loop _ rfl)
theorem Zos{elt iter:Expr}{x x₂:Str}{px px₂ tp:Pos}{kt:Nat}{scope:Scope}{pos:Pos}{cl:List (Str×Addr)}{t t₂:Nat}{g:Src}{f:Ex}(hg:JI2 prog w Γ iter g)(hel:∀C ρ,J prog w (ZaZ Γ scope cl C [(x,t),(x₂,t₂)] ρ) elt f)
  (hclos:closureFor scope Γ.env=pure cl) (hcell:∀y∈scope.names,y.2≠.cell) (hkind:scope.kind=.function) (hnames:∀y∈scope.names,y.2=.local→scope.names.lookup y.1=some .local) (hx:scope.names.lookup x=some .local) (hx₂:scope.names.lookup x₂=some .local) (hxx:x≠x₂) (htt:t≠t₂) (hs:∀x,foldedSetIterable iter Γ.env x=pure x:=by intro _;rfl):
  J prog w Γ (.ListComp elt [⟨.Tuple [.Name x px,.Name x₂ px₂] kt tp,iter,[],0⟩] scope pos) (Zam g (Zd5 t t₂) ZZ f):=by
 intro W ρ H fr s Q E v H' r hf post
 obtain⟨z,e1,hf⟩:=Zz0.mp hf
 obtain⟨q,e2,e3⟩:=Zz1.mp hf
 cases e3
 rw[eval_ListComp]
 refine wpAny_comprehension_free (use:=Option.none) rfl hs hclos hkind hnames ?_
 refine ZmE (RR:=fun acc C=>compPost (model prog w) Γ.A E Option.none Q acc C) hg hel hcell hkind hx hx₂ hxx htt r (q:=q) (by rw[e1];exact e2) fun W2 h' tk' C D oC m₂ ys l2 hC hv hl aD aC cd r3=>?_
 refine⟨m₂,hC.ns (r3.frAt (q:=(C,oC)) Zz5),fun h'' sb=>?_⟩
 obtain⟨W5,l5,r5,v5⟩:=Zkv hv hl aD aC cd r3 sb
 exact post W5 h'' tk' _ (l2.trans l5) r5 v5
end
end PM
end
section
namespace PM
open PySem PySem.W PySem.Calls PyProof.Rows PyProof PySem.Spec
theorem Zps{prog:Program}{w:World}{A A₀:Around}{s:Shared}{base h₀:Heap}{L:Addr}{m:Str→Option Value}{lent:List (Addr×Obj)}{K:Frag}{p:Program}{loose:List Str}{mean:ExcName→Option Value}{mg mb:Str→Option Value}
  {env:Env} {outer:List Env} {R:Result→Shared→Prop} {name qual:Str} {params:Arguments} {body:List Stmt} {scope:Scope} {dV kV doc pm cdv ct oc:Value} {an od:Option Addr} {osl:Array (Option Value)} {f:Addr} {args:Args} {binds:List (Str×Value)}
  (B:Below A₀ base outer h₀) (F:Fr h₀ L s.heap m) (X₀:K.In h₀) (N:News h₀ L s.heap lent) (T:Top p loose mean mg mb h₀) (hA:A.frames=some (env::outer)) (hf:env.frame=some L) (hke:env.scope.kind=.function)
  (ho:K.lookup f=some ⟨oc,od,.func (fnOf name qual params body scope dV kV doc pm an cdv ct),osl⟩) (hcd:codeIn K cdv qual=true) (hroom:A.depth<recursionLimit)
  (hbind:BindsTo s (fnOf name qual params body scope dV kV doc pm an cdv ct) args binds) (hall:(binds.all fun y=>scope.names.lookup y.1 == some .local || scope.names.lookup y.1 == some .cell)=true) (hone:((cellsFrom 0 scope.names []).map (·.1)).Nodup)
  (h:∀g L' h₁ tk cells,(∀b o,s.heap.get? b=some o→b∉lent.map (·.1)→g.get? b=some o)→Fr g L' h₁ (bindL (envOfC qual scope L' f cdv).kindOf binds fun _=>none)→News g L' h₁ (cells++lent)→CellsAre (bindC (envOfC qual scope L' f cdv).kindOf binds fun _=>none) (cellsFrom (L'+1) scope.names []) cells →
   (cellsFrom (L'+1) scope.names []).Pairwise (fun x y=>x.2≠y.2)→(∀n c,(n,c)∈cellsFrom (L'+1) scope.names []→L'<c)→Below A base (env::outer) g→K.In g→Top p loose mean mg mb g→(∀q∈lent,q.1<L')→s.heap.objs.size≤L' →
   wpAny (model prog w) (A.deeper (envOfC qual scope L' f cdv)) (execs body (envOfC qual scope L' f cdv)) (fun fl s'=>LeaveK h₀ L m g R (match fl with | .ret v=>v | _=>.none) s')
    (fun e s'=>wpAny (model prog w) (A.deeper (envOfC qual scope L' f cdv)) (leaving (envOfC qual scope L' f cdv) e) (fun _ s''=>R (.error e) s'') (fun e' s''=>R (.error e') s'') s') { s with heap:=h₁,toks:=tk })
  (hco:scope.isCoroutine=false) (hgen:scope.isGenerator=false) (hk:scope.kind=.function):codeAny (model prog w) A (.call (.ref f) args) R s:=by
 obtain⟨FG,BG,st,lv⟩:=groundX (R:=R) B F N hA hf hke
 have X:=X₀.keeps F.keep
 refine codeAny_call_function (fd:=fnOf name qual params body scope dV kV doc pm an cdv ct) hroom (X _ _ ho) rfl hco hgen rfl (codeRec_of X hcd) (hbind _ _ _ _ ?_)
 refine wpAny_newFunctionEnv_cells hk (kindsX hall _) fun fresh hfr s' inC=>?_
 subst hfr
 have up:=inC.toInCall.keep
 refine⟨(T.nolimit.keeps F.keep).keeps up,codeAny_func ?_⟩
 obtain⟨h₁,tk,hs',_⟩:=inC.done
 subst hs'
 have nod:=cellsFrom_names scope.names 0 (s.heap.objs.size+1) [] [] rfl▸hone
 obtain⟨cells,NC,Y⟩:=Cl.news (h₀:=s.heap) (L:=s.heap.objs.size) (Zz10 _) fun n c hm=>⟨inC.cell n c (lookup_of_mem_nodup nod hm),inC.above n c hm⟩
 have old:∀q∈lent,q.1<s.heap.objs.size:=fun q hq=>Heap.lt_size (N q hq).1
 refine wpAny_mono (h _ s.heap.objs.size h₁ tk cells (fun b o e nb=>hideAll_get _ e nb) ⟨inC.toInCall.ns,fun b o e=>up b o (of_hideAll _ e),Nat.le_of_eq (hideAll_size _ _)⟩ (fun q hq=>?_) Y inC.apart inC.above BG (X₀.keeps st) (T.keeps st) old (Zz10 _)) (fun fl s' hl=>lv _ _ hl) fun _ _ y=>y
 rcases Zz8.mp hq with hq | hq
 ·obtain⟨c1,c2,c3⟩:=NC q hq
  refine⟨c1,c2,?_⟩
  cases e:(hideAll s.heap (lent.map (·.1))).get? q.1 with
  | none=>rfl
  | some o=>
   have z:=of_hideAll _ e
   rw[c3]at z
   cases z
 ·exact⟨up _ _ (N q hq).1,Nat.ne_of_lt (old q hq),hideAll_none _ (List.mem_map_of_mem hq)⟩
section
variable (prog:Program) (w:World) (K:Frag) (p:Program) (loose:List Str) (mean:ExcName→Option Value) (mg mb:Str→Option Value)
noncomputable def Clr(Γ:Cx)(dp un:Nat): Prop:=∃(gd:Option (List Code)) (cn:Str) (cs:Scope) (a:Addr) (ccd:Value) (cl:List (Str×Addr)) (outer:List Env) (A₀:Around) (base:Heap),
 Γ.A=ktrTop dp un gd cn cs Γ.L a ccd cl outer∧Below A₀ base outer Γ.h₀∧K.In Γ.h₀∧Top p loose mean mg mb Γ.h₀∧cs.kind=.function
noncomputable def Def(f:Addr)(room:Nat)(F:List V→Hp→Option (V×Hp)): Prop:=∀(Γ:Cx) (dp un:Nat),Clr K p loose mean mg mb Γ dp un→dp+room<recursionLimit→un+10*room+300<cLine →
 ∀(W:Wd) (ρ:Lc) (H:Hp) (fr:List (Addr×Obj)) (s:Shared) (Q E:Value→Shared→Prop) (as:List V) (xs:List Value) (v:V) (H':Hp),
  Rep Γ W ρ H fr s.heap→VRs W as xs→F as H=some (v,H')→Zex Γ W ρ H' fr s Q v→codeAny (model prog w) Γ.A (.call (.ref f) ⟨xs,[]⟩) (fun r s'=>match r with | .ok (.ret v)=>Q v s' | .ok _=>False | .error e=>E e s') s
end
noncomputable def ZH(n:Nat)(g:Sm): List V→Hp→Option (V×Hp):=fun as H=>if as.length=n then(g (fun i=>as[i]?) H).map fun r=>((r.1.getD .none),r.2.2)else none
theorem Zm0{kindOf:Str→Option NameKind}: ∀{ps:List Str} {xs:List Value} {m:Str→Option Value} {x:Str} {i:Nat} {y:Value},ps.Nodup→ps[i]?=some x→xs[i]?=some y→kindOf x=some .local→bindL kindOf (ps.zip xs) m x=some y:=by
 have skip:∀{ps:List Str} {xs:List Value} {m:Str→Option Value} {x:Str},x∉ps→bindL kindOf (ps.zip xs) m x=m x:=by
  intro ps
  induction ps with
  | nil=>intro xs m x _;rfl
  | cons p ps ih=>
   intro xs m x hx
   cases xs with
   | nil=>rfl
   | cons z xs=>
    simp only[List.zip_cons_cons,bindL]
    rw[ih (fun h=>hx (Zz2 _ h))]
    have:x≠p:=fun e=>hx (e▸List.mem_cons_self)
    split <;> simp[this]
 intro ps
 induction ps with
 | nil=>intro xs m x i y _ h;simp at h
 | cons p ps ih=>
  intro xs m x i y nd hp hx hk
  cases xs with
  | nil=>simp at hx
  | cons z xs=>
   obtain⟨n1,n2⟩:=List.nodup_cons.mp nd
   cases i with
   | zero=>
    simp at hp hx
    subst hp hx
    simp only[List.zip_cons_cons,bindL]
    rw[skip n1,if_pos hk]
    simp
   | succ i=>
    simp at hp hx
    simp only[List.zip_cons_cons,bindL]
    exact ih n2 hp hx hk
theorem Zm1{kindOf:Str→Option NameKind}: ∀{ps:List Str} {xs:List Value} {m:Str→Option Value} {x:Str} {i:Nat} {y:Value},ps.Nodup→ps[i]?=some x→xs[i]?=some y→kindOf x=some .cell→bindC kindOf (ps.zip xs) m x=some y:=by
 have skip:∀{ps:List Str} {xs:List Value} {m:Str→Option Value} {x:Str},x∉ps→bindC kindOf (ps.zip xs) m x=m x:=by
  intro ps
  induction ps with
  | nil=>intro xs m x _;rfl
  | cons p ps ih=>
   intro xs m x hx
   cases xs with
   | nil=>rfl
   | cons z xs=>
    simp only[List.zip_cons_cons,bindC]
    rw[ih (fun h=>hx (Zz2 _ h))]
    have:x≠p:=fun e=>hx (e▸List.mem_cons_self)
    split <;> simp[this]
 intro ps
 induction ps with
 | nil=>intro xs m x i y _ h;simp at h
 | cons p ps ih=>
  intro xs m x i y nd hp hx hk
  cases xs with
  | nil=>simp at hx
  | cons z xs=>
   obtain⟨n1,n2⟩:=List.nodup_cons.mp nd
   cases i with
   | zero=>
    simp at hp hx
    subst hp hx
    simp only[List.zip_cons_cons,bindC]
    rw[skip n1,if_neg (by rw[hk];simp)]
    simp
   | succ i=>
    simp at hp hx
    simp only[List.zip_cons_cons,bindC]
    exact ih n2 hp hx hk
theorem Ze7{cm:Str→Option Value}: ∀{cs:List (Str×Addr)} {cells:List (Addr×Obj)} {x:Str} {c:Addr},CellsAre cm cs cells→(x,c)∈cs→∃o,(c,o)∈cells∧o.data=.cell (cm x)
 | _,_,_,_,.nil,h=>nomatch h
 | _,_,_,_,.cons hd r,h=>by
  rcases Zz7.mp h with e | h
  ·first|exact Zx0 e|cases e
   exact⟨_,List.mem_cons_self,hd⟩
  ·obtain⟨o,h1,h2⟩:=Ze7 r h
   exact⟨o,Zy3 _ h1,h2⟩
theorem ZkT{cm:Str→Option Value}: ∀{cs:List (Str×Addr)} {cells:List (Addr×Obj)} {q:Addr×Obj},CellsAre cm cs cells→q∈cells→∃x,(x,q.1)∈cs
 | _,_,_,.nil,h=>nomatch h
 | _,_,_,.cons hd r,h=>by
  rcases Zz7.mp h with e | h
  ·first|exact Zx0 e|cases e
   exact⟨_,List.mem_cons_self⟩
  ·obtain⟨x,h1⟩:=ZkT r h
   exact⟨x,Zy3 _ h1⟩
theorem ZcU{α β:Type}[BEq α][LawfulBEq α]: ∀{l:List (α×β)} {x:α} {y:β},l.lookup x=some y→(x,y)∈l
 | [],_,_,h=>by simp at h
 | (a,b)::r,x,y,h=>by
  rw[List.lookup_cons]at h
  split at h
  ·rename_i e
   cases h
   have:=eq_of_beq e
   subst this
   exact Zz5
  ·exact Zz2 _ (ZcU h)
end PM
end
section
namespace PM
open PySem PySem.W PySem.Calls PyProof.Rows PyProof PySem.Spec
section
variable {prog:Program} {w:World} {K:Frag} {p:Program} {loose:List Str} {mean:ExcName→Option Value} {mg mb:Str→Option Value}
theorem Def.of{name qual:Str}{params:Arguments}{body:List Stmt}{scope:Scope}{dV kV doc pm cdv ct oc:Value}{an od:Option Addr}{osl:Array (Option Value)}{f:Addr}{names:List Str}{n room:Nat}{g:Sm}
  (ho:K.lookup f=some ⟨oc,od,.func (fnOf name qual params body scope dV kV doc pm an cdv ct),osl⟩) (hcd:codeIn K cdv qual=true) (nd:names.Nodup) (hn:n≤names.length)
  (hbind:∀s xs,xs.length=n→BindsTo s (fnOf name qual params body scope dV kV doc pm an cdv ct) ⟨xs,[]⟩ ((names.take n).zip xs)) (hkinds:∀x∈names.take n,scope.names.lookup x=some .local∨scope.names.lookup x=some .cell) (hone:((cellsFrom 0 scope.names []).map (·.1)).Nodup)
  (hco:scope.isCoroutine=false) (hgen:scope.isGenerator=false) (hk:scope.kind=.function)
  (hbody:∀(dp un:Nat) (gd:Option (List Code)) (L:Addr) (outer:List Env) (h₀:Heap) (hu:un+200<cLine),Clr K p loose mean mg mb (Zbm dp un gd qual scope L f cdv (cellsFrom (L+1) scope.names []) outer h₀ hu names) dp un→dp+room<recursionLimit→un+10*room+300<cLine →
   Ss prog w (Zbm dp un gd qual scope L f cdv (cellsFrom (L+1) scope.names []) outer h₀ hu names) body g):
  Def prog w K p loose mean mg mb f (room+1) (ZH n g):=by
 intro Γ dp un clr hd hu W ρ H fr s Q E as xs v H' r hx hF post
 obtain⟨gd,cn,cs,a,ccd,cl,outer,A₀,base,eA,B,X,T,hke⟩:=clr
 unfold ZH at hF
 split at hF
 ·rename_i hlen
  obtain⟨res,e1,e2⟩:=Zz1.mp hF
  obtain⟨o,ρ',K'⟩:=res
  cases e2
  obtain⟨m,c,led,r⟩:=r
  have hxl:xs.length=n:=by rw[hx.length,hlen]
  have inn:∀q∈led,(q.1∈W.pi∨q.1∈W.tups.map (·.1))↔q∈led.filter (fun q=>decide (q.1∈W.pi∨q.1∈W.tups.map (·.1))):=fun q hq=>⟨fun h=>Zy9.mpr ⟨hq,by simpa using h⟩,fun h=>by simpa using (List.mem_filter.mp h).2⟩
  have isub:∀q∈led.filter (fun q=>decide (q.1∈W.pi∨q.1∈W.tups.map (·.1))),q∈led:=fun q hq=>(List.mem_filter.mp hq).1
  generalize hlent:led.filter (fun q=>decide (q.1∈W.pi∨q.1∈W.tups.map (·.1)))=lent at inn isub
  have notin:∀q∈led,q.1∉W.pi→(∀t∈W.tups,q.1≠t.1)→q.1∉lent.map (·.1):=fun q hq h1 h2 h3=>by
   obtain⟨t,ht,e⟩:=Zz11.mp h3
   rcases(inn t (isub t ht)).mpr ht with z | z
   ·exact h1 (e▸z)
   ·obtain⟨u,hu,e'⟩:=Zz11.mp z
    exact h2 u hu (e▸e'.symm)
  rw[eA]
  refine Zps (env:=envX cn cs Γ.L a ccd cl) (lent:=lent) B r.F X (fun q hq=>r.N q (isub q hq)) T rfl rfl hke ho hcd (by show dp<recursionLimit;lia) (hbind s xs hxl) ?_ hone ?_ hco hgen hk
  ·refine List.all_eq_true.mpr fun y hy=>?_
   rcases hkinds y.1 (List.of_mem_zip hy).1 with h | h <;> simp[h]
  intro g0 L' h₁ tk cells stay F' N' Y ap ab B' X' T' old szL
  have hu':(un+3)+200<cLine:=by lia
  have clr':Clr K p loose mean mg mb (Zbm (dp+1) (un+3) gd qual scope L' f cdv (cellsFrom (L'+1) scope.names []) (envX cn cs Γ.L a ccd cl::outer) g0 hu' names) (dp+1) (un+3):=
   ⟨gd,qual,scope,f,cdv,cellsFrom (L'+1) scope.names [],envX cn cs Γ.L a ccd cl::outer,_,base,rfl,B',X',T',hk⟩
  have below:∀q∈cells,L'<q.1:=fun q hq=>by
   obtain⟨x,hx⟩:=ZkT Y hq
   exact ab x _ hx
  have piLt:∀b∈W.pi,b<L':=fun b hb=>by
   obtain⟨o,ho⟩:=r.piIn b hb
   exact Nat.lt_of_lt_of_le (Heap.lt_size (r.get ho)) szL
  have tuLt:∀t∈W.tups,t.1<L':=fun t ht=>Nat.lt_of_lt_of_le (Heap.lt_size (r.get (r.R.tups t ht))) szL
  have scN:W.sc.1∉lent.map (·.1):=fun z=>by
   obtain⟨t,ht,e⟩:=Zz11.mp z
   exact r.notSc t (isub t ht) e
  have tkn:∀{i:Nat} {x:Str} {u:V},names[i]?=some x→as[i]?=some u→(names.take n)[i]?=some x∧∃y,xs[i]?=some y∧VR W u y:=fun {i x u} h1 h2=>by
   have hi:i<n:=by rw[←hlen];exact(Zz6.mp h2).1
   exact⟨by rw[List.getElem?_take_of_lt hi];exact h1,hx.at h2⟩
  have ndt:(names.take n).Nodup:=nd.sublist (List.take_sublist _ _)
  have rep:Rep (Zbm (dp+1) (un+3) gd qual scope L' f cdv (cellsFrom (L'+1) scope.names []) (envX cn cs Γ.L a ccd cl::outer) g0 hu' names) W (fun i=>as[i]?) H [] h₁:=by
   refine⟨_,cells,cells++lent,⟨F',N',⟨r.R.len,r.R.nd,fun i vs e ni=>?_,fun q hq=>?_,r.R.kind,fun i vs fs e hi=>?_,r.R.inlt,r.R.iuni⟩,stay _ _ (r.F.keep _ _ r.sc) scN,r.sc0,fun q hq=>(nomatch hq),fun q hq=>(nomatch hq),fun q hq=>Zy7 _ hq,fun q hq z=>?_,fun q _ t ht=>(nomatch ht),fun q hq=>(nomatch hq),fun q hq t ht=>?_,⟨fun i x u hi hk1 hu1=>?_,fun i x u hi hk1 hu1=>?_,fun x c1 hc=>?_,fun x y c1 h1 h2=>?_⟩⟩⟩
   ·obtain⟨l,b,ys,k,h1,h2,h3⟩:=r.R.lists i vs e ni
    exact⟨l,b,ys,k,h1,ZbQ h2 fun z=>List.mem_append_right _ ((inn _ z).mp (.inl (Zy4 h1))),h3⟩
   ·exact ZbQ (r.R.tups q hq) fun z=>List.mem_append_right _ ((inn _ z).mp (.inr (List.mem_map_of_mem hq)))
   ·obtain⟨l,b,od,ys,h1,h2,h3⟩:=r.R.objs i vs fs e hi
    exact⟨l,b,od,ys,h1,ZbQ h2 fun z=>List.mem_append_right _ ((inn _ z).mp (.inl (Zy4 h1))),h3⟩
   ·exact absurd (Nat.lt_trans (piLt _ z) (below q hq)) (Nat.lt_irrefl _)
   ·exact Nat.ne_of_gt (Nat.lt_trans (tuLt t ht) (below q hq))
   ·obtain⟨h1,y,h2,h3⟩:=tkn hi hu1
    exact⟨y,Zm0 ndt h1 h2 hk1,h3⟩
   ·obtain⟨h1,y,h2,h3⟩:=tkn hi hu1
    have hs:=cellsFrom_some scope.names (L'+1) [] (.inl hk1)
    obtain⟨c1,hc1⟩:=Option.isSome_iff_exists.mp hs
    obtain⟨o1,ho1,hd1⟩:=Ze7 Y (ZcU hc1)
    refine⟨c1,o1,y,hc1,ho1,?_,h3⟩
    rw[hd1,Zm1 ndt h1 h2 hk1]
   ·obtain⟨o1,ho1,hd1⟩:=Ze7 Y (ZcU hc)
    exact⟨o1,_,ho1,hd1⟩
   ·exact name_of_addr ap (ZcU h1) (ZcU h2)
  have hb:=hbody (dp+1) (un+3) gd L' (envX cn cs Γ.L a ccd cl::outer) g0 hu' clr' (by lia) (by lia)
  have back:∀(W':Wd) (h':Heap) (tk':Nat) (x:Value),W.Le W'→Rep (Zbm (dp+1) (un+3) gd qual scope L' f cdv (cellsFrom (L'+1) scope.names []) (envX cn cs Γ.L a ccd cl::outer) g0 hu' names) W' ρ' K' [] h'→VR W' (o.getD .none) x →
    LeaveK Γ.h₀ Γ.L m g0 (fun r s'=>match r with | .ok (.ret v)=>Q v s' | .ok _=>False | .error e=>E e s') x { s with heap:=h',toks:=tk' }:=by
   intro W' h' tk' x l' r' x'
   obtain⟨m',c',led',r'⟩:=r'
   refine⟨L',m',led',r'.F,r'.N,fun FG NG=>post W' h' tk' x l' ?_ x'⟩
   have g0at:∀q∈led,q.1∉lent.map (·.1)→g0.get? q.1=some q.2:=fun q hq hn=>stay _ _ (r.N q hq).1 hn
   have frN:∀q∈fr,q.1∉lent.map (·.1):=fun q hq=>notin q (r.frIn q hq) (r.frOff q hq) (r.frTup q hq)
   have clN:∀q∈c,q.1∉lent.map (·.1):=fun q hq=>notin q (r.clIn q hq) (r.clOff q hq) (r.clTup q hq)
   have newN:∀t∈led',g0.get? t.1=none:=fun t ht=>(r'.N t ht).2.2
   have far:∀q∈led,q.1∉lent.map (·.1)→∀t∈W'.sc::led',q.1≠t.1:=fun q hq hn t ht e=>by
    rcases Zz7.mp ht with e2 | ht
    ·rw[e2,l'.sc]at e
     exact r.notSc q hq e
    ·have:=g0at q hq hn
     rw[e,newN t ht]at this
     cases this
   have farPi:∀q∈led,q.1∉lent.map (·.1)→q.1∉W'.pi:=fun q hq hn z=>by
    obtain⟨o2,h2⟩:=r'.piIn _ z
    exact far q hq hn _ h2 rfl
   have keep:∀q∈led,q.1∉lent.map (·.1)→q∈led'++led.filter (fun q=>decide (q.1∉lent.map (·.1))):=fun q hq hn=>List.mem_append_right _ (Zy9.mpr ⟨hq,by simpa using hn⟩)
   refine⟨m,c,led'++led.filter (fun q=>decide (q.1∉lent.map (·.1))),⟨FG,fun q hq=>?_,r'.R.mono fun q hq=>Zc9 hq fun x hx=>Zy7 _ hx,l'.sc▸r.sc,r'.sc0,fun q hq=>keep q (r.frIn q hq) (frN q hq),fun q hq=>farPi q (r.frIn q hq) (frN q hq),fun q hq=>keep q (r.clIn q hq) (clN q hq),fun q hq=>farPi q (r.clIn q hq) (clN q hq),r.apart,fun q hq t ht=>far q (r.frIn q hq) (frN q hq) t (r'.R.tups t ht),fun q hq t ht=>far q (r.clIn q hq) (clN q hq) t (r'.R.tups t ht),Γ.mono l' r.own⟩⟩
   rcases Zz8.mp hq with hq | hq
   ·exact NG q hq
   ·obtain⟨h1,h2⟩:=List.mem_filter.mp hq
    exact⟨r'.F.keep _ _ (g0at q h1 (by simpa using h2)),(r.N q h1).2⟩
  refine hb W _ H [] _ _ _ (o,ρ',K') rep e1 ?_
  cases o with
  | none=>exact fun W' h' tk' l' r'=>back W' h' tk' .none l' r' .none
  | some v0=>exact fun W' h' tk' x l' r' x'=>back W' h' tk' x l' r' x'
 ·first|exact Zx0 hF|cases hF
theorem ZbT{Γ:Cx}{dp un:Nat}{x:Str}{np pos:Pos}{f:Addr}{room:Nat}{e:Expr}{es:List Expr}{g:Z7}{o:List V→Hp→Option (V×Hp)}(clr:Clr K p loose mean mg mb Γ dp un)(hn:Nm prog w Γ x (.ref f))(hkeep:keepIn K (.ref f)=true)(D:Def prog w K p loose mean mg mb f room o)(hd:dp+room<recursionLimit)(hu:un+10*room+300<cLine)
  (h:Js prog w Γ (e::es) g) (he:starEach (e::es) Γ.env=(false,eval e Γ.env)::starEach es Γ.env:=by rfl) (hp:∀pos,(backTo pos (starEach es Γ.env)).any (·.1)=false:=by intro _;rfl):J prog w Γ (.Call (.Name x np) (e::es) [] pos) (Zh o g):=by
 intro W ρ H fr s Q E v H' r hf post
 obtain⟨q,e1,hf⟩:=Zz0.mp hf
 have X:K.In Γ.h₀:=by
  obtain⟨_,_,_,_,_,_,_,_,_,_,_,X,_⟩:=clr
  exact X
 refine wpAny_Call_ofName (hn.use r ?_)
 refine callWith_K (first:=[]) X hkeep (h pos W ρ H fr s _ E _ _ r e1 fun W1 k1 t1 xs l1 r1 x1=>⟨?_,?_⟩) he (hp pos)
 ·obtain⟨m,c,led,r1⟩:=r1
  exact X.keeps r1.F.keep
 ·exact wpAny_call (D Γ dp un clr hd hu W1 ρ _ fr _ Q E _ xs v H' r1 x1 hf fun W2 k2 t2 y l2 r2 y2=>post W2 k2 t2 y (l1.trans l2) r2 y2)
theorem Clr.comp{Γ:Cx}{dp un:Nat}{scope:Scope}{cl:List (Str×Addr)}{C:Addr}{ts:List (Str×Nat)}{ρ0:Lc}(h:Clr K p loose mean mg mb Γ dp un): Clr K p loose mean mg mb (ZaZ Γ scope cl C ts ρ0) dp un:=h
end
end PM
end
section
namespace PM
open PySem PySem.W PySem.Calls PyProof.Rows PyProof PySem.Spec
theorem Zh2{lo:Nat}: ∀(names:List (Str×NameKind)) (n:Nat) (acc:List (Str×Addr)),acc.Pairwise (fun x y=>x.2≠y.2)→(∀q∈acc,lo<q.2∧q.2<n)→lo<n→(cellsFrom n names acc).Pairwise (fun x y=>x.2≠y.2)∧∀q∈cellsFrom n names acc,lo<q.2
 | [],n,acc,h1,h2,_=>⟨h1,fun q hq=>(h2 q hq).1⟩
 | (y,k)::r,n,acc,h1,h2,h3=>by
  unfold cellsFrom
  by_cases hk:(k == .cell)=true
  ·rw[if_pos hk]
   refine Zh2 r (n+1) ((y,n)::acc) (List.pairwise_cons.mpr ⟨fun q hq=>Nat.ne_of_gt (h2 q hq).2,h1⟩) (fun q hq=>?_) (Nat.lt_succ_of_lt h3)
   rcases Zz7.mp hq with e | hq
   ·rw[e]
    exact⟨h3,Nat.lt_succ_self n⟩
   ·exact⟨(h2 q hq).1,Nat.lt_succ_of_lt (h2 q hq).2⟩
  ·rw[if_neg hk]
   exact Zh2 r n acc h1 h2 h3
theorem Zm2{P:Params}{h:Heap}{a:Addr}{ns:List Int}(w1:Well P h (.ref a) (ofPy (.list (ns.map PyData.int))))(W:Wd): ∃vs,h.get? a=some (Zbf vs 0)∧VRs W (ns.map V.int) vs:=by
 have key:∀{ns:List Int} {vs:List Value} {xs:List WData},xs=(ns.map PyData.int).map ofPy→WellAll P h vs xs→VRs W (ns.map V.int) vs:=by
  intro ns
  induction ns with
  | nil=>intro vs xs e h;subst e;cases h;exact .nil
  | cons n ns ih=>
   intro vs xs e h
   subst e
   cases h with
   | cons h1 h2=>
    cases h1 with
    | int i t=>exact .cons (.int _ _) (ih rfl h2)
 have e:ofPy (.list (ns.map PyData.int))=.list ((ns.map PyData.int).map ofPy):=by rw[ofPy,ofPys_eq]
 rw[e]at w1
 cases w1 with
 | list hg ha=>exact⟨_,hg,key rfl ha⟩
section
variable {prog:Program} {w:World} {K:Frag} {p:Program} {loose:List Str} {mean:ExcName→Option Value} {mg mb:Str→Option Value}
theorem Zot{P:Params}{h₀:Heap}{s:Shared}{sa fa:Addr}{cd:Value}{ns:List Int}{qual pname:Str}{scope:Scope}{body:List Stmt}{names:List Str}{g:Sm}{cells:List (Addr×Obj)}{Q:Flow→Shared→Prop}{E:Value→Shared→Prop}{room:Nat}{H':Hp}
  (hbody:∀(dp un:Nat) (gd:Option (List Code)) (L a:Addr) (ccd:Value) (outer:List Env) (h₀:Heap) (hu:un+200<cLine),Clr K p loose mean mg mb (Zbm dp un gd qual scope L a ccd (cellsFrom (L+1) scope.names []) outer h₀ hu names) dp un→dp+room<recursionLimit→un+10*room+300<cLine →
   Ss prog w (Zbm dp un gd qual scope L a ccd (cellsFrom (L+1) scope.names []) outer h₀ hu names) body g)
  (hd:callerA.depth+1+room<recursionLimit) (hun:callerA.units+3+10*room+300<cLine) (hk:scope.kind=.function) (h0:names[0]?=some pname)
  (KX:K.In h₀) (T:Top p loose mean mg mb h₀) (w1:Well P h₀ (.ref sa) (ofPy (.list (ns.map PyData.int)))) (hlen:ns.length≤ZX)
  (F:Fr h₀ h₀.objs.size s.heap (bindL (envOfC qual scope h₀.objs.size fa cd).kindOf [(pname,.ref sa)] fun _=>none)) (N:News h₀ h₀.objs.size s.heap cells) (X0:CellsAre (bindC (envOfC qual scope h₀.objs.size fa cd).kindOf [(pname,.ref sa)] fun _=>none) (cellsFrom (h₀.objs.size+1) scope.names []) cells)
  (hg:ZH 1 g [.ref 0] [ns.map V.int]=some (.bool true,H')) (post:∀h' tk' m',Fr h₀ h₀.objs.size h' m'→Q (.ret (.bool true)) { s with heap:=h',toks:=tk' }):
  wpAny (model prog w) (callerA.deeper (envOfC qual scope h₀.objs.size fa cd)) (execs body (envOfC qual scope h₀.objs.size fa cd)) Q E s:=by
 have hu':(callerA.units+3)+200<cLine:=by lia
 have clr:Clr K p loose mean mg mb (Zbm (callerA.depth+1) (callerA.units+3) callerA.guards qual scope h₀.objs.size fa cd (cellsFrom (h₀.objs.size+1) scope.names []) [] h₀ hu' names) (callerA.depth+1) (callerA.units+3):=
  ⟨callerA.guards,qual,scope,fa,cd,cellsFrom (h₀.objs.size+1) scope.names [],[],_,_,rfl,below_caller h₀,KX,T,hk⟩
 have hb:=hbody (callerA.depth+1) (callerA.units+3) callerA.guards h₀.objs.size fa cd [] h₀ hu' clr hd hun
 obtain⟨vs,hsc,hv⟩:=Zm2 w1 ⟨[sa],[],(sa,Zbf [] 0),[]⟩
 have hv':VRs ⟨[sa],[],(sa,Zbf vs 0),[]⟩ (ns.map V.int) vs:=by
  clear hg post w1 hlen hsc
  generalize ns.map V.int=us at hv
  have key:∀{us:List V} {xs:List Value},VRs ⟨[sa],[],(sa,Zbf [] 0),[]⟩ us xs→VRs ⟨[sa],[],(sa,Zbf vs 0),[]⟩ us xs:=by
   intro us
   induction us with
   | nil=>intro xs h;cases h;exact .nil
   | cons u us ih=>
    intro xs h
    cases h with
    | cons a b=>
     refine .cons ?_ (ih b)
     cases a with
     | none=>exact .none
     | bool b=>exact .bool b
     | int i t=>exact .int i t
     | str s t=>exact .str s t
     | tup hm _ _=>exact nomatch hm
     | ref e=>exact .ref e
     | obj _ h2 _ _=>exact nomatch h2
  exact key hv
 have far:=Zh2 (lo:=h₀.objs.size) scope.names (h₀.objs.size+1) [] .nil (fun q hq=>nomatch hq) (Nat.lt_succ_self _)
 unfold ZH at hg
 rw[if_pos (show([V.ref 0]:List V).length=1 from rfl)]at hg
 obtain⟨res,e1,e2⟩:=Zz1.mp hg
 obtain⟨o,ρ',K'⟩:=res
 have eo:o=some (.bool true):=by
  cases o with
  | none=>simp at e2
  | some v=>simp at e2;rw[e2.1]
 subst eo
 have pick:∀{i:Nat} {x:Str} {u:V},names[i]?=some x→([V.ref 0]:List V)[i]?=some u→x=pname∧u=.ref 0:=fun {i x u} h1 h2=>by
  have hi:i<1:=(Zz6.mp h2).1
  have:i=0:=by lia
  subst this
  rw[h0]at h1
  simp at h1 h2
  exact⟨h1.symm,h2.symm⟩
 have rep:Rep (Zbm (callerA.depth+1) (callerA.units+3) callerA.guards qual scope h₀.objs.size fa cd (cellsFrom (h₀.objs.size+1) scope.names []) [] h₀ hu' names) ⟨[sa],[],(sa,Zbf vs 0),[]⟩ (fun i=>[V.ref 0][i]?) [ns.map V.int] [] s.heap:=by
  refine⟨_,cells,cells,⟨F,N,⟨rfl,by simp,fun i us e _=>?_,fun q hq=>(nomatch hq),fun q hq=>(nomatch hq),fun i us fs e hi=>(nomatch hi),fun q hq=>(nomatch hq),fun q hq=>(nomatch hq)⟩,hsc,rfl,fun q hq=>(nomatch hq),fun q hq=>(nomatch hq),fun q hq=>hq,fun q hq z=>?_,fun q _ t ht=>(nomatch ht),fun q hq=>(nomatch hq),fun q hq t ht=>(nomatch ht),⟨fun i x u hi hk1 hu1=>?_,fun i x u hi hk1 hu1=>?_,fun x c1 hc=>?_,fun x y c1 h1 h2=>?_⟩⟩⟩
  ·have hi:i<1:=(Zz6.mp e).1
   have:i=0:=by omega
   subst this
   simp at e
   subst e
   exact⟨by simpa using hlen,sa,vs,0,rfl,List.mem_cons_self,hv'⟩
  ·have:=(N q hq).2.2
   rw[List.mem_singleton.mp z,hsc]at this
   cases this
  ·obtain⟨e3,e4⟩:=pick hi hu1
   subst e3 e4
   refine⟨.ref sa,?_,.ref ⟨rfl,fun q hq=>nomatch hq⟩⟩
   show bindL _ _ _ _=_
   unfold bindL bindL
   rw[if_pos (show(envOfC qual scope h₀.objs.size fa cd).kindOf x=some .local from hk1)]
   simp
  ·obtain⟨e3,e4⟩:=pick hi hu1
   subst e3 e4
   have hs:=cellsFrom_some scope.names (h₀.objs.size+1) [] (.inl hk1)
   obtain⟨c1,hc1⟩:=Option.isSome_iff_exists.mp hs
   obtain⟨o1,ho1,hd1⟩:=Ze7 X0 (ZcU hc1)
   refine⟨c1,o1,.ref sa,hc1,ho1,?_,.ref ⟨rfl,fun q hq=>nomatch hq⟩⟩
   rw[hd1]
   unfold bindC bindC
   rw[if_neg (show ¬(envOfC qual scope h₀.objs.size fa cd).kindOf x=some .local by show ¬scope.names.lookup x=some .local;rw[hk1];simp)]
   simp
  ·obtain⟨o1,ho1,hd1⟩:=Ze7 X0 (ZcU hc)
   exact⟨o1,_,ho1,hd1⟩
  ·exact name_of_addr far.1 (ZcU h1) (ZcU h2)
 refine hb _ _ _ [] s Q E _ rep e1 ?_
 intro W' h' tk' x l' r' x'
 cases x' with
 | bool _=>
  obtain⟨m',c',led',r'⟩:=r'
  exact post h' tk' m' r'.F
end
end PM
end
section
namespace PM
open PySem PySem.W PySem.Calls PyProof.Rows PyProof PyProof.Rows.LCg PyProof.Rows.LSm
theorem Rep.listAt{Γ:Cx}{W:Wd}{ρ:Lc}{H:Hp}{fr:List (Addr×Obj)}{h h':Heap}{vs:List V}{xs:List Value}{k:Nat}(r:Rep Γ W ρ H fr h)(up:∀b o,h.get? b=some o→h'.get? b=some o)(hg:h'.get? h.objs.size=some (Zbf xs k))(hv:VRs W vs xs)(hl:vs.length≤ZX):
  ∃W',W.Le W'∧Rep Γ W' ρ (H++[vs]) fr h'∧VR W' (.ref H.length) (.ref h.objs.size):=by
 obtain⟨r2,ap⟩:=r.more (fs:=[(h.objs.size,Zbf xs k)]) up (fun q hq=>by rw[List.mem_singleton.mp hq];exact⟨hg,Nat.le_refl _⟩)
 exact Ziq r2 (fun t ht=>ap _ Zz5 t ht) hv hl
noncomputable def Zbt: List V→Hp→Option (V×Hp)
 | [.ref a],H=>H[a]?.map fun vs=>(.ref H.length,H++[vs])
 | [.tup vs],H=>some (.ref H.length,H++[vs])
 | _,_=>none
noncomputable def ZdT: List V→Hp→Option (V×Hp)
 | [.ref a],H=>H[a]?.map fun vs=>(.tup vs,H)
 | [.tup vs],H=>some (.tup vs,H)
 | _,_=>none
section
variable {prog:Program} {w:World}
theorem ok_list1: OpN prog w (fun xs=>call (.type "list") xs) Zbt:=by
 intro Γ W ρ H fr s Q E as xs v H' r hx ho post
 unfold Zbt at ho
 split at ho
 ·obtain⟨vs,e1,e2⟩:=Zz1.mp ho
  cases e2
  obtain⟨x,ex,rx⟩:=hx.one
  subst ex
  cases rx with
  | @ref _ a ea=>
   obtain⟨hl,ys,k,hg,hv⟩:=r.at e1 ea
   refine call_list_seq (hsz:=Zcr (by rw[List.size_toArray,hv.length];exact hl)) a (.inl rfl) hg rfl rfl fun h' c' up hg'=>?_
   obtain⟨W2,l2,r2,v2⟩:=r.listAt up hg' hv hl
   exact post W2 h' s.toks _ l2 r2 v2
 ·first|exact Zx0 ho|cases ho
  obtain⟨x,ex,rx⟩:=hx.one
  subst ex
  cases rx with
  | @tup _ a ys k hm hl hv=>
   refine call_list_seq (hsz:=Zcr (by rw[List.size_toArray,hv.length];exact hl)) a (.inr rfl) (r.tupAt hm) rfl rfl fun h' c' up hg'=>?_
   obtain⟨W2,l2,r2,v2⟩:=r.listAt up hg' hv hl
   exact post W2 h' s.toks _ l2 r2 v2
 ·first|exact Zx0 ho|cases ho
theorem Zki: OpN prog w (fun xs=>call (.type "tuple") xs) ZdT:=by
 intro Γ W ρ H fr s Q E as xs v H' r hx ho post
 unfold ZdT at ho
 split at ho
 ·obtain⟨vs,e1,e2⟩:=Zz1.mp ho
  cases e2
  obtain⟨x,ex,rx⟩:=hx.one
  subst ex
  cases rx with
  | @ref _ a ea=>
   obtain⟨hl,ys,k,hg,hv⟩:=r.at e1 ea
   have isl:s.heap.IsList a ys.toArray:=⟨_,hg,rfl,k,rfl⟩
   refine call_tuple_list isl (fun h' up=>?_) (Zcr (by rw[List.size_toArray,hv.length];exact hl))
   obtain⟨W2,l2,r2,v2⟩:=(r.grown up).tuple (k:=0) hv hl
   exact post W2 _ s.toks _ l2 r2 v2
 ·first|exact Zx0 ho|cases ho
  obtain⟨x,ex,rx⟩:=hx.one
  subst ex
  cases rx with
  | @tup _ a ys k hm hl hv=>
   have it:IsTup s.heap a ys.toArray:=⟨_,r.tupAt hm,rfl,k,rfl⟩
   exact call_tuple_tup it (post W s.heap s.toks _ (.refl W) r (.tup hm hl hv))
 ·first|exact Zx0 ho|cases ho
end
section
variable {prog:Program} {w:World} {K:Frag} {p:Program} {loose:List Str} {mean:ExcName→Option Value} {mg mb:Str→Option Value} {Γ:Cx} {dp un:Nat}
theorem nm_def{x:Str}{v:Value}(clr:Clr K p loose mean mg mb Γ dp un)(e:nsIn K mainGlobals x=some (some v))(hg:Γ.env.globals=mainGlobals)(hk:Γ.env.scope.kind=.function)(hx:Γ.env.kindOf x=some .globalImplicit)(hd:(x == ("__debug__":Str))=false): Nm prog w Γ x v:=by
 obtain⟨_,_,_,_,_,_,_,_,_,_,_,X,T,_⟩:=clr
 intro pos m s Q E F q
 exact Name_function_global hk hx (loadGlobal_global (env:=Γ.env) (by rw[hg];exact T.g.keeps F.keep) (mg_of X T.g e) q) hd
theorem nm_built{x:Str}{v:Value}(clr:Clr K p loose mean mg mb Γ dp un)(e:nsIn K mainGlobals x=some none)(hv:bootBuiltins x=some v)(hn:x≠"__name__")(hg:Γ.env.globals=mainGlobals)(hb:Γ.env.builtins=builtinsNs)(hk:Γ.env.scope.kind=.function)(hx:Γ.env.kindOf x=some .globalImplicit)(hd:(x == ("__debug__":Str))=false): Nm prog w Γ x v:=by
 obtain⟨_,_,_,_,_,_,_,_,_,_,_,X,T,_⟩:=clr
 intro pos m s Q E F q
 exact Name_function_global hk hx (loadGlobal_builtin (env:=Γ.env) (by rw[hg];exact T.g.keeps F.keep) (mg_none_of X T.g e) (by rw[hb];exact T.b.keeps F.keep) ((T.builtins x hn).trans hv) q) hd
end
section
variable {prog:Program} {w:World} {Γ:Cx} {scope:Scope} {cl:List (Str×Addr)} {C:Addr} {ts:List (Str×Nat)} {ρ0:Lc}
theorem Zou{x:Str}{t:Nat}(hm:(x,t)∈ts)(hk:scope.kind=.function)(hl:(compEnvC scope cl C Γ.env).kindOf x=some .local)(hd:(x == ("__debug__":Str))=false): Rd prog w (ZaZ Γ scope cl C ts ρ0) x t:=by
 intro W ρ H fr s Q E v pos r e q
 obtain⟨m,c,led,r⟩:=r
 obtain⟨oC,m₂,cs,ec,h0,h1,h2,h3,h4⟩:=r.own
 obtain⟨v',y,e1,e2,e3⟩:=h2 _ hm
 rw[e]at e1
 cases e1
 exact LCgL.ld_own r.N (r.clIn _ (by rw[ec];exact Zz5)) h1 e2 (q y e3) hk hl hd
end
section
variable {prog:Program} {w:World} {dp un:Nat} {gd:Option (List Code)} {cn:Str} {cs:Scope} {L a:Addr} {ccd:Value} {clf:List (Str×Addr)} {outer:List Env} {h₀:Heap} {hu:un+200<cLine} {names:List Str} {scope:Scope} {cl:List (Str×Addr)} {C:Addr} {ts:List (Str×Nat)} {ρ0:Lc}
theorem rdc_cel{x:Str}{i:Nat}(hi:names[i]?=some x)(hx:cs.names.lookup x=some .cell)(hne:∀p∈ts,p.2≠i)(hcl:cl.lookup x=clf.lookup x)(hk:scope.kind=.function)(hl:(compEnvC scope cl C (envX cn cs L a ccd clf)).kindOf x=some .cell)(hd:(x == ("__debug__":Str))=false):
  Rd prog w (ZaZ (Zbm dp un gd cn cs L a ccd clf outer h₀ hu names) scope cl C ts ρ0) x i:=by
 intro W ρ H fr s Q E v pos r e q
 obtain⟨m,c,led,r⟩:=r
 obtain⟨oC,m₂,cs',ec,h0,h1,h2,h3,h4⟩:=r.own
 rw[h3 i hne]at e
 obtain⟨d,o,y,g1,g2,g3,g4⟩:=h4.cel i x v hi hx e
 exact kcf_cell r.N (hcl.trans g1) (r.clIn _ (by rw[ec];exact Zz2 _ g2)) g3 (q y g4) hk hl hd
end
end PM
end
section
namespace My
open PySem PySem.W PySem.Calls PyProof.Rows PySem.Spec
structure Cell(v:Int): Prop where
 bits:Builtin.Int.intBits v≤2 ^ 20
theorem bits_zero: Builtin.Int.intBits 0≤2 ^ 20:=by unfold Builtin.Int.intBits;simp
theorem cell_at{ns:List Int}(h:PyData.layable0 (.list (ns.map .int))=true)(i:Int): Cell (cellAt ns i 0):=by
 refine⟨?_⟩
 rw[cellAt_def,List.getD_eq_getElem?_getD]
 cases e:ns[i.toNat]? with
 | none=>exact bits_zero
 | some v=>exact PyData.bits_item_of_ints h (Zy4 e)
section
variable {prog:Program} {w:World} {A:Around} {E:Value→Shared→Prop} {s:Shared} {x y:Int} {t u:Tok} {Q:Value→Shared→Prop}
@[irreducible] noncomputable def T60: Int:=10 ^ 60
end
end My
end
section
/-! Reckoning with the plain machine. -/
namespace PM
open PySem PySem.W PyProof.Rows
section
variable (ρ:Lc) (H:Hp)
@[simp] theorem ZrB(k:Int): Zd k ρ H=some (.int k,H):=rfl
@[simp] theorem Zra: ZaT ρ H=some (.none,H):=rfl
@[simp] theorem Zrb(b:Bool): ZbH b ρ H=some (.bool b,H):=rfl
@[simp] theorem ZrC(x:Str): ZG x ρ H=some (.str x,H):=rfl
@[simp] theorem ZrD(i:Nat): Za i ρ H=(ρ i).map fun v=>(v,H):=rfl
@[simp] theorem ZrE(o:V→V→Hp→Option (V×Hp))(f g:Ex): Zc o f g ρ H=(f ρ H).bind fun p=>(g ρ p.2).bind fun q=>o p.1 q.1 q.2:=rfl
@[simp] theorem ZrY(o:V→Hp→Option (V×Hp))(f:Ex): ZM o f ρ H=(f ρ H).bind fun p=>o p.1 p.2:=rfl
@[simp] theorem ZrF(t:Ts)(f g:Ex): eIf t f g ρ H=(t ρ H).bind fun p=>if p.1 then f ρ p.2 else g ρ p.2:=rfl
@[simp] theorem ZrG: Ze ρ H=some ([],H):=rfl
@[simp] theorem Zrc(f:Ex)(g:Z7): Zb f g ρ H=(f ρ H).bind fun p=>(g ρ p.2).bind fun q=>some (p.1::q.1,q.2):=rfl
@[simp] theorem ZrH(g:Z7): Z8 g ρ H=(g ρ H).bind fun p=>if p.1.length≤ZX then some (.tup p.1,p.2)else none:=rfl
@[simp] theorem Zrd(g:Z7): ZU g ρ H=(g ρ H).bind fun p=>if p.1.length≤ZX then some (.ref p.2.length,p.2++[p.1])else none:=rfl
@[simp] theorem ZrI(f:Ex): Zs f ρ H=(f ρ H).bind fun p=>(Zak p.1 p.2).map fun b=>(b,p.2):=rfl
@[simp] theorem Zre(t:Ts): Zca t ρ H=(t ρ H).map fun p=>(!p.1,p.2):=rfl
@[simp] theorem Zrf: ZZ ρ H=some (true,H):=rfl
@[simp] theorem Zq9: Zdq ρ H=some (false,H):=rfl
@[simp] theorem Zrg(t u:Ts): Zav t u ρ H=(t ρ H).bind fun p=>if p.1 then u ρ p.2 else some (false,p.2):=rfl
@[simp] theorem ZrJ(t u:Ts): tOr t u ρ H=(t ρ H).bind fun p=>if p.1 then some (true,p.2)else u ρ p.2:=rfl
@[simp] theorem ZrK(t u v:Ts): tIf t u v ρ H=(t ρ H).bind fun p=>if p.1 then u ρ p.2 else v ρ p.2:=rfl
@[simp] theorem Zrh(f:Ex): ZqT f ρ H=(f ρ H).bind fun p=>(Zak p.1 p.2).map fun b=>(.bool (!b),p.2):=rfl
@[simp] theorem Zri(f g:Ex): Zey f g ρ H=(f ρ H).bind fun p=>(Zak p.1 p.2).bind fun b=>if b then g ρ p.2 else some p:=rfl
@[simp] theorem ZrL(f g:Ex): eOr f g ρ H=(f ρ H).bind fun p=>(Zak p.1 p.2).bind fun b=>if b then some p else g ρ p.2:=rfl
@[simp] theorem Zrj(o:List V→Hp→Option (V×Hp))(g:Z7): Zh o g ρ H=(g ρ H).bind fun p=>o p.1 p.2:=rfl
@[simp] theorem ZrZ(T:String)(f:Ex): eIs T f ρ H=(f ρ H).bind fun p=>if Zfw p.1 then none else some (.bool (Zb7 T p.1),p.2):=rfl
@[simp] theorem Zq4(o f:Ex): ZaD o f ρ H=(o ρ H).bind fun p=>(f ρ p.2).bind fun q=>Zcf [p.1,q.1] q.2:=rfl
@[simp] theorem ZnH: Zdv ρ H=some (none,H):=rfl
@[simp] theorem ZnI(f:Ex): Zdw f ρ H=(f ρ H).map fun p=>(some p.1,p.2):=rfl
@[simp] theorem Zrk: ZL ρ H=some (none,ρ,H):=rfl
@[simp] theorem ZrM(f:Ex): Zy f ρ H=(f ρ H).map fun p=>(some p.1,ρ,p.2):=rfl
@[simp] theorem ZrN(i:Nat)(f:Ex): Zw i f ρ H=(f ρ H).map fun p=>(none,upd ρ i p.1,p.2):=rfl
@[simp] theorem ZrO(t:Ts)(a b:Sm): Zz t a b ρ H=(t ρ H).bind fun p=>if p.1 then a ρ p.2 else b ρ p.2:=rfl
@[simp] theorem ZrP(f:Ex): ZC f ρ H=(f ρ H).map fun p=>(none,ρ,p.2):=rfl
@[simp] theorem ZrQ(f o i:Ex): ZaY f o i ρ H=(f ρ H).bind fun p=>(o ρ p.2).bind fun q=>(i ρ q.2).bind fun u=>(ZdE q.1 u.1 p.1 u.2).map fun K=>(none,ρ,K):=rfl
@[simp] theorem ZrR(g:Src)(put:V→Lc→Option Lc)(b:Sm): ZaL g put b ρ H=(g ρ H).bind fun z=>Za3 z.1 put b z.2.1 0 ρ z.2.2:=rfl
@[simp] theorem Zrl(g:Src)(put:V→Lc→Option Lc)(c:Ts)(f:Ex): Zam g put c f ρ H=(g ρ H).bind fun z=>(ZaF z.1 put c f ρ z.2.1 0 [] z.2.2).map fun q=>(.ref q.2.length,q.2++[q.1]):=rfl
end
@[simp] theorem ZrS(ρ:Lc)(i:Nat)(v:V)(j:Nat): upd ρ i v j=if j=i then some v else ρ j:=rfl
@[simp] theorem Zrm(i:Nat)(v:V)(ρ:Lc): ZQ i v ρ=some (upd ρ i v):=rfl
@[simp] theorem Zrn(i j:Nat)(a b:V)(ρ:Lc): Zd5 i j (.tup [a,b]) ρ=some (upd (upd ρ i a) j b):=rfl
@[simp] theorem Zro(b:Bool)(H:Hp): Zak (.bool b) H=some b:=rfl
@[simp] theorem Zrp(i:Int)(H:Hp): Zak (.int i) H=some (i != 0):=rfl
@[simp] theorem Zrq(H:Hp): Zak .none H=some false:=rfl
section
variable (a b:Int) (H:Hp)
@[simp] theorem Zda: ZE (.int a) (.int b) H=some (.int (a+b),H):=rfl
@[simp] theorem Zdb: Zaf (.int a) (.int b) H=some (.int (a-b),H):=rfl
@[simp] theorem Zjw: Zbl (.int a) H=some (.int (-a),H):=rfl
@[simp] theorem Zr5: oLt (.int a) (.int b) H=some (.bool (decide (a<b)),H):=rfl
@[simp] theorem Zr6: oLe (.int a) (.int b) H=some (.bool (decide (a≤b)),H):=rfl
@[simp] theorem Zr7: oGt (.int a) (.int b) H=some (.bool (decide (b<a)),H):=rfl
@[simp] theorem Zr8: oGe (.int a) (.int b) H=some (.bool (decide (b≤a)),H):=rfl
@[simp] theorem Zr0: ZbI [.int a] H=some (.int (if a<0 then -a else a),H):=rfl
@[simp] theorem Zr1: Zfx [.int a,.int b] H=some (.int (if b>a then b else a),H):=rfl
@[simp] theorem Zr2: Zd3 [.int a,.int b] H=some (.int (if b<a then b else a),H):=rfl
@[simp] theorem ZrT: oIs .none .none H=some (.bool true,H):=rfl
@[simp] theorem ZrU: oIs (.int a) .none H=some (.bool false,H):=rfl
@[simp] theorem ZrV(vs:List V): oIs (.tup vs) .none H=some (.bool false,H):=rfl
@[simp] theorem ZrW(i:Nat): oIs (.ref i) .none H=some (.bool false,H):=rfl
@[simp] theorem Zq5: ZdX .none .none H=some (.bool false,H):=rfl
@[simp] theorem Zq6: ZdX (.int a) .none H=some (.bool true,H):=rfl
@[simp] theorem Zq7(vs:List V): ZdX (.tup vs) .none H=some (.bool true,H):=rfl
@[simp] theorem Zq8(i:Nat): ZdX (.ref i) .none H=some (.bool true,H):=rfl
@[simp] theorem ZlX: ZN (.int a) (.int b) H=some (.bool (a == b),H):=by
 simp[ZN,ZcN,toD,SeqAt.shaped,PyData.canLay0,PyData.depth,PyData.eqv]
@[simp] theorem Zr9: oNe (.int a) (.int b) H=some (.bool (!(a == b)),H):=by
 simp[oNe,ZcN,toD,SeqAt.shaped,PyData.canLay0,PyData.depth,PyData.eqv]
@[simp] theorem Zr3(c d:Bool): ZN (.bool c) (.bool d) H=some (.bool (c == d),H):=by
 simp[ZN,ZcN,toD,SeqAt.shaped,PyData.canLay0,PyData.depth,PyData.eqv]
@[simp] theorem Zr4(c d:Bool): oNe (.bool c) (.bool d) H=some (.bool (!(c == d)),H):=by
 simp[oNe,ZcN,toD,SeqAt.shaped,PyData.canLay0,PyData.depth,PyData.eqv]
@[simp] theorem Zrr: Zb7 "int" (.int a)=true:=rfl
@[simp] theorem Zrs: Zb7 "bool" (.int a)=false:=rfl
@[simp] theorem Zrt(i:Nat): Zb7 "list" (.ref i)=true:=rfl
@[simp] theorem Zru(vs:List V): Zb7 "tuple" (.tup vs)=true:=rfl
@[simp] theorem Zrv(b:Bool): Zb7 "bool" (.bool b)=true:=rfl
@[simp] theorem Zrw(b:Bool): Zb7 "int" (.bool b)=true:=rfl
@[simp] theorem Zrx: Zb7 "int" .none=false:=rfl
@[simp] theorem Zry: Zb7 "tuple" .none=false:=rfl
@[simp] theorem Zrz: Zb7 "list" .none=false:=rfl
end
@[simp] theorem ZrX(H:Hp)(vs:List V): (H++[vs])[H.length]?=some vs:=by simp
@[simp] theorem ZrA(f:Ex)(ρ:Lc)(H:Hp): Zar f ρ H=(f ρ H).bind fun p=>match p.1 with
 | .ref a=>p.2[a]?.map fun vs=>(Zad a,vs.length+1,p.2)
 | .tup vs=>some (Zjh vs,vs.length+1,p.2)
 | _=>none:=rfl
@[simp] theorem Zq3(a c:Int)(n i:Nat)(H:Hp): Zb3 a c n i H=some (if i<n then some (.int (a+i*c))else none):=rfl
theorem Zg2{b:Int}(hb:0≤b): Builtin.Range.rangeSize 0 b 1=b:=by
 unfold Builtin.Range.rangeSize
 rw[if_pos (by decide)]
 by_cases h:(0:Int)<b
 ·rw[if_pos h]
  lia
 ·rw[if_neg h]
  lia
theorem Zpt{b:Int}{H:Hp}(hb:0≤b)(hb9:b≤1000): Zbw 0 b 1 H=some (Zb3 0 1 b.toNat,b.toNat+1,H):=by
 unfold Zbw rngN
 rw[Zg2 hb,if_pos]
 refine⟨by decide,?_,hb,by rw[Zac];lia,?_⟩
 ·unfold Builtin.Range.small
  rw[Zg2 hb]
  simp only[Builtin.Range.rangeFitsLong,Bool.and_eq_true,Bool.or_eq_true,decide_eq_true_eq,beq_iff_eq]
  rw[if_pos (by decide)]
  simp only[Bool.and_eq_true,decide_eq_true_eq]
  by_cases h:(0:Int)<b
  ·refine⟨⟨⟨⟨?_,?_⟩,?_⟩,?_⟩,Or.inr ?_⟩ <;> (first | lia | omega)
  ·refine⟨⟨⟨⟨?_,?_⟩,?_⟩,?_⟩,?_⟩ <;> first | (first | lia | omega) | (left;omega)
 ·exact PyProof.noPylong_small (by lia)
end PM
end
section
namespace PM
open PySem PySem.W PyProof.Rows My
theorem Zkw{a b:Int}(h:IntMulOk a b): Zb8 a b=true:=by
 unfold IntMulOk at h
 unfold Zb8
 cases e:(decide (Builtin.Int.intBits a>shortFactorBits) && decide (Builtin.Int.intBits b>shortFactorBits) && Builtin.Int.intTooBig (Builtin.Int.intBits a+Builtin.Int.intBits b))with
 | true=>exact absurd e h
 | false=>rfl
@[irreducible] noncomputable def M5: Int:=48271 ^ Int.toNat 14
theorem ZlK{a b:Int}{H:Hp}(h:0≤b∧(Builtin.Int.intBits a:Int)*b≤2 ^ 27): oPow (.int a) (.int b) H=some (.int (a ^ b.toNat),H):=by simp only[oPow];rw[if_pos h]
theorem ZqF(H:Hp): oPow (.int 48271) (.int 14) H=some (.int M5,H):=by rw[ZlK (by decide +kernel)];unfold M5;rfl
theorem Zpu(H:Hp): oPow (.int 10) (.int 60) H=some (.int T60,H):=by rw[ZlK (by decide +kernel)];unfold T60;rfl
end PM
end
section
namespace PM
open PySem PySem.W PyProof.Rows My
section
variable {ρ ρ1 ρ2:Lc} {H H1 H2 H3:Hp}
theorem Zpv{k:Int}: Zd k ρ H=some (.int k,H):=rfl
theorem Zov{f g:Ex}{a:Nat}{k:Int}{n:Nat}{vs:List V}(h1:f ρ H=some (.ref a,H1))(h2:g ρ H1=some (.int k,H2))(e:H2[a]?=some vs)(hk:k=(n:Int)): Zc0 f (Zdw g) Zdv ρ H=some (.ref H2.length,H2++[vs.drop n]):=by
 simp only[Zc0,h1,Zs0,ZnI,h2,Zs1,ZnH,Zfv,e]
 rw[Zkg vs hk]
end
end PM
end
section
/-! Forward reckoning: what comes, told by a claim. -/
namespace PM
open PySem PySem.W PyProof.Rows My
section
variable {ρ:Lc} {H:Hp} {Q:V→Hp→Prop} {L:List V→Hp→Prop} {T:Bool→Hp→Prop} {R:V→Hp→Prop} {N:Lc→Hp→Prop}
variable {a b:Int}
theorem lt_of_at{i:Nat}{vs:List V}(e:H[i]?=some vs): i<H.length:=(Zz6.mp e).1
end
end PM
end
section
namespace PM
open PySem PySem.W PyProof.Rows PyProof
noncomputable def Zep(f:Ex)(k:Nat): Ex:=fun ρ H=>(f ρ H).bind fun p=>match p.1 with
 | .ref i=>p.2[i]?.bind fun vs=>some (.ref p.2.length,p.2++[vs.drop k])
 | .tup vs=>if 1≤k∧k≤vs.length then some (.tup (vs.drop k),p.2)else none
 | _=>none
section
variable {prog:Program} {w:World} {Γ:Cx}
theorem Zpw{e lo:Expr}{p pos:Pos}{f:Ex}{k:Nat}(h:J prog w Γ e f)(hlo:J prog w Γ lo (Zd k))(ht:∀o r,letTemporaryGo e o r=pure ():=by intro _ _;rfl): J prog w Γ (.Subscript e (.Slice (Option.some lo) Option.none Option.none p) pos) (Zep f k):=by
 intro W ρ H fr s Q E v H' r hf post
 obtain⟨⟨v1,H1⟩,e1,hf⟩:=Zz0.mp hf
 cases v1 with
 | none=>first|exact Zx0 hf|cases hf
 | bool _=>first|exact Zx0 hf|cases hf
 | int _=>first|exact Zx0 hf|cases hf
 | str _=>first|exact Zx0 hf|cases hf
 | obj _ _=>first|exact Zx0 hf|cases hf
 | ref i=>
  obtain⟨vs,e2,e3⟩:=Zz0.mp hf
  refine Zgv h (JP.some hlo) JP.none ht W ρ H fr s Q E v H' r ?_ post
  rw[Zov (n:=k) e1 Zpv e2 rfl]
  exact e3
 | tup vs=>
  simp only at hf
  by_cases c:1≤k∧k≤vs.length
  ·rw[if_pos c]at hf
   cases hf
   refine wpAny_Subscript_Slice (T:="tuple") slot_tuple_getitem.lookup (h W ρ H fr s _ E _ _ r e1 fun W1 k1 t1 x l1 r1 x1=>?_) ht
   refine wpAny_Slice ?_
   refine wpAny_evalPart_some (hlo W1 ρ _ fr _ _ E _ _ r1 rfl fun W2 k2 t2 y l2 r2 y2=>?_)
   refine wpAny_evalPart_none ?_
   refine wpAny_evalPart_none ?_
   cases y2 with
   | int _ u=>
    have x2:=x1.mono l2
    cases x2 with
    | @tup _ a ys kk hm hl hs=>
     have it:IsTup k2 a ys.toArray:=⟨_,r2.tupAt hm,rfl,kk,rfl⟩
     have it':IsTup (k2.push { cls:=.type "slice",data:=.fields #[.int k u,.none,.none] }) a ys.toArray:=it.keeps fun _ _ e=>Heap.get?_push_of_some _ e
     have hlen:=hs.length
     rw[Zac]at hl
     refine⟨it'.typeIs,getItem_tuple_from it' (Heap.IsSliceOf.new ..) c.1 (by simp[hlen];exact c.2) ?_ (Zcr (by simp[hlen];rw[Zac];exact hl))⟩
     obtain⟨W4,l4,r4,v4⟩:=(r2.push { cls:=.type "slice",data:=.fields #[.int k u,.none,.none] }).tuple (k:=0) (hs.drop k) (by rw[Zac];simp;lia)
     have:=post W4 _ t2 _ ((l1.trans l2).trans l4) r4 v4
     simpa using this
  ·rw[if_neg c]at hf
   cases hf
end
section
variable {ρ:Lc} {H:Hp} {Q:V→Hp→Prop}
theorem ZlL{a b c:Int}(hc:0<c)(hb:a<b): Builtin.Range.rangeSize a b c=(b-a-1) / c+1:=by
 unfold Builtin.Range.rangeSize
 rw[if_pos hc,if_pos hb]
theorem Zpx{a b c:Int}{H:Hp}(ha:0≤a)(hb:a<b)(hb9:b≤1000)(hc:0<c)(hc9:c≤1000): Zbw a b c H=some (Zb3 a c (rngN a b c),rngN a b c+1,H):=by
 have e:=ZlL hc hb
 have h0:0≤(b-a-1) / c:=Int.ediv_nonneg (by lia) (by lia)
 have h2:(b-a-1) / c≤b-a-1:=Int.ediv_le_self _ (by omega)
 unfold Zbw
 rw[if_pos]
 refine⟨by lia,?_,by omega,by unfold rngN;rw[Zac];lia,PyProof.noPylong_small (by omega)⟩
 unfold Builtin.Range.small
 rw[e]
 simp only[Builtin.Range.rangeFitsLong,Bool.and_eq_true,Bool.or_eq_true,decide_eq_true_eq,beq_iff_eq]
 rw[if_pos hc]
 simp only[Bool.and_eq_true,decide_eq_true_eq]
 refine⟨⟨⟨⟨?_,?_⟩,?_⟩,?_⟩,?_⟩ <;> first | (first | lia | omega) | (left;omega) | (right;omega)
end
end PM
end
section
namespace PM
open PySem PySem.W PyProof.Rows PyProof My
section
variable {ρ:Lc} {H:Hp} {Q:V→Hp→Prop} {L:List V→Hp→Prop}
end
noncomputable def oi: Option Int→V
 | none=>.none
 | some k=>.int k
noncomputable def pr(q:Int×Int): V:=.tup [.int q.1,.int q.2]
noncomputable def od: Option Int→PyData
 | none=>.none
 | some k=>.int k
noncomputable def pd(q:Int×Int): PyData:=.tuple [.int q.1,.int q.2]
theorem ZnJ{a b:Int}(ha:Builtin.Int.intBits a≤2 ^ 21)(hb:Builtin.Int.intBits b≤2 ^ 21): Zb8 a b=true:=by
 have e:(2:Nat) ^ 21=2097152:=by decide
 have h:Builtin.Int.intTooBig (Builtin.Int.intBits a+Builtin.Int.intBits b)=false:=by
  unfold Builtin.Int.intTooBig bitsLine
  exact decide_eq_false (by lia)
 unfold Zb8
 rw[h]
 simp
theorem Zm3{a b:Int}(h1:-(2 ^ 64)<b)(h2:b<2 ^ 64): Zb8 a b=true:=Zkw (IntMulOk.of_right (intBits_le_64 h1 h2))
theorem ZmF{a b:Int}(h1:-(2 ^ 64)<a)(h2:a<2 ^ 64): Zb8 a b=true:=Zkw (IntMulOk.of_left (intBits_le_64 h1 h2))
section
variable {H:Hp} {Q:V→Hp→Prop} {a b:Int}
end
end PM
end
section
/-! The tree machine: values without places; lists that nobody else holds may be changed. -/
namespace TM
open PySem PM
inductive T where
 | none
 | bool (b:Bool)
 | int (i:Int)
 | str (s:Str)
 | tup (ts:List T)
 | lst (ts:List T)
 | ob (c:Nat×List Str) (ts:List T)
mutual
inductive RF(H:Hp): V→T→List Nat→Prop where
 | none:RF H .none .none []
 | bool (b:Bool):RF H (.bool b) (.bool b) []
 | int (i:Int):RF H (.int i) (.int i) []
 | str (s:Str):RF H (.str s) (.str s) []
 | tup {vs:List V} {ts:List T} {F:List Nat}:RFs H vs ts F→RF H (.tup vs) (.tup ts) F
 | ref {a:Nat} {vs:List V} {ts:List T} {F:List Nat}:H[a]?=some vs→RFs H vs ts F→RF H (.ref a) (.lst ts) (a::F)
 | obj {c:Nat×List Str} {a:Nat} {vs:List V} {ts:List T} {F:List Nat}:H[a]?=some vs→RFs H vs ts F→RF H (.obj c a) (.ob c ts) (a::F)
inductive RFs(H:Hp): List V→List T→List Nat→Prop where
 | nil:RFs H [] [] []
 | cons {v:V} {t:T} {F:List Nat} {vs:List V} {ts:List T} {G:List Nat}:RF H v t F→RFs H vs ts G→RFs H (v::vs) (t::ts) (F++G)
end
mutual
theorem RF.frame{H H':Hp}{v:V}{t:T}{F:List Nat}(r:RF H v t F)(h:∀a∈F,H'[a]?=H[a]?): RF H' v t F:=by
 cases r with
 | none=>exact .none
 | bool b=>exact .bool b
 | int i=>exact .int i
 | str s=>exact .str s
 | tup hs=>exact .tup (RFs.frame hs h)
 | ref e hs=>exact .ref ((h _ Zz5).trans e) (RFs.frame hs fun a m=>h a (Zz2 _ m))
 | obj e hs=>exact .obj ((h _ Zz5).trans e) (RFs.frame hs fun a m=>h a (Zz2 _ m))
theorem RFs.frame{H H':Hp}{vs:List V}{ts:List T}{F:List Nat}(r:RFs H vs ts F)(h:∀a∈F,H'[a]?=H[a]?): RFs H' vs ts F:=by
 cases r with
 | nil=>exact .nil
 | cons a b=>exact .cons (RF.frame a fun x m=>h x (Zz4 _ m)) (RFs.frame b fun x m=>h x (Zz3 _ m))
end
mutual
theorem RF.lt{H:Hp}{v:V}{t:T}{F:List Nat}(r:RF H v t F): ∀a∈F,a<H.length:=by
 cases r with
 | none=>intro a m;cases m
 | bool b=>intro a m;cases m
 | int i=>intro a m;cases m
 | str s=>intro a m;cases m
 | tup hs=>exact RFs.lt hs
 | ref e hs=>
  intro x m
  rcases Zz7.mp m with rfl | m
  ·exact(Zz6.mp e).1
  ·exact RFs.lt hs x m
 | obj e hs=>
  intro x m
  rcases Zz7.mp m with rfl | m
  ·exact(Zz6.mp e).1
  ·exact RFs.lt hs x m
theorem RFs.lt{H:Hp}{vs:List V}{ts:List T}{F:List Nat}(r:RFs H vs ts F): ∀a∈F,a<H.length:=by
 cases r with
 | nil=>intro a m;cases m
 | cons a b=>
  intro x m
  rcases Zz8.mp m with m | m
  ·exact RF.lt a x m
  ·exact RFs.lt b x m
end
theorem RF.ext{H:Hp}{v:V}{t:T}{F:List Nat}(r:RF H v t F)(X:Hp): RF (H++X) v t F:=r.frame fun a m=>Zy0 (r.lt a m)
theorem RFs.ext{H:Hp}{vs:List V}{ts:List T}{F:List Nat}(r:RFs H vs ts F)(X:Hp): RFs (H++X) vs ts F:=r.frame fun a m=>Zy0 (r.lt a m)
theorem RFs.length{H:Hp}: ∀{vs:List V} {ts:List T} {F:List Nat},RFs H vs ts F→vs.length=ts.length
 | _,_,_,.nil=>rfl
 | _,_,_,.cons _ r=>by rw[List.length_cons,List.length_cons,r.length]
theorem RFs.append{H:Hp}: ∀{vs us:List V} {ts ss:List T} {F G:List Nat},RFs H vs ts F→RFs H us ss G→RFs H (vs++us) (ts++ss) (F++G)
 | _,_,_,_,_,_,.nil,h=>h
 | _,_,_,_,_,_,.cons a r,h=>by rw[List.append_assoc];exact .cons a (r.append h)
theorem RFs.one{H:Hp}{v:V}{t:T}{F:List Nat}(r:RF H v t F): RFs H [v] [t] F:=by
 have:=RFs.cons r RFs.nil
 rwa [List.append_nil]at this
theorem RFs.snoc{H:Hp}{vs:List V}{ts:List T}{F G:List Nat}{v:V}{t:T}(r:RFs H vs ts F)(x:RF H v t G): RFs H (vs++[v]) (ts++[t]) (F++G):=r.append (.one x)
theorem RFs.at{H:Hp}: ∀{vs:List V} {ts:List T} {F:List Nat} {i:Nat} {t:T},RFs H vs ts F→ts[i]?=some t→∃v G,vs[i]?=some v∧RF H v t G∧G.Sublist F
 | _,_,_,_,_,.nil,e=>by simp at e
 | _,_,_,0,_,.cons a _,e=>by
  simp at e
  exact⟨_,_,by simp,e▸a,List.sublist_append_left _ _⟩
 | _,_,_,i+1,_,.cons _ r,e=>by
  simp at e
  obtain⟨x,G,hx,hr,hs⟩:=r.at e
  exact⟨x,G,by simpa using hx,hr,hs.trans (List.sublist_append_right _ _)⟩
theorem RFs.drop{H:Hp}: ∀{vs:List V} {ts:List T} {F:List Nat} (i:Nat),RFs H vs ts F→∃G,RFs H (vs.drop i) (ts.drop i) G∧G.Sublist F
 | _,_,_,0,h=>⟨_,h,List.Sublist.refl _⟩
 | _,_,_,_+1,.nil=>⟨_,.nil,List.Sublist.refl _⟩
 | _,_,_,i+1,.cons _ r=>by
  obtain⟨G,h1,h2⟩:=r.drop i
  exact⟨G,h1,h2.trans (List.sublist_append_right _ _)⟩
theorem RFs.split{H:Hp}: ∀{vs:List V} {ts:List T} {F:List Nat} {i:Nat} {t:T},RFs H vs ts F→ts[i]?=some t →
  ∃v G F1 F2,vs[i]?=some v∧RF H v t G∧F=F1++(G++F2)∧∀(H':Hp) (w:V) (t':T) (G':List Nat),RF H' w t' G'→(∀a∈F1,H'[a]?=H[a]?)→(∀a∈F2,H'[a]?=H[a]?)→RFs H' (vs.set i w) (ts.set i t') (F1++(G'++F2))
 | _,_,_,_,_,.nil,e=>by simp at e
 | _,_,_,0,_,.cons (G:=G1) a r,e=>by
  simp at e
  subst e
  exact⟨_,_,[],G1,by simp,a,by simp,fun H' w t' G' x _ h2=>by simpa using RFs.cons x (r.frame h2)⟩
 | _,_,_,i+1,_,.cons (F:=F0) a r,e=>by
  simp at e
  obtain⟨v,G,F1,F2,h1,h2,h3,h4⟩:=r.split e
  refine⟨v,G,F0++F1,F2,by simpa using h1,h2,by rw[h3];simp,fun H' w t' G' x k1 k2=>?_⟩
  have:=RFs.cons (a.frame fun b m=>k1 b (Zz4 _ m)) (h4 H' w t' G' x (fun b m=>k1 b (Zz3 _ m)) k2)
  simpa using this
theorem Ziz{α:Type}{xs:List α}{i:Nat}{x:α}(h:xs[i]?=some x): xs.set i x=xs:=by
 obtain⟨hi,e⟩:=Zz6.mp h
 rw[←e]
 exact List.set_getElem_self hi
theorem nd3{F1 G F2 G' Gn:List Nat}(nd:(F1++(G++F2)).Nodup)(n':G'.Nodup)(sub:∀a∈G',a∈G∨a∈Gn)(ds:∀a∈Gn,a∉F1++(G++F2)): (F1++(G'++F2)).Nodup:=by
 rw[List.nodup_append,List.nodup_append]at nd ⊢
 obtain⟨a1,⟨a2,a3,a4⟩,a5⟩:=nd
 refine⟨a1,⟨n',a3,fun x hx y hy e=>?_⟩,fun x hx y hy e=>?_⟩
 ·rcases sub x hx with m | m
  ·exact a4 x m y hy e
  ·exact ds x m (Zz3 _ (Zz3 _ (e▸hy)))
 ·rcases Zz8.mp hy with m | m
  ·rcases sub y m with q | q
   ·exact a5 x hx y (Zz4 _ q) e
   ·exact ds y q (Zz4 _ (e▸hx))
  ·exact a5 x hx y (Zz3 _ m) e
theorem in3{F1 G F2 G' Gn:List Nat}(sub:∀a∈G',a∈G∨a∈Gn): ∀a∈F1++(G'++F2),a∈F1++(G++F2)∨a∈Gn:=by
 intro a m
 rcases Zz8.mp m with m | m
 ·exact .inl (Zz4 _ m)
 ·rcases Zz8.mp m with m | m
  ·exact(sub a m).imp (fun q=>List.mem_append_right _ (Zz4 _ q)) id
  ·exact .inl (Zz3 _ (Zz3 _ m))
mutual
noncomputable def T.flat: T→Bool
 | .lst _=>false
 | .tup ts=>T.flats ts
 | .none=>true
 | .bool _=>true
 | .int _=>true
 | .str _=>true
 | .ob _ _=>false
noncomputable def T.flats: List T→Bool
 | []=>true
 | t::ts=>t.flat && T.flats ts
end
mutual
theorem RF.flat{H:Hp}{v:V}{t:T}{F:List Nat}(r:RF H v t F)(h:t.flat=true): F=[]:=by
 cases r with
 | none=>rfl
 | bool b=>rfl
 | int i=>rfl
 | str s=>rfl
 | tup hs=>exact RFs.flats hs (by simpa [T.flat]using h)
 | ref e hs=>simp[T.flat]at h
 | obj e hs=>simp[T.flat]at h
theorem RFs.flats{H:Hp}{vs:List V}{ts:List T}{F:List Nat}(r:RFs H vs ts F)(h:T.flats ts=true): F=[]:=by
 cases r with
 | nil=>rfl
 | cons a b=>
  simp only[T.flats,Bool.and_eq_true]at h
  rw[RF.flat a h.1,RFs.flats b h.2]
  rfl
end
noncomputable def T.flatIn: T→Bool
 | .lst ts=>T.flats ts
 | t=>t.flat
noncomputable def ZfL(f:List T→Option (List T)): List Int→T→Option T
 | [],.lst ts=>(f ts).map .lst
 | k::ks,.lst ts=>(seqIndex? k ts.length).bind fun j=>ts[j]?.bind fun t=>(ZfL f ks t).map fun u=>.lst (ts.set j u)
 | k::ks,.tup ts=>(seqIndex? k ts.length).bind fun j=>ts[j]?.bind fun t=>(ZfL f ks t).map fun u=>.tup (ts.set j u)
 | _,_=>none
inductive Lead(H:Hp): List Int→V→Nat→Prop where
 | nil {a:Nat}:Lead H [] (.ref a) a
 | ref {k:Int} {ks:List Int} {b:Nat} {vs:List V} {j:Nat} {v:V} {a:Nat}:H[b]?=some vs→seqIndex? k vs.length=some j→vs[j]?=some v→Lead H ks v a→Lead H (k::ks) (.ref b) a
 | tup {k:Int} {ks:List Int} {vs:List V} {j:Nat} {v:V} {a:Nat}:seqIndex? k vs.length=some j→vs[j]?=some v→Lead H ks v a→Lead H (k::ks) (.tup vs) a
theorem ZgN{H:Hp}{Gn:List Nat}{f:List T→Option (List T)}: ∀(ks:List Int) {v:V} {t t':T} {F:List Nat},RF H v t F→F.Nodup→(∀a∈Gn,a∉F)→ZfL f ks t=some t' →
  ∃a vs ts ts' G,Lead H ks v a∧a∈F∧H[a]?=some vs∧RFs H vs ts G∧f ts=some ts'∧G.Nodup∧a∉G∧(∀x∈G,x∈F) ∧
   ∀vs' G',RFs H vs' ts' G'→G'.Nodup→a∉G'→(∀x∈G',x∈G∨x∈Gn)→∃F',RF (H.set a vs') v t' F'∧F'.Nodup∧∀x∈F',x∈F∨x∈Gn
 | [],v,t,t',F,r,nd,ds,e=>by
  cases r with
  | @ref a vs ts G e1 hs=>
   obtain⟨ts',h1,h2⟩:=Zz1.mp e
   subst h2
   rw[List.nodup_cons]at nd
   refine⟨a,vs,ts,ts',G,.nil,List.mem_cons_self,e1,hs,h1,nd.2,nd.1,fun x m=>Zy3 _ m,fun vs' G' r' n' na sub=>⟨a::G',?_,?_,?_⟩⟩
   ·have ha:=(Zz6.mp e1).1
    refine .ref (Zy6 ha) (r'.frame fun b m=>List.getElem?_set_ne ?_)
    intro q
    subst q
    exact na m
   ·exact List.nodup_cons.mpr ⟨na,n'⟩
   ·intro x m
    rcases Zz7.mp m with rfl | m
    ·exact .inl Zz5
    ·exact(sub x m).imp (Zz2 _) id
  | none=>first|exact Zx0 e|cases e
  | bool _=>first|exact Zx0 e|cases e
  | int _=>first|exact Zx0 e|cases e
  | str _=>first|exact Zx0 e|cases e
  | tup _=>first|exact Zx0 e|cases e
  | obj _ _=>first|exact Zx0 e|cases e
 | k::ks,v,t,t',F,r,nd,ds,e=>by
  cases r with
  | none=>first|exact Zx0 e|cases e
  | bool _=>first|exact Zx0 e|cases e
  | int _=>first|exact Zx0 e|cases e
  | str _=>first|exact Zx0 e|cases e
  | obj _ _=>first|exact Zx0 e|cases e
  | @tup vs ts _ hs=>
   obtain⟨j,e1,e⟩:=Zz0.mp e
   obtain⟨u,e2,e⟩:=Zz0.mp e
   obtain⟨u',e3,e⟩:=Zz1.mp e
   subst e
   obtain⟨w,G1,F1,F2,e4,g1,eF,rb⟩:=hs.split e2
   subst eF
   have nd1:G1.Nodup:=(List.nodup_append.mp (List.nodup_append.mp nd).2.1).1
   have hin:∀x∈G1,x∈F1++(G1++F2):=fun x m=>List.mem_append_right _ (Zz4 _ m)
   obtain⟨a,us,qs,qs',G,l,am,ea,hq,hf,gn,na,gs,go⟩:=ZgN ks g1 nd1 (fun b m q=>ds b m (hin b q)) e3
   refine⟨a,us,qs,qs',G,.tup (by rw[hs.length];exact e1) e4 l,hin a am,ea,hq,hf,gn,na,fun x m=>hin x (gs x m),fun vs' G' r' n' na' sub=>?_⟩
   obtain⟨G2,f1,f2,f3⟩:=go vs' G' r' n' na' sub
   obtain⟨a1,a2,a5⟩:=List.nodup_append.mp nd
   obtain⟨_,a3,a4⟩:=List.nodup_append.mp a2
   have:=rb (H.set a vs') w u' G2 f1 (fun b m=>Zy2 fun q=>a5 b m a (Zz4 _ am) q.symm) (fun b m=>Zy2 fun q=>a4 a am b m q)
   rw[Ziz e4]at this
   exact⟨_,.tup this,nd3 nd f2 f3 ds,in3 f3⟩
  | @ref b vs ts F' e0 hs=>
   obtain⟨j,e1,e⟩:=Zz0.mp e
   obtain⟨u,e2,e⟩:=Zz0.mp e
   obtain⟨u',e3,e⟩:=Zz1.mp e
   subst e
   obtain⟨w,G1,F1,F2,e4,g1,eF,rb⟩:=hs.split e2
   subst eF
   rw[List.nodup_cons]at nd
   obtain⟨nb,nd⟩:=nd
   have nd1:G1.Nodup:=(List.nodup_append.mp (List.nodup_append.mp nd).2.1).1
   have hin:∀x∈G1,x∈F1++(G1++F2):=fun x m=>List.mem_append_right _ (Zz4 _ m)
   have ds':∀a∈Gn,a∉F1++(G1++F2):=fun a m q=>ds a m (Zz2 _ q)
   obtain⟨a,us,qs,qs',G,l,am,ea,hq,hf,gn,na,gs,go⟩:=ZgN ks g1 nd1 (fun b m q=>ds' b m (hin b q)) e3
   refine⟨a,us,qs,qs',G,.ref e0 (by rw[hs.length];exact e1) e4 l,Zy3 _ (hin a am),ea,hq,hf,gn,na,fun x m=>Zy3 _ (hin x (gs x m)),fun vs' G' r' n' na' sub=>?_⟩
   obtain⟨G2,f1,f2,f3⟩:=go vs' G' r' n' na' sub
   obtain⟨a1,a2,a5⟩:=List.nodup_append.mp nd
   obtain⟨_,a3,a4⟩:=List.nodup_append.mp a2
   have:=rb (H.set a vs') w u' G2 f1 (fun b m=>Zy2 fun q=>a5 b m a (Zz4 _ am) q.symm) (fun b m=>Zy2 fun q=>a4 a am b m q)
   rw[Ziz e4]at this
   have hab:a≠b:=fun q=>nb (hin b (q▸am))
   refine⟨_,.ref ((Zy2 hab).trans e0) this,List.nodup_cons.mpr ⟨fun q=>?_,nd3 nd f2 f3 ds'⟩,fun x m=>?_⟩
   ·rcases in3 f3 b q with m | m
    ·exact nb m
    ·exact ds b m Zz5
   ·rcases Zz7.mp m with rfl | m
    ·exact .inl Zz5
    ·exact(in3 f3 x m).imp (Zz2 _) id
end TM
end
section
namespace TM
open PySem PM
noncomputable abbrev TL:=Nat→Option T
noncomputable abbrev PE:=TL→Option T
noncomputable abbrev PEs:=TL→Option (List T)
noncomputable abbrev PB:=TL→Option Bool
noncomputable abbrev PG:=TL→Option (List T)
noncomputable def ZI(σ:TL)(i:Nat)(t:T): TL:=fun j=>if j=i then some t else σ j
noncomputable def Zab(σ:TL)(i:Nat): TL:=fun j=>if j=i then none else σ j
structure Ctx where
 H0:Hp
 F0:List Nat
 P:Nat→Prop
structure St(c:Ctx)(O:List Nat)(ρ:Lc)(σ:TL)(H:Hp)(Φ:Nat→List Nat): Prop where
 slot:∀i t,σ i=some t→∃v,ρ i=some v∧RF H v t (Φ i)
 src:∀i t,σ i=some t→∀a∈Φ i,c.H0.length≤a∨c.P a
 own:∀i∈O,∀t,σ i=some t→(Φ i).Nodup∧(∀a∈Φ i,c.H0.length≤a∨a∈c.F0)∧∀j u,j≠i→σ j=some u→∀a∈Φ i,a∉Φ j
 len:c.H0.length≤H.length
 keep:∀a,a<c.H0.length→a∉c.F0→H[a]?=c.H0[a]?
 pos:0<c.H0.length
 f0:0∉c.F0
theorem St.ext{c:Ctx}{O:List Nat}{ρ:Lc}{σ:TL}{H:Hp}{Φ:Nat→List Nat}(s:St c O ρ σ H Φ)(X:Hp): St c O ρ σ (H++X) Φ:=
 ⟨fun i t e=>by obtain⟨v,h1,h2⟩:=s.slot i t e;exact⟨v,h1,h2.ext X⟩,s.src,s.own,by have:=s.len;rw[List.length_append];lia,fun a ha hn=>by
  rw[Zy0 (Nat.lt_of_lt_of_le ha s.len)];exact s.keep a ha hn,s.pos,s.f0⟩
theorem St.less{c:Ctx}{O O':List Nat}{ρ:Lc}{σ:TL}{H:Hp}{Φ:Nat→List Nat}(s:St c O ρ σ H Φ)(h:∀i∈O',i∈O): St c O' ρ σ H Φ:=⟨s.slot,s.src,fun i hi=>s.own i (h i hi),s.len,s.keep,s.pos,s.f0⟩
noncomputable def From(H:Hp)(N:List Nat)(σ:TL)(Φ:Nat→List Nat)(a:Nat): Prop:=H.length≤a∨∃i∈N,(∃t,σ i=some t)∧a∈Φ i
theorem From.mono{H:Hp}{N N':List Nat}{σ:TL}{Φ:Nat→List Nat}{a:Nat}(f:From H N σ Φ a)(h:∀i∈N,i∈N'): From H N' σ Φ a:=f.imp id fun⟨i,hi,q⟩=>⟨i,h i hi,q⟩
theorem From.back{H X:Hp}{N:List Nat}{σ:TL}{Φ:Nat→List Nat}{a:Nat}(f:From (H++X) N σ Φ a): From H N σ Φ a:=f.imp (fun h=>by rw[List.length_append]at h;lia) id
theorem From.nil{H:Hp}{σ:TL}{Φ:Nat→List Nat}{a:Nat}(f:From H [] σ Φ a): H.length≤a:=f.elim id fun⟨_,hi,_⟩=>by cases hi
noncomputable def E(O N:List Nat)(u:Bool)(e:Ex)(p:PE): Prop:=∀(c:Ctx) (ρ:Lc) (σ:TL) (H:Hp) (Φ:Nat→List Nat) (t:T),St c O ρ σ H Φ→p σ=some t →
 ∃v X F,e ρ H=some (v,H++X)∧RF (H++X) v t F∧(∀a∈F,From H N σ Φ a)∧(u=true→F.Nodup)
noncomputable def Es(O N:List Nat)(u:Bool)(n:Nat)(e:Z7)(p:PEs): Prop:=∀(c:Ctx) (ρ:Lc) (σ:TL) (H:Hp) (Φ:Nat→List Nat) (ts:List T),St c O ρ σ H Φ→p σ=some ts →
 ts.length=n∧∃vs X F,e ρ H=some (vs,H++X)∧RFs (H++X) vs ts F∧(∀a∈F,From H N σ Φ a)∧(u=true→F.Nodup)
noncomputable def Bt(O:List Nat)(e:Ts)(p:PB): Prop:=∀(c:Ctx) (ρ:Lc) (σ:TL) (H:Hp) (Φ:Nat→List Nat) (b:Bool),St c O ρ σ H Φ→p σ=some b→∃X,e ρ H=some (b,H++X)
section
variable {O N:List Nat} {u:Bool}
theorem Zjx{O':List Nat}{e:Ex}{p:PE}(x:E O' N u e p)(h:∀i∈O',i∈O:=by decide): E O N u e p:=fun c ρ σ H Φ t s=>x c ρ σ H Φ t (s.less h)
theorem E.sh{e:Ex}{p:PE}(x:E O N u e p): E O N false e p:=fun c ρ σ H Φ t s q=>by
 obtain⟨v,X,F,a1,a2,a3,a4⟩:=x c ρ σ H Φ t s q
 exact⟨v,X,F,a1,a2,a3,by simp⟩
noncomputable def Zo(k:Int): PE:=fun _=>some (.int k)
noncomputable def Zdg: PE:=fun _=>some .none
noncomputable def Zeq(b:Bool): PE:=fun _=>some (.bool b)
noncomputable def ZaB(x:Str): PE:=fun _=>some (.str x)
noncomputable def Zg(i:Nat): PE:=fun σ=>σ i
theorem Zp(k:Int): E O [] true (Zd k) (Zo k):=fun c ρ σ H Φ t s q=>by
 cases q;exact⟨_,[],[],by simp[Zd],.int k,by simp,by simp⟩
theorem ZdZ: E O [] true ZaT Zdg:=fun c ρ σ H Φ t s q=>by
 cases q;exact⟨_,[],[],by simp[ZaT],.none,by simp,by simp⟩
theorem E.bool(k:Bool): E O [] true (ZbH k) (Zeq k):=fun c ρ σ H Φ t s q=>by
 cases q;exact⟨_,[],[],by simp[ZbH],.bool k,by simp,by simp⟩
theorem E.str(k:Str): E O [] true (ZG k) (ZaB k):=fun c ρ σ H Φ t s q=>by
 cases q;exact⟨_,[],[],by simp[ZG],.str k,by simp,by simp⟩
theorem Zl(i:Nat): E O [i] false (Za i) (Zg i):=fun c ρ σ H Φ t s q=>by
 obtain⟨v,h1,h2⟩:=s.slot i t q
 exact⟨v,[],Φ i,by simp[Za,h1],by simpa using h2,fun a m=>.inr ⟨i,List.mem_cons_self,⟨t,q⟩,m⟩,by simp⟩
theorem E.own{i:Nat}(hi:i∈O:=by decide): E O [i] true (Za i) (Zg i):=fun c ρ σ H Φ t s q=>by
 obtain⟨v,h1,h2⟩:=s.slot i t q
 exact⟨v,[],Φ i,by simp[Za,h1],by simpa using h2,fun a m=>.inr ⟨i,List.mem_cons_self,⟨t,q⟩,m⟩,fun _=>(s.own i hi t q).1⟩
noncomputable def ZbW(p:PE): PE:=fun σ=>(p σ).bind fun t=>if t.flat then some t else none
theorem E.flat{e:Ex}{p:PE}(x:E O N u e p): E O [] true e (ZbW p):=fun c ρ σ H Φ t s q=>by
 obtain⟨t',e1,e2⟩:=Zz0.mp q
 by_cases h:t'.flat=true
 ·rw[if_pos h]at e2
  cases e2
  obtain⟨v,X,F,a1,a2,a3,a4⟩:=x c ρ σ H Φ t s e1
  have:=a2.flat h
  subst this
  exact⟨v,X,[],a1,a2,by simp,by simp⟩
 ·rw[if_neg h]at e2;cases e2
noncomputable def Zu: PEs:=fun _=>some []
noncomputable def Zj(p:PE)(q:PEs): PEs:=fun σ=>(p σ).bind fun t=>(q σ).bind fun ts=>some (t::ts)
theorem ZK: Es O [] true 0 Ze Zu:=fun c ρ σ H Φ ts s q=>by
 cases q;exact⟨rfl,[],[],[],by simp[Ze],.nil,by simp,by simp⟩
theorem ZB{M:List Nat}{u':Bool}{n:Nat}{e:Ex}{p:PE}{es:Z7}{ps:PEs}(x:E O N u e p)(y:Es O M u' n es ps): Es O (N++M) false (n+1) (Zb e es) (Zj p ps):=fun c ρ σ H Φ ts s q=>by
 obtain⟨t,e1,q⟩:=Zz0.mp q
 obtain⟨rs,e2,q⟩:=Zz0.mp q
 cases q
 obtain⟨v,X,F,a1,a2,a3,a4⟩:=x c ρ σ H Φ t s e1
 obtain⟨hl,vs,Y,G,b1,b2,b3,b4⟩:=y c ρ σ (H++X) Φ rs (s.ext X) e2
 refine⟨by simp[hl],v::vs,X++Y,F++G,by simp[Zb,a1,b1],?_,fun a m=>?_,by simp⟩
 ·rw[←List.append_assoc];exact .cons (a2.ext Y) b2
 ·rcases Zz8.mp m with m | m
  ·exact(a3 a m).mono fun i hi=>Zy7 _ hi
  ·exact(b3 a m).back.mono fun i hi=>List.mem_append_right _ hi
theorem Zah{M:List Nat}{n:Nat}{e:Ex}{p:PE}{es:Z7}{ps:PEs}(x:E O N true e p)(y:Es O M true n es ps)(hN:∀i∈N,i∈O:=by decide)(hM:∀i∈N,i∉M:=by decide): Es O (N++M) true (n+1) (Zb e es) (Zj p ps):=fun c ρ σ H Φ ts s q=>by
 obtain⟨t,e1,q⟩:=Zz0.mp q
 obtain⟨rs,e2,q⟩:=Zz0.mp q
 cases q
 obtain⟨v,X,F,a1,a2,a3,a4⟩:=x c ρ σ H Φ t s e1
 obtain⟨hl,vs,Y,G,b1,b2,b3,b4⟩:=y c ρ σ (H++X) Φ rs (s.ext X) e2
 refine⟨by simp[hl],v::vs,X++Y,F++G,by simp[Zb,a1,b1],?_,fun a m=>?_,fun _=>?_⟩
 ·rw[←List.append_assoc];exact .cons (a2.ext Y) b2
 ·rcases Zz8.mp m with m | m
  ·exact(a3 a m).mono fun i hi=>Zy7 _ hi
  ·exact(b3 a m).back.mono fun i hi=>List.mem_append_right _ hi
 ·rw[List.nodup_append]
  refine⟨a4 rfl,b4 rfl,fun a ha b hb e=>?_⟩
  subst e
  have hlt:=a2.lt a ha
  rcases b3 a hb with h | ⟨j,hj,⟨tj,ej⟩,mj⟩
  ·lia
  ·obtain⟨vj,_,rj⟩:=s.slot j tj ej
   have:=rj.lt a mj
   rcases a3 a ha with h | ⟨i,hi,⟨ti,ei⟩,mi⟩
   ·lia
   ·exact(s.own i (hN i hi) ti ei).2.2 j tj (fun q=>hM i hi (q▸hj)) ej a mi mj
noncomputable def ZbA(p:PEs): PE:=fun σ=>(p σ).map .tup
noncomputable def Zbq(p:PEs): PE:=fun σ=>(p σ).map .lst
theorem E.tup{n:Nat}{e:Z7}{p:PEs}(x:Es O N u n e p)(hn:n≤ZX:=by decide): E O N u (Z8 e) (ZbA p):=fun c ρ σ H Φ t s q=>by
 obtain⟨ts,e1,e2⟩:=Zz1.mp q
 subst e2
 obtain⟨hl,vs,Y,G,b1,b2,b3,b4⟩:=x c ρ σ H Φ ts s e1
 have:=b2.length
 refine⟨.tup vs,Y,G,?_,.tup b2,b3,b4⟩
 simp only[Z8,b1,Zs0]
 rw[if_pos (by lia)]
theorem E.list{n:Nat}{e:Z7}{p:PEs}(x:Es O N u n e p)(hn:n≤ZX:=by decide): E O N u (ZU e) (Zbq p):=fun c ρ σ H Φ t s q=>by
 obtain⟨ts,e1,e2⟩:=Zz1.mp q
 subst e2
 obtain⟨hl,vs,Y,G,b1,b2,b3,b4⟩:=x c ρ σ H Φ ts s e1
 have:=b2.length
 refine⟨.ref (H++Y).length,Y++[vs],(H++Y).length::G,?_,?_,fun a m=>?_,fun hu=>?_⟩
 ·simp only[ZU,b1,Zs0]
  rw[if_pos (by lia),List.append_assoc]
 ·rw[←List.append_assoc];exact .ref (by simp) (b2.ext _)
 ·rcases Zz7.mp m with rfl | m
  ·exact .inl (by simp)
  ·exact b3 a m
 ·rw[List.nodup_cons]
  exact⟨fun m=>Nat.lt_irrefl _ (b2.lt _ m),b4 hu⟩
noncomputable def OA2(o:V→V→Hp→Option (V×Hp))(q:T→T→Option T): Prop:=∀(H:Hp) (v1 v2:V) (t1 t2 t:T) (F1 F2:List Nat),RF H v1 t1 F1→RF H v2 t2 F2→q t1 t2=some t→∃v,o v1 v2 H=some (v,H)∧RF H v t []
noncomputable def OI2(o:V→V→Hp→Option (V×Hp))(q:T→T→Option T): Prop:=∀(H:Hp) (v1 v2:V) (t1 t2 t:T) (F1 F2:List Nat),RF H v1 t1 F1→RF H v2 t2 F2→q t1 t2=some t→∃v F,o v1 v2 H=some (v,H)∧RF H v t F∧F.Sublist F1
noncomputable def OC2(o:V→V→Hp→Option (V×Hp))(q:T→T→Option T): Prop:=∀(H:Hp) (v1 v2:V) (t1 t2 t:T) (F1 F2:List Nat),RF H v1 t1 F1→RF H v2 t2 F2→q t1 t2=some t→∃v X F,o v1 v2 H=some (v,H++X)∧RF (H++X) v t F∧(∀a∈F,H.length≤a∨a∈F1∨a∈F2)∧(t.flatIn=true→F.Nodup∧∀a∈F,H.length≤a)
noncomputable def OA1(o:V→Hp→Option (V×Hp))(q:T→Option T): Prop:=∀(H:Hp) (v1:V) (t1 t:T) (F1:List Nat),RF H v1 t1 F1→q t1=some t→∃v,o v1 H=some (v,H)∧RF H v t []
noncomputable def OAn(o:List V→Hp→Option (V×Hp))(q:List T→Option T): Prop:=∀(H:Hp) (vs:List V) (ts:List T) (t:T) (F:List Nat),RFs H vs ts F→q ts=some t→∃v,o vs H=some (v,H)∧RF H v t []
noncomputable def OCn(o:List V→Hp→Option (V×Hp))(q:List T→Option T): Prop:=∀(H:Hp) (vs:List V) (ts:List T) (t:T) (F1:List Nat),0<H.length→RFs H vs ts F1→q ts=some t→∃v X F,o vs H=some (v,H++X)∧RF (H++X) v t F∧(∀a∈F,H.length≤a∨a∈F1)∧(t.flatIn=true→F.Nodup∧∀a∈F,H.length≤a)
noncomputable def Zk(q:T→T→Option T)(p1 p2:PE): PE:=fun σ=>(p1 σ).bind fun x=>(p2 σ).bind fun y=>q x y
noncomputable def pUn(q:T→Option T)(p1:PE): PE:=fun σ=>(p1 σ).bind fun x=>q x
noncomputable def ZV(q:List T→Option T)(ps:PEs): PE:=fun σ=>(ps σ).bind fun xs=>q xs
noncomputable def pFl(p:PE): PE:=fun σ=>(p σ).bind fun t=>if t.flatIn then some t else none
theorem Zgg{M:List Nat}{u':Bool}{e1 e2:Ex}{p1 p2:PE}{q:T→T→Option T}{o:V→V→Hp→Option (V×Hp)}{c:Ctx}{ρ:Lc}{σ:TL}{H:Hp}{Φ:Nat→List Nat}{t:T}(x:E O N u e1 p1)(y:E O M u' e2 p2)(s:St c O ρ σ H Φ)(h:Zk q p1 p2 σ=some t):
  ∃t1 t2 v1 v2 X F1 F2,q t1 t2=some t∧RF (H++X) v1 t1 F1∧RF (H++X) v2 t2 F2∧(∀a∈F1,From H N σ Φ a)∧(∀a∈F2,From H M σ Φ a)∧(u=true→F1.Nodup)∧Zc o e1 e2 ρ H=o v1 v2 (H++X):=by
 obtain⟨t1,h1,h⟩:=Zz0.mp h
 obtain⟨t2,h2,h⟩:=Zz0.mp h
 obtain⟨v,X,F,a1,a2,a3,a4⟩:=x c ρ σ H Φ t1 s h1
 obtain⟨w,Y,G,b1,b2,b3,b4⟩:=y c ρ σ (H++X) Φ t2 (s.ext X) h2
 rw[List.append_assoc]at b1 b2
 refine⟨t1,t2,v,w,X++Y,F,G,h,?_,b2,a3,fun a m=>(b3 a m).back,a4,by simp only[Zc,a1,b1,Zs0]⟩
 rw[←List.append_assoc];exact a2.ext Y
theorem ZA{M:List Nat}{u':Bool}{e1 e2:Ex}{p1 p2:PE}{q:T→T→Option T}{o:V→V→Hp→Option (V×Hp)}(k:OA2 o q)(x:E O N u e1 p1)(y:E O M u' e2 p2): E O [] true (Zc o e1 e2) (Zk q p1 p2):=fun c ρ σ H Φ t s h=>by
 obtain⟨t1,t2,v1,v2,X,F1,F2,hq,r1,r2,_,_,_,e⟩:=Zgg (o:=o) x y s h
 obtain⟨v,h1,h2⟩:=k _ v1 v2 t1 t2 t F1 F2 r1 r2 hq
 exact⟨v,X,[],e.trans h1,h2,by simp,by simp⟩
theorem ZO{M:List Nat}{u':Bool}{e1 e2:Ex}{p1 p2:PE}{q:T→T→Option T}{o:V→V→Hp→Option (V×Hp)}(k:OI2 o q)(x:E O N u e1 p1)(y:E O M u' e2 p2): E O N u (Zc o e1 e2) (Zk q p1 p2):=fun c ρ σ H Φ t s h=>by
 obtain⟨t1,t2,v1,v2,X,F1,F2,hq,r1,r2,h1,_,hu,e⟩:=Zgg (o:=o) x y s h
 obtain⟨v,F,k1,k2,k3⟩:=k _ v1 v2 t1 t2 t F1 F2 r1 r2 hq
 exact⟨v,X,F,e.trans k1,k2,fun a m=>h1 a (k3.subset m),fun h=>(hu h).sublist k3⟩
theorem ZaN{M:List Nat}{u':Bool}{e1 e2:Ex}{p1 p2:PE}{q:T→T→Option T}{o:V→V→Hp→Option (V×Hp)}(k:OC2 o q)(x:E O N u e1 p1)(y:E O M u' e2 p2): E O (N++M) false (Zc o e1 e2) (Zk q p1 p2):=fun c ρ σ H Φ t s h=>by
 obtain⟨t1,t2,v1,v2,X,F1,F2,hq,r1,r2,h1,h2,hu,e⟩:=Zgg (o:=o) x y s h
 obtain⟨v,Y,F,k1,k2,k3,k4⟩:=k _ v1 v2 t1 t2 t F1 F2 r1 r2 hq
 rw[List.append_assoc]at k1 k2
 refine⟨v,X++Y,F,e.trans k1,k2,fun a m=>?_,by simp⟩
 rcases k3 a m with h | h | h
 ·exact .inl (by rw[List.length_append]at h;lia)
 ·exact(h1 a h).mono fun i hi=>Zy7 _ hi
 ·exact(h2 a h).mono fun i hi=>List.mem_append_right _ hi
theorem Zdr{M:List Nat}{u':Bool}{e1 e2:Ex}{p1 p2:PE}{q:T→T→Option T}{o:V→V→Hp→Option (V×Hp)}(k:OC2 o q)(x:E O N u e1 p1)(y:E O M u' e2 p2): E O [] true (Zc o e1 e2) (pFl (Zk q p1 p2)):=fun c ρ σ H Φ t s h=>by
 obtain⟨t',h,hf⟩:=Zz0.mp h
 by_cases fl:t'.flatIn=true
 ·rw[if_pos fl]at hf
  cases hf
  obtain⟨t1,t2,v1,v2,X,F1,F2,hq,r1,r2,h1,h2,hu,e⟩:=Zgg (o:=o) x y s h
  obtain⟨v,Y,F,k1,k2,k3,k4⟩:=k _ v1 v2 t1 t2 t F1 F2 r1 r2 hq
  rw[List.append_assoc]at k1 k2
  exact⟨v,X++Y,F,e.trans k1,k2,fun a m=>.inl (by have:=(k4 fl).2 a m;rw[List.length_append]at this;lia),fun _=>(k4 fl).1⟩
 ·rw[if_neg fl]at hf;cases hf
theorem Zjy{e1:Ex}{p1:PE}{q:T→Option T}{o:V→Hp→Option (V×Hp)}(k:OA1 o q)(x:E O N u e1 p1): E O [] true (ZM o e1) (pUn q p1):=fun c ρ σ H Φ t s h=>by
 obtain⟨t1,h1,h⟩:=Zz0.mp h
 obtain⟨v,X,F,a1,a2,a3,a4⟩:=x c ρ σ H Φ t1 s h1
 obtain⟨w,b1,b2⟩:=k _ v t1 t F a2 h
 exact⟨w,X,[],by simp only[ZM,a1,Zs0,b1],b2,by simp,by simp⟩
theorem Zbs{n:Nat}{es:Z7}{ps:PEs}{q:List T→Option T}{o:List V→Hp→Option (V×Hp)}(k:OAn o q)(x:Es O N u n es ps): E O [] true (Zh o es) (ZV q ps):=fun c ρ σ H Φ t s h=>by
 obtain⟨ts,h1,h⟩:=Zz0.mp h
 obtain⟨_,vs,X,F,a1,a2,a3,a4⟩:=x c ρ σ H Φ ts s h1
 obtain⟨w,b1,b2⟩:=k _ vs ts t F a2 h
 exact⟨w,X,[],by simp only[Zh,a1,Zs0,b1],b2,by simp,by simp⟩
theorem ZkU{n:Nat}{es:Z7}{ps:PEs}{q:List T→Option T}{o:List V→Hp→Option (V×Hp)}(k:OCn o q)(x:Es O N u n es ps): E O N false (Zh o es) (ZV q ps):=fun c ρ σ H Φ t s h=>by
 obtain⟨ts,h1,h⟩:=Zz0.mp h
 obtain⟨_,vs,X,F,a1,a2,a3,a4⟩:=x c ρ σ H Φ ts s h1
 have hp:0<(H++X).length:=by have:=s.pos;have:=s.len;rw[List.length_append];lia
 obtain⟨w,Y,G,b1,b2,b3,b4⟩:=k _ vs ts t F hp a2 h
 rw[List.append_assoc]at b1 b2
 refine⟨w,X++Y,G,by simp only[Zh,a1,Zs0,b1],b2,fun a m=>?_,by simp⟩
 rcases b3 a m with h | h
 ·exact .inl (by rw[List.length_append]at h;lia)
 ·exact a3 a h
theorem Zow{n:Nat}{es:Z7}{ps:PEs}{q:List T→Option T}{o:List V→Hp→Option (V×Hp)}(k:OCn o q)(x:Es O N u n es ps): E O [] true (Zh o es) (pFl (ZV q ps)):=fun c ρ σ H Φ t s h=>by
 obtain⟨t',h,hf⟩:=Zz0.mp h
 by_cases fl:t'.flatIn=true
 ·rw[if_pos fl]at hf
  cases hf
  obtain⟨ts,h1,h⟩:=Zz0.mp h
  obtain⟨_,vs,X,F,a1,a2,a3,a4⟩:=x c ρ σ H Φ ts s h1
  have hp:0<(H++X).length:=by have:=s.pos;have:=s.len;rw[List.length_append];lia
  obtain⟨w,Y,G,b1,b2,b3,b4⟩:=k _ vs ts t F hp a2 h
  rw[List.append_assoc]at b1 b2
  exact⟨w,X++Y,G,by simp only[Zh,a1,Zs0,b1],b2,fun a m=>.inl (by have:=(b4 fl).2 a m;rw[List.length_append]at this;lia),fun _=>(b4 fl).1⟩
 ·rw[if_neg fl]at hf;cases hf
noncomputable def SimF(fr:Bool)(f:List V→Hp→Option (V×Hp))(p:List T→Option T): Prop:=∀(H:Hp) (vs:List V) (ts:List T) (t:T) (F1:List Nat),0<H.length→RFs H vs ts F1→p ts=some t→∃v X F,f vs H=some (v,H++X)∧RF (H++X) v t F∧(∀a∈F,H.length≤a∨a∈F1)∧(fr=true→F.Nodup∧∀a∈F,H.length≤a)
theorem E.fn{fr:Bool}{n:Nat}{es:Z7}{ps:PEs}{q:List T→Option T}{o:List V→Hp→Option (V×Hp)}(k:SimF fr o q)(x:Es O N u n es ps): E O N false (Zh o es) (ZV q ps):=fun c ρ σ H Φ t s h=>by
 obtain⟨ts,h1,h⟩:=Zz0.mp h
 obtain⟨_,vs,X,F,a1,a2,a3,a4⟩:=x c ρ σ H Φ ts s h1
 have hp:0<(H++X).length:=by have:=s.pos;have:=s.len;rw[List.length_append];lia
 obtain⟨w,Y,G,b1,b2,b3,b4⟩:=k _ vs ts t F hp a2 h
 rw[List.append_assoc]at b1 b2
 refine⟨w,X++Y,G,by simp only[Zh,a1,Zs0,b1],b2,fun a m=>?_,by simp⟩
 rcases b3 a m with h | h
 ·exact .inl (by rw[List.length_append]at h;lia)
 ·exact a3 a h
theorem Zer{n:Nat}{es:Z7}{ps:PEs}{q:List T→Option T}{o:List V→Hp→Option (V×Hp)}(k:SimF true o q)(x:Es O N u n es ps): E O [] true (Zh o es) (ZV q ps):=fun c ρ σ H Φ t s h=>by
 obtain⟨ts,h1,h⟩:=Zz0.mp h
 obtain⟨_,vs,X,F,a1,a2,a3,a4⟩:=x c ρ σ H Φ ts s h1
 have hp:0<(H++X).length:=by have:=s.pos;have:=s.len;rw[List.length_append];lia
 obtain⟨w,Y,G,b1,b2,b3,b4⟩:=k _ vs ts t F hp a2 h
 rw[List.append_assoc]at b1 b2
 exact⟨w,X++Y,G,by simp only[Zh,a1,Zs0,b1],b2,fun a m=>.inl (by have:=(b4 rfl).2 a m;rw[List.length_append]at this;lia),fun _=>(b4 rfl).1⟩
noncomputable def Zej: T→Option Bool
 | .bool b=>some b
 | .none=>some false
 | .int i=>some (i != 0)
 | _=>none
theorem Zkx{H:Hp}{v:V}{t:T}{F:List Nat}{b:Bool}(r:RF H v t F)(h:Zej t=some b): Zak v H=some b:=by
 cases r <;> first | (cases h;rfl) | cases h
noncomputable def Z6(p:PE): PB:=fun σ=>(p σ).bind Zej
noncomputable def Zdh(p:PB): PB:=fun σ=>(p σ).map fun b=>!b
noncomputable def Zbk: PB:=fun _=>some true
noncomputable def Zek: PB:=fun _=>some false
noncomputable def Zcb(p q:PB): PB:=fun σ=>(p σ).bind fun b=>if b then q σ else some false
noncomputable def bOr(p q:PB): PB:=fun σ=>(p σ).bind fun b=>if b then some true else q σ
theorem Bt.val{e:Ex}{p:PE}(x:E O N u e p): Bt O (Zs e) (Z6 p):=fun c ρ σ H Φ b s h=>by
 obtain⟨t,h1,h⟩:=Zz0.mp h
 obtain⟨v,X,F,a1,a2,a3,a4⟩:=x c ρ σ H Φ t s h1
 exact⟨X,by simp only[Zs,a1,Zs0,Zkx a2 h,Zs1]⟩
theorem Zfk{e:Ts}{p:PB}(x:Bt O e p): Bt O (Zca e) (Zdh p):=fun c ρ σ H Φ b s h=>by
 obtain⟨t,h1,h⟩:=Zz1.mp h
 subst h
 obtain⟨X,a1⟩:=x c ρ σ H Φ t s h1
 exact⟨X,by simp only[Zca,a1,Zs1]⟩
theorem Zcu: Bt O ZZ Zbk:=fun c ρ σ H Φ b s h=>by
 cases h;exact⟨[],by simp[ZZ]⟩
theorem Zgl: Bt O Zdq Zek:=fun c ρ σ H Φ b s h=>by
 cases h;exact⟨[],by simp[Zdq]⟩
theorem Zc3{e f:Ts}{p q:PB}(x:Bt O e p)(y:Bt O f q): Bt O (Zav e f) (Zcb p q):=fun c ρ σ H Φ b s h=>by
 obtain⟨t,h1,h⟩:=Zz0.mp h
 obtain⟨X,a1⟩:=x c ρ σ H Φ t s h1
 cases t with
 | true=>
  obtain⟨Y,b1⟩:=y c ρ σ (H++X) Φ b (s.ext X) (by simpa using h)
  exact⟨X++Y,by simp[Zav,a1,b1]⟩
 | false=>cases h;exact⟨X,by simp[Zav,a1]⟩
theorem Zdc{e f:Ts}{p q:PB}(x:Bt O e p)(y:Bt O f q): Bt O (tOr e f) (bOr p q):=fun c ρ σ H Φ b s h=>by
 obtain⟨t,h1,h⟩:=Zz0.mp h
 obtain⟨X,a1⟩:=x c ρ σ H Φ t s h1
 cases t with
 | false=>
  obtain⟨Y,b1⟩:=y c ρ σ (H++X) Φ b (s.ext X) (by simpa using h)
  exact⟨X++Y,by simp[tOr,a1,b1]⟩
 | true=>cases h;exact⟨X,by simp[tOr,a1]⟩
noncomputable def ZiN: T→String
 | .none=>"NoneType"
 | .bool _=>"bool"
 | .int _=>"int"
 | .str _=>"str"
 | .tup _=>"tuple"
 | .lst _=>"list"
 | .ob _ _=>"object"
end
end TM
end
section
namespace TM
open PySem PM
section
variable {O N:List Nat} {u:Bool}
noncomputable def Zgw(K:String)(t:T): Bool:=ZiN t == K || (K == "int" && ZiN t == "bool")
noncomputable def isObT: T→Bool
 | .ob _ _=>true
 | _=>false
theorem ZnK{H:Hp}{v:V}{t:T}{F:List Nat}(r:RF H v t F): Zfw v=isObT t:=by cases r <;> rfl
noncomputable def pIs(K:String)(p:PE): PE:=fun σ=>(p σ).bind fun t=>if isObT t then none else some (.bool (Zgw K t))
theorem Zox{H:Hp}{v:V}{t:T}{F:List Nat}(r:RF H v t F): ZiM v=ZiN t:=by cases r <;> rfl
theorem Zdi{K:String}{e:Ex}{p:PE}(x:E O N u e p): E O [] true (eIs K e) (pIs K p):=fun c ρ σ H Φ t s h=>by
 obtain⟨t1,h1,h⟩:=Zz0.mp h
 by_cases ob:isObT t1=true
 ·rw[if_pos ob]at h;cases h
 rw[if_neg ob]at h
 cases h
 obtain⟨v,X,F,a1,a2,a3,a4⟩:=x c ρ σ H Φ t1 s h1
 refine⟨.bool (Zgw K t1),X,[],?_,.bool _,by simp,by simp⟩
 simp only[eIs,a1,Zs0,Zb7,Zgw,Zox a2,ZnK a2]
 rw[if_neg ob]
noncomputable def ZbJ: T→T→Option T
 | .int a,.int b=>some (.int (a-b))
 | _,_=>none
noncomputable def ZbB: T→T→Option T
 | .int a,.int b=>if b≠0∧Builtin.divisionGoesByPylong a b=false then some (.int (a.fdiv b))else none
 | _,_=>none
noncomputable def Zax: T→T→Option T
 | .int a,.int b=>if b≠0 then some (.int (a.fmod b))else none
 | _,_=>none
noncomputable def Zcl: T→T→Option T
 | .int a,.int b=>if 0≤b∧(Builtin.Int.intBits a:Int)*b≤2 ^ 27 then some (.int (a ^ b.toNat))else none
 | _,_=>none
noncomputable def ZeA: T→Option T
 | .int a=>some (.int (-a))
 | _=>none
noncomputable def ZjI(p:Int→Int→Bool): T→T→Option T
 | .int a,.int b=>some (.bool (p a b))
 | _,_=>none
noncomputable def qLt:=ZjI fun a b=>decide (a<b)
noncomputable def qGt:=ZjI fun a b=>decide (b<a)
theorem ZbX: OA2 Zaf ZbJ:=fun H v1 v2 t1 t2 t F1 F2 r1 r2 h=>by
 cases r1 <;> first|exact Zx0 h|(cases h;done)| (cases r2 <;> first|exact Zx0 h|(cases h;done)| (cases h;exact⟨_,rfl,.int _⟩))
theorem Zck: OA2 oDiv ZbB:=fun H v1 v2 t1 t2 t F1 F2 r1 r2 h=>by
 cases r1 <;> first|exact Zx0 h|(cases h;done)| skip
 cases r2 <;> first|exact Zx0 h|(cases h;done)| skip
 simp only[ZbB]at h
 split at h
 ·rename_i hc;cases h;exact⟨_,by simp only[oDiv];rw[if_pos hc],.int _⟩
 ·first|exact Zx0 h|cases h
theorem ZaO: OA2 oMod Zax:=fun H v1 v2 t1 t2 t F1 F2 r1 r2 h=>by
 cases r1 <;> first|exact Zx0 h|(cases h;done)| skip
 cases r2 <;> first|exact Zx0 h|(cases h;done)| skip
 simp only[Zax]at h
 split at h
 ·rename_i hc;cases h;exact⟨_,by simp only[oMod];rw[if_pos hc],.int _⟩
 ·first|exact Zx0 h|cases h
theorem Zg3: OA2 oPow Zcl:=fun H v1 v2 t1 t2 t F1 F2 r1 r2 h=>by
 cases r1 <;> first|exact Zx0 h|(cases h;done)| skip
 cases r2 <;> first|exact Zx0 h|(cases h;done)| skip
 simp only[Zcl]at h
 split at h
 ·rename_i hc;cases h;exact⟨_,by simp only[oPow];rw[if_pos hc],.int _⟩
 ·first|exact Zx0 h|cases h
theorem Zjz: OA1 Zbl ZeA:=fun H v1 t1 t F1 r1 h=>by
 cases r1 <;> first|exact Zx0 h|(cases h;done)| (cases h;exact⟨_,rfl,.int _⟩)
theorem ZlM(p:Int→Int→Bool): OA2 (ZfI p) (ZjI p):=fun H v1 v2 t1 t2 t F1 F2 r1 r2 h=>by
 cases r1 <;> first|exact Zx0 h|(cases h;done)| (cases r2 <;> first|exact Zx0 h|(cases h;done)| (cases h;exact⟨_,rfl,.bool _⟩))
theorem Zd6: OA2 oLt qLt:=ZlM _
theorem ZfM: OA2 oGt qGt:=ZlM _
noncomputable def Zd4(f:T→Option PyData): List T→Option (List PyData)
 | []=>some []
 | v::vs=>(f v).bind fun d=>(Zd4 f vs).bind fun ds=>some (d::ds)
noncomputable def ZbC: Nat→T→Option PyData
 | _,.none=>some .none
 | _,.bool b=>some (.bool b)
 | _,.int i=>some (.int i)
 | _,.str x=>some (.str x)
 | n+1,.tup vs=>(Zd4 (ZbC n) vs).map .tuple
 | n+1,.lst vs=>(Zd4 (ZbC n) vs).map .list
 | 0,.tup _=>none
 | 0,.lst _=>none
 | _,.ob _ _=>none
theorem ZiO{H:Hp}{f:V→Option PyData}{g:T→Option PyData}(h:∀v t F,RF H v t F→f v=g t): ∀{vs:List V} {ts:List T} {F:List Nat},RFs H vs ts F→Zez f vs=Zd4 g ts
 | _,_,_,.nil=>rfl
 | _,_,_,.cons a b=>by simp only[Zez,Zd4,h _ _ _ a,ZiO h b]
theorem ZgO{H:Hp}: ∀(n:Nat) (v:V) (t:T) (F:List Nat),RF H v t F→toD H n v=ZbC n t:=by
 intro n
 induction n with
 | zero=>intro v t F r;cases r <;> rfl
 | succ n ih=>
  intro v t F r
  cases r with
  | none=>rfl
  | bool=>rfl
  | int=>rfl
  | str=>rfl
  | tup hs=>simp only[toD,ZbC,ZiO ih hs]
  | ref e hs=>simp only[toD,ZbC,e,Zs0,ZiO ih hs]
  | obj e hs=>rfl
noncomputable def Zcc(a b:T): Option Bool:=(ZbC Zbg a).bind fun d=>(ZbC Zbg b).bind fun e=>if SeqAt.shaped d=true∧SeqAt.shaped e=true then some (PyData.eqv d e)else none
noncomputable def qEq(a b:T): Option T:=(Zcc a b).map .bool
noncomputable def qNe(a b:T): Option T:=(Zcc a b).map fun c=>.bool !c
theorem Zlp{H:Hp}{v1 v2:V}{t1 t2:T}{F1 F2:List Nat}(r1:RF H v1 t1 F1)(r2:RF H v2 t2 F2): ZcN v1 v2 H=Zcc t1 t2:=by
 simp only[ZcN,Zcc,ZgO Zbg _ _ _ r1,ZgO Zbg _ _ _ r2]
theorem ZaW: OA2 ZN qEq:=fun H v1 v2 t1 t2 t F1 F2 r1 r2 h=>by
 obtain⟨c,h1,h⟩:=Zz1.mp h
 subst h
 exact⟨_,by simp only[ZN,Zlp r1 r2,h1,Zs1],.bool _⟩
theorem ZjJ: OA2 oNe qNe:=fun H v1 v2 t1 t2 t F1 F2 r1 r2 h=>by
 obtain⟨c,h1,h⟩:=Zz1.mp h
 subst h
 exact⟨_,by simp only[oNe,Zlp r1 r2,h1,Zs1],.bool _⟩
noncomputable def qIs: T→T→Option T
 | .none,.none=>some (.bool true)
 | _,.none=>some (.bool false)
 | _,_=>none
theorem Zxc{a b t:T}:qIs a b=some t→b=.none:=by cases b <;> first|exact fun _=>rfl|(cases a <;> exact Zx0)
theorem Zhf: OA2 oIs qIs:=fun H v1 v2 t1 t2 t F1 F2 r1 r2 h=>by
 have:=Zxc h;subst this
 cases r2
 cases r1 <;> (cases h;exact⟨_,rfl,.bool _⟩)
noncomputable def ZF: T→T→Option T
 | .lst ts,.int k=>(seqIndex? k ts.length).bind fun j=>ts[j]?
 | .tup ts,.int k=>(seqIndex? k ts.length).bind fun j=>ts[j]?
 | _,_=>none
theorem ZP: OI2 Zf ZF:=fun H v1 v2 t1 t2 t F1 F2 r1 r2 h=>by
 cases r1 with
 | none=>first|exact Zx0 h|cases h
 | bool=>first|exact Zx0 h|cases h
 | int=>first|exact Zx0 h|cases h
 | str=>first|exact Zx0 h|cases h
 | obj=>first|exact Zx0 h|cases h
 | tup hs=>
  cases r2 <;> first|exact Zx0 h|(cases h;done)| skip
  obtain⟨j,h1,h2⟩:=Zz0.mp h
  obtain⟨v,G,e1,e2,e3⟩:=hs.at h2
  exact⟨v,G,by simp only[Zf,hs.length,h1,Zs0,e1,Zs1],e2,e3⟩
 | ref e hs=>
  cases r2 <;> first|exact Zx0 h|(cases h;done)| skip
  obtain⟨j,h1,h2⟩:=Zz0.mp h
  obtain⟨v,G,e1,e2,e3⟩:=hs.at h2
  exact⟨v,G,by simp only[Zf,e,Zs0,hs.length,h1,e1,Zs1],e2,e3.trans (List.sublist_cons_self _ _)⟩
noncomputable def Zb0: List T→Option T
 | [.lst ts]=>some (.int ts.length)
 | [.tup ts]=>some (.int ts.length)
 | _=>none
theorem RFs.one_inv{H:Hp}{vs:List V}{t:T}{F:List Nat}(r:RFs H vs [t] F): ∃v,vs=[v]∧RF H v t F:=by
 cases r with
 | cons a b=>cases b;rw[List.append_nil];exact⟨_,rfl,a⟩
theorem RFs.two_inv{H:Hp}{vs:List V}{t t':T}{F:List Nat}(r:RFs H vs [t,t'] F): ∃v v' F1 F2,vs=[v,v']∧RF H v t F1∧RF H v' t' F2∧F=F1++F2:=by
 cases r with
 | cons a b=>obtain⟨v',h1,h2⟩:=b.one_inv;subst h1;exact⟨_,_,_,_,rfl,a,h2,rfl⟩
theorem Zdx: OAn Z3 Zb0:=fun H vs ts t F r h=>by
 unfold Zb0 at h
 split at h
 ·obtain⟨v,rfl,r'⟩:=r.one_inv
  cases r' with
  | ref e hs=>cases h;exact⟨_,by simp only[Z3,e,Zs1,hs.length],.int _⟩
 ·obtain⟨v,rfl,r'⟩:=r.one_inv
  cases r' with
  | tup hs=>cases h;exact⟨_,by simp only[Z3,hs.length],.int _⟩
 ·first|exact Zx0 h|cases h
noncomputable def ZdF: List T→Option T
 | [.int a]=>some (.int (if a<0 then -a else a))
 | _=>none
theorem Zfz: OAn ZbI ZdF:=fun H vs ts t F r h=>by
 unfold ZdF at h
 split at h
 ·obtain⟨v,rfl,r'⟩:=r.one_inv
  cases r';cases h;exact⟨_,rfl,.int _⟩
 ·first|exact Zx0 h|cases h
noncomputable def ZfA: List T→Option T
 | [.int a,.int b]=>some (.int (if b>a then b else a))
 | _=>none
noncomputable def Zg4: List T→Option T
 | [.int a,.int b]=>some (.int (if b<a then b else a))
 | _=>none
theorem Zpy: OAn Zfx ZfA:=fun H vs ts t F r h=>by
 unfold ZfA at h
 split at h
 ·obtain⟨v,w,F1,F2,rfl,r1,r2,_⟩:=r.two_inv
  cases r1;cases r2;cases h;exact⟨_,rfl,.int _⟩
 ·first|exact Zx0 h|cases h
theorem Zpz: OAn Zd3 Zg4:=fun H vs ts t F r h=>by
 unfold Zg4 at h
 split at h
 ·obtain⟨v,w,F1,F2,rfl,r1,r2,_⟩:=r.two_inv
  cases r1;cases r2;cases h;exact⟨_,rfl,.int _⟩
 ·first|exact Zx0 h|cases h
noncomputable def Zbr: List T→Option (List Int)
 | []=>some []
 | .int k::vs=>(Zbr vs).map fun ks=>k::ks
 | _::_=>none
theorem ZiQ{H:Hp}: ∀{vs:List V} {ts:List T} {F:List Nat} {ks:List Int},RFs H vs ts F→Zbr ts=some ks→Zc1 vs=some ks
 | _,_,_,_,.nil,h=>h
 | _,_,_,_,.cons a b,h=>by
  cases a <;> first|exact Zx0 h|(cases h;done)| skip
  obtain⟨js,h1,h2⟩:=Zz1.mp h
  subst h2
  simp only[Zc1,ZiQ b h1,Zs1]
noncomputable def Zhg: List T→Option T
 | [.lst ts]=>(Zbr ts).map fun ks=>.int ks.sum
 | _=>none
theorem ZqG: OAn ZfJ Zhg:=fun H vs ts t F r h=>by
 unfold Zhg at h
 split at h
 ·obtain⟨v,rfl,r'⟩:=r.one_inv
  cases r' with
  | ref e hs=>
   obtain⟨ks,h1,h2⟩:=Zz1.mp h
   subst h2
   exact⟨_,by simp only[ZfJ,e,Zs0,ZiQ hs h1,Zs1],.int _⟩
 ·first|exact Zx0 h|cases h
theorem ZdG{H:Hp}{vs:List V}{ts:List T}{F:List Nat}(r:RFs H vs ts F): RF (H++[vs]) (.ref H.length) (.lst ts) (H.length::F):=.ref (by simp) (r.ext _)
theorem Zee{H:Hp}{vs:List V}{ts:List T}{F:List Nat}(r:RFs H vs ts F)(h:T.flatIn (.lst ts)=true): (H.length::F).Nodup∧∀a∈H.length::F,H.length≤a:=by
 rw[r.flats (by simpa [T.flatIn]using h)]
 simp
theorem ZnL{H:Hp}{v:V}{t:T}{F:List Nat}(r:RF H v t F)(h:F=[]): F.Nodup∧∀a∈F,H.length≤a:=by subst h;simp
noncomputable def ZjK(ts:List T): Nat→List T
 | 0=>[]
 | n+1=>ZjK ts n++ts
noncomputable def Zag: T→T→Option T
 | .int a,.int b=>some (.int (a+b))
 | .lst a,.lst b=>if(a++b).length≤ZX then some (.lst (a++b))else none
 | .tup a,.tup b=>if(a++b).length≤ZX then some (.tup (a++b))else none
 | _,_=>none
noncomputable def Zcm: T→T→Option T
 | .int a,.int b=>if Zb8 a b=true then some (.int (a*b))else none
 | .lst a,.int k=>if a.length*k.toNat≤ZX∧-(2 ^ 63:Int)≤k∧k<2 ^ 63 then some (.lst (ZjK a k.toNat))else none
 | _,_=>none
theorem Zlq{H:Hp}{vs:List V}{ts:List T}{F:List Nat}(r:RFs H vs ts F): ∀n,∃G,RFs H (Zdf vs n) (ZjK ts n) G∧∀a∈G,a∈F
 | 0=>⟨_,.nil,by simp⟩
 | n+1=>by
  obtain⟨G,h1,h2⟩:=Zlq r n
  exact⟨_,h1.append r,fun a m=>(Zz8.mp m).elim (h2 a) id⟩
theorem Zaz: OC2 ZE Zag:=fun H v1 v2 t1 t2 t F1 F2 r1 r2 h=>by
 cases r1 with
 | none=>first|exact Zx0 h|cases h
 | bool=>first|exact Zx0 h|cases h
 | str=>first|exact Zx0 h|cases h
 | obj=>first|exact Zx0 h|cases h
 | int a=>
  cases r2 <;> first|exact Zx0 h|(cases h;done)| skip
  cases h;exact⟨_,[],[],by simp[ZE],.int _,by simp,by simp⟩
 | tup hs1=>
  cases r2 with
  | none=>first|exact Zx0 h|cases h
  | bool=>first|exact Zx0 h|cases h
  | str=>first|exact Zx0 h|cases h
  | obj=>first|exact Zx0 h|cases h
  | int=>first|exact Zx0 h|cases h
  | ref=>first|exact Zx0 h|cases h
  | tup hs2=>
   simp only[Zag]at h
   split at h
   ·rename_i hl
    cases h
    refine⟨_,[],_,?_,.tup (by simpa using hs1.append hs2),fun a m=>.inr (Zz8.mp m),fun hf=>ZnL (H:=H) (.tup (hs1.append hs2)) ((RF.tup (hs1.append hs2)).flat (by simpa [T.flatIn]using hf))⟩
    simp only[ZE,List.append_nil]
    rw[if_pos (by rw[List.length_append]at hl ⊢;rw[hs1.length,hs2.length];exact hl)]
   ·first|exact Zx0 h|cases h
 | ref e1 hs1=>
  cases r2 with
  | none=>first|exact Zx0 h|cases h
  | bool=>first|exact Zx0 h|cases h
  | str=>first|exact Zx0 h|cases h
  | obj=>first|exact Zx0 h|cases h
  | int=>first|exact Zx0 h|cases h
  | tup=>first|exact Zx0 h|cases h
  | ref e2 hs2=>
   simp only[Zag]at h
   split at h
   ·rename_i hl
    cases h
    refine⟨_,_,_,?_,ZdG (hs1.append hs2),fun a m=>?_,Zee (hs1.append hs2)⟩
    ·simp only[ZE,e1,e2,Zs0]
     rw[if_pos (by rw[List.length_append]at hl ⊢;rw[hs1.length,hs2.length];exact hl)]
    ·rcases Zz7.mp m with rfl | m
     ·exact .inl (Zz10 _)
     ·rcases Zz8.mp m with m | m
      ·exact .inr (.inl (Zz2 _ m))
      ·exact .inr (.inr (Zz2 _ m))
   ·first|exact Zx0 h|cases h
theorem ZfB: OC2 Zbh Zcm:=fun H v1 v2 t1 t2 t F1 F2 r1 r2 h=>by
 cases r1 with
 | none=>first|exact Zx0 h|cases h
 | bool=>first|exact Zx0 h|cases h
 | str=>first|exact Zx0 h|cases h
 | obj=>first|exact Zx0 h|cases h
 | tup=>first|exact Zx0 h|cases h
 | int a=>
  cases r2 <;> first|exact Zx0 h|(cases h;done)| skip
  simp only[Zcm]at h
  split at h
  ·rename_i hm
   cases h;exact⟨_,[],[],by simp only[Zbh];rw[if_pos hm];simp,.int _,by simp,by simp⟩
  ·first|exact Zx0 h|cases h
 | ref e1 hs1=>
  cases r2 with
  | none=>first|exact Zx0 h|cases h
  | bool=>first|exact Zx0 h|cases h
  | str=>first|exact Zx0 h|cases h
  | obj=>first|exact Zx0 h|cases h
  | tup=>first|exact Zx0 h|cases h
  | ref=>first|exact Zx0 h|cases h
  | int k=>
   simp only[Zcm]at h
   split at h
   ·rename_i hl
    cases h
    obtain⟨G,h1,h2⟩:=Zlq hs1 k.toNat
    refine⟨_,_,_,?_,ZdG h1,fun a m=>?_,Zee h1⟩
    ·simp only[Zbh,e1,Zs0]
     rw[if_pos (by rw[hs1.length];exact hl)]
    ·rcases Zz7.mp m with rfl | m
     ·exact .inl (Zz10 _)
     ·exact .inr (.inl (Zz2 _ (h2 a m)))
   ·first|exact Zx0 h|cases h
noncomputable def Zc4: List T→Option T
 | [.lst ts]=>some (.lst ts)
 | [.tup ts]=>some (.lst ts)
 | _=>none
noncomputable def Ze8: List T→Option T
 | [.lst ts]=>some (.tup ts)
 | [.tup ts]=>some (.tup ts)
 | _=>none
theorem ZiR: OCn Zbt Zc4:=fun H vs ts t F hp r h=>by
 unfold Zc4 at h
 split at h
 ·obtain⟨v,rfl,r'⟩:=r.one_inv
  cases r' with
  | ref e hs=>cases h;exact⟨_,_,_,by simp only[Zbt,e,Zs1],ZdG hs,fun a m=>(Zz7.mp m).imp (fun q=>Nat.le_of_eq q.symm) (Zz2 _),Zee hs⟩
 ·obtain⟨v,rfl,r'⟩:=r.one_inv
  cases r' with
  | tup hs=>cases h;exact⟨_,_,_,by simp only[Zbt],ZdG hs,fun a m=>(Zz7.mp m).imp (fun q=>Nat.le_of_eq q.symm) id,Zee hs⟩
 ·first|exact Zx0 h|cases h
end
end TM
end
section
namespace TM
open PySem PM
theorem St.from_src{c:Ctx}{O N:List Nat}{ρ:Lc}{σ:TL}{H:Hp}{Φ:Nat→List Nat}(s:St c O ρ σ H Φ){a:Nat}(f:From H N σ Φ a): c.H0.length≤a∨c.P a:=by
 rcases f with h | ⟨i,hi,⟨t,e⟩,m⟩
 ·exact .inl (Nat.le_trans s.len h)
 ·exact s.src i t e a m
theorem St.from_off{c:Ctx}{O N:List Nat}{ρ:Lc}{σ:TL}{H:Hp}{Φ:Nat→List Nat}(s:St c O ρ σ H Φ)(hN:∀i∈N,i∉O){a:Nat}(f:From H N σ Φ a){i:Nat}(hi:i∈O){t:T}(e:σ i=some t): a∉Φ i:=by
 intro m
 obtain⟨v,_,r⟩:=s.slot i t e
 have hl:=r.lt a m
 rcases f with h | ⟨j,hj,⟨t',e'⟩,m'⟩
 ·lia
 ·exact(s.own i hi t e).2.2 j t' (fun q=>hN j hj (q▸hi)) e' a m m'
noncomputable abbrev PPt:=TL→Option (Option Int)
noncomputable def Zc5: PPt:=fun _=>some none
noncomputable def Zc6(p:PE): PPt:=fun σ=>(p σ).bind fun t=>match t with
 | .int k=>some (some k)
 | _=>none
noncomputable def Pe(O:List Nat)(f:Pt)(p:PPt): Prop:=∀(c:Ctx) (ρ:Lc) (σ:TL) (H:Hp) (Φ:Nat→List Nat) (k:Option Int),St c O ρ σ H Φ→p σ=some k→∃o X,f ρ H=some (o,H++X)∧Zfv o=some k
section
variable {O N:List Nat} {u:Bool}
theorem Pe.none: Pe O PM.Zdv Zc5:=fun c ρ σ H Φ k s h=>by
 cases h;exact⟨Option.none,[],by simp[PM.Zdv],rfl⟩
theorem Pe.some{e:Ex}{p:PE}(x:E O N u e p): Pe O (Zdw e) (Zc6 p):=fun c ρ σ H Φ k s h=>by
 obtain⟨t,h1,h⟩:=Zz0.mp h
 obtain⟨v,X,F,a1,a2,a3,a4⟩:=x c ρ σ H Φ t s h1
 cases a2 <;> first|exact Zx0 h|(cases h;done)| skip
 rename_i k'
 cases h
 exact⟨Option.some (.int k'),X,by simp only[Zdw,a1,Zs1],rfl⟩
noncomputable def ZcI(p:PE)(lo hi:PPt): PE:=fun σ=>(p σ).bind fun t=>(lo σ).bind fun a=>(hi σ).bind fun b=>match t with
 | .lst ts=>Option.some (.lst (Zby ts a b))
 | _=>Option.none
theorem RFs.pick{H:Hp}{vs:List V}{ts:List T}{F:List Nat}(h:RFs H vs ts F)(l:List Nat): ∃G,RFs H (l.filterMap fun i=>vs[i]?) (l.filterMap fun i=>ts[i]?) G∧∀a∈G,a∈F:=by
 induction l with
 | nil=>exact⟨_,.nil,by simp⟩
 | cons i l ih=>
  obtain⟨G,h1,h2⟩:=ih
  simp only[List.filterMap_cons]
  have hl:=h.length
  cases e:ts[i]? with
  | none=>
   have:vs[i]?=none:=by rw[List.getElem?_eq_none_iff]at e ⊢;lia
   rw[this]
   exact⟨G,h1,h2⟩
  | some t=>
   obtain⟨x,G',hx,hr,hs⟩:=h.at e
   rw[hx]
   exact⟨_,.cons hr h1,fun a m=>(Zz8.mp m).elim (fun q=>hs.subset q) (h2 a)⟩
theorem ZmG{c:Ctx}{ρ:Lc}{σ:TL}{H:Hp}{Φ:Nat→List Nat}{t:T}{e:Ex}{p:PE}{lo hi:Pt}{plo phi:PPt}(x:E O N u e p)(y:Pe O lo plo)(z:Pe O hi phi)(s:St c O ρ σ H Φ)(h:ZcI p plo phi σ=Option.some t):
  ∃v X F,Zc0 e lo hi ρ H=Option.some (v,H++X)∧RF (H++X) v t F∧(∀a∈F,From H N σ Φ a)∧(t.flatIn=true→F.Nodup∧∀a∈F,H.length≤a):=by
 obtain⟨t1,h1,h⟩:=Zz0.mp h
 obtain⟨a,h2,h⟩:=Zz0.mp h
 obtain⟨b,h3,h⟩:=Zz0.mp h
 obtain⟨v,X,F,a1,a2,a3,a4⟩:=x c ρ σ H Φ t1 s h1
 obtain⟨o1,Y,b1,b2⟩:=y c ρ σ (H++X) Φ a (s.ext X) h2
 obtain⟨o2,Z,c1,c2⟩:=z c ρ σ (H++X++Y) Φ b ((s.ext X).ext Y) h3
 cases a2 with
 | none=>first|exact Zx0 h|cases h
 | bool=>first|exact Zx0 h|cases h
 | int=>first|exact Zx0 h|cases h
 | str=>first|exact Zx0 h|cases h
 | obj=>first|exact Zx0 h|cases h
 | tup=>first|exact Zx0 h|cases h
 | @ref i vs ts F e1 hs=>
 cases h
 have e3:((H++X)++(Y++Z))[i]?=Option.some vs:=by rw[Zy0 (Zz6.mp e1).1];exact e1
 have hs':=hs.ext (Y++Z)
 have hlen:=hs.length
 obtain⟨G,g1,g2⟩:=hs'.pick (sliceRange (sliceBounds a b none vs.length).1 (sliceBounds a b none vs.length).2.1 (sliceBounds a b none vs.length).2.2)
 have g1':RFs (H++X++(Y++Z)) (Zby vs a b) (Zby ts a b) G:=by unfold Zby;rw[←hlen];exact g1
 refine⟨.ref (H++X++(Y++Z)).length,X++(Y++Z)++[Zby vs a b],(H++X++(Y++Z)).length::G,?_,?_,fun q m=>?_,fun hf=>?_⟩
 ·simp only[Zc0,a1,Zs0,b1,c1,b2,c2]
  rw[Zy10 (H++X),e3]
  simp
 ·have:=ZdG g1'
  simpa using this
 ·rcases Zz7.mp m with rfl | m
  ·exact .inl (by simp)
  ·exact a3 q (Zz2 _ (g2 q m))
 ·have:=Zee g1' hf
  exact⟨this.1,fun q m=>by have:=this.2 q m;simp at this;lia⟩
theorem ZiS{e:Ex}{p:PE}{lo hi:Pt}{plo phi:PPt}(x:E O N u e p)(y:Pe O lo plo)(z:Pe O hi phi): E O N false (Zc0 e lo hi) (ZcI p plo phi):=fun c ρ σ H Φ t s h=>by
 obtain⟨v,X,F,a1,a2,a3,a4⟩:=ZmG x y z s h
 exact⟨v,X,F,a1,a2,a3,by simp⟩
noncomputable def ZfC(p:PE)(k:Nat): PE:=fun σ=>(p σ).bind fun t=>match t with
 | .lst ts=>Option.some (.lst (ts.drop k))
 | .tup ts=>if 1≤k∧k≤ts.length then Option.some (.tup (ts.drop k))else Option.none
 | _=>Option.none
theorem Zm4{c:Ctx}{ρ:Lc}{σ:TL}{H:Hp}{Φ:Nat→List Nat}{t:T}{e:Ex}{p:PE}{k:Nat}(x:E O N u e p)(s:St c O ρ σ H Φ)(h:ZfC p k σ=Option.some t):
  ∃v X F,Zep e k ρ H=Option.some (v,H++X)∧RF (H++X) v t F∧(∀a∈F,From H N σ Φ a)∧(t.flatIn=true→F.Nodup∧∀a∈F,H.length≤a):=by
 obtain⟨t1,h1,h⟩:=Zz0.mp h
 obtain⟨v,X,F,a1,a2,a3,a4⟩:=x c ρ σ H Φ t1 s h1
 cases a2 with
 | none=>first|exact Zx0 h|cases h
 | bool=>first|exact Zx0 h|cases h
 | int=>first|exact Zx0 h|cases h
 | str=>first|exact Zx0 h|cases h
 | obj=>first|exact Zx0 h|cases h
 | tup hs=>
  simp only at h
  split at h
  ·rename_i hc
   cases h
   obtain⟨G,g1,g2⟩:=hs.drop k
   refine⟨_,X,G,?_,.tup g1,fun a m=>a3 a (g2.subset m),fun hf=>?_⟩
   ·simp only[Zep,a1,Zs0]
    rw[if_pos (by rw[hs.length];exact hc)]
   ·rw[g1.flats (by simpa [T.flatIn,T.flat]using hf)]
    simp
  ·first|exact Zx0 h|cases h
 | @ref b vs1 ts1 F1 e1 hs=>
  cases h
  obtain⟨G,g1,g2⟩:=hs.drop k
  refine⟨.ref (H++X).length,X++[vs1.drop k],(H++X).length::G,?_,?_,fun a m=>?_,fun hf=>?_⟩
  ·simp only[Zep,a1,Zs0,e1,List.append_assoc]
  ·rw[←List.append_assoc];exact ZdG g1
  ·rcases Zz7.mp m with rfl | m
   ·exact .inl (by simp)
   ·exact a3 a (Zz2 _ (g2.subset m))
  ·have:=Zee g1 hf
   exact⟨this.1,fun q m=>by have:=this.2 q m;simp at this;lia⟩
theorem ZpA{e:Ex}{p:PE}{k:Nat}(x:E O N u e p): E O N false (Zep e k) (ZfC p k):=fun c ρ σ H Φ t s h=>by
 obtain⟨v,X,F,a1,a2,a3,a4⟩:=Zm4 x s h
 exact⟨v,X,F,a1,a2,a3,by simp⟩
end
noncomputable def Gs(O N:List Nat)(g:Src)(q:PG): Prop:=∀(c:Ctx) (ρ:Lc) (σ:TL) (H:Hp) (Φ:Nat→List Nat) (ts:List T),St c O ρ σ H Φ→q σ=some ts →
 ∃(nx:Nx) (X:Hp) (vs:List V) (F G:List Nat),g ρ H=some (nx,ts.length+1,H++X)∧RFs (H++X) vs ts F∧(∀a∈F,a∈G)∧(∀a∈G,a<(H++X).length∧From H N σ Φ a)∧∀K:Hp,(∀a∈G,K[a]?=(H++X)[a]?)→∀i,i≤vs.length→nx i K=some vs[i]?
section
variable {O N M:List Nat} {u u':Bool}
noncomputable def Zb1(p:PE): PG:=fun σ=>(p σ).bind fun t=>match t with
 | .lst ts=>some ts
 | .tup ts=>some ts
 | _=>none
theorem Gs.seq{e:Ex}{p:PE}(x:E O N u e p): Gs O N (Zar e) (Zb1 p):=fun c ρ σ H Φ ts s h=>by
 obtain⟨t1,h1,h⟩:=Zz0.mp h
 obtain⟨v,X,F,a1,a2,a3,a4⟩:=x c ρ σ H Φ t1 s h1
 have hlt:=a2.lt
 cases a2 with
 | none=>first|exact Zx0 h|cases h
 | bool=>first|exact Zx0 h|cases h
 | int=>first|exact Zx0 h|cases h
 | str=>first|exact Zx0 h|cases h
 | obj=>first|exact Zx0 h|cases h
 | @tup vs _ _ hs=>
  cases h
  exact⟨Zjh vs,X,vs,F,F,by simp only[Zar,a1,Zs0,hs.length],hs,fun _ m=>m,fun a m=>⟨hlt a m,a3 a m⟩,fun K _ i hi=>rfl⟩
 | @ref b vs _ F' e1 hs=>
  cases h
  refine⟨Zad b,X,vs,F',b::F',by simp only[Zar,a1,Zs0,e1,Zs1,hs.length],hs,fun _ m=>Zy3 _ m,fun a m=>⟨hlt a m,a3 a m⟩,fun K hK i hi=>?_⟩
  simp only[Zad,hK b Zz5,e1,Zs1]
noncomputable def ZcB(a b c:Int): Option (List T):=if c≠0∧Builtin.Range.small a b c=true∧0≤Builtin.Range.rangeSize a b c∧rngN a b c≤ZX∧Builtin.divisionGoesByPylong (b-a) c=false then some ((List.range (rngN a b c)).map fun(i:Nat)=>.int (a+(i:Int)*c))else none
noncomputable def ZbG(p:PEs): PG:=fun σ=>(p σ).bind fun ts=>match ts with
 | [.int b]=>ZcB 0 b 1
 | [.int a,.int b]=>ZcB a b 1
 | [.int a,.int b,.int c]=>ZcB a b c
 | _=>none
theorem Zky(H:Hp)(a c:Int): ∀(l:List Nat),RFs H (l.map fun(i:Nat)=>.int (a+(i:Int)*c)) (l.map fun(i:Nat)=>.int (a+(i:Int)*c)) []
 | []=>.nil
 | i::l=>by have:=RFs.cons (RF.int (H:=H) (a+i*c)) (Zky H a c l);exact this
theorem ZiA{a b c:Int}{H:Hp}{ts:List T}(h:ZcB a b c=some ts): ∃(nx:Nx) (vs:List V),Zbw a b c H=some (nx,ts.length+1,H)∧RFs H vs ts []∧∀K:Hp,∀i,i≤vs.length→nx i K=some vs[i]?:=by
 unfold ZcB at h
 split at h
 ·rename_i hc
  cases h
  refine⟨Zb3 a c (rngN a b c),(List.range (rngN a b c)).map fun(i:Nat)=>.int (a+(i:Int)*c),?_,Zky H a c _,fun K i hi=>?_⟩
  ·unfold Zbw
   rw[if_pos hc]
   simp
  ·simp only[Zb3,List.getElem?_map]
   by_cases q:i<rngN a b c
   ·rw[if_pos q,List.getElem?_range q];rfl
   ·rw[if_neg q,Zy8 (by simpa using Nat.le_of_not_lt q)];rfl
 ·first|exact Zx0 h|cases h
theorem RFs.three_inv{H:Hp}{vs:List V}{t t' t'':T}{F:List Nat}(r:RFs H vs [t,t',t''] F): ∃v v' v'' F1 F2 F3,vs=[v,v',v'']∧RF H v t F1∧RF H v' t' F2∧RF H v'' t'' F3:=by
 cases r with
 | cons a b=>obtain⟨v',v'',F2,F3,h1,h2,h3,_⟩:=b.two_inv;subst h1;exact⟨_,_,_,_,_,_,rfl,a,h2,h3⟩
theorem Gs.range{n:Nat}{e:Z7}{p:PEs}(x:Es O N u n e p): Gs O [] (Za7 e) (ZbG p):=fun c ρ σ H Φ ts s h=>by
 obtain⟨t1,h1,h⟩:=Zz0.mp h
 obtain⟨_,vs,X,F,a1,a2,a3,a4⟩:=x c ρ σ H Φ t1 s h1
 split at h
 ·obtain⟨v,rfl,r⟩:=a2.one_inv
  cases r
  obtain⟨nx,us,q1,q2,q3⟩:=ZiA (H:=H++X) h
  exact⟨nx,X,us,[],[],by simp only[Za7,a1,Zs0,q1],q2,by simp,by simp,fun K _=>q3 K⟩
 ·obtain⟨v,v',F1,F2,rfl,r,r',_⟩:=a2.two_inv
  cases r;cases r'
  obtain⟨nx,us,q1,q2,q3⟩:=ZiA (H:=H++X) h
  exact⟨nx,X,us,[],[],by simp only[Za7,a1,Zs0,q1],q2,by simp,by simp,fun K _=>q3 K⟩
 ·obtain⟨v,v',v'',F1,F2,F3,rfl,r,r',r''⟩:=a2.three_inv
  cases r;cases r';cases r''
  obtain⟨nx,us,q1,q2,q3⟩:=ZiA (H:=H++X) h
  exact⟨nx,X,us,[],[],by simp only[Za7,a1,Zs0,q1],q2,by simp,by simp,fun K _=>q3 K⟩
 ·first|exact Zx0 h|cases h
noncomputable def Zhh(p q:PE): PG:=fun σ=>(p σ).bind fun t=>(q σ).bind fun s=>match t,s with
 | .lst ts,.lst ss=>some (List.zipWith (fun x y=>.tup [x,y]) ts ss)
 | _,_=>none
theorem RFs.zip{H:Hp}: ∀{vs us:List V} {ts ss:List T} {F G:List Nat},RFs H vs ts F→RFs H us ss G→∃D,RFs H (List.zipWith (fun x y=>.tup [x,y]) vs us) (List.zipWith (fun x y=>.tup [x,y]) ts ss) D∧∀a∈D,a∈F∨a∈G
 | _,_,_,_,_,_,.nil,_=>⟨_,.nil,by simp⟩
 | _,_,_,_,_,_,.cons _ _,.nil=>⟨_,.nil,by simp⟩
 | _,_,_,_,_,_,.cons a b,.cons a' b'=>by
  obtain⟨D,h1,h2⟩:=b.zip b'
  refine⟨_,.cons (.tup (.cons a (.one a'))) h1,fun x m=>?_⟩
  rcases Zz8.mp m with m | m
  ·rcases Zz8.mp m with m | m
   ·exact .inl (Zz4 _ m)
   ·exact .inr (Zz4 _ m)
  ·exact(h2 x m).imp (Zz3 _) (Zz3 _)
theorem Gs.zip{e1 e2:Ex}{p1 p2:PE}(x:E O N u e1 p1)(y:E O M u' e2 p2): Gs O (N++M) (Zhe e1 e2) (Zhh p1 p2):=fun c ρ σ H Φ ts s h=>by
 obtain⟨t1,h1,h⟩:=Zz0.mp h
 obtain⟨t2,h2,h⟩:=Zz0.mp h
 obtain⟨v,X,F,a1,a2,a3,a4⟩:=x c ρ σ H Φ t1 s h1
 obtain⟨w,Y,G,b1,b2,b3,b4⟩:=y c ρ σ (H++X) Φ t2 (s.ext X) h2
 have a2:=a2.ext Y
 have l1:=a2.lt
 have l2:=b2.lt
 rw[List.append_assoc]at a2 b2 l1 l2 b1
 cases a2 with
 | none=>first|exact Zx0 h|cases h
 | bool=>first|exact Zx0 h|cases h
 | int=>first|exact Zx0 h|cases h
 | str=>first|exact Zx0 h|cases h
 | obj=>first|exact Zx0 h|cases h
 | tup=>cases b2 <;> cases h
 | @ref a vs _ F' e1 hs=>
  cases b2 with
  | none=>first|exact Zx0 h|cases h
  | bool=>first|exact Zx0 h|cases h
  | int=>first|exact Zx0 h|cases h
  | str=>first|exact Zx0 h|cases h
  | obj=>first|exact Zx0 h|cases h
  | tup=>first|exact Zx0 h|cases h
  | @ref b us _ G' e2 hs2=>
   cases h
   obtain⟨D,d1,d2⟩:=hs.zip hs2
   refine⟨Zfy a b,X++Y,_,D,a::b::D,?_,d1,fun q m=>Zy3 _ (Zz2 _ m),fun q m=>?_,fun K hK i hi=>?_⟩
   ·simp only[Zhe,a1,Zs0,b1,e1,e2,Zs1,List.length_zipWith,hs.length,hs2.length]
   ·rcases Zz7.mp m with rfl | m
    ·exact⟨l1 _ Zz5,(a3 _ Zz5).mono fun i hi=>Zy7 _ hi⟩
    ·rcases Zz7.mp m with rfl | m
     ·exact⟨l2 _ Zz5,(b3 _ Zz5).back.mono fun i hi=>List.mem_append_right _ hi⟩
     ·rcases d2 q m with m | m
      ·exact⟨l1 _ (Zz2 _ m),(a3 _ (Zz2 _ m)).mono fun i hi=>Zy7 _ hi⟩
      ·exact⟨l2 _ (Zz2 _ m),(b3 _ (Zz2 _ m)).back.mono fun i hi=>List.mem_append_right _ hi⟩
   ·simp only[Zfy,hK a Zz5,hK b (Zz2 _ Zz5),e1,e2,Zs0,List.getElem?_zipWith]
    rw[List.length_zipWith]at hi
    by_cases q:i<min vs.length us.length
    ·rw[Zy1 (show i<vs.length by lia),Zy1 (show i<us.length by omega)]
    ·have q':i=min vs.length us.length:=by lia
     by_cases q2:i<vs.length
     ·rw[Zy1 q2,Zy8 (show us.length≤i by lia)]
      simp[q']
     ·rw[Zy8 (show vs.length≤i by lia)]
      simp[q']
end
noncomputable def PutOk(O J:List Nat)(put:V→Lc→Option Lc)(q:T→TL→Option TL): Prop:=∀(c:Ctx) (ρ:Lc) (σ:TL) (H:Hp) (Φ:Nat→List Nat) (v:V) (t:T) (F:List Nat) (σ1:TL),St c O ρ σ H Φ→RF H v t F→(∀a∈F,c.H0.length≤a∨c.P a)→(∀i∈O,∀t',σ i=some t'→∀a∈Φ i,a∉F)→q t σ=some σ1 →
 ∃ρ1 Φ1,put v ρ=some ρ1∧St c O ρ1 σ1 H Φ1∧(∀i,i∉J→σ1 i=σ i∧Φ1 i=Φ i)∧∀i∈J,∀a∈Φ1 i,a∈F
noncomputable def Zx(Φ:Nat→List Nat)(j:Nat)(F:List Nat): Nat→List Nat:=fun i=>if i=j then F else Φ i
theorem St.put{c:Ctx}{O:List Nat}{ρ:Lc}{σ:TL}{H:Hp}{Φ:Nat→List Nat}{v:V}{t:T}{F:List Nat}{j:Nat}(s:St c O ρ σ H Φ)(hj:j∉O)(r:RF H v t F)(hs:∀a∈F,c.H0.length≤a∨c.P a)(ho:∀i∈O,∀t',σ i=some t'→∀a∈Φ i,a∉F): St c O (upd ρ j v) (ZI σ j t) H (Zx Φ j F):=by
 refine⟨fun i u e=>?_,fun i u e=>?_,fun i hi u e=>?_,s.len,s.keep,s.pos,s.f0⟩
 ·by_cases q:i=j
  ·subst q
   simp[ZI]at e
   subst e
   exact⟨v,by simp[upd],by simpa [Zx]using r⟩
  ·simp[ZI,q]at e
   simpa [upd,Zx,q]using s.slot i u e
 ·by_cases q:i=j
  ·subst q;simpa [Zx]using hs
  ·simp[ZI,q]at e
   simpa [Zx,q]using s.src i u e
 ·have q:i≠j:=fun q=>hj (q▸hi)
  simp[ZI,q]at e
  obtain⟨h1,h2,h3⟩:=s.own i hi u e
  refine⟨by simpa [Zx,q]using h1,by simpa [Zx,q]using h2,fun k w hk ek=>?_⟩
  by_cases q2:k=j
  ·subst q2
   simpa [Zx,q]using ho i hi u e
  ·simp[ZI,q2]at ek
   simpa [Zx,q,q2]using h3 k w hk ek
noncomputable def ZaG(j:Nat): T→TL→Option TL:=fun t σ=>some (ZI σ j t)
noncomputable def Zg5(i j:Nat): T→TL→Option TL
 | .tup [a,b],σ=>some (ZI (ZI σ i a) j b)
 | _,_=>none
theorem PutOk.one{O:List Nat}{j:Nat}(hj:j∉O:=by decide): PutOk O [j] (ZQ j) (ZaG j):=fun c ρ σ H Φ v t F σ1 s r hs ho h=>by
 cases h
 refine⟨_,_,rfl,s.put hj r hs ho,fun i hi=>?_,fun i hi a m=>?_⟩
 ·have:i≠j:=fun q=>hi (by simp[q])
  simp[ZI,Zx,this]
 ·simp at hi;subst hi;simpa [Zx]using m
theorem PutOk.two{O:List Nat}{i j:Nat}(hi:i∉O:=by decide)(hj:j∉O:=by decide)(hij:i≠j:=by decide): PutOk O [i,j] (Zd5 i j) (Zg5 i j):=fun c ρ σ H Φ v t F σ1 s r hs ho h=>by
 unfold Zg5 at h
 split at h
 ·first|exact Zx0 h|cases h
  cases r with
  | tup hh=>
   obtain⟨v1,v2,F1,F2,rfl,r1,r2,rfl⟩:=hh.two_inv
   have s1:=s.put hi r1 (fun a m=>hs a (Zz4 _ m)) (fun k hk t' e a m q=>ho k hk t' e a m (Zz4 _ q))
   have s2:=s1.put hj r2 (fun a m=>hs a (Zz3 _ m)) (fun k hk t' e a m q=>by
    have:k≠i:=fun q=>hi (q▸hk)
    simp[ZI,Zx,this]at e m
    exact ho k hk t' e a m (Zz3 _ q))
   refine⟨_,_,rfl,s2,fun k hk=>?_,fun k hk a m=>?_⟩
   ·simp at hk
    simp[ZI,Zx,hk.1,hk.2]
   ·simp at hk
    rcases hk with rfl | rfl
    ·simp[Zx,hij]at m
     exact Zz4 _ m
    ·simp[Zx]at m
     exact Zz3 _ m
 ·first|exact Zx0 h|cases h
noncomputable def Zdy(put:T→TL→Option TL)(c:PB)(f:PE)(σ:TL): List T→Option (List T)
 | []=>some []
 | t::ts=>(put t σ).bind fun σ1=>(c σ1).bind fun b=>if b then(f σ1).bind fun x=>(Zdy put c f σ ts).map fun xs=>x::xs else Zdy put c f σ ts
noncomputable def Zbz(g:PG)(put:T→TL→Option TL)(c:PB)(f:PE): PE:=fun σ=>(g σ).bind fun ts=>if ts.length≤ZX then(Zdy put c f σ ts).map .lst else none
section
variable {O Ns Ne J:List Nat} {u:Bool}
theorem comp_core{put:V→Lc→Option Lc}{pput:T→TL→Option TL}{tc:Ts}{pc:PB}{f:Ex}{pf:PE}(hj:PutOk O J put pput)(hN:∀i∈Ns,i∉O)(hc:Bt O tc pc)(hf:E O Ne u f pf)(hu:u=true→Ne=[])
  {c:Ctx} {ρ:Lc} {σ:TL} {Φ:Nat→List Nat} {H0 H1:Hp} {nx:Nx} {vs:List V} {G:List Nat} (h0:H0.length≤H1.length)
  (hG:∀a∈G,a<H1.length∧From H0 Ns σ Φ a) (hoff:∀a∈G,∀i∈O,∀t,σ i=some t→a∉Φ i) (hsrc:∀a∈G,c.H0.length≤a∨c.P a) (hnx:∀K:Hp,(∀a∈G,K[a]?=H1[a]?)→∀i,i≤vs.length→nx i K=some vs[i]?):
  ∀(rs:List T) (ws:List V) (i:Nat) (acc:List V) (K:Hp) (Fr:List Nat) (out:List T),(∀j,vs[i+j]?=ws[j]?)→i+ws.length=vs.length→St c O ρ σ K Φ→H1.length≤K.length→(∀a∈G,K[a]?=H1[a]?)→RFs K ws rs Fr→(∀a∈Fr,a∈G)→acc.length+rs.length≤ZX→Zdy pput pc pf σ rs=some out →
   ∃xs X F,ZaF nx put tc f ρ (rs.length+1) i acc K=some (acc++xs,K++X)∧RFs (K++X) xs out F∧(∀a∈F,(u=true→K.length≤a)∧From H0 (Ns++Ne) σ Φ a)∧(u=true→F.Nodup)
 | [],ws,i,acc,K,Fr,out,hat,hlen,s,hl,hk,r,hfr,hacc,h=>by
  cases r
  cases h
  have e:=hnx K hk i (by simp at hlen;lia)
  have e2:vs[i]?=none:=by have:=hat 0;simpa using this
  refine⟨[],[],[],?_,.nil,by simp,by simp⟩
  simp[ZaF,e,e2]
 | t::rs,ws0,i,acc,K,Fr0,out,hat,hlen,s,hl,hk,r,hfr,hacc,h=>by
  cases r with
  | @cons v _ F1 ws _ F2 a b=>
  simp only[List.length_cons]at hlen hacc
  obtain⟨σ1,h1,h⟩:=Zz0.mp h
  obtain⟨bb,h2,h⟩:=Zz0.mp h
  have e:=hnx K hk i (by lia)
  have e2:vs[i]?=some v:=by have:=hat 0;simpa using this
  have hat':∀j,vs[i+1+j]?=ws[j]?:=fun j=>by have:=hat (j+1);rw[show i+1+j=i+(j+1)by lia,this];simp
  obtain⟨ρ1,Φ1,p1,s1,p3,p4⟩:=hj c ρ σ K Φ v t F1 σ1 s a (fun x m=>hsrc x (hfr x (Zz4 _ m))) (fun k hk t' e x m q=>hoff x (hfr x (Zz4 _ q)) k hk t' e m) h1
  obtain⟨X1,c1⟩:=hc c ρ1 σ1 K Φ1 bb s1 h2
  cases bb with
  | true=>
   obtain⟨y,h3,h⟩:=Zz0.mp h
   obtain⟨ys,h4,h⟩:=Zz1.mp h
   subst h
   obtain⟨w,X2,Fw,d1,d2,d3,d4⟩:=hf c ρ1 σ1 (K++X1) Φ1 y (s1.ext X1) h3
   have hext:∀a∈G,(K++X1++X2)[a]?=H1[a]?:=fun a m=>by
    have:=(hG a m).1
    rw[List.append_assoc,Zy0 (by lia)];exact hk a m
   obtain⟨xs,X3,F3,f1,f2,f3,f4⟩:=comp_core hj hN hc hf hu h0 hG hoff hsrc hnx rs ws (i+1) (acc++[w]) (K++X1++X2) F2 ys hat' (by lia) ((s.ext X1).ext X2) (by simp;lia) hext (by rw[List.append_assoc];exact b.ext _) (fun x m=>hfr x (Zz3 _ m)) (by simp;lia) h4
   refine⟨w::xs,X1++X2++X3,Fw++F3,?_,?_,fun x m=>?_,fun hu'=>?_⟩
   ·rw[List.length_cons,ZaF,e,e2]
    simp only[Zs0,p1,c1,d1,if_true]
    rw[if_pos (by lia)]
    simpa using f1
   ·have:=RFs.cons (d2.ext X3) f2
    simpa using this
   ·rcases Zz8.mp m with m | m
    ·refine⟨fun hu'=>?_,?_⟩
     ·have hne:=hu hu'
      subst hne
      have:=(d3 x m).nil
      simp at this;lia
     ·rcases d3 x m with q | ⟨k,hk1,⟨tk,ek⟩,mk⟩
      ·exact .inl (by simp at q;lia)
      ·by_cases hkJ:k∈J
       ·exact(hG x (hfr x (Zz4 _ (p4 k hkJ x mk)))).2.mono fun i hi=>Zy7 _ hi
       ·obtain⟨q1,q2⟩:=p3 k hkJ
        exact .inr ⟨k,List.mem_append_right _ hk1,⟨tk,q1▸ek⟩,q2▸mk⟩
    ·obtain⟨g1,g2⟩:=f3 x m
     exact⟨fun hu'=>by have:=g1 hu';simp at this;lia,g2⟩
   ·rw[List.nodup_append]
    refine⟨d4 hu',f4 hu',fun x hx y hy e=>?_⟩
    have l1:=d2.lt x hx
    have l2:=(f3 y hy).1 hu'
    lia
  | false=>
   have hext:∀a∈G,(K++X1)[a]?=H1[a]?:=fun a m=>by
    have:=(hG a m).1
    rw[Zy0 (by omega)];exact hk a m
   obtain⟨xs,X3,F3,f1,f2,f3,f4⟩:=comp_core hj hN hc hf hu h0 hG hoff hsrc hnx rs ws (i+1) acc (K++X1) F2 out hat' (by omega) (s.ext X1) (by simp;lia) hext (b.ext _) (fun x m=>hfr x (Zz3 _ m)) (by lia) (by simpa using h)
   refine⟨xs,X1++X3,F3,?_,by simpa using f2,fun x m=>?_,f4⟩
   ·rw[List.length_cons,ZaF,e,e2]
    simp only[Zs0,p1,c1]
    simpa using f1
   ·obtain⟨g1,g2⟩:=f3 x m
    exact⟨fun hu'=>by have:=g1 hu';simp at this;omega,g2⟩
theorem E.comp{g:Src}{q:PG}{put:V→Lc→Option Lc}{pput:T→TL→Option TL}{tc:Ts}{pc:PB}{f:Ex}{pf:PE}(hg:Gs O Ns g q)(hj:PutOk O J put pput)(hN:∀i∈Ns,i∉O)(hc:Bt O tc pc)(hf:E O Ne u f pf)(hu:u=true→Ne=[]): E O (if u then []else Ns++Ne) u (Zam g put tc f) (Zbz q pput pc pf):=fun c ρ σ H Φ t s h=>by
 obtain⟨ts,h1,h⟩:=Zz0.mp h
 split at h
 ·rename_i hl
  obtain⟨out,h2,h⟩:=Zz1.mp h
  subst h
  obtain⟨nx,X,vs,F,G,g1,g2,g3,g4,g5⟩:=hg c ρ σ H Φ ts s h1
  obtain⟨xs,Y,F',d1,d2,d3,d4⟩:=comp_core hj hN hc hf hu (H0:=H) (H1:=H++X) (by simp) g4 (fun a m i hi t e=>s.from_off hN (g4 a m).2 hi e) (fun a m=>s.from_src (g4 a m).2) g5 ts vs 0 [] (H++X) F out (by simp) (by simp) (s.ext X) (Zz10 _) (fun _ _=>rfl) g2 g3 (by simpa using hl) h2
  refine⟨.ref (H++X++Y).length,X++Y++[xs],(H++X++Y).length::F',?_,?_,fun a m=>?_,fun hu'=>?_⟩
  ·simp only[Zam,g1,Zs0,d1,Zs1,List.nil_append,List.append_assoc]
  ·have:=ZdG d2
   simpa using this
  ·rcases Zz7.mp m with rfl | m
   ·exact .inl (by simp)
   ·obtain⟨q1,q2⟩:=d3 a m
    cases u with
    | true=>exact .inl (by have:=q1 rfl;simp at this;lia)
    | false=>exact q2
  ·rw[List.nodup_cons]
   exact⟨fun m=>Nat.lt_irrefl _ (d2.lt _ m),d4 hu'⟩
 ·first|exact Zx0 h|cases h
end
end TM
end
section
namespace TM
open PySem PM
noncomputable abbrev PS:=TL→Option (Option T×TL)
noncomputable def Zb9(σ:TL)(N:List Nat): TL:=fun j=>if j∈N then none else σ j
noncomputable def Held(O:List Nat)(σ:TL)(Φ:Nat→List Nat)(a:Nat): Prop:=∃j∈O,(∃t,σ j=some t)∧a∈Φ j
noncomputable def Aft(c:Ctx)(O O' R:List Nat)(fr:Bool)(σ:TL)(H:Hp)(Φ:Nat→List Nat)(g:Option (Option V×Lc×Hp))(r:Option T×TL): Prop:=
 ∃ρ' H' Φ',H.length≤H'.length∧(∀a,a<H.length→¬Held O σ Φ a→H'[a]?=H[a]?) ∧
  ((r.1=none∧g=some (none,ρ',H')∧St c O' ρ' r.2 H' Φ'∧∀a,Held O' r.2 Φ' a→H.length≤a∨Held O σ Φ a) ∨
  ∃t v F,r.1=some t∧g=some (some v,ρ',H')∧RF H' v t F∧St c R ρ' r.2 H' Φ'∧(∀a∈F,c.H0.length≤a∨c.P a)∧(fr=true→F.Nodup∧∀a∈F,c.H0.length≤a∨a∈c.F0))
noncomputable def S(O O' R:List Nat)(fr:Bool)(g:Sm)(q:PS): Prop:=∀(c:Ctx) (ρ:Lc) (σ:TL) (H:Hp) (Φ:Nat→List Nat) (r:Option T×TL),St c O ρ σ H Φ→q σ=some r→Aft c O O' R fr σ H Φ (g ρ H) r
theorem Held.mono{O O':List Nat}{σ:TL}{Φ:Nat→List Nat}{a:Nat}(h:Held O σ Φ a)(s:∀i∈O,i∈O'): Held O' σ Φ a:=by
 obtain⟨j,hj,q⟩:=h;exact⟨j,s j hj,q⟩
theorem Held.lt{c:Ctx}{O O':List Nat}{ρ:Lc}{σ:TL}{H:Hp}{Φ:Nat→List Nat}{a:Nat}(s:St c O ρ σ H Φ)(h:Held O' σ Φ a): a<H.length:=by
 obtain⟨j,hj,⟨t,e⟩,m⟩:=h
 obtain⟨v,_,r⟩:=s.slot j t e
 exact r.lt a m
section
variable {O O' R:List Nat} {fr:Bool}
noncomputable def Zai: PS:=fun σ=>some (none,σ)
theorem Zbd: S O O R fr ZL Zai:=fun c ρ σ H Φ r s e=>by
 cases e
 exact⟨ρ,H,Φ,Nat.le_refl _,fun _ _ _=>rfl,.inl ⟨rfl,rfl,s,fun a m=>.inr m⟩⟩
noncomputable def ZD(a b:PS): PS:=fun σ=>(a σ).bind fun r=>match r.1 with
 | some _=>some r
 | none=>b r.2
theorem ZaJ{O1:List Nat}{a b:Sm}{p q:PS}(x:S O O1 R fr a p)(y:S O1 O' R fr b q): S O O' R fr (Zm a b) (ZD p q):=fun c ρ σ H Φ r s e=>by
 obtain⟨r1,e1,e⟩:=Zz0.mp e
 obtain⟨ρ1,H1,Φ1,h1,h2,h3⟩:=x c ρ σ H Φ r1 s e1
 rcases h3 with⟨k1,k2,k3,k4⟩ | ⟨t,v,F,k1,k2,k3⟩
 ·rw[k1]at e
  obtain⟨ρ2,H2,Φ2,g1,g2,g3⟩:=y c ρ1 r1.2 H1 Φ1 r k3 e
  refine⟨ρ2,H2,Φ2,Nat.le_trans h1 g1,fun a ha hn=>?_,?_⟩
  ·rw[g2 a (by lia) fun q=>(k4 a q).elim (fun q=>by lia) hn,h2 a ha hn]
  ·have eg:Zm a b ρ H=b ρ1 H1:=by simp only[Zm,k2,Zs0]
   rw[eg]
   rcases g3 with⟨l1,l2,l3,l4⟩ | l
   ·refine .inl ⟨l1,l2,l3,fun a m=>?_⟩
    rcases l4 a m with q | q
    ·exact .inl (by lia)
    ·exact k4 a q
   ·exact .inr l
 ·rw[k1]at e
  cases e
  exact⟨ρ1,H1,Φ1,h1,h2,.inr ⟨t,v,F,k1,by simp only[Zm,k2,Zs0],k3⟩⟩
noncomputable def Zap(p:PE): PS:=fun σ=>(p σ).map fun t=>(some t,σ)
theorem Za9{N:List Nat}{u:Bool}{e:Ex}{p:PE}(x:E O N u e p)(hR:∀i∈R,i∈O:=by decide): S O O' R false (Zy e) (Zap p):=fun c ρ σ H Φ r s q=>by
 obtain⟨t,h1,h⟩:=Zz1.mp q
 subst h
 obtain⟨v,X,F,a1,a2,a3,a4⟩:=x c ρ σ H Φ t s h1
 refine⟨ρ,H++X,Φ,by simp,fun a ha _=>Zy0 ha,.inr ⟨t,v,F,rfl,by simp only[Zy,a1,Zs1],a2,(s.ext X).less hR,fun a m=>s.from_src (a3 a m),by simp⟩⟩
theorem Zch{N:List Nat}{e:Ex}{p:PE}(x:E O N true e p)(hN:∀i∈N,i∈O:=by decide)(hR:∀i∈R,i∈O:=by decide): S O O' R fr (Zy e) (Zap p):=fun c ρ σ H Φ r s q=>by
 obtain⟨t,h1,h⟩:=Zz1.mp q
 subst h
 obtain⟨v,X,F,a1,a2,a3,a4⟩:=x c ρ σ H Φ t s h1
 refine⟨ρ,H++X,Φ,by simp,fun a ha _=>Zy0 ha,.inr ⟨t,v,F,rfl,by simp only[Zy,a1,Zs1],a2,(s.ext X).less hR,fun a m=>s.from_src (a3 a m),fun _=>⟨a4 rfl,fun a m=>?_⟩⟩⟩
 rcases a3 a m with q | ⟨i,hi,⟨t',e'⟩,m'⟩
 ·exact .inl (Nat.le_trans s.len q)
 ·exact(s.own i (hN i hi) t' e').2.1 a m'
noncomputable def Zbi(i:Nat)(p:PE): PS:=fun σ=>(p σ).map fun t=>(none,ZI σ i t)
theorem ZcM{N:List Nat}{u:Bool}{i:Nat}{e:Ex}{p:PE}(x:E O N u e p)(hi:i∉O':=by decide)(hN:∀j∈N,j∉O':=by decide)(hO:∀j∈O',j∈O:=by decide): S O O' R fr (Zw i e) (Zbi i p):=fun c ρ σ H Φ r s q=>by
 obtain⟨t,h1,h⟩:=Zz1.mp q
 subst h
 obtain⟨v,X,F,a1,a2,a3,a4⟩:=x c ρ σ H Φ t s h1
 have s':=s.less hO
 refine⟨upd ρ i v,H++X,Zx Φ i F,by simp,fun a ha _=>Zy0 ha,.inl ⟨rfl,by simp only[Zw,a1,Zs1],(s'.ext X).put hi a2 (fun a m=>s.from_src (a3 a m)) (fun k hk t' e' a m q=>?_),fun a m=>?_⟩⟩
 ·exact s'.from_off hN (a3 a q) hk e' m
 ·obtain⟨k,hk,⟨t',e'⟩,m⟩:=m
  have:k≠i:=fun q=>hi (q▸hk)
  simp[ZI,this]at e'
  simp[Zx,this]at m
  exact .inr ⟨k,hO k hk,⟨t',e'⟩,m⟩
noncomputable def qIf(b:PB)(p q:PS): PS:=fun σ=>(b σ).bind fun x=>if x then p σ else q σ
theorem Aft.grow{c:Ctx}{σ:TL}{H X:Hp}{Φ:Nat→List Nat}{g:Option (Option V×Lc×Hp)}{r:Option T×TL}(h:Aft c O O' R fr σ (H++X) Φ g r): Aft c O O' R fr σ H Φ g r:=by
 obtain⟨ρ',H',Φ',h1,h2,h3⟩:=h
 rw[List.length_append]at h1
 refine⟨ρ',H',Φ',by lia,fun a ha hn=>?_,?_⟩
 ·rw[h2 a (by rw[List.length_append];lia) hn,Zy0 ha]
 ·rcases h3 with⟨k1,k2,k3,k4⟩ | k
  ·exact .inl ⟨k1,k2,k3,fun a m=>(k4 a m).imp (fun q=>by rw[List.length_append]at q;lia) id⟩
  ·exact .inr k
theorem Zbe{t:Ts}{pb:PB}{a b:Sm}{p q:PS}(z:Bt O t pb)(x:S O O' R fr a p)(y:S O O' R fr b q): S O O' R fr (Zz t a b) (qIf pb p q):=fun c ρ σ H Φ r s e=>by
 obtain⟨bb,e1,e⟩:=Zz0.mp e
 obtain⟨X,h1⟩:=z c ρ σ H Φ bb s e1
 cases bb with
 | true=>
  have:=x c ρ σ (H++X) Φ r (s.ext X) (by simpa using e)
  have eg:Zz t a b ρ H=a ρ (H++X):=by simp[Zz,h1]
  rw[eg]
  exact this.grow
 | false=>
  have:=y c ρ σ (H++X) Φ r (s.ext X) (by simpa using e)
  have eg:Zz t a b ρ H=b ρ (H++X):=by simp[Zz,h1]
  rw[eg]
  exact this.grow
noncomputable def sNo: Sm:=fun _ _=>none
noncomputable def follow(H:Hp): List Int→V→Option V
 | [],v=>some v
 | k::ks,v=>(Zf v (.int k) H).bind fun q=>follow H ks q.1
theorem Lead.follow{H:Hp}{ks:List Int}{v:V}{a:Nat}(l:Lead H ks v a): follow H ks v=some (.ref a):=by
 induction l with
 | nil=>rfl
 | ref h1 h2 h3 _ ih=>simp only[TM.follow,Zf,h1,Zs0,h2,h3,Zs1,ih]
 | tup h2 h3 _ ih=>simp only[TM.follow,Zf,Zs0,h2,h3,Zs1,ih]
theorem Zir{H:Hp}{v w z:V}{K:Hp}(h:Zf v z H=some (w,K))(X:Hp): K=H∧Zf v z (H++X)=some (w,H++X):=by
 unfold Zf at h
 split at h
 ·obtain⟨vs,e1,h⟩:=Zz0.mp h
  obtain⟨j,e2,h⟩:=Zz0.mp h
  obtain⟨x,e3,h⟩:=Zz1.mp h
  cases h
  exact⟨rfl,by simp only[Zf,Zy0 (Zz6.mp e1).1,e1,Zs0,e2,e3,Zs1]⟩
 ·obtain⟨j,e2,h⟩:=Zz0.mp h
  obtain⟨x,e3,h⟩:=Zz1.mp h
  cases h
  exact⟨rfl,by simp only[Zf,Zs0,e2,e3,Zs1]⟩
 ·first|exact Zx0 h|cases h
noncomputable abbrev PPa:=TL→Option (List Int)
noncomputable def ZbY: PPa:=fun _=>some []
noncomputable def Pa(O:List Nat)(x:Nat)(e:Ex)(p:PPa): Prop:=∀(c:Ctx) (ρ:Lc) (σ:TL) (H:Hp) (Φ:Nat→List Nat) (ks:List Int) (v w:V),St c O ρ σ H Φ→p σ=some ks→ρ x=some v→follow H ks v=some w→∃X,e ρ H=some (w,H++X)
theorem Zlr{x:Nat}: Pa O x (Za x) ZbY:=fun c ρ σ H Φ ks v w s h e f=>by
 cases h;cases f
 exact⟨[],by simp[Za,e]⟩
theorem ZpB{c:Ctx}{ρ:Lc}{σ:TL}{H:Hp}{Φ:Nat→List Nat}{N:List Nat}{x a b:Nat}{t t':T}{v:V}{Fw F':List Nat}{vs':List V}(s:St c O ρ σ H Φ)(hx:x∈O)(ex:σ x=some t)(ev:ρ x=some v)(hb:c.H0.length≤b)(hlow:∀k t,σ k=some t→∀a∈Φ k,a<b)
  (hFw:∀a∈Fw,b≤a∨∃j∈N,(∃t,σ j=some t)∧a∈Φ j) (hN:∀j∈N,j∈O∧j≠x) (ha:a∈Φ x) (r:RF (H.set a vs') v t' F') (nd:F'.Nodup) (sub:∀y∈F',y∈Φ x∨y∈Fw) (hO:∀j∈O',j∈O∧j∉N):
  St c O' ρ (Zb9 (ZI σ x t') N) (H.set a vs') (Zx Φ x F')∧(∀y,Held O' (Zb9 (ZI σ x t') N) (Zx Φ x F') y→b≤y∨Held O σ Φ y):=by
 obtain⟨o1,o2,o3⟩:=s.own x hx t ex
 have old:∀k u,k≠x→Zb9 (ZI σ x t') N k=some u→σ k=some u∧k∉N:=fun k u hk e=>by
  unfold Zb9 at e
  split at e
  ·first|exact Zx0 e|cases e
  ·rename_i hn
   simp[ZI,hk]at e
   exact⟨e,hn⟩
 have self:∀u,Zb9 (ZI σ x t') N x=some u→u=t':=fun u e=>by
  unfold Zb9 at e
  split at e
  ·first|exact Zx0 e|cases e
  ·simp[ZI]at e;exact e.symm
 have foff:∀y∈F',∀k u,k≠x→σ k=some u→k∉N→y∉Φ k:=fun y hy k u hk e hkn m=>by
  rcases sub y hy with q | q
  ·exact o3 k u hk e y q m
  ·rcases hFw y q with q | ⟨j,hj,⟨tj,ej⟩,mj⟩
   ·have:=hlow k u e y m;lia
   ·exact(s.own j (hN j hj).1 tj ej).2.2 k u (fun q=>hkn (q▸hj)) e y mj m
 refine⟨⟨fun k u e=>?_,fun k u e=>?_,fun k hk u e=>?_,by simpa using s.len,fun y hy hn=>?_,s.pos,s.f0⟩,fun y hy=>?_⟩
 ·by_cases q:k=x
  ·subst q
   have:=self u e
   subst this
   exact⟨v,ev,by simpa [Zx]using r⟩
  ·obtain⟨e1,e2⟩:=old k u q e
   obtain⟨w,h1,h2⟩:=s.slot k u e1
   refine⟨w,h1,?_⟩
   simp only[Zx,q,if_false]
   refine h2.frame fun y hy=>Zy2 fun q'=>?_
   exact o3 k u q e1 a ha (q'▸hy)
 ·by_cases q:k=x
  ·subst q
   simp only[Zx,if_true]
   intro y hy
   rcases sub y hy with q | q
   ·exact s.src k t ex y q
   ·rcases hFw y q with q | ⟨j,hj,⟨tj,ej⟩,mj⟩
    ·exact .inl (by lia)
    ·exact s.src j tj ej y mj
  ·obtain⟨e1,e2⟩:=old k u q e
   simpa [Zx,q]using s.src k u e1
 ·by_cases q:k=x
  ·subst q
   simp only[Zx,if_true]
   refine⟨nd,fun y hy=>?_,fun j w hj ej y hy=>?_⟩
   ·rcases sub y hy with q | q
    ·exact o2 y q
    ·rcases hFw y q with q | ⟨j,hj,⟨tj,ej⟩,mj⟩
     ·exact .inl (by omega)
     ·exact(s.own j (hN j hj).1 tj ej).2.1 y mj
   ·obtain⟨e1,e2⟩:=old j w hj ej
    simpa [hj]using foff y hy j w hj e1 e2
  ·obtain⟨e1,e2⟩:=old k u q e
   obtain⟨p1,p2,p3⟩:=s.own k (hO k hk).1 u e1
   simp only[Zx,q,if_false]
   refine⟨p1,p2,fun j w hj ej y hy=>?_⟩
   by_cases q2:j=x
   ·subst q2
    simp only[if_true]
    exact fun m=>foff y m k u q e1 e2 hy
   ·obtain⟨f1,f2⟩:=old j w q2 ej
    simpa [q2]using p3 j w hj f1 y hy
 ·have:a≠y:=fun q=>by
   subst q
   rcases o2 a ha with q | q
   ·lia
   ·exact hn q
  rw[Zy2 this]
  exact s.keep y hy hn
 ·obtain⟨k,hk,⟨u,e⟩,m⟩:=hy
  by_cases q:k=x
  ·subst q
   simp only[Zx,if_true]at m
   rcases sub y m with q | q
   ·exact .inr ⟨k,hx,⟨t,ex⟩,q⟩
   ·rcases hFw y q with q | ⟨j,hj,q⟩
    ·exact .inl q
    ·exact .inr ⟨j,(hN j hj).1,q⟩
  ·obtain⟨e1,e2⟩:=old k u q e
   simp only[Zx,q,if_false]at m
   exact .inr ⟨k,(hO k hk).1,⟨u,e1⟩,m⟩
theorem Zoy{c:Ctx}{ρ:Lc}{σ:TL}{H:Hp}{Φ:Nat→List Nat}{x a:Nat}{t:T}(s:St c O ρ σ H Φ)(hx:x∈O)(ex:σ x=some t)(ha:a∈Φ x): a≠0:=by
 have:=s.pos
 rcases(s.own x hx t ex).2.1 a ha with q | q
 ·lia
 ·exact fun e=>s.f0 (e▸q)
noncomputable def ZeB(w:T)(ts:List T): Option (List T):=if ts.length<ZX then some (ts++[w])else none
noncomputable def ZjL(k:Int)(w:T)(ts:List T): Option (List T):=if 0≤k∧k<ts.length then some (ts.set k.toNat w)else none
noncomputable def ZeC(x:Nat)(N:List Nat)(po:PPa)(p:PE): PS:=fun σ=>(po σ).bind fun ks=>(p σ).bind fun w=>(σ x).bind fun t=>(ZfL (ZeB w) ks t).map fun t'=>(none,Zb9 (ZI σ x t') N)
theorem Zie{H:Hp}(X:Hp): ∀{ks:List Int} {v w:V},follow H ks v=some w→follow (H++X) ks v=some w
 | [],_,_,h=>h
 | k::ks,v,w,h=>by
  obtain⟨⟨w1,K⟩,h1,h2⟩:=Zz0.mp h
  simp only[follow,(Zir h1 X).2,Zs0]
  exact Zie X h2
theorem S.app{x:Nat}{N:List Nat}{o e:Ex}{po:PPa}{p:PE}(hx:x∈O)(y:Pa O x o po)(z:E O N true e p)(hN:∀j∈N,j∈O∧j≠x)(hO:∀j∈O',j∈O∧j∉N): S O O' R fr (ZC (ZaD o e)) (ZeC x N po p):=fun c ρ σ H Φ r s q=>by
 obtain⟨ks,h1,q⟩:=Zz0.mp q
 obtain⟨w,h2,q⟩:=Zz0.mp q
 obtain⟨t,h3,q⟩:=Zz0.mp q
 obtain⟨t',h4,q⟩:=Zz1.mp q
 subst q
 obtain⟨v,ev,rv⟩:=s.slot x t h3
 have hlow:∀k t,σ k=some t→∀a∈Φ k,a<H.length:=fun k t e a m=>by
  obtain⟨_,_,r⟩:=s.slot k t e
  exact r.lt a m
 obtain⟨o1,o2,o3⟩:=s.own x hx t h3
 obtain⟨a,vs0,ts0,ts0',G0,l0,_⟩:=ZgN (Gn:=[]) ks rv o1 (by simp) h4
 obtain⟨X,a1⟩:=y c ρ σ H Φ ks v (.ref a) s h1 ev l0.follow
 obtain⟨vw,Y,Fw,b1,b2,b3,b4⟩:=z c ρ σ (H++X) Φ w (s.ext X) h2
 have s2:=(s.ext X).ext Y
 have rv2:RF (H++X++Y) v t (Φ x):=(rv.ext X).ext Y
 have hFw:∀a∈Fw,H.length≤a∨∃j∈N,(∃t,σ j=some t)∧a∈Φ j:=fun a m=>(b3 a m).back
 have dsj:∀a∈Fw,a∉Φ x:=fun a m q=>by
  rcases hFw a m with h | ⟨j,hj,⟨tj,ej⟩,mj⟩
  ·have:=hlow x t h3 a q;lia
  ·exact o3 j tj (hN j hj).2 ej a q mj
 obtain⟨a',vs,ts,ts',G,l,am,ea,hs,hf,gn,na,gs,go⟩:=ZgN (Gn:=Fw) ks rv2 o1 dsj h4
 have haa:a'=a:=by
  have f2:=Zie Y (Zie X l0.follow)
  rw[l.follow]at f2
  cases f2
  rfl
 subst haa
 unfold ZeB at hf
 split at hf
 ·rename_i hl
  cases hf
  obtain⟨F',r',n',sub'⟩:=go (vs++[vw]) (G++Fw) (hs.snoc b2) (by
   rw[List.nodup_append]
   exact⟨gn,b4 rfl,fun y hy z hz e=>dsj z hz (e▸gs y hy)⟩) (fun m=>(Zz8.mp m).elim na fun m=>dsj _ m am) (fun y m=>List.mem_append.mp m)
  obtain⟨st,com⟩:=ZpB (O':=O') (b:=H.length) s2 hx h3 ev s.len hlow hFw hN am r' n' sub' hO
  refine⟨ρ,(H++X++Y).set a' (vs++[vw]),Zx Φ x F',by simp,fun y hy hn=>?_,.inl ⟨rfl,?_,st,com⟩⟩
  ·have:a'≠y:=fun q=>hn ⟨x,hx,⟨t,h3⟩,q▸am⟩
   rw[Zy2 this,List.append_assoc,Zy0 hy]
  ·simp only[ZC,ZaD,a1,Zs0,b1,Zcf,ea]
   rw[if_pos ⟨Zoy s hx h3 am,by rw[hs.length];exact hl⟩]
   rfl
 ·first|exact Zx0 hf|cases hf
noncomputable def Zcd(put:T→TL→Option TL)(b:PS): TL→List T→Option (Option T×TL)
 | σ,[]=>some (none,σ)
 | σ,t::ts=>(put t σ).bind fun σ1=>(b σ1).bind fun r=>match r.1 with
  | some _=>some r
  | none=>Zcd put b r.2 ts
noncomputable def ZbR(g:PG)(put:T→TL→Option TL)(b:PS): PS:=fun σ=>(g σ).bind fun ts=>Zcd put b σ ts
theorem Zkz{J:List Nat}{put:V→Lc→Option Lc}{pput:T→TL→Option TL}{b:Sm}{qb:PS}(hj:PutOk O J put pput)(hJ:∀i∈J,i∉O)(hb:S O O R fr b qb){c:Ctx}{nx:Nx}{vs:List V}{G:List Nat}{H1:Hp}(hG:∀a∈G,a<H1.length)(hsrc:∀a∈G,c.H0.length≤a∨c.P a)(hnx:∀K:Hp,(∀a∈G,K[a]?=H1[a]?)→∀i,i≤vs.length→nx i K=some vs[i]?):
  ∀(rs:List T) (ws:List V) (i:Nat) (ρ:Lc) (σ:TL) (K:Hp) (Φ:Nat→List Nat) (Fr:List Nat) (r:Option T×TL),(∀j,vs[i+j]?=ws[j]?)→i+ws.length=vs.length→St c O ρ σ K Φ→H1.length≤K.length→(∀a∈G,K[a]?=H1[a]?)→(∀a∈G,¬Held O σ Φ a)→RFs K ws rs Fr→(∀a∈Fr,a∈G)→Zcd pput qb σ rs=some r →
   Aft c O O R fr σ K Φ (Za3 nx put b (rs.length+1) i ρ K) r
 | [],ws,i,ρ,σ,K,Φ,Fr,r,hat,hlen,s,hl,hk,hoff,rr,hfr,h=>by
  cases rr
  cases h
  have e:=hnx K hk i (by simp at hlen;lia)
  have e2:vs[i]?=none:=by have:=hat 0;simpa using this
  exact⟨ρ,K,Φ,Nat.le_refl _,fun _ _ _=>rfl,.inl ⟨rfl,by simp[Za3,e,e2],s,fun a m=>.inr m⟩⟩
 | t::rs,ws0,i,ρ,σ,K,Φ,Fr0,r,hat,hlen,s,hl,hk,hoff,rr,hfr,h=>by
  cases rr with
  | @cons v _ F1 ws _ F2 a b'=>
  simp only[List.length_cons]at hlen
  obtain⟨σ1,h1,h⟩:=Zz0.mp h
  obtain⟨r1,h2,h⟩:=Zz0.mp h
  have e:=hnx K hk i (by lia)
  have e2:vs[i]?=some v:=by have:=hat 0;simpa using this
  have hat':∀j,vs[i+1+j]?=ws[j]?:=fun j=>by have:=hat (j+1);rw[show i+1+j=i+(j+1)by lia,this];simp
  obtain⟨ρ1,Φ1,p1,s1,p3,p4⟩:=hj c ρ σ K Φ v t F1 σ1 s a (fun x m=>hsrc x (hfr x (Zz4 _ m))) (fun k hk t' e x m q=>hoff x (hfr x (Zz4 _ q)) ⟨k,hk,⟨t',e⟩,m⟩) h1
  have hh:∀x,Held O σ1 Φ1 x→Held O σ Φ x:=fun x ⟨k,hk,⟨t',e⟩,m⟩=>by
   obtain⟨q1,q2⟩:=p3 k fun q=>hJ k q hk
   exact⟨k,hk,⟨t',q1▸e⟩,q2▸m⟩
  obtain⟨ρ2,K2,Φ2,g1,g2,g3⟩:=hb c ρ1 σ1 K Φ1 r1 s1 h2
  have estep:Za3 nx put b ((t::rs).length+1) i ρ K=(b ρ1 K).bind fun q=>match q.1 with
    | some _=>some q
    | none=>Za3 nx put b (rs.length+1) (i+1) q.2.1 q.2.2:=by
   rw[List.length_cons]
   show(nx i K).bind _=_
   rw[e,e2]
   first | (simp only[Zs0,p1];done) | (simp only[Zs0,p1];rfl)
  rcases g3 with⟨k1,k2,k3,k4⟩ | ⟨t',v',F',k1,k2,k3⟩
  ·rw[k1]at h
   have hG2:∀a∈G,K2[a]?=K[a]?:=fun x m=>g2 x (by have:=hG x m;lia) fun q=>hoff x m (hh x q)
   have hoff2:∀a∈G,¬Held O r1.2 Φ2 a:=fun x m q=>by
    rcases k4 x q with q | q
    ·have:=hG x m;lia
    ·exact hoff x m (hh x q)
   have ih:=Zkz hj hJ hb hG hsrc hnx rs ws (i+1) ρ2 r1.2 K2 Φ2 F2 r hat' (by lia) k3 (by lia) (fun x m=>(hG2 x m).trans (hk x m)) hoff2 (b'.frame fun x m=>hG2 x (hfr x (Zz3 _ m))) (fun x m=>hfr x (Zz3 _ m)) h
   rw[estep,k2]
   simp only[Zs0]
   obtain⟨ρ3,K3,Φ3,l1,l2,l3⟩:=ih
   refine⟨ρ3,K3,Φ3,by lia,fun x hx hn=>?_,?_⟩
   ·rw[l2 x (by lia) fun q=>(k4 x q).elim (fun q=>by lia) fun q=>hn (hh x q),g2 x hx fun q=>hn (hh x q)]
   ·rcases l3 with⟨m1,m2,m3,m4⟩ | l
    ·refine .inl ⟨m1,m2,m3,fun x q=>?_⟩
     rcases m4 x q with q | q
     ·exact .inl (by lia)
     ·exact(k4 x q).imp id (hh x)
    ·exact .inr l
  ·rw[k1]at h
   cases h
   refine⟨ρ2,K2,Φ2,g1,fun x hx hn=>g2 x hx fun q=>hn (hh x q),.inr ⟨t',v',F',k1,?_,k3⟩⟩
   rw[estep,k2]
   rfl
theorem Zg6{J Ns:List Nat}{g:Src}{q:PG}{put:V→Lc→Option Lc}{pput:T→TL→Option TL}{b:Sm}{qb:PS}(hg:Gs O Ns g q)(hj:PutOk O J put pput)(hJ:∀i∈J,i∉O)(hN:∀i∈Ns,i∉O)(hb:S O O R fr b qb): S O O R fr (ZaL g put b) (ZbR q pput qb):=fun c ρ σ H Φ r s h=>by
 obtain⟨ts,h1,h⟩:=Zz0.mp h
 obtain⟨nx,X,vs,F,G,g1,g2,g3,g4,g5⟩:=hg c ρ σ H Φ ts s h1
 have:=Zkz hj hJ hb (H1:=H++X) (fun a m=>(g4 a m).1) (fun a m=>s.from_src (g4 a m).2) g5 ts vs 0 ρ σ (H++X) Φ F r (by simp) (by simp) (s.ext X) (Zz10 _) (fun _ _=>rfl) (fun a m ⟨k,hk,⟨t,e⟩,q⟩=>s.from_off hN (g4 a m).2 hk e q) g2 g3 h
 have eg:ZaL g put b ρ H=Za3 nx put b (ts.length+1) 0 ρ (H++X):=by simp only[ZaL,g1,Zs0]
 rw[eg]
 exact this.grow
noncomputable def ZpC(t:PB)(b:PS): Nat→PS
 | 0=>fun _=>none
 | n+1=>fun σ=>(t σ).bind fun p=>if p then(b σ).bind fun q=>(match q.1 with
   | some _=>some q
   | none=>ZpC t b n q.2)else some (none,σ)
end
noncomputable def Za0(n:Nat)(q:PS): List T→Option T:=fun ts=>if ts.length=n then(q fun i=>ts[i]?).map fun r=>r.1.getD .none else none
theorem RFs.slots{H:Hp}: ∀{vs:List V} {ts:List T} {F:List Nat},RFs H vs ts F→∃Φ:Nat→List Nat,∀i t,ts[i]?=some t→∃v,vs[i]?=some v∧RF H v t (Φ i)∧∀a∈Φ i,a∈F
 | _,_,_,.nil=>⟨fun _=>[],fun i t e=>by simp at e⟩
 | _,_,_,.cons (F:=F1) a b=>by
  obtain⟨Φ,h⟩:=b.slots
  refine⟨fun i=>match i with | 0=>F1 | i+1=>Φ i,fun i t e=>?_⟩
  cases i with
  | zero=>simp at e;subst e;exact⟨_,by simp,a,fun x m=>Zy7 _ m⟩
  | succ i=>
   simp at e
   obtain⟨v,h1,h2,h3⟩:=h i t e
   exact⟨v,by simpa using h1,h2,fun x m=>List.mem_append_right _ (h3 x m)⟩
theorem Zif{H H':Hp}(hl:H.length≤H'.length)(h:∀a,a<H.length→H'[a]?=H[a]?): H'=H++H'.drop H.length:=by
 conv=>lhs;rw[←List.take_append_drop H.length H']
 congr 1
 refine List.ext_getElem? fun i=>?_
 by_cases q:i<H.length
 ·rw[List.getElem?_take_of_lt q,h i q]
 ·rw[Zy8 (by simp;lia),Zy8 (by lia)]
theorem SimF.of{O':List Nat}{fr:Bool}{n:Nat}{g:Sm}{q:PS}(h:S [] O' [] fr g q): SimF fr (ZH n g) (Za0 n q):=fun H vs ts t F1 hp r e=>by
 unfold Za0 at e
 split at e
 ·rename_i hl
  obtain⟨r1,e1,e2⟩:=Zz1.mp e
  obtain⟨Φ,hΦ⟩:=r.slots
  have st:St ⟨H,[],fun a=>a∈F1⟩ [] (fun i=>vs[i]?) (fun i=>ts[i]?) H Φ:=
   ⟨(fun i t e=>by obtain⟨v,h1,h2,_⟩:=hΦ i t e;exact⟨v,h1,h2⟩),fun i t e a m=>(by obtain⟨v,h1,h2,h3⟩:=hΦ i t e;exact .inr (h3 a m)),(fun i hi=>nomatch hi),Nat.le_refl _,fun a _ _=>rfl,hp,by simp⟩
  obtain⟨ρ',H',Φ',h1,h2,h3⟩:=h _ _ _ _ _ _ st e1
  rcases h3 with⟨k1,k2,k3,k4⟩ | ⟨t',v',F',k1,k2,k3,k4,k5,k6⟩
  ·have eh:=Zif k3.len fun a ha=>k3.keep a ha (by simp)
   refine⟨.none,H'.drop H.length,[],?_,?_,by simp,by simp⟩
   ·have hv:vs.length=n:=r.length.trans hl
    simp only[ZH,hv,if_true,k2,Zs1,Option.getD_none]
    rw[←eh]
   ·rw[k1]at e2
    subst e2
    exact .none
  ·have eh:=Zif k4.len fun a ha=>k4.keep a ha (by simp)
   refine⟨v',H'.drop H.length,F',?_,?_,k5,fun hf=>⟨(k6 hf).1,fun a m=>((k6 hf).2 a m).elim id fun q=>by cases q⟩⟩
   ·have hv:vs.length=n:=r.length.trans hl
    simp only[ZH,hv,if_true,k2,Zs1,Option.getD_some]
    rw[←eh]
   ·rw[k1]at e2
    subst e2
    rw[←eh]
    exact k3
 ·first|exact Zx0 e|cases e
theorem Zm5{f:List V→Hp→Option (V×Hp)}{p:List T→Option T}{fr:Bool}(h:SimF fr f p)(ns:List Int)(e:p [.lst (ns.map T.int)]=some (.bool true)): ∃H',f [.ref 0] [ns.map V.int]=some (.bool true,H'):=by
 have intsAre:∀l:List Int,RFs [ns.map V.int] (l.map V.int) (l.map T.int) []:=fun l=>by
  induction l with
  | nil=>exact .nil
  | cons a l ih=>exact .cons (.int a) ih
 obtain⟨v,X,F,h1,h2,_⟩:=h [ns.map V.int] [.ref 0] [.lst (ns.map T.int)] _ _ (by simp) (.one (.ref rfl (intsAre ns))) e
 cases h2
 exact⟨_,h1⟩
end TM
end
section
namespace TM
open PySem PM
section
variable {O Ns Ne J:List Nat}
theorem ZiT{u:Bool}{g:Src}{q:PG}{put:V→Lc→Option Lc}{pput:T→TL→Option TL}{tc:Ts}{pc:PB}{f:Ex}{pf:PE}(hg:Gs O Ns g q)(hj:PutOk O J put pput)(hN:∀i∈Ns,i∉O)(hc:Bt O tc pc)(hf:E O Ne u f pf): E O (Ns++Ne) false (Zam g put tc f) (Zbz q pput pc pf):=
 E.comp hg hj hN hc hf.sh (by simp)
theorem Zgx{g:Src}{q:PG}{put:V→Lc→Option Lc}{pput:T→TL→Option TL}{tc:Ts}{pc:PB}{f:Ex}{pf:PE}(hg:Gs O Ns g q)(hj:PutOk O J put pput)(hN:∀i∈Ns,i∉O)(hc:Bt O tc pc)(hf:E O [] true f pf): E O [] true (Zam g put tc f) (Zbz q pput pc pf):=
 E.comp hg hj hN hc hf (by simp)
end
end TM
end
section
/-! Forward reckoning over trees. -/
namespace TM
open PySem PM
noncomputable def dec(P:Prop): Bool:=@decide P (Classical.propDecidable P)
theorem dec_iff{P:Prop}: dec P=true↔P:=by unfold dec;exact @decide_eq_true_iff P (Classical.propDecidable P)
theorem ZlN{P:Prop}(h:P): dec P=true:=dec_iff.mpr h
theorem ZjA{P:Prop}(h:¬P): dec P=false:=by
 cases e:dec P with
 | true=>exact absurd (dec_iff.mp e) h
 | false=>rfl
theorem Zjj{P:Prop}{b:Bool}(h:b=true↔P): dec P=b:=by
 cases b with
 | true=>exact ZlN (h.mp rfl)
 | false=>exact ZjA fun p=>by simpa using h.mpr p
noncomputable def tab{α:Type}(n:Nat)(f:Nat→α): List α:=(List.range n).map f
theorem ZaI{α:Type}{n:Nat}{f:Nat→α}: (tab n f).length=n:=by simp[tab]
theorem Zci{α:Type}{n:Nat}{f:Nat→α}{i:Nat}(h:i<n): (tab n f)[i]?=some (f i):=by simp[tab,h]
theorem ZpD{α:Type}{n:Nat}{f:Nat→α}{i:Nat}(h:n≤i): (tab n f)[i]?=none:=by simp[tab,h]
theorem ZnM{α:Type}{n:Nat}{f:Nat→α}: tab n f++[f n]=tab (n+1) f:=by simp[tab,List.range_succ]
theorem ZiU{α:Type}{n:Nat}{xs:List α}{f:Nat→α}(hl:xs.length=n)(h:∀i,i<n→xs[i]?=some (f i)): xs=tab n f:=by
 refine List.ext_getElem? fun i=>?_
 by_cases q:i<n
 ·rw[h i q,Zci q]
 ·rw[Zy8 (by lia),ZpD (by lia)]
theorem Zm6{α:Type}{n:Nat}{f g:Nat→α}(h:∀i,i<n→f i=g i): tab n f=tab n g:=by
 refine ZiU ZaI fun i hi=>?_
 rw[Zci hi,h i hi]
theorem Zoz{α:Type}{n k:Nat}{f:Nat→α}{v:α}: (tab n f).set k v=tab n fun i=>if i=k then v else f i:=by
 refine ZiU (by rw[List.length_set,ZaI]) fun i hi=>?_
 by_cases q:i=k
 ·subst q
  rw[Zy6 (by rw[ZaI];exact hi),if_pos rfl]
 ·rw[Zy2 (Ne.symm q),Zci hi,if_neg q]
theorem tab_map{α β:Type}{n:Nat}{f:Nat→α}{g:α→β}: (tab n f).map g=tab n fun i=>g (f i):=by simp[tab]
noncomputable def cn{α:Type}(a:α)(f:Nat→α): Nat→α
 | 0=>a
 | i+1=>f i
theorem ZoA{α β γ:Type}{n m:Nat}{f:Nat→α}{g:Nat→β}{h:α→β→γ}: List.zipWith h (tab n f) (tab m g)=tab (min n m) fun i=>h (f i) (g i):=by
 refine ZiU (by rw[List.length_zipWith,ZaI,ZaI]) fun i hi=>?_
 rw[List.getElem?_zipWith,Zci (show i<n by lia),Zci (show i<m by lia)]
noncomputable def Pk(c:Option T)(Q:T→Prop): Prop:=∃t,c=some t∧Q t
noncomputable def Pl(c:Option (List T))(Q:List T→Prop): Prop:=∃t,c=some t∧Q t
noncomputable def Pb(c:Option Bool)(Q:Bool→Prop): Prop:=∃t,c=some t∧Q t
noncomputable def Psk(c:Option (Option T×TL))(R:T→Prop)(N:TL→Prop): Prop:=∃o σ,c=some (o,σ)∧(∀t,o=some t→R t)∧(o=none→N σ)
theorem Pk.of{c:Option T}{Q:T→Prop}{t:T}(h:c=some t)(k:Q t): Pk c Q:=⟨t,h,k⟩
theorem Pk.eq{c:Option T}{t:T}(h:Pk c fun v=>v=t): c=some t:=by obtain⟨v,e,rfl⟩:=h;exact e
section
variable {σ:TL} {Q:T→Prop} {L:List T→Prop} {B:Bool→Prop} {R:T→Prop} {N:TL→Prop}
theorem ZpE{k:Int}(h:Q (.int k)): Pk (Zo k σ) Q:=⟨_,rfl,h⟩
theorem ZpF(h:Q .none): Pk (Zdg σ) Q:=⟨_,rfl,h⟩
theorem ZpG{k:Str}(h:Q (.str k)): Pk (ZaB k σ) Q:=⟨_,rfl,h⟩
theorem Zls{i:Nat}{t:T}(e:σ i=some t)(h:Q t): Pk (Zg i σ) Q:=⟨_,e,h⟩
theorem ZpH{q:T→T→Option T}{f g:PE}(h:Pk (f σ) fun x=>Pk (g σ) fun y=>Pk (q x y) Q): Pk (Zk q f g σ) Q:=by
 obtain⟨x,a,y,b,z,c,k⟩:=h
 exact⟨z,by simp only[Zk,a,b,Zs0,c],k⟩
theorem ZqH{q:T→Option T}{f:PE}(h:Pk (f σ) fun x=>Pk (q x) Q): Pk (pUn q f σ) Q:=by
 obtain⟨x,a,z,c,k⟩:=h
 exact⟨z,by simp only[pUn,a,Zs0,c],k⟩
theorem ZoB{q:List T→Option T}{f:PEs}(h:Pl (f σ) fun x=>Pk (q x) Q): Pk (ZV q f σ) Q:=by
 obtain⟨x,a,z,c,k⟩:=h
 exact⟨z,by simp only[ZV,a,Zs0,c],k⟩
theorem ZpI(h:L []): Pl (Zu σ) L:=⟨_,rfl,h⟩
theorem ZoC{f:PE}{g:PEs}(h:Pk (f σ) fun x=>Pl (g σ) fun xs=>L (x::xs)): Pl (Zj f g σ) L:=by
 obtain⟨x,a,y,b,k⟩:=h
 exact⟨_,by simp only[Zj,a,b,Zs0],k⟩
theorem ZpJ{g:PEs}(h:Pl (g σ) fun xs=>Q (.tup xs)): Pk (ZbA g σ) Q:=by
 obtain⟨x,a,k⟩:=h;exact⟨_,by simp only[ZbA,a,Zs1],k⟩
theorem ZoD{g:PEs}(h:Pl (g σ) fun xs=>Q (.lst xs)): Pk (Zbq g σ) Q:=by
 obtain⟨x,a,k⟩:=h;exact⟨_,by simp only[Zbq,a,Zs1],k⟩
theorem ZoE{f:PE}(h:Pk (f σ) fun t=>t.flat=true∧Q t): Pk (ZbW f σ) Q:=by
 obtain⟨x,a,b,k⟩:=h;exact⟨_,by simp only[ZbW,a,Zs0,b,if_true],k⟩
theorem ZqI{f:PE}(h:Pk (f σ) fun t=>t.flatIn=true∧Q t): Pk (pFl f σ) Q:=by
 obtain⟨x,a,b,k⟩:=h;exact⟨_,by simp only[pFl,a,Zs0,b,if_true],k⟩
theorem ZqJ{K:String}{f:PE}(h:Pk (f σ) fun x=>isObT x=false∧Q (.bool (Zgw K x))): Pk (pIs K f σ) Q:=by
 obtain⟨x,a,ob,q⟩:=h;exact⟨_,by simp[pIs,a,ob],q⟩
theorem ZpK{f:PE}(h:Pk (f σ) fun x=>Pb (Zej x) B): Pb (Z6 f σ) B:=by
 obtain⟨x,a,b,e,q⟩:=h;exact⟨_,by simp only[Z6,a,Zs0,e],q⟩
theorem ZoF{f:PB}(h:Pb (f σ) fun b=>B (!b)): Pb (Zdh f σ) B:=by
 obtain⟨x,a,q⟩:=h;exact⟨_,by simp only[Zdh,a,Zs1],q⟩
theorem ZoG(h:B true): Pb (Zbk σ) B:=⟨_,rfl,h⟩
theorem ZnN(h:B false): Pb (Zek σ) B:=⟨_,rfl,h⟩
theorem ZoH{f g:PB}(h:Pb (f σ) fun b=>(b=true→Pb (g σ) B)∧(b=false→B false)): Pb (Zcb f g σ) B:=by
 obtain⟨x,a,h1,h2⟩:=h
 cases x with
 | true=>obtain⟨t,c,q⟩:=h1 rfl;exact⟨t,by simp[Zcb,a,c],q⟩
 | false=>exact⟨_,by simp[Zcb,a],h2 rfl⟩
theorem ZpL{f g:PB}(h:Pb (f σ) fun b=>(b=true→B true)∧(b=false→Pb (g σ) B)): Pb (bOr f g σ) B:=by
 obtain⟨x,a,h1,h2⟩:=h
 cases x with
 | false=>obtain⟨t,c,q⟩:=h2 rfl;exact⟨t,by simp[bOr,a,c],q⟩
 | true=>exact⟨_,by simp[bOr,a],h1 rfl⟩
theorem ZmH{b:Bool}(h:B b): Pb (Zej (.bool b)) B:=⟨_,rfl,h⟩
theorem ZoI(h:N σ): Psk (Zai σ) R N:=⟨_,_,rfl,by simp,fun _=>h⟩
theorem ZpM{f:PE}(h:Pk (f σ) R): Psk (Zap f σ) R N:=by
 obtain⟨x,a,q⟩:=h;exact⟨some x,σ,by simp only[Zap,a,Zs1],fun t e=>by cases e;exact q,by simp⟩
theorem ZpN{i:Nat}{f:PE}(h:Pk (f σ) fun t=>N (ZI σ i t)): Psk (Zbi i f σ) R N:=by
 obtain⟨x,a,q⟩:=h;exact⟨none,ZI σ i x,by simp only[Zbi,a,Zs1],by simp,fun _=>q⟩
theorem ZpO{a b:PS}(h:Psk (a σ) R fun σ1=>Psk (b σ1) R N): Psk (ZD a b σ) R N:=by
 obtain⟨o,σ1,e,h1,h2⟩:=h
 cases o with
 | some t=>exact⟨some t,σ1,by simp only[ZD,e,Zs0],h1,by simp⟩
 | none=>
  obtain⟨o2,σ2,e2,k1,k2⟩:=h2 rfl
  exact⟨o2,σ2,by simp only[ZD,e,Zs0,e2],k1,k2⟩
theorem ZpP{b:PB}{f g:PS}(h:Pb (b σ) fun x=>(x=true→Psk (f σ) R N)∧(x=false→Psk (g σ) R N)): Psk (qIf b f g σ) R N:=by
 obtain⟨x,a,h1,h2⟩:=h
 cases x with
 | true=>obtain⟨o,s,c,q⟩:=h1 rfl;exact⟨o,s,by simp[qIf,a,c],q⟩
 | false=>obtain⟨o,s,c,q⟩:=h2 rfl;exact⟨o,s,by simp[qIf,a,c],q⟩
theorem ZpQ{n:Nat}{q:PS}{ts:List T}(hn:ts.length=n)(h:Psk (q fun i=>ts[i]?) Q fun _=>Q .none): Pk (Za0 n q ts) Q:=by
 obtain⟨o,s,e,h1,h2⟩:=h
 cases o with
 | some t=>exact⟨t,by simp only[Za0,hn,if_true,e,Zs1,Option.getD_some],h1 t rfl⟩
 | none=>exact⟨.none,by simp only[Za0,hn,if_true,e,Zs1,Option.getD_none],h2 rfl⟩
theorem ZpR{b:Bool}{A C:Prop}(h:b=true)(k:A): (b=true→A)∧(b=false→C):=⟨fun _=>k,fun e=>(by rw[h]at e;cases e)⟩
theorem ZpS{b:Bool}{A C:Prop}(h:b=false)(k:C): (b=true→A)∧(b=false→C):=⟨fun e=>(by rw[h]at e;cases e),fun _=>k⟩
theorem ZpT{a b:Int}(h:Q (.int (a+b))): Pk (Zag (.int a) (.int b)) Q:=⟨_,rfl,h⟩
theorem ZpU{a b:Int}(h:Q (.int (a-b))): Pk (ZbJ (.int a) (.int b)) Q:=⟨_,rfl,h⟩
theorem ZpV{a:Int}(h:Q (.int (-a))): Pk (ZeA (.int a)) Q:=⟨_,rfl,h⟩
theorem ZqK{a b:Int}(h:Q (.bool (decide (a<b)))): Pk (qLt (.int a) (.int b)) Q:=⟨_,rfl,h⟩
theorem ZqL{a b:Int}(h:Q (.bool (decide (b<a)))): Pk (qGt (.int a) (.int b)) Q:=⟨_,rfl,h⟩
theorem ZpW{a b:Int}(hb:b≠0)(h:Q (.int (a.fmod b))): Pk (Zax (.int a) (.int b)) Q:=⟨_,by simp only[Zax];rw[if_pos hb],h⟩
theorem Zlt{a b:Int}(hb:b≠0)(hd:Builtin.divisionGoesByPylong a b=false)(h:Q (.int (a.fdiv b))): Pk (ZbB (.int a) (.int b)) Q:=⟨_,by simp only[ZbB];rw[if_pos ⟨hb,hd⟩],h⟩
theorem Zjk{a b:Int}(hm:Zb8 a b=true)(h:Q (.int (a*b))): Pk (Zcm (.int a) (.int b)) Q:=⟨_,by simp only[Zcm];rw[if_pos hm],h⟩
theorem ZpX{a:Int}(h:Q (.int (if a<0 then -a else a))): Pk (ZdF [.int a]) Q:=⟨_,rfl,h⟩
theorem ZpY{a b:Int}(h:Q (.int (if b>a then b else a))): Pk (ZfA [.int a,.int b]) Q:=⟨_,rfl,h⟩
theorem ZpZ{a b:Int}(h:Q (.int (if b<a then b else a))): Pk (Zg4 [.int a,.int b]) Q:=⟨_,rfl,h⟩
theorem ZkV(a b:Int): Zcc (.int a) (.int b)=some (decide (a=b)):=by
 simp[Zcc,ZbC,SeqAt.shaped,PyData.canLay0,PyData.depth,PyData.eqv]
 by_cases h:a=b <;> simp[h]
theorem ZqM{a b:Int}(h:Q (.bool (decide (a=b)))): Pk (qEq (.int a) (.int b)) Q:=⟨_,by simp only[qEq,ZkV,Zs1],h⟩
theorem ZqN{a b:Int}(h:Q (.bool (decide (a≠b)))): Pk (qNe (.int a) (.int b)) Q:=⟨.bool (decide (a≠b)),by simp only[qNe,ZkV,Zs1];simp,h⟩
theorem eqB_bool(a b:Bool): Zcc (.bool a) (.bool b)=some (a == b):=by
 cases a <;> cases b <;> simp[Zcc,ZbC,SeqAt.shaped,PyData.canLay0,PyData.depth,PyData.eqv]
theorem Zp0{a b:Bool}(h:Q (.bool (!(a == b)))): Pk (qNe (.bool a) (.bool b)) Q:=⟨_,by simp only[qNe,eqB_bool,Zs1],h⟩
theorem Zp1(h:Q (.bool true)): Pk (qIs .none .none) Q:=⟨_,rfl,h⟩
theorem Zp2{a:Int}(h:Q (.bool false)): Pk (qIs (.int a) .none) Q:=⟨_,rfl,h⟩
theorem ZoJ{n:Nat}{f:Nat→T}(h:Q (.int n)): Pk (Zb0 [.lst (tab n f)]) Q:=⟨_,by simp only[Zb0,ZaI],h⟩
theorem Zp3{ts:List T}(h:Q (.int ts.length)): Pk (Zb0 [.lst ts]) Q:=⟨_,rfl,h⟩
theorem ZoK{ts:List T}(h:Q (.int ts.length)): Pk (Zb0 [.tup ts]) Q:=⟨_,rfl,h⟩
theorem Zg7{k:Int}{n:Nat}(h0:0≤k)(h1:k<n): seqIndex? k n=some k.toNat:=by
 unfold seqIndex?
 have:¬k<0:=by lia
 simp[this]
 lia
theorem ZoL{n i:Nat}{f:Nat→T}(hi:i<n)(h:Q (f i)): Pk (ZF (.lst (tab n f)) (.int (i:Nat))) Q:=⟨_,by
 simp only[ZF,ZaI,Zg7 (show(0:Int)≤(i:Int)by lia) (show(i:Int)<(n:Int)by lia),Zs0,Int.toNat_natCast]
 exact Zci hi,h⟩
theorem ZoM{n:Nat}{k:Int}{f:Nat→T}(h0:0≤k)(h1:k<n)(h:Q (f k.toNat)): Pk (ZF (.lst (tab n f)) (.int k)) Q:=⟨_,by
 simp only[ZF,ZaI,Zg7 h0 h1,Zs0]
 exact Zci (by lia),h⟩
theorem Zb4{ts:List T}{k:Int}{t:T}(h0:0≤k)(e:ts[k.toNat]?=some t)(h:Q t): Pk (ZF (.lst ts) (.int k)) Q:=⟨_,by
 simp only[ZF]
 rw[Zg7 h0 (by have:=(Zz6.mp e).1;lia)]
 exact e,h⟩
theorem ZoN{ts:List T}{k:Int}{t:T}(h0:0≤k)(e:ts[k.toNat]?=some t)(h:Q t): Pk (ZF (.tup ts) (.int k)) Q:=⟨_,by
 simp only[ZF]
 rw[Zg7 h0 (by have:=(Zz6.mp e).1;lia)]
 exact e,h⟩
theorem ZnO{ts:List T}(h:Q (.lst ts)): Pk (Zc4 [.lst ts]) Q:=⟨_,rfl,h⟩
theorem ZoO{ts:List T}(h:Q (.tup ts)): Pk (Ze8 [.lst ts]) Q:=⟨_,rfl,h⟩
theorem ZnP{n:Nat}{f:Nat→Int}: Zbr (tab n fun i=>.int (f i))=some (tab n f):=by
 have:∀l:List Int,Zbr (l.map T.int)=some l:=fun l=>by
  induction l with
  | nil=>rfl
  | cons a l ih=>simp only[List.map_cons,Zbr,ih,Zs1]
 rw[show(tab n fun i=>T.int (f i))=(tab n f).map T.int from tab_map.symm]
 exact this _
noncomputable def SqP(x:T)(L:List T→Prop): Prop:=∃ts,(x=.lst ts∨x=.tup ts)∧L ts
theorem ZoP{f:PE}(h:Pk (f σ) fun t=>SqP t L): Pl (Zb1 f σ) L:=by
 obtain⟨t,a,ts,rfl | rfl,q⟩:=h <;> exact⟨_,by simp only[Zb1,a,Zs0],q⟩
theorem Sq.lst{ts:List T}(h:L ts): SqP (.lst ts) L:=⟨ts,.inl rfl,h⟩
theorem Sq.tup{ts:List T}(h:L ts): SqP (.tup ts) L:=⟨ts,.inr rfl,h⟩
theorem Zlu{a b c:Int}{H:Hp}{z:Nx×Nat×Hp}(h:Zbw a b c H=some z): ZcB a b c=some ((List.range (rngN a b c)).map fun(i:Nat)=>.int (a+(i:Int)*c)):=by
 unfold Zbw at h
 split at h
 ·rename_i hc
  unfold ZcB
  rw[if_pos hc]
 ·first|exact Zx0 h|cases h
theorem ZnQ{n:Nat}(hn:n≤1000): ZcB 0 n 1=some (tab n fun i=>.int i):=by
 rw[Zlu (Zpt (H:=[]) (b:=n) (by lia) (by lia))]
 have e:rngN 0 n 1=n:=by
  unfold rngN Builtin.Range.rangeSize
  by_cases q:(0:Int)<n
  ·rw[if_pos (by decide),if_pos (by omega)];lia
  ·rw[if_pos (by decide),if_neg (by omega)];lia
 rw[e]
 simp[tab]
theorem ZoQ{a n:Nat}(ha:0<n)(hn:a+n≤1000): ZcB a (a+n) 1=some (tab n fun i=>.int (a+i)):=by
 rw[Zlu (Zpx (H:=[]) (a:=a) (b:=a+n) (c:=1) (by lia) (by lia) (by lia) (by lia) (by lia))]
 have e:rngN a (a+n) 1=n:=by
  unfold rngN
  rw[ZlL (by omega) (by omega)]
  lia
 rw[e]
 simp[tab]
theorem ZoR{g:PEs}{b:Int}{o:Option (List T)}(e:g σ=some [.int b])(h:ZcB 0 b 1=o): ZbG g σ=o:=by
 subst h;unfold ZbG;rw[e];rfl
theorem ZoS{g:PEs}{a b:Int}{o:Option (List T)}(e:g σ=some [.int a,.int b])(h:ZcB a b 1=o): ZbG g σ=o:=by
 subst h;unfold ZbG;rw[e];rfl
noncomputable def RnP(xs:List T)(L:List T→Prop): Prop:=(∃n:Nat,xs=[.int n]∧n≤1000∧L (tab n fun i=>.int i))∨∃(a:Nat) (n:Nat),xs=[.int a,.int (a+n)]∧0<n∧a+n≤1000∧L (tab n fun i=>.int (a+i))
theorem ZkA{g:PEs}(h:Pl (g σ) fun xs=>RnP xs L): Pl (ZbG g σ) L:=by
 obtain⟨xs,e,h⟩:=h
 rcases h with⟨n,h0,h1,q⟩ | ⟨a,n,h0,h1,h2,q⟩
 ·subst h0;exact⟨_,ZoR e (ZnQ h1),q⟩
 ·subst h0;exact⟨_,ZoS e (ZoQ h1 h2),q⟩
theorem Rn.one{n:Nat}(hn:n≤1000)(h:L (tab n fun i=>.int i)): RnP [.int n] L:=.inl ⟨n,rfl,hn,h⟩
noncomputable def ZiP(x y:T)(L:List T→Prop): Prop:=∃xs ys,x=.lst xs∧y=.lst ys∧L (List.zipWith (fun a b=>.tup [a,b]) xs ys)
theorem Zlv{f g:PE}(h:Pk (f σ) fun x=>Pk (g σ) fun y=>ZiP x y L): Pl (Zhh f g σ) L:=by
 obtain⟨x,a,y,b,xs,ys,rfl,rfl,q⟩:=h;exact⟨_,by simp only[Zhh,a,b,Zs0],q⟩
theorem Zi.eq{n:Nat}{f g:Nat→T}(h:L (tab n fun i=>.tup [f i,g i])): ZiP (.lst (tab n f)) (.lst (tab n g)) L:=⟨_,_,rfl,rfl,by rw[ZoA,Nat.min_self];exact h⟩
theorem Zis{j:Nat}{f:PE}{h:T→T}: ∀{ts:List T},(∀t∈ts,f (ZI σ j t)=some (h t))→Zdy (ZaG j) Zbk f σ ts=some (ts.map h)
 | [],_=>rfl
 | t::ts,k=>by
  simp only[Zdy,ZaG,Zbk,Zs0,if_true,k t Zz5,Zis fun t m=>k t (Zz2 _ m),Zs1,List.map_cons]
theorem ZiV{put:T→TL→Option TL}{f:PE}: ∀{ts us:List T},us.length=ts.length→(∀(i:Nat) t u,ts[i]?=some t→us[i]?=some u→∃σ1,put t σ=some σ1∧f σ1=some u)→Zdy put Zbk f σ ts=some us
 | [],us,hl,_=>by cases us with
  | nil=>rfl
  | cons _ _=>simp at hl
 | t::ts,us,hl,k=>by
  cases us with
  | nil=>simp at hl
  | cons u us=>
   obtain⟨σ1,h1,h2⟩:=k 0 t u (by simp) (by simp)
   have:=ZiV (ts:=ts) (us:=us) (f:=f) (put:=put) (by simpa using hl) fun i t' u' h3 h4=>k (i+1) t' u' (by simpa using h3) (by simpa using h4)
   simp only[Zdy,h1,Zbk,Zs0,if_true,h2,this,Zs1]
theorem ZoT{g:PG}{j n:Nat}{a b:Nat→T}{f:PE}(hn:n<10000)(hg:Pl (g σ) fun ts=>ts=tab n a)(hf:∀i,i<n→Pk (f (ZI σ j (a i))) fun t=>t=b i)(h:Q (.lst (tab n b))): Pk (Zbz g (ZaG j) Zbk f σ) Q:=by
 obtain⟨ts,e,rfl⟩:=hg
 refine⟨_,?_,h⟩
 simp only[Zbz,e,Zs0,ZaI]
 rw[if_pos (by rw[Zac];lia),ZiV (us:=tab n b) (by rw[ZaI,ZaI]) fun i t u h1 h2=>?_]
 ·rfl
 ·have hi:i<n:=by have:=(Zz6.mp h1).1;rwa [ZaI]at this
  rw[Zci hi]at h1 h2
  cases h1;cases h2
  exact⟨_,rfl,(hf i hi).eq⟩
theorem ZnR{g:PG}{j k n:Nat}{a b c:Nat→T}{f:PE}(hn:n<10000)(hg:Pl (g σ) fun ts=>ts=tab n fun i=>.tup [a i,b i])(hf:∀i,i<n→Pk (f (ZI (ZI σ j (a i)) k (b i))) fun t=>t=c i)(h:Q (.lst (tab n c))): Pk (Zbz g (Zg5 j k) Zbk f σ) Q:=by
 obtain⟨ts,e,rfl⟩:=hg
 refine⟨_,?_,h⟩
 simp only[Zbz,e,Zs0,ZaI]
 rw[if_pos (by rw[Zac];lia),ZiV (us:=tab n c) (by rw[ZaI,ZaI]) fun i t u h1 h2=>?_]
 ·rfl
 ·have hi:i<n:=by have:=(Zz6.mp h1).1;rwa [ZaI]at this
  rw[Zci hi]at h1 h2
  cases h1;cases h2
  exact⟨_,rfl,(hf i hi).eq⟩
theorem Zjl{put:T→TL→Option TL}{b:PS}: ∀{ts:List T} (P:Nat→TL→Prop) {σ:TL},P 0 σ→(∀(i:Nat) t σ,ts[i]?=some t→P i σ→∃σ1,put t σ=some σ1∧Psk (b σ1) R (P (i+1)))→(∀σ,P ts.length σ→N σ)→Psk (Zcd put b σ ts) R N
 | [],P,σ,h0,_,h2=>⟨_,_,rfl,by simp,fun _=>h2 _ h0⟩
 | t::ts,P,σ,h0,h1,h2=>by
  obtain⟨σ1,e1,o,σ2,e2,k1,k2⟩:=h1 0 t σ (by simp) h0
  cases o with
  | some v=>exact⟨some v,σ2,by simp only[Zcd,e1,Zs0,e2],k1,by simp⟩
  | none=>
   obtain⟨o3,σ3,e3,l1,l2⟩:=Zjl (ts:=ts) (fun i=>P (i+1)) (k2 rfl) (fun i t' σ' h3 h4=>h1 (i+1) t' σ' (by simpa using h3) h4) (fun σ' h=>h2 σ' (by simpa using h))
   exact⟨o3,σ3,by simp only[Zcd,e1,Zs0,e2,e3],l1,l2⟩
theorem Zp4{g:PG}{j n:Nat}{a:Nat→T}{b:PS}(hg:Pl (g σ) fun ts=>ts=tab n a)(P:Nat→TL→Prop)(h0:P 0 σ)(h1:∀i σ,i<n→P i σ→Psk (b (ZI σ j (a i))) R (P (i+1)))(h2:∀σ,P n σ→N σ): Psk (ZbR g (ZaG j) b σ) R N:=by
 obtain⟨ts,e,rfl⟩:=hg
 have:=Zjl (R:=R) (N:=N) (put:=ZaG j) (b:=b) (ts:=tab n a) P h0 (fun i t σ' h3 h4=>by
  have hi:i<n:=by have:=(Zz6.mp h3).1;rwa [ZaI]at this
  rw[Zci hi]at h3
  cases h3
  exact⟨_,rfl,h1 i σ' hi h4⟩) (by rw[ZaI];exact h2)
 obtain⟨o,s,e2,q⟩:=this
 exact⟨o,s,by simp only[ZbR,e,Zs0,e2],q⟩
theorem ZiW{g:PG}{j:Nat}{ts:List T}{b:PS}(hg:Pl (g σ) fun us=>us=ts)(P:Nat→TL→Prop)(h0:P 0 σ)(h1:∀(i:Nat) t σ,ts[i]?=some t→P i σ→Psk (b (ZI σ j t)) R (P (i+1)))(h2:∀σ,P ts.length σ→N σ): Psk (ZbR g (ZaG j) b σ) R N:=by
 obtain⟨us,e,rfl⟩:=hg
 obtain⟨o,s,e2,q⟩:=Zjl (R:=R) (N:=N) (put:=ZaG j) (b:=b) (ts:=us) P h0 (fun i t σ' h3 h4=>⟨_,rfl,h1 i t σ' h3 h4⟩) h2
 exact⟨o,s,by simp only[ZbR,e,Zs0,e2],q⟩
theorem ZkW{i j:Nat}{t:T}{o:Option T}(h:j≠i)(e:σ j=o): ZI σ i t j=o:=by simp[ZI,h,e]
theorem ZkB{j:Nat}{J:List Nat}{o:Option T}(h:j∉J)(e:σ j=o): Zb9 σ J j=o:=by simp[Zb9,h,e]
end
end TM
end
section
namespace TM
open PySem PM
inductive Pln: Nat→T→Prop where
 | none {n:Nat}:Pln n .none
 | int {n:Nat} {i:Int}:Pln n (.int i)
 | str {n:Nat} {x:Str}:PyData.strOk x=true→Pln n (.str x)
 | tup {n:Nat} {ts:List T}:(∀t∈ts,Pln n t)→Pln (n+1) (.tup ts)
 | lst {n:Nat} {ts:List T}:(∀t∈ts,Pln n t)→Pln (n+1) (.lst ts)
mutual
noncomputable def dd: T→PyData
 | .none=>.none
 | .bool b=>.bool b
 | .int i=>.int i
 | .str x=>.str x
 | .tup ts=>.tuple (dds ts)
 | .lst ts=>.list (dds ts)
 | .ob _ _=>.none
noncomputable def dds: List T→List PyData
 | []=>[]
 | t::ts=>dd t::dds ts
end
theorem Ze1{f:T→Option PyData}: ∀{ts:List T},(∀t∈ts,f t=some (dd t))→Zd4 f ts=some (dds ts)
 | [],_=>rfl
 | t::ts,h=>by simp only[Zd4,h t Zz5,Ze1 fun t m=>h t (Zz2 _ m),Zs0,dds]
theorem Ze9: ∀{ts:List T},(∀t∈ts,PyData.canLay0 (dd t)=true)→PyData.canLayAll0 (dds ts)=true
 | [],_=>rfl
 | t::ts,h=>by simp only[dds,PyData.canLayAll0,h t Zz5,Ze9 fun t m=>h t (Zz2 _ m),Bool.and_self]
theorem Zfa{n:Nat}: ∀{ts:List T},(∀t∈ts,PyData.depth (dd t)≤n)→PyData.depthAll (dds ts)≤n
 | [],_=>by simp[dds,PyData.depthAll]
 | t::ts,h=>by
  have h1:=h t Zz5
  have h2:=Zfa fun t m=>h t (Zz2 _ m)
  simp only[dds,PyData.depthAll]
  lia
theorem Pln.dat{n:Nat}{t:T}(h:Pln n t): ZbC n t=some (dd t)∧PyData.canLay0 (dd t)=true∧PyData.depth (dd t)≤n:=by
 induction h with
 | @none n=>cases n <;> exact⟨rfl,rfl,by simp[dd,PyData.depth]⟩
 | @int n i=>cases n <;> exact⟨rfl,rfl,by simp[dd,PyData.depth]⟩
 | @str n x h=>cases n <;> exact⟨rfl,by simpa [dd,PyData.canLay0]using h,by simp[dd,PyData.depth]⟩
 | @tup n ts _ ih=>
  refine⟨?_,?_,?_⟩
  ·simp only[ZbC,Ze1 fun t m=>(ih t m).1,Zs1,dd]
  ·simp only[dd,PyData.canLay0];exact Ze9 fun t m=>(ih t m).2.1
  ·simp only[dd,PyData.depth]
   have:=Zfa fun t m=>(ih t m).2.2
   lia
 | @lst n ts _ ih=>
  refine⟨?_,?_,?_⟩
  ·simp only[ZbC,Ze1 fun t m=>(ih t m).1,Zs1,dd]
  ·simp only[dd,PyData.canLay0];exact Ze9 fun t m=>(ih t m).2.1
  ·simp only[dd,PyData.depth]
   have:=Zfa fun t m=>(ih t m).2.2
   omega
theorem ZiX: ∀{ts us:List T},(∀t∈ts,∀u∈us,(PyData.eqv (dd t) (dd u)=true↔t=u))→(PyData.eqvAll (dds ts) (dds us)=true↔ts=us)
 | [],[],_=>by simp[dds,PyData.eqvAll]
 | [],_::_,_=>by simp[dds,PyData.eqvAll]
 | _::_,[],_=>by simp[dds,PyData.eqvAll]
 | t::ts,u::us,h=>by
  simp only[dds,PyData.eqvAll,Bool.and_eq_true,h t Zz5 u Zz5,ZiX fun t m u n=>h t (Zz2 _ m) u (Zz2 _ n),List.cons.injEq]
theorem Pln.eqv{n:Nat}{t:T}(h:Pln n t): ∀{m:Nat} {u:T},Pln m u→(PyData.eqv (dd t) (dd u)=true↔t=u):=by
 induction h with
 | none=>intro m u h;cases h <;> simp[dd,PyData.eqv]
 | int=>intro m u h;cases h <;> simp[dd,PyData.eqv]
 | str _=>intro m u h;cases h <;> simp[dd,PyData.eqv]
 | tup hs ih=>
  intro m u h
  cases h with
  | tup hu=>simp only[dd,PyData.eqv,T.tup.injEq];exact ZiX fun t a u b=>ih t a (hu u b)
  | none=>simp[dd,PyData.eqv]
  | int=>simp[dd,PyData.eqv]
  | str=>simp[dd,PyData.eqv]
  | lst=>simp[dd,PyData.eqv]
 | lst hs ih=>
  intro m u h
  cases h with
  | lst hu=>simp only[dd,PyData.eqv,T.lst.injEq];exact ZiX fun t a u b=>ih t a (hu u b)
  | none=>simp[dd,PyData.eqv]
  | int=>simp[dd,PyData.eqv]
  | str=>simp[dd,PyData.eqv]
  | tup=>simp[dd,PyData.eqv]
theorem Pln.mono{n:Nat}{t:T}(h:Pln n t): ∀{m:Nat},n≤m→Pln m t:=by
 induction h with
 | none=>intro m _;exact .none
 | int=>intro m _;exact .int
 | str h=>intro m _;exact .str h
 | tup hs ih=>
  intro m hm
  cases m with
  | zero=>lia
  | succ m=>exact .tup fun t a=>ih t a (by lia)
 | lst hs ih=>
  intro m hm
  cases m with
  | zero=>omega
  | succ m=>exact .lst fun t a=>ih t a (by omega)
theorem ZoU{n m:Nat}{a b:T}(ha:Pln n a)(hb:Pln m b)(hn:n≤40:=by decide)(hm:m≤40:=by decide): Zcc a b=some (dec (a=b)):=by
 have ha:=ha.mono hn
 have hb:=hb.mono hm
 obtain⟨a1,a2,a3⟩:=ha.dat
 obtain⟨b1,b2,b3⟩:=hb.dat
 unfold Zcc Zbg
 rw[a1,b1]
 simp only[Zs0]
 rw[if_pos ⟨by simp only[SeqAt.shaped,a2,Bool.true_and,decide_eq_true_eq];lia,by simp only[SeqAt.shaped,b2,Bool.true_and,decide_eq_true_eq];lia⟩,Zjj (ha.eqv hb)]
section
variable {Q:T→Prop}
theorem Zlw{n m:Nat}{a b:T}(ha:Pln n a)(hb:Pln m b)(h:Q (.bool (dec (a=b))))(hn:n≤40:=by decide)(hm:m≤40:=by decide): Pk (qEq a b) Q:=⟨_,by simp only[qEq,ZoU ha hb hn hm,Zs1],h⟩
end
theorem ZoV{α:Type}{n:Nat}{f:Nat→α}{x:α}(h:x∈tab n f): ∃i,i<n∧x=f i:=by
 obtain⟨i,hi,e⟩:=Zz11.mp h
 exact⟨i,List.mem_range.mp hi,e.symm⟩
theorem Zm7{n:Nat}{f:Nat→T}(h:∀i,i<n→(f i).flat=true): T.flats (tab n f)=true:=by
 have key:∀l:List T,(∀t∈l,t.flat=true)→T.flats l=true:=fun l=>by
  induction l with
  | nil=>intro _;rfl
  | cons t l ih=>intro h;simp only[T.flats,h t Zz5,ih fun t m=>h t (Zz2 _ m),Bool.and_self]
 exact key _ fun t m=>by obtain⟨i,hi,rfl⟩:=ZoV m;exact h i hi
theorem Zig{n:Nat}{f:Nat→T}(h:∀i,i<n→(f i).flat=true): T.flatIn (.lst (tab n f))=true:=Zm7 h
noncomputable def oT: Option Int→T
 | none=>.none
 | some x=>.int x
noncomputable def Z1(n:Nat)(x:Nat→Int): T:=.lst (tab n fun i=>.int (x i))
noncomputable def rowT(n:Nat)(b:Nat→Option Int): T:=.lst (tab n fun j=>oT (b j))
theorem Zgy: oT none=.none:=rfl
theorem Zfb{c:Int}: oT (some c)=.int c:=rfl
theorem Zit{σ:TL}{i:Nat}{t:T}: ZI σ i t i=some t:=by simp[ZI]
end TM
end
section
namespace PM
open PySem PySem.W PySem.Calls PyProof.Rows PyProof PyProof.Rows.LCg PyProof.Rows.LCp
noncomputable def sNo: Sm:=fun _ _=>none
noncomputable def inD(d:PyData): PyData→Option Bool
 | .list xs=>if PyData.canLayAll0 xs=true∧d.canLay0=true∧d.depth≤64 then some (xs.any fun y=>PyData.eqv y d)else none
 | .tuple xs=>if PyData.canLayAll0 xs=true∧d.canLay0=true∧d.depth≤64 then some (xs.any fun y=>PyData.eqv y d)else none
 | _=>none
noncomputable def ZjM(a b:V)(H:Hp): Option Bool:=(toD H Zbg a).bind fun d=>(toD H Zbg b).bind fun e=>inD d e
noncomputable def oIn(a b:V)(H:Hp): Option (V×Hp):=(ZjM a b H).map fun c=>(.bool c,H)
section
variable {prog:Program} {w:World} {Γ:Cx}
theorem S1.no{st:Stmt}: S1 prog w Γ st sNo:=fun W ρ H fr s Q E r rp hf post=>by cases hf
theorem ZqO: Op2 prog w (compareOp .In) oIn:=by
 intro Γ W ρ H fr s Q E a b x y v H' r hx hy ho post
 obtain⟨c,e1,e2⟩:=Zz1.mp ho
 cases e2
 obtain⟨d,h1,e1⟩:=Zz0.mp e1
 obtain⟨e,h2,e1⟩:=Zz0.mp e1
 obtain⟨as,R1⟩:=Zed r Zbg a x d hx h1
 obtain⟨bs,R2⟩:=Zed r Zbg b y e hy h2
 have hu:=Γ.hu
 unfold inD at e1
 split at e1
 ·split at e1
  ·rename_i hs
   cases e1
   exact SeqAt.in_list_reads R2 R1 hs.1 hs.2.1 (by lia) (post W s.heap s.toks _ (.refl W) r (.bool _))
  ·first|exact Zx0 e1|cases e1
 ·split at e1
  ·rename_i hs
   cases e1
   exact SeqAt.in_tuple_reads R2 R1 hs.1 hs.2.1 (by omega) (post W s.heap s.toks _ (.refl W) r (.bool _))
  ·first|exact Zx0 e1|cases e1
 ·first|exact Zx0 e1|cases e1
end
end PM
end
section
namespace TM
open PySem PM
noncomputable def ZfN(a b:T): Option Bool:=(ZbC Zbg a).bind fun d=>(ZbC Zbg b).bind fun e=>inD d e
noncomputable def qIn(a b:T): Option T:=(ZfN a b).map .bool
theorem Zp5{H:Hp}{v1 v2:V}{t1 t2:T}{F1 F2:List Nat}(r1:RF H v1 t1 F1)(r2:RF H v2 t2 F2): ZjM v1 v2 H=ZfN t1 t2:=by
 simp only[ZjM,ZfN,ZgO Zbg _ _ _ r1,ZgO Zbg _ _ _ r2]
theorem ZqV: OA2 oIn qIn:=fun H v1 v2 t1 t2 t F1 F2 r1 r2 h=>by
 obtain⟨c,h1,h⟩:=Zz1.mp h
 subst h
 exact⟨_,by simp only[oIn,Zp5 r1 r2,h1,Zs1],.bool _⟩
theorem Zlx{d:T}: ∀{ts:List T},(∀t∈ts,(PyData.eqv (dd t) (dd d)=true↔t=d))→((dds ts).any fun y=>PyData.eqv y (dd d))=dec (d∈ts)
 | [],_=>by simp[dds,ZjA]
 | t::ts,h=>by
  have ih:=Zlx (d:=d) (ts:=ts) fun t m=>h t (Zz2 _ m)
  simp only[dds,List.any_cons,ih]
  symm
  apply Zjj
  rw[Bool.or_eq_true,h t Zz5,dec_iff]
  simp[eq_comm]
section
variable {Q:T→Prop}
end
section
variable {σ:TL} {L:List T→Prop}
end
end TM
end
section
namespace TM
open PySem PM
section
variable {O N M K:List Nat} {u u' u'':Bool}
noncomputable def OIn(o:List V→Hp→Option (V×Hp))(q:List T→Option T): Prop:=∀(H:Hp) (vs:List V) (ts:List T) (t:T) (F1:List Nat),RFs H vs ts F1→q ts=some t→∃v F,o vs H=some (v,H)∧RF H v t F∧F.Sublist F1
theorem ZkX{n:Nat}{es:Z7}{ps:PEs}{q:List T→Option T}{o:List V→Hp→Option (V×Hp)}(k:OIn o q)(x:Es O N u n es ps): E O N u (Zh o es) (ZV q ps):=fun c ρ σ H Φ t s h=>by
 obtain⟨ts,h1,h⟩:=Zz0.mp h
 obtain⟨_,vs,X,F,a1,a2,a3,a4⟩:=x c ρ σ H Φ ts s h1
 obtain⟨w,G,b1,b2,b3⟩:=k _ vs ts t F a2 h
 exact⟨w,X,G,by simp only[Zh,a1,Zs0,b1],b2,fun a m=>a3 a (b3.subset m),fun hu=>(a4 hu).sublist b3⟩
theorem ZkC: OIn ZdT Ze8:=fun H vs ts t F r h=>by
 unfold Ze8 at h
 split at h
 ·obtain⟨v,rfl,r'⟩:=r.one_inv
  cases r' with
  | @ref a vs1 _ F1 e hs=>cases h;exact⟨.tup vs1,F1,by simp only[ZdT,e,Zs1],.tup hs,List.sublist_cons_self _ _⟩
 ·obtain⟨v,rfl,r'⟩:=r.one_inv
  cases r' with
  | @tup vs1 _ _ hs=>cases h;exact⟨.tup vs1,_,by simp only[ZdT],.tup hs,List.Sublist.refl _⟩
 ·first|exact Zx0 h|cases h
end
section
variable {σ:TL} {Q:T→Prop} {B:Bool→Prop} {R:T→Prop} {N:TL→Prop}
end
end TM
end
section
namespace TM
open PySem PM
theorem SimF.zero{fr:Bool}: SimF fr (fun _ _=>none) (fun _=>none):=by
 intro H vs ts t F1 hp r h
 cases h
end TM
end
section
namespace TM
open PySem PM
noncomputable def Keep0(g:Sm): Prop:=∀ρ H r,g ρ H=some r→r.2.1 0=ρ 0
theorem Keep0.ret{e:Ex}: Keep0 (Zy e):=fun ρ H r h=>by
 obtain⟨_,_,q⟩:=Zz1.mp h
 subst q;rfl
section
variable {O O' R N:List Nat} {fr u:Bool}
end
section
variable {σ:TL} {R:T→Prop} {N:TL→Prop}
end
end TM
end
section
/-! Objects of the text's own classes: fields by their places. -/
namespace PM
open PySem PySem.W PySem.Calls PyProof.Rows PyProof
theorem FE.len{fs:List Str}{xs:List Value}{es:List DictEntry}(h:FE fs xs es): es.length=xs.length∧xs.length≤fs.length:=by
 induction h with
 | nil=>exact⟨rfl,Nat.zero_le _⟩
 | cons _ ih=>exact⟨by simp[ih.1],by simp[ih.2]⟩
theorem FE.noRef{fs:List Str}{xs:List Value}{es:List DictEntry}(h:FE fs xs es): es.any (·.refKey)=false:=by
 induction h with
 | nil=>rfl
 | cons _ ih=>simp only[List.any_cons,ih,Bool.or_false];rfl
theorem FE.find{fs:List Str}{xs:List Value}{es:List DictEntry}{f:Str}(h:FE fs xs es)(nf:f∉fs): es.find? (·.key.isStr f)=none:=by
 induction h with
 | nil=>rfl
 | @cons g fs x xs hs t es _ ih=>
  have n1:g≠f:=fun e=>nf (e▸List.mem_cons_self)
  have:(Value.str g t).isStr f=false:=by simp[Value.isStr,n1]
  rw[List.find?_cons]
  simp only[this]
  exact ih fun m=>nf (Zz2 _ m)
theorem FE.no{fs:List Str}{xs:List Value}{es:List DictEntry}{f:Str}(h:FE fs xs es)(nf:f∉fs): getL f es=some none:=by
 unfold getL
 rw[h.find nf,h.noRef]
 rfl
theorem FE.get{fs:List Str}{xs:List Value}{es:List DictEntry}{f:Str}{x:Value}{j:Nat}(h:FE fs xs es)(nd:fs.Nodup)(hf:fs[j]?=some f)(hx:xs[j]?=some x): getL f es=some (some x):=by
 have key:∃e,es.find? (·.key.isStr f)=some e∧e.val=x:=by
  induction h generalizing j with
  | nil=>simp at hx
  | @cons g fs x' xs hs t es _ ih=>
   cases j with
   | zero=>
    simp at hf hx
    subst hf
    subst hx
    refine⟨⟨hs,.str g t,x'⟩,?_,rfl⟩
    rw[List.find?_cons]
    simp[Value.isStr]
   | succ j=>
    simp at hf hx
    have n1:g≠f:=fun e=>(List.nodup_cons.mp nd).1 (e▸Zy4 hf)
    have:(Value.str g t).isStr f=false:=by simp[Value.isStr,n1]
    rw[List.find?_cons]
    simp only[this]
    exact ih (List.nodup_cons.mp nd).2 hf hx
 obtain⟨e,h1,h2⟩:=key
 unfold getL
 rw[h1]
 simp[h2]
theorem FE.isS{fs:List Str}{xs:List Value}{es:List DictEntry}(h:FE fs xs es)(f:Str): (getL f es).isSome=true:=by
 unfold getL
 split
 ·rfl
 ·rw[h.noRef];rfl
theorem FE.put{fs:List Str}{xs:List Value}{es:List DictEntry}{f:Str}{v:Value}{j:Nat}{hs:Int}{t:Tok}(h:FE fs xs es)(nd:fs.Nodup)(hf:fs[j]?=some f)(hj:j<xs.length): FE fs (xs.set j v) (putL f hs (.str f t) v es):=by
 induction h generalizing j with
 | nil=>simp at hj
 | @cons g fs x xs hs' t' es h' ih=>
  cases j with
  | zero=>
   simp at hf
   subst hf
   have:(Value.str g t').isStr g=true:=by simp[Value.isStr]
   simp only[List.set_cons_zero,putL,this,if_true]
   exact .cons h'
  | succ j=>
   simp at hf hj
   have n1:g≠f:=fun e=>(List.nodup_cons.mp nd).1 (e▸Zy4 hf)
   have:(Value.str g t').isStr f=false:=by simp[Value.isStr,n1]
   simp only[List.set_cons_succ,putL,this,Bool.false_eq_true,if_false]
   exact .cons (ih (List.nodup_cons.mp nd).2 hf hj)
theorem FE.app{fs:List Str}{xs:List Value}{es:List DictEntry}{f:Str}{v:Value}{hs:Int}{t:Tok}(h:FE fs xs es)(nd:fs.Nodup)(hf:fs[xs.length]?=some f): FE fs (xs++[v]) (putL f hs (.str f t) v es):=by
 induction h with
 | @nil fs=>
  cases fs with
  | nil=>simp at hf
  | cons g fs=>simp at hf;subst hf;exact .cons .nil
 | @cons g fs x xs hs' t' es h' ih=>
  simp at hf
  have n1:g≠f:=fun e=>(List.nodup_cons.mp nd).1 (e▸Zy4 hf)
  have:(Value.str g t').isStr f=false:=by simp[Value.isStr,n1]
  simp only[List.cons_append,putL,this,Bool.false_eq_true,if_false]
  exact .cons (ih (List.nodup_cons.mp nd).2 hf)
noncomputable def Z9(c:Nat×List Str)(j:Nat): V→Hp→Option (V×Hp)
 | .obj c' a,H=>if c'=c then H[a]?.bind fun vs=>vs[j]?.map fun w=>(w,H)else none
 | _,_=>none
noncomputable def ZaS(c:Nat×List Str)(j:Nat): V→V→Hp→Option Hp
 | .obj c' a,w,H=>if c'=c∧a≠0 then H[a]?.bind fun vs=>if j<vs.length then some (H.set a (vs.set j w))else if j=vs.length∧j<c.2.length then some (H.set a (vs++[w]))else none else none
 | _,_,_=>none
noncomputable def ZaC(c:Nat×List Str)(j:Nat)(f o:Ex): Sm:=fun ρ H=>(f ρ H).bind fun p=>(o ρ p.2).bind fun q=>(ZaS c j q.1 p.1 q.2).map fun K=>(none,ρ,K)
noncomputable def Zbb(c:Nat×List Str): V→Bool
 | .obj c' _=>c' == c
 | _=>false
noncomputable def Z5(c:Nat×List Str)(F:List V→Hp→Option (V×Hp))(f:Ex)(g:Z7): Ex:=fun ρ H=>(f ρ H).bind fun p=>if Zbb c p.1 then(g ρ p.2).bind fun q=>F (p.1::q.1) q.2 else none
noncomputable def ZcO(c:Nat×List Str)(F:List V→Hp→Option (V×Hp))(g:Z7): Ex:=fun ρ H=>(g ρ H).bind fun p=>(F (.obj c p.2.length::p.1) (p.2++[[]])).bind fun q=>match q.1 with
 | .none=>some (.obj c p.2.length,q.2)
 | _=>none
theorem Rep.objAt{Γ:Cx}{W:Wd}{ρ:Lc}{H:Hp}{fr:List (Addr×Obj)}{h:Heap}{c:Nat×List Str}{i:Nat}{x:Value}{vs:List V}(r:Rep Γ W ρ H fr h)(hx:VR W (.obj c i) x)(e:H[i]?=some vs):
  ∃xa dx es n xs,x=.ref xa∧InstAt h xa ⟨.ref c.1,some dx,.plain,#[]⟩ c.1 (some (dictOf es n))∧FE c.2 xs es∧VRs W vs xs∧vs.length≤c.2.length:=by
 obtain⟨m,cc,led,r⟩:=r
 cases hx with
 | @obj _ _ a xa ox h1 h2 h3 h4=>
  obtain⟨hl,a',od,xs,g1,g2,⟨es,n,eo,fe⟩,g4⟩:=r.R.objs i vs c.2 e h2
  rw[h1]at g1
  cases g1
  subst eo
  have e1:ox=_:=h4
  subst e1
  exact⟨xa,a,es,n,xs,rfl,⟨r.get (r.R.tups _ h3),rfl,rfl,r.get g2⟩,fe,g4,hl⟩
section
variable {prog:Program} {w:World} {Γ:Cx} {K:Frag}
theorem Za2{o:Expr}{name:Str}{pos:Pos}{f:Ex}{c:Nat×List Str}{j:Nat}{attr:Option Value}(X:K.In Γ.h₀)(ho:J prog w Γ o f)(hj:c.2[j]?=some name)(nd:c.2.Nodup)(hg:plainGet K c.1 name=true)(hh:hasDictIn K c.1=true)(ha:findIn K (.ref c.1) name=some attr)(hn:noGet K attr=true)
  (he:eval (.Attribute o name pos) Γ.env=(do
   let ov ←eval o Γ.env
   standAt pos.atName
   let r ←holding [ov] (getAttr ov name true)
   letTemporaryGo o ov r
   pure r):=by with_unfolding_all rfl):J prog w Γ (.Attribute o name pos) (ZM (Z9 c j) f):=by
 intro W ρ H fr s Q E v H' r hf post
 obtain⟨⟨v0,H1⟩,e1,hf1⟩:=Zz0.mp hf
 clear hf
 refine Attribute_any_ (ho W ρ H fr s _ E _ _ r e1 fun W1 k1 t1 x l1 r1 x1=>?_) he
 cases v0 with
 | none=>first|exact Zx0 hf1|cases hf1
 | bool=>first|exact Zx0 hf1|cases hf1
 | int=>first|exact Zx0 hf1|cases hf1
 | str=>first|exact Zx0 hf1|cases hf1
 | tup=>first|exact Zx0 hf1|cases hf1
 | ref=>first|exact Zx0 hf1|cases hf1
 | obj c' i=>
  simp only[Z9]at hf1
  split at hf1
  ·rename_i ec
   subst ec
   obtain⟨vs,h1,hf2⟩:=Zz0.mp hf1
   obtain⟨w',h2,hf3⟩:=Zz1.mp hf2
   cases hf3
   obtain⟨xa,dx,es,n,xs,rfl,I,fe,hv,_⟩:=r1.objAt x1 h1
   obtain⟨y,hy,ry⟩:=hv.at h2
   obtain⟨m,cc,led,r1'⟩:=r1
   refine get_own (s:={ s with heap:=k1,toks:=t1 }) r1'.F X I hg hh ha hn (fe.get nd hj hy) (by cases ry <;> rfl) ?_
   exact post W1 k1 (t1+1) y l1 ⟨m,cc,led,r1'⟩ ry
  ·first|exact Zx0 hf1|cases hf1
theorem ZjS{A:Around}{E:Value→Shared→Prop}{s:Shared}{env:Env}{o:Expr}{name:Str}{apos pos:Pos}{args:List Expr}{Q:Value→Shared→Prop}
  (hbase:attributeBase o name env (eval o env)=eval o env)
  (hfew:((backTo pos (starEach args env)).all (fun x=>!x.1) && (backToKw pos (keywordEach [] env)).all (fun x=>x.1.isSome)
   && decide (args.length+([]:List Keyword).length+(if([]:List Keyword).isEmpty then 0 else 1)<30))=true)
  (hline:(apos.endLine == pos.line)=true)
  (h:wpAny (model prog w) A (eval o env) (fun ov s₁=>∀pl,wpAny (model prog w) A (getMethod ov name pl) (fun r s₂=>wpAny (model prog w) A (callWith pos r.1 r.2 (backTo pos (starEach args env)) []) Q E s₂) E s₁) E s):
  wpAny (model prog w) A (eval (.Call (.Attribute o name apos) args [] pos) env) Q E s:=by
 rw[arm_eval_Call,hbase]
 refine wpAny_bind (wpAny_mono h (fun ov s₁ h₁=>?_) fun _ _ e=>e)
 refine wpAny_bind (wpAny_standAt ?_)
 have hform:methodCallForm (args.length+([]:List Keyword).length) (backTo pos (starEach args env)) (backToKw pos (keywordEach [] env))=true:=hfew
 have hpos:methodCallPos true o env apos pos=pure pos:=by unfold methodCallPos;simp[hline]
 unfold methodCall
 rw[hform]
 refine wpAny_bind (wpAny_holding (wpAny_mono (h₁ _) (fun r s₂ h₂=>?_) fun _ _ e=>e))
 exact wpAny_bind (wpAny_of_eq hpos h₂)
end
section
variable {prog:Program} {w:World} {K:Frag} {p:Program} {loose:List Str} {mean:ExcName→Option Value} {mg mb:Str→Option Value} {Γ:Cx} {dp un:Nat}
theorem Clr.keep(clr:Clr K p loose mean mg mb Γ dp un): K.In Γ.h₀:=by
 obtain⟨_,_,_,_,_,_,_,_,_,_,_,X,_⟩:=clr
 exact X
theorem Zbj{o:Expr}{name:Str}{apos pos:Pos}{e:Expr}{es:List Expr}{f:Ex}{g:Z7}{c:Nat×List Str}{fa:Addr}{room:Nat}{F:List V→Hp→Option (V×Hp)}(clr:Clr K p loose mean mg mb Γ dp un)(ho:J prog w Γ o f)(hm:findIn K (.ref c.1) name=some (some (.ref fa)))(ht:isFn K (.ref fa)=true)(hg:plainGet K c.1 name=true)(nf:name∉c.2)(hkeep:keepIn K (.ref fa)=true)(D:Def prog w K p loose mean mg mb fa room F)(hd:dp+room<recursionLimit)(hu:un+10*room+300<cLine)
  (h:Js prog w Γ (e::es) g) (hbase:attributeBase o name Γ.env (eval o Γ.env)=eval o Γ.env:=by rfl)
  (hfew:((backTo pos (starEach (e::es) Γ.env)).all (fun x=>!x.1) && (backToKw pos (keywordEach [] Γ.env)).all (fun x=>x.1.isSome)
   && decide ((e::es).length+([]:List Keyword).length+(if([]:List Keyword).isEmpty then 0 else 1)<30))=true:=by rfl)
  (hline:(apos.endLine == pos.line)=true:=by rfl) (he:starEach (e::es) Γ.env=(false,eval e Γ.env)::starEach es Γ.env:=by rfl) (hp:∀pos,(backTo pos (starEach es Γ.env)).any (·.1)=false:=by intro _;rfl):J prog w Γ (.Call (.Attribute o name apos) (e::es) [] pos) (Z5 c F f g):=by
 intro W ρ H fr s Q E v H' r hf post
 obtain⟨⟨v0,H1⟩,e1,hf1⟩:=Zz0.mp hf
 clear hf
 simp only at hf1
 split at hf1
 case isFalse=>first|exact Zx0 hf1|cases hf1
 rename_i hcl
 obtain⟨q,e2,hf2⟩:=Zz0.mp hf1
 clear hf1
 refine ZjS hbase hfew hline (ho W ρ H fr s _ E _ _ r e1 fun W1 k1 t1 x l1 r1 x1 pl=>?_)
 cases v0 with
 | none=>first|exact Zx0 hcl|cases hcl
 | bool=>first|exact Zx0 hcl|cases hcl
 | int=>first|exact Zx0 hcl|cases hcl
 | str=>first|exact Zx0 hcl|cases hcl
 | tup=>first|exact Zx0 hcl|cases hcl
 | ref=>first|exact Zx0 hcl|cases hcl
 | obj c' i=>
  have ec:c'=c:=by simpa [Zbb]using hcl
  subst ec
  have hi:∃vs,H1[i]?=some vs:=by
   obtain⟨m,cc,led,r1'⟩:=r1
   cases x1 with
   | obj h1 h2 h3 h4=>exact⟨_,Zy1 (r1'.R.inlt _ h2)⟩
  obtain⟨vs,hvs⟩:=hi
  obtain⟨xa,dx,es',n,xs,rfl,I,fe,hv,_⟩:=r1.objAt x1 hvs
  obtain⟨m,cc,led,r1'⟩:=id r1
  refine method_inst (s:={ s with heap:=k1,toks:=t1 }) r1'.F clr.keep I hg hm ht (fe.no nf) ?_
  refine callWith_K (first:=[.ref xa]) clr.keep hkeep (h pos W1 ρ _ fr _ _ E _ _ r1 e2 fun W2 k2 t2 ys l2 r2 y2=>⟨?_,?_⟩) he (hp pos)
  ·obtain⟨m,c,led,r2⟩:=r2
   exact clr.keep.keeps r2.F.keep
  ·exact wpAny_call (D Γ dp un clr hd hu W2 ρ _ fr _ Q E _ (.ref xa::ys) v H' r2 (.cons (x1.mono l2) y2) hf2 fun W3 k3 t3 z l3 r3 z3=>post W3 k3 t3 z ((l1.trans l2).trans l3) r3 z3)
theorem Zfc{o:Expr}{name:Str}{apos pos:Pos}{f:Ex}{c:Nat×List Str}{fa:Addr}{room:Nat}{F:List V→Hp→Option (V×Hp)}(clr:Clr K p loose mean mg mb Γ dp un)(ho:J prog w Γ o f)(hm:findIn K (.ref c.1) name=some (some (.ref fa)))(ht:isFn K (.ref fa)=true)(hg:plainGet K c.1 name=true)(nf:name∉c.2)(hkeep:keepIn K (.ref fa)=true)(D:Def prog w K p loose mean mg mb fa room F)(hd:dp+room<recursionLimit)(hu:un+10*room+300<cLine)
  (hbase:attributeBase o name Γ.env (eval o Γ.env)=eval o Γ.env:=by rfl) (hline:(apos.endLine == pos.line)=true:=by rfl):J prog w Γ (.Call (.Attribute o name apos) [] [] pos) (Z5 c F f Ze):=by
 intro W ρ H fr s Q E v H' r hf post
 obtain⟨⟨v0,H1⟩,e1,hf1⟩:=Zz0.mp hf
 clear hf
 simp only at hf1
 split at hf1
 case isFalse=>first|exact Zx0 hf1|cases hf1
 rename_i hcl
 obtain⟨q,e2,hf2⟩:=Zz0.mp hf1
 clear hf1
 cases e2
 refine ZjS hbase rfl hline (ho W ρ H fr s _ E _ _ r e1 fun W1 k1 t1 x l1 r1 x1 pl=>?_)
 cases v0 with
 | none=>first|exact Zx0 hcl|cases hcl
 | bool=>first|exact Zx0 hcl|cases hcl
 | int=>first|exact Zx0 hcl|cases hcl
 | str=>first|exact Zx0 hcl|cases hcl
 | tup=>first|exact Zx0 hcl|cases hcl
 | ref=>first|exact Zx0 hcl|cases hcl
 | obj c' i=>
  have ec:c'=c:=by simpa [Zbb]using hcl
  subst ec
  have hi:∃vs,H1[i]?=some vs:=by
   obtain⟨m,cc,led,r1'⟩:=r1
   cases x1 with
   | obj h1 h2 h3 h4=>exact⟨_,Zy1 (r1'.R.inlt _ h2)⟩
  obtain⟨vs,hvs⟩:=hi
  obtain⟨xa,dx,es',n,xs,rfl,I,fe,hv,_⟩:=r1.objAt x1 hvs
  obtain⟨m,cc,led,r1'⟩:=id r1
  refine method_inst (s:={ s with heap:=k1,toks:=t1 }) r1'.F clr.keep I hg hm ht (fe.no nf) ?_
  refine callWith_K0 (first:=[.ref xa]) (clr.keep.keeps r1'.F.keep) hkeep ?_
  exact wpAny_call (D Γ dp un clr hd hu W1 ρ _ fr _ Q E _ [.ref xa] v H' r1 (.cons x1 .nil) hf2 fun W3 k3 t3 z l3 r3 z3=>post W3 k3 t3 z (l1.trans l3) r3 z3)
end
end PM
end
section
namespace PM
open PySem PySem.W PySem.Calls PyProof.Rows PyProof
theorem Rep'.changedO{Γ:Cx}{W:Wd}{ρ:Lc}{H:Hp}{fr:List (Addr×Obj)}{h h':Heap}{m:Str→Option Value}{c led:List (Addr×Obj)}{i:Nat}{a:Addr}{fs:List Str}{vs us:List V}{od':Obj}{ys:List Value}(r:Rep' Γ W ρ H fr h m c led)(i0:i≠0)(e:H[i]?=some vs)(ea:W.pi[i]?=some a)(hi:(i,fs)∈W.ins)(F':Fr Γ.h₀ Γ.L h' m)(N':News Γ.h₀ Γ.L h' ((a,od')::led.filter (fun q=>decide (q.1≠a))))(hD:ZlJ od' fs ys)(hv:VRs W us ys)(hl:us.length≤fs.length):
  Rep Γ W ρ (H.set i us) fr h':=by
 obtain⟨_,b,od,xs,h1,h2,h3,_⟩:=r.R.objs i vs fs e hi
 rw[ea]at h1
 cases h1
 have h2:=r.inLed i0 ea h2
 have hN:=r.N _ h2
 have hm:a∈W.pi:=Zy4 ea
 have hil:i<H.length:=(Zz6.mp e).1
 have other:∀(n:Nat) (d:Addr),n≠i→W.pi[n]?=some d→d≠a:=fun n d hn g1 e=>by
  subst e
  exact hn ((List.getElem?_inj (Zz6.mp g1).1 r.R.nd).mp (g1.trans ea.symm))
 refine⟨m,c,(a,od')::led.filter (fun q=>decide (q.1≠a)),⟨F',N',?_,r.sc,r.sc0,fun q hq=>?_,r.frOff,fun q hq=>?_,r.clOff,r.apart,r.frTup,r.clTup,r.own⟩⟩
 ·refine⟨by simp[r.R.len],r.R.nd,fun n ws en ni=>?_,fun q hq=>?_,r.R.kind,fun n ws gs en hi'=>?_,fun q hq=>by have:=r.R.inlt q hq;simpa using this,r.R.iuni⟩
  ·have hn:n≠i:=fun q=>ni _ hi q.symm
   rw[Zy2 (Ne.symm hn)]at en
   obtain⟨l,d,zs,j',g1,g2,g3⟩:=r.R.lists n ws en ni
   exact⟨l,d,zs,j',g1,ZbQ g2 fun g2=>Zy3 _ (Zy9.mpr ⟨g2,by simpa using other n d hn g1⟩),g3⟩
  ·refine ZbQ (r.R.tups q hq) fun g2=>Zy3 _ (Zy9.mpr ⟨g2,?_⟩)
   have:q.1≠a:=fun e=>by
    have hk:=Zks (r.R.kind q hq)
    have g:=r.get (r.R.tups q hq)
    rw[e,hN.1]at g
    obtain⟨es,n,eo,_⟩:=h3
    have c:=congrArg Obj.cls (Option.some.inj g)
    rw[eo]at c
    exact hk.2 c.symm
   simpa using this
  ·by_cases hn:n=i
   ·subst hn
    have:gs=fs:=congrArg (·.2) (r.R.iuni _ hi' _ hi rfl)
    subst this
    rw[Zy6 hil]at en
    cases en
    exact⟨hl,a,od',ys,ea,Zy3 _ Zz5,hD,hv⟩
   ·rw[Zy2 (Ne.symm hn)]at en
    obtain⟨l,d,od2,zs,g1,g2,g3,g4⟩:=r.R.objs n ws gs en hi'
    exact⟨l,d,od2,zs,g1,ZbQ g2 fun g2=>Zy3 _ (Zy9.mpr ⟨g2,by simpa using other n d hn g1⟩),g3,g4⟩
 ·refine Zz2 _ (Zy9.mpr ⟨r.frIn q hq,?_⟩)
  have:q.1≠a:=fun e=>r.frOff q hq (e▸hm)
  simpa using this
 ·refine Zz2 _ (Zy9.mpr ⟨r.clIn q hq,?_⟩)
  have:q.1≠a:=fun e=>r.clOff q hq (e▸hm)
  simpa using this
theorem Rep'.newObj{Γ:Cx}{W:Wd}{ρ:Lc}{H:Hp}{fr:List (Addr×Obj)}{h h':Heap}{m:Str→Option Value}{cc led:List (Addr×Obj)}{c:Nat×List Str}{x dx:Addr}(r:Rep' Γ W ρ H fr h m cc led)(F':Fr Γ.h₀ Γ.L h' m)(N':News Γ.h₀ Γ.L h' ((x,instObj c.1 dx)::(dx,emptyDict)::led))(ne:∀q∈W.sc::led,q.1≠dx∧q.1≠x):
  ∃W',W.Le W'∧Rep Γ W' ρ (H++[[]]) fr h'∧VR W' (.obj c H.length) (.ref x):=by
 have piNe:∀b∈W.pi,b≠dx:=fun b hb=>by
  obtain⟨o,ho⟩:=r.piIn b hb
  exact(ne _ ho).1
 have le:W.Le ⟨W.pi++[dx],(x,instObj c.1 dx)::W.tups,W.sc,(H.length,c.2)::W.ins⟩:=⟨List.prefix_append _ _,fun q hq=>Zy3 _ hq,rfl,fun q hq=>Zy3 _ hq,fun q hq=>by
  rcases Zz7.mp hq with e | hq
  ·exact .inr (by rw[e,r.R.len];exact Zz10 _)
  ·exact .inl hq⟩
 have h0:0<W.pi.length:=(Zz6.mp r.sc0).1
 have at_n:(W.pi++[dx])[H.length]?=some dx:=by rw[←r.R.len];simp
 have up:∀q∈W.sc::led,q∈W.sc::(x,instObj c.1 dx)::(dx,emptyDict)::led:=fun q hq=>Zc9 hq fun y hy=>Zy3 _ (Zz2 _ hy)
 refine⟨⟨W.pi++[dx],(x,instObj c.1 dx)::W.tups,W.sc,(H.length,c.2)::W.ins⟩,le,⟨m,cc,(x,instObj c.1 dx)::(dx,emptyDict)::led,⟨F',N',?_,r.sc,(Zy0 h0).trans r.sc0,fun q hq=>Zy3 _ (Zz2 _ (r.frIn q hq)),fun q hq=>?_,fun q hq=>Zy3 _ (Zz2 _ (r.clIn q hq)),fun q hq=>?_,r.apart,fun q hq t ht=>?_,fun q hq t ht=>?_,Γ.mono le r.own⟩⟩,.obj at_n Zz5 Zz5 rfl⟩
 ·refine⟨by simp[r.R.len],?_,fun i us e ni=>?_,fun q hq=>?_,fun q hq=>?_,fun i us fs e hi=>?_,fun q hq=>?_,fun q hq t ht e=>?_⟩
  ·show(W.pi++[dx]).Nodup
   rw[List.nodup_append]
   refine⟨r.R.nd,by simp,fun a ha b hb e=>?_⟩
   rw[List.mem_singleton.mp hb]at e
   exact piNe a ha e
  ·have hi:i≠H.length:=fun q=>ni _ Zz5 q.symm
   have hi':i<H.length:=by
    have:=(Zz6.mp e).1
    simp at this
    lia
   rw[Zy0 hi']at e
   obtain⟨l,a,ys,j,h1,h2,h3⟩:=r.R.lists i us e fun q hq=>ni q (Zz2 _ hq)
   exact⟨l,a,ys,j,le.piAt h1,up _ h2,h3.mono le⟩
  ·rcases Zz7.mp hq with e | hq
   ·rw[e];exact Zz2 _ Zz5
   ·exact up _ (r.R.tups q hq)
  ·rcases Zz7.mp hq with e | hq
   ·rw[e];exact .inr ⟨c.1,dx,rfl⟩
   ·exact r.R.kind q hq
  ·rcases Zz7.mp hi with e1 | hi
   ·first|exact Zx0 e1|cases e1
    simp at e
    subst e
    exact⟨Nat.zero_le _,dx,emptyDict,[],at_n,Zy3 _ (Zz2 _ Zz5),⟨[],0,rfl,.nil⟩,.nil⟩
   ·have hi':i<H.length:=r.R.inlt _ hi
    rw[Zy0 hi']at e
    obtain⟨l,a,od,ys,h1,h2,h3,h4⟩:=r.R.objs i us fs e hi
    exact⟨l,a,od,ys,le.piAt h1,up _ h2,h3,h4.mono le⟩
  ·rcases Zz7.mp hq with e | hq
   ·rw[e];simp
   ·have:=r.R.inlt q hq;simp;lia
  ·rcases Zz7.mp hq with e1 | hq
   ·rcases Zz7.mp ht with e2 | ht
    ·rw[e1,e2]
    ·have:=r.R.inlt t ht;rw[e1]at e;simp at e;lia
   ·rcases Zz7.mp ht with e2 | ht
    ·have:=r.R.inlt q hq;rw[e2]at e;simp at e;lia
    ·exact r.R.iuni q hq t ht e
 ·intro hm
  rcases Zz8.mp hm with hm | hm
  ·exact r.frOff q hq hm
  ·exact(ne q (Zz2 _ (r.frIn q hq))).1 (Zz9.mp hm)
 ·intro hm
  rcases Zz8.mp hm with hm | hm
  ·exact r.clOff q hq hm
  ·exact(ne q (Zz2 _ (r.clIn q hq))).1 (Zz9.mp hm)
 ·rcases Zz7.mp ht with e | ht
  ·rw[e]
   exact(ne q (Zz2 _ (r.frIn q hq))).2
  ·exact r.frTup q hq t ht
 ·rcases Zz7.mp ht with e | ht
  ·rw[e]
   exact(ne q (Zz2 _ (r.clIn q hq))).2
  ·exact r.clTup q hq t ht
section
variable {prog:Program} {w:World} {Γ:Cx} {K:Frag}
theorem Zb5{o value:Expr}{name:Str}{pos' pos:Pos}{f g:Ex}{c:Nat×List Str}{j:Nat}(X:K.In Γ.h₀)(hv:J prog w Γ value f)(ho:J prog w Γ o g)(hj:c.2[j]?=some name)(nd:c.2.Nodup)(hc:c.2.length≤1000)(hs:findIn K (.ref c.1) "__setattr__"=some (some (.builtin "object.__setattr__")))(hp:plainOver K c.1=true)(ht:takerIn K c.1 name=some none)(hh:hasDictIn K c.1=true)
  (hsw:swapsWith value (some (.Attribute o name pos')) pos.line Γ.env=pure false:=by rfl):S1 prog w Γ (.Assign [.Attribute o name pos'] value pos) (ZaC c j f g):=by
 intro W ρ H fr s Q E r rp hx post
 obtain⟨⟨v1,H1⟩,e1,hx1⟩:=Zz0.mp hx
 obtain⟨⟨v2,H2⟩,e2,hx2⟩:=Zz0.mp hx1
 obtain⟨H3,e3,hx3⟩:=Zz1.mp hx2
 subst hx3
 clear hx hx1 hx2
 refine plainObj_wpAny_Assign_Attribute (hv W ρ H fr s _ E _ _ rp e1 fun W1 k1 t1 x l1 r1 x1=>?_) hsw
 refine ho W1 ρ _ fr _ _ E _ _ r1 e2 fun W2 k2 t2 y l2 r2 y2=>?_
 simp only at e3
 cases v2 with
 | none=>first|exact Zx0 e3|cases e3
 | bool=>first|exact Zx0 e3|cases e3
 | int=>first|exact Zx0 e3|cases e3
 | str=>first|exact Zx0 e3|cases e3
 | tup=>first|exact Zx0 e3|cases e3
 | ref=>first|exact Zx0 e3|cases e3
 | obj c' i=>
  simp only[ZaS]at e3
  split at e3
  case isFalse=>first|exact Zx0 e3|cases e3
  rename_i hci
  obtain⟨ec,i0⟩:=hci
  subst ec
  obtain⟨vs,hvs,e4⟩:=Zz0.mp e3
  obtain⟨m,cc,led,r'⟩:=r2
  cases y2 with
  | @obj _ _ a xa ox h1 h2 h3 h4=>
  obtain⟨hl,a',od,xs,g1,g2,⟨es,n,eo,fe⟩,g4⟩:=r'.R.objs i vs c'.2 hvs h2
  rw[h1]at g1
  cases g1
  subst eo
  have e5:ox=_:=h4
  subst e5
  have hin:=r'.inLed i0 h1 g2
  have I:InstAt k2 xa ⟨.ref c'.1,some a,.plain,#[]⟩ c'.1 (some (dictOf es n)):=⟨r'.get (r'.R.tups _ h3),rfl,rfl,r'.get g2⟩
  have N2:News Γ.h₀ Γ.L k2 ((a,dictOf es n)::led.filter (fun q=>decide (q.1≠a))):=by
   intro q hq
   rcases Zz7.mp hq with e | hq
   ·subst e
    exact⟨r'.get g2,(r'.N _ hin).2⟩
   ·exact r'.N q (List.mem_filter.mp hq).1
  have lvx:=g4.length
  have fl:=fe.len
  have fin:∀(us:List V) (ys:List Value),H3=H2.set i us→VRs W2 us ys→us.length≤c'.2.length→FE c'.2 ys (putL name (PyData.keyHash w.params name) (.str name (t2+1)) x es) →
    wpAny (model prog w) Γ.A (setAttr (.ref xa) name x) (fun _=>Q .next) E { s with heap:=k2,toks:=t2 }:=by
   intro us ys eH hv' hl' fe'
   refine set_dict (s:={ s with heap:=k2,toks:=t2 }) r'.F X N2 I rfl hs hp ht hh (fe.isS name) rfl (Upd.head fun q hq=>by simpa using (List.mem_filter.mp hq).2) (Nat.le_trans (Nat.le_of_eq fe'.len.1) (Nat.le_trans fe'.len.2 hc)) fun h' F' N'=>?_
   rw[eH]at post
   exact post W2 h' (t2+2) (l1.trans l2) (r'.changedO i0 hvs h1 h2 F' N' ⟨_,_,rfl,fe'⟩ hv' hl')
  split at e4
  ·rename_i hjl
   cases e4
   exact fin (vs.set j v1) (xs.set j x) rfl (g4.set j (x1.mono l2)) (by simpa using hl) (fe.put nd hj (by rw[lvx];exact hjl))
  ·split at e4
   ·rename_i hjl
    cases e4
    have ej:j=xs.length:=by rw[lvx];exact hjl.1
    refine fin (vs++[v1]) (xs++[x]) rfl (g4.snoc (x1.mono l2)) (by simp;lia) (fe.app nd (by rw[←ej];exact hj))
   ·first|exact Zx0 e4|cases e4
end
section
variable {prog:Program} {w:World} {K:Frag} {p:Program} {loose:List Str} {mean:ExcName→Option Value} {mg mb:Str→Option Value} {Γ:Cx} {dp un:Nat}
theorem ZkD{c:Nat×List Str}{fI:Addr}{room:Nat}{F:List V→Hp→Option (V×Hp)}(clr:Clr K p loose mean mg mb Γ dp un)(hm:makesIn K c.1=true)(hi:findIn K (.ref c.1) "__init__"=some (some (.ref fI)))(hf:typeIn K (.ref fI)=some (.type "function"))(D:Def prog w K p loose mean mg mb fI room F)(hd:dp+(room+1)<recursionLimit)(hu:un+10*(room+1)+300<cLine)
  {W:Wd} {ρ:Lc} {H:Hp} {fr:List (Addr×Obj)} {s:Shared} {Q E:Value→Shared→Prop} {vs:List V} {xs:List Value} {v:V} {H':Hp} (r:Rep Γ W ρ H fr s.heap) (hx:VRs W vs xs) (hF:(F (.obj c H.length::vs) (H++[[]])).bind (fun q=>match q.1 with | .none=>some (V.obj c H.length,q.2) | _=>none)=some (v,H')) (post:Zex Γ W ρ H' fr s Q v):
  wpAny (model prog w) Γ.A (call (.ref c.1) xs) Q E s:=by
 obtain⟨⟨v1,H1⟩,e1,hF1⟩:=Zz0.mp hF
 simp only at hF1
 cases v1 <;> first|exact Zx0 hF1|(cases hF1;done)| skip
 cases hF1
 obtain⟨m,cc,led,r'⟩:=id r
 refine wpAny_call (make_K r'.F r'.N (clr.keep.keeps r'.F.keep) hm hi hf fun x dx h' F' N' lt1 lt2=>?_)
 have hne:∀q∈W.sc::led,q.1≠dx∧q.1≠x:=fun q hq=>by
  rcases Zz7.mp hq with e | hq
  ·rw[e]
   refine⟨fun z=>?_,fun z=>?_⟩
   ·have h1:=(N' _ (Zz2 _ Zz5)).2.2
    have h2:=r'.sc
    rw[z]at h2
    simp only at h1
    rw[h1]at h2
    cases h2
   ·have h1:=(N' _ Zz5).2.2
    have h2:=r'.sc
    rw[z]at h2
    simp only at h1
    rw[h1]at h2
    cases h2
  ·exact⟨Nat.ne_of_lt (lt1 q hq),Nat.ne_of_lt (Nat.lt_trans (lt1 q hq) lt2)⟩
 obtain⟨W1,l1,r1,x1⟩:=r'.newObj (c:=c) F' N' hne
 obtain⟨gd,cn,cs,a,ccd,cl,outer,A₀,base,eA,B,X,T,hke⟩:=clr
 let Γ':Cx:={ Γ with A:=ktrTop (dp+1) (un+1) gd cn cs Γ.L a ccd cl outer,hh:=rfl,hu:=by show un+1+200<cLine;lia }
 have clr':Clr K p loose mean mg mb Γ' (dp+1) (un+1):=⟨gd,cn,cs,a,ccd,cl,outer,A₀,base,rfl,B,X,T,hke⟩
 have to:∀{W:Wd} {ρ:Lc} {H:Hp} {fr:List (Addr×Obj)} {h:Heap},Rep Γ W ρ H fr h→Rep Γ' W ρ H fr h:=fun⟨m,c,led,r⟩=>⟨m,c,led,⟨r.F,r.N,r.R,r.sc,r.sc0,r.frIn,r.frOff,r.clIn,r.clOff,r.apart,r.frTup,r.clTup,r.own⟩⟩
 have from':∀{W:Wd} {ρ:Lc} {H:Hp} {fr:List (Addr×Obj)} {h:Heap},Rep Γ' W ρ H fr h→Rep Γ W ρ H fr h:=fun⟨m,c,led,r⟩=>⟨m,c,led,⟨r.F,r.N,r.R,r.sc,r.sc0,r.frIn,r.frOff,r.clIn,r.clOff,r.apart,r.frTup,r.clTup,r.own⟩⟩
 rw[eA]
 exact D Γ' (dp+1) (un+1) clr' (by lia) (by lia) W1 ρ _ fr { s with heap:=h' } (fun v s'=>v=.none∧Q (.ref x) s') E (.obj c H.length::vs) (.ref x::xs) .none _ (to r1) (.cons x1 (hx.mono l1)) e1 fun W2 h2 t2 y l2 r2 y2=>by
  cases y2
  exact⟨rfl,post W2 h2 t2 (.ref x) (l1.trans l2) (from' r2) (x1.mono l2)⟩
theorem J.new{x:Str}{np pos:Pos}{e:Expr}{es:List Expr}{g:Z7}{c:Nat×List Str}{fI:Addr}{room:Nat}{F:List V→Hp→Option (V×Hp)}(clr:Clr K p loose mean mg mb Γ dp un)(hn:Nm prog w Γ x (.ref c.1))(hkeep:keepIn K (.ref c.1)=true)(hm:makesIn K c.1=true)(hi:findIn K (.ref c.1) "__init__"=some (some (.ref fI)))(hf:typeIn K (.ref fI)=some (.type "function"))(D:Def prog w K p loose mean mg mb fI room F)(hd:dp+(room+1)<recursionLimit)(hu:un+10*(room+1)+300<cLine)
  (h:Js prog w Γ (e::es) g) (he:starEach (e::es) Γ.env=(false,eval e Γ.env)::starEach es Γ.env:=by rfl) (hp:∀pos,(backTo pos (starEach es Γ.env)).any (·.1)=false:=by intro _;rfl):J prog w Γ (.Call (.Name x np) (e::es) [] pos) (ZcO c F g):=by
 intro W ρ H fr s Q E v H' r hf' post
 obtain⟨q,e1,hf'⟩:=Zz0.mp hf'
 refine wpAny_Call_ofName (hn.use r ?_)
 refine callWith_K (first:=[]) clr.keep hkeep (h pos W ρ H fr s _ E _ _ r e1 fun W1 k1 t1 xs l1 r1 x1=>⟨?_,?_⟩) he (hp pos)
 ·obtain⟨m,c,led,r1⟩:=r1
  exact clr.keep.keeps r1.F.keep
 ·exact ZkD (s:={ s with heap:=k1,toks:=t1 }) clr hm hi hf D hd hu r1 x1 hf' fun W2 k2 t2 y l2 r2 y2=>post W2 k2 t2 y (l1.trans l2) r2 y2
theorem Zp6{x:Str}{np pos:Pos}{c:Nat×List Str}{fI:Addr}{room:Nat}{F:List V→Hp→Option (V×Hp)}(clr:Clr K p loose mean mg mb Γ dp un)(hn:Nm prog w Γ x (.ref c.1))(hkeep:keepIn K (.ref c.1)=true)(hm:makesIn K c.1=true)(hi:findIn K (.ref c.1) "__init__"=some (some (.ref fI)))(hf:typeIn K (.ref fI)=some (.type "function"))(D:Def prog w K p loose mean mg mb fI room F)(hd:dp+(room+1)<recursionLimit)(hu:un+10*(room+1)+300<cLine): J prog w Γ (.Call (.Name x np) [] [] pos) (ZcO c F Ze):=by
 intro W ρ H fr s Q E v H' r hf' post
 obtain⟨q,e1,hf'⟩:=Zz0.mp hf'
 cases e1
 refine wpAny_Call_ofName (hn.use r ?_)
 refine callWith_K0 (first:=[]) ?_ hkeep ?_
 ·obtain⟨m,c,led,r1⟩:=r
  exact clr.keep.keeps r1.F.keep
 ·exact ZkD clr hm hi hf D hd hu r .nil hf' post
end
end PM
end
section
/-! Lists of which only the upper part is own: down to a depth the lists are own, what lies below is lent. -/
namespace TM
open PySem PM
noncomputable def plc: V→Bool
 | .ref _=>true
 | .obj _ _=>true
 | _=>false
mutual
inductive RD(H:Hp): Nat→V→T→List Nat→List Nat→Prop where
 | leaf {d:Nat} {v:V} {t:T} {R:List Nat}:RF H v t R→(d=0∨(plc v=false∧d≠999))→RD H d v t [] R
 | ref {d a:Nat} {vs:List V} {ts:List T} {F R:List Nat}:d≠998→H[a]?=some vs→RDs H d vs ts F R→RD H (d+1) (.ref a) (.lst ts) (a::F) R
 | obj {d a:Nat} {c:Nat×List Str} {vs:List V} {ts:List T} {F R:List Nat}:d≠998→H[a]?=some vs→RDs H d vs ts F R→RD H (d+1) (.obj c a) (.ob c ts) (a::F) R
 | all {v:V} {t:T} {F:List Nat}:RF H v t F→RD H 999 v t F []
inductive RDs(H:Hp): Nat→List V→List T→List Nat→List Nat→Prop where
 | nil {d:Nat}:RDs H d [] [] [] []
 | cons {d:Nat} {v:V} {t:T} {F R:List Nat} {vs:List V} {ts:List T} {G Q:List Nat}:RD H d v t F R→RDs H d vs ts G Q→RDs H d (v::vs) (t::ts) (F++G) (R++Q)
end
theorem ZlO{A B C D X Y:List Nat}(h:(A++B).Perm X)(k:(C++D).Perm Y): ((A++C)++(B++D)).Perm (X++Y):=by
 rw[List.perm_iff_count]at *
 intro a
 have h1:=h a
 have h2:=k a
 simp only[List.count_append]at *
 lia
mutual
theorem RD.rf{H:Hp}{d:Nat}{v:V}{t:T}{F R:List Nat}(r:RD H d v t F R): ∃G,RF H v t G∧(F++R).Perm G:=by
 cases r with
 | leaf h _=>exact⟨R,h,List.Perm.refl _⟩
 | ref _ e hs=>
  obtain⟨G,h1,h2⟩:=RDs.rf hs
  exact⟨_,.ref e h1,List.Perm.cons _ h2⟩
 | obj _ e hs=>
  obtain⟨G,h1,h2⟩:=RDs.rf hs
  exact⟨_,.obj e h1,List.Perm.cons _ h2⟩
 | all h=>exact⟨F,h,by rw[List.append_nil]⟩
theorem RDs.rf{H:Hp}{d:Nat}{vs:List V}{ts:List T}{F R:List Nat}(r:RDs H d vs ts F R): ∃G,RFs H vs ts G∧(F++R).Perm G:=by
 cases r with
 | nil=>exact⟨_,.nil,List.Perm.refl _⟩
 | cons a b=>
  obtain⟨G,h1,h2⟩:=RD.rf a
  obtain⟨Q,k1,k2⟩:=RDs.rf b
  exact⟨_,.cons h1 k1,ZlO h2 k2⟩
end
mutual
theorem RF.det{H:Hp}{v:V}{t t':T}{F F':List Nat}(r:RF H v t F)(r':RF H v t' F'): t=t'∧F=F':=by
 cases r with
 | none=>cases r';exact⟨rfl,rfl⟩
 | bool b=>cases r';exact⟨rfl,rfl⟩
 | int i=>cases r';exact⟨rfl,rfl⟩
 | str s=>cases r';exact⟨rfl,rfl⟩
 | tup hs=>
  cases r' with
  | tup hs'=>obtain⟨h1,h2⟩:=RFs.det hs hs';exact⟨by rw[h1],h2⟩
 | ref e hs=>
  cases r' with
  | ref e' hs'=>
   rw[e]at e'
   cases e'
   obtain⟨h1,h2⟩:=RFs.det hs hs';exact⟨by rw[h1],by rw[h2]⟩
 | obj e hs=>
  cases r' with
  | obj e' hs'=>
   rw[e]at e'
   cases e'
   obtain⟨h1,h2⟩:=RFs.det hs hs';exact⟨by rw[h1],by rw[h2]⟩
theorem RFs.det{H:Hp}{vs:List V}{ts ts':List T}{F F':List Nat}(r:RFs H vs ts F)(r':RFs H vs ts' F'): ts=ts'∧F=F':=by
 cases r with
 | nil=>cases r';exact⟨rfl,rfl⟩
 | cons a b=>
  cases r' with
  | cons a' b'=>
   obtain⟨h1,h2⟩:=RF.det a a'
   obtain⟨k1,k2⟩:=RFs.det b b'
   exact⟨by rw[h1,k1],by rw[h2,k2]⟩
end
mutual
theorem RD.frame{H H':Hp}{d:Nat}{v:V}{t:T}{F R:List Nat}(r:RD H d v t F R)(h:∀a∈F,H'[a]?=H[a]?)(k:∀a∈R,H'[a]?=H[a]?): RD H' d v t F R:=by
 cases r with
 | leaf q z=>exact .leaf (q.frame k) z
 | ref n e hs=>exact .ref n ((h _ Zz5).trans e) (RDs.frame hs (fun a m=>h a (Zz2 _ m)) k)
 | obj n e hs=>exact .obj n ((h _ Zz5).trans e) (RDs.frame hs (fun a m=>h a (Zz2 _ m)) k)
 | all q=>exact .all (q.frame h)
theorem RDs.frame{H H':Hp}{d:Nat}{vs:List V}{ts:List T}{F R:List Nat}(r:RDs H d vs ts F R)(h:∀a∈F,H'[a]?=H[a]?)(k:∀a∈R,H'[a]?=H[a]?): RDs H' d vs ts F R:=by
 cases r with
 | nil=>exact .nil
 | cons a b=>exact .cons (RD.frame a (fun x m=>h x (Zz4 _ m)) (fun x m=>k x (Zz4 _ m))) (RDs.frame b (fun x m=>h x (Zz3 _ m)) (fun x m=>k x (Zz3 _ m)))
end
mutual
theorem RF.rd{H:Hp}{v:V}{t:T}{G:List Nat}(d:Nat)(r:RF H v t G): ∃F R,RD H d v t F R∧(F++R).Perm G:=by
 by_cases q:d=999
 ·subst q;exact⟨G,[],.all r,by rw[List.append_nil]⟩
 cases r with
 | none=>exact⟨[],[],.leaf .none (.inr ⟨rfl,q⟩),List.Perm.refl _⟩
 | bool b=>exact⟨[],[],.leaf (.bool b) (.inr ⟨rfl,q⟩),List.Perm.refl _⟩
 | int i=>exact⟨[],[],.leaf (.int i) (.inr ⟨rfl,q⟩),List.Perm.refl _⟩
 | str s=>exact⟨[],[],.leaf (.str s) (.inr ⟨rfl,q⟩),List.Perm.refl _⟩
 | tup hs=>exact⟨[],G,.leaf (.tup hs) (.inr ⟨rfl,q⟩),List.Perm.refl _⟩
 | ref e hs=>
  cases d with
  | zero=>exact⟨[],_,.leaf (.ref e hs) (.inl rfl),List.Perm.refl _⟩
  | succ d=>
   obtain⟨F,R,h1,h2⟩:=RFs.rd d hs
   exact⟨_,R,.ref (by lia) e h1,List.Perm.cons _ h2⟩
 | obj e hs=>
  cases d with
  | zero=>exact⟨[],_,.leaf (.obj e hs) (.inl rfl),List.Perm.refl _⟩
  | succ d=>
   obtain⟨F,R,h1,h2⟩:=RFs.rd d hs
   exact⟨_,R,.obj (by omega) e h1,List.Perm.cons _ h2⟩
theorem RFs.rd{H:Hp}{vs:List V}{ts:List T}{G:List Nat}(d:Nat)(r:RFs H vs ts G): ∃F R,RDs H d vs ts F R∧(F++R).Perm G:=by
 cases r with
 | nil=>exact⟨[],[],.nil,List.Perm.refl _⟩
 | cons a b=>
  obtain⟨F,R,h1,h2⟩:=RF.rd d a
  obtain⟨F',R',k1,k2⟩:=RFs.rd d b
  exact⟨_,_,.cons h1 k1,ZlO h2 k2⟩
end
theorem ZkY{H:Hp}: ∀{vs:List V} {ts:List T} {G:List Nat},RFs H vs ts G→RDs H 0 vs ts [] G
 | _,_,_,.nil=>.nil
 | _,_,_,.cons a b=>by
  have:=RDs.cons (RD.leaf (d:=0) a (.inl rfl)) (ZkY b)
  simpa using this
theorem RDs.length{H:Hp}{d:Nat}: ∀{vs:List V} {ts:List T} {F R:List Nat},RDs H d vs ts F R→vs.length=ts.length
 | _,_,_,_,.nil=>rfl
 | _,_,_,_,.cons _ r=>by rw[List.length_cons,List.length_cons,r.length]
theorem RDs.append{H:Hp}{d:Nat}: ∀{vs us:List V} {ts ss:List T} {F R G Q:List Nat},RDs H d vs ts F R→RDs H d us ss G Q→RDs H d (vs++us) (ts++ss) (F++G) (R++Q)
 | _,_,_,_,_,_,_,_,.nil,h=>h
 | _,_,_,_,_,_,_,_,.cons a r,h=>by rw[List.append_assoc,List.append_assoc];exact .cons a (r.append h)
theorem RDs.one{H:Hp}{d:Nat}{v:V}{t:T}{F R:List Nat}(r:RD H d v t F R): RDs H d [v] [t] F R:=by
 have:=RDs.cons r RDs.nil
 rwa [List.append_nil,List.append_nil]at this
theorem RDs.split{H:Hp}{d:Nat}: ∀{vs:List V} {ts:List T} {F R:List Nat} {i:Nat} {t:T},RDs H d vs ts F R→ts[i]?=some t →
  ∃v G Q F1 F2 R1 R2,vs[i]?=some v∧RD H d v t G Q∧F=F1++(G++F2)∧R=R1++(Q++R2)∧∀(H':Hp) (w:V) (t':T) (G' Q':List Nat),RD H' d w t' G' Q'→(∀a∈F1++F2,H'[a]?=H[a]?)→(∀a∈R1++R2,H'[a]?=H[a]?)→RDs H' d (vs.set i w) (ts.set i t') (F1++(G'++F2)) (R1++(Q'++R2))
 | _,_,_,_,_,_,.nil,e=>by simp at e
 | _,_,_,_,0,_,.cons (G:=G1) (Q:=Q1) a r,e=>by
  simp at e
  subst e
  exact⟨_,_,_,[],G1,[],Q1,by simp,a,by simp,by simp,fun H' w t' G' Q' x h1 h2=>by simpa using RDs.cons x (r.frame (fun b m=>h1 b (by simpa using m)) (fun b m=>h2 b (by simpa using m)))⟩
 | _,_,_,_,i+1,_,.cons (F:=F0) (R:=R0) a r,e=>by
  simp at e
  obtain⟨v,G,Q,F1,F2,R1,R2,h1,h2,h3,h3',h4⟩:=r.split e
  refine⟨v,G,Q,F0++F1,F2,R0++R1,R2,by simpa using h1,h2,by rw[h3];simp,by rw[h3'];simp,fun H' w t' G' Q' x k1 k2=>?_⟩
  have:=RDs.cons (a.frame (fun b m=>k1 b (by simp[m])) (fun b m=>k2 b (by simp[m]))) (h4 H' w t' G' Q' x (fun b m=>k1 b (by rcases Zz8.mp m with m | m <;> simp[m])) (fun b m=>k2 b (by rcases Zz8.mp m with m | m <;> simp[m])))
  simpa using this
theorem ZiB{H:Hp}: ∀{vs:List V} {ts:List T} {F:List Nat},RFs H vs ts F→RDs H 999 vs ts F []
 | _,_,_,.nil=>.nil
 | _,_,_,.cons a b=>by have:=RDs.cons (RD.all a) (ZiB b);simpa using this
theorem RDs.unall{H:Hp}: ∀{vs:List V} {ts:List T} {F R:List Nat},RDs H 999 vs ts F R→RFs H vs ts F∧R=[]
 | _,_,_,_,.nil=>⟨.nil,rfl⟩
 | _,_,_,_,.cons a b=>by
  obtain⟨h1,h2⟩:=b.unall
  cases a with
  | leaf _ q=>exact absurd q (by simp)
  | ref q _ _=>exact absurd rfl q
  | obj q _ _=>exact absurd rfl q
  | all h=>exact⟨.cons h h1,by simp[h2]⟩
noncomputable def dn(d:Nat): Nat:=if d=999 then 999 else d-1
theorem RD.inR{H:Hp}{d a:Nat}{t:T}{F R:List Nat}(r:RD H d (.ref a) t F R)(hd:0<d): ∃vs ts F',t=.lst ts∧F=a::F'∧H[a]?=some vs∧RDs H (dn d) vs ts F' R∧∀(H':Hp) (vs':List V) (ts':List T) (G Q:List Nat),H'[a]?=some vs'→RDs H' (dn d) vs' ts' G Q→RD H' d (.ref a) (.lst ts') (a::G) Q:=by
 cases r with
 | leaf h q=>rcases q with q | q;lia;exact absurd q.1 (by simp[plc])
 | @ref d _ vs ts F' _ n e hs=>
  have:dn (d+1)=d:=by unfold dn;rw[if_neg (by lia)];lia
  rw[this]
  exact⟨vs,ts,F',rfl,rfl,e,hs,fun H' vs' ts' G Q e' hs'=>.ref n e' hs'⟩
 | all h=>
  cases h with
  | @ref _ vs ts F' e hs=>
   refine⟨vs,ts,F',rfl,rfl,e,ZiB hs,fun H' vs' ts' G Q e' hs'=>?_⟩
   obtain⟨h1,h2⟩:=hs'.unall
   subst h2
   exact .all (.ref e' h1)
theorem RD.inO{H:Hp}{d a:Nat}{c:Nat×List Str}{t:T}{F R:List Nat}(r:RD H d (.obj c a) t F R)(hd:0<d): ∃vs ts F',t=.ob c ts∧F=a::F'∧H[a]?=some vs∧RDs H (dn d) vs ts F' R∧∀(H':Hp) (vs':List V) (ts':List T) (G Q:List Nat),H'[a]?=some vs'→RDs H' (dn d) vs' ts' G Q→RD H' d (.obj c a) (.ob c ts') (a::G) Q:=by
 cases r with
 | leaf h q=>rcases q with q | q;lia;exact absurd q.1 (by simp[plc])
 | @obj d _ _ vs ts F' _ n e hs=>
  have:dn (d+1)=d:=by unfold dn;rw[if_neg (by lia)];lia
  rw[this]
  exact⟨vs,ts,F',rfl,rfl,e,hs,fun H' vs' ts' G Q e' hs'=>.obj n e' hs'⟩
 | all h=>
  cases h with
  | @obj _ _ vs ts F' e hs=>
   refine⟨vs,ts,F',rfl,rfl,e,ZiB hs,fun H' vs' ts' G Q e' hs'=>?_⟩
   obtain⟨h1,h2⟩:=hs'.unall
   subst h2
   exact .all (.obj e' h1)
noncomputable def ZjB(k:Int): Option Nat:=if k≤-1000000 then some (-1000000-k).toNat else none
noncomputable def Zg8(k:Int)(n:Nat): Option Nat:=if k≤-1000000 then none else seqIndex? k n
noncomputable def Zdz(f:List T→Option (List T)): List Int→T→Option T
 | [],.lst ts=>(f ts).map .lst
 | k::ks,.lst ts=>(Zg8 k ts.length).bind fun j=>ts[j]?.bind fun t=>(Zdz f ks t).map fun u=>.lst (ts.set j u)
 | k::ks,.ob c ts=>(ZjB k).bind fun j=>ts[j]?.bind fun t=>(Zdz f ks t).map fun u=>.ob c (ts.set j u)
 | _,_=>none
inductive LeadU(H:Hp): List Int→V→Nat→Prop where
 | nil {a:Nat}:LeadU H [] (.ref a) a
 | ref {k:Int} {ks:List Int} {b:Nat} {vs:List V} {j:Nat} {v:V} {a:Nat}:H[b]?=some vs→Zg8 k vs.length=some j→vs[j]?=some v→LeadU H ks v a→LeadU H (k::ks) (.ref b) a
 | obj {k:Int} {ks:List Int} {c:Nat×List Str} {b:Nat} {vs:List V} {j:Nat} {v:V} {a:Nat}:H[b]?=some vs→ZjB k=some j→vs[j]?=some v→LeadU H ks v a→LeadU H (k::ks) (.obj c b) a
noncomputable def dnn(d m:Nat): Nat:=if d=999 then 999 else d-m-1
theorem ZqW{d:Nat}: dnn d 0=dn d:=by unfold dnn dn;split <;> simp
theorem ZqX{d m:Nat}(h9:d≤999): dnn (dn d) m=dnn d (m+1):=by
 unfold dnn dn
 by_cases h:d=999
 ·simp[h]
 ·rw[if_neg h,if_neg h]
  split
  ·lia
  ·lia
theorem Zfl{H:Hp}{Fn Rn:List Nat}{f:List T→Option (List T)}: ∀(ks:List Int) {d:Nat} {v:V} {t t':T} {F R:List Nat},RD H d v t F R→F.Nodup→(∀a∈F,a∉R)→(∀a∈Fn,a∉F)→ks.length<d→d≤999→Zdz f ks t=some t' →
  ∃a vs ts ts' Fa Ra,LeadU H ks v a∧a∈F∧H[a]?=some vs∧RDs H (dnn d ks.length) vs ts Fa Ra∧f ts=some ts'∧Fa.Nodup∧a∉Fa∧(∀x∈Fa,x∈F)∧(∀x∈Ra,x∈R) ∧
   ∀vs' F' R',RDs H (dnn d ks.length) vs' ts' F' R'→F'.Nodup→a∉F'→a∉R'→(∀x∈F',x∈Fa∨x∈Fn)→(∀x∈R',x∈Ra∨x∈Rn)→∃F2 R2,RD (H.set a vs') d v t' F2 R2∧F2.Nodup∧(∀x∈F2,x∈F∨x∈Fn)∧∀x∈R2,x∈R∨x∈Rn
 | [],d,v,t,t',F,R,r,nd,ds,dnw,hd,h9,e=>by
  cases t with
  | none=>first|exact Zx0 e|cases e
  | bool=>first|exact Zx0 e|cases e
  | int=>first|exact Zx0 e|cases e
  | str=>first|exact Zx0 e|cases e
  | tup=>first|exact Zx0 e|cases e
  | ob=>first|exact Zx0 e|cases e
  | lst ts0=>
  obtain⟨ts',h1,h2⟩:=Zz1.mp e
  subst h2
  have hv:∃a,v=.ref a:=by
   obtain⟨G,rg,_⟩:=r.rf
   cases rg with
   | ref _ _=>exact⟨_,rfl⟩
  obtain⟨a,rfl⟩:=hv
  obtain⟨vs,ts,G,et,eF,e1,hs,back⟩:=r.inR (by simpa using hd)
  cases et
  subst eF
  rw[List.nodup_cons]at nd
  rw[List.length_nil,ZqW]
  refine⟨a,vs,ts0,ts',G,R,.nil,List.mem_cons_self,e1,hs,h1,nd.2,nd.1,fun x m=>Zy3 _ m,fun x m=>m,fun vs' F' R' r' n' na nr sub subR=>⟨a::F',R',?_,?_,?_,subR⟩⟩
  ·have ha:=(Zz6.mp e1).1
   refine back _ _ _ _ _ (Zy6 ha) (r'.frame (fun b m=>List.getElem?_set_ne ?_) (fun b m=>List.getElem?_set_ne ?_))
   ·intro q;subst q;exact na m
   ·intro q;subst q;exact nr m
  ·exact List.nodup_cons.mpr ⟨na,n'⟩
  ·intro x m
   rcases Zz7.mp m with rfl | m
   ·exact .inl Zz5
   ·exact(sub x m).imp (Zz2 _) id
 | k::ks,d,v,t,t',F,R,r,nd,ds,dnw,hd,h9,e=>by
  have hlen:ks.length<dn d:=by
   simp only[List.length_cons]at hd
   unfold dn;split <;> (first | lia | omega)
  have h9':dn d≤999:=by unfold dn;split <;> (first | lia | omega)
  have main:∀(b j:Nat) (vs:List V) (ts:List T) (F':List Nat) (u u':T) (mk:List T→T),F=b::F'→t'=mk (ts.set j u')→H[b]?=some vs→RDs H (dn d) vs ts F' R→ts[j]?=some u→Zdz f ks u=some u'→(∀w a,vs[j]?=some w→LeadU H ks w a→LeadU H (k::ks) v a)→(∀(H':Hp) (vs':List V) (ts':List T) (G Q:List Nat),H'[b]?=some vs'→RDs H' (dn d) vs' ts' G Q→RD H' d v (mk ts') (b::G) Q) →
   ∃a vs ts ts' Fa Ra,LeadU H (k::ks) v a∧a∈F∧H[a]?=some vs∧RDs H (dnn d (k::ks).length) vs ts Fa Ra∧f ts=some ts'∧Fa.Nodup∧a∉Fa∧(∀x∈Fa,x∈F)∧(∀x∈Ra,x∈R) ∧
    ∀vs' F' R',RDs H (dnn d (k::ks).length) vs' ts' F' R'→F'.Nodup→a∉F'→a∉R'→(∀x∈F',x∈Fa∨x∈Fn)→(∀x∈R',x∈Ra∨x∈Rn)→∃F2 R2,RD (H.set a vs') d v t' F2 R2∧F2.Nodup∧(∀x∈F2,x∈F∨x∈Fn)∧∀x∈R2,x∈R∨x∈Rn:=by
   intro b j vs ts F' u u' mk eF et' e0 hs e2 e3 lead back
   subst eF
   subst et'
   obtain⟨w,G1,Q1,F1,F2,R1,R2,e4,g1,eF,eR,rb⟩:=hs.split e2
   subst eF
   subst eR
   rw[List.nodup_cons]at nd
   obtain⟨nb,nd⟩:=nd
   obtain⟨a1,a2,a5⟩:=List.nodup_append.mp nd
   obtain⟨nd1,a3,a4⟩:=List.nodup_append.mp a2
   have hin:∀x∈G1,x∈F1++(G1++F2):=fun x m=>List.mem_append_right _ (Zz4 _ m)
   have hinR:∀x∈Q1,x∈R1++(Q1++R2):=fun x m=>List.mem_append_right _ (Zz4 _ m)
   obtain⟨a,us,qs,qs',Fa,Ra,l,am,ea,hq,hf,gn,na,gs,gr,go⟩:=Zfl ks g1 nd1 (fun x m q=>ds x (Zz2 _ (hin x m)) (hinR x q)) (fun x m q=>dnw x m (Zz2 _ (hin x q))) hlen h9' e3
   have ed:dnn d (k::ks).length=dnn (dn d) ks.length:=by rw[List.length_cons,ZqX h9]
   rw[ed]
   refine⟨a,us,qs,qs',Fa,Ra,lead w a e4 l,Zy3 _ (hin a am),ea,hq,hf,gn,na,fun x m=>Zy3 _ (hin x (gs x m)),fun x m=>hinR x (gr x m),fun vs' Fx Rx r' n' na' nr' sub subR=>?_⟩
   obtain⟨G2,Q2,f1,f2,f3,f4⟩:=go vs' Fx Rx r' n' na' nr' sub subR
   have aF:a∈b::(F1++(G1++F2)):=Zz2 _ (hin a am)
   have:=rb (H.set a vs') w u' G2 Q2 f1 (fun x m=>Zy2 fun q=>by
    subst q
    rcases Zz8.mp m with m | m
    ·exact a5 a m a (Zz4 _ am) rfl
    ·exact a4 a am a m rfl) (fun x m=>Zy2 fun q=>by
    subst q
    exact ds a aF (by rcases Zz8.mp m with m | m <;> simp[m]))
   rw[Ziz e4]at this
   have hab:a≠b:=fun q=>nb (hin b (q▸am))
   refine⟨_,_,back _ _ _ _ _ ((Zy2 hab).trans e0) this,List.nodup_cons.mpr ⟨fun q=>?_,nd3 nd f2 f3 (fun x m q=>dnw x m (Zz2 _ q))⟩,fun x m=>?_,in3 f4⟩
   ·rcases in3 f3 b q with m | m
    ·exact nb m
    ·exact dnw b m Zz5
   ·rcases Zz7.mp m with rfl | m
    ·exact .inl Zz5
    ·exact(in3 f3 x m).imp (Zz2 _) id
  have d0:0<d:=by lia
  cases t with
  | none=>first|exact Zx0 e|cases e
  | bool=>first|exact Zx0 e|cases e
  | int=>first|exact Zx0 e|cases e
  | str=>first|exact Zx0 e|cases e
  | tup=>first|exact Zx0 e|cases e
  | lst ts0=>
   obtain⟨j,e1,e⟩:=Zz0.mp e
   obtain⟨u,e2,e⟩:=Zz0.mp e
   obtain⟨u',e3,e⟩:=Zz1.mp e
   have hv:∃a,v=.ref a:=by
    obtain⟨G,rg,_⟩:=r.rf
    cases rg with
    | ref _ _=>exact⟨_,rfl⟩
   obtain⟨b,rfl⟩:=hv
   obtain⟨vs,ts,G,et,eF,e0,hs,back⟩:=r.inR d0
   cases et
   exact main b j vs ts0 G u u' .lst eF e.symm e0 hs e2 e3 (fun w a ew l=>.ref e0 (by rw[hs.length];exact e1) ew l) back
  | ob c ts0=>
   obtain⟨j,e1,e⟩:=Zz0.mp e
   obtain⟨u,e2,e⟩:=Zz0.mp e
   obtain⟨u',e3,e⟩:=Zz1.mp e
   have hv:∃a,v=.obj c a:=by
    obtain⟨G,rg,_⟩:=r.rf
    cases rg with
    | obj _ _=>exact⟨_,rfl⟩
   obtain⟨b,rfl⟩:=hv
   obtain⟨vs,ts,G,et,eF,e0,hs,back⟩:=r.inO d0
   cases et
   exact main b j vs ts0 G u u' (.ob c) eF e.symm e0 hs e2 e3 (fun w a ew l=>.obj e0 e1 ew l) back
noncomputable def Zcj: V→Int→Hp→Option V
 | .obj c a,k,H=>(ZjB k).bind fun j=>H[a]?.bind fun vs=>vs[j]?
 | v,k,H=>if k≤-1000000 then none else(Zf v (.int k) H).map (·.1)
noncomputable def Zdo(H:Hp): List Int→V→Option V
 | [],v=>some v
 | k::ks,v=>(Zcj v k H).bind fun q=>Zdo H ks q
theorem Zp7{k:Int}{n j:Nat}(h:Zg8 k n=some j): ¬k≤-1000000∧seqIndex? k n=some j:=by
 unfold Zg8 at h
 split at h
 ·first|exact Zx0 h|cases h
 ·rename_i q;exact⟨q,h⟩
theorem LeadU.follow{H:Hp}{ks:List Int}{v:V}{a:Nat}(l:LeadU H ks v a): Zdo H ks v=some (.ref a):=by
 induction l with
 | nil=>rfl
 | ref h1 h2 h3 _ ih=>
  obtain⟨q1,q2⟩:=Zp7 h2
  simp only[Zdo,Zcj,if_neg q1,Zf,h1,Zs0,q2,h3,Zs1,ih]
 | obj h1 h2 h3 _ ih=>simp only[Zdo,Zcj,h1,h2,Zs0,h3,ih]
theorem ZnS{H:Hp}(X:Hp){v w:V}{k:Int}(h:Zcj v k H=some w): Zcj v k (H++X)=some w:=by
 cases v with
 | obj c a=>
  simp only[Zcj]at h ⊢
  obtain⟨j,h1,h⟩:=Zz0.mp h
  obtain⟨vs,h2,h⟩:=Zz0.mp h
  rw[h1,Zs0,Zy0 (Zz6.mp h2).1,h2,Zs0,h]
 | none=>simp only[Zcj]at h ⊢;split at h;cases h;rename_i q;rw[if_neg q];cases h
 | bool=>simp only[Zcj]at h ⊢;split at h;cases h;rename_i q;rw[if_neg q];cases h
 | int=>simp only[Zcj]at h ⊢;split at h;cases h;rename_i q;rw[if_neg q];cases h
 | str=>simp only[Zcj]at h ⊢;split at h;cases h;rename_i q;rw[if_neg q];cases h
 | tup vs=>
  simp only[Zcj]at h ⊢
  split at h
  ·first|exact Zx0 h|cases h
  ·rename_i q
   rw[if_neg q]
   obtain⟨⟨w',K⟩,h1,h2⟩:=Zz1.mp h
   rw[(Zir h1 X).2]
   exact congrArg some h2
 | ref a=>
  simp only[Zcj]at h ⊢
  split at h
  ·first|exact Zx0 h|cases h
  ·rename_i q
   rw[if_neg q]
   obtain⟨⟨w',K⟩,h1,h2⟩:=Zz1.mp h
   rw[(Zir h1 X).2]
   exact congrArg some h2
theorem ZeV{H:Hp}(X:Hp): ∀{ks:List Int} {v w:V},Zdo H ks v=some w→Zdo (H++X) ks v=some w
 | [],_,_,h=>h
 | k::ks,v,w,h=>by
  obtain⟨w1,h1,h2⟩:=Zz0.mp h
  simp only[Zdo,ZnS X h1,Zs0]
  exact ZeV X h2
noncomputable def PaU(O:List Nat)(x:Nat)(e:Ex)(p:PPa): Prop:=∀(c:Ctx) (ρ:Lc) (σ:TL) (H:Hp) (Φ:Nat→List Nat) (ks:List Int) (v w:V),St c O ρ σ H Φ→p σ=some ks→ρ x=some v→Zdo H ks v=some w→∃X,e ρ H=some (w,H++X)
section
variable {O:List Nat}
theorem Zgz{x:Nat}: PaU O x (Za x) ZbY:=fun c ρ σ H Φ ks v w s h e f=>by
 cases h;cases f
 exact⟨[],by simp[Za,e]⟩
end
noncomputable def Sp(H:Hp)(d:Nat)(v:V)(t:T)(F:List Nat): Prop:=∃R,RD H d v t F R∧F.Nodup∧∀a∈F,a∉R
theorem Sp.sub{H:Hp}{d:Nat}{v:V}{t:T}{F G:List Nat}(s:Sp H d v t F)(r:RF H v t G): ∀a∈F,a∈G:=fun a m=>by
 obtain⟨R,h1,_⟩:=s
 obtain⟨G',h2,h3⟩:=h1.rf
 obtain⟨_,e⟩:=r.det h2
 rw[e]
 exact h3.subset (Zz4 _ m)
theorem Sp.frame{H H':Hp}{d:Nat}{v:V}{t:T}{F G:List Nat}(s:Sp H d v t F)(r:RF H v t G)(h:∀a∈G,H'[a]?=H[a]?): Sp H' d v t F:=by
 obtain⟨R,h1,h4⟩:=s
 obtain⟨G',h2,h3⟩:=h1.rf
 obtain⟨_,e⟩:=r.det h2
 subst e
 exact⟨R,h1.frame (fun a m=>h a (h3.subset (Zz4 _ m))) (fun a m=>h a (h3.subset (Zz3 _ m))),h4⟩
end TM
end
section
namespace TM
open PySem PM
noncomputable abbrev PX:=TL→Option (T×TL)
noncomputable abbrev PBX:=TL→Option (Bool×TL)
noncomputable abbrev Sps:=List (Nat×Nat)
structure Cu extends Ctx where
 Fs:Nat→List Nat
 fs:∀i,∀a∈Fs i,a∈F0
structure Su(c:Cu)(O:List Nat)(S:Sps)(ρ:Lc)(σ:TL)(H:Hp)(Φ Ψ:Nat→List Nat): Prop where
 st:St c.toCtx O ρ σ H Φ
 sp:∀i d,(i,d)∈S→∀t,σ i=some t→∃v,ρ i=some v∧Sp H d v t (Ψ i)∧(∀a∈Ψ i,c.H0.length≤a∨a∈c.Fs i)∧∀j u,j≠i→σ j=some u→∀a∈Ψ i,a∉Φ j
 ap:∀i∈O,∀d,(i,d)∉S
 nw:∀i∈O,∀t,σ i=some t→∀a∈Φ i,c.H0.length≤a
noncomputable def SH(S:Sps)(σ:TL)(Ψ:Nat→List Nat)(a:Nat): Prop:=∃i d,(i,d)∈S∧(∃t,σ i=some t)∧a∈Ψ i
section
variable {c:Cu} {O:List Nat} {S:Sps} {ρ:Lc} {σ:TL} {H:Hp} {Φ Ψ:Nat→List Nat}
theorem Su.low(s:Su c O S ρ σ H Φ Ψ){k:Nat}{t:T}(e:σ k=some t): ∀a∈Φ k,a<H.length:=fun a m=>by
 obtain⟨_,_,r⟩:=s.st.slot k t e
 exact r.lt a m
theorem Su.up(s:Su c O S ρ σ H Φ Ψ){i d:Nat}(hi:(i,d)∈S){t:T}(e:σ i=some t): ∀a∈Ψ i,a∈Φ i:=fun a m=>by
 obtain⟨v,h1,h2,_⟩:=s.sp i d hi t e
 obtain⟨v',k1,k2⟩:=s.st.slot i t e
 rw[h1]at k1
 cases k1
 exact h2.sub k2 a m
theorem Su.shlow(s:Su c O S ρ σ H Φ Ψ){a:Nat}(h:SH S σ Ψ a): a<H.length:=by
 obtain⟨i,d,hi,⟨t,e⟩,m⟩:=h
 exact s.low e a (s.up hi e a m)
theorem Su.shoff(s:Su c O S ρ σ H Φ Ψ){a n:Nat}{t:T}(h:SH S σ Ψ a)(hn:∀d,(n,d)∉S)(e:σ n=some t): a∉Φ n:=by
 obtain⟨i,d,hi,⟨t',e'⟩,m⟩:=h
 obtain⟨_,_,_,_,k⟩:=s.sp i d hi t' e'
 exact k n t (fun q=>hn d (q▸hi)) e a m
theorem Su.ext(s:Su c O S ρ σ H Φ Ψ)(X:Hp): Su c O S ρ σ (H++X) Φ Ψ:=⟨s.st.ext X,fun i d hi t e=>by
 obtain⟨v,h1,h2,h3⟩:=s.sp i d hi t e
 obtain⟨v',k1,k2⟩:=s.st.slot i t e
 rw[h1]at k1
 cases k1
 exact⟨v,h1,h2.frame k2 fun a m=>Zy0 (k2.lt a m),h3⟩,s.ap,s.nw⟩
theorem Su.less{O':List Nat}{S':Sps}(s:Su c O S ρ σ H Φ Ψ)(h:∀i∈O',i∈O)(k:∀q∈S',q∈S): Su c O' S' ρ σ H Φ Ψ:=⟨s.st.less h,fun i d hi=>s.sp i d (k _ hi),fun i hi d m=>s.ap i (h i hi) d (k _ m),fun i hi=>s.nw i (h i hi)⟩
theorem Za6{k j:Nat}{t:T}(e:Zab σ k j=some t): j≠k∧σ j=some t:=by
 unfold Zab at e
 split at e
 ·first|exact Zx0 e|cases e
 ·rename_i h;exact⟨h,e⟩
theorem ZmI{N:List Nat}{j:Nat}{t:T}(e:Zb9 σ N j=some t): j∉N∧σ j=some t:=by
 unfold Zb9 at e
 split at e
 ·first|exact Zx0 e|cases e
 ·rename_i h;exact⟨h,e⟩
theorem Su.fewer{τ:TL}(s:Su c O S ρ σ H Φ Ψ)(h:∀j t,τ j=some t→σ j=some t): Su c O S ρ τ H Φ Ψ:=
 ⟨⟨fun i t e=>s.st.slot i t (h _ _ e),fun i t e=>s.st.src i t (h _ _ e),fun i hi t e=>by
  obtain⟨h1,h2,h3⟩:=s.st.own i hi t (h _ _ e)
  exact⟨h1,h2,fun j u hj ej=>h3 j u hj (h _ _ ej)⟩,s.st.len,s.st.keep,s.st.pos,s.st.f0⟩,fun i d hi t e=>by
  obtain⟨v,h1,h2,h3,h4⟩:=s.sp i d hi t (h _ _ e)
  exact⟨v,h1,h2,h3,fun j u hj ej=>h4 j u hj (h _ _ ej)⟩,s.ap,fun i hi t e=>s.nw i hi t (h _ _ e)⟩
theorem Su.del(s:Su c O S ρ σ H Φ Ψ)(k:Nat): Su c O S ρ (Zab σ k) H Φ Ψ:=s.fewer fun j t e=>(Za6 e).2
theorem SH.fewer{τ:TL}{a:Nat}(h:∀j t,τ j=some t→σ j=some t)(x:SH S τ Ψ a): SH S σ Ψ a:=by
 obtain⟨i,d,hi,⟨t,e⟩,m⟩:=x
 exact⟨i,d,hi,⟨t,h _ _ e⟩,m⟩
theorem SH.del{k a:Nat}(hS:∀d,(k,d)∉S): SH S (Zab σ k) Ψ a↔SH S σ Ψ a:=by
 constructor
 ·exact SH.fewer fun j t e=>(Za6 e).2
 ·rintro⟨i,d,hi,⟨t,e⟩,m⟩
  exact⟨i,d,hi,⟨t,by unfold Zab;rw[if_neg (fun q:i=k=>hS d (q▸hi))];exact e⟩,m⟩
theorem ZeW{k j:Nat}{t u:T}(e:ZI σ k t j=some u): (j=k∧u=t)∨(j≠k∧σ j=some u):=by
 unfold ZI at e
 split at e
 ·rename_i h;cases e;exact .inl ⟨h,rfl⟩
 ·rename_i h;exact .inr ⟨h,e⟩
theorem Zat{k j:Nat}{t u:T}(e:ZI σ k t j=some u)(h:j≠k): σ j=some u:=by
 rcases ZeW e with⟨q,_⟩ | ⟨_,e⟩
 ·exact absurd q h
 ·exact e
theorem Zfm{k a:Nat}{t1:T}(hS:∀d,(k,d)∉S): SH S (ZI σ k t1) Ψ a↔SH S σ Ψ a:=by
 constructor
 ·rintro⟨i,d,hi,⟨t,e⟩,m⟩
  exact⟨i,d,hi,⟨t,Zat e fun q=>hS d (q▸hi)⟩,m⟩
 ·rintro⟨i,d,hi,⟨t,e⟩,m⟩
  exact⟨i,d,hi,⟨t,by unfold ZI;rw[if_neg (fun q:i=k=>hS d (q▸hi))];exact e⟩,m⟩
theorem Su.putL{k:Nat}{v:V}{t:T}{F:List Nat}(s:Su c O S ρ σ H Φ Ψ)(hk:k∉O)(hS:∀d,(k,d)∉S)(r:RF H v t F)(hs:∀a∈F,c.H0.length≤a∨c.P a)(ho:∀i∈O,∀t',σ i=some t'→∀a∈Φ i,a∉F)(hp:∀a,SH S σ Ψ a→a∉F): Su c O S (upd ρ k v) (ZI σ k t) H (Zx Φ k F) Ψ:=
 ⟨s.st.put hk r hs ho,fun i d hi u e=>by
  have ne:i≠k:=fun q=>hS d (q▸hi)
  have e0:=Zat e ne
  obtain⟨w,h1,h2,h3,h4⟩:=s.sp i d hi u e0
  refine⟨w,by simp[PM.upd,ne,h1],h2,h3,fun j u' hj ej a m=>?_⟩
  by_cases q:j=k
  ·rw[q];simpa [Zx]using hp a ⟨i,d,hi,⟨u,e0⟩,m⟩
  ·simpa [Zx,q]using h4 j u' hj (Zat ej q) a m,s.ap,fun i hi t e=>by
  have q:i≠k:=fun q=>hk (q▸hi)
  simpa [Zx,q]using s.nw i hi t (Zat e q)⟩
theorem Su.putO{k:Nat}{v:V}{t:T}{F:List Nat}{O':List Nat}(s:Su c O S ρ σ H Φ Ψ)(hO:∀j∈O',j∈O∨j=k)(hS:∀d,(k,d)∉S)(r:RF H v t F)(nd:F.Nodup)(hn:∀a∈F,c.H0.length≤a)(hd:∀j u,j≠k→σ j=some u→∀a∈F,a∉Φ j): Su c O' S (upd ρ k v) (ZI σ k t) H (Zx Φ k F) Ψ:=by
 refine⟨⟨fun i u e=>?_,fun i u e=>?_,fun i hi u e=>?_,s.st.len,s.st.keep,s.st.pos,s.st.f0⟩,fun i d hi u e=>?_,fun i hi d m=>?_,fun i hi u e=>?_⟩
 ·by_cases q:i=k
  ·subst q
   rcases ZeW e with⟨_,q'⟩ | ⟨q',_⟩
   ·subst q';exact⟨v,by simp[PM.upd],by simpa [Zx]using r⟩
   ·exact absurd rfl q'
  ·simpa [PM.upd,Zx,q]using s.st.slot i u (Zat e q)
 ·by_cases q:i=k
  ·subst q;simpa [Zx]using fun a m=>Or.inl (hn a m)
  ·simpa [Zx,q]using s.st.src i u (Zat e q)
 ·by_cases q:i=k
  ·subst q
   simp only[Zx,if_true]
   refine⟨nd,fun a m=>.inl (hn a m),fun j w hj ej a m=>?_⟩
   simpa [hj]using hd j w hj (Zat ej hj) a m
  ·have hi':=(hO i hi).resolve_right q
   have e0:=Zat e q
   obtain⟨h1,h2,h3⟩:=s.st.own i hi' u e0
   simp only[Zx,q,if_false]
   refine⟨h1,h2,fun j w hj ej a m=>?_⟩
   by_cases q2:j=k
   ·simp only[q2,if_true]
    exact fun m2=>hd i u q e0 a m2 m
   ·simpa [q2]using h3 j w hj (Zat ej q2) a m
 ·have ne:i≠k:=fun q=>hS d (q▸hi)
  have e0:=Zat e ne
  obtain⟨w,h1,h2,h3,h4⟩:=s.sp i d hi u e0
  refine⟨w,by simp[PM.upd,ne,h1],h2,h3,fun j u' hj ej a m=>?_⟩
  by_cases q:j=k
  ·simp only[Zx,q,if_true]
   exact fun m2=>hd i u ne e0 a m2 (s.up hi e0 a m)
  ·simpa [Zx,q]using h4 j u' hj (Zat ej q) a m
 ·rcases hO i hi with q | q
  ·exact s.ap i q d m
  ·exact hS d (q▸m)
 ·by_cases q:i=k
  ·subst q;simpa [Zx]using hn
  ·simpa [Zx,q]using s.nw i ((hO i hi).resolve_right q) u (Zat e q)
theorem Su.drop{O1:List Nat}{k:Nat}{v:V}(s:Su c O1 S (upd ρ k v) σ H Φ Ψ)(hO:∀i∈O,i∈O1): Su c O S ρ (Zab σ k) H Φ Ψ:=by
 have s:=(s.del k).less hO (fun q h=>h)
 refine⟨⟨fun i t e=>?_,s.st.src,s.st.own,s.st.len,s.st.keep,s.st.pos,s.st.f0⟩,fun i d hi t e=>?_,s.ap,s.nw⟩
 ·obtain⟨w,h1,h2⟩:=s.st.slot i t e
  exact⟨w,by simpa [PM.upd,(Za6 e).1]using h1,h2⟩
 ·obtain⟨w,h1,h2⟩:=s.sp i d hi t e
  exact⟨w,by simpa [PM.upd,(Za6 e).1]using h1,h2⟩
end
noncomputable def EX(O:List Nat)(S:Sps)(N:List Nat)(u:Bool)(e:Ex)(p:PX): Prop:=∀(c:Cu) (ρ:Lc) (σ:TL) (H:Hp) (Φ Ψ:Nat→List Nat) (t:T) (σ':TL),Su c O S ρ σ H Φ Ψ→p σ=some (t,σ') →
 ∃v H' Φ' Ψ' F,e ρ H=some (v,H')∧H.length≤H'.length∧(∀a,a<H.length→¬SH S σ Ψ a→H'[a]?=H[a]?)∧Su c O S ρ σ' H' Φ' Ψ'∧(∀j t,(∀d,(j,d)∉S)→σ' j=some t→σ j=some t∧Φ' j=Φ j)∧(∀a,SH S σ' Ψ' a→H.length≤a∨SH S σ Ψ a)∧(∀s d,(s,d)∈S→(∃t,σ' s=some t)→∀a∈Φ' s,H.length≤a∨∃j,(∃t,σ j=some t)∧a∈Φ j)∧RF H' v t F∧(∀a∈F,From H N σ Φ a)∧(∀a,SH S σ' Ψ' a→a∉F) ∧
  (u=true→F.Nodup∧((∀n∈N,n∈O∧∀d,(n,d)∉S)→∀s d,(s,d)∈S→(∃t,σ' s=some t)→∀a∈Φ' s,a∉F))
noncomputable def BX(O:List Nat)(S:Sps)(e:Ts)(p:PBX): Prop:=∀(c:Cu) (ρ:Lc) (σ:TL) (H:Hp) (Φ Ψ:Nat→List Nat) (b:Bool) (σ':TL),Su c O S ρ σ H Φ Ψ→p σ=some (b,σ') →
 ∃H' Φ' Ψ',e ρ H=some (b,H')∧H.length≤H'.length∧(∀a,a<H.length→¬SH S σ Ψ a→H'[a]?=H[a]?)∧Su c O S ρ σ' H' Φ' Ψ'∧(∀j t,(∀d,(j,d)∉S)→σ' j=some t→σ j=some t∧Φ' j=Φ j)∧(∀a,SH S σ' Ψ' a→H.length≤a∨SH S σ Ψ a)
noncomputable def xP(p:PE): PX:=fun σ=>(p σ).map fun t=>(t,σ)
noncomputable def xB(p:PB): PBX:=fun σ=>(p σ).map fun t=>(t,σ)
section
variable {O N:List Nat} {S:Sps} {u:Bool}
theorem Zaj{e:Ex}{p:PE}(x:E O N u e p)(hN:∀n∈N,∀q∈S,q.1≠n:=by decide): EX O S N u e (xP p):=fun c ρ σ H Φ Ψ t σ' s h=>by
 have hN:∀n∈N,∀d,(n,d)∉S:=fun n hn d m=>hN n hn _ m rfl
 obtain⟨t',h1,h⟩:=Zz1.mp h
 cases h
 obtain⟨v,X,F,a1,a2,a3,a4⟩:=x c.toCtx ρ σ H Φ t s.st h1
 refine⟨v,H++X,Φ,Ψ,F,a1,by simp,fun a ha _=>Zy0 ha,s.ext X,fun j t _ e=>⟨e,rfl⟩,fun a h=>.inr h,fun s' d _ ⟨t,e⟩ a m=>.inr ⟨s',⟨t,e⟩,m⟩,a2,a3,fun a h q=>?_,fun hu=>⟨a4 hu,fun hN' s' d hs ⟨t',e⟩ a m q=>?_⟩⟩
 ·rcases a3 a q with h' | ⟨n,hn,⟨tn,en⟩,mn⟩
  ·have:=s.shlow h;lia
  ·exact s.shoff h (hN n hn) en mn
 ·rcases a3 a q with h' | ⟨n,hn,⟨tn,en⟩,mn⟩
  ·have:=s.low e a m;omega
  ·exact(s.st.own n (hN' n hn).1 tn en).2.2 s' t' (fun q=>hN n hn d (q▸hs)) e a mn m
theorem ZbU{e:Ts}{p:PB}(x:Bt O e p): BX O S e (xB p):=fun c ρ σ H Φ Ψ t σ' s h=>by
 obtain⟨t',h1,h⟩:=Zz1.mp h
 cases h
 obtain⟨X,a1⟩:=x c.toCtx ρ σ H Φ t s.st h1
 exact⟨H++X,Φ,Ψ,a1,by simp,fun a ha _=>Zy0 ha,s.ext X,fun j t _ e=>⟨e,rfl⟩,fun a h=>.inr h⟩
noncomputable def Zhi(p:PX): PBX:=fun σ=>(p σ).bind fun r=>(Zej r.1).map fun b=>(b,r.2)
theorem BX.val{e:Ex}{p:PX}(x:EX O S N u e p): BX O S (Zs e) (Zhi p):=fun c ρ σ H Φ Ψ b σ' s h=>by
 obtain⟨⟨t,σ1⟩,h1,h⟩:=Zz0.mp h
 obtain⟨b',h2,h⟩:=Zz1.mp h
 cases h
 obtain⟨v,H',Φ',Ψ',F,a1,a2,a3,a4,a5,a6,_,a7,_⟩:=x c ρ σ H Φ Ψ t σ1 s h1
 exact⟨H',Φ',Ψ',by simp only[Zs,a1,Zs0,Zkx a7 h2,Zs1],a2,a3,a4,a5,a6⟩
theorem Zj5{σ σ1:TL}{H H1 H2:Hp}{Ψ Ψ1:Nat→List Nat}(l:H.length≤H1.length)(a3:∀a,a<H.length→¬SH S σ Ψ a→H1[a]?=H[a]?)(a6:∀a,SH S σ1 Ψ1 a→H.length≤a∨SH S σ Ψ a)(b3:∀a,a<H1.length→¬SH S σ1 Ψ1 a→H2[a]?=H1[a]?): ∀a,a<H.length→¬SH S σ Ψ a→H2[a]?=H[a]?:=fun a ha hn=>by
 rw[b3 a (by lia) fun q=>(a6 a q).elim (fun q=>by lia) hn,a3 a ha hn]
theorem Zkj{σ σ1 σ2:TL}{H H1:Hp}{Ψ Ψ1 Ψ2:Nat→List Nat}(l:H.length≤H1.length)(a6:∀a,SH S σ1 Ψ1 a→H.length≤a∨SH S σ Ψ a)(b6:∀a,SH S σ2 Ψ2 a→H1.length≤a∨SH S σ1 Ψ1 a): ∀a,SH S σ2 Ψ2 a→H.length≤a∨SH S σ Ψ a:=fun a h=>by
 rcases b6 a h with q | q
 ·exact .inl (by lia)
 ·exact a6 a q
end
noncomputable def Ct(k:Nat)(C:Ex→Ex): Prop:=∀e ρ H,C e ρ H=(e ρ H).bind fun p=>C (Za k) (upd ρ k p.1) p.2
noncomputable def Vl(k:Nat)(f:Ex): Prop:=∃g:Lc→Option V,(∀ρ H,f ρ H=(g ρ).map fun v=>(v,H))∧∀ρ v,g (upd ρ k v)=g ρ
noncomputable def Of(k:Nat)(f:Ex): Prop:=∀ρ v H,f (upd ρ k v) H=f ρ H
noncomputable def Ofs(k:Nat)(f:Z7): Prop:=∀ρ v H,f (upd ρ k v) H=f ρ H
noncomputable def Cts(k:Nat)(C:Ex→Z7): Prop:=∀e ρ H,C e ρ H=(e ρ H).bind fun p=>C (Za k) (upd ρ k p.1) p.2
section
variable {k:Nat}
theorem Zba: Ct k fun e=>e:=fun e ρ H=>by
 show e ρ H=(e ρ H).bind fun p=>Za k (upd ρ k p.1) p.2
 cases e ρ H with
 | none=>rfl
 | some p=>simp[Za,upd]
theorem ZdU{o:V→V→Hp→Option (V×Hp)}{C:Ex→Ex}{g:Ex}(h:Ct k C)(hg:Of k g): Ct k fun e=>Zc o (C e) g:=fun e ρ H=>by
 simp only[Zc]
 rw[h e ρ H]
 cases e ρ H with
 | none=>rfl
 | some p=>simp only[Zs0,hg ρ p.1]
theorem ZgA{o:V→V→Hp→Option (V×Hp)}{C:Ex→Ex}{f:Ex}(h:Ct k C)(hf:Vl k f): Ct k fun e=>Zc o f (C e):=fun e ρ H=>by
 obtain⟨g,h1,h2⟩:=hf
 simp only[Zc,h1,h2]
 cases g ρ with
 | none=>cases e ρ H <;> rfl
 | some v=>
  simp only[Zs1,Zs0]
  rw[h e ρ H]
  cases e ρ H with
  | none=>rfl
  | some p=>rfl
theorem Cts.head{C:Ex→Ex}{g:Z7}(h:Ct k C)(hg:Ofs k g): Cts k fun e=>Zb (C e) g:=fun e ρ H=>by
 simp only[Zb]
 rw[h e ρ H]
 cases e ρ H with
 | none=>rfl
 | some p=>simp only[Zs0,hg ρ p.1]
theorem ZaR{C:Ex→Z7}{f:Ex}(h:Cts k C)(hf:Vl k f): Cts k fun e=>Zb f (C e):=fun e ρ H=>by
 obtain⟨g,h1,h2⟩:=hf
 simp only[Zb,h1,h2]
 cases g ρ with
 | none=>cases e ρ H <;> rfl
 | some v=>
  simp only[Zs1,Zs0]
  rw[h e ρ H]
  cases e ρ H with
  | none=>rfl
  | some p=>rfl
theorem Ct.tup{C:Ex→Z7}(h:Cts k C): Ct k fun e=>Z8 (C e):=fun e ρ H=>by
 simp only[Z8]
 rw[h e ρ H]
 cases e ρ H with
 | none=>rfl
 | some p=>rfl
theorem Ct.list{C:Ex→Z7}(h:Cts k C): Ct k fun e=>ZU (C e):=fun e ρ H=>by
 simp only[ZU]
 rw[h e ρ H]
 cases e ρ H with
 | none=>rfl
 | some p=>rfl
theorem Ct.call{f:List V→Hp→Option (V×Hp)}{C:Ex→Z7}(h:Cts k C): Ct k fun e=>Zh f (C e):=fun e ρ H=>by
 simp only[Zh]
 rw[h e ρ H]
 cases e ρ H with
 | none=>rfl
 | some p=>rfl
theorem Za8{i:Nat}(h:i≠k:=by decide): Vl k (Za i):=⟨fun ρ=>ρ i,fun ρ H=>rfl,fun ρ v=>by simp[upd,h]⟩
theorem Vl.int{i:Int}: Vl k (Zd i):=⟨fun _=>some (.int i),fun ρ H=>rfl,fun ρ v=>rfl⟩
theorem Vl.none: Vl k ZaT:=⟨fun _=>some .none,fun ρ H=>rfl,fun ρ v=>rfl⟩
theorem Vl.bool{i:Bool}: Vl k (ZbH i):=⟨fun _=>some (.bool i),fun ρ H=>rfl,fun ρ v=>rfl⟩
theorem Vl.str{i:Str}: Vl k (ZG i):=⟨fun _=>some (.str i),fun ρ H=>rfl,fun ρ v=>rfl⟩
end
noncomputable def ZaX(k:Nat)(p1 p2:PX): PX:=fun σ=>(p1 (Zab σ k)).bind fun r=>(p2 (ZI r.2 k r.1)).map fun r2=>(r2.1,Zab r2.2 k)
section
variable {O N:List Nat} {S:Sps} {u:Bool}
theorem Ziu{O1 N1:List Nat}{u1:Bool}{k:Nat}{C:Ex→Ex}{e:Ex}{p1 p2:PX}(hC:Ct k C)(x:EX O S N1 u1 e p1)(y:EX O1 S N u (C (Za k)) p2)(hO1:∀i∈O,i∈O1)(hS:∀d,(k,d)∉S)(hN:∀n∈N,∀d,(n,d)∉S)
  (go:∀(c:Cu) (ρ:Lc) (σ σ1:TL) (H H1:Hp) (Φ Ψ Φ1 Ψ1:Nat→List Nat) (v:V) (t:T) (F:List Nat),Su c O S ρ σ H Φ Ψ→H.length≤H1.length→Su c O S ρ σ1 H1 Φ1 Ψ1→(∀j t,(∀d,(j,d)∉S)→σ1 j=some t→σ j=some t∧Φ1 j=Φ j)→RF H1 v t F→(∀a∈F,From H N1 σ Φ a)→(∀a,SH S σ1 Ψ1 a→a∉F)→(u1=true→F.Nodup∧((∀n∈N1,n∈O∧∀d,(n,d)∉S)→∀s d,(s,d)∈S→(∃t,σ1 s=some t)→∀a∈Φ1 s,a∉F))→Su c O1 S (upd ρ k v) (ZI σ1 k t) H1 (Zx Φ1 k F) Ψ1)
  (c:Cu) (ρ:Lc) (σ:TL) (H:Hp) (Φ Ψ:Nat→List Nat) (t:T) (σ':TL) (s:Su c O S ρ σ H Φ Ψ) (h:ZaX k p1 p2 σ=some (t,σ')):
  ∃v H' Φ' Ψ' F,C e ρ H=some (v,H')∧H.length≤H'.length∧(∀a,a<H.length→¬SH S σ Ψ a→H'[a]?=H[a]?)∧Su c O S ρ σ' H' Φ' Ψ'∧(∀j t,(∀d,(j,d)∉S)→σ' j=some t→σ j=some t∧Φ' j=Φ j)∧(∀a,SH S σ' Ψ' a→H.length≤a∨SH S σ Ψ a)∧(∀s d,(s,d)∈S→(∃t,σ' s=some t)→∀a∈Φ' s,H.length≤a∨∃j,(∃t,σ j=some t)∧a∈Φ j)∧RF H' v t F∧(∀a∈F,H.length≤a∨∃n∈N.filter (fun n=>n != k)++(if k∈N then N1 else []),(∃t,σ n=some t)∧a∈Φ n)∧(∀a,SH S σ' Ψ' a→a∉F) ∧
   (u=true→F.Nodup∧((∀n∈N,n∈O1∧∀d,(n,d)∉S)→∀s d,(s,d)∈S→(∃t,σ' s=some t)→∀a∈Φ' s,a∉F)):=by
 obtain⟨⟨t1,σ1⟩,h1,h⟩:=Zz0.mp h
 obtain⟨⟨t2,σ2⟩,h2,h⟩:=Zz1.mp h
 cases h
 have sd:=s.del k
 obtain⟨v1,H1,Φ1,Ψ1,F1,a1,a2,a3,a4,a5,a6,a11,a7,a8,a9,a10⟩:=x c ρ (Zab σ k) H Φ Ψ t1 σ1 sd h1
 have s1:=go c ρ (Zab σ k) σ1 H H1 Φ Ψ Φ1 Ψ1 v1 t1 F1 sd a2 a4 a5 a7 a8 a9 a10
 simp only[SH.del hS]at a3 a6
 obtain⟨v2,H2,Φ2,Ψ2,F2,b1,b2,b3,b4,b5,b6,b11,b7,b8,b9,b10⟩:=y c (upd ρ k v1) (ZI σ1 k t1) H1 (Zx Φ1 k F1) Ψ1 t2 σ2 s1 h2
 simp only[Zfm hS]at b3 b6
 have shd2:∀a,SH S (Zab σ2 k) Ψ2 a→SH S σ2 Ψ2 a:=fun a=>(SH.del hS).mp
 refine⟨v2,H2,Φ2,Ψ2,F2,by rw[hC e ρ H,a1];exact b1,by lia,Zj5 a2 a3 a6 b3,b4.drop hO1,fun j w hj ej=>?_,fun a h=>Zkj a2 a6 b6 a (shd2 a h),fun s' d hs ⟨w,ew⟩ a m=>?_,b7,fun a m=>?_,fun a h=>b9 a (shd2 a h),fun hu=>⟨(b10 hu).1,fun hn s' d hs hw=>?_⟩⟩
 ·obtain⟨q,ej⟩:=Za6 ej
  obtain⟨e1,e2⟩:=b5 j w hj ej
  obtain⟨e3,e4⟩:=a5 j w hj (Zat e1 q)
  exact⟨(Za6 e3).2,by rw[e2];simpa [Zx,q]using e4⟩
 ·rcases b11 s' d hs ⟨w,(Za6 ew).2⟩ a m with q | ⟨j,⟨w',e'⟩,mj⟩
  ·exact .inl (by lia)
  ·by_cases q:j=k
   ·subst q
    simp only[Zx,if_true]at mj
    rcases a8 a mj with q | ⟨n',_,⟨w',e'⟩,mn'⟩
    ·exact .inl q
    ·exact .inr ⟨n',⟨w',(Za6 e').2⟩,mn'⟩
   ·simp only[Zx,q,if_false]at mj
    have e1:=Zat e' q
    by_cases hjs:∀d,(j,d)∉S
    ·obtain⟨e3,e4⟩:=a5 j w' hjs e1
     exact .inr ⟨j,⟨w',(Za6 e3).2⟩,e4▸mj⟩
    ·obtain⟨d',hd⟩:=Classical.not_forall.mp hjs
     rcases a11 j d' (Classical.not_not.mp hd) ⟨w',e1⟩ a mj with q | ⟨j',⟨w2,e2⟩,m2⟩
     ·exact .inl q
     ·exact .inr ⟨j',⟨w2,(Za6 e2).2⟩,m2⟩
 ·rcases b8 a m with q | ⟨n,hn,⟨w,e⟩,mn⟩
  ·exact .inl (by omega)
  ·by_cases q:n=k
   ·subst q
    simp only[Zx,if_true]at mn
    rcases a8 a mn with q | ⟨n',hn',⟨w',e'⟩,mn'⟩
    ·exact .inl q
    ·refine .inr ⟨n',List.mem_append_right _ ?_,⟨w',(Za6 e').2⟩,mn'⟩
     rw[if_pos hn];exact hn'
   ·simp only[Zx,q,if_false]at mn
    obtain⟨e3,e4⟩:=a5 n w (hN n hn) (Zat e q)
    exact .inr ⟨n,Zy7 _ (Zy9.mpr ⟨hn,by simpa using q⟩),⟨w,(Za6 e3).2⟩,e4▸mn⟩
 ·obtain⟨w,ew⟩:=hw
  exact(b10 hu).2 hn s' d hs ⟨w,(Za6 ew).2⟩
theorem ZbN{k:Nat}{C:Ex→Ex}{e:Ex}{p1 p2:PX}(hC:Ct k C)(x:EX O S [] true e p1)(y:EX (k::O) S N u (C (Za k)) p2)(hS:∀q∈S,q.1≠k:=by decide)(hN:∀n∈N,∀q∈S,q.1≠n:=by decide): EX O S (N.filter (fun n=>n != k)) u (C e) (ZaX k p1 p2):=fun c ρ σ H Φ Ψ t σ' s h=>by
 have hS:∀d,(k,d)∉S:=fun d m=>hS _ m rfl
 have hN:∀n∈N,∀d,(n,d)∉S:=fun n hn d m=>hN n hn _ m rfl
 obtain⟨v,H',Φ',Ψ',F,a1,a2,a3,a4,a5,a6,a11,a7,a8,a9,a10⟩:=Ziu hC x y (fun i hi=>Zy3 _ hi) hS hN (fun c ρ σ σ1 H H1 Φ Ψ Φ1 Ψ1 v t F s l s1 old r fr sh un=>by
  have new1:∀a∈F,H.length≤a:=fun a m=>(fr a m).nil
  obtain⟨nd1,of1⟩:=un rfl
  refine s1.putO (fun j hj=>by rcases Zz7.mp hj with h | h;exact .inr h;exact .inl h) hS r nd1 (fun a m=>Nat.le_trans s.st.len (new1 a m)) (fun j w hj ej a m q=>?_)
  by_cases hjs:∀d,(j,d)∉S
  ·obtain⟨e1,e2⟩:=old j w hjs ej
   have:=s.low e1 a (e2▸q)
   have:=new1 a m
   lia
  ·obtain⟨d,hd⟩:=Classical.not_forall.mp hjs
   exact of1 (by simp) j d (Classical.not_not.mp hd) ⟨w,ej⟩ a q m) c ρ σ H Φ Ψ t σ' s h
 refine⟨v,H',Φ',Ψ',F,a1,a2,a3,a4,a5,a6,a11,a7,fun a m=>?_,a9,fun hu=>⟨(a10 hu).1,fun hn=>(a10 hu).2 fun n hn'=>?_⟩⟩
 ·have:=a8 a m
  have e0:(if k∈N then([]:List Nat)else [])=[]:=by split <;> rfl
  rw[e0,List.append_nil]at this
  exact this
 ·by_cases q:n=k
  ·subst q;exact⟨Zz5,hS⟩
  ·obtain⟨k1,k2⟩:=hn n (Zy9.mpr ⟨hn',by simpa using q⟩)
   exact⟨Zz2 _ k1,k2⟩
theorem ZnT{k:Nat}{N1:List Nat}{u1:Bool}{C:Ex→Ex}{e:Ex}{p1 p2:PX}(hC:Ct k C)(x:EX O S N1 u1 e p1)(y:EX O S N u (C (Za k)) p2)(hk:k∉O)(hS:∀q∈S,q.1≠k)(hN1:∀n∈N1,n∉O∧∀q∈S,q.1≠n)(hN:∀n∈N,∀q∈S,q.1≠n): EX O S (N.filter (fun n=>n != k)++(if k∈N then N1 else [])) (u && !(N.contains k)) (C e) (ZaX k p1 p2):=fun c ρ σ H Φ Ψ t σ' s h=>by
 have hS:∀d,(k,d)∉S:=fun d m=>hS _ m rfl
 have hN:∀n∈N,∀d,(n,d)∉S:=fun n hn d m=>hN n hn _ m rfl
 have hN1':∀n∈N1,∀d,(n,d)∉S:=fun n hn d m=>(hN1 n hn).2 _ m rfl
 obtain⟨v,H',Φ',Ψ',F,a1,a2,a3,a4,a5,a6,a11,a7,a8,a9,a10⟩:=Ziu hC x y (fun i hi=>hi) hS hN (fun c ρ σ σ1 H H1 Φ Ψ Φ1 Ψ1 v t F s l s1 old r fr sh un=>by
  refine s1.putL hk hS r (fun a m=>s.st.from_src (fr a m)) (fun i hi w e a m q=>?_) sh
  obtain⟨e1,e2⟩:=old i w (s.ap i hi) e
  rw[e2]at m
  rcases fr a q with q | ⟨n,hn,⟨w',e'⟩,mn⟩
  ·have:=s.low e1 a m;lia
  ·exact(s.st.own i hi w e1).2.2 n w' (fun q=>(hN1 n hn).1 (q▸hi)) e' a m mn) c ρ σ H Φ Ψ t σ' s h
 refine⟨v,H',Φ',Ψ',F,a1,a2,a3,a4,a5,a6,a11,a7,a8,a9,fun hu=>?_⟩
 simp only[Bool.and_eq_true,Bool.not_eq_true',List.contains_eq_mem,decide_eq_false_iff_not]at hu
 refine⟨(a10 hu.1).1,fun hn=>(a10 hu.1).2 fun n hn'=>hn n ?_⟩
 exact Zz4 _ (Zy9.mpr ⟨hn',by simpa using fun q:n=k=>hu.2 (q▸hn')⟩)
end
end TM
end
section
namespace TM
open PySem PM
noncomputable def SimX(n:Nat)(sd:Sps)(fr:Bool)(f:List V→Hp→Option (V×Hp))(p:List T→Option (T×List T)): Prop:=
 ∀(H:Hp) (vs:List V) (ts:List T) (t:T) (us:List T) (Φ Ψ:Nat→List Nat),0<H.length→vs.length=n→ts.length=n →
 (∀(i:Nat) (t:T),ts[i]?=some t→∃v,vs[i]?=some v∧RF H v t (Φ i)) →
 (∀(i d:Nat),(i,d)∈sd→∀(v:V) (t:T),vs[i]?=some v→ts[i]?=some t→Sp H d v t (Ψ i)∧0∉Ψ i∧∀(j:Nat) (u:T),j≠i→ts[j]?=some u→∀a∈Ψ i,a∉Φ j) →
 p ts=some (t,us) →
 ∃(v:V) (H':Hp) (Φ' Ψ':Nat→List Nat) (F:List Nat),f vs H=some (v,H')∧H.length≤H'.length∧(∀a,a<H.length→(∀i d,(i,d)∈sd→a∉Ψ i)→H'[a]?=H[a]?)∧us.length=sd.length ∧
 (∀(k i d:Nat) (v:V) (u:T),sd[k]?=some (i,d)→vs[i]?=some v→us[k]?=some u→RF H' v u (Φ' i)∧Sp H' d v u (Ψ' i)∧(∀a∈Ψ' i,H.length≤a∨a∈Ψ i)∧(∀a∈Φ' i,H.length≤a∨∃j,j<n∧a∈Φ j)∧(∀a∈Ψ' i,a∉F)∧(∀j d',j≠i→(j,d')∈sd→∀a∈Ψ' i,a∉Φ' j)∧(fr=true→∀a∈Φ' i,a∉F)) ∧
 RF H' v t F∧(∀a∈F,H.length≤a∨∃j,j<n∧a∈Φ j)∧(fr=true→F.Nodup∧∀a∈F,H.length≤a)
noncomputable def XAs(O M:List Nat)(as:List (Option Nat))(es:Z7)(ps:PEs): Prop:=∀(c:Ctx) (ρ:Lc) (σ:TL) (H:Hp) (Φ:Nat→List Nat) (ts:List T),St c O ρ σ H Φ→ps σ=some ts→ts.length=as.length∧∃(vs:List V) (X:Hp),es ρ H=some (vs,H++X)∧vs.length=as.length∧(∀(i x:Nat),as[i]?=some (some x)→vs[i]?=ρ x∧ts[i]?=σ x)∧∀(i:Nat) (t:T),as[i]?=some none→ts[i]?=some t→∃v F,vs[i]?=some v∧RF (H++X) v t F∧∀a∈F,From H M σ Φ a
section
variable {O M:List Nat}
theorem XAs.nil: XAs O M [] Ze Zu:=fun c ρ σ H Φ ts s h=>by
 cases h
 exact⟨rfl,[],[],by simp[Ze],rfl,by simp,by simp⟩
theorem XAs.slot{x:Nat}{as:List (Option Nat)}{es:Z7}{ps:PEs}(y:XAs O M as es ps): XAs O M (some x::as) (Zb (Za x) es) (Zj (Zg x) ps):=fun c ρ σ H Φ ts s h=>by
 obtain⟨t,h1,h⟩:=Zz0.mp h
 obtain⟨rs,h2,h⟩:=Zz0.mp h
 cases h
 obtain⟨v,e1,_⟩:=s.slot x t h1
 obtain⟨l,vs,X,a1,a2,a3,a4⟩:=y c ρ σ H Φ rs s h2
 refine⟨by simp[l],v::vs,X,by simp[Zb,Za,e1,a1],by simp[a2],fun i z e=>?_,fun i t' e e'=>?_⟩
 ·cases i with
  | zero=>simp at e;subst e;exact⟨by simp[e1],by rw[List.getElem?_cons_zero];exact h1.symm⟩
  | succ i=>simpa using a3 i z (by simpa using e)
 ·cases i with
  | zero=>simp at e
  | succ i=>simpa using a4 i t' (by simpa using e) (by simpa using e')
theorem Zas{N:List Nat}{u:Bool}{e:Ex}{p:PE}{as:List (Option Nat)}{es:Z7}{ps:PEs}(x:E O N u e p)(hN:∀n∈N,n∈M)(y:XAs O M as es ps): XAs O M (none::as) (Zb e es) (Zj p ps):=fun c ρ σ H Φ ts s h=>by
 obtain⟨t,h1,h⟩:=Zz0.mp h
 obtain⟨rs,h2,h⟩:=Zz0.mp h
 cases h
 obtain⟨v,X,F,e1,e2,e3,_⟩:=x c ρ σ H Φ t s h1
 obtain⟨l,vs,Y,a1,a2,a3,a4⟩:=y c ρ σ (H++X) Φ rs (s.ext X) h2
 refine⟨by simp[l],v::vs,X++Y,by simp[Zb,e1,a1],by simp[a2],fun i z e=>?_,fun i t' e e'=>?_⟩
 ·cases i with
  | zero=>simp at e
  | succ i=>simpa using a3 i z (by simpa using e)
 ·cases i with
  | zero=>
   simp at e'
   subst e'
   exact⟨v,F,by simp,by rw[←List.append_assoc];exact e2.ext Y,fun a m=>(e3 a m).mono hN⟩
  | succ i=>
   obtain⟨w,G,k1,k2,k3⟩:=a4 i t' (by simpa using e) (by simpa using e')
   exact⟨w,G,by simpa using k1,by rw[←List.append_assoc];exact k2,fun a m=>(k3 a m).back⟩
end
noncomputable def pick{α:Type}: List Nat→List α→(Nat→α)→Nat→α
 | x::xs,u::us,g=>fun j=>if j=x then u else pick xs us g j
 | _,_,g=>g
theorem ZeX{α:Type}{g:Nat→α}: ∀{xs:List Nat} {us:List α},xs.length=us.length→∀j,(∃(k:Nat) (u:α),xs[k]?=some j∧us[k]?=some u∧pick xs us g j=u)∨(j∉xs∧pick xs us g j=g j)
 | [],[],_,j=>.inr ⟨by simp,rfl⟩
 | x::xs,u::us,h,j=>by
  by_cases q:j=x
  ·exact .inl ⟨0,u,by simp[q],by simp,by simp[pick,q]⟩
  ·rcases ZeX (g:=g) (xs:=xs) (us:=us) (by simpa using h) j with⟨k,w,h1,h2,h3⟩ | ⟨h1,h2⟩
   ·exact .inl ⟨k+1,w,by simpa using h1,by simpa using h2,by simpa [pick,q]using h3⟩
   ·exact .inr ⟨by simp[q,h1],by simpa [pick,q]using h2⟩
theorem ZiY{α:Type}{g:Nat→α}: ∀{xs:List Nat} {us:List α} {k j:Nat} {u:α},xs.Nodup→xs[k]?=some j→us[k]?=some u→pick xs us g j=u
 | [],_,_,_,_,_,h,_=>by simp at h
 | x::xs,[],_,_,_,_,_,h=>by simp at h
 | x::xs,w::us,0,j,u,nd,h1,h2=>by
  simp at h1 h2
  simp[pick,h1,h2]
 | x::xs,w::us,k+1,j,u,nd,h1,h2=>by
  simp at h1 h2
  have:j≠x:=fun q=>(List.nodup_cons.mp nd).1 (q▸Zy4 h1)
  simp only[pick,this,if_false]
  exact ZiY (List.nodup_cons.mp nd).2 h1 h2
noncomputable def Zan(b:Bool)(xs:List Nat)(p:List T→Option (T×List T))(ps:PEs): PX:=fun σ=>(ps σ).bind fun ts=>(p ts).bind fun r=>if b=true→r.1.flat=true then some (r.1,pick xs (r.2.map some) σ)else none
section
variable {O M:List Nat} {S:Sps}
theorem EX.call{n:Nat}{sd:Sps}{fr b:Bool}{f:List V→Hp→Option (V×Hp)}{p:List T→Option (T×List T)}{as:List (Option Nat)}{es:Z7}{ps:PEs}{xs:List Nat}(k:SimX n sd fr f p)(y:XAs O M as es ps)(hb:fr=true∨b=true:=by decide)(hn:as.length=n:=by decide)
  (hx:xs.length=sd.length:=by decide) (nd:xs.Nodup:=by decide) (hS:∀k,k<sd.length→(xs.getD k 0,(sd.getD k (0,0)).2)∈S∧as[(sd.getD k (0,0)).1]?=some (some (xs.getD k 0)):=by decide) (ha:∀i,i<as.length→(as.getD i none=none∨i∈sd.map (·.1)):=by decide) (nds:(sd.map (·.1)).Nodup:=by decide)
  (uq:∀q∈S,∀r∈S,q.1=r.1→q.2=r.2:=by decide) (hM:∀m∈M,m∉O∧∀q∈S,q.1≠m:=by decide):EX O S [] true (Zh f es) (Zan b xs p ps):=fun c ρ σ H Φ Ψ t σ' s h=>by
 have hM':∀m∈M,∀d,(m,d)∉S:=fun m hm d q=>(hM m hm).2 _ q rfl
 have at_k:∀(k i d:Nat),sd[k]?=some (i,d)→∃x,xs[k]?=some x∧(x,d)∈S∧as[i]?=some (some x):=fun k i d e=>by
  have hk:=(Zz6.mp e).1
  obtain⟨h1,h2⟩:=hS k hk
  have e1:sd.getD k (0,0)=(i,d):=by simp[List.getD,e]
  rw[e1]at h1 h2
  have:k<xs.length:=by omega
  refine⟨xs[k],Zy1 this,?_,?_⟩
  ·simpa [List.getD,Zy1 this]using h1
  ·simpa [List.getD,Zy1 this]using h2
 have slotS:∀(i x:Nat),as[i]?=some (some x)→∃(k d:Nat),sd[k]?=some (i,d)∧xs[k]?=some x∧(x,d)∈S:=fun i x e=>by
  have hi:=(Zz6.mp e).1
  rcases ha i hi with q | q
  ·simp[List.getD,e]at q
  ·obtain⟨k,hk,q⟩:=List.getElem_of_mem q
   rw[List.length_map]at hk
   have q:(sd.getD k (0,0)).1=i:=by simpa [List.getD,Zy1 hk]using q
   have e1:sd[k]?=some (i,(sd.getD k (0,0)).2):=by
    rw[Zy1 hk]
    have:sd.getD k (0,0)=sd[k]:=by simp[List.getD,Zy1 hk]
    rw[this]at q ⊢
    rw[←q]
   obtain⟨x',h1,h2,h3⟩:=at_k k i _ e1
   rw[e]at h3
   cases h3
   exact⟨k,_,e1,h1,h2⟩
 obtain⟨ts,h1,h⟩:=Zz0.mp h
 obtain⟨⟨t0,us⟩,h2,h⟩:=Zz0.mp h
 split at h
 case isFalse=>first|exact Zx0 h|cases h
 rename_i hfl
 cases h
 obtain⟨l,vs,X,a1,a2,a3,a4⟩:=y c.toCtx ρ σ H Φ ts s.st h1
 have sX:=s.ext X
 have len:(H++X).length=H.length+X.length:=List.length_append
 have ex:∀i:Nat,∃G:List Nat,∀t:T,ts[i]?=some t→∃v,vs[i]?=some v∧RF (H++X) v t G∧(as[i]?=some none→∀a∈G,From H M σ Φ a)∧∀x,as[i]?=some (some x)→G=Φ x:=fun i=>by
  cases e:as[i]? with
  | none=>exact⟨[],fun t et=>by
    have:=(Zz6.mp et).1
    have:=List.getElem?_eq_none_iff.mp e
    omega⟩
  | some o=>
   cases o with
   | none=>
    cases et:ts[i]? with
    | none=>exact⟨[],fun t q=>by cases q⟩
    | some t=>
     obtain⟨v,F,k1,k2,k3⟩:=a4 i t e et
     exact⟨F,fun t' q=>by cases q;exact⟨v,k1,k2,(fun _=>k3),(fun x q=>by cases q)⟩⟩
   | some x=>
    obtain⟨k1,k2⟩:=a3 i x e
    refine⟨Φ x,fun t q=>?_⟩
    rw[k2]at q
    obtain⟨v,e1,e2⟩:=sX.st.slot x t q
    exact⟨v,k1.trans e1,e2,(fun q=>by cases q),(fun x' q=>by cases q;rfl)⟩
 let Φc:Nat→List Nat:=fun i=>Classical.choose (ex i)
 have hΦ:∀(i:Nat) (t:T),ts[i]?=some t→∃v,vs[i]?=some v∧RF (H++X) v t (Φc i)∧(as[i]?=some none→∀a∈Φc i,From H M σ Φ a)∧∀x,as[i]?=some (some x)→Φc i=Φ x:=fun i=>Classical.choose_spec (ex i)
 let Ψc:Nat→List Nat:=fun i=>match as[i]? with
  | some (some x)=>Ψ x
  | _=>[]
 have hΨ:∀(i x:Nat),as[i]?=some (some x)→Ψc i=Ψ x:=fun i x e=>by simp only[Ψc,e]
 have hp:0<(H++X).length:=by have:=s.st.pos;have:=s.st.len;omega
 have argsrc:∀j,j<n→∀a∈Φc j,H.length≤a∨(∃x d,(x,d)∈S∧x∈xs∧(∃t,σ x=some t)∧a∈Φ x)∨∃m∈M,(∃t,σ m=some t)∧a∈Φ m:=fun j hj a m=>by
  have hjt:j<ts.length:=by omega
  obtain⟨v,k1,k2,k3,k4⟩:=hΦ j ts[j] (Zy1 hjt)
  have hja:j<as.length:=by omega
  cases e:as[j]? with
  | none=>have:=List.getElem?_eq_none_iff.mp e;omega
  | some o=>
   cases o with
   | none=>
    rcases k3 e a m with q | q
    ·exact .inl q
    ·exact .inr (.inr q)
   | some x=>
    obtain⟨k,d,q1,q2,q3⟩:=slotS j x e
    have:=k4 x e
    rw[this]at m
    obtain⟨_,et⟩:=a3 j x e
    exact .inr (.inl ⟨x,d,q3,Zy4 q2,⟨ts[j],by rw[←et];exact Zy1 hjt⟩,m⟩)
 obtain⟨v,H',Φ',Ψ',F,b1,b2,b3,b4,b5,b6,b7,b8⟩:=k (H++X) vs ts t0 us Φc Ψc hp (by omega) (by omega) (fun i t e=>by
   obtain⟨v,k1,k2,_⟩:=hΦ i t e
   exact⟨v,k1,k2⟩) (fun i d hi v t ev et=>by
   obtain⟨k,hk,ek⟩:=List.getElem_of_mem hi
   obtain⟨x,x1,x2,x3⟩:=at_k k i d (by rw[Zy1 hk,ek])
   obtain⟨e1,e2⟩:=a3 i x x3
   rw[e1]at ev
   rw[e2]at et
   obtain⟨v',q1,q2,q3,q4⟩:=sX.sp x d x2 t et
   rw[ev]at q1
   cases q1
   rw[hΨ i x x3]
   refine⟨q2,fun m=>?_,fun j u hj ej a m q=>?_⟩
   ·have:=s.st.pos
    rcases q3 0 m with q | q
    ·omega
    ·exact s.st.f0 (c.fs _ _ q)
   ·obtain⟨v',k1,k2,k3,k4⟩:=hΦ j u ej
    have hjn:j<as.length:=by have:=(Zz6.mp ej).1;omega
    cases e:as[j]? with
    | none=>have:=List.getElem?_eq_none_iff.mp e;omega
    | some o=>
     cases o with
     | none=>
      rcases k3 e a q with q | ⟨m',hm',⟨tm,em⟩,mm⟩
      ·have:=s.low et a (s.up x2 et a m);omega
      ·exact q4 m' tm (fun q=>hM' m' hm' d (q▸x2)) em a m mm
     | some z=>
      rw[k4 z e]at q
      obtain⟨_,ez⟩:=a3 j z e
      obtain⟨k',d',z1,z2,z3⟩:=slotS j z e
      have:z≠x:=fun q=>by
       subst q
       have hk1:=(Zz6.mp z2).1
       have:k'=k:=(List.getElem?_inj hk1 nd).mp (z2.trans x1.symm)
       subst this
       rw[Zy1 hk,ek]at z1
       cases z1
       exact hj rfl
      exact q4 z u this (by rw[←ez];exact ej) a m q) h2
 have same:∀a,a<H.length→(∀x∈xs,a∉Ψ x)→H'[a]?=H[a]?:=fun a ha hn=>by
  rw[b3 a (by omega) fun i d hi m=>?_,Zy0 ha]
  obtain⟨k,hk,ek⟩:=List.getElem_of_mem hi
  obtain⟨x,x1,x2,x3⟩:=at_k k i d (by rw[Zy1 hk,ek])
  rw[hΨ i x x3]at m
  exact hn x (Zy4 x1) m
 have lus:xs.length=(us.map some).length:=by simp[b4,hx]
 have lsd1:xs.length=(sd.map fun q=>Φ' q.1).length:=by simp[hx]
 have lsd2:xs.length=(sd.map fun q=>Ψ' q.1).length:=by simp[hx]
 have chg:∀(kk x:Nat) (w:T),xs[kk]?=some x→us[kk]?=some w→∃(i d:Nat) (v0:V) (t0:T),sd[kk]?=some (i,d)∧(x,d)∈S∧as[i]?=some (some x)∧ρ x=some v0∧σ x=some t0∧vs[i]?=some v0∧pick xs (sd.map fun q=>Φ' q.1) Φ x=Φ' i∧pick xs (sd.map fun q=>Ψ' q.1) Ψ x=Ψ' i:=fun kk x w ex' ew=>by
  have hk:kk<sd.length:=by have:=(Zz6.mp ex').1;omega
  obtain⟨x',x1,x2,x3⟩:=at_k kk sd[kk].1 sd[kk].2 (Zy1 hk)
  rw[ex']at x1
  cases x1
  obtain⟨e1,e2⟩:=a3 _ x x3
  have hi:sd[kk].1<as.length:=(Zz6.mp x3).1
  have et:σ x=some ts[sd[kk].1]:=by rw[←e2];exact Zy1 (by omega)
  obtain⟨v0,ev0,_⟩:=s.st.slot x _ et
  refine⟨sd[kk].1,sd[kk].2,v0,_,Zy1 hk,x2,x3,ev0,et,e1.trans ev0,ZiY nd ex' (by simp[Zy1 hk]),ZiY nd ex' (by simp[Zy1 hk])⟩
 have unch:∀j,j∉xs→pick xs (us.map some) σ j=σ j∧pick xs (sd.map fun q=>Φ' q.1) Φ j=Φ j∧pick xs (sd.map fun q=>Ψ' q.1) Ψ j=Ψ j:=fun j hj=>by
  refine⟨?_,?_,?_⟩
  ·rcases ZeX (g:=σ) lus j with⟨k,u,q,_⟩ | ⟨_,q⟩
   ·exact absurd (Zy4 q) hj
   ·exact q
  ·rcases ZeX (g:=Φ) lsd1 j with⟨k,u,q,_⟩ | ⟨_,q⟩
   ·exact absurd (Zy4 q) hj
   ·exact q
  ·rcases ZeX (g:=Ψ) lsd2 j with⟨k,u,q,_⟩ | ⟨_,q⟩
   ·exact absurd (Zy4 q) hj
   ·exact q
 have slot_cases:∀(j:Nat) (w:T),pick xs (us.map some) σ j=some w→(∃kk:Nat,xs[kk]?=some j∧us[kk]?=some w)∨(j∉xs∧σ j=some w):=fun j w e=>by
  rcases ZeX (g:=σ) lus j with⟨k,u,q1,q2,q3⟩ | ⟨q1,q2⟩
  ·rw[q3]at e
   subst e
   rw[List.getElem?_map]at q2
   obtain⟨z,z1,z2⟩:=Zz1.mp q2
   cases z2
   exact .inl ⟨k,q1,z1⟩
  ·exact .inr ⟨q1,by rw[←q2];exact e⟩
 have xsS:∀x∈xs,∃d,(x,d)∈S:=fun x hx'=>by
  obtain⟨k,hk,e⟩:=List.getElem_of_mem hx'
  obtain⟨x',x1,x2,x3⟩:=at_k k sd[k].1 sd[k].2 (Zy1 (by omega))
  rw[Zy1 hk,e]at x1
  cases x1
  exact⟨_,x2⟩
 have xsσ:∀x∈xs,∃t,σ x=some t:=fun x hx'=>by
  obtain⟨k,hk,e⟩:=List.getElem_of_mem hx'
  have hu:k<us.length:=by omega
  obtain⟨_,_,_,t',_,_,_,_,q,_⟩:=chg k x us[k] (by rw[Zy1 hk,e]) (Zy1 hu)
  exact⟨t',q⟩
 have xsΨ:∀x∈xs,∀j u,j≠x→σ j=some u→∀a∈Ψ x,a∉Φ j:=fun x hx' j u hj ej a m=>by
  obtain⟨d,hd⟩:=xsS x hx'
  obtain⟨t',et⟩:=xsσ x hx'
  exact(s.sp x d hd t' et).choose_spec.2.2.2 j u hj ej a m
 have spsrc:∀i' d',(i',d')∈sd→∀a∈Ψc i',∃x∈xs,a∈Ψ x:=fun i' d' hi a m=>by
  obtain⟨k,hk,ek⟩:=List.getElem_of_mem hi
  obtain⟨x,x1,x2,x3⟩:=at_k k i' d' (by rw[Zy1 hk,ek])
  rw[hΨ i' x x3]at m
  exact⟨x,Zy4 x1,m⟩
 have fnew:∀a∈F,H.length≤a:=fun a m=>by
  rcases hb with q | q
  ·have:=(b8 q).2 a m;omega
  ·have:=b6.flat (hfl q);rw[this]at m;cases m
 have keepsl:∀j w,j∉xs→σ j=some w→∀a∈Φ j,H'[a]?=H[a]?:=fun j w hj ej a m=>same a (s.low ej a m) fun x hx' q=>xsΨ x hx' j w (fun e=>hj (e▸hx')) ej a q m
 have foff:∀x∈xs,∀(kk:Nat) (w:T),xs[kk]?=some x→us[kk]?=some w→∀a∈pick xs (sd.map fun q=>Φ' q.1) Φ x,H.length≤a∨(∃x d,(x,d)∈S∧x∈xs∧(∃t,σ x=some t)∧a∈Φ x)∨∃m∈M,(∃t,σ m=some t)∧a∈Φ m:=fun x hx' kk w ex' ew a m=>by
  obtain⟨i,d,v0,t1,q1,q2,q3,q4,q5,q6,q7,q8⟩:=chg kk x w ex' ew
  rw[q7]at m
  rcases(b5 kk i d v0 w q1 q6 ew).2.2.2.1 a m with q | ⟨j,hj,q⟩
  ·exact .inl (by omega)
  ·exact argsrc j hj a q
 refine⟨v,H',pick xs (sd.map fun q=>Φ' q.1) Φ,pick xs (sd.map fun q=>Ψ' q.1) Ψ,F,by simp only[Zh,a1,Zs0,b1],by omega,fun a ha hn=>same a ha fun x hx' m=>?_,?_,fun j w hj ej=>?_,fun a hh=>?_,fun s' d hs ⟨w,ew⟩ a m=>?_,b6,fun a m=>.inl (fnew a m),fun a hh m=>?_,fun _=>⟨?_,fun _ s' d hs ⟨w,ew⟩ a m q=>?_⟩⟩
 ·obtain⟨d,hd⟩:=xsS x hx'
  exact hn ⟨x,d,hd,xsσ x hx',m⟩
 ·refine⟨⟨fun j w ej=>?_,fun j w ej a m=>?_,fun i hi w ei=>?_,by have:=s.st.len;omega,fun a ha hn=>?_,s.st.pos,s.st.f0⟩,fun i d hi w ei=>?_,s.ap,fun i hi w ei=>?_⟩
  ·rcases slot_cases j w ej with⟨kk,e1,e2⟩ | ⟨e1,e2⟩
   ·obtain⟨i,d,v0,t1,q1,q2,q3,q4,q5,q6,q7,q8⟩:=chg kk j w e1 e2
    rw[q7]
    exact⟨v0,q4,(b5 kk i d v0 w q1 q6 e2).1⟩
   ·obtain⟨v0,r1,r2⟩:=s.st.slot j w e2
    rw[(unch j e1).2.1]
    exact⟨v0,r1,r2.frame (keepsl j w e1 e2)⟩
  ·rcases slot_cases j w ej with⟨kk,e1,e2⟩ | ⟨e1,e2⟩
   ·rcases foff j (Zy4 e1) kk w e1 e2 a m with q | ⟨x,d,_,_,⟨t1,et⟩,mx⟩ | ⟨m',_,⟨tm,em⟩,mm⟩
    ·exact .inl (by have:=s.st.len;omega)
    ·exact s.st.src x t1 et a mx
    ·exact s.st.src m' tm em a mm
   ·rw[(unch j e1).2.1]at m
    exact s.st.src j w e2 a m
  ·have hix:i∉xs:=fun q=>by obtain⟨d,hd⟩:=xsS i q;exact s.ap i hi d hd
   obtain⟨u1,u2,_⟩:=unch i hix
   rw[u1]at ei
   rw[u2]
   obtain⟨o1,o2,o3⟩:=s.st.own i hi w ei
   refine⟨o1,o2,fun j z hj ej a m q=>?_⟩
   rcases slot_cases j z ej with⟨kk,e1,e2⟩ | ⟨e1,e2⟩
   ·rcases foff j (Zy4 e1) kk z e1 e2 a q with q | ⟨x,d,_,hxx,⟨t1,et⟩,mx⟩ | ⟨m',hm',⟨tm,em⟩,mm⟩
    ·have:=s.low ei a m;omega
    ·exact o3 x t1 (fun q=>hix (q▸hxx)) et a m mx
    ·exact o3 m' tm (fun q=>(hM m' hm').1 (q▸hi)) em a m mm
   ·rw[(unch j e1).2.1]at q
    exact o3 j z hj e2 a m q
  ·rw[same a (by have:=s.st.len;omega) fun x hx' m=>?_]
   ·exact s.st.keep a ha hn
   ·obtain⟨d,hd⟩:=xsS x hx'
    obtain⟨t',et⟩:=xsσ x hx'
    rcases(s.sp x d hd t' et).choose_spec.2.2.1 a m with q | q
    ·omega
    ·exact hn (c.fs _ _ q)
  ·rcases slot_cases i w ei with⟨kk,e1,e2⟩ | ⟨e1,e2⟩
   ·obtain⟨i',d',v0,t1,q1,q2,q3,q4,q5,q6,q7,q8⟩:=chg kk i w e1 e2
    have:d=d':=uq _ hi _ q2 rfl
    subst this
    obtain⟨c1,c2,c3,c4,c5,c6,c7⟩:=b5 kk i' d v0 w q1 q6 e2
    rw[q8]
    refine⟨v0,q4,c2,fun a m=>?_,fun j z hj ej a m q=>?_⟩
    ·rcases c3 a m with q | q
     ·exact .inl (by have:=s.st.len;omega)
     ·rw[hΨ i' i q3]at q
      exact(s.sp i d hi t1 q5).choose_spec.2.2.1 a q
    ·rcases slot_cases j z ej with⟨kj,f1,f2⟩ | ⟨f1,f2⟩
     ·obtain⟨ij,dj,vj,tj,r1,r2,r3,r4,r5,r6,r7,r8⟩:=chg kj j z f1 f2
      rw[r7]at q
      have hne:ij≠i':=fun e=>by
       subst e
       have hk1:kj<(sd.map (·.1)).length:=by simp;exact(Zz6.mp r1).1
       have:kj=kk:=(List.getElem?_inj hk1 nds).mp (by simp[List.getElem?_map,r1,q1])
       subst this
       rw[e1]at f1
       cases f1
       exact hj rfl
      exact c6 ij dj hne (Zy4 r1) a m q
     ·rw[(unch j f1).2.1]at q
      rcases c3 a m with q' | q'
      ·have:=s.low f2 a q;omega
      ·rw[hΨ i' i q3]at q'
       exact xsΨ i (Zy4 e1) j z hj f2 a q' q
   ·obtain⟨u1,u2,u3⟩:=unch i e1
    rw[u3]
    obtain⟨v0,p1,p2,p3,p4⟩:=s.sp i d hi w e2
    obtain⟨v0',r1,r2⟩:=s.st.slot i w e2
    rw[p1]at r1
    cases r1
    refine⟨v0,p1,p2.frame r2 (keepsl i w e1 e2),p3,fun j z hj ej a m q=>?_⟩
    rcases slot_cases j z ej with⟨kj,f1,f2⟩ | ⟨f1,f2⟩
    ·rcases foff j (Zy4 f1) kj z f1 f2 a q with q | ⟨x,dx,_,hxx,⟨t1,et⟩,mx⟩ | ⟨m',hm',⟨tm,em⟩,mm⟩
     ·have:=s.low e2 a (s.up hi e2 a m);omega
     ·exact p4 x t1 (fun q=>e1 (q▸hxx)) et a m mx
     ·exact p4 m' tm (fun q=>hM' m' hm' d (q▸hi)) em a m mm
    ·rw[(unch j f1).2.1]at q
     exact p4 j z hj f2 a m q
  ·have hix:i∉xs:=fun q=>by obtain⟨d,hd⟩:=xsS i q;exact s.ap i hi d hd
   obtain⟨u1,u2,_⟩:=unch i hix
   rw[u1]at ei
   rw[u2]
   exact s.nw i hi w ei
 ·have hjx:j∉xs:=fun q=>by obtain⟨d,hd⟩:=xsS j q;exact hj d hd
  obtain⟨u1,u2,u3⟩:=unch j hjx
  exact⟨by rw[←u1];exact ej,u2⟩
 ·obtain⟨i,d,hi,⟨w,ei⟩,m⟩:=hh
  rcases slot_cases i w ei with⟨kk,e1,e2⟩ | ⟨e1,e2⟩
  ·obtain⟨i',d',v0,t1,q1,q2,q3,q4,q5,q6,q7,q8⟩:=chg kk i w e1 e2
   rw[q8]at m
   rcases(b5 kk i' d' v0 w q1 q6 e2).2.2.1 a m with q | q
   ·exact .inl (by omega)
   ·rw[hΨ i' i q3]at q
    exact .inr ⟨i,d',q2,⟨t1,q5⟩,q⟩
  ·rw[(unch i e1).2.2]at m
   exact .inr ⟨i,d,hi,⟨w,e2⟩,m⟩
 ·rcases slot_cases s' w ew with⟨kk,e1,e2⟩ | ⟨e1,e2⟩
  ·rcases foff s' (Zy4 e1) kk w e1 e2 a m with q | ⟨x,d,_,_,ht,mx⟩ | ⟨m',_,ht,mm⟩
   ·exact .inl q
   ·exact .inr ⟨x,ht,mx⟩
   ·exact .inr ⟨m',ht,mm⟩
  ·rw[(unch s' e1).2.1]at m
   exact .inr ⟨s',⟨w,e2⟩,m⟩
 ·obtain⟨i,d,hi,⟨w,ei⟩,m'⟩:=hh
  rcases slot_cases i w ei with⟨kk,e1,e2⟩ | ⟨e1,e2⟩
  ·obtain⟨i',d',v0,t1,q1,q2,q3,q4,q5,q6,q7,q8⟩:=chg kk i w e1 e2
   rw[q8]at m'
   exact(b5 kk i' d' v0 w q1 q6 e2).2.2.2.2.1 a m' m
  ·rw[(unch i e1).2.2]at m'
   have:=s.low e2 a (s.up hi e2 a m')
   have:=fnew a m
   omega
 ·rcases hb with q | q
  ·exact(b8 q).1
  ·have:=b6.flat (hfl q);rw[this];exact List.nodup_nil
 ·rcases slot_cases s' w ew with⟨kk,e1,e2⟩ | ⟨e1,e2⟩
  ·obtain⟨i',d',v0,t1,q1,q2,q3,q4,q5,q6,q7,q8⟩:=chg kk s' w e1 e2
   rw[q7]at m
   rcases hb with qb | qb
   ·exact(b5 kk i' d' v0 w q1 q6 e2).2.2.2.2.2.2 qb a m q
   ·have:=b6.flat (hfl qb);rw[this]at q;cases q
  ·rw[(unch s' e1).2.1]at m
   have:=s.low e2 a m
   have:=fnew a q
   omega
end
end TM
end
section
namespace TM
open PySem PM
noncomputable def HU(O:List Nat)(S:Sps)(σ:TL)(Φ Ψ:Nat→List Nat)(a:Nat): Prop:=Held O σ Φ a∨SH S σ Ψ a
noncomputable def AftU(c:Cu)(O:List Nat)(S:Sps)(O':List Nat)(S' SR:Sps)(fr:Bool)(ρ:Lc)(σ:TL)(H:Hp)(Φ Ψ:Nat→List Nat)(g:Option (Option V×Lc×Hp))(r:Option T×TL): Prop:=
 ∃(ρ':Lc) (H':Hp) (Φ' Ψ':Nat→List Nat),H.length≤H'.length∧(∀a,a<H.length→¬HU O S σ Φ Ψ a→H'[a]?=H[a]?)∧(∀q∈SR,ρ' q.1=ρ q.1) ∧
  ((r.1=none∧g=some (none,ρ',H')∧Su c O' S' ρ' r.2 H' Φ' Ψ'∧∀a,HU O' S' r.2 Φ' Ψ' a→H.length≤a∨HU O S σ Φ Ψ a) ∨
  ∃t v F,r.1=some t∧g=some (some v,ρ',H')∧RF H' v t F∧Su c [] SR ρ' r.2 H' Φ' Ψ'∧(∀a∈F,c.H0.length≤a∨c.P a)∧(∀a,SH SR r.2 Ψ' a→a∉F)∧(fr=true→F.Nodup∧(∀a∈F,c.H0.length≤a)∧∀s d,(s,d)∈SR→(∃t,r.2 s=some t)→∀a∈Φ' s,a∉F))
noncomputable def SU(O:List Nat)(S:Sps)(O':List Nat)(S' SR:Sps)(fr:Bool)(g:Sm)(q:PS): Prop:=∀(c:Cu) (ρ:Lc) (σ:TL) (H:Hp) (Φ Ψ:Nat→List Nat) (r:Option T×TL),(∀i,(∀q∈SR,q.1≠i)→c.Fs i=[])→Su c O S ρ σ H Φ Ψ→q σ=some r→AftU c O S O' S' SR fr ρ σ H Φ Ψ (g ρ H) r
section
variable {O O':List Nat} {S S' SR:Sps} {fr:Bool}
theorem HU.mono{O1:List Nat}{S1:Sps}{σ:TL}{Φ Ψ:Nat→List Nat}{a:Nat}(h:HU O S σ Φ Ψ a)(ho:∀i∈O,i∈O1)(hs:∀q∈S,q∈S1): HU O1 S1 σ Φ Ψ a:=by
 rcases h with h | ⟨i,d,hi,h⟩
 ·exact .inl (h.mono ho)
 ·exact .inr ⟨i,d,hs _ hi,h⟩
theorem HU.lt{c:Cu}{ρ:Lc}{σ:TL}{H:Hp}{Φ Ψ:Nat→List Nat}{a:Nat}(s:Su c O S ρ σ H Φ Ψ)(h:HU O S σ Φ Ψ a): a<H.length:=by
 rcases h with h | h
 ·exact h.lt s.st
 ·exact s.shlow h
theorem Zp8{O0:List Nat}{S0:Sps}{g:Sm}{q:PS}(x:SU O0 S0 O' S' SR fr g q)(h:∀i∈O0,i∈O)(k:∀q∈S0,q∈S): SU O S O' S' SR fr g q:=fun c ρ σ H Φ Ψ r hc s e=>by
 obtain⟨ρ',H',Φ',Ψ',h1,h2,hr,h3⟩:=x c ρ σ H Φ Ψ r hc (s.less h k) e
 refine⟨ρ',H',Φ',Ψ',h1,fun a ha hn=>h2 a ha fun q=>hn (q.mono h k),hr,?_⟩
 rcases h3 with⟨k1,k2,k3,k4⟩ | k'
 ·exact .inl ⟨k1,k2,k3,fun a m=>(k4 a m).imp id fun q=>q.mono h k⟩
 ·exact .inr k'
theorem SU.next: SU O S O S SR fr ZL Zai:=fun c ρ σ H Φ Ψ r hc s e=>by
 cases e
 exact⟨ρ,H,Φ,Ψ,Nat.le_refl _,fun _ _ _=>rfl,fun _ _=>rfl,.inl ⟨rfl,rfl,s,fun a m=>.inr m⟩⟩
theorem SU.seq{O1:List Nat}{S1:Sps}{a b:Sm}{p q:PS}(x:SU O S O1 S1 SR fr a p)(y:SU O1 S1 O' S' SR fr b q): SU O S O' S' SR fr (Zm a b) (ZD p q):=fun c ρ σ H Φ Ψ r hc s e=>by
 obtain⟨r1,e1,e⟩:=Zz0.mp e
 obtain⟨ρ1,H1,Φ1,Ψ1,h1,h2,hr,h3⟩:=x c ρ σ H Φ Ψ r1 hc s e1
 rcases h3 with⟨k1,k2,k3,k4⟩ | ⟨t,v,F,k1,k2,k3⟩
 ·rw[k1]at e
  obtain⟨ρ2,H2,Φ2,Ψ2,g1,g2,gr,g3⟩:=y c ρ1 r1.2 H1 Φ1 Ψ1 r hc k3 e
  refine⟨ρ2,H2,Φ2,Ψ2,Nat.le_trans h1 g1,fun a ha hn=>?_,fun q hq=>(gr q hq).trans (hr q hq),?_⟩
  ·rw[g2 a (by lia) fun q=>(k4 a q).elim (fun q=>by lia) hn,h2 a ha hn]
  ·have eg:Zm a b ρ H=b ρ1 H1:=by simp only[Zm,k2,Zs0]
   rw[eg]
   rcases g3 with⟨l1,l2,l3,l4⟩ | l
   ·refine .inl ⟨l1,l2,l3,fun a m=>?_⟩
    rcases l4 a m with q | q
    ·exact .inl (by lia)
    ·exact k4 a q
   ·exact .inr l
 ·rw[k1]at e
  cases e
  exact⟨ρ1,H1,Φ1,Ψ1,h1,h2,hr,.inr ⟨t,v,F,k1,by simp only[Zm,k2,Zs0],k3⟩⟩
noncomputable def ZaK(p:PX): PS:=fun σ=>(p σ).map fun r=>(some r.1,r.2)
theorem ZkE{N:List Nat}{u:Bool}{e:Ex}{p:PX}(x:EX O S N u e p)(hR:∀q∈SR,q∈S)(hf:fr=true→u=true∧∀n∈N,n∈O∧∀d,(n,d)∉S): SU O S O' S' SR fr (Zy e) (ZaK p):=fun c ρ σ H Φ Ψ r hc s q=>by
 obtain⟨⟨t,σ1⟩,h1,h⟩:=Zz1.mp q
 subst h
 obtain⟨v,H1,Φ1,Ψ1,F,a1,a2,a3,a4,a5,a6,a11,a7,a8,a9,a10⟩:=x c ρ σ H Φ Ψ t σ1 s h1
 refine⟨ρ,H1,Φ1,Ψ1,a2,fun a ha hn=>a3 a ha fun q=>hn (.inr q),fun _ _=>rfl,.inr ⟨t,v,F,rfl,by simp only[Zy,a1,Zs1],a7,a4.less (by simp) hR,fun a m=>s.st.from_src (a8 a m),fun a h=>a9 a ?_,fun hfr=>?_⟩⟩
 ·obtain⟨i,d,hi,h⟩:=h
  exact⟨i,d,hR _ hi,h⟩
 ·obtain⟨hu,hN⟩:=hf hfr
  refine⟨(a10 hu).1,fun a m=>?_,fun s' d hs=>(a10 hu).2 hN s' d (hR _ hs)⟩
  rcases a8 a m with q | ⟨n,hn,⟨w,e⟩,mn⟩
  ·exact Nat.le_trans s.st.len q
  ·exact s.nw n (hN n hn).1 w e a mn
theorem SU.ret{N:List Nat}{u:Bool}{e:Ex}{p:PX}(x:EX O S N u e p)(hR:∀q∈SR,q∈S): SU O S O' S' SR false (Zy e) (ZaK p):=ZkE x hR (by simp)
theorem Zbc{N:List Nat}{e:Ex}{p:PX}(x:EX O S N true e p)(hR:∀q∈SR,q∈S:=by decide)(hN:∀n∈N,n∈O∧∀q∈S,q.1≠n:=by decide): SU O S O' S' SR fr (Zy e) (ZaK p):=ZkE x hR fun _=>⟨rfl,fun n hn=>⟨(hN n hn).1,fun d m=>(hN n hn).2 _ m rfl⟩⟩
noncomputable def Zaq(i:Nat)(p:PX): PS:=fun σ=>(p σ).map fun r=>(none,ZI r.2 i r.1)
theorem SU.set{N:List Nat}{u:Bool}{i:Nat}{e:Ex}{p:PX}(x:EX O S N u e p)(hi:i∉O'∧(∀q∈S',q.1≠i)∧∀q∈SR,q.1≠i:=by decide)(hN:∀n∈N,n∉O'∧∀q∈S',q.1≠n:=by decide)(hO:(∀j∈O',j∈O)∧∀q∈S',q∈S:=by decide): SU O S O' S' SR fr (Zw i e) (Zaq i p):=fun c ρ σ H Φ Ψ r hc s q=>by
 obtain⟨⟨t,σ1⟩,h1,h⟩:=Zz1.mp q
 subst h
 obtain⟨v,H1,Φ1,Ψ1,F,a1,a2,a3,a4,a5,a6,a11,a7,a8,a9,a10⟩:=x c ρ σ H Φ Ψ t σ1 s h1
 have s1:=a4.less hO.1 hO.2
 have hS':∀d,(i,d)∉S':=fun d m=>hi.2.1 _ m rfl
 refine⟨upd ρ i v,H1,Zx Φ1 i F,Ψ1,a2,fun a ha hn=>a3 a ha fun q=>hn (.inr q),fun q hq=>by simp[upd,hi.2.2 q hq],.inl ⟨rfl,by simp only[Zw,a1,Zs1],s1.putL hi.1 hS' a7 (fun a m=>s.st.from_src (a8 a m)) (fun k hk w ek a m q=>?_) (fun a h=>?_),fun a h=>?_⟩⟩
 ·obtain⟨e1,e2⟩:=a5 k w (s.ap k (hO.1 k hk)) ek
  rw[e2]at m
  rcases a8 a q with q | ⟨n,hn,⟨w',e'⟩,mn⟩
  ·have:=s.low e1 a m;lia
  ·exact(s.st.own k (hO.1 k hk) w e1).2.2 n w' (fun q=>(hN n hn).1 (q▸hk)) e' a m mn
 ·obtain⟨k,d,hk,h⟩:=h
  exact a9 a ⟨k,d,hO.2 _ hk,h⟩
 ·rcases h with⟨k,hk,⟨w,ek⟩,m⟩ | h
  ·have ne:k≠i:=fun q=>hi.1 (q▸hk)
   have ek:=Zat ek ne
   simp only[Zx,ne,if_false]at m
   obtain⟨e1,e2⟩:=a5 k w (s.ap k (hO.1 k hk)) ek
   exact .inr (.inl ⟨k,hO.1 k hk,⟨w,e1⟩,e2▸m⟩)
  ·obtain⟨k,d,hk,h⟩:=(Zfm hS').mp h
   exact(a6 a ⟨k,d,hO.2 _ hk,h⟩).imp id .inr
theorem ZgB{c:Cu}{ρ:Lc}{σ σ1:TL}{H:Hp}{Φ Ψ Φ1:Nat→List Nat}{F:List Nat}(s:Su c O S ρ σ H Φ Ψ)(a5:∀j t,(∀d,(j,d)∉S)→σ1 j=some t→σ j=some t∧Φ1 j=Φ j)(new1:∀a∈F,H.length≤a)(of1:∀s d,(s,d)∈S→(∃t,σ1 s=some t)→∀a∈Φ1 s,a∉F)(j:Nat)(w:T)(ej:σ1 j=some w): ∀a∈F,a∉Φ1 j:=fun a m q=>by
 by_cases hjs:∀d,(j,d)∉S
 ·obtain⟨e1,e2⟩:=a5 j w hjs ej
  have:=s.low e1 a (e2▸q)
  have:=new1 a m
  lia
 ·obtain⟨d,hd⟩:=Classical.not_forall.mp hjs
  exact of1 j d (Classical.not_not.mp hd) ⟨w,ej⟩ a q m
theorem Zdp{i:Nat}{e:Ex}{p:PX}(x:EX O S [] true e p)(hi:(∀q∈S',q.1≠i)∧∀q∈SR,q.1≠i:=by decide)(hO:(∀j∈O',j∈O∨j=i)∧∀q∈S',q∈S:=by decide): SU O S O' S' SR fr (Zw i e) (Zaq i p):=fun c ρ σ H Φ Ψ r hc s q=>by
 obtain⟨⟨t,σ1⟩,h1,h⟩:=Zz1.mp q
 subst h
 obtain⟨v,H1,Φ1,Ψ1,F,a1,a2,a3,a4,a5,a6,a11,a7,a8,a9,a10⟩:=x c ρ σ H Φ Ψ t σ1 s h1
 have hS':∀d,(i,d)∉S':=fun d m=>hi.1 _ m rfl
 have new1:∀a∈F,H.length≤a:=fun a m=>(a8 a m).nil
 have s1:=a4.less (O':=O) (S':=S') (fun _ h=>h) hO.2
 refine⟨upd ρ i v,H1,Zx Φ1 i F,Ψ1,a2,fun a ha hn=>a3 a ha fun q=>hn (.inr q),fun q hq=>by simp[upd,hi.2 q hq],.inl ⟨rfl,by simp only[Zw,a1,Zs1],s1.putO hO.1 hS' a7 (a10 rfl).1 (fun a m=>Nat.le_trans s.st.len (new1 a m)) (fun j w _ ej=>ZgB s a5 new1 ((a10 rfl).2 (by simp)) j w ej),fun a h=>?_⟩⟩
 rcases h with⟨k,hk,⟨w,ek⟩,m⟩ | h
 ·by_cases q:k=i
  ·subst q
   simp only[Zx,if_true]at m
   exact .inl (new1 a m)
  ·have ek:=Zat ek q
   simp only[Zx,q,if_false]at m
   have hk:=(hO.1 k hk).resolve_right q
   obtain⟨e1,e2⟩:=a5 k w (s.ap k hk) ek
   exact .inr (.inl ⟨k,hk,⟨w,e1⟩,e2▸m⟩)
 ·obtain⟨k,d,hk,h⟩:=(Zfm hS').mp h
  exact(a6 a ⟨k,d,hO.2 _ hk,h⟩).imp id .inr
theorem Su.putS{c:Cu}{ρ:Lc}{σ:TL}{H:Hp}{Φ Ψ:Nat→List Nat}{k d:Nat}{v:V}{t:T}{F F1:List Nat}(s:Su c O S ρ σ H Φ Ψ)(hk:k∉O)(kS:∀d,(k,d)∉S)(r:RF H v t F)(p:Sp H d v t F1)(new:∀a∈F1,c.H0.length≤a)(dis:∀j u,j≠k→σ j=some u→∀a∈F1,a∉Φ j)(hs:∀a∈F,c.H0.length≤a∨c.P a)(ho:∀i∈O,∀t',σ i=some t'→∀a∈Φ i,a∉F)(hp:∀a,SH S σ Ψ a→a∉F): Su c O ((k,d)::S) (upd ρ k v) (ZI σ k t) H (Zx Φ k F) (Zx Ψ k F1):=by
 have s1:=s.putL (v:=v) (t:=t) hk kS r hs ho hp
 refine⟨s1.st,fun i d' hi u e=>?_,fun i hi d' m=>?_,s1.nw⟩
 ·by_cases q:i=k
  ·subst q
   have:d'=d:=by
    rcases Zz7.mp hi with h | h
    ·exact(Prod.mk.inj h).2
    ·exact absurd h (kS d')
   subst this
   rcases ZeW e with⟨_,q'⟩ | ⟨q',_⟩
   ·subst q'
    refine⟨v,by simp[upd],by simpa [Zx]using p,by simpa [Zx]using fun a m=>Or.inl (new a m),fun j w hj ej a m=>?_⟩
    simp only[Zx,if_true]at m
    simpa [Zx,hj]using dis j w hj (Zat ej hj) a m
   ·exact absurd rfl q'
  ·have hi':(i,d')∈S:=(Zz7.mp hi).resolve_left fun h=>q (Prod.mk.inj h).1
   obtain⟨w,h1,h2,h3,h4⟩:=s1.sp i d' hi' u e
   exact⟨w,h1,by simpa [Zx,q]using h2,by simpa [Zx,q]using h3,by simpa [Zx,q]using h4⟩
 ·rcases Zz7.mp m with h | h
  ·exact hk ((Prod.mk.inj h).1▸hi)
  ·exact s.ap i hi d' h
theorem ZkZ{N:List Nat}{u:Bool}{n i:Nat}{es:Z7}{ps:PEs}(x:Es O N u n es ps)(hn:n≤ZX)(hi:i∉O'∧(∀q∈S',q.1≠i)∧∀q∈SR,q.1≠i)(hN:∀n∈N,n∉O'∧∀q∈S',q.1≠n)(hO:(∀j∈O',j∈O)∧∀q∈S',q∈S): SU O S O' ((i,1)::S') SR fr (Zw i (ZU es)) (Zbi i (Zbq ps)):=fun c ρ σ H Φ Ψ r hc s q=>by
 obtain⟨t,h1,h⟩:=Zz1.mp q
 subst h
 obtain⟨ts,h1',h2⟩:=Zz1.mp h1
 subst h2
 obtain⟨hl,vs,X,G,b1,b2,b3,b4⟩:=x c.toCtx ρ σ H Φ ts s.st h1'
 have hS':∀d,(i,d)∉S':=fun d m=>hi.2.1 _ m rfl
 have lvs:=b2.length
 have e1:ZU es ρ H=some (.ref (H++X).length,(H++X)++[vs]):=by
  simp only[ZU,b1,Zs0]
  rw[if_pos (by lia)]
 have s1:=((s.ext X).ext [vs]).less hO.1 hO.2
 have hb:((H++X)++[vs])[(H++X).length]?=some vs:=by simp
 have rf:=RF.ref hb (b2.ext [vs])
 have g1:∀a∈G,a<(H++X).length:=b2.lt
 have p1:Sp ((H++X)++[vs]) 1 (.ref (H++X).length) (.lst ts) [(H++X).length]:=⟨G,RD.ref (by decide) hb (ZkY (b2.ext [vs])),by simp,fun a m q=>by
  have:=g1 a q
  rw[List.mem_singleton.mp m]at this
  lia⟩
 have ll:(H++X).length=H.length+X.length:=List.length_append
 have s1:=s1.putS (k:=i) (d:=1) hi.1 hS' rf p1 (fun a m=>by have:=s.st.len;rw[List.mem_singleton.mp m];lia) (fun j w _ ej a m q=>by
   have:=s.low ej a q
   rw[List.mem_singleton.mp m]at this
   lia) (fun a m=>by
   rcases Zz7.mp m with q | q
   ·exact .inl (by have:=s.st.len;lia)
   ·exact s.st.from_src (b3 a q)) (fun k hk w ek a m q=>by
   have lo:=s.low ek a m
   rcases Zz7.mp q with q | q
   ·lia
   ·rcases b3 a q with q | ⟨n',hn',⟨w',e'⟩,mn⟩
    ·lia
    ·exact(s.st.own k (hO.1 k hk) w ek).2.2 n' w' (fun q=>(hN n' hn').1 (q▸hk)) e' a m mn) (fun a h q=>by
   obtain⟨k,d',hk,⟨w,ek⟩,m⟩:=h
   have lo:=s.low ek a (s.up (hO.2 _ hk) ek a m)
   rcases Zz7.mp q with q | q
   ·omega
   ·rcases b3 a q with q | ⟨n',hn',⟨w',e'⟩,mn⟩
    ·omega
    ·exact(s.sp k d' (hO.2 _ hk) w ek).choose_spec.2.2.2 n' w' (fun q=>(hN n' hn').2 _ hk q.symm) e' a m mn)
 refine⟨upd ρ i (.ref (H++X).length),(H++X)++[vs],_,_,by simp,fun a ha hn=>by rw[List.append_assoc,Zy0 ha],fun q hq=>by simp[upd,hi.2.2 q hq],.inl ⟨rfl,by simp only[Zw,e1,Zs1],s1,fun a h=>?_⟩⟩
 rcases h with⟨k,hk,⟨w,ek⟩,m⟩ | ⟨k,d',hk,⟨w,ek⟩,m⟩
 ·have q:k≠i:=fun q=>hi.1 (q▸hk)
  simp only[Zx,q,if_false]at m
  exact .inr (.inl ⟨k,hO.1 k hk,⟨w,Zat ek q⟩,m⟩)
 ·by_cases q:k=i
  ·subst q
   simp only[Zx,if_true]at m
   exact .inl (by rw[List.mem_singleton.mp m];lia)
  ·simp only[Zx,q,if_false]at m
   have hk':(k,d')∈S':=(Zz7.mp hk).resolve_left fun h=>q (Prod.mk.inj h).1
   exact .inr (.inr ⟨k,d',hO.2 _ hk',⟨w,Zat ek q⟩,m⟩)
noncomputable def Zbn(b:PBX)(p q:PS): PS:=fun σ=>(b σ).bind fun x=>if x.1 then p x.2 else q x.2
theorem AftU.step{c:Cu}{ρ:Lc}{σ σ1:TL}{H H1:Hp}{Φ Ψ Φ1 Ψ1:Nat→List Nat}{g:Option (Option V×Lc×Hp)}{r:Option T×TL}(s:Su c O S ρ σ H Φ Ψ)(l:H.length≤H1.length)(a3:∀a,a<H.length→¬SH S σ Ψ a→H1[a]?=H[a]?)(a5:∀j t,(∀d,(j,d)∉S)→σ1 j=some t→σ j=some t∧Φ1 j=Φ j)(a6:∀a,SH S σ1 Ψ1 a→H.length≤a∨SH S σ Ψ a)(x:AftU c O S O' S' SR fr ρ σ1 H1 Φ1 Ψ1 g r): AftU c O S O' S' SR fr ρ σ H Φ Ψ g r:=by
 obtain⟨ρ',H',Φ',Ψ',h1,h2,hr,h3⟩:=x
 have up:∀a,HU O S σ1 Φ1 Ψ1 a→H.length≤a∨HU O S σ Φ Ψ a:=fun a h=>by
  rcases h with⟨j,hj,⟨t,e⟩,m⟩ | h
  ·obtain⟨e1,e2⟩:=a5 j t (s.ap j hj) e
   exact .inr (.inl ⟨j,hj,⟨t,e1⟩,e2▸m⟩)
  ·exact(a6 a h).imp id .inr
 refine⟨ρ',H',Φ',Ψ',by lia,fun a ha hn=>?_,hr,?_⟩
 ·rw[h2 a (by lia) fun q=>(up a q).elim (fun q=>by lia) hn,a3 a ha fun q=>hn (.inr q)]
 ·rcases h3 with⟨k1,k2,k3,k4⟩ | k
  ·refine .inl ⟨k1,k2,k3,fun a m=>?_⟩
   rcases k4 a m with q | q
   ·exact .inl (by lia)
   ·exact up a q
  ·exact .inr k
theorem ZbO{t:Ts}{pb:PBX}{a b:Sm}{p q:PS}(z:BX O S t pb)(x:SU O S O' S' SR fr a p)(y:SU O S O' S' SR fr b q): SU O S O' S' SR fr (Zz t a b) (Zbn pb p q):=fun c ρ σ H Φ Ψ r hc s e=>by
 obtain⟨⟨bb,σ1⟩,e1,e⟩:=Zz0.mp e
 obtain⟨H1,Φ1,Ψ1,a1,a2,a3,a4,a5,a6⟩:=z c ρ σ H Φ Ψ bb σ1 s e1
 cases bb with
 | true=>
  have:=x c ρ σ1 H1 Φ1 Ψ1 r hc a4 (by simpa using e)
  have eg:Zz t a b ρ H=a ρ H1:=by simp[Zz,a1]
  rw[eg]
  exact this.step s a2 a3 a5 a6
 | false=>
  have:=y c ρ σ1 H1 Φ1 Ψ1 r hc a4 (by simpa using e)
  have eg:Zz t a b ρ H=b ρ H1:=by simp[Zz,a1]
  rw[eg]
  exact this.step s a2 a3 a5 a6
noncomputable def Cs(k:Nat)(K:Ex→Sm): Prop:=∀e ρ H,K e ρ H=(e ρ H).bind fun p=>(K (Za k) (upd ρ k p.1) p.2).map fun r=>(r.1,ρ,r.2.2)
noncomputable def Kp(g:Sm): Prop:=∀ρ H r,g ρ H=some r→r.1=none∧r.2.1=ρ
noncomputable def ZdA(k:Nat)(p:PX)(q:PS): PS:=fun σ=>(p (Zab σ k)).bind fun r=>(q (ZI r.2 k r.1)).map fun r2=>(r2.1,Zab r2.2 k)
theorem ZgC{k:Nat}{K:Ex→Sm}{e:Ex}{p:PX}{q:PS}(hC:Cs k K)(hK:Kp (K (Za k)))(x:EX O S [] true e p)(y:SU (k::O) S O' S' SR fr (K (Za k)) q)(hk:(∀q∈S,q.1≠k)∧(∀q∈S',q.1≠k)∧k∉O∧k∉O')(hR:∀q∈SR,q.1≠k): SU O S O' S' SR fr (K e) (ZdA k p q):=fun c ρ σ H Φ Ψ r hc s h=>by
 have hS:∀d,(k,d)∉S:=fun d m=>hk.1 _ m rfl
 have hS':∀d,(k,d)∉S':=fun d m=>hk.2.1 _ m rfl
 obtain⟨⟨t1,σ1⟩,h1,h⟩:=Zz0.mp h
 obtain⟨⟨o,σ2⟩,h2,h⟩:=Zz1.mp h
 subst h
 have sd:=s.del k
 obtain⟨v1,H1,Φ1,Ψ1,F1,a1,a2,a3,a4,a5,a6,a11,a7,a8,a9,a10⟩:=x c ρ (Zab σ k) H Φ Ψ t1 σ1 sd h1
 have new1:∀a∈F1,H.length≤a:=fun a m=>(a8 a m).nil
 have s1:Su c (k::O) S (upd ρ k v1) (ZI σ1 k t1) H1 (Zx Φ1 k F1) Ψ1:=a4.putO (fun j hj=>by rcases Zz7.mp hj with h | h;exact .inr h;exact .inl h) hS a7 (a10 rfl).1 (fun a m=>Nat.le_trans s.st.len (new1 a m)) (fun j w _ ej=>ZgB sd a5 new1 ((a10 rfl).2 (by simp)) j w ej)
 obtain⟨ρ',H',Φ',Ψ',g1,g2,gr,g3⟩:=y c (upd ρ k v1) (ZI σ1 k t1) H1 (Zx Φ1 k F1) Ψ1 (o,σ2) hc s1 h2
 have up:∀a,HU (k::O) S (ZI σ1 k t1) (Zx Φ1 k F1) Ψ1 a→H.length≤a∨HU O S σ Φ Ψ a:=fun a h=>by
  rcases h with⟨j,hj,⟨t,e⟩,m⟩ | h
  ·by_cases q:j=k
   ·subst q
    simp only[Zx,if_true]at m
    exact .inl (new1 a m)
   ·simp only[Zx,q,if_false]at m
    have hj:=(Zz7.mp hj).resolve_left q
    obtain⟨e1,e2⟩:=a5 j t (s.ap j hj) (Zat e q)
    exact .inr (.inl ⟨j,hj,⟨t,(Za6 e1).2⟩,e2▸m⟩)
  ·rcases a6 a ((Zfm hS).mp h)with q | q
   ·exact .inl q
   ·exact .inr (.inr ((SH.del hS).mp q))
 rcases g3 with⟨k1,k2,k3,k4⟩ | ⟨t,v,F,k1,k2,_⟩
 ·have hρ:ρ'=upd ρ k v1:=(hK _ _ _ k2).2
  rw[hρ]at k2 k3
  refine⟨ρ,H',Φ',Ψ',by lia,fun a ha hn=>?_,fun _ _=>rfl,.inl ⟨k1,?_,k3.drop fun _ h=>h,fun a h=>?_⟩⟩
  ·rw[g2 a (by lia) fun q=>(up a q).elim (fun q=>by lia) hn,a3 a ha fun q=>hn (.inr ((SH.del hS).mp q))]
  ·rw[hC e ρ H,a1]
   simp only[Zs0,k2,Zs1]
  ·have h':HU O' S' σ2 Φ' Ψ' a:=by
    rcases h with⟨j,hj,⟨t,e⟩,m⟩ | h
    ·exact .inl ⟨j,hj,⟨t,(Za6 e).2⟩,m⟩
    ·exact .inr ((SH.del hS').mp h)
   rcases k4 a h' with q | q
   ·exact .inl (by lia)
   ·exact up a q
 ·have:=(hK _ _ _ k2).1
  cases this
theorem ZgP{k:Nat}{C:Ex→Ex}(h:Ct k C): Cs k fun e=>ZC (C e):=fun e ρ H=>by
 simp only[ZC]
 rw[h e ρ H]
 cases e ρ H with
 | none=>rfl
 | some p=>
  simp only[Zs0]
  cases C (Za k) (upd ρ k p.1) p.2 <;> rfl
theorem Zfn{f:Ex}: Kp (ZC f):=fun ρ H r h=>by
 obtain⟨_,_,q⟩:=Zz1.mp h
 subst q;exact⟨rfl,rfl⟩
theorem Ct.append{k:Nat}{C:Ex→Ex}{f:Ex}(h:Ct k C)(hf:Vl k f): Ct k fun e=>ZaD f (C e):=fun e ρ H=>by
 obtain⟨g,h1,h2⟩:=hf
 simp only[ZaD,h1,h2]
 cases g ρ with
 | none=>cases e ρ H <;> rfl
 | some v=>
  simp only[Zs1,Zs0]
  rw[h e ρ H]
  cases e ρ H with
  | none=>rfl
  | some p=>rfl
theorem Zp9{N R:List Nat}{x:Nat}{g:Sm}{q:PS}(y:TM.S O O' R fr g q)(hK:Kp g)(hq:∀σ r,q σ=some r→∃t',r.2=Zb9 (ZI σ x t') N)(hx:x∈O∧x∈O')(hO:∀j∈O,j∈O'∨j∈N)(hO':∀j∈O',j∈O): SU O S O' S SR fr g q:=fun c ρ σ H Φ Ψ r hc s h=>by
 obtain⟨ρ',H',Φ',h1,h2,h3⟩:=y c.toCtx ρ σ H Φ r s.st h
 obtain⟨t',er⟩:=hq σ r h
 have xS:∀d,(x,d)∉S:=s.ap x hx.1
 have old:∀j u,j≠x→r.2 j=some u→σ j=some u∧j∉N:=fun j u hj e=>by
  rw[er]at e
  obtain⟨k1,k2⟩:=ZmI e
  exact⟨Zat k2 hj,k1⟩
 rcases h3 with⟨k1,k2,k3,k4⟩ | ⟨t,v,F,k1,k2,_⟩
 ·have hρ:ρ'=ρ:=(hK _ _ _ k2).2
  subst hρ
  have frameL:∀j u,j∉O→σ j=some u→∀a∈Φ j,H'[a]?=H[a]?:=fun j u hj ej a m=>h2 a (s.low ej a m) fun⟨i,hi,⟨w,ei⟩,mi⟩=>(s.st.own i hi w ei).2.2 j u (fun q=>hj (q▸hi)) ej a mi m
  refine⟨ρ',H',Φ',Ψ,h1,fun a ha hn=>h2 a ha fun q=>hn (.inl q),fun _ _=>rfl,.inl ⟨k1,k2,⟨k3,fun i d hi t e=>?_,fun i hi d=>s.ap i (hO' i hi) d,fun i hi t e a m=>?_⟩,fun a h=>?_⟩⟩
  ·have ix:i≠x:=fun q=>xS d (q▸hi)
   have iO:i∉O:=fun q=>s.ap i q d hi
   obtain⟨e1,_⟩:=old i t ix e
   obtain⟨v,q1,q2,q3,q4⟩:=s.sp i d hi t e1
   obtain⟨v',w1,w2⟩:=s.st.slot i t e1
   rw[q1]at w1
   cases w1
   refine⟨v,q1,q2.frame w2 (frameL i t iO e1),q3,fun j u hj ej a m q=>?_⟩
   have lo:=s.low e1 a (s.up hi e1 a m)
   have inO:∀w,r.2 j=some w→j∈O'→False:=fun w ew hjO=>by
    rcases k4 a ⟨j,hjO,⟨w,ew⟩,q⟩with q | ⟨z,hz,⟨tz,ez⟩,mz⟩
    ·lia
    ·exact q4 z tz (fun q=>iO (q▸hz)) ez a m mz
   by_cases jx:j=x
   ·exact inO u ej (jx▸hx.2)
   ·obtain⟨e2,jN⟩:=old j u jx ej
    by_cases jO:j∈O
    ·rcases hO j jO with z | z
     ·exact inO u ej z
     ·exact jN z
    ·obtain⟨vj,w1,w2⟩:=s.st.slot j u e2
     obtain⟨vj',w3,w4⟩:=k3.slot j u ej
     rw[w1]at w3
     cases w3
     obtain⟨_,ef⟩:=w4.det (w2.frame (frameL j u jO e2))
     rw[ef]at q
     exact q4 j u hj e2 a m q
  ·rcases k4 a ⟨i,hi,⟨t,e⟩,m⟩with q | ⟨j,hj,⟨w,ej⟩,mj⟩
   ·exact Nat.le_trans s.st.len q
   ·exact s.nw j hj w ej a mj
  ·rcases h with h | ⟨i,d,hi,⟨t,e⟩,m⟩
   ·exact(k4 a h).imp id .inl
   ·have ix:i≠x:=fun q=>xS d (q▸hi)
    exact .inr (.inr ⟨i,d,hi,⟨t,(old i t ix e).1⟩,m⟩)
 ·have:=(hK _ _ _ k2).1
  cases this
theorem Zk0{x:Nat}{N:List Nat}{o e:Ex}{po:PPa}{p:PE}(hx:x∈O∧x∈O')(y:Pa O x o po)(z:E O N true e p)(hN:∀j∈N,j∈O∧j≠x)(hO:∀j∈O',j∈O∧j∉N)(hO2:∀j∈O,j∈O'∨j∈N): SU O S O' S SR fr (ZC (ZaD o e)) (ZeC x N po p):=
 Zp9 (R:=[]) (TM.S.app hx.1 y z hN hO) Zfn (fun σ r h=>by
  obtain⟨ks,_,h⟩:=Zz0.mp h
  obtain⟨w,_,h⟩:=Zz0.mp h
  obtain⟨t,_,h⟩:=Zz0.mp h
  obtain⟨t',_,h⟩:=Zz1.mp h
  subst h
  exact⟨t',rfl⟩) hx hO2 (fun j hj=>(hO j hj).1)
end
end TM
end
section
namespace TM
open PySem PM
section
variable {O O':List Nat} {S S' SR:Sps} {fr:Bool}
theorem Zk1{c:Cu}{ρ:Lc}{σ:TL}{H:Hp}{Φ Ψ:Nat→List Nat}{x d a b:Nat}{t t':T}{v:V}{vs':List V}{F2 R2 Fn Rn N:List Nat}(s:Su c O S ρ σ H Φ Ψ)(hx:(x,d)∈S)(uq:∀q∈S,∀r∈S,q.1=r.1→q.2=r.2)(ex:σ x=some t)(ev:ρ x=some v)(hb:c.H0.length≤b)(hlow:∀k t,σ k=some t→∀a∈Φ k,a<b)
  (ha:a∈Ψ x) (r:RD (H.set a vs') d v t' F2 R2) (nd:F2.Nodup) (dj:∀y∈F2,y∉R2) (f2:∀y∈F2,y∈Ψ x∨y∈Fn) (r2:∀y∈R2,y∈Φ x∨y∈Rn) (hFn:∀y∈Fn,b≤y) (hRn:∀y∈Rn,b≤y∨∃j∈N,(∃t,σ j=some t)∧y∈Φ j) (hN:∀n∈N,n∉O'∧∀d,(n,d)∉S') (hO:∀j∈O',j∈O) (hS:∀q∈S',q∈S):
  ∃G,Su c O' S' ρ (ZI σ x t') (H.set a vs') (Zx Φ x G) (Zx Ψ x F2)∧(∀y,HU O' S' (ZI σ x t') (Zx Φ x G) (Zx Ψ x F2) y→b≤y∨HU O S σ Φ Ψ y):=by
 obtain⟨G,rf,perm⟩:=r.rf
 obtain⟨v',q1,q2,q3,q4⟩:=s.sp x d hx t ex
 have xO:x∉O:=fun q=>s.ap x q d hx
 have gsub:∀y∈G,y∈Φ x∨b≤y∨∃j∈N,(∃t,σ j=some t)∧y∈Φ j:=fun y m=>by
  rcases Zz8.mp (perm.symm.subset m)with m | m
  ·rcases f2 y m with q | q
   ·exact .inl (s.up hx ex y q)
   ·exact .inr (.inl (hFn y q))
  ·rcases r2 y m with q | q
   ·exact .inl q
   ·exact .inr (hRn y q)
 have aoff:∀k u,k≠x→σ k=some u→a∉Φ k:=fun k u hk e=>q4 k u hk e a ha
 have fr:∀k u,k≠x→σ k=some u→∀y∈Φ k,(H.set a vs')[y]?=H[y]?:=fun k u hk e y m=>Zy2 fun q:a=y=>aoff k u hk e (q▸m)
 refine⟨G,⟨⟨fun k u e=>?_,fun k u e y m=>?_,fun k hk u e=>?_,by simpa using s.st.len,fun y hy hn=>?_,s.st.pos,s.st.f0⟩,fun k d' hk u e=>?_,fun k hk d' m=>s.ap k (hO k hk) d' (hS _ m),fun k hk u e=>?_⟩,fun y h=>?_⟩
 ·by_cases q:k=x
  ·subst q
   rcases ZeW e with⟨_,q'⟩ | ⟨q',_⟩
   ·subst q';exact⟨v,ev,by simpa [Zx]using rf⟩
   ·exact absurd rfl q'
  ·have e0:=Zat e q
   obtain⟨w,h1,h2⟩:=s.st.slot k u e0
   exact⟨w,h1,by simpa [Zx,q]using h2.frame (fr k u q e0)⟩
 ·by_cases q:k=x
  ·subst q
   simp only[Zx,if_true]at m
   rcases gsub y m with q | q | ⟨j,_,⟨tj,ej⟩,mj⟩
   ·exact s.st.src k t ex y q
   ·exact .inl (by lia)
   ·exact s.st.src j tj ej y mj
  ·simp only[Zx,q,if_false]at m
   exact s.st.src k u (Zat e q) y m
 ·have q:k≠x:=fun q=>xO (q▸hO k hk)
  have e0:=Zat e q
  obtain⟨o1,o2,o3⟩:=s.st.own k (hO k hk) u e0
  simp only[Zx,q,if_false]
  refine⟨o1,o2,fun j w hj ej y m=>?_⟩
  by_cases q2:j=x
  ·simp only[q2,if_true]
   intro m2
   rcases gsub y m2 with z | z | ⟨j',hj',⟨tj,ej'⟩,mj⟩
   ·exact o3 x t (Ne.symm q) ex y m z
   ·have:=hlow k u e0 y m;lia
   ·exact o3 j' tj (fun z=>(hN j' hj').1 (z▸hk)) ej' y m mj
  ·simpa [q2]using o3 j w hj (Zat ej q2) y m
 ·rw[Zy2 fun q=>?_]
  ·exact s.st.keep y hy hn
  ·subst q
   rcases q3 a ha with z | z
   ·lia
   ·exact hn (c.fs _ _ z)
 ·by_cases q:k=x
  ·subst q
   have:d'=d:=uq _ (hS _ hk) _ hx rfl
   subst this
   rcases ZeW e with⟨_,q'⟩ | ⟨q',_⟩
   ·subst q'
    refine⟨v,ev,by simpa [Zx]using ⟨R2,r,nd,dj⟩,fun y m=>?_,fun j w hj ej y m=>?_⟩
    ·simp only[Zx,if_true]at m
     rcases f2 y m with z | z
     ·exact q3 y z
     ·exact .inl (by have:=hFn y z;lia)
    ·simp only[Zx,if_true]at m
     simp only[Zx,hj,if_false]
     have ej:=Zat ej hj
     rcases f2 y m with z | z
     ·exact q4 j w hj ej y z
     ·intro m2
      have:=hlow j w ej y m2
      have:=hFn y z
      lia
   ·exact absurd rfl q'
  ·have e0:=Zat e q
   obtain⟨w,h1,h2,h3,h4⟩:=s.sp k d' (hS _ hk) u e0
   obtain⟨w',k1,k2⟩:=s.st.slot k u e0
   rw[h1]at k1
   cases k1
   simp only[Zx,q,if_false]
   refine⟨w,h1,h2.frame k2 (fr k u q e0),h3,fun j z hj ej y m=>?_⟩
   by_cases q2:j=x
   ·simp only[q2,if_true]
    intro m2
    rcases gsub y m2 with z | z | ⟨j',hj',⟨tj,ej'⟩,mj⟩
    ·exact h4 x t (Ne.symm q) ex y m z
    ·have:=hlow k u e0 y (s.up (hS _ hk) e0 y m);omega
    ·exact h4 j' tj (fun z=>(hN j' hj').2 d' (z▸hk)) ej' y m mj
   ·simpa [q2]using h4 j z hj (Zat ej q2) y m
 ·have q:k≠x:=fun q=>xO (q▸hO k hk)
  simpa [Zx,q]using s.nw k (hO k hk) u (Zat e q)
 ·rcases h with⟨k,hk,⟨w,ek⟩,m⟩ | ⟨k,d',hk,⟨w,ek⟩,m⟩
  ·have q:k≠x:=fun q=>xO (q▸hO k hk)
   simp only[Zx,q,if_false]at m
   exact .inr (.inl ⟨k,hO k hk,⟨w,Zat ek q⟩,m⟩)
  ·by_cases q:k=x
   ·subst q
    simp only[Zx,if_true]at m
    rcases f2 y m with z | z
    ·exact .inr (.inr ⟨k,d,hx,⟨t,ex⟩,z⟩)
    ·exact .inl (hFn y z)
   ·simp only[Zx,q,if_false]at m
    exact .inr (.inr ⟨k,d',hS _ hk,⟨w,Zat ek q⟩,m⟩)
theorem Zly{c:Cu}{ρ:Lc}{σ:TL}{H H3:Hp}{Φ Ψ:Nat→List Nat}{N Fw:List Nat}{u own:Bool}{d:Nat}{vw:V}{w:T}(r:RF H3 vw w Fw)(b3:∀a∈Fw,From H N σ Φ a)(b4:u=true→Fw.Nodup)(hm:own=true→u=true∧N=[])(hd:own=true∨d=0):
  ∃Fn Rn,RD H3 d vw w Fn Rn∧(∀y∈Fn,H.length≤y)∧Fn.Nodup∧(∀y∈Fn,y∉Rn)∧∀y∈Rn,From H N σ Φ y:=by
 cases own with
 | false=>
  have:d=0:=hd.resolve_left (by simp)
  subst this
  exact⟨[],Fw,.leaf r (.inl rfl),by simp,by simp,by simp,b3⟩
 | true=>
  obtain⟨hu,hN⟩:=hm rfl
  subst hN
  obtain⟨F,R,h1,h2⟩:=r.rd d
  have:=h2.nodup_iff.mpr (b4 hu)
  obtain⟨n1,n2,n3⟩:=List.nodup_append.mp this
  exact⟨F,R,h1,fun y m=>(b3 y (h2.subset (Zz4 _ m))).nil,n1,fun y m q=>n3 y m y q rfl,fun y m=>b3 y (h2.subset (Zz3 _ m))⟩
noncomputable def Zg9(x d:Nat)(own:Bool)(po:PPa)(p:PE): PS:=fun σ=>(po σ).bind fun ks=>(p σ).bind fun w=>(σ x).bind fun t=>if ks.length<d∧d≤999∧(own=true∨dnn d ks.length=0)then(Zdz (ZeB w) ks t).map fun t'=>(none,ZI σ x t')else none
noncomputable def Zes(x d:Nat)(own:Bool)(p:PE)(po:PPa)(pi:PE): PS:=fun σ=>(p σ).bind fun w=>(po σ).bind fun ks=>(pi σ).bind fun k=>match k with
 | .int k=>(σ x).bind fun t=>if ks.length<d∧d≤999∧(own=true∨dnn d ks.length=0)then(Zdz (ZjL k w) ks t).map fun t'=>(none,ZI σ x t')else none
 | _=>none
theorem Zkk{c:Cu}{ρ:Lc}{σ:TL}{H:Hp}{Φ Ψ:Nat→List Nat}{x d a:Nat}{t:T}(s:Su c O S ρ σ H Φ Ψ)(hx:(x,d)∈S)(ex:σ x=some t)(ha:a∈Ψ x): a≠0:=by
 have:=s.st.pos
 obtain⟨_,_,_,q,_⟩:=s.sp x d hx t ex
 rcases q a ha with q | q
 ·lia
 ·exact fun e=>s.st.f0 (e▸c.fs _ _ q)
theorem ZoW{x d:Nat}{N:List Nat}{u own:Bool}{o e:Ex}{po:PPa}{p:PE}(hx:(x,d)∈S∧(x,d)∈S')(uq:∀q∈S,∀r∈S,q.1=r.1→q.2=r.2)(y:PaU O x o po)(z:E O N u e p)(hm:own=true→u=true∧N=[])(hN:∀n∈N,n∉O'∧∀q∈S',q.1≠n)(hO:(∀j∈O',j∈O)∧∀q∈S',q∈S): SU O S O' S' SR fr (ZC (ZaD o e)) (Zg9 x d own po p):=fun c ρ σ H Φ Ψ r hc s q=>by
 have hN':∀n∈N,n∉O'∧∀d,(n,d)∉S':=fun n hn=>⟨(hN n hn).1,fun d m=>(hN n hn).2 _ m rfl⟩
 obtain⟨ks,h1,q⟩:=Zz0.mp q
 obtain⟨w,h2,q⟩:=Zz0.mp q
 obtain⟨t,h3,q⟩:=Zz0.mp q
 split at q
 case isFalse=>first|exact Zx0 q|cases q
 rename_i hc
 obtain⟨t',h4,q⟩:=Zz1.mp q
 subst q
 obtain⟨v,ev,⟨R,rd,nd,dj⟩,p3,p4⟩:=s.sp x d hx.1 t h3
 obtain⟨v',ev',rv⟩:=s.st.slot x t h3
 rw[ev]at ev'
 cases ev'
 obtain⟨Gx,rg,pg⟩:=rd.rf
 obtain⟨_,eG⟩:=rv.det rg
 have hlow:∀k t,σ k=some t→∀a∈Φ k,a<H.length:=fun k t e=>s.low e
 have inF:∀a∈Ψ x,a∈Φ x:=fun a m=>by rw[eG];exact pg.subset (Zz4 _ m)
 have inR:∀a∈R,a∈Φ x:=fun a m=>by rw[eG];exact pg.subset (Zz3 _ m)
 obtain⟨a,_,_,_,_,_,l0,_⟩:=Zfl (Fn:=[]) (Rn:=[]) ks rd nd dj (by simp) hc.1 hc.2.1 h4
 obtain⟨X,a1⟩:=y c.toCtx ρ σ H Φ ks v (.ref a) s.st h1 ev l0.follow
 obtain⟨vw,Y,Fw,b1,b2,b3,b4⟩:=z c.toCtx ρ σ (H++X) Φ w (s.st.ext X) h2
 have s2:=(s.ext X).ext Y
 have grow:∀b,b<H.length→(H++X++Y)[b]?=H[b]?:=fun b hb=>by rw[List.append_assoc,Zy0 hb]
 have rd2:RD (H++X++Y) d v t (Ψ x) R:=rd.frame (fun b m=>grow b (hlow x t h3 b (inF b m))) (fun b m=>grow b (hlow x t h3 b (inR b m)))
 obtain⟨Fn,Rn,w1,w2,w3,w4,w5⟩:=Zly (d:=dnn d ks.length) (c:=c) (ρ:=ρ) (Ψ:=Ψ) b2 (fun a m=>(b3 a m).back) b4 hm hc.2.2
 have xN:∀n∈N,n≠x:=fun n hn q=>(hN' n hn).2 d (q▸hx.2)
 have psR:∀b∈Ψ x,b∉Rn:=fun b m q=>by
  rcases w5 b q with h | ⟨n,hn,⟨tn,en⟩,mn⟩
  ·have:=hlow x t h3 b (inF b m);lia
  ·exact p4 n tn (xN n hn) en b m mn
 obtain⟨a',vs,ts,ts',Fa,Ra,l,am,ea,hs,hf,gn,na,gs,gr,go⟩:=Zfl (Fn:=Fn) (Rn:=Rn) ks rd2 nd dj (fun b m q=>by have:=w2 b m;have:=hlow x t h3 b (inF b q);omega) hc.1 hc.2.1 h4
 have haa:a'=a:=by
  have f2:=ZeV Y (ZeV X l0.follow)
  rw[l.follow]at f2
  cases f2
  rfl
 subst haa
 unfold ZeB at hf
 split at hf
 ·rename_i hl
  cases hf
  have lowF:∀b∈Ψ x,b<H.length:=fun b m=>hlow x t h3 b (inF b m)
  obtain⟨F2,R2,r',n',sub',subR'⟩:=go (vs++[vw]) (Fa++Fn) (Ra++Rn) (hs.append (.one w1)) (by
   rw[List.nodup_append]
   exact⟨gn,w3,fun y hy z hz e=>by have:=lowF y (gs y hy);have:=w2 z hz;lia⟩) (fun m=>(Zz8.mp m).elim na fun m=>by have:=lowF _ am;have:=w2 _ m;lia) (fun m=>(Zz8.mp m).elim (fun m=>dj _ am (gr _ m)) (psR _ am)) (fun y m=>List.mem_append.mp m) (fun y m=>List.mem_append.mp m)
  obtain⟨G,st,com⟩:=Zk1 (O':=O') (S':=S') (b:=H.length) (N:=N) s2 hx.1 uq h3 ev s.st.len hlow am r' n' (fun y m q=>by
   rcases sub' y m with m | m
   ·rcases subR' y q with q | q
    ·exact dj y m q
    ·exact psR y m q
   ·rcases subR' y q with q | q
    ·have:=w2 y m;have:=hlow x t h3 y (inR y q);lia
    ·exact w4 y m q) sub' (fun y m=>(subR' y m).imp (inR y) id) w2 (fun y m=>w5 y m) hN' hO.1 hO.2
  refine⟨ρ,(H++X++Y).set a' (vs++[vw]),Zx Φ x G,Zx Ψ x F2,by simp,fun y hy hn=>?_,fun _ _=>rfl,.inl ⟨rfl,?_,st,com⟩⟩
  ·have:a'≠y:=fun q=>hn (.inr ⟨x,d,hx.1,⟨t,h3⟩,q▸am⟩)
   rw[Zy2 this,grow y hy]
  ·simp only[ZC,ZaD,a1,Zs0,b1,Zcf,ea]
   rw[if_pos ⟨Zkk s hx.1 h3 am,by rw[hs.length];exact hl⟩]
   rfl
 ·first|exact Zx0 hf|cases hf
theorem SU.putS{x d:Nat}{N M:List Nat}{u u' own:Bool}{o e i:Ex}{po:PPa}{p pi:PE}(hx:(x,d)∈S∧(x,d)∈S')(uq:∀q∈S,∀r∈S,q.1=r.1→q.2=r.2)(z:E O N u e p)(y:PaU O x o po)(zi:E O M u' i pi)(hm:own=true→u=true∧N=[])(hN:∀n∈N,n∉O'∧∀q∈S',q.1≠n)(hO:(∀j∈O',j∈O)∧∀q∈S',q∈S): SU O S O' S' SR fr (ZaY e o i) (Zes x d own p po pi):=fun c ρ σ H Φ Ψ r hc s q=>by
 have hN':∀n∈N,n∉O'∧∀d,(n,d)∉S':=fun n hn=>⟨(hN n hn).1,fun d m=>(hN n hn).2 _ m rfl⟩
 obtain⟨w,h2,q⟩:=Zz0.mp q
 obtain⟨ks,h1,q⟩:=Zz0.mp q
 obtain⟨tk,h5,q⟩:=Zz0.mp q
 cases tk <;> first|exact Zx0 q|(cases q;done)| skip
 rename_i k
 obtain⟨t,h3,q⟩:=Zz0.mp q
 split at q
 case isFalse=>first|exact Zx0 q|cases q
 rename_i hc
 obtain⟨t',h4,q⟩:=Zz1.mp q
 subst q
 obtain⟨v,ev,⟨R,rd,nd,dj⟩,p3,p4⟩:=s.sp x d hx.1 t h3
 obtain⟨v',ev',rv⟩:=s.st.slot x t h3
 rw[ev]at ev'
 cases ev'
 obtain⟨Gx,rg,pg⟩:=rd.rf
 obtain⟨_,eG⟩:=rv.det rg
 have hlow:∀k t,σ k=some t→∀a∈Φ k,a<H.length:=fun k t e=>s.low e
 have inF:∀a∈Ψ x,a∈Φ x:=fun a m=>by rw[eG];exact pg.subset (Zz4 _ m)
 have inR:∀a∈R,a∈Φ x:=fun a m=>by rw[eG];exact pg.subset (Zz3 _ m)
 obtain⟨vw,X,Fw,b1,b2,b3,b4⟩:=z c.toCtx ρ σ H Φ w s.st h2
 have growX:∀b,b<H.length→(H++X)[b]?=H[b]?:=fun b hb=>Zy0 hb
 have rdX:RD (H++X) d v t (Ψ x) R:=rd.frame (fun b m=>growX b (hlow x t h3 b (inF b m))) (fun b m=>growX b (hlow x t h3 b (inR b m)))
 obtain⟨a,_,_,_,_,_,l0,_⟩:=Zfl (Fn:=[]) (Rn:=[]) ks rdX nd dj (by simp) hc.1 hc.2.1 h4
 obtain⟨Y,a1⟩:=y c.toCtx ρ σ (H++X) Φ ks v (.ref a) (s.st.ext X) h1 ev l0.follow
 obtain⟨vk,Z,Fk,d1,d2,d3,d4⟩:=zi c.toCtx ρ σ (H++X++Y) Φ _ ((s.st.ext X).ext Y) h5
 cases d2
 have s2:=((s.ext X).ext Y).ext Z
 have grow:∀b,b<H.length→(H++X++Y++Z)[b]?=H[b]?:=fun b hb=>by rw[List.append_assoc,List.append_assoc,Zy0 hb]
 have rd2:RD (H++X++Y++Z) d v t (Ψ x) R:=rd.frame (fun b m=>grow b (hlow x t h3 b (inF b m))) (fun b m=>grow b (hlow x t h3 b (inR b m)))
 obtain⟨Fn,Rn,w1,w2,w3,w4,w5⟩:=Zly (d:=dnn d ks.length) (c:=c) (ρ:=ρ) (Ψ:=Ψ) ((b2.ext Y).ext Z) b3 b4 hm hc.2.2
 have xN:∀n∈N,n≠x:=fun n hn q=>(hN' n hn).2 d (q▸hx.2)
 have psR:∀b∈Ψ x,b∉Rn:=fun b m q=>by
  rcases w5 b q with h | ⟨n,hn,⟨tn,en⟩,mn⟩
  ·have:=hlow x t h3 b (inF b m);lia
  ·exact p4 n tn (xN n hn) en b m mn
 have lowF:∀b∈Ψ x,b<H.length:=fun b m=>hlow x t h3 b (inF b m)
 obtain⟨a',vs,ts,ts',Fa,Ra,l,am,ea,hs,hf,gn,na,gs,gr,go⟩:=Zfl (Fn:=Fn) (Rn:=Rn) ks rd2 nd dj (fun b m q=>by have:=w2 b m;have:=lowF b q;omega) hc.1 hc.2.1 h4
 have haa:a'=a:=by
  have f2:=ZeV Z (ZeV Y l0.follow)
  rw[l.follow]at f2
  cases f2
  rfl
 subst haa
 unfold ZjL at hf
 split at hf
 ·rename_i hl
  cases hf
  have hk:k.toNat<ts.length:=by lia
  obtain⟨v0,Gk,Qk,F1,F2,R1,R2,e0,r0,eG',eR',rb⟩:=hs.split (Zy1 hk)
  have rs:=rb (H++X++Y++Z) vw w Fn Rn w1 (fun _ _=>rfl) (fun _ _=>rfl)
  have sub0:∀a∈Fn,a∈Gk∨a∈Fn:=fun a m=>.inr m
  have subR0:∀a∈Rn,a∈Qk∨a∈Rn:=fun a m=>.inr m
  subst eG'
  subst eR'
  obtain⟨F2',R2',r',n',sub',subR'⟩:=go _ _ _ rs (nd3 gn w3 sub0 fun a m q=>by have:=w2 a m;have:=lowF a (gs a q);lia) (fun m=>by
   rcases in3 (G:=Gk) sub0 _ m with m | m
   ·exact na m
   ·have:=w2 _ m;have:=lowF _ am;lia) (fun m=>by
   rcases in3 (G:=Qk) subR0 _ m with m | m
   ·exact dj _ am (gr _ m)
   ·exact psR _ am m) (in3 sub0) (in3 subR0)
  obtain⟨G,st,com⟩:=Zk1 (O':=O') (S':=S') (b:=H.length) (N:=N) s2 hx.1 uq h3 ev s.st.len hlow am r' n' (fun y m q=>by
   rcases sub' y m with m | m
   ·rcases subR' y q with q | q
    ·exact dj y m q
    ·exact psR y m q
   ·rcases subR' y q with q | q
    ·have:=w2 y m;have:=hlow x t h3 y (inR y q);omega
    ·exact w4 y m q) sub' (fun y m=>(subR' y m).imp (inR y) id) w2 (fun y m=>w5 y m) hN' hO.1 hO.2
  refine⟨ρ,(H++X++Y++Z).set a' (vs.set k.toNat vw),Zx Φ x G,Zx Ψ x F2',by simp,fun y hy hn=>?_,fun _ _=>rfl,.inl ⟨rfl,?_,st,com⟩⟩
  ·have:a'≠y:=fun q=>hn (.inr ⟨x,d,hx.1,⟨t,h3⟩,q▸am⟩)
   rw[Zy2 this,grow y hy]
  ·simp only[ZaY,b1,Zs0,a1,d1,ZdE,ea]
   rw[if_pos ⟨Zkk s hx.1 h3 am,by rw[hs.length];exact hl⟩]
   rfl
 ·first|exact Zx0 hf|cases hf
noncomputable def PutK(J:List Nat)(put:V→Lc→Option Lc): Prop:=∀v ρ ρ1,put v ρ=some ρ1→∀i,i∉J→ρ1 i=ρ i
theorem PutK.one{j:Nat}: PutK [j] (ZQ j):=fun v ρ ρ1 h i hi=>by
 cases h
 have:i≠j:=fun q=>hi (by simp[q])
 simp[upd,this]
theorem Su.loop{J:List Nat}{put:V→Lc→Option Lc}{pput:T→TL→Option TL}(hj:PutOk O J put pput)(hk:PutK J put)(hJ:∀i∈J,i∉O∧∀d,(i,d)∉S){c:Cu}{ρ:Lc}{σ σ1:TL}{K:Hp}{Φ Ψ:Nat→List Nat}{v:V}{t:T}{F:List Nat}(s:Su c O S ρ σ K Φ Ψ)(r:RF K v t F)(hs:∀a∈F,c.H0.length≤a∨c.P a)(ho:∀i∈O,∀t',σ i=some t'→∀a∈Φ i,a∉F)(hp:∀a,SH S σ Ψ a→a∉F)(h:pput t σ=some σ1):
  ∃ρ1 Φ1,put v ρ=some ρ1∧Su c O S ρ1 σ1 K Φ1 Ψ∧(∀i,i∉J→σ1 i=σ i∧Φ1 i=Φ i)∧∀i∈J,∀a∈Φ1 i,a∈F:=by
 obtain⟨ρ1,Φ1,p1,s1,p3,p4⟩:=hj c.toCtx ρ σ K Φ v t F σ1 s.st r hs ho h
 refine⟨ρ1,Φ1,p1,⟨s1,fun i d hi u e=>?_,s.ap,fun i hi u e=>?_⟩,p3,p4⟩
 ·have iJ:i∉J:=fun q=>(hJ i q).2 d hi
  obtain⟨e1,e2⟩:=p3 i iJ
  rw[e1]at e
  obtain⟨w,h1,h2,h3,h4⟩:=s.sp i d hi u e
  refine⟨w,by rw[hk v ρ ρ1 p1 i iJ];exact h1,h2,h3,fun j z hj' ej a m q=>?_⟩
  by_cases jJ:j∈J
  ·exact hp a ⟨i,d,hi,⟨u,e⟩,m⟩ (p4 j jJ a q)
  ·obtain⟨f1,f2⟩:=p3 j jJ
   rw[f1]at ej
   rw[f2]at q
   exact h4 j z hj' ej a m q
 ·have iJ:i∉J:=fun q=>(hJ i q).1 hi
  obtain⟨e1,e2⟩:=p3 i iJ
  rw[e1]at e
  rw[e2]
  exact s.nw i hi u e
theorem Ziv{J:List Nat}{put:V→Lc→Option Lc}{pput:T→TL→Option TL}{b:Sm}{qb:PS}(hj:PutOk O J put pput)(hkp:PutK J put)(hJ:∀i∈J,i∉O∧∀d,(i,d)∉S)(hJR:∀q∈SR,q.1∉J)(hb:SU O S O S SR fr b qb){c:Cu}(hc:∀i,(∀q∈SR,q.1≠i)→c.Fs i=[]){nx:Nx}{vs:List V}{G:List Nat}{H1:Hp}(hG:∀a∈G,a<H1.length)(hsrc:∀a∈G,c.H0.length≤a∨c.P a)(hnx:∀K:Hp,(∀a∈G,K[a]?=H1[a]?)→∀i,i≤vs.length→nx i K=some vs[i]?):
  ∀(rs:List T) (ws:List V) (i:Nat) (ρ:Lc) (σ:TL) (K:Hp) (Φ Ψ:Nat→List Nat) (Fr:List Nat) (r:Option T×TL),(∀j,vs[i+j]?=ws[j]?)→i+ws.length=vs.length→Su c O S ρ σ K Φ Ψ→H1.length≤K.length→(∀a∈G,K[a]?=H1[a]?)→(∀a∈G,¬HU O S σ Φ Ψ a)→RFs K ws rs Fr→(∀a∈Fr,a∈G)→Zcd pput qb σ rs=some r →
   AftU c O S O S SR fr ρ σ K Φ Ψ (Za3 nx put b (rs.length+1) i ρ K) r
 | [],ws,i,ρ,σ,K,Φ,Ψ,Fr,r,hat,hlen,s,hl,hk,hoff,rr,hfr,h=>by
  cases rr
  cases h
  have e:=hnx K hk i (by simp at hlen;lia)
  have e2:vs[i]?=none:=by have:=hat 0;simpa using this
  exact⟨ρ,K,Φ,Ψ,Nat.le_refl _,fun _ _ _=>rfl,fun _ _=>rfl,.inl ⟨rfl,by simp[Za3,e,e2],s,fun a m=>.inr m⟩⟩
 | t::rs,ws0,i,ρ,σ,K,Φ,Ψ,Fr0,r,hat,hlen,s,hl,hk,hoff,rr,hfr,h=>by
  cases rr with
  | @cons v _ F1 ws _ F2 a b'=>
  simp only[List.length_cons]at hlen
  obtain⟨σ1,h1,h⟩:=Zz0.mp h
  obtain⟨r1,h2,h⟩:=Zz0.mp h
  have e:=hnx K hk i (by lia)
  have e2:vs[i]?=some v:=by have:=hat 0;simpa using this
  have hat':∀j,vs[i+1+j]?=ws[j]?:=fun j=>by have:=hat (j+1);rw[show i+1+j=i+(j+1)by lia,this];simp
  obtain⟨ρ1,Φ1,p1,s1,p3,p4⟩:=Su.loop hj hkp hJ s a (fun x m=>hsrc x (hfr x (Zz4 _ m))) (fun k hk t' e x m q=>hoff x (hfr x (Zz4 _ q)) (.inl ⟨k,hk,⟨t',e⟩,m⟩)) (fun x h q=>hoff x (hfr x (Zz4 _ q)) (.inr h)) h1
  have hh:∀x,HU O S σ1 Φ1 Ψ x→HU O S σ Φ Ψ x:=fun x h=>by
   rcases h with⟨k,hk,⟨t',e⟩,m⟩ | ⟨k,d,hk,⟨t',e⟩,m⟩
   ·obtain⟨q1,q2⟩:=p3 k fun q=>(hJ k q).1 hk
    exact .inl ⟨k,hk,⟨t',q1▸e⟩,q2▸m⟩
   ·obtain⟨q1,q2⟩:=p3 k fun q=>(hJ k q).2 d hk
    exact .inr ⟨k,d,hk,⟨t',q1▸e⟩,m⟩
  obtain⟨ρ2,K2,Φ2,Ψ2,g1,g2,gr,g3⟩:=hb c ρ1 σ1 K Φ1 Ψ r1 hc s1 h2
  have gr':∀q∈SR,ρ2 q.1=ρ q.1:=fun q hq=>(gr q hq).trans (hkp v ρ ρ1 p1 q.1 (hJR q hq))
  have estep:Za3 nx put b ((t::rs).length+1) i ρ K=(b ρ1 K).bind fun q=>match q.1 with
    | some _=>some q
    | none=>Za3 nx put b (rs.length+1) (i+1) q.2.1 q.2.2:=by
   rw[List.length_cons]
   show(nx i K).bind _=_
   rw[e,e2]
   first | (simp only[Zs0,p1];done) | (simp only[Zs0,p1];rfl)
  rcases g3 with⟨k1,k2,k3,k4⟩ | ⟨t',v',F',k1,k2,k3⟩
  ·rw[k1]at h
   have hG2:∀a∈G,K2[a]?=K[a]?:=fun x m=>g2 x (by have:=hG x m;lia) fun q=>hoff x m (hh x q)
   have hoff2:∀a∈G,¬HU O S r1.2 Φ2 Ψ2 a:=fun x m q=>by
    rcases k4 x q with q | q
    ·have:=hG x m;lia
    ·exact hoff x m (hh x q)
   have ih:=Ziv hj hkp hJ hJR hb hc hG hsrc hnx rs ws (i+1) ρ2 r1.2 K2 Φ2 Ψ2 F2 r hat' (by lia) k3 (by lia) (fun x m=>(hG2 x m).trans (hk x m)) hoff2 (b'.frame fun x m=>hG2 x (hfr x (Zz3 _ m))) (fun x m=>hfr x (Zz3 _ m)) h
   rw[estep,k2]
   simp only[Zs0]
   obtain⟨ρ3,K3,Φ3,Ψ3,l1,l2,lr,l3⟩:=ih
   refine⟨ρ3,K3,Φ3,Ψ3,by lia,fun x hx hn=>?_,fun q hq=>(lr q hq).trans (gr' q hq),?_⟩
   ·rw[l2 x (by lia) fun q=>(k4 x q).elim (fun q=>by lia) fun q=>hn (hh x q),g2 x hx fun q=>hn (hh x q)]
   ·rcases l3 with⟨m1,m2,m3,m4⟩ | l
    ·refine .inl ⟨m1,m2,m3,fun x q=>?_⟩
     rcases m4 x q with q | q
     ·exact .inl (by lia)
     ·exact(k4 x q).imp id (hh x)
    ·exact .inr l
  ·rw[k1]at h
   cases h
   refine⟨ρ2,K2,Φ2,Ψ2,g1,fun x hx hn=>g2 x hx fun q=>hn (hh x q),gr',.inr ⟨t',v',F',k1,?_,k3⟩⟩
   rw[estep,k2]
   rfl
theorem Zlz{J Ns:List Nat}{g:Src}{q:PG}{put:V→Lc→Option Lc}{pput:T→TL→Option TL}{b:Sm}{qb:PS}(hg:Gs O Ns g q)(hj:PutOk O J put pput)(hkp:PutK J put)(hJ:∀i∈J,i∉O∧(∀q∈S,q.1≠i)∧∀q∈SR,q.1≠i)(hN:∀i∈Ns,i∉O∧∀q∈S,q.1≠i)(hb:SU O S O S SR fr b qb): SU O S O S SR fr (ZaL g put b) (ZbR q pput qb):=fun c ρ σ H Φ Ψ r hc s h=>by
 obtain⟨ts,h1,h⟩:=Zz0.mp h
 obtain⟨nx,X,vs,F,G,g1,g2,g3,g4,g5⟩:=hg c.toCtx ρ σ H Φ ts s.st h1
 have:=Ziv hj hkp (fun i hi=>⟨(hJ i hi).1,fun d m=>(hJ i hi).2.1 _ m rfl⟩) (fun q hq m=>(hJ q.1 m).2.2 q hq rfl) hb hc (H1:=H++X) (fun a m=>(g4 a m).1) (fun a m=>s.st.from_src (g4 a m).2) g5 ts vs 0 ρ σ (H++X) Φ Ψ F r (by simp) (by simp) (s.ext X) (Zz10 _) (fun _ _=>rfl) (fun a m q=>by
  rcases q with⟨k,hk,⟨t,e⟩,q⟩ | q
  ·exact s.st.from_off (fun i hi=>(hN i hi).1) (g4 a m).2 hk e q
  ·rcases(g4 a m).2 with z | ⟨n,hn,⟨tn,en⟩,mn⟩
   ·have:=s.shlow q;lia
   ·exact s.shoff q (fun d m=>(hN n hn).2 _ m rfl) en mn) g2 g3 h
 have eg:ZaL g put b ρ H=Za3 nx put b (ts.length+1) 0 ρ (H++X):=by simp only[ZaL,g1,Zs0]
 rw[eg]
 exact this.step s (by simp) (fun a ha _=>Zy0 ha) (fun j t _ e=>⟨e,rfl⟩) (fun a h=>.inr h)
end
end TM
end
section
namespace TM
open PySem PM
noncomputable def ZcC(σ:TL): Sps→Option (List T)
 | []=>some []
 | q::sd=>(σ q.1).bind fun t=>(ZcC σ sd).map fun us=>t::us
theorem Zk2{σ:TL}: ∀{sd:Sps} {us:List T},ZcC σ sd=some us→us.length=sd.length∧(∀(k i d:Nat) (u:T),sd[k]?=some (i,d)→us[k]?=some u→σ i=some u)∧∀q∈sd,∃t,σ q.1=some t
 | [],us,h=>by cases h;exact⟨rfl,by simp,by simp⟩
 | q::sd,us,h=>by
  obtain⟨t,h1,h⟩:=Zz0.mp h
  obtain⟨ts,h2,h⟩:=Zz1.mp h
  subst h
  obtain⟨k1,k2,k3⟩:=Zk2 h2
  refine⟨by simp[k1],fun k i d u e1 e2=>?_,fun r hr=>?_⟩
  ·cases k with
   | zero=>simp at e1 e2;subst e2;rw[e1]at h1;exact h1
   | succ k=>exact k2 k i d u (by simpa using e1) (by simpa using e2)
  ·rcases Zz7.mp hr with z | z
   ·subst z;exact⟨t,h1⟩
   ·exact k3 r z
noncomputable def ZbK(n:Nat)(sd:Sps)(q:PS): List T→Option (T×List T):=fun ts=>if ts.length=n then(q fun i=>ts[i]?).bind fun r=>(ZcC r.2 sd).map fun us=>(r.1.getD .none,us)else none
theorem SimX.of{n:Nat}{sd:Sps}{fr:Bool}{g:Sm}{q:PS}{O':List Nat}{S':Sps}(h:SU [] sd O' S' sd fr g q)(hn:∀q∈sd,q.1<n)(hS':∀q∈sd,q∈S'): SimX n sd fr (ZH n g) (ZbK n sd q):=fun H vs ts t us Φ Ψ hp hv ht hargs hsp e=>by
 unfold ZbK at e
 rw[if_pos ht]at e
 obtain⟨r,e1,e⟩:=Zz0.mp e
 obtain⟨us',e2,e⟩:=Zz1.mp e
 cases e
 obtain⟨lk1,lk2,lk3⟩:=Zk2 e2
 have at_:∀i d,(i,d)∈sd→∃v t,vs[i]?=some v∧ts[i]?=some t:=fun i d hi=>by
  have:i<n:=hn _ hi
  exact⟨vs[i],ts[i],Zy1 (by omega),Zy1 (by omega)⟩
 let Fs:Nat→List Nat:=fun i=>if i∈sd.map (·.1)then Ψ i else []
 have fsm:∀i d,(i,d)∈sd→Fs i=Ψ i:=fun i d hi=>by simp only[Fs];rw[if_pos (List.mem_map_of_mem hi)]
 let c:Cu:=⟨⟨H,sd.flatMap fun q=>Ψ q.1,fun a=>∃j,j<n∧a∈Φ j⟩,Fs,fun i a m=>by
  simp only[Fs]at m
  split at m
  ·rename_i hi
   obtain⟨q,hq,e⟩:=Zz11.mp hi
   exact List.mem_flatMap.mpr ⟨q,hq,e▸m⟩
  ·cases m⟩
 have hc:∀i,(∀q∈sd,q.1≠i)→c.Fs i=[]:=fun i hi=>by
  show(if i∈sd.map (·.1)then Ψ i else [])=[]
  rw[if_neg fun m=>by obtain⟨q,hq,e⟩:=Zz11.mp m;exact hi q hq e]
 have memF0:∀a,a∈c.F0↔∃i d,(i,d)∈sd∧a∈Ψ i:=fun a=>by
  simp only[c,List.mem_flatMap]
  constructor
  ·rintro⟨⟨i,d⟩,h1,h2⟩;exact⟨i,d,h1,h2⟩
  ·rintro⟨i,d,h1,h2⟩;exact⟨(i,d),h1,h2⟩
 have st:Su c [] sd (fun i=>vs[i]?) (fun i=>ts[i]?) H Φ Ψ:=by
  refine⟨⟨fun i t e=>?_,fun i t e a m=>.inr ⟨i,?_,m⟩,(fun i hi=>nomatch hi),Nat.le_refl _,fun a _ _=>rfl,hp,fun m=>?_⟩,fun i d hi t e=>?_,(fun i hi=>nomatch hi),(fun i hi=>nomatch hi)⟩
  ·exact hargs i t e
  ·have:=(Zz6.mp e).1;lia
  ·obtain⟨i,d,hi,m⟩:=(memF0 0).mp m
   obtain⟨v,t,h1,h2⟩:=at_ i d hi
   exact(hsp i d hi v t h1 h2).2.1 m
  ·obtain⟨v,t',h1,h2⟩:=at_ i d hi
   obtain⟨p1,p2,p3⟩:=hsp i d hi v t h1 e
   exact⟨v,h1,p1,fun a m=>.inr (by show a∈Fs i;rw[fsm i d hi];exact m),p3⟩
 obtain⟨ρ',H',Φ',Ψ',h1,h2,hr,h3⟩:=h c _ _ H Φ Ψ r hc st e1
 have frm:∀a,a<H.length→(∀i d,(i,d)∈sd→a∉Ψ i)→H'[a]?=H[a]?:=fun a ha hn=>h2 a ha fun q=>by
  rcases q with⟨j,hj,_⟩ | ⟨i,d,hi,_,m⟩
  ·first|exact Zx0 hj|cases hj
  ·exact hn i d hi m
 have go:∀(O2:List Nat) (S2:Sps) (F:List Nat),(∀q∈sd,q∈S2)→Su c O2 S2 ρ' r.2 H' Φ' Ψ'→(∀a,SH sd r.2 Ψ' a→a∉F)→(fr=true→∀s d,(s,d)∈sd→(∃t,r.2 s=some t)→∀a∈Φ' s,a∉F) →
   ∀(k i d:Nat) (v:V) (u:T),sd[k]?=some (i,d)→vs[i]?=some v→us[k]?=some u→RF H' v u (Φ' i)∧Sp H' d v u (Ψ' i)∧(∀a∈Ψ' i,H.length≤a∨a∈Ψ i)∧(∀a∈Φ' i,H.length≤a∨∃j,j<n∧a∈Φ j)∧(∀a∈Ψ' i,a∉F)∧(∀j d',j≠i→(j,d')∈sd→∀a∈Ψ' i,a∉Φ' j)∧(fr=true→∀a∈Φ' i,a∉F):=by
  intro O2 S2 F hsub s2 shF frF k i d v u ek ev eu
  have hi:=Zy4 ek
  have eσ:=lk2 k i d u ek eu
  obtain⟨v',w1,w2⟩:=s2.st.slot i u eσ
  have:ρ' i=some v:=(hr _ hi).trans ev
  rw[w1]at this
  cases this
  obtain⟨v2,q1,q2,q3,q4⟩:=s2.sp i d (hsub _ hi) u eσ
  rw[w1]at q1
  cases q1
  refine⟨w2,q2,fun a m=>?_,fun a m=>s2.st.src i u eσ a m,fun a m=>shF a ⟨i,d,hi,⟨u,eσ⟩,m⟩,fun j d' hj hjs a m=>?_,fun hf a m=>frF hf i d hi ⟨u,eσ⟩ a m⟩
  ·rcases q3 a m with z | z
   ·exact .inl z
   ·exact .inr (fsm i d hi▸z)
  ·obtain⟨tj,ej⟩:=lk3 _ hjs
   exact q4 j tj hj ej a m
 rcases h3 with⟨k1,k2,k3,k4⟩ | ⟨t',v',F',k1,k2,k3,k4,k5,k6,k7⟩
 ·refine⟨.none,H',Φ',Ψ',[],by simp only[ZH,hv,if_true,k2,Zs1,Option.getD_none],h1,frm,lk1,go O' S' [] hS' k3 (by simp) (by simp),by rw[k1];exact .none,by simp,by simp⟩
 ·refine⟨v',H',Φ',Ψ',F',by simp only[ZH,hv,if_true,k2,Zs1,Option.getD_some],h1,frm,lk1,go [] sd F' (fun _ h=>h) k4 k6 (fun hf=>(k7 hf).2.2),by rw[k1];exact k3,k5,fun hf=>⟨(k7 hf).1,(k7 hf).2.1⟩⟩
theorem SimX.sim{n:Nat}{fr:Bool}{f:List V→Hp→Option (V×Hp)}{p:List T→Option (T×List T)}(h:SimX n [] fr f p): SimF fr f (fun ts=>if ts.length=n then(p ts).map (·.1)else none):=fun H vs ts t F1 hp r e=>by
 simp only at e
 split at e
 case isFalse=>first|exact Zx0 e|cases e
 rename_i hl
 obtain⟨⟨t1,us⟩,e1,e2⟩:=Zz1.mp e
 cases e2
 obtain⟨Φ,hΦ⟩:=r.slots
 obtain⟨v,H',Φ',Ψ',F,b1,b2,b3,b4,b5,b6,b7,b8⟩:=h H vs ts t1 us (fun i=>if i<n then Φ i else []) (fun _=>[]) hp (by rw[r.length,hl]) hl (fun i t e=>by
  obtain⟨v,h1,h2,_⟩:=hΦ i t e
  have:=(Zz6.mp e).1
  exact⟨v,h1,by simpa [show i<n by lia]using h2⟩) (fun i d hi=>nomatch hi) e1
 have eh:=Zif b2 fun a ha=>b3 a ha fun i d hi=>nomatch hi
 refine⟨v,H'.drop H.length,F,by rw[←eh];exact b1,by rw[←eh];exact b6,fun a m=>?_,b8⟩
 rcases b7 a m with q | ⟨j,hj,q⟩
 ·exact .inl q
 ·simp only[hj,if_true]at q
  have:j<ts.length:=by lia
  obtain⟨_,_,_,h3⟩:=hΦ j ts[j] (Zy1 this)
  exact .inr (h3 a q)
theorem ZmJ{f:List V→Hp→Option (V×Hp)}{p:List T→Option (T×List T)}{fr:Bool}(h:SimX 1 [] fr f p)(ns:List Int)(e:∃us,p [.lst (ns.map T.int)]=some (.bool true,us)): ∃H',f [.ref 0] [ns.map V.int]=some (.bool true,H'):=
 Zm5 h.sim ns (by obtain⟨us,e⟩:=e;simp[e])
noncomputable def ZfD(j:Nat)(f:PX): TL→List T→Option (List T×TL)
 | σ,[]=>some ([],σ)
 | σ,t::ts=>(f (ZI σ j t)).bind fun r=>(ZfD j f (Zab r.2 j) ts).map fun q=>(r.1::q.1,q.2)
noncomputable def ZdB(g:PG)(j:Nat)(f:PX): PX:=fun σ=>(g (Zab σ j)).bind fun ts=>if ts.length≤ZX then(ZfD j f (Zab σ j) ts).map fun r=>(.lst r.1,r.2)else none
section
variable {O Ns:List Nat} {S:Sps}
theorem Zj6{j:Nat}{f:Ex}{pf:PX}(hj:j∉O)(hS:∀d,(j,d)∉S)(hf:EX O S [] true f pf){c:Cu}{ρ:Lc}{nx:Nx}{vs:List V}{G:List Nat}{H1:Hp}(hG:∀a∈G,a<H1.length)(hsrc:∀a∈G,c.H0.length≤a∨c.P a)(hnx:∀K:Hp,(∀a∈G,K[a]?=H1[a]?)→∀i,i≤vs.length→nx i K=some vs[i]?):
  ∀(rs:List T) (ws:List V) (i:Nat) (acc:List V) (σ:TL) (K:Hp) (Φ Ψ:Nat→List Nat) (Fr:List Nat) (out:List T) (σ':TL),(∀k,vs[i+k]?=ws[k]?)→i+ws.length=vs.length→Su c O S ρ σ K Φ Ψ→H1.length≤K.length→(∀a∈G,K[a]?=H1[a]?)→(∀a∈G,¬HU O S σ Φ Ψ a)→RFs K ws rs Fr→(∀a∈Fr,a∈G)→acc.length+rs.length≤ZX→ZfD j pf σ rs=some (out,σ') →
   ∃xs K' Φ' Ψ' F,ZaF nx (ZQ j) ZZ f ρ (rs.length+1) i acc K=some (acc++xs,K')∧K.length≤K'.length∧(∀a,a<K.length→¬SH S σ Ψ a→K'[a]?=K[a]?)∧Su c O S ρ σ' K' Φ' Ψ'∧(∀j t,(∀d,(j,d)∉S)→σ' j=some t→σ j=some t∧Φ' j=Φ j)∧(∀a,SH S σ' Ψ' a→K.length≤a∨SH S σ Ψ a)∧(∀s d,(s,d)∈S→(∃t,σ' s=some t)→∀a∈Φ' s,K.length≤a∨(∃j,(∃t,σ j=some t)∧a∈Φ j)∨a∈G)∧RFs K' xs out F∧(∀a∈F,K.length≤a)∧F.Nodup∧(∀a,SH S σ' Ψ' a→a∉F)∧(∀s d,(s,d)∈S→(∃t,σ' s=some t)→∀a∈Φ' s,a∉F)
 | [],ws,i,acc,σ,K,Φ,Ψ,Fr,out,σ',hat,hlen,s,hl,hk,hoff,rr,hfr,hacc,h=>by
  cases rr
  cases h
  have e:=hnx K hk i (by simp at hlen;lia)
  have e2:vs[i]?=none:=by have:=hat 0;simpa using this
  exact⟨[],K,Φ,Ψ,[],by simp[ZaF,e,e2],Nat.le_refl _,fun _ _ _=>rfl,s,fun j t _ e=>⟨e,rfl⟩,fun a h=>.inr h,fun s' d _ ht a m=>.inr (.inl ⟨s',ht,m⟩),.nil,by simp,by simp,by simp,by simp⟩
 | t::rs,ws0,i,acc,σ,K,Φ,Ψ,Fr0,out,σ',hat,hlen,s,hl,hk,hoff,rr,hfr,hacc,h=>by
  cases rr with
  | @cons v _ F1 ws _ F2 a b'=>
  simp only[List.length_cons]at hlen hacc
  obtain⟨⟨w,σ1⟩,h1,h⟩:=Zz0.mp h
  obtain⟨⟨ys,σ2⟩,h2,h⟩:=Zz1.mp h
  cases h
  have e:=hnx K hk i (by lia)
  have e2:vs[i]?=some v:=by have:=hat 0;simpa using this
  have hat':∀k,vs[i+1+k]?=ws[k]?:=fun k=>by have:=hat (k+1);rw[show i+1+k=i+(k+1)by lia,this];simp
  have s1:Su c O S (upd ρ j v) (ZI σ j t) K (Zx Φ j F1) Ψ:=s.putL hj hS a (fun x m=>hsrc x (hfr x (Zz4 _ m))) (fun k hk t' e x m q=>hoff x (hfr x (Zz4 _ q)) (.inl ⟨k,hk,⟨t',e⟩,m⟩)) (fun x h q=>hoff x (hfr x (Zz4 _ q)) (.inr h))
  obtain⟨vw,K1,Φ1,Ψ1,Fw,a1,a2,a3,a4,a5,a6,a11,a7,a8,a9,a10⟩:=hf c (upd ρ j v) (ZI σ j t) K (Zx Φ j F1) Ψ w σ1 s1 h1
  have new1:∀a∈Fw,K.length≤a:=fun a m=>(a8 a m).nil
  have off1:=ZgB s1 a5 new1 ((a10 rfl).2 (by simp))
  simp only[Zfm hS]at a3 a6
  have s2:Su c O S ρ (Zab σ1 j) K1 Φ1 Ψ1:=a4.drop fun _ h=>h
  have old1:∀k u,(∀d,(k,d)∉S)→Zab σ1 j k=some u→σ k=some u∧Φ1 k=Φ k:=fun k u hk e=>by
   obtain⟨q,e⟩:=Za6 e
   obtain⟨e1,e2⟩:=a5 k u hk e
   exact⟨Zat e1 q,by rw[e2];simp[Zx,q]⟩
  have held1:∀a,SH S (Zab σ1 j) Ψ1 a→K.length≤a∨SH S σ Ψ a:=fun a h=>a6 a ((SH.del hS).mp h)
  have hG2:∀a∈G,K1[a]?=K[a]?:=fun x m=>a3 x (by have:=hG x m;lia) fun q=>hoff x m (.inr q)
  have hoff2:∀a∈G,¬HU O S (Zab σ1 j) Φ1 Ψ1 a:=fun x m q=>by
   rcases q with⟨k,hk,⟨u,e⟩,q⟩ | q
   ·obtain⟨e1,e2⟩:=old1 k u (s.ap k hk) e
    exact hoff x m (.inl ⟨k,hk,⟨u,e1⟩,e2▸q⟩)
   ·rcases held1 x q with q | q
    ·have:=hG x m;lia
    ·exact hoff x m (.inr q)
  obtain⟨xs,K2,Φ2,Ψ2,F3,f1,f2,f3,f4,f5,f6,f7,f8,f9,f10,f11,f12⟩:=Zj6 hj hS hf hG hsrc hnx rs ws (i+1) (acc++[vw]) (Zab σ1 j) K1 Φ1 Ψ1 F2 ys σ2 hat' (by lia) s2 (by lia) (fun x m=>(hG2 x m).trans (hk x m)) hoff2 (b'.frame fun x m=>hG2 x (hfr x (Zz3 _ m))) (fun x m=>hfr x (Zz3 _ m)) (by simp;lia) h2
  have offw:∀a∈Fw,¬SH S (Zab σ1 j) Ψ1 a:=fun a m q=>a9 a ((SH.del hS).mp q) m
  refine⟨vw::xs,K2,Φ2,Ψ2,Fw++F3,?_,by lia,Zj5 a2 a3 held1 f3,f4,fun k u hk e=>?_,Zkj a2 held1 f6,fun s' d hs ht x m=>?_,.cons (a7.frame fun x m=>f3 x (a7.lt x m) (offw x m)) f8,fun x m=>?_,?_,fun x h q=>?_,fun s' d hs ht x m q=>?_⟩
  ·rw[List.length_cons,ZaF,e,e2]
   simp only[Zs0,ZQ,ZZ,a1,if_true]
   rw[if_pos (by lia)]
   simpa using f1
  ·obtain⟨e1,e2⟩:=f5 k u hk e
   obtain⟨e3,e4⟩:=old1 k u hk e1
   exact⟨e3,e2.trans e4⟩
  ·rcases f7 s' d hs ht x m with q | ⟨k,⟨u,eu⟩,mk⟩ | q
   ·exact .inl (by lia)
   ·by_cases hks:∀d,(k,d)∉S
    ·obtain⟨e1,e2⟩:=old1 k u hks eu
     exact .inr (.inl ⟨k,⟨u,e1⟩,e2▸mk⟩)
    ·obtain⟨d',hd⟩:=Classical.not_forall.mp hks
     rcases a11 k d' (Classical.not_not.mp hd) ⟨u,(Za6 eu).2⟩ x mk with q | ⟨k',⟨u',e'⟩,mk'⟩
     ·exact .inl q
     ·by_cases q:k'=j
      ·subst q
       simp only[Zx,if_true]at mk'
       exact .inr (.inr (hfr x (Zz4 _ mk')))
      ·simp only[Zx,q,if_false]at mk'
       exact .inr (.inl ⟨k',⟨u',Zat e' q⟩,mk'⟩)
   ·exact .inr (.inr q)
  ·rcases Zz8.mp m with m | m
   ·exact new1 x m
   ·have:=f9 x m;lia
  ·rw[List.nodup_append]
   refine⟨(a10 rfl).1,f10,fun x hx y hy e=>?_⟩
   have:=a7.lt x hx
   have:=f9 y hy
   lia
  ·rcases Zz8.mp q with q | q
   ·rcases f6 x h with z | z
    ·have:=a7.lt x q;lia
    ·exact offw x q z
   ·exact f11 x h q
  ·rcases Zz8.mp q with q | q
   ·rcases f7 s' d hs ht x m with z | ⟨k,⟨u,eu⟩,mk⟩ | z
    ·have:=a7.lt x q;omega
    ·exact off1 k u (Za6 eu).2 x q mk
    ·have:=hG x z;have:=new1 x q;lia
   ·exact f12 s' d hs ht x m q
theorem EX.comp{g:Src}{q:PG}{j:Nat}{f:Ex}{pf:PX}(hg:Gs O Ns g q)(hj:j∉O∧∀q∈S,q.1≠j)(hN:∀i∈Ns,i∉O∧∀q∈S,q.1≠i)(hf:EX O S [] true f pf): EX O S [] true (Zam g (ZQ j) ZZ f) (ZdB q j pf):=fun c ρ σ H Φ Ψ t σ' s h=>by
 have hS:∀d,(j,d)∉S:=fun d m=>hj.2 _ m rfl
 obtain⟨ts,h1,h⟩:=Zz0.mp h
 split at h
 ·rename_i hl
  obtain⟨⟨out,σ2⟩,h2,h⟩:=Zz1.mp h
  cases h
  have sd:=s.del j
  obtain⟨nx,X,vs,F,G,g1,g2,g3,g4,g5⟩:=hg c.toCtx ρ (Zab σ j) H Φ ts sd.st h1
  obtain⟨xs,K,Φ',Ψ',F',d1,d2,d3,d4,d5,d6,d7,d8,d9,d10,d11,d12⟩:=Zj6 hj.1 hS hf (c:=c) (ρ:=ρ) (H1:=H++X) (fun a m=>(g4 a m).1) (fun a m=>sd.st.from_src (g4 a m).2) g5 ts vs 0 [] (Zab σ j) (H++X) Φ Ψ F out σ2 (by simp) (by simp) (sd.ext X) (Zz10 _) (fun _ _=>rfl) (fun a m q=>by
   rcases q with⟨k,hk,⟨t,e⟩,q⟩ | q
   ·exact sd.st.from_off (fun i hi=>(hN i hi).1) (g4 a m).2 hk e q
   ·rcases(g4 a m).2 with z | ⟨n,hn,⟨tn,en⟩,mn⟩
    ·have:=sd.shlow q;lia
    ·exact sd.shoff q (fun d m=>(hN n hn).2 _ m rfl) en mn) g2 g3 (by simpa using hl) h2
  have lx:(H++X).length=H.length+X.length:=List.length_append
  simp only[SH.del hS]at d3 d6
  refine⟨.ref K.length,K++[xs],Φ',Ψ',K.length::F',?_,by simp;lia,fun a ha hn=>?_,d4.ext [xs],fun k u hk e=>?_,fun a h=>?_,fun s' d hs ht a m=>?_,ZdG d8,fun a m=>.inl ?_,fun a h m=>?_,fun _=>⟨?_,fun _ s' d hs ht a m q=>?_⟩⟩
  ·simp only[Zam,g1,Zs0,d1,Zs1,List.nil_append]
  ·rw[Zy0 (by lia),d3 a (by lia) hn,Zy0 ha]
  ·obtain⟨e1,e2⟩:=d5 k u hk e
   exact⟨(Za6 e1).2,e2⟩
  ·rcases d6 a h with z | z
   ·exact .inl (by lia)
   ·exact .inr z
  ·rcases d7 s' d hs ht a m with z | ⟨k,⟨u,eu⟩,mk⟩ | z
   ·exact .inl (by omega)
   ·exact .inr ⟨k,⟨u,(Za6 eu).2⟩,mk⟩
   ·rcases(g4 a z).2 with z | ⟨n,_,⟨tn,en⟩,mn⟩
    ·exact .inl z
    ·exact .inr ⟨n,⟨tn,(Za6 en).2⟩,mn⟩
  ·rcases Zz7.mp m with z | z
   ·lia
   ·have:=d9 a z;lia
  ·rcases Zz7.mp m with z | z
   ·have:=d4.shlow h;lia
   ·exact d11 a h z
  ·rw[List.nodup_cons]
   exact⟨fun m=>Nat.lt_irrefl _ (d8.lt _ m),d10⟩
  ·rcases Zz7.mp q with z | z
   ·obtain⟨u,eu⟩:=ht
    have:=d4.low eu a m
    omega
   ·exact d12 s' d hs ht a m z
 ·first|exact Zx0 h|cases h
end
end TM
end
section
namespace TM
open PySem PM
noncomputable def Zha(k:Nat)(p:PX)(g:PG)(put:T→TL→Option TL)(b:PS): PS:=fun σ=>(p (Zab σ k)).bind fun r=>(g (ZI r.2 k r.1)).bind fun ts=>Zcd put b r.2 ts
noncomputable def Cg(k:Nat)(g:Ex→Src): Prop:=∀e ρ H,g e ρ H=(e ρ H).bind fun r=>g (Za k) (upd ρ k r.1) r.2
theorem Cg.range{k:Nat}{C:Ex→Z7}(h:Cts k C): Cg k fun e=>Za7 (C e):=fun e ρ H=>by
 simp only[Za7]
 rw[h e ρ H]
 cases e ρ H with
 | none=>rfl
 | some p=>rfl
section
variable {O:List Nat} {S SR:Sps} {fr:Bool}
theorem ZoX{k:Nat}{J:List Nat}{g:Ex→Src}{e:Ex}{p:PX}{q:PG}{put:V→Lc→Option Lc}{pput:T→TL→Option TL}{b:Sm}{qb:PS}(hC:Cg k g)(x:EX O S [] true e p)(hg:Gs (k::O) [] (g (Za k)) q)(hk:∀q∈S,q.1≠k)(hj:PutOk O J put pput)(hkp:PutK J put)(hJ:∀i∈J,i∉O∧(∀q∈S,q.1≠i)∧∀q∈SR,q.1≠i)(hb:SU O S O S SR fr b qb): SU O S O S SR fr (ZaL (g e) put b) (Zha k p q pput qb):=fun c ρ σ H Φ Ψ r hc s h=>by
 have hS:∀d,(k,d)∉S:=fun d m=>hk _ m rfl
 obtain⟨⟨t1,σ1⟩,h1,h⟩:=Zz0.mp h
 obtain⟨ts,h2,h⟩:=Zz0.mp h
 have sd:=s.del k
 obtain⟨v1,H1,Φ1,Ψ1,F1,a1,a2,a3,a4,a5,a6,a11,a7,a8,a9,a10⟩:=x c ρ (Zab σ k) H Φ Ψ t1 σ1 sd h1
 have new1:∀a∈F1,H.length≤a:=fun a m=>(a8 a m).nil
 have s1:Su c (k::O) S (upd ρ k v1) (ZI σ1 k t1) H1 (Zx Φ1 k F1) Ψ1:=a4.putO (fun j hj=>by rcases Zz7.mp hj with h | h;exact .inr h;exact .inl h) hS a7 (a10 rfl).1 (fun a m=>Nat.le_trans s.st.len (new1 a m)) (fun j w _ ej=>ZgB sd a5 new1 ((a10 rfl).2 (by simp)) j w ej)
 obtain⟨nx,X,vs,F,G,g1,g2,g3,g4,g5⟩:=hg c.toCtx (upd ρ k v1) (ZI σ1 k t1) H1 (Zx Φ1 k F1) ts s1.st h2
 have gnew:∀a∈G,H1.length≤a:=fun a m=>(g4 a m).2.nil
 have:=Ziv hj hkp (fun i hi=>⟨(hJ i hi).1,fun d m=>(hJ i hi).2.1 _ m rfl⟩) (fun q hq m=>(hJ q.1 m).2.2 q hq rfl) hb hc (H1:=H1++X) (fun a m=>(g4 a m).1) (fun a m=>.inl (by have:=gnew a m;have:=s.st.len;lia)) g5 ts vs 0 ρ σ1 (H1++X) Φ1 Ψ1 F r (by simp) (by simp) (a4.ext X) (Zz10 _) (fun _ _=>rfl) (fun a m q=>by have:=HU.lt a4 q;have:=gnew a m;lia) g2 g3 h
 have eg:ZaL (g e) put b ρ H=Za3 nx put b (ts.length+1) 0 ρ (H1++X):=by
  simp only[ZaL]
  rw[hC e ρ H,a1]
  simp only[Zs0,g1]
 rw[eg]
 have:=this.step a4 (by simp) (fun a ha _=>Zy0 ha) (fun j t _ e=>⟨e,rfl⟩) (fun a h=>.inr h)
 refine this.step s a2 (fun a ha hn=>a3 a ha fun q=>hn ((SH.del hS).mp q)) (fun j t hj e=>?_) (fun a h=>(a6 a h).imp id (SH.del hS).mp)
 obtain⟨e1,e2⟩:=a5 j t hj e
 exact⟨(Za6 e1).2,e2⟩
end
noncomputable def Px(c:Option (T×TL))(Q:T→TL→Prop): Prop:=∃t σ,c=some (t,σ)∧Q t σ
noncomputable def Pbx(c:Option (Bool×TL))(Q:Bool→TL→Prop): Prop:=∃t σ,c=some (t,σ)∧Q t σ
noncomputable def Pr(c:Option (T×List T))(Q:T→List T→Prop): Prop:=∃t us,c=some (t,us)∧Q t us
noncomputable def Psx(c:Option (Option T×TL))(R:T→TL→Prop)(N:TL→Prop): Prop:=∃o σ,c=some (o,σ)∧(∀t,o=some t→R t σ)∧(o=none→N σ)
section
variable {σ:TL} {Q:T→TL→Prop} {B:Bool→TL→Prop} {R:T→TL→Prop} {N:TL→Prop}
theorem ZqY{p:PE}(h:Pk (p σ) fun t=>Q t σ): Px (xP p σ) Q:=by
 obtain⟨t,e,q⟩:=h;exact⟨t,σ,by simp[xP,e],q⟩
theorem ZqZ{p:PB}(h:Pb (p σ) fun t=>B t σ): Pbx (xB p σ) B:=by
 obtain⟨t,e,q⟩:=h;exact⟨t,σ,by simp[xB,e],q⟩
theorem Zqa{p:PX}(h:Px (p σ) fun t σ1=>Pb (Zej t) fun b=>B b σ1): Pbx (Zhi p σ) B:=by
 obtain⟨t,σ1,e,b,e2,q⟩:=h;exact⟨b,σ1,by simp[Zhi,e,e2],q⟩
theorem ZoY{k:Nat}{p1 p2:PX}(h:Px (p1 (Zab σ k)) fun t σ1=>Px (p2 (ZI σ1 k t)) fun u σ2=>Q u (Zab σ2 k)): Px (ZaX k p1 p2 σ) Q:=by
 obtain⟨t,σ1,e,u,σ2,e2,q⟩:=h
 exact⟨u,Zab σ2 k,by simp[ZaX,e,e2],q⟩
theorem ZnU{xs:List Nat}{p:List T→Option (T×List T)}{ps:PEs}(h:Pl (ps σ) fun ts=>Pr (p ts) fun t us=>Q t (pick xs (us.map some) σ)): Px (Zan false xs p ps σ) Q:=by
 obtain⟨ts,e,t,us,e2,q⟩:=h
 exact⟨t,_,by simp[Zan,e,e2],q⟩
theorem ZiZ{g:PG}{j n:Nat}{a:Nat→T}{f:PX}{β:Type}(enc:β→T)(d:β)(P:Nat→β→Prop)(I:Nat→TL→Prop)(hn:n<10000)(hg:Pl (g (Zab σ j)) fun ts=>ts=tab n a)(h0:I 0 (Zab σ j))(hf:∀i τ,i<n→I i τ→Px (f (ZI τ j (a i))) fun t τ1=>(∃y,t=enc y∧P i y)∧I (i+1) (Zab τ1 j))(h:∀(y:Nat→β) (τ:TL),(∀i,i<n→P i (y i))→I n τ→Q (.lst (tab n fun i=>enc (y i))) τ): Px (ZdB g j f σ) Q:=by
 obtain⟨ts,e,rfl⟩:=hg
 have key:∀(m k:Nat) (τ:TL),k+m=n→I k τ→∃(ys:Nat→β) (τ1:TL),ZfD j f τ ((List.range m).map fun i=>a (k+i))=some ((List.range m).map fun i=>enc (ys (k+i)),τ1)∧(∀i,i<m→P (k+i) (ys (k+i)))∧I n τ1:=by
  intro m
  induction m with
  | zero=>
   intro k τ hk hi
   have hkn:k=n:=by omega
   subst hkn
   exact⟨fun _=>d,τ,rfl,by simp,hi⟩
  | succ m ih=>
   intro k τ hk hi
   obtain⟨t,τ1,e1,⟨y,ey,py⟩,i1⟩:=hf k τ (by lia) hi
   obtain⟨ys,τ2,e2,p2,i2⟩:=ih (k+1) (Zab τ1 j) (by lia) i1
   refine⟨fun i=>if i=k then y else ys i,τ2,?_,fun i hi'=>?_,i2⟩
   ·rw[List.range_succ_eq_map]
    simp only[List.map_cons,List.map_map,ZfD,Nat.add_zero,e1,Zs0]
    have ea:List.map ((fun i=>a (k+i))∘Nat.succ) (List.range m)=(List.range m).map fun i=>a (k+1+i):=List.map_congr_left fun i _=>by simp only[Function.comp];congr 1;lia
    rw[ea,e2]
    simp only[Zs1,if_true,ey]
    congr 3
    refine List.map_congr_left fun i _=>?_
    have:k+Nat.succ i≠k:=by lia
    simp only[Function.comp,if_neg this]
    congr 2;lia
   ·by_cases q:i=0
    ·subst q;simpa using py
    ·have:=p2 (i-1) (by omega)
     have e3:k+1+(i-1)=k+i:=by lia
     rw[e3]at this
     have e4:k+i≠k:=by lia
     show P (k+i) (if k+i=k then y else ys (k+i))
     rw[if_neg e4]
     exact this
 obtain⟨ys,τ,e2,p2,i2⟩:=key n 0 (Zab σ j) (by lia) h0
 simp only[Nat.zero_add]at e2 p2
 refine⟨.lst (tab n fun i=>enc (ys i)),τ,?_,h ys τ p2 i2⟩
 simp only[ZdB,e,Zs0,ZaI]
 rw[if_pos (by rw[Zac];lia)]
 unfold tab
 rw[e2]
 rfl
theorem ZoZ(h:N σ): Psx (Zai σ) R N:=⟨none,σ,rfl,by simp,fun _=>h⟩
theorem Zqb{a b:PS}(h:Psx (a σ) R fun σ1=>Psx (b σ1) R N): Psx (ZD a b σ) R N:=by
 obtain⟨o,σ1,e,h1,h2⟩:=h
 cases o with
 | none=>
  obtain⟨o2,σ2,e2,k1,k2⟩:=h2 rfl
  exact⟨o2,σ2,by simp[ZD,e,e2],k1,k2⟩
 | some t=>exact⟨some t,σ1,by simp[ZD,e],h1,by simp⟩
theorem Zqc{p:PX}(h:Px (p σ) R): Psx (ZaK p σ) R N:=by
 obtain⟨t,σ1,e,q⟩:=h
 exact⟨some t,σ1,by simp[ZaK,e],fun _ h=>by cases h;exact q,by simp⟩
theorem Zqd{i:Nat}{p:PX}(h:Px (p σ) fun t σ1=>N (ZI σ1 i t)): Psx (Zaq i p σ) R N:=by
 obtain⟨t,σ1,e,q⟩:=h
 exact⟨none,_,by simp[Zaq,e],by simp,fun _=>q⟩
theorem Zo0{i:Nat}{p:PE}(h:Pk (p σ) fun t=>N (ZI σ i t)): Psx (Zbi i p σ) R N:=by
 obtain⟨t,e,q⟩:=h
 exact⟨none,_,by simp[Zbi,e],by simp,fun _=>q⟩
theorem ZqP{b:PBX}{p q:PS}(h:Pbx (b σ) fun x σ1=>(x=true→Psx (p σ1) R N)∧(x=false→Psx (q σ1) R N)): Psx (Zbn b p q σ) R N:=by
 obtain⟨x,σ1,e,h1,h2⟩:=h
 cases x with
 | true=>obtain⟨o,σ2,e2,k⟩:=h1 rfl;exact⟨o,σ2,by simp[Zbn,e,e2],k⟩
 | false=>obtain⟨o,σ2,e2,k⟩:=h2 rfl;exact⟨o,σ2,by simp[Zbn,e,e2],k⟩
theorem ZnV{k:Nat}{p:PX}{q:PS}(h:Px (p (Zab σ k)) fun t σ1=>Psx (q (ZI σ1 k t)) (fun t σ2=>R t (Zab σ2 k)) fun σ2=>N (Zab σ2 k)): Psx (ZdA k p q σ) R N:=by
 obtain⟨t,σ1,e,o,σ2,e2,k1,k2⟩:=h
 exact⟨o,Zab σ2 k,by simp[ZdA,e,e2],k1,k2⟩
theorem Zqe{x:Nat}{M:List Nat}{f:PE}(h:Pk (f σ) fun w=>∃ts,σ x=some (.lst ts)∧ts.length<10000∧N (Zb9 (ZI σ x (.lst (ts++[w]))) M)): Psx (ZeC x M ZbY f σ) R N:=by
 obtain⟨w,e,ts,e2,hl,q⟩:=h
 refine⟨none,_,?_,by simp,fun _=>q⟩
 simp only[ZeC,ZbY,e,e2,Zs0,ZfL,ZeB]
 rw[if_pos (by rw[Zac];lia)]
 rfl
theorem Zo1{x d:Nat}{own:Bool}{f:PE}(hd:0<d∧d≤999∧(own=true∨dnn d 0=0))(h:Pk (f σ) fun w=>∃ts,σ x=some (.lst ts)∧ts.length<10000∧N (ZI σ x (.lst (ts++[w])))): Psx (Zg9 x d own ZbY f σ) R N:=by
 obtain⟨w,e,ts,e2,hl,q⟩:=h
 refine⟨none,_,?_,by simp,fun _=>q⟩
 simp only[Zg9,ZbY,e,e2,Zs0,Zdz,ZeB,List.length_nil]
 rw[if_pos hd,if_pos (by rw[Zac];lia)]
 rfl
theorem Zo2{x d:Nat}{own:Bool}{f i:PE}(hd:0<d∧d≤999∧(own=true∨dnn d 0=0))(h:Pk (f σ) fun w=>Pk (i σ) fun k=>∃ts m,k=.int m∧σ x=some (.lst ts)∧0≤m∧m<ts.length∧N (ZI σ x (.lst (ts.set m.toNat w)))): Psx (Zes x d own f ZbY i σ) R N:=by
 obtain⟨w,e,k,e3,ts,m,ek,e2,h0,h1,q⟩:=h
 subst ek
 refine⟨none,_,?_,by simp,fun _=>q⟩
 simp only[Zes,ZbY,e,e2,e3,Zs0,Zdz,ZjL,List.length_nil]
 rw[if_pos hd,if_pos ⟨h0,h1⟩]
 rfl
theorem Zi0{j:Nat}{b:PS}(P:Nat→TL→Prop): ∀(ts:List T) (k:Nat) {σ:TL},P k σ→(∀i t τ,ts[i]?=some t→P (k+i) τ→Psx (b (ZI τ j t)) R (P (k+i+1)))→(∀τ,P (k+ts.length) τ→N τ)→Psx (Zcd (ZaG j) b σ ts) R N
 | [],k,σ,h0,_,h2=>⟨none,σ,rfl,by simp,fun _=>h2 σ (by simpa using h0)⟩
 | t::ts,k,σ,h0,h1,h2=>by
  obtain⟨o,σ1,e,k1,k2⟩:=h1 0 t σ (by simp) (by simpa using h0)
  cases o with
  | some u=>exact⟨some u,σ1,by simp[Zcd,ZaG,e],k1,by simp⟩
  | none=>
   obtain⟨o2,σ2,e2,l⟩:=Zi0 P ts (k+1) (k2 rfl) (fun i u τ eu p=>by
    have:=h1 (i+1) u τ (by simpa using eu) (by rw[show k+(i+1)=k+1+i by lia];exact p)
    rw[show k+(i+1)+1=k+1+i+1 by lia]at this
    exact this) (fun τ p=>h2 τ (by rw[List.length_cons,show k+(ts.length+1)=k+1+ts.length by lia];exact p))
   exact⟨o2,σ2,by simp[Zcd,ZaG,e,e2],l⟩
theorem Zqf{g:PG}{j:Nat}{b:PS}{ts:List T}(P:Nat→TL→Prop)(hg:Pl (g σ) fun us=>us=ts)(h0:P 0 σ)(h1:∀i t τ,ts[i]?=some t→P i τ→Psx (b (ZI τ j t)) R (P (i+1)))(h2:∀τ,P ts.length τ→N τ): Psx (ZbR g (ZaG j) b σ) R N:=by
 obtain⟨us,e,rfl⟩:=hg
 obtain⟨o,σ1,e2,l⟩:=Zi0 (R:=R) (N:=N) (j:=j) (b:=b) P us 0 h0 (fun i t τ ei p=>by simpa using h1 i t τ ei (by simpa using p)) (fun τ p=>h2 τ (by simpa using p))
 exact⟨o,σ1,by simp only[ZbR,e,Zs0,e2],l⟩
theorem Zk3{g:PG}{j n:Nat}{a:Nat→T}{b:PS}(P:Nat→TL→Prop)(hg:Pl (g σ) fun us=>us=tab n a)(h0:P 0 σ)(h1:∀i τ,i<n→P i τ→Psx (b (ZI τ j (a i))) R (P (i+1)))(h2:∀τ,P n τ→N τ): Psx (ZbR g (ZaG j) b σ) R N:=
 Zqf P hg h0 (fun i t τ e p=>by
  have hi:i<n:=by have:=(Zz6.mp e).1;rwa [ZaI]at this
  rw[Zci hi]at e
  cases e
  exact h1 i τ hi p) (fun τ p=>h2 τ (by rwa [ZaI]at p))
theorem Zo3{k:Nat}{p:PX}{g:PG}{j:Nat}{b:PS}(h:Px (p (Zab σ k)) fun t σ1=>Pl (g (ZI σ1 k t)) fun ts=>Psx (Zcd (ZaG j) b σ1 ts) R N): Psx (Zha k p g (ZaG j) b σ) R N:=by
 obtain⟨t,σ1,e,ts,e2,o,σ2,e3,l⟩:=h
 exact⟨o,σ2,by simp only[Zha,e,Zs0,e2,e3],l⟩
theorem ZnW{j n:Nat}{a:Nat→T}{b:PS}(P:Nat→TL→Prop)(h0:P 0 σ)(h1:∀i τ,i<n→P i τ→Psx (b (ZI τ j (a i))) R (P (i+1)))(h2:∀τ,P n τ→N τ): Psx (Zcd (ZaG j) b σ (tab n a)) R N:=
 Zi0 P (tab n a) 0 h0 (fun i t τ e p=>by
  have hi:i<n:=by have:=(Zz6.mp e).1;rwa [ZaI]at this
  rw[Zci hi]at e
  cases e
  simpa using h1 i τ hi (by simpa using p)) (fun τ p=>h2 τ (by simpa [ZaI]using p))
theorem Zqg{n:Nat}{sd:Sps}{q:PS}{ts:List T}{Q:T→List T→Prop}(hn:ts.length=n)(h:Psx (q fun i=>ts[i]?) (fun t σ=>Pl (ZcC σ sd) fun us=>Q t us) fun σ=>Pl (ZcC σ sd) fun us=>Q .none us): Pr (ZbK n sd q ts) Q:=by
 obtain⟨o,σ,e,h1,h2⟩:=h
 cases o with
 | none=>obtain⟨us,e2,q⟩:=h2 rfl;exact⟨.none,us,by simp[ZbK,hn,e,e2],q⟩
 | some t=>obtain⟨us,e2,q⟩:=h1 t rfl;exact⟨t,us,by simp[ZbK,hn,e,e2],q⟩
theorem ZnX{L:List T→Prop}(h:L []): Pl (ZcC σ []) L:=⟨[],rfl,h⟩
theorem Zo4{L:List T→Prop}{i d:Nat}{sd:Sps}{t:T}(e:σ i=some t)(h:Pl (ZcC σ sd) fun us=>L (t::us)): Pl (ZcC σ ((i,d)::sd)) L:=by
 obtain⟨us,e2,q⟩:=h
 exact⟨t::us,by simp[ZcC,e,e2],q⟩
theorem Zo5{j k:Nat}{o:Option T}(h:j≠k)(e:σ j=o): Zab σ k j=o:=by simp[Zab,h,e]
theorem Zm8{x:Nat}{xs:List Nat}{u:T}{us:List T}: pick (x::xs) (List.map some (u::us)) σ x=some u:=by simp[pick]
theorem ZmK{j x:Nat}{xs:List Nat}{u:T}{us:List T}{o:Option T}(h:j≠x)(e:pick xs (List.map some us) σ j=o): pick (x::xs) (List.map some (u::us)) σ j=o:=by simp[pick,h,e]
theorem ZnY{j:Nat}{us:List T}{o:Option T}(e:σ j=o): pick [] (List.map some us) σ j=o:=by simp[pick,e]
end
end TM
end
section
namespace My
open PySem
section
variable {prog:Program} {w:World} {A:Around} {R:Result→Shared→Prop} {I:Addr} {fp wr:List Addr} {n:Nat} {P:Nat→Value→Prop} {St:Nat→Heap→Prop}
theorem mx_rest(W:Walks prog w A.in1 I fp wr n P St)(bt:Nat→Nat→Bool)(cmp:CmpOf prog w A.in1 .Gt P bt)(S:Addr)(off:S∉fp)(kw:List (Str×Value)):
  ∀(k j:Nat) (s:Shared) (best:Value) (c:Nat),n-(j+1)=k→j+1≤n→St (j+1) s.heap→P (argBest bt j) best→s.heap.get? S=some { cls:=.type "list",dict:=none,data:=.seq #[best,best] c,slots:=#[] } →
   (∀v g tk,P (argBest bt (n-1)) v→(∀b o,b∉wr→b≠S→s.heap.get? b=some o→g.get? b=some o)→R (.ok (.ret v)) { s with heap:=g,toks:=tk }) →
   codeAny (model prog w) A (.builtin "max.loop" ⟨[.ref I,.none,.ref S],kw⟩) R s:=by
 have offw:S∉wr:=fun q=>off (W.sub _ q)
 have nm:(toString "max"++toString ".loop":String)="max.loop":=by decide
 intro k
 induction k with
 | zero=>
  intro j s best c ek ej st pb at_S out
  have last:j+1=n:=by lia
  refine codeAny_builtin F.entry_max_loop ?_;rw[Around.under_plainId F.plain_max_loop _]
  show wpAny _ A.in1 (seqItems? (.ref S) >>= _) _ _ s;refine wpAny_bind (wpAny_seqItems at_S rfl ?_)
  show wpAny _ A.in1 (tryCatch (pyNext (.ref I)) _ >>= _) _ _ s;refine wpAny_bind (wpAny_tryCatch (W.done s _ _ (last▸st) fun g tk keeps=>?_))
  have at_S':=keeps S _ offw at_S
  show wpAny _ A.in1 (updateSeq S (fun _=>#[]) >>= _) _ _ _
  refine wpAny_bind ?_;refine wpAny_updateSeq at_S' rfl (wpAny_bind (wpAny_letGo (wpAny_pure ?_)))
  exact out best _ tk (by rw[←last];exact pb) fun b o bw bS e=>(Heap.get?_update_other _ _ (Ne.symm bS)).trans (keeps b o bw e)
 | succ k ih=>
  intro j s best c ek ej st pb at_S out
  have more:j+1<n:=by omega
  refine codeAny_builtin F.entry_max_loop ?_;rw[Around.under_plainId F.plain_max_loop _]
  show wpAny _ A.in1 (seqItems? (.ref S) >>= _) _ _ s;refine wpAny_bind (wpAny_seqItems at_S rfl ?_)
  show wpAny _ A.in1 (tryCatch (pyNext (.ref I)) _ >>= _) _ _ s;refine wpAny_bind (wpAny_tryCatch (W.item (j+1) s _ _ more st fun v g tk pv st' keeps=>?_))
  have at_S':=keeps S _ offw at_S
  show wpAny _ A.in1 (tryCatch (holding [v,v] (richCompare .Gt v best >>= _)) _ >>= _) _ _ _;refine wpAny_bind (wpAny_tryCatch (wpAny_holding (wpAny_bind (cmp (j+1) (argBest bt j) v best _ _ _ pv pb ?_))))
  refine wpAny_bind (wpAny_holding (wpAny_truthy_bool ?_));refine wpAny_bind (wpAny_letGo (wpAny_pure ?_))
  cases hb:bt (j+1) (argBest bt j)with
  | true=>
   simp only[if_true];refine wpAny_bind ?_;refine wpAny_updateSeq at_S' rfl (wpAny_bind (wpAny_letGo ?_));rw[nm]
   refine wpAny_pure ⟨plainId_quiet F.plain_max_loop _,ih (j+1) _ v _ (by omega) more (W.frame _ _ _ st' fun b bf o e=>?_) (by simp only[argBest,hb,if_true];exact pv) (Heap.get?_update_self _ at_S' rfl) fun v' g' tk' pv' keeps'=>?_⟩
   ·exact(Heap.get?_update_other _ _ (fun q:S=b=>off (by rw[q];exact bf))).trans e
   ·exact out v' g' tk' pv' fun b o bw bS e=>keeps' b o bw bS ((Heap.get?_update_other _ _ (Ne.symm bS)).trans (keeps b o bw e))
  | false=>
   simp only[Bool.false_eq_true,if_false];refine wpAny_bind (wpAny_letGo ?_);rw[nm]
   refine wpAny_pure ⟨plainId_quiet F.plain_max_loop _,ih (j+1) _ best c (by omega) more st' (by simp only[argBest,hb,Bool.false_eq_true,if_false];exact pb) at_S' fun v' g' tk' pv' keeps'=>?_⟩
   exact out v' g' tk' pv' fun b o bw bS e=>keeps' b o bw bS (keeps b o bw e)
theorem mx_first(W:Walks prog w A.in1 I fp wr n P St)(bt:Nat→Nat→Bool)(cmp:CmpOf prog w A.in1 .Gt P bt)(S:Addr)(off:S∉fp)(kw:List (Str×Value))(some_:0<n){s:Shared}{c:Nat}(st:St 0 s.heap)
  (at_S:s.heap.get? S=some { cls:=.type "list",dict:=none,data:=.seq #[] c,slots:=#[] })
  (out:∀v g tk,P (argBest bt (n-1)) v→(∀b o,b∉wr→b≠S→s.heap.get? b=some o→g.get? b=some o)→R (.ok (.ret v)) { s with heap:=g,toks:=tk }):
  codeAny (model prog w) A (.builtin "max.loop" ⟨[.ref I,.none,.ref S],kw⟩) R s:=by
 have offw:S∉wr:=fun q=>off (W.sub _ q)
 have nm:(toString "max"++toString ".loop":String)="max.loop":=by decide
 refine codeAny_builtin F.entry_max_loop ?_;rw[Around.under_plainId F.plain_max_loop _]
 show wpAny _ A.in1 (seqItems? (.ref S) >>= _) _ _ s;refine wpAny_bind (wpAny_seqItems at_S rfl ?_)
 show wpAny _ A.in1 (tryCatch (pyNext (.ref I)) _ >>= _) _ _ s;refine wpAny_bind (wpAny_tryCatch (W.item 0 s _ _ some_ st fun v g tk pv st' keeps=>?_))
 have at_S':=keeps S _ offw at_S
 show wpAny _ A.in1 (updateSeq S (fun _=>#[v,v]) >>= _) _ _ _
 refine wpAny_bind ?_;refine wpAny_updateSeq at_S' rfl ?_;rw[nm]
 refine wpAny_pure ⟨plainId_quiet F.plain_max_loop _,mx_rest W bt cmp S off kw _ 0 _ v _ rfl some_ (W.frame _ _ _ st' fun b bf o e=>?_) pv (Heap.get?_update_self _ at_S' rfl) fun v' g' tk' pv' keeps'=>?_⟩
 ·exact(Heap.get?_update_other _ _ (fun q:S=b=>off (by rw[q];exact bf))).trans e
 ·exact out v' g' tk' pv' fun b o bw bS e=>keeps' b o bw bS ((Heap.get?_update_other _ _ (Ne.symm bS)).trans (keeps b o bw e))
theorem mx_none(W:Walks prog w A.in1 I fp wr 0 P St)(S:Addr)(x:Str)(d:Value)(kw:List (Str×Value)){s:Shared}{c:Nat}(st:St 0 s.heap)
  (at_S:s.heap.get? S=some { cls:=.type "list",dict:=none,data:=.seq #[] c,slots:=#[] })
  (out:∀g tk,(∀b o,b∉wr→s.heap.get? b=some o→g.get? b=some o)→R (.ok (.ret d)) { s with heap:=g,toks:=tk }):
  codeAny (model prog w) A (.builtin "max.loop" ⟨[.ref I,.none,.ref S],(x,d)::kw⟩) R s:=by
 refine codeAny_builtin F.entry_max_loop ?_;rw[Around.under_plainId F.plain_max_loop _]
 show wpAny _ A.in1 (seqItems? (.ref S) >>= _) _ _ s;refine wpAny_bind (wpAny_seqItems at_S rfl ?_)
 show wpAny _ A.in1 (tryCatch (pyNext (.ref I)) _ >>= _) _ _ s;refine wpAny_bind (wpAny_tryCatch (W.done s _ _ st fun g tk keeps=>?_))
 show wpAny _ A.in1 (rule _ >>= _) _ _ _
 exact wpAny_bind (wpAny_rule (wpAny_pure (out g tk keeps)))
end
section
variable {prog:Program} {w:World} {A:Around} {E:Value→Shared→Prop} {s:Shared}
theorem kw_tree{id:String}{b:Builtin}{args:List Value}{kw:List (Str×Value)}{Q:Value→Shared→Prop}(e1:builtinKind id=none)(e2:plainId id=true)(e3:entryFor table id=some b)(e4:argsOk id ⟨args,kw⟩)
  (go:wpAny (model prog w) A.in1 (b ⟨args,kw⟩) (fun fin s'=>match fin with
   | .done f=>(match (Except.ok f:Result)with
    | .ok (.ret v)=>Q v s'
    | .ok _=>False
    | .error e=>E e s')
   | .again c'=>c'.quiet=true∧codeAny (model prog w) A c' (fun r s'=>match r with
    | .ok (.ret v)=>Q v s'
    | .ok _=>False
    | .error e=>E e s') s') E s):wpAny (model prog w) A (call (.builtin id) args kw) Q E s:=by
 refine wpAny_call (codeAny_call_builtin e2 e3 ?_)
 simp only[checkBuiltinCall,e1]
 cases sg:Manifest.signature? id with
 | none=>exact wpAny_pure go
 | some sig=>
  have e5:Bind.checkArgs id sig ⟨args,kw⟩=pure ():=by simpa only[argsOk,sg]using e4
  simp only[e5]
  exact wpAny_pure go
theorem mx_args(a d:Value): argsOk "max" ⟨[a],[(Str.ofString "default",d)]⟩:=by unfold argsOk;kernel_rfl
theorem mx_walk{x d:Value}{Q:Value→Shared→Prop}
  (h:wpAny (model prog w) A.in1 (pyIter x) (fun it s₂=>∃I fp wr n P St bt,it=.ref I∧Walks prog w A.in1 I fp wr n P St∧St 0 s₂.heap∧(∀b∈fp,b<s₂.heap.objs.size)∧CmpOf prog w A.in1 .Gt P bt ∧
   (n=0→∀g tk,(∀b o,b∉wr→s₂.heap.get? b=some o→g.get? b=some o)→Q d { s₂ with heap:=g,toks:=tk }) ∧
   (0<n→∀v g tk,P (argBest bt (n-1)) v→(∀b o,b∉wr→s₂.heap.get? b=some o→g.get? b=some o)→Q v { s₂ with heap:=g,toks:=tk })) E s):
  wpAny (model prog w) A (call (.builtin "max") [x] [(Str.ofString "default",d)]) Q E s:=by
 have nm:(toString "max"++toString ".loop":String)="max.loop":=by decide
 refine kw_tree F.kind_max F.plain_max F.entry_max (mx_args _ _) ?_
 show wpAny _ A.in1 (Builtin.Builtins.bindParams "max" ["key","default"] 0 ⟨[],[(Str.ofString "default",d)]⟩ >>= _) _ _ s
 refine wpAny_bind (wpAny_of_eq (show Builtin.Builtins.bindParams "max" ["key","default"] 0 ⟨[],[(Str.ofString "default",d)]⟩=pure [none,some d]from rfl) ?_)
 refine wpAny_bind (wpAny_pure ?_)
 refine wpAny_bind (wpAny_mono h (fun it s₂ h₂=>?_) fun _ _ e=>e)
 obtain⟨I,fp,wr,n,P,St,bt,rfl,W,st,below,cmp,q0,q1⟩:=h₂
 refine wpAny_bind (wpAny_newObj_type ?_)
 have off:s₂.heap.objs.size∉fp:=fun hm=>Nat.lt_irrefl _ (below _ hm)
 rw[nm]
 by_cases z:n=0
 ·subst z
  exact wpAny_pure ⟨plainId_quiet F.plain_max_loop _,mx_none W _ _ d [] (W.frame _ _ _ st fun b _ o e=>Heap.get?_push_of_some _ e) (Heap.get?_push_size _ rfl) fun g tk keeps=>q0 rfl g tk fun b o bw e=>keeps b o bw (Heap.get?_push_of_some _ e)⟩
 ·refine wpAny_pure ⟨plainId_quiet F.plain_max_loop _,mx_first W bt cmp _ off _ (Nat.pos_of_ne_zero z) (W.frame _ _ _ st fun b _ o e=>Heap.get?_push_of_some _ e) (Heap.get?_push_size _ rfl) fun v g tk pv keeps=>?_⟩
  exact q1 (Nat.pos_of_ne_zero z) v g tk pv fun b o bw e=>keeps b o bw (Nat.ne_of_lt (Heap.lt_size e)) (Heap.get?_push_of_some _ e)
end
section
variable {prog:Program} {w:World} {A:Around} {R:Result→Shared→Prop} {I:Addr} {fp wr:List Addr} {n:Nat} {P:Nat→Value→Prop} {St:Nat→Heap→Prop}
end
section
variable {prog:Program} {w:World} {A:Around} {E:Value→Shared→Prop} {s:Shared}
end
section
variable {prog:Program} {w:World} {A:Around} {E:Value→Shared→Prop} {s:Shared} {l:Addr} {d:Value} {Q:Value→Shared→Prop}
theorem mx_ints(xs:Array (Int×Tok))(hh:A.handled=none)(hl:s.heap.IsList l (intItems xs))
  (q0:xs.size=0→∀g tk,(∀b o,s.heap.get? b=some o→g.get? b=some o)→Q d { s with heap:=g,toks:=tk })
  (q1:0<xs.size→∀v g tk,(intItems xs)[argBest (fun i j=>decide (numAt xs i>numAt xs j)) (xs.size-1)]?=some v→(∀b o,s.heap.get? b=some o→g.get? b=some o)→Q v { s with heap:=g,toks:=tk }):
  wpAny (model prog w) A (call (.builtin "max") [.ref l] [(Str.ofString "default",d)]) Q E s:=by
 refine mx_walk (iter_intList hl fun s₂ e st below ne=>?_)
 subst e
 have sz:(intItems xs).size=xs.size:=by simp[intItems]
 refine⟨_,_,_,_,_,_,_,rfl,Walks.list (A:=A.in1) hh _ l ne (intItems xs),st,below,CmpOf.ints_gt (numAt xs) (fun _ _=>intItems_at),fun z g tk k=>q0 (sz▸z) g tk (old_kept k),fun z v g tk pv k=>?_⟩
 rw[sz]at z pv
 exact q1 z v g tk pv (old_kept k)
end
section
variable {prog:Program} {w:World} {A:Around} {E:Value→Shared→Prop} {s:Shared} {l:Addr} {d:Value} {Q:Value→Shared→Prop}
end
end My
end
section
namespace PM
open PySem PySem.W PySem.Calls PyProof.Rows PyProof PyProof.Rows.LCg PyProof.Rows.LCp
theorem Zk4(bt:Nat→Nat→Bool): ∀j:Nat,argBest bt j≤j
 | 0=>Nat.le_refl _
 | j+1=>by
  have:=Zk4 bt j
  simp only[argBest];split <;> (first | lia | omega)
theorem ZkF{W:Wd}: ∀{vs:List V} {xs:List Value} {ks:List Int},VRs W vs xs→Zc1 vs=some ks→∃ts:List (Int×Tok),xs=ts.map (fun p=>Value.int p.1 p.2)∧ts.map (·.1)=ks
 | [],_,_,h,e=>by cases h;cases e;exact⟨[],rfl,rfl⟩
 | v::vs,xs,ks,h,e=>by
  cases h with
  | cons a b=>
   cases a <;> simp only[Zc1]at e <;> try cases e
   obtain⟨ks',e1,e2⟩:=Zz1.mp e
   obtain⟨ts,h1,h2⟩:=ZkF b e1
   exact⟨(_,_)::ts,by rw[h1];rfl,by simp[h2,←e2]⟩
section
variable {prog:Program} {w:World} {Γ:Cx}
end
end PM
end
section
namespace PM
open PySem PySem.W PySem.Calls PyProof.Rows PyProof PyProof.Rows.LCg PyProof.Rows.LCp
section
variable {prog:Program} {w:World} {Γ:Cx}
end
noncomputable def ZfE: List V→Hp→Option (V×Hp)
 | [.ref a],H=>H[a]?.bind fun vs=>(Zc1 vs).map fun ks=>(.int (ks.max?.getD 0),H)
 | _,_=>none
theorem Zm9(f:Nat→Int)(j:Nat): ∀i:Nat,i≤j→f i≤f (argBest (fun a b=>decide (f a>f b)) j):=by
 induction j with
 | zero=>
  intro i h
  have:i=0:=by lia
  subst this
  exact Int.le_refl _
 | succ j ih=>
  intro i h
  simp only[argBest]
  split
  ·rename_i c
   have c:=of_decide_eq_true c
   rcases Nat.lt_or_ge j i with h1 | h1
   ·have:i=j+1:=by lia
    subst this
    exact Int.le_refl _
   ·have:=ih i h1
    omega
  ·rename_i c
   have c:¬f (j+1)>f (argBest (fun a b=>decide (f a>f b)) j):=fun q=>c (decide_eq_true q)
   rcases Nat.lt_or_ge j i with h1 | h1
   ·have:i=j+1:=by omega
    subst this
    omega
   ·exact ih i h1
section
variable {prog:Program} {w:World} {Γ:Cx}
theorem Zqh{x:Str}{np pos kp p2:Pos}{n2:Nat}{e1:Expr}{f:Ex}(hn:Nm prog w Γ x (.builtin "max"))(h1:J prog w Γ e1 f)
  (he:backTo pos (starEach [e1] Γ.env)=(false,eval e1 Γ.env)::backTo pos (starEach [] Γ.env):=by rfl) (he2:starEach [e1] Γ.env=(false,eval e1 Γ.env)::starEach [] Γ.env:=by rfl)
  (hp:(backTo pos (starEach [e1] Γ.env)).any (·.1)=false:=by rfl):
  J prog w Γ (.Call (.Name x np) [e1] [⟨some (Str.ofString "default"),.Constant (.int 0) n2 p2,kp⟩] pos) (Zh ZfE (Zb f Ze)):=by
 intro W ρ H fr s Q E v H' r hf post
 obtain⟨p,a1,hf⟩:=Zz0.mp hf
 obtain⟨p1,b1,b2⟩:=Zz0.mp a1
 obtain⟨u1,H1⟩:=p1
 cases b2
 simp only at hf
 refine wpAny_Call_ofName (hn.use r ?_)
 refine callWith_kw (wpAny_items_cons (h1 W ρ H fr s _ E _ _ r b1 fun W1 k1 t1 y1 l1 r1 v1=>wpAny_items_nil ?_) he2) he hp rfl rfl
 refine kws_cons (wpAny_Constant_int (kws_nil ?_))
 show wpAny (model prog w) Γ.A (call (.builtin "max") [y1] [(Str.ofString "default",.int 0 _)]) Q E _
 unfold ZfE at hf
 split at hf
 ·rename_i a b heq
  cases heq
  obtain⟨vs,e1,e2⟩:=Zz0.mp hf
  obtain⟨ks,e3,e4⟩:=Zz1.mp e2
  cases e4
  cases v1 with
  | ref ea=>
   obtain⟨hl,ys,k,hg,hv⟩:=r1.at e1 ea
   obtain⟨ts,g1,g2⟩:=ZkF hv e3
   have isl:k1.IsList _ (intItems ts.toArray):=⟨_,hg,rfl,k,by rw[g1];simp[intItems]⟩
   have nums:∀i (hi:i<ts.length),numAt ts.toArray i=ts[i].1:=fun i hi=>by simp[numAt,hi]
   refine My.mx_ints ts.toArray Γ.hh isl (fun z g tk up=>?_) fun z v' g tk pv up=>?_
   ·have:ks=[]:=by
     have z:ts.length=0:=by simpa using z
     have:ts=[]:=List.length_eq_zero_iff.mp z
     subst this;exact g2.symm
    subst this
    exact post W1 g tk _ l1 (r1.grown up) (.int _ _)
   ·have z:0<ts.length:=by simpa using z
    have hb:=Zk4 (fun i j=>decide (numAt ts.toArray i>numAt ts.toArray j)) (ts.toArray.size-1)
    have hlow:=Zm9 (numAt ts.toArray) (ts.toArray.size-1)
    generalize argBest (fun i j=>decide (numAt ts.toArray i>numAt ts.toArray j)) (ts.toArray.size-1)=b at hb hlow pv
    have hb':b<ts.length:=by simp at hb;omega
    have ev:v'=Value.int ts[b].1 ts[b].2:=by
     have:(intItems ts.toArray)[b]?=some (Value.int ts[b].1 ts[b].2):=by simp[intItems,hb']
     rw[this]at pv;exact(Option.some.inj pv).symm
    have hm:ks.max? = some ts[b].1:=by
     rw[List.max?_eq_some_iff]
     refine⟨by rw[←g2];exact Zz11.mpr ⟨ts[b],List.getElem_mem _,rfl⟩,fun c hc=>?_⟩
     rw[←g2]at hc
     obtain⟨q,hq,rfl⟩:=Zz11.mp hc
     obtain⟨i,hi,rfl⟩:=List.getElem_of_mem hq
     have:=hlow i (by simp;lia)
     rw[nums i hi,nums b hb']at this
     exact this
    subst ev
    exact post W1 g tk _ l1 (r1.grown up) (by rw[hm];exact .int _ _)
 ·first|exact Zx0 hf|cases hf
end
end PM
end
section
namespace TM
open PySem PM
theorem SimX.zero{n:Nat}{sd:Sps}{fr:Bool}: SimX n sd fr (fun _ _=>none) (fun _=>none):=fun H vs ts t us Φ Ψ _ _ _ _ _ e=>by cases e
theorem ZnZ{ρ:Lc}{j k:Nat}{a b:V}(h:j≠k): upd (upd ρ k a) j b=upd (upd ρ j b) k a:=by
 funext i
 by_cases h1:i=j <;> by_cases h2:i=k <;> simp_all [upd]
theorem Zk5{k j:Nat}{c:Ts}{f:Ex}(hj:j≠k)(hc:∀ρ v H,c (upd ρ k v) H=c ρ H)(hf:Of k f)(nx:Nx)(ρ:Lc)(v:V): ∀(n i:Nat) (acc:List V) (H:Hp),ZaF nx (ZQ j) c f (upd ρ k v) n i acc H=ZaF nx (ZQ j) c f ρ n i acc H
 | 0,_,_,_=>rfl
 | n+1,i,acc,H=>by
  simp only[ZaF,ZQ,Zs0,ZnZ hj,hc,hf]
  cases nx i H with
  | none=>rfl
  | some o=>
   cases o with
   | none=>rfl
   | some x=>
    simp only[Zs0,hc,hf]
    cases c (upd ρ j x) H with
    | none=>rfl
    | some b=>
     have hf':∀H,f (upd (upd ρ j x) k v) H=f (upd ρ j x) H:=fun H=>hf _ _ _
     simp only[Zs0,hf',Zk5 hj hc hf nx ρ v n]
noncomputable def Zhb: List T→Option T
 | [.lst ts]=>(Zbr ts).map fun ks=>.int (ks.max?.getD 0)
 | _=>none
theorem Zqi: OAn ZfE Zhb:=fun H vs ts t F r h=>by
 unfold Zhb at h
 split at h
 ·obtain⟨v,rfl,r'⟩:=r.one_inv
  cases r' with
  | ref e hs=>
   obtain⟨ks,h1,h2⟩:=Zz1.mp h
   subst h2
   exact⟨.int (ks.max?.getD 0),by simp only[ZfE,e,Zs0,ZiQ hs h1,Zs1],.int _⟩
 ·first|exact Zx0 h|cases h
end TM
end
section
namespace PM
open PySem PySem.W PySem.Calls PyProof.Rows PyProof
noncomputable def KIn{α:Type}(n:Nat)(P:α→Prop): KasT α→Prop
 | .ret a=>P a
 | .ask i j k=>i<n∧j<n∧∀b,KIn n P (k b)
theorem KIn.bind{α β:Type}{n:Nat}{P:α→Prop}{P':β→Prop}{f:α→KasT β}(h:∀a,P a→KIn n P' (f a)): ∀{t:KasT α},KIn n P t→KIn n P' (t.bind f)
 | .ret a,z=>h a z
 | .ask i j k,z=>⟨z.1,z.2.1,fun b=>KIn.bind h (z.2.2 b)⟩
section
variable {n:Nat}
end
section
variable {prog:Program} {w:World} {A:Around} {E:Value→Shared→Prop} {s:Shared}
end
end PM
namespace PM
open PySem PySem.W PySem.Calls PyProof.Rows PyProof
section
variable {prog:Program} {w:World}
end
end PM
end
section
namespace PM
open PySem PySem.Calls
end PM
namespace TM
open PySem PM
noncomputable def pr2(p:Int×Int): T:=.tup [.int p.1,.int p.2]
end TM
end
section
namespace PM
open PySem PySem.W PySem.Calls PyProof.Rows PyProof
noncomputable def Zq0(t:SetTable): Prop:=t.place.toList.Pairwise (· < ·)∧t.dummies = #[]
end PM
end
section
namespace PM
open PySem PySem.W PySem.Calls PyProof.Rows PyProof
noncomputable def Mk(m:Nat): Prop:=m=7∨m=31∨m=127
end PM
end
section
namespace PM
open PySem PySem.W PySem.Calls PyProof.Rows PyProof
structure Held(prog:Program)(w:World)(es:Array (Int×Value))(t:SetTable)(ks:List Int): Prop where
 kind:ElemsOf (intKind prog w) es.toList
 few:es.size<scanBound
 fit:t.fits es.size=true
 rise:Zq0 t
 led:t.led = !(w.params.followText "set-order")
 same:∃vs,(es.toList.map (·.2)).Perm vs∧IntsAre vs ks
section
variable {prog:Program} {w:World} {es:Array (Int×Value)} {t:SetTable} {ks:List Int}
end
noncomputable def Nice(t:SetTable): Prop:=t.plain=true∧Mk t.mask∧t.place.size*5<t.mask*3
section
variable {prog:Program} {w:World} {A:Around} {E:Value→Shared→Prop} {s:Shared} {a:Addr} {ks:List Int}
end
end PM
end
section
namespace PM
open PySem PySem.W PySem.Calls PyProof.Rows PyProof
noncomputable def ZdC: List V→Hp→Option (V×Hp)
 | [.bool b],H=>some (.int (if b then 1 else 0),H)
 | [.int i],H=>some (.int i,H)
 | _,_=>none
theorem Zo6{prog:Program}{w:World}: OpN prog w (fun xs=>call (.type "int") xs) ZdC:=by
 intro Γ W ρ H fr s Q E as xs v H' r hx ho post
 unfold ZdC at ho
 split at ho
 ·first|exact Zx0 ho|cases ho
  obtain⟨x,rfl,rx⟩:=hx.one
  cases rx with
  | bool b=>exact call_int_bool (post W s.heap _ _ (.refl W) r (.int _ _))
 ·first|exact Zx0 ho|cases ho
  obtain⟨x,rfl,rx⟩:=hx.one
  cases rx with
  | int i t=>exact call_int_int (post W s.heap s.toks _ (.refl W) r (.int _ _))
 ·first|exact Zx0 ho|cases ho
end PM
end
section
namespace TM
open PySem PM
noncomputable def ZjC: List T→Option T
 | [.bool b]=>some (.int (if b then 1 else 0))
 | [.int i]=>some (.int i)
 | _=>none
theorem Zqj: OAn ZdC ZjC:=fun H vs ts t F r h=>by
 unfold ZjC at h
 split at h
 ·obtain⟨v,rfl,r'⟩:=r.one_inv
  cases r';cases h;exact⟨_,rfl,.int _⟩
 ·obtain⟨v,rfl,r'⟩:=r.one_inv
  cases r';cases h;exact⟨_,rfl,.int _⟩
 ·first|exact Zx0 h|cases h
end TM
end
section
namespace PM
open PySem PySem.W PySem.Calls PyProof.Rows PyProof PyProof.Rows.LCg PySem.SeqAt
noncomputable def ZjN: V→Hp→Option (V×Hp)
 | .ref a,H=>H[a]?.bind fun vs=>vs.getLast?.bind fun v=>if a≠0 then some (v,H.set a vs.dropLast)else none
 | _,_=>none
noncomputable def ZjO(o:Ex): Ex:=fun ρ H=>(o ρ H).bind fun p=>ZjN p.1 p.2
section
variable {prog:Program} {w:World} {A:Around} {E:Value→Shared→Prop} {s:Shared}
theorem Zn0{a:Addr}{us:List Value}{x:Value}{k:Nat}{Q:Value→Shared→Prop}(g:s.heap.get? a=some (Zbf (us++[x]) k))(hz:us.length+1≤sizeLine)
  (post:∀h' j,Heap.SameBut a s.heap h'→h'.get? a=some (Zbf us j)→Q x { s with heap:=h' }):wpAny (model prog w) A (call (.builtin "list.pop") [.ref a]) Q E s:=by
 refine wpAny_call_entry PySem.F.slot_list_pop ⟨_,g,rfl⟩ PySem.F.entry_list_pop ?_ (PySem.F.args_list_pop_1 _)
 unfold Builtin.«list.pop»
 refine wpAny_bind (m:=selfAndSome _ _ _ _ _) (wpAny_pure ?_)
 dsimp only
 refine wpAny_bind (wpAny_pure ?_)
 rw[if_neg (by decide)]
 refine wpAny_bind (listItems_at g rfl ?_)
 rw[if_neg (by simp)]
 have at_last:(seqIndex? (-1) (us++[x]).toArray.size).bind (fun k=>(us++[x]).toArray[k]?.map (k,·))=some (us.length,x):=by
  have:seqIndex? (-1) (us++[x]).toArray.size=some us.length:=by
   rw[List.size_toArray,List.length_append,List.length_singleton]
   unfold seqIndex?
   simp
   lia
  rw[this]
  simp
 rw[at_last]
 dsimp only
 have cut:((us++[x]).toArray.eraseIdxIfInBounds us.length)=us.toArray:=by
  simp
  rw[List.eraseIdx_append_of_length_le (Zz10 _)]
  simp
 have g':=get?_update_seq g (·.eraseIdxIfInBounds us.length)
 rw[cut]at g'
 refine wpAny_bind (listUpdate_at g rfl (wpAny_pure ⟨_,rfl,post _ _ (Heap.SameBut.update ..) g'⟩) ?_ ?_)
 ·rw[List.size_toArray,List.length_append];simpa using hz
 ·rw[cut,List.size_toArray]
  lia
end
section
variable {prog:Program} {w:World} {Γ:Cx}
theorem VRs.split_last{W:Wd}: ∀{vs:List V} {v:V} {xs:List Value},VRs W (vs++[v]) xs→∃us x,xs=us++[x]∧VRs W vs us∧VR W v x
 | [],v,xs,h=>by
  obtain⟨x,rfl,r⟩:=h.one
  exact⟨[],x,rfl,.nil,r⟩
 | a::vs,v,xs,h=>by
  cases h with
  | cons h1 h2=>
   obtain⟨us,x,rfl,r1,r2⟩:=h2.split_last
   exact⟨_::us,x,rfl,.cons h1 r1,r2⟩
theorem J.pop{o:Expr}{apos pos:Pos}{f:Ex}(ho:J prog w Γ o f)(hbase:attributeBase o "pop" Γ.env (eval o Γ.env)=eval o Γ.env:=by rfl)
  (hline:(apos.endLine == pos.line)=true:=by rfl):J prog w Γ (.Call (.Attribute o "pop" apos) [] [] pos) (ZjO f):=by
 intro W ρ H fr s Q E v H' r hx post
 obtain⟨p,x1,hx⟩:=Zz0.mp hx
 obtain⟨u,H1⟩:=p
 unfold ZjN at hx
 dsimp only at hx
 split at hx
 ·rename_i i _ _
  obtain⟨vs,hvs,hx⟩:=Zz0.mp hx
  obtain⟨l,hl,hx⟩:=Zz0.mp hx
  split at hx
  ·rename_i i0
   cases hx
   obtain⟨ws,rfl⟩:∃ws,vs=ws++[v]:=List.getLast?_eq_some_iff.mp hl
   rw[List.dropLast_concat]at post
   refine wpAny_Call_method0_late hbase hline (ho W ρ H fr s _ E _ _ r x1 fun W1 k1 t1 x l1 r1 y1=>?_)
   cases y1 with
   | @ref _ a aa=>
    obtain⟨hlen,xs,n,hg,hv⟩:=r1.at hvs aa
    obtain⟨us,y,rfl,v1,v2⟩:=hv.split_last
    refine⟨"list","list.pop",PySem.F.plainAttrs_list,PySem.F.slot_list_pop,PySem.F.type_list_pop,(show k1.IsList a (us++[y]).toArray from⟨_,hg,rfl,n,rfl⟩).typeIs,fun b eb=>by cases eb;exact⟨_,hg,rfl⟩,?_⟩
    refine Calls.callWith_builtin rfl (wpAny_of_eq (a:=⟨[],[]⟩) rfl ?_)
    have le:us.length+1≤100000:=by
     have:=v1.length
     rw[List.length_append,List.length_singleton,Zac]at hlen
     lia
    refine Zn0 (s:={ s with heap:=k1,toks:=t1 }) hg (by rw[sizeLine_eq];lia) fun h' j sb g'=>?_
    exact post W1 h' t1 y l1 (r1.change i0 hvs aa sb g' v1 (by rw[Zac];have:=v1.length;lia)) v2
  ·first|exact Zx0 hx|cases hx
 ·first|exact Zx0 hx|cases hx
end
end PM
end
section
namespace TM
open PySem PM
theorem Ct.comp{k j:Nat}{G:Ex→Src}{c:Ts}{f:Ex}(hj:j≠k)(hG:Cg k G)(hc:∀ρ v H,c (upd ρ k v) H=c ρ H)(hf:Of k f): Ct k fun e=>Zam (G e) (ZQ j) c f:=fun e ρ H=>by
 simp only[Zam]
 rw[hG]
 cases e ρ H with
 | none=>rfl
 | some p=>
  simp only[Zs0]
  cases G (Za k) (upd ρ k p.1) p.2 with
  | none=>rfl
  | some z=>simp only[Zs0,Zk5 hj hc hf]
section
variable {O N M:List Nat} {S:Sps} {u w:Bool}
end
end TM
end
section
namespace TM
open PySem PM
noncomputable def ZlA: List T→Option T
 | [.lst ts]=>some (.lst ts)
 | _=>none
theorem RDs.zero{H:Hp}: ∀{vs:List V} {ts:List T} {F R:List Nat},RDs H 0 vs ts F R→RFs H vs ts R∧F=[]
 | _,_,_,_,.nil=>⟨.nil,rfl⟩
 | _,_,_,_,.cons a b=>by
  obtain⟨h1,h2⟩:=b.zero
  cases a with
  | leaf h _=>exact⟨.cons h h1,by simp[h2]⟩
section
variable {O N:List Nat} {S:Sps} {u:Bool}
theorem Zn1{x:Nat}(hx:(x,1)∈S): EX O S [x] false (Zh Zbt (Zb (Za x) Ze)) (xP (ZV ZlA (Zj (Zg x) Zu))):=fun c ρ σ H Φ Ψ t σ' s h=>by
 obtain⟨t',h1,h⟩:=Zz1.mp h
 cases h
 obtain⟨ts,e1,e2⟩:=Zz0.mp h1
 obtain⟨tx,e3,e4⟩:=Zz0.mp e1
 cases e4
 have e3:σ x=some tx:=e3
 cases tx with
 | lst us=>
  cases e2
  obtain⟨v,r1,⟨R,q1,q2,q3⟩,q4,q5⟩:=s.sp x 1 hx _ e3
  obtain⟨v',r1',r2⟩:=s.st.slot x _ e3
  rw[r1]at r1'
  cases r1'
  have hv:∃a,v=.ref a:=by have r3:=r2;generalize Φ x=G at r3;cases r3;exact⟨_,rfl⟩
  obtain⟨a0,rfl⟩:=hv
  obtain⟨vs,ts',F',et,eF,e0,hs,_⟩:=q1.inR (by decide)
  cases et
  have hd:dn 1=0:=rfl
  rw[hd]at hs
  obtain⟨rs,rfl⟩:=hs.zero
  have sub:∀a∈R,a∈Φ x:=fun a m=>by
   obtain⟨_,e⟩:=r2.det (.ref e0 rs)
   rw[e]
   exact Zz2 _ m
  refine⟨.ref H.length,H++[vs],Φ,Ψ,H.length::R,?_,by simp,fun a ha _=>Zy0 ha,s.ext [vs],fun j t _ e=>⟨e,rfl⟩,fun a h=>.inr h,fun s' d _ ⟨t,e⟩ a m=>.inr ⟨s',⟨t,e⟩,m⟩,.ref (by simp) (rs.ext _),fun a m=>?_,fun a h q=>?_,by simp⟩
  ·simp[Zh,Zb,Ze,Za,r1,Zbt,e0]
  ·rcases Zz7.mp m with rfl | m
   ·exact .inl (Zz10 _)
   ·exact .inr ⟨x,List.mem_singleton.mpr rfl,⟨_,e3⟩,sub a m⟩
  ·rcases Zz7.mp q with rfl | q
   ·have:=s.shlow h;lia
   ·obtain⟨i,d,hi,⟨ti,ei⟩,mi⟩:=h
    by_cases c:i=x
    ·subst c;exact q3 a mi q
    ·obtain⟨_,_,_,_,k⟩:=s.sp i d hi ti ei
     exact k x _ (Ne.symm c) e3 a mi (sub a q)
 | none=>first|exact Zx0 e2|cases e2
 | bool _=>first|exact Zx0 e2|cases e2
 | int _=>first|exact Zx0 e2|cases e2
 | str _=>first|exact Zx0 e2|cases e2
 | tup _=>first|exact Zx0 e2|cases e2
 | ob _ _=>first|exact Zx0 e2|cases e2
theorem Zna{k:Nat}{N1:List Nat}{u1:Bool}{C:Ex→Ex}{e:Ex}{p1 p2:PX}(hC:Ct k C)(x:EX O S N1 u1 e p1)(y:EX O S [] true (C (Za k)) p2)(hk:k∉O)(hS:∀q∈S,q.1≠k)(hN1:∀n∈N1,n∉O): EX O S [] true (C e) (ZaX k p1 p2):=fun c ρ σ H Φ Ψ t σ' s h=>by
 have hS:∀d,(k,d)∉S:=fun d m=>hS _ m rfl
 obtain⟨v,H',Φ',Ψ',F,a1,a2,a3,a4,a5,a6,a11,a7,a8,a9,a10⟩:=Ziu hC x y (fun i hi=>hi) hS (fun n hn=>(List.not_mem_nil hn).elim) (fun c ρ σ σ1 H H1 Φ Ψ Φ1 Ψ1 v t F s l s1 old r fr sh un=>by
  refine s1.putL hk hS r (fun a m=>s.st.from_src (fr a m)) (fun i hi w e a m q=>?_) sh
  obtain⟨e1,e2⟩:=old i w (s.ap i hi) e
  rw[e2]at m
  rcases fr a q with q | ⟨n,hn,⟨w',e'⟩,mn⟩
  ·have:=s.low e1 a m;lia
  ·exact(s.st.own i hi w e1).2.2 n w' (fun q=>hN1 n hn (q▸hi)) e' a m mn) c ρ σ H Φ Ψ t σ' s h
 refine⟨v,H',Φ',Ψ',F,a1,a2,a3,a4,a5,a6,a11,a7,fun a m=>?_,a9,fun hu=>⟨(a10 hu).1,fun _=>(a10 hu).2 fun n hn=>(List.not_mem_nil hn).elim⟩⟩
 rcases a8 a m with q | ⟨n,hn,_⟩
 ·exact .inl q
 ·simp at hn
end
theorem Zo7{fr:Bool}{f:List V→Hp→Option (V×Hp)}{p:List T→Option (T×List T)}{x d i:Nat}(k:SimX 1 [(0,d)] false f p)(hi:i≠x): SU [] [(x,d)] [] [] [] fr (Zw i (Zh f (Zb (Za x) Ze))) (Zaq i (Zan false [x] p (Zj (Zg x) Zu))):=fun c ρ σ H Φ Ψ r hc s e=>by
 obtain⟨⟨t,σ1⟩,h1,h⟩:=Zz1.mp e
 subst h
 obtain⟨ts,h2,h1⟩:=Zz0.mp h1
 obtain⟨⟨t',us⟩,h3,h1⟩:=Zz0.mp h1
 rw[if_pos (by simp)]at h1
 cases h1
 obtain⟨tx,e3,e4⟩:=Zz0.mp h2
 cases e4
 have e3:σ x=some tx:=e3
 obtain⟨v0,r1,sp,q4,q5⟩:=s.sp x d (Zz9.mpr rfl) _ e3
 obtain⟨v',r1',r2⟩:=s.st.slot x _ e3
 rw[r1]at r1'
 cases r1'
 have hpos:0<H.length:=Nat.lt_of_lt_of_le s.st.pos s.st.len
 have n0:0∉Ψ x:=fun q=>by
  rcases q4 0 q with z | z
  ·have:=s.st.pos;lia
  ·exact s.st.f0 (c.fs x 0 z)
 obtain⟨v,H',Φ',Ψ',F,a1,a2,a3,a4,a5,a6,a7,a8⟩:=k H [v0] [tx] t' us (fun _=>Φ x) (fun _=>Ψ x) hpos rfl rfl (fun i t e=>by
  match i,e with
  | 0,e=>cases e;exact⟨v0,rfl,r2⟩) (fun i d' hm v t hv ht=>by
  simp only[List.mem_singleton,Prod.mk.injEq]at hm
  obtain⟨rfl,rfl⟩:=hm
  cases hv
  cases ht
  refine⟨sp,n0,fun j u hj hu=>?_⟩
  match j,hj,hu with
  | 0,hj,_=>exact absurd rfl hj
  | j+1,_,hu=>simp at hu) h3
 match us,a4 with
 | [u],_=>
 obtain⟨b1,b2,b3,b4,b5,b6,b7⟩:=a5 0 0 d v0 u rfl rfl rfl
 have fr1:∀j t,j≠x→σ j=some t→∀a∈Φ j,H'[a]?=H[a]?:=fun j t hj ej a m=>by
  have lt:=s.low ej a m
  refine a3 a lt fun i d' hm q=>?_
  exact q5 j t hj ej a q m
 refine⟨upd ρ i v,H',Zx (fun j=>if j=x then Φ' 0 else Φ j) i F,Ψ,a2,fun a ha hn=>?_,fun q hq=>(List.not_mem_nil hq).elim,.inl ⟨rfl,?_,?_,fun a h=>?_⟩⟩
 ·refine a3 a ha fun i' d' hm q=>hn (.inr ⟨x,d,List.mem_singleton.mpr rfl,⟨_,e3⟩,?_⟩)
  exact q
 ·simp[Zw,Zh,Zb,Ze,Za,r1,a1]
 ·have slot:∀j t,ZI (pick [x] ([u].map some) σ) i t' j=some t→∃w,upd ρ i v j=some w∧RF H' w t (Zx (fun j=>if j=x then Φ' 0 else Φ j) i F j)∧∀a∈Zx (fun j=>if j=x then Φ' 0 else Φ j) i F j,c.H0.length≤a∨c.P a:=fun j t ej=>by
   have from0:∀a,(H.length≤a∨∃j,j<1∧a∈Φ x)→c.H0.length≤a∨c.P a:=fun a h=>by
    rcases h with h | ⟨_,_,h⟩
    ·exact .inl (Nat.le_trans s.st.len h)
    ·exact s.st.src x _ e3 a h
   by_cases cj:j=i
   ·subst cj
    simp only[ZI,if_true,Option.some.injEq]at ej
    subst ej
    refine⟨v,by simp[PM.upd],by simpa [Zx]using a6,fun a m=>?_⟩
    simp only[Zx,if_true]at m
    exact from0 a (a7 a m)
   ·simp only[ZI,cj,if_false]at ej
    by_cases cx:j=x
    ·subst cx
     simp only[pick,List.map_cons,if_true,Option.some.injEq]at ej
     subst ej
     refine⟨v0,by simp[PM.upd,cj,r1],by simpa [Zx,cj]using b1,fun a m=>?_⟩
     simp only[Zx,cj,if_false,if_true]at m
     exact from0 a (b4 a m)
    ·simp only[pick,List.map_cons,List.map_nil,cx,if_false]at ej
     obtain⟨w,w1,w2⟩:=s.st.slot j t ej
     refine⟨w,by simp[PM.upd,cj,w1],?_,fun a m=>?_⟩
     ·simp only[Zx,cj,if_false,cx]
      exact w2.frame (fr1 j t cx ej)
     ·simp only[Zx,cj,if_false,cx]at m
      exact s.st.src j t ej a m
  refine⟨⟨fun j t ej=>?_,fun j t ej=>?_,fun j hj=>(List.not_mem_nil hj).elim,Nat.le_trans s.st.len a2,fun a la hf=>?_,s.st.pos,s.st.f0⟩,fun j d' hj=>(List.not_mem_nil hj).elim,fun j hj=>(List.not_mem_nil hj).elim,fun j hj=>(List.not_mem_nil hj).elim⟩
  ·obtain⟨w,w1,w2,_⟩:=slot j t ej;exact⟨w,w1,w2⟩
  ·obtain⟨w,w1,w2,w3⟩:=slot j t ej;exact w3
  ·rw[a3 a (Nat.lt_of_lt_of_le la s.st.len) fun i' d' hm q=>?_,s.st.keep a la hf]
   rcases q4 a q with z | z
   ·lia
   ·exact hf (c.fs x a z)
 ·rcases h with⟨j,hj,_⟩ | ⟨j,d',hj,_⟩
  ·exact(List.not_mem_nil hj).elim
  ·exact(List.not_mem_nil hj).elim
end TM
end
section
namespace PM
open PySem PySem.W PySem.Calls PyProof.Rows PyProof PySem.Spec
noncomputable def ZgQ: Expr→Bool
 | .Starred _ _=>true
 | _=>false
theorem ZjD{e:Expr}{es:List Expr}{env:Env}(h:ZgQ e=false): starEach (e::es) env=(false,eval e env)::starEach es env:=by
 cases e <;> first | rfl | cases h
noncomputable def ZgR: List Expr→Bool
 | []=>true
 | e::es=>!ZgQ e && ZgR es
theorem ZlP{env:Env}: ∀{es:List Expr} (pos:Pos),ZgR es=true→(backTo pos (starEach es env)).any (·.1)=false
 | [],pos,_=>by rfl
 | e::es,pos,h=>by
  simp only[ZgR,Bool.and_eq_true,Bool.not_eq_true']at h
  have ih:=ZlP (env:=env) (es:=es) pos h.2
  rw[ZjD h.1]
  unfold backTo at ih ⊢
  simp only[List.map_cons,List.any_cons,Bool.false_or]
  exact ih
section
variable {prog:Program} {w:World} {Γ:Cx}
theorem jc{e:Expr}{es:List Expr}{f:Ex}{g:Z7}(h1:J prog w Γ e f)(h2:Js prog w Γ es g)(hs:ZgQ e=false:=by exact rfl): Js prog w Γ (e::es) (Zb f g):=Zaa h1 h2 (ZjD hs)
end
section
variable {prog:Program} {w:World} {K:Frag} {p:Program} {loose:List Str} {mean:ExcName→Option Value} {mg mb:Str→Option Value}
theorem Def.zero{f:Addr}{room:Nat}: Def prog w K p loose mean mg mb f room (fun _ _=>none):=by
 intro Γ dp un clr hd hu W ρ H fr s Q E as xs v H' r hx hF post
 cases hF
end
end PM
end
section
namespace PM
open PySem PySem.W PySem.Calls PyProof.Rows PyProof PySem.Spec
section
variable {prog:Program} {w:World} {Γ:Cx}
theorem ln1{α:Type _}: ∀{xs:List α},xs.length=1→∃x0,xs=[x0]
 | [x0],_=>⟨x0,rfl⟩
theorem ln2{α:Type _}: ∀{xs:List α},xs.length=2→∃x0 x1,xs=[x0,x1]
 | [x0,x1],_=>⟨x0,x1,rfl⟩
theorem ln3{α:Type _}: ∀{xs:List α},xs.length=3→∃x0 x1 x2,xs=[x0,x1,x2]
 | [x0,x1,x2],_=>⟨x0,x1,x2,rfl⟩
theorem ln4{α:Type _}: ∀{xs:List α},xs.length=4→∃x0 x1 x2 x3,xs=[x0,x1,x2,x3]
 | [x0,x1,x2,x3],_=>⟨x0,x1,x2,x3,rfl⟩
theorem ln5{α:Type _}: ∀{xs:List α},xs.length=5→∃x0 x1 x2 x3 x4,xs=[x0,x1,x2,x3,x4]
 | [x0,x1,x2,x3,x4],_=>⟨x0,x1,x2,x3,x4,rfl⟩
theorem ln6{α:Type _}: ∀{xs:List α},xs.length=6→∃x0 x1 x2 x3 x4 x5,xs=[x0,x1,x2,x3,x4,x5]
 | [x0,x1,x2,x3,x4,x5],_=>⟨x0,x1,x2,x3,x4,x5,rfl⟩
theorem ln7{α:Type _}: ∀{xs:List α},xs.length=7→∃x0 x1 x2 x3 x4 x5 x6,xs=[x0,x1,x2,x3,x4,x5,x6]
 | [x0,x1,x2,x3,x4,x5,x6],_=>⟨x0,x1,x2,x3,x4,x5,x6,rfl⟩
theorem jI{k:Int}{n:Nat}{pos:Pos}: J prog w Γ (.Constant (.int k) n pos) (Zd k):=J.int _ _ _
theorem jN{n:Nat}{pos:Pos}: J prog w Γ (.Constant .none n pos) ZaT:=J.none _ _
theorem jB{b:Bool}{n:Nat}{pos:Pos}: J prog w Γ (.Constant (.bool b) n pos) (ZbH b):=J.bool _ _ _
theorem jS{x:Str}{n:Nat}{pos:Pos}: J prog w Γ (.Constant (.str x) n pos) (ZG x):=J.str _ _ _
theorem cO{elt iter:Expr}{x:Str}{px:Pos}{ifs:List Expr}{scope:Scope}{pos:Pos}{cl:List (Str×Addr)}{t:Nat}{g:Src}{c:Ts}{f:Ex}(hg:JI prog w Γ iter g)(hel:∀C ρ,J prog w (ZaZ Γ scope cl C [(x,t)] ρ) elt f)(hif:∀C ρ,JF prog w (ZaZ Γ scope cl C [(x,t)] ρ) ifs c)
  (hclos:closureFor scope Γ.env=pure cl:=by with_unfolding_all rfl) (hcell:∀y∈scope.names,y.2≠.cell:=by decide) (hkind:scope.kind=.function:=by exact rfl) (hnames:∀y∈scope.names,y.2=.local→scope.names.lookup y.1=some .local:=by decide) (hx:scope.names.lookup x=some .local:=by exact rfl) (hs:∀x,foldedSetIterable iter Γ.env x=pure x:=by intro _;rfl):
  J prog w Γ (.ListComp elt [⟨.Name x px,iter,ifs,0⟩] scope pos) (Zam g (ZQ t) c f):=J.comp hg hel hif hclos hcell hkind hnames hx hs
theorem cT{elt iter:Expr}{x x₂:Str}{px px₂ tp:Pos}{kt:Nat}{scope:Scope}{pos:Pos}{cl:List (Str×Addr)}{t t₂:Nat}{g:Src}{f:Ex}(hg:JI2 prog w Γ iter g)(hel:∀C ρ,J prog w (ZaZ Γ scope cl C [(x,t),(x₂,t₂)] ρ) elt f)
  (hclos:closureFor scope Γ.env=pure cl:=by with_unfolding_all rfl) (hcell:∀y∈scope.names,y.2≠.cell:=by decide) (hkind:scope.kind=.function:=by exact rfl) (hnames:∀y∈scope.names,y.2=.local→scope.names.lookup y.1=some .local:=by decide) (hx:scope.names.lookup x=some .local:=by exact rfl) (hx₂:scope.names.lookup x₂=some .local:=by exact rfl) (hxx:x≠x₂:=by decide) (htt:t≠t₂:=by decide) (hs:∀x,foldedSetIterable iter Γ.env x=pure x:=by intro _;rfl):
  J prog w Γ (.ListComp elt [⟨.Tuple [.Name x px,.Name x₂ px₂] kt tp,iter,[],0⟩] scope pos) (Zam g (Zd5 t t₂) ZZ f):=Zos hg hel hclos hcell hkind hnames hx hx₂ hxx htt hs
theorem sO{elt iter:Expr}{x y:Str}{px py pos spos:Pos}{ifs:List Expr}{scope:Scope}{cl:List (Str×Addr)}{t i:Nat}{g:Src}{c:Ts}{f:Ex}(hy:Sto prog w Γ y i)(hg:JI prog w Γ iter g)(hel:∀C ρ,J prog w (ZaZ Γ scope cl C [(x,t)] ρ) elt f)(hif:∀C ρ,JF prog w (ZaZ Γ scope cl C [(x,t)] ρ) ifs c)
  (hsw:swapsWith (.ListComp elt [⟨.Name x px,iter,ifs,0⟩] scope pos) (some (.Name y py)) spos.line Γ.env=pure true:=by rfl)
  (hclos:closureFor scope Γ.env=pure cl:=by with_unfolding_all rfl) (hcell:∀y∈scope.names,y.2≠.cell:=by decide) (hkind:scope.kind=.function:=by exact rfl) (hnames:∀y∈scope.names,y.2=.local→scope.names.lookup y.1=some .local:=by decide) (hx:scope.names.lookup x=some .local:=by exact rfl) (hs:∀x,foldedSetIterable iter Γ.env x=pure x:=by intro _;rfl):
  S1 prog w Γ (.Assign [.Name y py] (.ListComp elt [⟨.Name x px,iter,ifs,0⟩] scope pos) spos) (Zw i (Zam g (ZQ t) c f)):=Zid hy hg hel hif hsw hclos hcell hkind hnames hx hs
end
section
variable {prog:Program} {w:World} {dp un:Nat} {gd:Option (List Code)} {cn:Str} {cs:Scope} {L a:Addr} {ccd:Value} {cl:List (Str×Addr)} {outer:List Env} {h₀:Heap} {hu:un+200<cLine} {names:List Str}
theorem vL{x:Str}{i:Nat}{pos:Pos}(hi:names[i]?=some x:=by rfl)(hx:cs.names.lookup x=some .local:=by exact rfl)(hk:cs.kind=.function:=by exact rfl)(hd:(x == ("__debug__":Str))=false:=by exact rfl): J prog w (Zbm dp un gd cn cs L a ccd cl outer h₀ hu names) (.Name x pos) (Za i):=Zal (rd_loc hi hx hk hd)
theorem vC{x:Str}{i:Nat}{pos:Pos}(hi:names[i]?=some x:=by rfl)(hx:cs.names.lookup x=some .cell:=by exact rfl)(hk:cs.kind=.function:=by exact rfl)(hd:(x == ("__debug__":Str))=false:=by exact rfl): J prog w (Zbm dp un gd cn cs L a ccd cl outer h₀ hu names) (.Name x pos) (Za i):=Zal (rd_cel hi hx hk hd)
theorem sL{x:Str}{i:Nat}(nd:names.Nodup:=by decide)(hi:names[i]?=some x:=by rfl)(hx:cs.names.lookup x=some .local:=by exact rfl)(hk:cs.kind=.function:=by exact rfl): Sto prog w (Zbm dp un gd cn cs L a ccd cl outer h₀ hu names) x i:=sto_loc nd hi hx hk
end
section
variable {prog:Program} {w:World} {K:Frag} {p:Program} {loose:List Str} {mean:ExcName→Option Value} {mg mb:Str→Option Value} {Γ:Cx} {dp un:Nat}
theorem nB{x:Str}{v:Value}(clr:Clr K p loose mean mg mb Γ dp un)(e:nsIn K mainGlobals x=some Option.none:=by k_is)(hv:bootBuiltins x=some v:=by boot_by_name)(hn:x≠"__name__":=by decide)(hg:Γ.env.globals=mainGlobals:=by exact rfl)(hb:Γ.env.builtins=builtinsNs:=by exact rfl)(hk:Γ.env.scope.kind=.function:=by exact rfl)(hx:Γ.env.kindOf x=some .globalImplicit:=by exact rfl)(hd:(x == ("__debug__":Str))=false:=by exact rfl): Nm prog w Γ x v:=nm_built clr e hv hn hg hb hk hx hd
theorem cF{x:Str}{np pos:Pos}{f:Addr}{room:Nat}{e:Expr}{es:List Expr}{g:Z7}{o:List V→Hp→Option (V×Hp)}(clr:Clr K p loose mean mg mb Γ dp un)(D:Def prog w K p loose mean mg mb f room o)(h:Js prog w Γ (e::es) g)
  (en:nsIn K mainGlobals x=some (some (.ref f)):=by k_is) (hg:Γ.env.globals=mainGlobals:=by exact rfl) (hk:Γ.env.scope.kind=.function:=by exact rfl) (hx:Γ.env.kindOf x=some .globalImplicit:=by exact rfl) (hd0:(x == ("__debug__":Str))=false:=by exact rfl)
  (hkeep:keepIn K (.ref f)=true:=by k_is) (hd:dp+room<recursionLimit:=by omega) (hu:un+10*room+300<cLine:=by omega)
  (he:ZgQ e=false:=by exact rfl) (hp:ZgR es=true:=by exact rfl):J prog w Γ (.Call (.Name x np) (e::es) [] pos) (Zh o g):=ZbT clr (nm_def clr en hg hk hx hd0) hkeep D hd hu h (ZjD he) (fun pos=>ZlP pos hp)
theorem Dof{name qual:Str}{params:Arguments}{body:List Stmt}{scope:Scope}{dV kV doc pm cdv ct oc:Value}{an od:Option Addr}{osl:Array (Option Value)}{f:Addr}{names:List Str}{n room:Nat}{g:Sm}
  (hbody:∀(dp un:Nat) (gd:Option (List Code)) (L:Addr) (outer:List Env) (h₀:Heap) (hu:un+200<cLine),Clr K p loose mean mg mb (Zbm dp un gd qual scope L f cdv (cellsFrom (L+1) scope.names []) outer h₀ hu names) dp un→dp+room<recursionLimit→un+10*room+300<cLine →
   Ss prog w (Zbm dp un gd qual scope L f cdv (cellsFrom (L+1) scope.names []) outer h₀ hu names) body g)
  (ho:K.lookup f=some ⟨oc,od,.func (fnOf name qual params body scope dV kV doc pm an cdv ct),osl⟩:=by k_is) (hcd:codeIn K cdv qual=true:=by k_is) (nd:names.Nodup:=by decide) (hn:n≤names.length:=by decide)
  (hbind:∀s xs,xs.length=n→BindsTo s (fnOf name qual params body scope dV kV doc pm an cdv ct) ⟨xs,[]⟩ ((names.take n).zip xs):=by
   intro s xs hx
   first
   | (obtain⟨x0,rfl⟩:=ln1 hx;exact BindsTo.of_eq rfl)
   | (obtain⟨x0,x1,rfl⟩:=ln2 hx;exact BindsTo.of_eq rfl)
   | (obtain⟨x0,x1,x2,rfl⟩:=ln3 hx;exact BindsTo.of_eq rfl)
   | (obtain⟨x0,x1,x2,x3,rfl⟩:=ln4 hx;exact BindsTo.of_eq rfl)
   | (obtain⟨x0,x1,x2,x3,x4,rfl⟩:=ln5 hx;exact BindsTo.of_eq rfl)
   | (obtain⟨x0,x1,x2,x3,x4,x5,rfl⟩:=ln6 hx;exact BindsTo.of_eq rfl)
   | (obtain⟨x0,x1,x2,x3,x4,x5,x6,rfl⟩:=ln7 hx;exact BindsTo.of_eq rfl)) (hkinds:∀x∈names.take n,scope.names.lookup x=some .local∨scope.names.lookup x=some .cell:=by decide) (hone:((cellsFrom 0 scope.names []).map (·.1)).Nodup:=by decide +kernel)
  (hco:scope.isCoroutine=false:=by exact rfl) (hgen:scope.isGenerator=false:=by exact rfl) (hk:scope.kind=.function:=by exact rfl):
  Def prog w K p loose mean mg mb f (room+1) (ZH n g):=Def.of ho hcd nd hn hbind hkinds hone hco hgen hk hbody
end
section
variable {prog:Program} {w:World} {Γ:Cx} {scope:Scope} {cl:List (Str×Addr)} {C:Addr} {ts:List (Str×Nat)} {ρ0:Lc}
theorem vO{x:Str}{t:Nat}{pos:Pos}(hm:(x,t)∈ts:=by first | exact Zz5 | exact Zz2 _ Zz5)(hk:scope.kind=.function:=by exact rfl)(hl:(compEnvC scope cl C Γ.env).kindOf x=some .local:=by exact rfl)(hd:(x == ("__debug__":Str))=false:=by exact rfl): J prog w (ZaZ Γ scope cl C ts ρ0) (.Name x pos) (Za t):=Zal (Zou hm hk hl hd)
end
section
variable {prog:Program} {w:World} {dp un:Nat} {gd:Option (List Code)} {cn:Str} {cs:Scope} {L a:Addr} {ccd:Value} {clf:List (Str×Addr)} {outer:List Env} {h₀:Heap} {hu:un+200<cLine} {names:List Str} {scope:Scope} {cl:List (Str×Addr)} {C:Addr} {ts:List (Str×Nat)} {ρ0:Lc}
theorem vD{x:Str}{i:Nat}{pos:Pos}(hi:names[i]?=some x:=by rfl)(hx:cs.names.lookup x=some .cell:=by exact rfl)(hne:∀p∈ts,p.2≠i:=by decide)(hcl:cl.lookup x=clf.lookup x:=by exact rfl)(hk:scope.kind=.function:=by exact rfl)(hl:(compEnvC scope cl C (envX cn cs L a ccd clf)).kindOf x=some .cell:=by exact rfl)(hd:(x == ("__debug__":Str))=false:=by exact rfl):
  J prog w (ZaZ (Zbm dp un gd cn cs L a ccd clf outer h₀ hu names) scope cl C ts ρ0) (.Name x pos) (Za i):=Zal (rdc_cel hi hx hne hcl hk hl hd)
end
end PM
end
noncomputable section
open PySem PM TM
namespace L
noncomputable def Zih: Sm:=Zm (ZaY (Zc ZE (Zc Zf (Za 0) (Zd 1)) (Zd 1)) (Za 0) (Zd 1)) (Zm (Zz (Zs (Zc oGt (Zc Zf (Za 0) (Zd 1)) (Zh Z3 (Zb (Zc Zf (Za 0) (Zd 0)) Ze)))) (Zy (Zd 0)) ZL) (Zy (Zc Zf (Zc Zf (Za 0) (Zd 0)) (Zc Zaf (Zc Zf (Za 0) (Zd 1)) (Zd 1)))))
noncomputable def ZeY:=ZH 1 Zih
noncomputable def Zii: PS:=(ZD (Zes 0 1 false (pFl (Zk Zag (Zk ZF (Zg 0) (Zo 1)) (Zo 1))) ZbY (Zo 1)) (ZD (Zbn (xB (Z6 (Zk qGt (Zk ZF (Zg 0) (Zo 1)) (ZV Zb0 (Zj (Zk ZF (Zg 0) (Zo 0)) Zu))))) (ZaK (xP (Zo 0))) Zai) (ZaK (xP (ZbW (Zk ZF (Zk ZF (Zg 0) (Zo 0)) (Zk ZbJ (Zk ZF (Zg 0) (Zo 1)) (Zo 1))))))))
noncomputable def ZeZ: List T→Option (T×List T):=ZbK 1 [(0,1)] Zii
theorem Zj7: SimX 1 [(0,1)] true ZeY ZeZ:=SimX.of (show SU [] [(0,1)] [] [(0,1)] [(0,1)] true Zih Zii from(SU.seq (SU.putS (x:=0) (d:=1) (own:=false) (O':=[]) (S':=[(0,1)]) (by decide) (by decide) (Zdr Zaz (ZO ZP (Zl 0) (Zp _)) (Zp _)) Zgz (Zp _) (by decide) (by decide) (by decide)) (SU.seq (ZbO (ZbU (Bt.val (ZA ZfM (ZO ZP (Zl 0) (Zp _)) (Zbs Zdx (ZB (ZO ZP (Zl 0) (Zp _)) ZK))))) (Zbc (O':=[]) (S':=[(0,1)]) (Zaj (Zp _))) SU.next) (Zbc (O':=[]) (S':=[(0,1)]) (Zaj (E.flat (ZO ZP (ZO ZP (Zl 0) (Zp _)) (ZA ZbX (ZO ZP (Zl 0) (Zp _)) (Zp _))))))))) (by decide) (by decide)
noncomputable def ZhL: Sm:=Zy (Zc oMod (Zc oMod (Zc Zbh (Zh ZeY (Zb (Za 0) Ze)) (Zd 48271)) (Zd 1000003)) (Za 1))
noncomputable def Zbv:=ZH 2 ZhL
noncomputable def ZhM: PS:=(ZaK (ZaX 1000 (Zan false [0] ZeZ (Zj (Zg 0) Zu)) (xP (Zk Zax (Zk Zax (Zk Zcm (Zg 1000) (Zo 48271)) (Zo 1000003)) (Zg 1)))))
noncomputable def Zb2: List T→Option (T×List T):=ZbK 2 [(0,1)] ZhM
theorem ZcR: SimX 2 [(0,1)] true Zbv Zb2:=SimX.of (show SU [] [(0,1)] [] [(0,1)] [(0,1)] true ZhL ZhM from(Zbc (O':=[]) (S':=[(0,1)]) (ZbN (k:=1000) (C:=fun e=>(Zc oMod (Zc oMod (Zc Zbh (e) (Zd 48271)) (Zd 1000003)) (Za 1))) (e:=(Zh ZeY (Zb (Za 0) Ze))) (ZdU (ZdU (ZdU (Zba) (fun ρ v H=>rfl)) (fun ρ v H=>rfl)) (fun ρ v H=>rfl)) (EX.call (b:=false) (xs:=[0]) (as:=[some 0]) (M:=[]) Zj7 (XAs.slot XAs.nil)) (Zaj (ZA ZaO (ZA ZaO (ZaN ZfB (Zl 1000) (Zp _)) (Zp _)) (Zl 1)))))) (by decide) (by decide)
noncomputable def Zhu: Sm:=Zm (Zw 1 (Zh ZeY (Zb (Za 0) Ze))) (Zm (Zw 2 (Zc Zbh (Zc oDiv (Za 1) (Zd 7)) (Zc oPow (Zd 48271) (Zd 14)))) (Zm (Zz (Zs (Zc ZN (Zc oMod (Za 1) (Zd 7)) (Zd 2))) (Zy (Zc Zaf (Zc oMod (Za 2) (Zc Zaf (Zc Zbh (Zd 2) (Zc oPow (Zd 10) (Zd 60))) (Zd 1))) (Zc Zaf (Zc oPow (Zd 10) (Zd 60)) (Zd 1)))) ZL) (Zm (Zz (Zs (Zc ZN (Zc oMod (Za 1) (Zd 7)) (Zd 3))) (Zy (Zc Zaf (Zc oMod (Za 2) (Zd 2001)) (Zd 1000))) ZL) (Zy (Zc Zaf (Zc oMod (Za 2) (Zd 13)) (Zd 6))))))
noncomputable def ZbD:=ZH 1 Zhu
noncomputable def Zhv: PS:=(ZD (Zaq 1 (Zan false [0] ZeZ (Zj (Zg 0) Zu))) (ZD (Zaq 2 (xP (Zk Zcm (Zk ZbB (Zg 1) (Zo 7)) (Zk Zcl (Zo 48271) (Zo 14))))) (ZD (Zbn (xB (Z6 (Zk qEq (Zk Zax (Zg 1) (Zo 7)) (Zo 2)))) (ZaK (xP (Zk ZbJ (Zk Zax (Zg 2) (Zk ZbJ (Zk Zcm (Zo 2) (Zk Zcl (Zo 10) (Zo 60))) (Zo 1))) (Zk ZbJ (Zk Zcl (Zo 10) (Zo 60)) (Zo 1))))) Zai) (ZD (Zbn (xB (Z6 (Zk qEq (Zk Zax (Zg 1) (Zo 7)) (Zo 3)))) (ZaK (xP (Zk ZbJ (Zk Zax (Zg 2) (Zo 2001)) (Zo 1000)))) Zai) (ZaK (xP (Zk ZbJ (Zk Zax (Zg 2) (Zo 13)) (Zo 6))))))))
noncomputable def Zce: List T→Option (T×List T):=ZbK 1 [(0,1)] Zhv
theorem ZdI: SimX 1 [(0,1)] true ZbD Zce:=SimX.of (show SU [] [(0,1)] [] [(0,1)] [(0,1)] true Zhu Zhv from(SU.seq (SU.set (i:=1) (O':=[]) (S':=[(0,1)]) (EX.call (b:=false) (xs:=[0]) (as:=[some 0]) (M:=[]) Zj7 (XAs.slot XAs.nil))) (SU.seq (SU.set (i:=2) (O':=[]) (S':=[(0,1)]) (Zaj (ZaN ZfB (ZA Zck (Zl 1) (Zp _)) (ZA Zg3 (Zp _) (Zp _))))) (SU.seq (ZbO (ZbU (Bt.val (ZA ZaW (ZA ZaO (Zl 1) (Zp _)) (Zp _)))) (Zbc (O':=[]) (S':=[(0,1)]) (Zaj (ZA ZbX (ZA ZaO (Zl 2) (ZA ZbX (ZaN ZfB (Zp _) (ZA Zg3 (Zp _) (Zp _))) (Zp _))) (ZA ZbX (ZA Zg3 (Zp _) (Zp _)) (Zp _))))) SU.next) (SU.seq (ZbO (ZbU (Bt.val (ZA ZaW (ZA ZaO (Zl 1) (Zp _)) (Zp _)))) (Zbc (O':=[]) (S':=[(0,1)]) (Zaj (ZA ZbX (ZA ZaO (Zl 2) (Zp _)) (Zp _)))) SU.next) (Zbc (O':=[]) (S':=[(0,1)]) (Zaj (ZA ZbX (ZA ZaO (Zl 2) (Zp _)) (Zp _))))))))) (by decide) (by decide)
noncomputable def Zh3: Sm:=Zm (Zw 2 (ZU (Zb (Zh ZbD (Zb (Za 0) Ze)) Ze))) (Zm (Zw 3 (Zh Zbv (Zb (Za 0) (Zb (Zd 1000000) Ze)))) (Zm (ZaL (Za7 (Zb (Za 1) Ze)) (ZQ 4) (Zm (ZC (ZaD (Za 2) (Zc Zf (ZU (Zb (Zd 0) (Zb (Zd 1) (Zb (ZM Zbl (Zd 1)) (Zb (Zd 2) (Zb (Zd 0) (Zb (ZM Zbl (Zd 3)) (Zb (Zd 1) (Zb (Zc oPow (Zd 10) (Zd 9)) Ze))))))))) (Zc oMod (Za 3) (Zd 8))))) (Zw 3 (Zc oDiv (Za 3) (Zd 8))))) (Zy (Za 2))))
noncomputable def Zcq:=ZH 2 Zh3
noncomputable def Zh4: PS:=(ZD (Zaq 2 (ZaX 1000 (Zan false [0] Zce (Zj (Zg 0) Zu)) (xP (Zbq (Zj (Zg 1000) Zu))))) (ZD (Zaq 3 (Zan false [0] Zb2 (Zj (Zg 0) (Zj (Zo 1000000) Zu)))) (ZD (ZbR (ZbG (Zj (Zg 1) Zu)) (ZaG 4) (ZD (ZeC 2 [] ZbY (ZbW (Zk ZF (Zbq (Zj (Zo 0) (Zj (Zo 1) (Zj (pUn ZeA (Zo 1)) (Zj (Zo 2) (Zj (Zo 0) (Zj (pUn ZeA (Zo 3)) (Zj (Zo 1) (Zj (Zk Zcl (Zo 10) (Zo 9)) Zu))))))))) (Zk Zax (Zg 3) (Zo 8))))) (Zaq 3 (xP (Zk ZbB (Zg 3) (Zo 8)))))) (ZaK (xP (Zg 2))))))
noncomputable def Zdl: List T→Option (T×List T):=ZbK 2 [(0,1)] Zh4
theorem ZeR: SimX 2 [(0,1)] true Zcq Zdl:=SimX.of (show SU [] [(0,1)] [2] [(0,1)] [(0,1)] true Zh3 Zh4 from(SU.seq (Zdp (i:=2) (O':=[2]) (S':=[(0,1)]) (ZbN (k:=1000) (C:=fun e=>(ZU (Zb (e) Ze))) (e:=(Zh ZbD (Zb (Za 0) Ze))) (Ct.list (Cts.head (Zba) (fun ρ v H=>rfl))) (EX.call (b:=false) (xs:=[0]) (as:=[some 0]) (M:=[]) ZdI (XAs.slot XAs.nil)) (Zaj (E.list (Zah (E.own) ZK))))) (SU.seq (SU.set (i:=3) (O':=[2]) (S':=[(0,1)]) (EX.call (b:=false) (xs:=[0]) (as:=[some 0,none]) (M:=[]) ZcR (XAs.slot (Zas (Zp _) (by decide) XAs.nil)))) (SU.seq (Zlz (Gs.range (ZB (Zl 1) ZK)) (PutOk.one (j:=4)) PutK.one (by decide) (by decide) (SU.seq (Zk0 (x:=2) (N:=[]) (O':=[2]) (by decide) Zlr (Zjx (O':=[]) (E.flat (ZO ZP (E.list (ZB (Zp _) (ZB (Zp _) (ZB (Zjy Zjz (Zp _)) (ZB (Zp _) (ZB (Zp _) (ZB (Zjy Zjz (Zp _)) (ZB (Zp _) (ZB (ZA Zg3 (Zp _) (Zp _)) ZK))))))))) (ZA ZaO (Zl 3) (Zp _))))) (by decide) (by decide) (by decide)) (SU.set (i:=3) (O':=[2]) (S':=[(0,1)]) (Zaj (ZA Zck (Zl 3) (Zp _)))))) (Zbc (O':=[2]) (S':=[(0,1)]) (Zaj (E.own))))))) (by decide) (by decide)
noncomputable def Zhy: Sm:=Zm (Zw 5 (Zc ZE (Za 3) (Zc oMod (Zc oDiv (Za 4) (Zd 10)) (Zc ZE (Zc Zaf (Zc Zf (Za 2) (Zd 1)) (Za 3)) (Zd 1))))) (Zm (Zz (Zs (Zc ZN (Zc oMod (Za 4) (Zd 10)) (Zd 3))) (Zy (Z8 (Zb (ZG (Str.ofString "part")) (Zb (Za 5) (Zb (Zh Zcq (Zb (Za 0) (Zb (Zc Zf (Za 2) (Zd 1)) Ze))) (Zb (Zc ZE (Zd 1) (Zh ZbI (Zb (Zh ZbD (Zb (Za 0) Ze)) Ze))) Ze)))))) ZL) (Zm (Zz (Zs (Zc ZN (Zc oMod (Za 4) (Zd 10)) (Zd 4))) (Zy (Z8 (Zb (ZG (Str.ofString "rest")) (Zb (Za 5) (Zb (Zh Zcq (Zb (Za 0) (Zb (Zc Zf (Za 2) (Zd 1)) Ze))) (Zb (Zc ZE (Zd 1) (Zh ZbI (Zb (Zh ZbD (Zb (Za 0) Ze)) Ze))) Ze)))))) ZL) (Zm (Zz (Zs (Zc ZN (Zc oMod (Za 4) (Zd 10)) (Zd 5))) (Zm (Zw 6 (Zh ZbD (Zb (Za 0) Ze))) (Zm (Zw 7 (Zc ZE (Za 6) (Zc oMod (Zc oDiv (Za 4) (Zd 40)) (Zd 9)))) (Zy (Z8 (Zb (ZG (Str.ofString "any")) (Zb (Za 5) (Zb (Zc Zf (ZU (Zb (Za 6) (Zb (ZaT) Ze))) (Zc oDiv (Zc oMod (Zc oDiv (Za 4) (Zd 360)) (Zd 4)) (Zd 3))) (Zb (Zc Zf (ZU (Zb (Za 7) (Zb (ZaT) Ze))) (Zc oDiv (Zc oMod (Zc oDiv (Za 4) (Zd 1440)) (Zd 4)) (Zd 3))) Ze)))))))) ZL) (Zm (Zz (Zav (Zs (Zc oGt (Zc oMod (Za 4) (Zd 10)) (Zd 7))) (Zav (Zs (Zc oGt (Zh Z3 (Zb (Za 1) Ze)) (Zd 0))) ZZ)) (Zm (Zw 8 (Zc oMod (Zc oDiv (Za 4) (Zd 40)) (Zh Z3 (Zb (Za 1) Ze)))) (Zy (Z8 (Zb (ZG (Str.ofString "call")) (Zb (Za 5) (Zb (Za 8) (Zb (Zam (Za7 (Zb (Zc Zf (Zc Zf (Za 1) (Za 8)) (Zd 0)) Ze)) (ZQ 100) ZZ (Zh Zcq (Zb (Za 0) (Zb (Zc Zf (Za 2) (Zd 1)) Ze)))) Ze))))))) ZL) (Zy (Z8 (Zb (ZG (Str.ofString "set")) (Zb (Za 5) (Zb (Zh Zcq (Zb (Za 0) (Zb (Zc Zf (Za 2) (Zd 1)) Ze))) Ze)))))))))
noncomputable def Zhz:=ZH 5 Zhy
noncomputable def ZhA: PS:=(ZD (Zaq 5 (xP (pFl (Zk Zag (Zg 3) (Zk Zax (Zk ZbB (Zg 4) (Zo 10)) (Zk Zag (Zk ZbJ (Zk ZF (Zg 2) (Zo 1)) (Zg 3)) (Zo 1))))))) (ZD (Zbn (xB (Z6 (Zk qEq (Zk Zax (Zg 4) (Zo 10)) (Zo 3)))) (ZaK (ZaX 1000 (Zan false [0] Zdl (Zj (Zg 0) (Zj (Zk ZF (Zg 2) (Zo 1)) Zu))) (ZaX 1001 (Zan false [0] Zce (Zj (Zg 0) Zu)) (xP (ZbA (Zj (ZaB (Str.ofString "part")) (Zj (Zg 5) (Zj (Zg 1000) (Zj (pFl (Zk Zag (Zo 1) (ZV ZdF (Zj (Zg 1001) Zu)))) Zu))))))))) Zai) (ZD (Zbn (xB (Z6 (Zk qEq (Zk Zax (Zg 4) (Zo 10)) (Zo 4)))) (ZaK (ZaX 1002 (Zan false [0] Zdl (Zj (Zg 0) (Zj (Zk ZF (Zg 2) (Zo 1)) Zu))) (ZaX 1003 (Zan false [0] Zce (Zj (Zg 0) Zu)) (xP (ZbA (Zj (ZaB (Str.ofString "rest")) (Zj (Zg 5) (Zj (Zg 1002) (Zj (pFl (Zk Zag (Zo 1) (ZV ZdF (Zj (Zg 1003) Zu)))) Zu))))))))) Zai) (ZD (Zbn (xB (Z6 (Zk qEq (Zk Zax (Zg 4) (Zo 10)) (Zo 5)))) (ZD (Zaq 6 (Zan false [0] Zce (Zj (Zg 0) Zu))) (ZD (Zaq 7 (xP (Zk Zag (Zg 6) (Zk Zax (Zk ZbB (Zg 4) (Zo 40)) (Zo 9))))) (ZaK (xP (ZbA (Zj (ZaB (Str.ofString "any")) (Zj (Zg 5) (Zj (ZbW (Zk ZF (Zbq (Zj (Zg 6) (Zj (Zdg) Zu))) (Zk ZbB (Zk Zax (Zk ZbB (Zg 4) (Zo 360)) (Zo 4)) (Zo 3)))) (Zj (ZbW (Zk ZF (Zbq (Zj (Zg 7) (Zj (Zdg) Zu))) (Zk ZbB (Zk Zax (Zk ZbB (Zg 4) (Zo 1440)) (Zo 4)) (Zo 3)))) Zu))))))))) Zai) (ZD (Zbn (xB (Zcb (Z6 (Zk qGt (Zk Zax (Zg 4) (Zo 10)) (Zo 7))) (Zcb (Z6 (Zk qGt (ZV Zb0 (Zj (Zg 1) Zu)) (Zo 0))) Zbk))) (ZD (Zaq 8 (xP (Zk Zax (Zk ZbB (Zg 4) (Zo 40)) (ZV Zb0 (Zj (Zg 1) Zu))))) (ZaK (ZaX 1004 (ZdB (ZbG (Zj (Zk ZF (Zk ZF (Zg 1) (Zg 8)) (Zo 0)) Zu)) 100 (Zan false [0] Zdl (Zj (Zg 0) (Zj (Zk ZF (Zg 2) (Zo 1)) Zu)))) (xP (ZbA (Zj (ZaB (Str.ofString "call")) (Zj (Zg 5) (Zj (Zg 8) (Zj (Zg 1004) Zu))))))))) Zai) (ZaK (ZaX 1005 (Zan false [0] Zdl (Zj (Zg 0) (Zj (Zk ZF (Zg 2) (Zo 1)) Zu))) (xP (ZbA (Zj (ZaB (Str.ofString "set")) (Zj (Zg 5) (Zj (Zg 1005) Zu))))))))))))
noncomputable def Zf0: List T→Option (T×List T):=ZbK 5 [(0,1)] ZhA
theorem Zmb: SimX 5 [(0,1)] true Zhz Zf0:=SimX.of (show SU [] [(0,1)] [5] [(0,1)] [(0,1)] true Zhy ZhA from(SU.seq (Zdp (i:=5) (O':=[5]) (S':=[(0,1)]) (Zaj (Zdr Zaz (Zl 3) (ZA ZaO (ZA Zck (Zl 4) (Zp _)) (ZaN Zaz (ZA ZbX (ZO ZP (Zl 2) (Zp _)) (Zl 3)) (Zp _)))))) (SU.seq (ZbO (ZbU (Bt.val (ZA ZaW (ZA ZaO (Zl 4) (Zp _)) (Zp _)))) (Zbc (O':=[5]) (S':=[(0,1)]) (ZbN (k:=1000) (C:=fun e=>(Z8 (Zb (ZG (Str.ofString "part")) (Zb (Za 5) (Zb (e) (Zb (Zc ZE (Zd 1) (Zh ZbI (Zb (Zh ZbD (Zb (Za 0) Ze)) Ze))) Ze)))))) (e:=(Zh Zcq (Zb (Za 0) (Zb (Zc Zf (Za 2) (Zd 1)) Ze)))) (Ct.tup (ZaR (ZaR (Cts.head (Zba) (fun ρ v H=>rfl)) (Za8)) Vl.str)) (EX.call (b:=false) (xs:=[0]) (as:=[some 0,none]) (M:=[2]) ZeR (XAs.slot (Zas (ZO ZP (Zl 2) (Zp _)) (by decide) XAs.nil))) (ZbN (k:=1001) (C:=fun e=>(Z8 (Zb (ZG (Str.ofString "part")) (Zb (Za 5) (Zb (Za 1000) (Zb (Zc ZE (Zd 1) (Zh ZbI (Zb (e) Ze))) Ze)))))) (e:=(Zh ZbD (Zb (Za 0) Ze))) (Ct.tup (ZaR (ZaR (ZaR (Cts.head (ZgA (Ct.call (Cts.head (Zba) (fun ρ v H=>rfl))) Vl.int) (fun ρ v H=>rfl)) (Za8)) (Za8)) Vl.str)) (EX.call (b:=false) (xs:=[0]) (as:=[some 0]) (M:=[]) ZdI (XAs.slot XAs.nil)) (Zaj (E.tup (Zah (E.str _) (Zah (E.own) (Zah (E.own) (Zah (Zdr Zaz (Zp _) (Zbs Zfz (ZB (Zl 1001) ZK))) ZK))))))))) SU.next) (SU.seq (ZbO (ZbU (Bt.val (ZA ZaW (ZA ZaO (Zl 4) (Zp _)) (Zp _)))) (Zbc (O':=[5]) (S':=[(0,1)]) (ZbN (k:=1002) (C:=fun e=>(Z8 (Zb (ZG (Str.ofString "rest")) (Zb (Za 5) (Zb (e) (Zb (Zc ZE (Zd 1) (Zh ZbI (Zb (Zh ZbD (Zb (Za 0) Ze)) Ze))) Ze)))))) (e:=(Zh Zcq (Zb (Za 0) (Zb (Zc Zf (Za 2) (Zd 1)) Ze)))) (Ct.tup (ZaR (ZaR (Cts.head (Zba) (fun ρ v H=>rfl)) (Za8)) Vl.str)) (EX.call (b:=false) (xs:=[0]) (as:=[some 0,none]) (M:=[2]) ZeR (XAs.slot (Zas (ZO ZP (Zl 2) (Zp _)) (by decide) XAs.nil))) (ZbN (k:=1003) (C:=fun e=>(Z8 (Zb (ZG (Str.ofString "rest")) (Zb (Za 5) (Zb (Za 1002) (Zb (Zc ZE (Zd 1) (Zh ZbI (Zb (e) Ze))) Ze)))))) (e:=(Zh ZbD (Zb (Za 0) Ze))) (Ct.tup (ZaR (ZaR (ZaR (Cts.head (ZgA (Ct.call (Cts.head (Zba) (fun ρ v H=>rfl))) Vl.int) (fun ρ v H=>rfl)) (Za8)) (Za8)) Vl.str)) (EX.call (b:=false) (xs:=[0]) (as:=[some 0]) (M:=[]) ZdI (XAs.slot XAs.nil)) (Zaj (E.tup (Zah (E.str _) (Zah (E.own) (Zah (E.own) (Zah (Zdr Zaz (Zp _) (Zbs Zfz (ZB (Zl 1003) ZK))) ZK))))))))) SU.next) (SU.seq (ZbO (ZbU (Bt.val (ZA ZaW (ZA ZaO (Zl 4) (Zp _)) (Zp _)))) (SU.seq (SU.set (i:=6) (O':=[5]) (S':=[(0,1)]) (EX.call (b:=false) (xs:=[0]) (as:=[some 0]) (M:=[]) ZdI (XAs.slot XAs.nil))) (SU.seq (SU.set (i:=7) (O':=[5]) (S':=[(0,1)]) (Zaj (ZaN Zaz (Zl 6) (ZA ZaO (ZA Zck (Zl 4) (Zp _)) (Zp _))))) (Zbc (O':=[5]) (S':=[(0,1)]) (Zaj (E.tup (Zah (E.str _) (Zah (E.own) (Zah (E.flat (ZO ZP (E.list (ZB (Zl 6) (ZB (ZdZ) ZK))) (ZA Zck (ZA ZaO (ZA Zck (Zl 4) (Zp _)) (Zp _)) (Zp _)))) (Zah (E.flat (ZO ZP (E.list (ZB (Zl 7) (ZB (ZdZ) ZK))) (ZA Zck (ZA ZaO (ZA Zck (Zl 4) (Zp _)) (Zp _)) (Zp _)))) ZK))))))))) SU.next) (SU.seq (ZbO (ZbU (Zc3 (Bt.val (ZA ZfM (ZA ZaO (Zl 4) (Zp _)) (Zp _))) (Zc3 (Bt.val (ZA ZfM (Zbs Zdx (ZB (Zl 1) ZK)) (Zp _))) Zcu))) (SU.seq (Zdp (i:=8) (O':=[5,8]) (S':=[(0,1)]) (Zaj (Zjx (O':=[]) (ZA ZaO (ZA Zck (Zl 4) (Zp _)) (Zbs Zdx (ZB (Zl 1) ZK)))))) (Zbc (O':=[5]) (S':=[(0,1)]) (ZbN (k:=1004) (C:=fun e=>(Z8 (Zb (ZG (Str.ofString "call")) (Zb (Za 5) (Zb (Za 8) (Zb (e) Ze)))))) (e:=(Zam (Za7 (Zb (Zc Zf (Zc Zf (Za 1) (Za 8)) (Zd 0)) Ze)) (ZQ 100) ZZ (Zh Zcq (Zb (Za 0) (Zb (Zc Zf (Za 2) (Zd 1)) Ze))))) (Ct.tup (ZaR (ZaR (ZaR (Cts.head (Zba) (fun ρ v H=>rfl)) (Za8)) (Za8)) Vl.str)) (EX.comp (Gs.range (ZB (ZO ZP (ZO ZP (Zl 1) (Zl 8)) (Zp _)) ZK)) (by decide) (by decide) (EX.call (b:=false) (xs:=[0]) (as:=[some 0,none]) (M:=[2]) ZeR (XAs.slot (Zas (ZO ZP (Zl 2) (Zp _)) (by decide) XAs.nil)))) (Zaj (E.tup (Zah (E.str _) (Zah (E.own) (Zah (E.own) (Zah (E.own) ZK))))))))) SU.next) (Zbc (O':=[5]) (S':=[(0,1)]) (ZbN (k:=1005) (C:=fun e=>(Z8 (Zb (ZG (Str.ofString "set")) (Zb (Za 5) (Zb (e) Ze))))) (e:=(Zh Zcq (Zb (Za 0) (Zb (Zc Zf (Za 2) (Zd 1)) Ze)))) (Ct.tup (ZaR (ZaR (Cts.head (Zba) (fun ρ v H=>rfl)) (Za8)) Vl.str)) (EX.call (b:=false) (xs:=[0]) (as:=[some 0,none]) (M:=[2]) ZeR (XAs.slot (Zas (ZO ZP (Zl 2) (Zp _)) (by decide) XAs.nil))) (Zaj (E.tup (Zah (E.str _) (Zah (E.own) (Zah (E.own) ZK))))))))))))) (by decide) (by decide)
noncomputable def ZhB: Sm:=Zm (Zw 2 (Zc Zf (ZU (Zb (ZG (Str.ofString "under")) (Zb (ZG (Str.ofString "under")) (Zb (ZG (Str.ofString "same")) (Zb (ZG (Str.ofString "even")) Ze))))) (Zh Zbv (Zb (Za 0) (Zb (Zd 4) Ze))))) (Zm (Zw 3 (Zh Zcq (Zb (Za 0) (Zb (Za 1) Ze)))) (Zm (Zz (Zs (Zc ZN (Za 2) (ZG (Str.ofString "even")))) (Zy (Z8 (Zb (Za 2) (Zb (Za 3) (Zb (Zc ZE (Zd 1) (Zh ZbI (Zb (Zh ZbD (Zb (Za 0) Ze)) Ze))) Ze))))) ZL) (Zy (Z8 (Zb (Za 2) (Zb (Za 3) Ze))))))
noncomputable def ZeH:=ZH 2 ZhB
noncomputable def ZhC: PS:=(ZD (Zaq 2 (ZaX 1000 (xP (Zbq (Zj (ZaB (Str.ofString "under")) (Zj (ZaB (Str.ofString "under")) (Zj (ZaB (Str.ofString "same")) (Zj (ZaB (Str.ofString "even")) Zu)))))) (ZaX 1001 (Zan false [0] Zb2 (Zj (Zg 0) (Zj (Zo 4) Zu))) (xP (ZbW (Zk ZF (Zg 1000) (Zg 1001))))))) (ZD (Zaq 3 (Zan false [0] Zdl (Zj (Zg 0) (Zj (Zg 1) Zu)))) (ZD (Zbn (xB (Z6 (Zk qEq (Zg 2) (ZaB (Str.ofString "even"))))) (ZaK (ZaX 1002 (Zan false [0] Zce (Zj (Zg 0) Zu)) (xP (ZbA (Zj (Zg 2) (Zj (Zg 3) (Zj (pFl (Zk Zag (Zo 1) (ZV ZdF (Zj (Zg 1002) Zu)))) Zu))))))) Zai) (ZaK (xP (ZbA (Zj (Zg 2) (Zj (Zg 3) Zu))))))))
noncomputable def ZeI: List T→Option (T×List T):=ZbK 2 [(0,1)] ZhC
theorem ZjT: SimX 2 [(0,1)] true ZeH ZeI:=SimX.of (show SU [] [(0,1)] [2,3] [(0,1)] [(0,1)] true ZhB ZhC from(SU.seq (Zdp (i:=2) (O':=[2]) (S':=[(0,1)]) (ZnT (k:=1000) (C:=fun e=>(Zc Zf (e) (Zh Zbv (Zb (Za 0) (Zb (Zd 4) Ze))))) (e:=(ZU (Zb (ZG (Str.ofString "under")) (Zb (ZG (Str.ofString "under")) (Zb (ZG (Str.ofString "same")) (Zb (ZG (Str.ofString "even")) Ze)))))) (ZdU (Zba) (fun ρ v H=>rfl)) (Zaj (E.list (ZB (E.str _) (ZB (E.str _) (ZB (E.str _) (ZB (E.str _) ZK)))))) (ZbN (k:=1001) (C:=fun e=>(Zc Zf (Za 1000) (e))) (e:=(Zh Zbv (Zb (Za 0) (Zb (Zd 4) Ze)))) (ZgA (Zba) (Za8)) (EX.call (b:=false) (xs:=[0]) (as:=[some 0,none]) (M:=[]) ZcR (XAs.slot (Zas (Zp _) (by decide) XAs.nil))) (Zaj (E.flat (ZO ZP (Zl 1000) (Zl 1001))))) (by decide) (by decide) (by decide) (by decide))) (SU.seq (Zdp (i:=3) (O':=[2,3]) (S':=[(0,1)]) (EX.call (b:=false) (xs:=[0]) (as:=[some 0,none]) (M:=[1]) ZeR (XAs.slot (Zas (Zl 1) (by decide) XAs.nil)))) (SU.seq (ZbO (ZbU (Bt.val (ZA ZaW (Zl 2) (E.str _)))) (Zbc (O':=[2,3]) (S':=[(0,1)]) (ZbN (k:=1002) (C:=fun e=>(Z8 (Zb (Za 2) (Zb (Za 3) (Zb (Zc ZE (Zd 1) (Zh ZbI (Zb (e) Ze))) Ze))))) (e:=(Zh ZbD (Zb (Za 0) Ze))) (Ct.tup (ZaR (ZaR (Cts.head (ZgA (Ct.call (Cts.head (Zba) (fun ρ v H=>rfl))) Vl.int) (fun ρ v H=>rfl)) (Za8)) (Za8))) (EX.call (b:=false) (xs:=[0]) (as:=[some 0]) (M:=[]) ZdI (XAs.slot XAs.nil)) (Zaj (E.tup (Zah (E.own) (Zah (E.own) (Zah (Zdr Zaz (Zp _) (Zbs Zfz (ZB (Zl 1002) ZK))) ZK))))))) SU.next) (Zbc (O':=[2,3]) (S':=[(0,1)]) (Zaj (E.tup (Zah (E.own) (Zah (E.own) ZK))))))))) (by decide) (by decide)
noncomputable def Zhl(F:List V→Hp→Option (V×Hp)): Sm:=Zm (ZaY (Zc Zaf (Zc Zf (Za 0) (Zd 2)) (Zd 1)) (Za 0) (Zd 2)) (Zm (Zw 5 (Zh Zbv (Zb (Za 0) (Zb (Zd 1000000) Ze)))) (Zm (Zz (Zav (Zs (Zc oLt (Zc oMod (Za 5) (Zd 10)) (Zd 3))) (Zav (Zs (Zc oLt (Za 4) (Zd 3))) (Zav (Zs (Zc ZN (Zc oMod (Zc oDiv (Za 5) (Zd 10)) (Zd 2)) (Zd 0))) ZZ))) (Zm (Zw 6 (Zh ZeH (Zb (Za 0) (Zb (Zc Zf (Za 2) (Zd 1)) Ze)))) (Zm (Zw 7 (Zh F (Zb (Za 0) (Zb (Za 1) (Zb (Za 2) (Zb (Za 3) (Zb (Zc ZE (Za 4) (Zd 1)) Ze))))))) (Zm (Zz (Zs (Zc oLt (Zc oMod (Za 5) (Zd 10)) (Zd 2))) (Zy (Z8 (Zb (ZG (Str.ofString "while")) (Zb (Za 6) (Zb (Za 7) Ze))))) ZL) (Zy (Z8 (Zb (ZG (Str.ofString "if")) (Zb (Za 6) (Zb (Za 7) (Zb (Zh F (Zb (Za 0) (Zb (Za 1) (Zb (Za 2) (Zb (Za 3) (Zb (Zc ZE (Za 4) (Zd 1)) Ze)))))) Ze))))))))) ZL) (Zm (Zz (tOr (Zs (Zc oGt (Za 3) (Zc Zf (Za 2) (Zd 1)))) (tOr (Zs (Zc ZN (Zc oMod (Za 5) (Zd 10)) (Zd 2))) Zdq)) (Zy (Z8 (Zb (ZG (Str.ofString "say")) (Zb (Zh ZeH (Zb (Za 0) (Zb (Zc Zf (Za 2) (Zd 1)) Ze))) Ze)))) ZL) (Zy (Zh Zhz (Zb (Za 0) (Zb (Za 1) (Zb (Za 2) (Zb (Za 3) (Zb (Za 5) Ze))))))))))
noncomputable def ZfU(F:List V→Hp→Option (V×Hp)): List V→Hp→Option (V×Hp):=ZH 5 (Zhl F)
noncomputable def Zhm(P:List T→Option (T×List T)): PS:=(ZD (Zes 0 1 false (Zk ZbJ (Zk ZF (Zg 0) (Zo 2)) (Zo 1)) ZbY (Zo 2)) (ZD (Zaq 5 (Zan false [0] Zb2 (Zj (Zg 0) (Zj (Zo 1000000) Zu)))) (ZD (Zbn (xB (Zcb (Z6 (Zk qLt (Zk Zax (Zg 5) (Zo 10)) (Zo 3))) (Zcb (Z6 (Zk qLt (Zg 4) (Zo 3))) (Zcb (Z6 (Zk qEq (Zk Zax (Zk ZbB (Zg 5) (Zo 10)) (Zo 2)) (Zo 0))) Zbk)))) (ZD (Zaq 6 (Zan false [0] ZeI (Zj (Zg 0) (Zj (Zk ZF (Zg 2) (Zo 1)) Zu)))) (ZD (Zaq 7 (Zan false [0] P (Zj (Zg 0) (Zj (Zg 1) (Zj (Zg 2) (Zj (Zg 3) (Zj (Zk Zag (Zg 4) (Zo 1)) Zu))))))) (ZD (Zbn (xB (Z6 (Zk qLt (Zk Zax (Zg 5) (Zo 10)) (Zo 2)))) (ZaK (xP (ZbA (Zj (ZaB (Str.ofString "while")) (Zj (Zg 6) (Zj (Zg 7) Zu)))))) Zai) (ZaK (ZaX 1000 (Zan false [0] P (Zj (Zg 0) (Zj (Zg 1) (Zj (Zg 2) (Zj (Zg 3) (Zj (Zk Zag (Zg 4) (Zo 1)) Zu)))))) (xP (ZbA (Zj (ZaB (Str.ofString "if")) (Zj (Zg 6) (Zj (Zg 7) (Zj (Zg 1000) Zu))))))))))) Zai) (ZD (Zbn (xB (bOr (Z6 (Zk qGt (Zg 3) (Zk ZF (Zg 2) (Zo 1)))) (bOr (Z6 (Zk qEq (Zk Zax (Zg 5) (Zo 10)) (Zo 2))) Zek))) (ZaK (ZaX 1001 (Zan false [0] ZeI (Zj (Zg 0) (Zj (Zk ZF (Zg 2) (Zo 1)) Zu))) (xP (ZbA (Zj (ZaB (Str.ofString "say")) (Zj (Zg 1001) Zu)))))) Zai) (ZaK (Zan false [0] Zf0 (Zj (Zg 0) (Zj (Zg 1) (Zj (Zg 2) (Zj (Zg 3) (Zj (Zg 5) Zu)))))))))))
noncomputable def ZfV(P:List T→Option (T×List T)): List T→Option (T×List T):=ZbK 5 [(0,1)] (Zhm P)
theorem Zl0{F:List V→Hp→Option (V×Hp)}{P:List T→Option (T×List T)}(ih:SimX 5 [(0,1)] true F P): SimX 5 [(0,1)] true (ZfU F) (ZfV P):=SimX.of (show SU [] [(0,1)] [] [(0,1)] [(0,1)] true (Zhl F) (Zhm P)from(SU.seq (SU.putS (x:=0) (d:=1) (own:=false) (O':=[]) (S':=[(0,1)]) (by decide) (by decide) (ZA ZbX (ZO ZP (Zl 0) (Zp _)) (Zp _)) Zgz (Zp _) (by decide) (by decide) (by decide)) (SU.seq (SU.set (i:=5) (O':=[]) (S':=[(0,1)]) (EX.call (b:=false) (xs:=[0]) (as:=[some 0,none]) (M:=[]) ZcR (XAs.slot (Zas (Zp _) (by decide) XAs.nil)))) (SU.seq (ZbO (ZbU (Zc3 (Bt.val (ZA Zd6 (ZA ZaO (Zl 5) (Zp _)) (Zp _))) (Zc3 (Bt.val (ZA Zd6 (Zl 4) (Zp _))) (Zc3 (Bt.val (ZA ZaW (ZA ZaO (ZA Zck (Zl 5) (Zp _)) (Zp _)) (Zp _))) Zcu)))) (SU.seq (Zdp (i:=6) (O':=[6]) (S':=[(0,1)]) (EX.call (b:=false) (xs:=[0]) (as:=[some 0,none]) (M:=[2]) ZjT (XAs.slot (Zas (ZO ZP (Zl 2) (Zp _)) (by decide) XAs.nil)))) (SU.seq (Zdp (i:=7) (O':=[6,7]) (S':=[(0,1)]) (EX.call (b:=false) (xs:=[0]) (as:=[some 0,none,none,none,none]) (M:=[1,2,3,4]) ih (XAs.slot (Zas (Zl 1) (by decide) (Zas (Zl 2) (by decide) (Zas (Zl 3) (by decide) (Zas (ZaN Zaz (Zl 4) (Zp _)) (by decide) XAs.nil))))))) (SU.seq (ZbO (ZbU (Bt.val (ZA Zd6 (ZA ZaO (Zl 5) (Zp _)) (Zp _)))) (Zbc (O':=[6,7]) (S':=[(0,1)]) (Zaj (E.tup (Zah (E.str _) (Zah (E.own) (Zah (E.own) ZK)))))) SU.next) (Zbc (O':=[]) (S':=[(0,1)]) (ZbN (k:=1000) (C:=fun e=>(Z8 (Zb (ZG (Str.ofString "if")) (Zb (Za 6) (Zb (Za 7) (Zb (e) Ze)))))) (e:=(Zh F (Zb (Za 0) (Zb (Za 1) (Zb (Za 2) (Zb (Za 3) (Zb (Zc ZE (Za 4) (Zd 1)) Ze))))))) (Ct.tup (ZaR (ZaR (ZaR (Cts.head (Zba) (fun ρ v H=>rfl)) (Za8)) (Za8)) Vl.str)) (EX.call (b:=false) (xs:=[0]) (as:=[some 0,none,none,none,none]) (M:=[1,2,3,4]) ih (XAs.slot (Zas (Zl 1) (by decide) (Zas (Zl 2) (by decide) (Zas (Zl 3) (by decide) (Zas (ZaN Zaz (Zl 4) (Zp _)) (by decide) XAs.nil)))))) (Zaj (E.tup (Zah (E.str _) (Zah (E.own) (Zah (E.own) (Zah (E.own) ZK))))))))))) SU.next) (SU.seq (ZbO (ZbU (Zdc (Bt.val (ZA ZfM (Zl 3) (ZO ZP (Zl 2) (Zp _)))) (Zdc (Bt.val (ZA ZaW (ZA ZaO (Zl 5) (Zp _)) (Zp _))) Zgl))) (Zbc (O':=[]) (S':=[(0,1)]) (ZbN (k:=1001) (C:=fun e=>(Z8 (Zb (ZG (Str.ofString "say")) (Zb (e) Ze)))) (e:=(Zh ZeH (Zb (Za 0) (Zb (Zc Zf (Za 2) (Zd 1)) Ze)))) (Ct.tup (ZaR (Cts.head (Zba) (fun ρ v H=>rfl)) Vl.str)) (EX.call (b:=false) (xs:=[0]) (as:=[some 0,none]) (M:=[2]) ZjT (XAs.slot (Zas (ZO ZP (Zl 2) (Zp _)) (by decide) XAs.nil))) (Zaj (E.tup (Zah (E.str _) (Zah (E.own) ZK)))))) SU.next) (Zbc (O':=[]) (S':=[(0,1)]) (EX.call (b:=false) (xs:=[0]) (as:=[some 0,none,none,none,none]) (M:=[1,2,3,5]) Zmb (XAs.slot (Zas (Zl 1) (by decide) (Zas (Zl 2) (by decide) (Zas (Zl 3) (by decide) (Zas (Zl 5) (by decide) XAs.nil)))))))))))) (by decide) (by decide)
noncomputable def ZhN(F:List V→Hp→Option (V×Hp)): Sm:=Zm (Zw 5 (ZU Ze)) (Zm (ZaL (Za7 (Zb (Zc Zaf (Zc ZE (Zh Zbv (Zb (Za 0) (Zb (Zd 4) Ze))) (Zd 1)) (Zh Zd3 (Zb (Zd 1) (Zb (Za 4) Ze)))) Ze)) (ZQ 6) (Zz (Zs (Zc oGt (Zc Zf (Za 0) (Zd 2)) (Zd 0))) (ZC (ZaD (Za 5) (Zh (ZfU F) (Zb (Za 0) (Zb (Za 1) (Zb (Za 2) (Zb (Za 3) (Zb (Za 4) Ze)))))))) ZL)) (Zy (Za 5)))
noncomputable def ZdJ: Nat→List V→Hp→Option (V×Hp)
 | 0=>fun _ _=>none
 | n+1=>ZH 5 (ZhN (ZdJ n))
noncomputable def ZdM: List V→Hp→Option (V×Hp):=ZdJ 9
noncomputable def Zf1(P:List T→Option (T×List T)): PS:=(ZD (Zaq 5 (xP (Zbq Zu))) (ZD (Zha 1001 (ZaX 1002 (Zan false [0] Zb2 (Zj (Zg 0) (Zj (Zo 4) Zu))) (xP (Zk ZbJ (Zk Zag (Zg 1002) (Zo 1)) (ZV Zg4 (Zj (Zo 1) (Zj (Zg 4) Zu)))))) (ZbG (Zj (Zg 1001) Zu)) (ZaG 6) (Zbn (xB (Z6 (Zk qGt (Zk ZF (Zg 0) (Zo 2)) (Zo 0)))) (ZdA 1000 (Zan false [0] (ZfV P) (Zj (Zg 0) (Zj (Zg 1) (Zj (Zg 2) (Zj (Zg 3) (Zj (Zg 4) Zu)))))) (ZeC 5 [1000] ZbY (Zg 1000))) Zai)) (ZaK (xP (Zg 5)))))
noncomputable def ZeJ: Nat→List T→Option (T×List T)
 | 0=>fun _=>none
 | n+1=>ZbK 5 [(0,1)] (Zf1 (ZeJ n))
noncomputable def ZjZ: List T→Option (T×List T):=ZeJ 9
theorem ZjU: ∀n:Nat,SimX 5 [(0,1)] true (ZdJ n) (ZeJ n)
 | 0=>SimX.zero
 | n+1=>by
  have ih:=ZjU n
  exact SimX.of (show SU [] [(0,1)] [5] [(0,1)] [(0,1)] true (ZhN (ZdJ n)) (Zf1 (ZeJ n))from(SU.seq (Zdp (i:=5) (O':=[5]) (S':=[(0,1)]) (Zaj (E.list ZK))) (SU.seq (ZoX (k:=1001) (g:=fun e=>Za7 (Zb e Ze)) (e:=(Zc Zaf (Zc ZE (Zh Zbv (Zb (Za 0) (Zb (Zd 4) Ze))) (Zd 1)) (Zh Zd3 (Zb (Zd 1) (Zb (Za 4) Ze))))) (Cg.range (Cts.head Zba (fun ρ v H=>rfl))) (ZbN (k:=1002) (C:=fun e=>(Zc Zaf (Zc ZE (e) (Zd 1)) (Zh Zd3 (Zb (Zd 1) (Zb (Za 4) Ze))))) (e:=(Zh Zbv (Zb (Za 0) (Zb (Zd 4) Ze)))) (ZdU (ZdU (Zba) (fun ρ v H=>rfl)) (fun ρ v H=>rfl)) (EX.call (b:=false) (xs:=[0]) (as:=[some 0,none]) (M:=[]) ZcR (XAs.slot (Zas (Zp _) (by decide) XAs.nil))) (Zaj (ZA ZbX (ZaN Zaz (Zl 1002) (Zp _)) (Zbs Zpz (ZB (Zp _) (ZB (Zl 4) ZK)))))) (Gs.range (ZB (Zl 1001) ZK)) (by decide) (PutOk.one (j:=6)) PutK.one (by decide) (ZbO (ZbU (Bt.val (ZA ZfM (ZO ZP (Zl 0) (Zp _)) (Zp _)))) (ZgC (k:=1000) (K:=fun e=>ZC (ZaD (Za 5) (e))) (e:=(Zh (ZfU (ZdJ n)) (Zb (Za 0) (Zb (Za 1) (Zb (Za 2) (Zb (Za 3) (Zb (Za 4) Ze))))))) (ZgP (Ct.append (Zba) (Za8))) Zfn (EX.call (b:=false) (xs:=[0]) (as:=[some 0,none,none,none,none]) (M:=[1,2,3,4]) (Zl0 ih) (XAs.slot (Zas (Zl 1) (by decide) (Zas (Zl 2) (by decide) (Zas (Zl 3) (by decide) (Zas (Zl 4) (by decide) XAs.nil)))))) (Zk0 (x:=5) (N:=[1000]) (O':=[5]) (by decide) Zlr (Zjx (O':=[1000]) (E.own)) (by decide) (by decide) (by decide)) (by decide) (by decide)) SU.next)) (Zbc (O':=[5]) (S':=[(0,1)]) (Zaj (E.own)))))) (by decide) (by decide)
theorem Zmg: SimX 5 [(0,1)] true ZdM ZjZ:=ZjU 9
noncomputable def Zho: Sm:=Zm (Zw 1 (ZU Ze)) (Zm (Zw 2 (Zh Zbv (Zb (Za 0) (Zb (Zd 4) Ze)))) (Zm (ZaL (Za7 (Zb (Zc ZE (Za 2) (Zd 1)) Ze)) (ZQ 3) (Zm (Zw 4 (Zh Zbv (Zb (Za 0) (Zb (Zd 1000) Ze)))) (Zm (Zw 5 (ZU (Zb (Zc oMod (Zc oDiv (Za 4) (Zd 4)) (Zc ZE (Zd 2) (Zc oMod (Za 4) (Zd 4)))) (Zb (Zc ZE (Zd 1) (Zc oMod (Za 4) (Zd 4))) Ze)))) (Zm (Zw 6 (Zd 1)) (Zm (Zz (Zs (Zc oLt (Za 3) (Za 2))) (Zw 6 (Zc ZE (Zc Zf (Za 5) (Zd 0)) (Zd 1))) (ZaY (Zc ZE (Zc Zf (Za 0) (Zd 2)) (Zd 8)) (Za 0) (Zd 2))) (ZC (ZaD (Za 1) (Z8 (Zb (Zc Zf (Za 5) (Zd 0)) (Zb (Zc Zf (Za 5) (Zd 1)) (Zb (Zh ZdM (Zb (Za 0) (Zb (Zh Zbt (Zb (Za 1) Ze)) (Zb (Za 5) (Zb (Za 6) (Zb (Zh ZdC (Zb (Zc oLt (Za 3) (Za 2)) Ze)) Ze)))))) Ze))))))))))) (Zy (Za 1))))
noncomputable def Zhp:=ZH 1 Zho
noncomputable def Zhq: PS:=(ZD (Zbi 1 (Zbq Zu)) (ZD (Zaq 2 (Zan false [0] Zb2 (Zj (Zg 0) (Zj (Zo 4) Zu)))) (ZD (ZbR (ZbG (Zj (Zk Zag (Zg 2) (Zo 1)) Zu)) (ZaG 3) (ZD (Zaq 4 (Zan false [0] Zb2 (Zj (Zg 0) (Zj (Zo 1000) Zu)))) (ZD (Zaq 5 (xP (Zbq (Zj (Zk Zax (Zk ZbB (Zg 4) (Zo 4)) (Zk Zag (Zo 2) (Zk Zax (Zg 4) (Zo 4)))) (Zj (Zk Zag (Zo 1) (Zk Zax (Zg 4) (Zo 4))) Zu))))) (ZD (Zaq 6 (xP (Zo 1))) (ZD (Zbn (xB (Z6 (Zk qLt (Zg 3) (Zg 2)))) (Zaq 6 (xP (Zk Zag (Zk ZF (Zg 5) (Zo 0)) (Zo 1)))) (Zes 0 1 false (pFl (Zk Zag (Zk ZF (Zg 0) (Zo 2)) (Zo 8))) ZbY (Zo 2))) (ZdA 1000 (xP (ZbW (Zk ZF (Zg 5) (Zo 0)))) (ZdA 1001 (xP (ZbW (Zk ZF (Zg 5) (Zo 1)))) (ZdA 1002 (ZaX 1003 (xP (ZV ZlA (Zj (Zg 1) Zu))) (Zan false [0] ZjZ (Zj (Zg 0) (Zj (Zg 1003) (Zj (Zg 5) (Zj (Zg 6) (Zj (ZV ZjC (Zj (Zk qLt (Zg 3) (Zg 2)) Zu)) Zu))))))) (Zg9 1 1 false ZbY (ZbA (Zj (Zg 1000) (Zj (Zg 1001) (Zj (Zg 1002) Zu))))))))))))) (ZaK (xP (Zg 1))))))
noncomputable def ZeF: List T→Option (T×List T):=ZbK 1 [(0,1)] Zhq
theorem Zl2: SimX 1 [(0,1)] false Zhp ZeF:=SimX.of (show SU [] [(0,1)] [] [(1,1),(0,1)] [(0,1)] false Zho Zhq from(SU.seq (ZkZ (i:=1) (O':=[]) (S':=[(0,1)]) ZK (by decide) (by decide) (by decide) (by decide)) (SU.seq (SU.set (i:=2) (O':=[]) (S':=[(1,1),(0,1)]) (EX.call (b:=false) (xs:=[0]) (as:=[some 0,none]) (M:=[]) ZcR (XAs.slot (Zas (Zp _) (by decide) XAs.nil)))) (SU.seq (Zlz (Gs.range (ZB (ZaN Zaz (Zl 2) (Zp _)) ZK)) (PutOk.one (j:=3)) PutK.one (by decide) (by decide) (SU.seq (SU.set (i:=4) (O':=[]) (S':=[(1,1),(0,1)]) (EX.call (b:=false) (xs:=[0]) (as:=[some 0,none]) (M:=[]) ZcR (XAs.slot (Zas (Zp _) (by decide) XAs.nil)))) (SU.seq (SU.set (i:=5) (O':=[]) (S':=[(1,1),(0,1)]) (Zaj (E.list (ZB (ZA ZaO (ZA Zck (Zl 4) (Zp _)) (ZaN Zaz (Zp _) (ZA ZaO (Zl 4) (Zp _)))) (ZB (ZaN Zaz (Zp _) (ZA ZaO (Zl 4) (Zp _))) ZK))))) (SU.seq (SU.set (i:=6) (O':=[]) (S':=[(1,1),(0,1)]) (Zaj (Zp _))) (SU.seq (ZbO (ZbU (Bt.val (ZA Zd6 (Zl 3) (Zl 2)))) (SU.set (i:=6) (O':=[]) (S':=[(1,1),(0,1)]) (Zaj (ZaN Zaz (ZO ZP (Zl 5) (Zp _)) (Zp _)))) (SU.putS (x:=0) (d:=1) (own:=false) (O':=[]) (S':=[(1,1),(0,1)]) (by decide) (by decide) (Zdr Zaz (ZO ZP (Zl 0) (Zp _)) (Zp _)) Zgz (Zp _) (by decide) (by decide) (by decide))) (ZgC (k:=1000) (K:=fun e=>ZC (ZaD (Za 1) (Z8 (Zb (e) (Zb (Zc Zf (Za 5) (Zd 1)) (Zb (Zh ZdM (Zb (Za 0) (Zb (Zh Zbt (Zb (Za 1) Ze)) (Zb (Za 5) (Zb (Za 6) (Zb (Zh ZdC (Zb (Zc oLt (Za 3) (Za 2)) Ze)) Ze)))))) Ze)))))) (e:=(Zc Zf (Za 5) (Zd 0))) (ZgP (Ct.append (Ct.tup (Cts.head (Zba) (fun ρ v H=>rfl))) (Za8))) Zfn (Zaj (E.flat (ZO ZP (Zl 5) (Zp _)))) (ZgC (k:=1001) (K:=fun e=>ZC (ZaD (Za 1) (Z8 (Zb (Za 1000) (Zb (e) (Zb (Zh ZdM (Zb (Za 0) (Zb (Zh Zbt (Zb (Za 1) Ze)) (Zb (Za 5) (Zb (Za 6) (Zb (Zh ZdC (Zb (Zc oLt (Za 3) (Za 2)) Ze)) Ze)))))) Ze)))))) (e:=(Zc Zf (Za 5) (Zd 1))) (ZgP (Ct.append (Ct.tup (ZaR (Cts.head (Zba) (fun ρ v H=>rfl)) (Za8))) (Za8))) Zfn (Zaj (E.flat (ZO ZP (Zl 5) (Zp _)))) (ZgC (k:=1002) (K:=fun e=>ZC (ZaD (Za 1) (Z8 (Zb (Za 1000) (Zb (Za 1001) (Zb (e) Ze)))))) (e:=(Zh ZdM (Zb (Za 0) (Zb (Zh Zbt (Zb (Za 1) Ze)) (Zb (Za 5) (Zb (Za 6) (Zb (Zh ZdC (Zb (Zc oLt (Za 3) (Za 2)) Ze)) Ze))))))) (ZgP (Ct.append (Ct.tup (ZaR (ZaR (Cts.head (Zba) (fun ρ v H=>rfl)) (Za8)) (Za8))) (Za8))) Zfn (Zna (k:=1003) (C:=fun e=>(Zh ZdM (Zb (Za 0) (Zb (e) (Zb (Za 5) (Zb (Za 6) (Zb (Zh ZdC (Zb (Zc oLt (Za 3) (Za 2)) Ze)) Ze))))))) (e:=(Zh Zbt (Zb (Za 1) Ze))) (Ct.call (ZaR (Cts.head (Zba) (fun ρ v H=>rfl)) (Za8))) (Zn1 (x:=1) (by decide)) (EX.call (b:=false) (xs:=[0]) (as:=[some 0,none,none,none,none]) (M:=[1003,5,6]) Zmg (XAs.slot (Zas (Zl 1003) (by decide) (Zas (Zl 5) (by decide) (Zas (Zl 6) (by decide) (Zas (Zbs Zqj (ZB (ZA Zd6 (Zl 3) (Zl 2)) ZK)) (by decide) XAs.nil)))))) (by decide) (by decide) (by decide)) (ZoW (x:=1) (d:=1) (own:=false) (O':=[]) (S':=[(1,1),(0,1)]) (by decide) (by decide) Zgz (E.tup (ZB (Zl 1000) (ZB (Zl 1001) (ZB (Zl 1002) ZK)))) (by decide) (by decide) (by decide)) (by decide) (by decide)) (by decide) (by decide)) (by decide) (by decide))))))) (Zp8 (O0:=[]) (S0:=[(0,1)]) (SU.ret (O':=[]) (S':=[(1,1),(0,1)]) (Zaj (Zl 1)) (by decide)) (by decide) (by decide)))))) (by decide) (by decide)
noncomputable def Zij: Sm:=Zz (Zs (Zc oLt (Zh Z3 (Zb (Zc Zf (Za 0) (Zd 3)) Ze)) (Zc Zf (Za 0) (Zd 4)))) (ZC (ZaD (Zc Zf (Za 0) (Zd 3)) (Z8 (Zb (Za 1) (Zb (Za 2) (Zb (Zh Zbt (Zb (Za 3) Ze)) Ze)))))) ZL
noncomputable def ZaM:=ZH 4 Zij
def Layer_c: Nat×List Str:=(110,[Str.ofString "rows",Str.ofString "used"])
def Runner_c: Nat×List Str:=(240,[Str.ofString "program",Str.ofString "ways_on",Str.ofString "picks",Str.ofString "used",Str.ofString "waiting",Str.ofString "moment"])
noncomputable def ZhD: Sm:=Zm (Zw 2 (Zc Zf (Za 0) (Zd 0))) (Zm (ZaL (Za7 (Zb (Zh Z3 (Zb (Za 1) Ze)) Ze)) (ZQ 3) (Zw 2 (Zc ZE (Za 2) (Zc Zbh (Zc Zf (Za 0) (Zc ZE (Za 3) (Zd 1))) (Zc Zf (Za 1) (Za 3)))))) (Zy (Za 2)))
noncomputable def ZbL:=ZH 2 ZhD
noncomputable def ZhE: PS:=(ZD (Zbi 2 (Zk ZF (Zg 0) (Zo 0))) (ZD (ZbR (ZbG (Zj (ZV Zb0 (Zj (Zg 1) Zu)) Zu)) (ZaG 3) (Zbi 2 (Zk Zag (Zg 2) (Zk Zcm (Zk ZF (Zg 0) (Zk Zag (Zg 3) (Zo 1))) (Zk ZF (Zg 1) (Zg 3)))))) (Zap (Zg 2))))
noncomputable def ZcP:=Za0 2 ZhE
theorem ZhF: SimF false ZbL ZcP:=SimF.of (show S [] [] [] false ZhD ZhE from(ZaJ (ZcM (O':=[]) (ZO ZP (Zl 0) (Zp _))) (ZaJ (Zg6 (Gs.range (ZB (Zbs Zdx (ZB (Zl 1) ZK)) ZK)) PutOk.one (by decide) (by decide) (ZcM (O':=[]) (ZaN Zaz (Zl 2) (ZaN ZfB (ZO ZP (Zl 0) (ZaN Zaz (Zl 3) (Zp _))) (ZO ZP (Zl 1) (Zl 3)))))) (Za9 (Zl 2)))))
noncomputable def ZhG: Sm:=Zm (Zw 2 (Zh ZbL (Zb (Zc Zf (Za 0) (Zd 1)) (Zb (Za 1) Ze)))) (Zm (Zz (Zs (Zc ZN (Zc Zf (Za 0) (Zd 0)) (ZG (Str.ofString "under")))) (Zy (Zc oLt (Za 2) (Zd 0))) ZL) (Zm (Zz (Zs (Zc ZN (Zc Zf (Za 0) (Zd 0)) (ZG (Str.ofString "same")))) (Zy (Zc ZN (Za 2) (Zd 0))) ZL) (Zy (Zc ZN (Zc oMod (Za 2) (Zc Zf (Za 0) (Zd 2))) (Zd 0)))))
noncomputable def ZcF:=ZH 2 ZhG
noncomputable def ZeK: PS:=(ZD (Zbi 2 (ZV ZcP (Zj (Zk ZF (Zg 0) (Zo 1)) (Zj (Zg 1) Zu)))) (ZD (qIf (Z6 (Zk qEq (Zk ZF (Zg 0) (Zo 0)) (ZaB (Str.ofString "under")))) (Zap (Zk qLt (Zg 2) (Zo 0))) Zai) (ZD (qIf (Z6 (Zk qEq (Zk ZF (Zg 0) (Zo 0)) (ZaB (Str.ofString "same")))) (Zap (Zk qEq (Zg 2) (Zo 0))) Zai) (Zap (Zk qEq (Zk Zax (Zg 2) (Zk ZF (Zg 0) (Zo 2))) (Zo 0))))))
noncomputable def ZcQ:=Za0 2 ZeK
theorem Zmc: SimF false ZcF ZcQ:=SimF.of (show S [] [] [] false ZhG ZeK from(ZaJ (ZcM (O':=[]) (E.fn ZhF (ZB (ZO ZP (Zl 0) (Zp _)) (ZB (Zl 1) ZK)))) (ZaJ (Zbe (Bt.val (ZA ZaW (ZO ZP (Zl 0) (Zp _)) (E.str _))) (Za9 (ZA Zd6 (Zl 2) (Zp _))) Zbd) (ZaJ (Zbe (Bt.val (ZA ZaW (ZO ZP (Zl 0) (Zp _)) (E.str _))) (Za9 (ZA ZaW (Zl 2) (Zp _))) Zbd) (Za9 (ZA ZaW (ZA ZaO (Zl 2) (ZO ZP (Zl 0) (Zp _))) (Zp _)))))))
noncomputable def Zik(F:List V→Hp→Option (V×Hp)): Sm:=Zm (Zw 1 (Zd 0)) (Zm (ZaL (Zar (Za 0)) (ZQ 2) (Zm (Zw 1 (Zc ZE (Za 1) (Zd 1))) (Zm (Zz (Zs (Zc ZN (Zc Zf (Za 2) (Zd 0)) (ZG (Str.ofString "if")))) (Zw 1 (Zc ZE (Zc ZE (Zc ZE (Za 1) (Zd 2)) (Zh F (Zb (Zc Zf (Za 2) (Zd 2)) Ze))) (Zh F (Zb (Zc Zf (Za 2) (Zd 3)) Ze)))) ZL) (Zz (Zs (Zc ZN (Zc Zf (Za 2) (Zd 0)) (ZG (Str.ofString "while")))) (Zw 1 (Zc ZE (Zc ZE (Za 1) (Zd 2)) (Zh F (Zb (Zc Zf (Za 2) (Zd 2)) Ze)))) ZL)))) (Zy (Za 1)))
noncomputable def Zeb: Nat→List V→Hp→Option (V×Hp)
 | 0=>fun _ _=>none
 | n+1=>ZH 1 (Zik (Zeb n))
noncomputable def ZbS: List V→Hp→Option (V×Hp):=Zeb 24
noncomputable def Zil(F:List T→Option T): PS:=(ZD (Zbi 1 (Zo 0)) (ZD (ZbR (Zb1 (Zg 0)) (ZaG 2) (ZD (Zbi 1 (Zk Zag (Zg 1) (Zo 1))) (ZD (qIf (Z6 (Zk qEq (Zk ZF (Zg 2) (Zo 0)) (ZaB (Str.ofString "if")))) (Zbi 1 (Zk Zag (Zk Zag (Zk Zag (Zg 1) (Zo 2)) (ZV F (Zj (Zk ZF (Zg 2) (Zo 2)) Zu))) (ZV F (Zj (Zk ZF (Zg 2) (Zo 3)) Zu)))) Zai) (qIf (Z6 (Zk qEq (Zk ZF (Zg 2) (Zo 0)) (ZaB (Str.ofString "while")))) (Zbi 1 (Zk Zag (Zk Zag (Zg 1) (Zo 2)) (ZV F (Zj (Zk ZF (Zg 2) (Zo 2)) Zu)))) Zai)))) (Zap (Zg 1))))
noncomputable def ZcT: Nat→List T→Option T
 | 0=>fun _=>none
 | n+1=>Za0 1 (Zil (ZcT n))
noncomputable def ZmL: List T→Option T:=ZcT 24
theorem Zgc: ∀n:Nat,SimF false (Zeb n) (ZcT n)
 | 0=>SimF.zero
 | n+1=>SimF.of (show S [] [] [] false (Zik (Zeb n)) (Zil (ZcT n))from(ZaJ (ZcM (O':=[]) (Zp _)) (ZaJ (Zg6 (Gs.seq (Zl 0)) PutOk.one (by decide) (by decide) (ZaJ (ZcM (O':=[]) (ZaN Zaz (Zl 1) (Zp _))) (ZaJ (Zbe (Bt.val (ZA ZaW (ZO ZP (Zl 2) (Zp _)) (E.str _))) (ZcM (O':=[]) (ZaN Zaz (ZaN Zaz (ZaN Zaz (Zl 1) (Zp _)) (E.fn (Zgc n) (ZB (ZO ZP (Zl 2) (Zp _)) ZK))) (E.fn (Zgc n) (ZB (ZO ZP (Zl 2) (Zp _)) ZK)))) Zbd) (Zbe (Bt.val (ZA ZaW (ZO ZP (Zl 2) (Zp _)) (E.str _))) (ZcM (O':=[]) (ZaN Zaz (ZaN Zaz (Zl 1) (Zp _)) (E.fn (Zgc n) (ZB (ZO ZP (Zl 2) (Zp _)) ZK)))) Zbd)))) (Za9 (Zl 1)))))
theorem Zj8: SimF false ZbS ZmL:=Zgc 24
noncomputable def Zhw: Sm:=Zm (Zw 3 (Zd 0)) (Zm (Zz (Zs (Zc oLt (Zc Zf (Za 0) (Zd 2)) (Zh Z3 (Zb (Zc Zf (Za 0) (Zd 1)) Ze)))) (Zw 3 (Zc Zf (Zc Zf (Za 0) (Zd 1)) (Zc Zf (Za 0) (Zd 2)))) ZL) (Zm (ZaY (Zc ZE (Zc Zf (Za 0) (Zd 2)) (Zd 1)) (Za 0) (Zd 2)) (Zm (Zz (Zav (Zs (Zc oIs (Za 1) (ZaT))) (Zav (Zs (Zc oIs (Za 2) (ZaT))) ZZ)) (Zy (Za 3)) ZL) (Zm (Zz (Zs (Zc oIs (Za 1) (ZaT))) (Zy (Zc Zaf (Za 2) (Zh ZbI (Zb (Za 3) Ze)))) ZL) (Zm (Zz (Zs (Zc oIs (Za 2) (ZaT))) (Zy (Zc ZE (Za 1) (Zh ZbI (Zb (Za 3) Ze)))) ZL) (Zy (Zc ZE (Za 1) (Zc oMod (Za 3) (Zc ZE (Zc Zaf (Za 2) (Za 1)) (Zd 1))))))))))
noncomputable def ZeG:=ZH 3 Zhw
noncomputable def Zdm: Sm:=Zm (Zz (Zs (Zc ZN (Zc Zf (Za 1) (Zd 0)) (ZG (Str.ofString "set")))) (ZaY (Zh ZbL (Zb (Zc Zf (Za 1) (Zd 2)) (Zb (Za 2) Ze))) (Za 2) (Zc Zaf (Zc Zf (Za 1) (Zd 1)) (Zd 1))) ZL) (Zm (Zz (Zs (Zc ZN (Zc Zf (Za 1) (Zd 0)) (ZG (Str.ofString "part")))) (ZaY (Zc oDiv (Zh ZbL (Zb (Zc Zf (Za 1) (Zd 2)) (Zb (Za 2) Ze))) (Zc Zf (Za 1) (Zd 3))) (Za 2) (Zc Zaf (Zc Zf (Za 1) (Zd 1)) (Zd 1))) ZL) (Zm (Zz (Zs (Zc ZN (Zc Zf (Za 1) (Zd 0)) (ZG (Str.ofString "rest")))) (ZaY (Zc oMod (Zh ZbL (Zb (Zc Zf (Za 1) (Zd 2)) (Zb (Za 2) Ze))) (Zc Zf (Za 1) (Zd 3))) (Za 2) (Zc Zaf (Zc Zf (Za 1) (Zd 1)) (Zd 1))) ZL) (Zz (Zs (Zc ZN (Zc Zf (Za 1) (Zd 0)) (ZG (Str.ofString "any")))) (ZaY (Zh ZeG (Zb (Za 0) (Zb (Zc Zf (Za 1) (Zd 2)) (Zb (Zc Zf (Za 1) (Zd 3)) Ze)))) (Za 2) (Zc Zaf (Zc Zf (Za 1) (Zd 1)) (Zd 1))) ZL)))
noncomputable def Zgd:=ZH 3 Zdm
noncomputable def ZdN(F:List V→Hp→Option (V×Hp)): Sm:=Zz (Zs (Zc ZN (Zc Zf (Za 2) (Zd 0)) (ZG (Str.ofString "if")))) (Zm (Zw 5 (Zc ZE (Zc ZE (Za 3) (Zd 1)) (Zh ZbS (Zb (Zc Zf (Za 2) (Zd 2)) Ze)))) (Zm (Zz (Zs (Zh ZcF (Zb (Zc Zf (Za 2) (Zd 1)) (Zb (Za 4) Ze)))) (Zm (ZC (Zh ZaM (Zb (Za 0) (Zb (Za 1) (Zb (Za 3) (Zb (Za 4) Ze)))))) (ZC (Zh F (Zb (Za 0) (Zb (Za 1) (Zb (Zc Zf (Za 2) (Zd 2)) (Zb (Zc ZE (Za 3) (Zd 1)) (Zb (Za 4) Ze)))))))) (Zm (ZC (Zh ZaM (Zb (Za 0) (Zb (Za 1) (Zb (Za 5) (Zb (Za 4) Ze)))))) (ZC (Zh F (Zb (Za 0) (Zb (Za 1) (Zb (Zc Zf (Za 2) (Zd 3)) (Zb (Zc ZE (Za 5) (Zd 1)) (Zb (Za 4) Ze))))))))) (ZC (Zh ZaM (Zb (Za 0) (Zb (Za 1) (Zb (Zc ZE (Zc ZE (Za 5) (Zd 1)) (Zh ZbS (Zb (Zc Zf (Za 2) (Zd 3)) Ze))) (Zb (Za 4) Ze)))))))) (Zz (Zs (Zc ZN (Zc Zf (Za 2) (Zd 0)) (ZG (Str.ofString "while")))) (Zm (ZC (Zh ZaM (Zb (Za 0) (Zb (Za 1) (Zb (Za 3) (Zb (Za 4) Ze)))))) (Zm (Zc2 (Zav (Zs (Zc oLt (Zh Z3 (Zb (Zc Zf (Za 0) (Zd 3)) Ze)) (Zc Zf (Za 0) (Zd 4)))) (Zav (Zs (Zh ZcF (Zb (Zc Zf (Za 2) (Zd 1)) (Zb (Za 4) Ze)))) ZZ)) (Zm (ZC (Zh ZaM (Zb (Za 0) (Zb (Za 1) (Zb (Zc ZE (Za 3) (Zd 1)) (Zb (Za 4) Ze)))))) (Zm (ZC (Zh F (Zb (Za 0) (Zb (Za 1) (Zb (Zc Zf (Za 2) (Zd 2)) (Zb (Zc ZE (Za 3) (Zd 2)) (Zb (Za 4) Ze))))))) (ZC (Zh ZaM (Zb (Za 0) (Zb (Za 1) (Zb (Za 3) (Zb (Za 4) Ze)))))))) 1000000) (ZC (Zh ZaM (Zb (Za 0) (Zb (Za 1) (Zb (Zc ZE (Zc ZE (Za 3) (Zd 2)) (Zh ZbS (Zb (Zc Zf (Za 2) (Zd 2)) Ze))) (Zb (Za 4) Ze)))))))) (Zz (Zs (Zc ZN (Zc Zf (Za 2) (Zd 0)) (ZG (Str.ofString "call")))) (Zm (Zw 6 (Zc Zf (Zc Zf (Za 0) (Zd 0)) (Zc Zf (Za 2) (Zd 2)))) (Zm (Zw 7 (Zc ZE (Zam (Zar (Zc Zf (Za 2) (Zd 3))) (ZQ 100) ZZ (Zh ZbL (Zb (Za 100) (Zb (Za 4) Ze)))) (Zc Zbh (ZU (Zb (Zd 0) Ze)) (Zc Zaf (Zc Zf (Za 6) (Zd 1)) (Zc Zf (Za 6) (Zd 0)))))) (Zm (ZC (Zh ZaM (Zb (Za 0) (Zb (Zc Zf (Za 2) (Zd 2)) (Zb (Zd 0) (Zb (Za 7) Ze)))))) (Zm (ZC (Zh F (Zb (Za 0) (Zb (Zc Zf (Za 2) (Zd 2)) (Zb (Zc Zf (Za 6) (Zd 2)) (Zb (Zd 1) (Zb (Za 7) Ze))))))) (Zm (ZaY (Zc Zf (Za 7) (ZM Zbl (Zd 1))) (Za 4) (Zc Zaf (Zc Zf (Za 2) (Zd 1)) (Zd 1))) (ZC (Zh ZaM (Zb (Za 0) (Zb (Za 1) (Zb (Za 3) (Zb (Za 4) Ze))))))))))) (Zm (ZC (Zh Zgd (Zb (Za 0) (Zb (Za 2) (Zb (Za 4) Ze))))) (ZC (Zh ZaM (Zb (Za 0) (Zb (Za 1) (Zb (Za 3) (Zb (Za 4) Ze)))))))))
noncomputable def ZbE(F:List V→Hp→Option (V×Hp)): List V→Hp→Option (V×Hp):=ZH 5 (ZdN F)
noncomputable def ZeT(F:List V→Hp→Option (V×Hp)): Sm:=ZaL (Zar (Za 2)) (ZQ 5) (Zz (Zs (Zc oLt (Zh Z3 (Zb (Zc Zf (Za 0) (Zd 3)) Ze)) (Zc Zf (Za 0) (Zd 4)))) (Zm (ZC (Zh (ZbE F) (Zb (Za 0) (Zb (Za 1) (Zb (Za 5) (Zb (Za 3) (Zb (Za 4) Ze))))))) (Zw 3 (Zc ZE (Za 3) (Zh ZbS (Zb (ZU (Zb (Za 5) Ze)) Ze))))) ZL)
noncomputable def Za1: Nat→List V→Hp→Option (V×Hp)
 | 0=>fun _ _=>none
 | n+1=>ZH 5 (ZeT (Za1 n))
noncomputable def Zga: List V→Hp→Option (V×Hp):=Za1 20
noncomputable def ZhO(F:List V→Hp→Option (V×Hp)): Sm:=Zm (Zz (Zs (eIs "list" (Za 0))) (Zy (Zam (Zar (Za 0)) (ZQ 100) ZZ (Zh F (Zb (Za 100) Ze)))) ZL) (Zm (Zz (Zs (eIs "tuple" (Za 0))) (Zy (Zh ZdT (Zb (Zam (Zar (Za 0)) (ZQ 102) ZZ (Zh F (Zb (Za 102) Ze))) Ze))) ZL) (Zy (Za 0)))
noncomputable def Zd8: Nat→List V→Hp→Option (V×Hp)
 | 0=>fun _ _=>none
 | n+1=>ZH 1 (ZhO (Zd8 n))
noncomputable def ZhP: List V→Hp→Option (V×Hp):=Zd8 24
noncomputable def Zd9(F:List T→Option T): PS:=(ZD (qIf (Z6 (pIs "list" (Zg 0))) (Zap (Zbz (Zb1 (Zg 0)) (ZaG 100) Zbk (ZV F (Zj (Zg 100) Zu)))) Zai) (ZD (qIf (Z6 (pIs "tuple" (Zg 0))) (Zap (ZV Ze8 (Zj (Zbz (Zb1 (Zg 0)) (ZaG 102) Zbk (ZV F (Zj (Zg 102) Zu))) Zu))) Zai) (Zap (ZbW (Zg 0)))))
noncomputable def ZdK: Nat→List T→Option T
 | 0=>fun _=>none
 | n+1=>Za0 1 (Zd9 (ZdK n))
noncomputable def Zf2: List T→Option T:=ZdK 24
theorem ZhH: ∀n:Nat,SimF true (Zd8 n) (ZdK n)
 | 0=>SimF.zero
 | n+1=>SimF.of (show S [] [] [] true (ZhO (Zd8 n)) (Zd9 (ZdK n))from(ZaJ (Zbe (Bt.val (Zdi (Zl 0))) (Zch (Zgx (Gs.seq (Zl 0)) PutOk.one (by decide) Zcu (Zer (ZhH n) (ZB (Zl 100) ZK)))) Zbd) (ZaJ (Zbe (Bt.val (Zdi (Zl 0))) (Zch (ZkX ZkC (Zah (Zgx (Gs.seq (Zl 0)) PutOk.one (by decide) Zcu (Zer (ZhH n) (ZB (Zl 102) ZK))) ZK))) Zbd) (Zch (E.flat (Zl 0))))))
theorem Zmh: SimF true ZhP Zf2:=ZhH 24
noncomputable def ZhQ: Sm:=Zm (Zz (tOr (Zca (Zs (eIs "list" (Za 0)))) (tOr (Zs (Zc oNe (Zh Z3 (Zb (Za 0) Ze)) (Zh Z3 (Zb (Za 1) Ze)))) Zdq)) (Zy (ZbH false)) ZL) (Zm (ZaL (Zar (Za 0)) (ZQ 2) (Zm (Zz (tOr (Zca (Zs (eIs "tuple" (Za 2)))) (tOr (Zs (Zc oNe (Zh Z3 (Zb (Za 2) Ze)) (Zd 3))) (tOr (Zca (Zs (eIs "list" (Zc Zf (Za 2) (Zd 2))))) Zdq))) (Zy (ZbH false)) ZL) (ZaL (Zar (Zc ZE (ZU (Zb (Zc Zf (Za 2) (Zd 0)) (Zb (Zc Zf (Za 2) (Zd 1)) Ze))) (Zc Zf (Za 2) (Zd 2)))) (ZQ 3) (Zz (tOr (Zca (Zs (eIs "int" (Za 3)))) (tOr (Zs (eIs "bool" (Za 3))) Zdq)) (Zy (ZbH false)) ZL)))) (Zy (Zc ZN (Za 0) (Za 1))))
noncomputable def ZhR:=ZH 2 ZhQ
noncomputable def ZhS: PS:=(ZD (qIf (bOr (Zdh (Z6 (pIs "list" (Zg 0)))) (bOr (Z6 (Zk qNe (ZV Zb0 (Zj (Zg 0) Zu)) (ZV Zb0 (Zj (Zg 1) Zu)))) Zek)) (Zap (Zeq false)) Zai) (ZD (ZbR (Zb1 (Zg 0)) (ZaG 2) (ZD (qIf (bOr (Zdh (Z6 (pIs "tuple" (Zg 2)))) (bOr (Z6 (Zk qNe (ZV Zb0 (Zj (Zg 2) Zu)) (Zo 3))) (bOr (Zdh (Z6 (pIs "list" (Zk ZF (Zg 2) (Zo 2))))) Zek))) (Zap (Zeq false)) Zai) (ZbR (Zb1 (Zk Zag (Zbq (Zj (Zk ZF (Zg 2) (Zo 0)) (Zj (Zk ZF (Zg 2) (Zo 1)) Zu))) (Zk ZF (Zg 2) (Zo 2)))) (ZaG 3) (qIf (bOr (Zdh (Z6 (pIs "int" (Zg 3)))) (bOr (Z6 (pIs "bool" (Zg 3))) Zek)) (Zap (Zeq false)) Zai)))) (Zap (Zk qEq (Zg 0) (Zg 1)))))
noncomputable def ZeO:=Za0 2 ZhS
theorem Zmi: SimF false ZhR ZeO:=SimF.of (show S [] [] [] false ZhQ ZhS from(ZaJ (Zbe (Zdc (Zfk (Bt.val (Zdi (Zl 0)))) (Zdc (Bt.val (ZA ZjJ (Zbs Zdx (ZB (Zl 0) ZK)) (Zbs Zdx (ZB (Zl 1) ZK)))) Zgl)) (Za9 (E.bool _)) Zbd) (ZaJ (Zg6 (Gs.seq (Zl 0)) PutOk.one (by decide) (by decide) (ZaJ (Zbe (Zdc (Zfk (Bt.val (Zdi (Zl 2)))) (Zdc (Bt.val (ZA ZjJ (Zbs Zdx (ZB (Zl 2) ZK)) (Zp _))) (Zdc (Zfk (Bt.val (Zdi (ZO ZP (Zl 2) (Zp _))))) Zgl))) (Za9 (E.bool _)) Zbd) (Zg6 (Gs.seq (ZaN Zaz (E.list (ZB (ZO ZP (Zl 2) (Zp _)) (ZB (ZO ZP (Zl 2) (Zp _)) ZK))) (ZO ZP (Zl 2) (Zp _)))) PutOk.one (by decide) (by decide) (Zbe (Zdc (Zfk (Bt.val (Zdi (Zl 3)))) (Zdc (Bt.val (Zdi (Zl 3))) Zgl)) (Za9 (E.bool _)) Zbd)))) (Za9 (ZA ZaW (Zl 0) (Zl 1))))))
noncomputable def Zhn: Sm:=Zy (Zc Zf (Zc Zf (ZM (Z9 (Runner_c) 1) (Za 0)) (Zc Zf (ZM (Z9 (Runner_c) 5) (Za 0)) (Zd 0))) (Zc Zf (ZM (Z9 (Runner_c) 5) (Za 0)) (Zd 1)))
noncomputable def ZeE:=ZH 1 Zhn
noncomputable def Zjm: Sm:=Zy (Zc ZE (Zc ZE (Zc0 (Za 0) Zdv (Zdw (Zc Zaf (Za 1) (Zd 1)))) (ZU (Zb (Za 2) Ze))) (Zc0 (Za 0) (Zdw (Za 1)) Zdv))
noncomputable def ZgS:=ZH 3 Zjm
noncomputable def Zjn: PS:=(Zap (pFl (Zk Zag (Zk Zag (ZcI (Zg 0) Zc5 (Zc6 (Zk ZbJ (Zg 1) (Zo 1)))) (Zbq (Zj (Zg 2) Zu))) (ZcI (Zg 0) (Zc6 (Zg 1)) Zc5))))
noncomputable def Zel:=Za0 3 Zjn
theorem ZlB: SimF true ZgS Zel:=SimF.of (show S [] [] [] true Zjm Zjn from(Zch (Zdr Zaz (ZaN Zaz (ZiS (Zl 0) Pe.none (Pe.some (ZA ZbX (Zl 1) (Zp _)))) (E.list (ZB (Zl 2) ZK))) (ZiS (Zl 0) (Pe.some (Zl 1)) Pe.none))))
noncomputable def ZhT: Sm:=Zm (Zw 1 (Zc Zf (Zc Zf (ZM (Z9 (Runner_c) 5) (Za 0)) (Zd 2)) (ZM Zbl (Zd 1)))) (Zm (Zw 2 (ZjO (ZM (Z9 (Runner_c) 4) (Za 0)))) (Zm (Zw 3 (Zc Zf (Za 2) (Zd 0))) (Zm (Zw 4 (Zc Zf (Za 2) (Zd 1))) (ZaC (Runner_c) 5 (Z8 (Zb (Zc Zf (Za 3) (Zd 0)) (Zb (Zc Zf (Za 4) (Zd 2)) (Zb (Zh ZgS (Zb (Zc Zf (Za 3) (Zd 2)) (Zb (Zc Zf (Zc Zf (Za 4) (Zd 1)) (Zd 1)) (Zb (Za 1) Ze)))) Ze)))) (Za 0)))))
noncomputable def Zf3:=ZH 1 ZhT
noncomputable def ZhU: Sm:=Zm (Zw 3 (Zc Zf (Zc Zf (Za 0) (Za 1)) (Zd 1))) (Zy (Z8 (Zb (Za 1) (Zb (Zd 0) (Zb (Zc ZE (Za 2) (Zam (Za7 (Zb (Zc Zaf (Za 3) (Zh Z3 (Zb (Za 2) Ze))) Ze)) (ZQ 100) ZZ (Zd 0))) Ze)))))
noncomputable def Zf4:=ZH 3 ZhU
noncomputable def ZhV: PS:=(ZD (Zbi 3 (Zk ZF (Zk ZF (Zg 0) (Zg 1)) (Zo 1))) (Zap (ZbA (Zj (ZbW (Zg 1)) (Zj (Zo 0) (Zj (pFl (Zk Zag (Zg 2) (Zbz (ZbG (Zj (Zk ZbJ (Zg 3) (ZV Zb0 (Zj (Zg 2) Zu))) Zu)) (ZaG 100) Zbk (Zo 0)))) Zu))))))
noncomputable def Zf5:=Za0 3 ZhV
theorem Zj0: SimF true Zf4 Zf5:=SimF.of (show S [] [] [] true ZhU ZhV from(ZaJ (ZcM (O':=[]) (ZO ZP (ZO ZP (Zl 0) (Zl 1)) (Zp _))) (Zch (E.tup (Zah (E.flat (Zl 1)) (Zah (Zp _) (Zah (Zdr Zaz (Zl 2) (ZiT (Gs.range (ZB (ZA ZbX (Zl 3) (Zbs Zdx (ZB (Zl 2) ZK))) ZK)) PutOk.one (by decide) Zcu (Zp _))) ZK)))))))
noncomputable def Zi1: Sm:=Zy (Zc ZE (Zc Zf (Za 0) (Zd 0)) (Zh ZfJ (Zb (Zam (Zhe (Zep (Za 0) 1) (Za 1)) (Zd5 100 101) ZZ (Zc Zbh (Za 100) (Za 101))) Ze)))
noncomputable def Zeg:=ZH 2 Zi1
noncomputable def Zi2: PS:=(Zap (Zk Zag (Zk ZF (Zg 0) (Zo 0)) (ZV Zhg (Zj (Zbz (Zhh (ZfC (Zg 0) 1) (Zg 1)) (Zg5 100 101) Zbk (Zk Zcm (Zg 100) (Zg 101))) Zu))))
noncomputable def ZbF:=Za0 2 Zi2
theorem Zi3: SimF false Zeg ZbF:=SimF.of (show S [] [] [] false Zi1 Zi2 from(Za9 (ZaN Zaz (ZO ZP (Zl 0) (Zp _)) (Zbs ZqG (ZB (ZiT (Gs.zip (ZpA (Zl 0)) (Zl 1)) PutOk.two (by decide) Zcu (ZaN ZfB (Zl 100) (Zl 101))) ZK)))))
noncomputable def ZhW: Sm:=Zm (Zw 2 (Zc Zf (Za 1) (Zd 1))) (Zm (Zw 3 (Zam (Zar (Zc Zf (Za 2) (Zd 3))) (ZQ 100) ZZ (Zh Zeg (Zb (Za 100) (Zb (Zc Zf (ZM (Z9 (Runner_c) 5) (Za 0)) (Zd 2)) Ze))))) (Zm (ZC (ZaD (ZM (Z9 (Runner_c) 4) (Za 0)) (Z8 (Zb (ZM (Z9 (Runner_c) 5) (Za 0)) (Zb (Za 1) Ze))))) (ZaC (Runner_c) 5 (Zh Zf4 (Zb (ZM (Z9 (Runner_c) 0) (Za 0)) (Zb (Zc Zf (Za 2) (Zd 2)) (Zb (Za 3) Ze)))) (Za 0))))
noncomputable def Zf6:=ZH 2 ZhW
noncomputable def Zhr: Sm:=Zm (Zz (Zs (Zc oNe (Zc Zf (Za 1) (Zd 0)) (ZG (Str.ofString "any")))) (Zy (Zd 0)) ZL) (Zm (ZaC (Runner_c) 3 (Zc ZE (ZM (Z9 (Runner_c) 3) (Za 0)) (Zd 1)) (Za 0)) (Zm (Zz (Zs (Zc oGt (ZM (Z9 (Runner_c) 3) (Za 0)) (Zh Z3 (Zb (ZM (Z9 (Runner_c) 2) (Za 0)) Ze)))) (Zy (Zd 0)) ZL) (Zy (Zc Zf (ZM (Z9 (Runner_c) 2) (Za 0)) (Zc Zaf (ZM (Z9 (Runner_c) 3) (Za 0)) (Zd 1))))))
noncomputable def ZfW:=ZH 2 Zhr
noncomputable def ZiC: Sm:=Zm (Zz (Zav (Zs (Zc oIs (Za 0) (ZaT))) (Zav (Zs (Zc oIs (Za 1) (ZaT))) ZZ)) (Zy (Za 2)) ZL) (Zm (Zz (Zs (Zc oIs (Za 1) (ZaT))) (Zy (Zc ZE (Za 0) (Zh ZbI (Zb (Za 2) Ze)))) ZL) (Zm (Zz (Zs (Zc oIs (Za 0) (ZaT))) (Zy (Zc Zaf (Za 1) (Zh ZbI (Zb (Za 2) Ze)))) ZL) (Zy (Zc ZE (Za 0) (Zc oMod (Za 2) (Zc ZE (Zc Zaf (Za 1) (Za 0)) (Zd 1)))))))
noncomputable def ZiD:=ZH 3 ZiC
noncomputable def ZiE: PS:=(ZD (qIf (Zcb (Z6 (Zk qIs (Zg 0) (Zdg))) (Zcb (Z6 (Zk qIs (Zg 1) (Zdg))) Zbk)) (Zap (Zg 2)) Zai) (ZD (qIf (Z6 (Zk qIs (Zg 1) (Zdg))) (Zap (Zk Zag (Zg 0) (ZV ZdF (Zj (Zg 2) Zu)))) Zai) (ZD (qIf (Z6 (Zk qIs (Zg 0) (Zdg))) (Zap (Zk ZbJ (Zg 1) (ZV ZdF (Zj (Zg 2) Zu)))) Zai) (Zap (Zk Zag (Zg 0) (Zk Zax (Zg 2) (Zk Zag (Zk ZbJ (Zg 1) (Zg 0)) (Zo 1))))))))
noncomputable def Zgm:=Za0 3 ZiE
theorem Zn2: SimF false ZiD Zgm:=SimF.of (show S [] [] [] false ZiC ZiE from(ZaJ (Zbe (Zc3 (Bt.val (ZA Zhf (Zl 0) (ZdZ))) (Zc3 (Bt.val (ZA Zhf (Zl 1) (ZdZ))) Zcu)) (Za9 (Zl 2)) Zbd) (ZaJ (Zbe (Bt.val (ZA Zhf (Zl 1) (ZdZ))) (Za9 (ZaN Zaz (Zl 0) (Zbs Zfz (ZB (Zl 2) ZK)))) Zbd) (ZaJ (Zbe (Bt.val (ZA Zhf (Zl 0) (ZdZ))) (Za9 (ZA ZbX (Zl 1) (Zbs Zfz (ZB (Zl 2) ZK)))) Zbd) (Za9 (ZaN Zaz (Zl 0) (ZA ZaO (Zl 2) (ZaN Zaz (ZA ZbX (Zl 1) (Zl 0)) (Zp _)))))))))
noncomputable def Zh5: Sm:=Zm (Zz (Zs (Zc ZN (Zc Zf (Za 1) (Zd 0)) (ZG (Str.ofString "any")))) (Zy (Zh ZiD (Zb (Zc Zf (Za 1) (Zd 2)) (Zb (Zc Zf (Za 1) (Zd 3)) (Zb (Za 2) Ze))))) ZL) (Zm (Zw 3 (Zh Zeg (Zb (Zc Zf (Za 1) (Zd 2)) (Zb (Za 0) Ze)))) (Zm (Zz (Zs (Zc ZN (Zc Zf (Za 1) (Zd 0)) (ZG (Str.ofString "part")))) (Zy (Zc oDiv (Za 3) (Zc Zf (Za 1) (Zd 3)))) ZL) (Zm (Zz (Zs (Zc ZN (Zc Zf (Za 1) (Zd 0)) (ZG (Str.ofString "rest")))) (Zy (Zc oMod (Za 3) (Zc Zf (Za 1) (Zd 3)))) ZL) (Zy (Za 3)))))
noncomputable def Zh6:=ZH 3 Zh5
noncomputable def Zea: PS:=(ZD (qIf (Z6 (Zk qEq (Zk ZF (Zg 1) (Zo 0)) (ZaB (Str.ofString "any")))) (Zap (ZV Zgm (Zj (Zk ZF (Zg 1) (Zo 2)) (Zj (Zk ZF (Zg 1) (Zo 3)) (Zj (Zg 2) Zu))))) Zai) (ZD (Zbi 3 (ZV ZbF (Zj (Zk ZF (Zg 1) (Zo 2)) (Zj (Zg 0) Zu)))) (ZD (qIf (Z6 (Zk qEq (Zk ZF (Zg 1) (Zo 0)) (ZaB (Str.ofString "part")))) (Zap (Zk ZbB (Zg 3) (Zk ZF (Zg 1) (Zo 3)))) Zai) (ZD (qIf (Z6 (Zk qEq (Zk ZF (Zg 1) (Zo 0)) (ZaB (Str.ofString "rest")))) (Zap (Zk Zax (Zg 3) (Zk ZF (Zg 1) (Zo 3)))) Zai) (Zap (Zg 3))))))
noncomputable def ZcG:=Za0 3 Zea
theorem Zmu: SimF false Zh6 ZcG:=SimF.of (show S [] [] [] false Zh5 Zea from(ZaJ (Zbe (Bt.val (ZA ZaW (ZO ZP (Zl 1) (Zp _)) (E.str _))) (Za9 (E.fn Zn2 (ZB (ZO ZP (Zl 1) (Zp _)) (ZB (ZO ZP (Zl 1) (Zp _)) (ZB (Zl 2) ZK))))) Zbd) (ZaJ (ZcM (O':=[]) (E.fn Zi3 (ZB (ZO ZP (Zl 1) (Zp _)) (ZB (Zl 0) ZK)))) (ZaJ (Zbe (Bt.val (ZA ZaW (ZO ZP (Zl 1) (Zp _)) (E.str _))) (Za9 (ZA Zck (Zl 3) (ZO ZP (Zl 1) (Zp _)))) Zbd) (ZaJ (Zbe (Bt.val (ZA ZaW (ZO ZP (Zl 1) (Zp _)) (E.str _))) (Za9 (ZA ZaO (Zl 3) (ZO ZP (Zl 1) (Zp _)))) Zbd) (Za9 (Zl 3)))))))
noncomputable def Zi4: Sm:=Zm (Zw 2 (Zh Zeg (Zb (Zc Zf (Za 0) (Zd 1)) (Zb (Za 1) Ze)))) (Zm (Zz (Zs (Zc ZN (Zc Zf (Za 0) (Zd 0)) (ZG (Str.ofString "under")))) (Zy (Zc oLt (Za 2) (Zd 0))) ZL) (Zm (Zz (Zs (Zc ZN (Zc Zf (Za 0) (Zd 0)) (ZG (Str.ofString "same")))) (Zy (Zc ZN (Za 2) (Zd 0))) ZL) (Zy (Zc ZN (Zc oMod (Za 2) (Zc Zf (Za 0) (Zd 2))) (Zd 0)))))
noncomputable def Zi5:=ZH 2 Zi4
noncomputable def Zfd: PS:=(ZD (Zbi 2 (ZV ZbF (Zj (Zk ZF (Zg 0) (Zo 1)) (Zj (Zg 1) Zu)))) (ZD (qIf (Z6 (Zk qEq (Zk ZF (Zg 0) (Zo 0)) (ZaB (Str.ofString "under")))) (Zap (Zk qLt (Zg 2) (Zo 0))) Zai) (ZD (qIf (Z6 (Zk qEq (Zk ZF (Zg 0) (Zo 0)) (ZaB (Str.ofString "same")))) (Zap (Zk qEq (Zg 2) (Zo 0))) Zai) (Zap (Zk qEq (Zk Zax (Zg 2) (Zk ZF (Zg 0) (Zo 2))) (Zo 0))))))
noncomputable def Zcg:=Za0 2 Zfd
theorem Zo8: SimF false Zi5 Zcg:=SimF.of (show S [] [] [] false Zi4 Zfd from(ZaJ (ZcM (O':=[]) (E.fn Zi3 (ZB (ZO ZP (Zl 0) (Zp _)) (ZB (Zl 1) ZK)))) (ZaJ (Zbe (Bt.val (ZA ZaW (ZO ZP (Zl 0) (Zp _)) (E.str _))) (Za9 (ZA Zd6 (Zl 2) (Zp _))) Zbd) (ZaJ (Zbe (Bt.val (ZA ZaW (ZO ZP (Zl 0) (Zp _)) (E.str _))) (Za9 (ZA ZaW (Zl 2) (Zp _))) Zbd) (Za9 (ZA ZaW (ZA ZaO (Zl 2) (ZO ZP (Zl 0) (Zp _))) (Zp _)))))))
noncomputable def Zjo: Sm:=Zm (Zz (Zav (Zs (Zc ZN (Zc Zf (Za 1) (Zd 0)) (ZG (Str.ofString "when")))) (Zav (Zs (Zc oNe (Zh Zi5 (Zb (Zc Zf (Za 1) (Zd 1)) (Zb (Za 0) Ze))) (Zc Zf (Za 1) (Zd 2)))) ZZ)) (Zy (ZaT)) ZL) (Zm (Zz (Zs (Zc oIn (Zc Zf (Za 1) (Zd 0)) (Z8 (Zb (ZG (Str.ofString "go")) (Zb (ZG (Str.ofString "say")) (Zb (ZG (Str.ofString "when")) Ze)))))) (Zy (Zh Zbt (Zb (Za 0) Ze))) ZL) (Zy (Zh ZgS (Zb (Za 0) (Zb (Zc Zf (Za 1) (Zd 1)) (Zb (Zh Zh6 (Zb (Za 0) (Zb (Za 1) (Zb (Za 2) Ze)))) Ze))))))
noncomputable def Zfo:=ZH 3 Zjo
noncomputable def Zc7: PS:=(ZD (qIf (Zcb (Z6 (Zk qEq (Zk ZF (Zg 1) (Zo 0)) (ZaB (Str.ofString "when")))) (Zcb (Z6 (Zk qNe (ZV Zcg (Zj (Zk ZF (Zg 1) (Zo 1)) (Zj (Zg 0) Zu))) (Zk ZF (Zg 1) (Zo 2)))) Zbk)) (Zap (Zdg)) Zai) (ZD (qIf (Z6 (Zk qIn (Zk ZF (Zg 1) (Zo 0)) (ZbA (Zj (ZaB (Str.ofString "go")) (Zj (ZaB (Str.ofString "say")) (Zj (ZaB (Str.ofString "when")) Zu)))))) (Zap (pFl (ZV Zc4 (Zj (Zg 0) Zu)))) Zai) (Zap (ZV Zel (Zj (Zg 0) (Zj (Zk ZF (Zg 1) (Zo 1)) (Zj (ZV ZcG (Zj (Zg 0) (Zj (Zg 1) (Zj (Zg 2) Zu)))) Zu)))))))
noncomputable def Zbp:=Za0 3 Zc7
theorem Zqk: SimF true Zfo Zbp:=SimF.of (show S [] [] [] true Zjo Zc7 from(ZaJ (Zbe (Zc3 (Bt.val (ZA ZaW (ZO ZP (Zl 1) (Zp _)) (E.str _))) (Zc3 (Bt.val (ZA ZjJ (E.fn Zo8 (ZB (ZO ZP (Zl 1) (Zp _)) (ZB (Zl 0) ZK))) (ZO ZP (Zl 1) (Zp _)))) Zcu)) (Zch (ZdZ)) Zbd) (ZaJ (Zbe (Bt.val (ZA ZqV (ZO ZP (Zl 1) (Zp _)) (E.tup (ZB (E.str _) (ZB (E.str _) (ZB (E.str _) ZK)))))) (Zch (Zow ZiR (ZB (Zl 0) ZK))) Zbd) (Zch (Zer ZlB (ZB (Zl 0) (ZB (ZO ZP (Zl 1) (Zp _)) (ZB (E.fn Zmu (ZB (Zl 0) (ZB (Zl 1) (ZB (Zl 2) ZK)))) ZK))))))))
noncomputable def Zhs: Sm:=Zm (Zw 2 (Z5 (Runner_c) ZfW (Za 0) (Zb (Zc Zf (Zc Zf (Za 1) (Zd 0)) (Zd 1)) Ze))) (Zm (Zw 3 (ZM (Z9 (Runner_c) 5) (Za 0))) (ZaL (Zar (Za 1)) (ZQ 4) (Zm (Zw 5 (Zh Zfo (Zb (Zc Zf (Za 3) (Zd 2)) (Zb (Zc Zf (Za 4) (Zd 1)) (Zb (Za 2) Ze))))) (Zz (Zs (Zc ZdX (Za 5) (ZaT))) (ZaC (Runner_c) 5 (Z8 (Zb (Zc Zf (Za 3) (Zd 0)) (Zb (Zc Zf (Za 4) (Zd 2)) (Zb (Za 5) Ze)))) (Za 0)) ZL))))
noncomputable def ZfX:=ZH 2 Zhs
noncomputable def ZhX: Sm:=Zm (Zw 1 (Z5 (Runner_c) ZeE (Za 0) Ze)) (Zz (Zs (Zc ZN (Zh Z3 (Zb (Za 1) Ze)) (Zd 0))) (ZC (Z5 (Runner_c) Zf3 (Za 0) Ze)) (Zz (Zs (Zc ZN (Zc Zf (Zc Zf (Zc Zf (Za 1) (Zd 0)) (Zd 1)) (Zd 0)) (ZG (Str.ofString "call")))) (ZC (Z5 (Runner_c) Zf6 (Za 0) (Zb (Zc Zf (Za 1) (Zd 0)) Ze))) (ZC (Z5 (Runner_c) ZfX (Za 0) (Zb (Za 1) Ze)))))
noncomputable def ZeP:=ZH 1 ZhX
noncomputable def ZhY: Sm:=Zy (Zey (Zc ZN (Zh Z3 (Zb (Z5 (Runner_c) ZeE (Za 0) Ze) Ze)) (Zd 0)) (Zc ZN (Zh Z3 (Zb (ZM (Z9 (Runner_c) 4) (Za 0)) Ze)) (Zd 0)))
noncomputable def ZeQ:=ZH 1 ZhY
noncomputable def Zh7: Sm:=Zy (Zh ZfE (Zb (Zam (Zar (Za 0)) (ZQ 100) ZZ (Zh Zfx (Zb (Zc Zf (Za 100) (Zd 0)) (Zb (Zc Zf (Za 100) (Zd 2)) Ze)))) Ze))
noncomputable def ZeU:=ZH 1 Zh7
noncomputable def Zh8: PS:=(Zap (ZV Zhb (Zj (Zbz (Zb1 (Zg 0)) (ZaG 100) Zbk (ZV ZfA (Zj (Zk ZF (Zg 100) (Zo 0)) (Zj (Zk ZF (Zg 100) (Zo 2)) Zu)))) Zu)))
noncomputable def Zgb:=Za0 1 Zh8
theorem Zmv: SimF false ZeU Zgb:=SimF.of (show S [] [] [] false Zh7 Zh8 from(Za9 (Zbs Zqi (ZB (ZiT (Gs.seq (Zl 0)) PutOk.one (by decide) Zcu (Zbs Zpy (ZB (ZO ZP (Zl 100) (Zp _)) (ZB (ZO ZP (Zl 100) (Zp _)) ZK)))) ZK))))
noncomputable def ZhI: Sm:=Zm (Zw 1 (Zam (Za7 (Zb (Zc ZE (Zh ZeU (Zb (Za 0) Ze)) (Zd 1)) Ze)) (ZQ 100) ZZ (ZU Ze))) (Zm (ZaL (Zar (Za 0)) (ZQ 2) (ZC (ZaD (Zc Zf (Za 1) (Zc Zf (Za 2) (Zd 0))) (Za 2)))) (Zy (Za 1)))
noncomputable def ZeL:=ZH 1 ZhI
noncomputable def ZhZ: Sm:=Zm (ZaC (Layer_c) 0 (ZU Ze) (Za 0)) (ZaC (Layer_c) 1 (Zd 0) (Za 0))
noncomputable def Zf7:=ZH 1 ZhZ
noncomputable def Zh9: Sm:=ZC (ZaD (ZM (Z9 (Layer_c) 0) (Za 0)) (Z8 (Zb (Za 1) (Zb (Za 2) (Zb (Za 3) Ze)))))
noncomputable def Zec:=ZH 4 Zh9
noncomputable def ZhJ: Sm:=Zm (ZaC (Layer_c) 1 (Zc ZE (ZM (Z9 (Layer_c) 1) (Za 0)) (Zd 1)) (Za 0)) (Zm (ZC (Z5 (Layer_c) Zec (Za 0) (Zb (Za 1) (Zb (Za 2) (Zb (ZM (Z9 (Layer_c) 1) (Za 0)) Ze))))) (Zy (ZM (Z9 (Layer_c) 1) (Za 0))))
noncomputable def Zcp:=ZH 3 ZhJ
noncomputable def Zi6(F:List V→Hp→Option (V×Hp)): Sm:=Zm (Zz (Zs (eIs "list" (Za 0))) (Zy (Zam (Zar (Za 0)) (ZQ 100) ZZ (Zh F (Zb (Za 100) Ze)))) ZL) (Zm (Zz (Zs (eIs "tuple" (Za 0))) (Zy (Zh ZdT (Zb (Zam (Zar (Za 0)) (ZQ 102) ZZ (Zh F (Zb (Za 102) Ze))) Ze))) ZL) (Zy (Za 0)))
noncomputable def Zef: Nat→List V→Hp→Option (V×Hp)
 | 0=>fun _ _=>none
 | n+1=>ZH 1 (Zi6 (Zef n))
noncomputable def ZgD: List V→Hp→Option (V×Hp):=Zef 24
noncomputable def Zeh(F:List T→Option T): PS:=(ZD (qIf (Z6 (pIs "list" (Zg 0))) (Zap (Zbz (Zb1 (Zg 0)) (ZaG 100) Zbk (ZV F (Zj (Zg 100) Zu)))) Zai) (ZD (qIf (Z6 (pIs "tuple" (Zg 0))) (Zap (ZV Ze8 (Zj (Zbz (Zb1 (Zg 0)) (ZaG 102) Zbk (ZV F (Zj (Zg 102) Zu))) Zu))) Zai) (Zap (ZbW (Zg 0)))))
noncomputable def ZdR: Nat→List T→Option T
 | 0=>fun _=>none
 | n+1=>Za0 1 (Zeh (ZdR n))
noncomputable def Zi7: List T→Option T:=ZdR 24
theorem ZiF: ∀n:Nat,SimF true (Zef n) (ZdR n)
 | 0=>SimF.zero
 | n+1=>SimF.of (show S [] [] [] true (Zi6 (Zef n)) (Zeh (ZdR n))from(ZaJ (Zbe (Bt.val (Zdi (Zl 0))) (Zch (Zgx (Gs.seq (Zl 0)) PutOk.one (by decide) Zcu (Zer (ZiF n) (ZB (Zl 100) ZK)))) Zbd) (ZaJ (Zbe (Bt.val (Zdi (Zl 0))) (Zch (ZkX ZkC (Zah (Zgx (Gs.seq (Zl 0)) PutOk.one (by decide) Zcu (Zer (ZiF n) (ZB (Zl 102) ZK))) ZK))) Zbd) (Zch (E.flat (Zl 0))))))
theorem Zk6: SimF true ZgD Zi7:=ZiF 24
noncomputable def Zim: Sm:=Zy (Z8 (Zb (ZG (Str.ofString "when")) (Zb (Zh ZgD (Zb (Za 0) Ze)) (Zb (Za 1) Ze))))
noncomputable def ZdO:=ZH 2 Zim
noncomputable def Zin: PS:=(Zap (ZbA (Zj (ZaB (Str.ofString "when")) (Zj (ZV Zi7 (Zj (Zg 0) Zu)) (Zj (ZbW (Zg 1)) Zu)))))
noncomputable def Zio:=Za0 2 Zin
theorem ZmM: SimF true ZdO Zio:=SimF.of (show S [] [] [] true Zim Zin from(Zch (E.tup (Zah (E.str _) (Zah (Zer Zk6 (ZB (Zl 0) ZK)) (Zah (E.flat (Zl 1)) ZK))))))
noncomputable def Zh0(F:List V→Hp→Option (V×Hp)): Sm:=Zm (Zw 3 (Z5 (Layer_c) Zcp (Za 0) (Zb (Za 2) (Zb (Zh ZdO (Zb (Zc Zf (Za 1) (Zd 1)) (Zb (ZbH true) Ze))) Ze)))) (Zm (Zw 4 (Z5 (Layer_c) F (Za 0) (Zb (Zc Zf (Za 1) (Zd 2)) (Zb (Za 3) Ze)))) (Zm (Zw 5 (Z5 (Layer_c) Zcp (Za 0) (Zb (Za 2) (Zb (Zh ZdO (Zb (Zc Zf (Za 1) (Zd 1)) (Zb (ZbH false) Ze))) Ze)))) (Zm (Zw 6 (Z5 (Layer_c) F (Za 0) (Zb (Zc Zf (Za 1) (Zd 3)) (Zb (Za 5) Ze)))) (Zm (Zw 7 (Z5 (Layer_c) Zcp (Za 0) (Zb (Za 4) (Zb (Z8 (Zb (ZG (Str.ofString "go")) Ze)) Ze)))) (Zm (ZC (Z5 (Layer_c) Zec (Za 0) (Zb (Za 6) (Zb (Z8 (Zb (ZG (Str.ofString "go")) Ze)) (Zb (Za 7) Ze))))) (Zy (Za 7)))))))
noncomputable def Zf8(F:List V→Hp→Option (V×Hp)): List V→Hp→Option (V×Hp):=ZH 3 (Zh0 F)
noncomputable def Zht(F:List V→Hp→Option (V×Hp)): Sm:=Zm (Zw 3 (Z5 (Layer_c) Zcp (Za 0) (Zb (Za 2) (Zb (Z8 (Zb (ZG (Str.ofString "go")) Ze)) Ze)))) (Zm (Zw 4 (Z5 (Layer_c) Zcp (Za 0) (Zb (Za 3) (Zb (Zh ZdO (Zb (Zc Zf (Za 1) (Zd 1)) (Zb (ZbH true) Ze))) Ze)))) (Zm (Zw 5 (Z5 (Layer_c) F (Za 0) (Zb (Zc Zf (Za 1) (Zd 2)) (Zb (Za 4) Ze)))) (Zm (ZC (Z5 (Layer_c) Zec (Za 0) (Zb (Za 5) (Zb (Z8 (Zb (ZG (Str.ofString "go")) Ze)) (Zb (Za 3) Ze))))) (Zy (Z5 (Layer_c) Zcp (Za 0) (Zb (Za 3) (Zb (Zh ZdO (Zb (Zc Zf (Za 1) (Zd 1)) (Zb (ZbH false) Ze))) Ze)))))))
noncomputable def ZfY(F:List V→Hp→Option (V×Hp)): List V→Hp→Option (V×Hp):=ZH 3 (Zht F)
noncomputable def ZeD(F:List V→Hp→Option (V×Hp)): Sm:=Zm (Zz (Zs (Zc ZN (Zc Zf (Za 1) (Zd 0)) (ZG (Str.ofString "if")))) (Zy (Z5 (Layer_c) (Zf8 F) (Za 0) (Zb (Za 1) (Zb (Za 2) Ze)))) ZL) (Zm (Zz (Zs (Zc ZN (Zc Zf (Za 1) (Zd 0)) (ZG (Str.ofString "while")))) (Zy (Z5 (Layer_c) (ZfY F) (Za 0) (Zb (Za 1) (Zb (Za 2) Ze)))) ZL) (Zy (Z5 (Layer_c) Zcp (Za 0) (Zb (Za 2) (Zb (Zh ZgD (Zb (Za 1) Ze)) Ze)))))
noncomputable def Zco(F:List V→Hp→Option (V×Hp)): List V→Hp→Option (V×Hp):=ZH 3 (ZeD F)
noncomputable def ZfZ(F:List V→Hp→Option (V×Hp)): Sm:=Zm (Zw 3 (Za 2)) (Zm (ZaL (Zar (Za 1)) (ZQ 4) (Zw 3 (Z5 (Layer_c) (Zco F) (Za 0) (Zb (Za 4) (Zb (Za 3) Ze))))) (Zy (Za 3)))
noncomputable def Zdk: Nat→List V→Hp→Option (V×Hp)
 | 0=>fun _ _=>none
 | n+1=>ZH 3 (ZfZ (Zdk n))
noncomputable def Zhx: List V→Hp→Option (V×Hp):=Zdk 9
noncomputable def Ziw: Sm:=Zm (Zw 1 (ZcO (Layer_c) Zf7 Ze)) (Zm (ZC (Z5 (Layer_c) Zhx (Za 1) (Zb (Za 0) (Zb (Zd 0) Ze)))) (Zy (ZM (Z9 (Layer_c) 0) (Za 1))))
noncomputable def Ze0:=ZH 1 Ziw
noncomputable def Zh1: Sm:=Zy (Zam (Zar (Za 0)) (ZQ 100) ZZ (Zh ZeL (Zb (Zh Ze0 (Zb (Zc Zf (Za 100) (Zd 2)) Ze)) Ze)))
noncomputable def Zf9:=ZH 1 Zh1
noncomputable def ZhK: Sm:=Zm (ZaC (Runner_c) 0 (Za 1) (Za 0)) (Zm (ZaC (Runner_c) 1 (Zh Zf9 (Zb (Za 1) Ze)) (Za 0)) (Zm (ZaC (Runner_c) 2 (Za 3) (Za 0)) (Zm (ZaC (Runner_c) 3 (Zd 0) (Za 0)) (Zm (ZaC (Runner_c) 4 (ZU Ze) (Za 0)) (ZaC (Runner_c) 5 (Zh Zf4 (Zb (Za 1) (Zb (Zc Zaf (Zh Z3 (Zb (Za 1) Ze)) (Zd 1)) (Zb (Za 2) Ze)))) (Za 0))))))
noncomputable def ZeM:=ZH 4 ZhK
end L
end
section
open PySem PySem.W PyProof.Rows PM TM My
local macro_rules|`(tactic|tm_at "r")=>`(tactic|first|(with_reducible assumption)|(with_reducible exact Zit)|(((with_reducible apply ZkW);decide;tm_at "r"))|(((with_reducible apply ZkB);decide;tm_at "r"))|(exact rfl)|(assumption))
local macro_rules|`(tactic|walk_at "r")=>`(tactic|first | tm_at "r" | fail)
local macro_rules|`(tactic|tm_at "y")=>`(tactic|first|(rfl)|((with_reducible assumption))|((simp only[Bool.not_eq_true',Bool.not_eq_false',decide_eq_true_eq,decide_eq_false_iff_not,beq_iff_eq,beq_eq_false_iff_ne,ne_eq,Bool.not_true,Bool.not_false,not_false_eq_true,not_true_eq_false,bne_iff_ne,Decidable.not_not,List.length_map] <;> first | done | omega | assumption)))
local macro_rules|`(tactic|walk_at "y")=>`(tactic|first | tm_at "y" | fail)
local macro_rules|`(tactic|tm_at "f")=>`(tactic|first|(rfl)|(exact flat_oT)|(exact flat_prT)|(exact Zig fun i hi=>by(first | rfl | exact flat_oT | exact flat_prT)))
local macro_rules|`(tactic|walk_at "f")=>`(tactic|first | tm_at "f" | fail)
local macro_rules|`(tactic|tm_at "o")=>`(tactic|first|(with_reducible first|refine ZpT ?_|refine ZpU ?_|refine ZpV ?_|refine ZqK ?_|refine tk_le ?_|refine ZqL ?_|refine tk_ge ?_|refine ZpX ?_|refine ZpY ?_|refine ZpZ ?_|refine ZqM ?_|refine ZqN ?_|refine tk_eqb ?_|refine Zp0 ?_|refine Zp1 ?_|refine Zp2 ?_|refine tk_isl ?_|refine tk_ist ?_|refine tk_notn ?_|refine tk_noti ?_|refine tk_notl ?_|refine tk_nott ?_|refine ZoJ ?_|refine Zp3 ?_|refine ZoK ?_)|(((with_reducible apply ZoL);(first | assumption | omega)))|(((with_reducible apply ZoM);(first | decide | omega);(first | decide | omega)))|(((with_reducible apply ZoN);(first | decide | omega);rfl))|(((with_reducible apply Zb4);(first | decide | omega);rfl))|(((with_reducible apply tk_addC);omega))|(with_reducible first|refine ZnO ?_|refine tk_list1t ?_|refine ZoO ?_|refine tk_all ?_|refine tk_any ?_)|(((with_reducible apply ZpW);(first | decide | omega))))
local macro_rules|`(tactic|walk_at "o")=>`(tactic|first | tm_at "o" | fail)
local macro_rules|`(tactic|tm_at "1")=>`(tactic|first|(with_reducible first|refine ZpH ?_|refine ZqH ?_|refine ZoC ?_|refine ZpI ?_|refine ZpJ ?_|refine ZoD ?_|refine ZoB ?_|refine ZoE ?_|refine ZqI ?_|refine tk_if ?_|refine tk_not ?_|refine tk_and ?_|refine tk_or ?_|refine ZqJ ?_|refine ZpK ?_|refine ZoF ?_|refine ZoG ?_|refine ZnN ?_|refine ZoH ?_|refine ZpL ?_|refine ZmH ?_|refine tk_truth_n ?_|refine ZoI ?_|refine ZpM ?_|refine ZpN ?_|refine tk_exp ?_|refine ZpO ?_|refine ZpP ?_|refine ZpE ?_|refine ZpF ?_|refine tk_bool ?_|refine ZpG ?_)|(((with_reducible apply Zls);tm_at "r"))|(((with_reducible apply ZpR);tm_at "y"))|(((with_reducible apply ZpS);tm_at "y"))|(((with_reducible apply ZpQ);rfl))|((refine And.intro (show isObT _=false from rfl) ?_))|((refine And.intro (show T.flat _ = true by walk_at "f") ?_))|((refine And.intro (show T.flatIn _ = true by walk_at "f") ?_))|(with_reducible first|refine ZoP ?_|refine Sq.lst ?_|refine Sq.tup ?_|refine ZkA ?_)|(((with_reducible apply Rn.one);omega))|(with_reducible first|refine Zlv ?_|refine tk_enum ?_|refine EnP.tab ?_|refine tk_chain ?_|refine Zi.eq ?_|refine Zi.mn ?_|refine tk_app ?_|refine tk_appM ?_|refine tk_put ?_|refine tk_put2 ?_)|(((with_reducible apply AppP.of);tm_at "r";(first | (rw[ZaI];omega) | (simp;done))))|(((with_reducible apply AppQ.of);tm_at "r";(first | (rw[ZaI];omega) | (simp;done))))|(((with_reducible apply PutP.tab);tm_at "r";(first | assumption | omega)))|(((with_reducible apply Put2.tab);tm_at "r";(first | assumption | omega);(first | assumption | omega)))|(tm_at "o"))
local macro_rules|`(tactic|walk_at "1")=>`(tactic|first | tm_at "1" | fail)
local macro_rules|`(tactic|tm_at "tr")=>`(tactic|first|(with_reducible assumption)|(with_reducible first|exact Zit|exact Zm8)|(((with_reducible apply ZkW);decide;tm_at "tr"))|(((with_reducible apply Zo5);decide;tm_at "tr"))|(((with_reducible apply ZmK);decide;tm_at "tr"))|(((with_reducible apply ZnY);tm_at "tr"))|(((with_reducible apply ZkB);decide;tm_at "tr"))|(exact rfl)|(assumption))
local macro_rules|`(tactic|walk_at "tr")=>`(tactic|first | tm_at "tr" | fail)
local macro_rules|`(tactic|tm_at "t1")=>`(tactic|first|(with_reducible first|refine Zqb ?_|refine Zqd ?_|refine Zqc ?_|refine ZqP ?_|refine tx_exp ?_|refine ZoZ ?_|refine Zo0 ?_|refine ZnV ?_|refine ZqY ?_|refine ZqZ ?_|refine Zqa ?_|refine tx_not ?_|refine tx_and ?_|refine tx_or ?_|refine ZoY ?_|refine ZnU ?_|refine tx_callT ?_|refine ZnX ?_)|(((with_reducible apply Zo4);tm_at "tr"))|(((with_reducible refine Zo1 ?hd ?h);(case hd=>decide)))|(((with_reducible refine Zo2 ?hd ?h);(case hd=>decide)))|(with_reducible first|refine Zqe ?_|refine tx_put ?_)|(((with_reducible apply Zls);tm_at "tr"))|(((with_reducible apply Zqg);rfl))|(tm_at "1"))
local macro_rules|`(tactic|walk_at "t1")=>`(tactic|first | tm_at "t1" | fail)
local macro_rules|`(tactic|walk_at "z")=>`(tactic|repeat' (first | tm_at "1" | fail))
local macro_rules|`(tactic|walk_at "tz")=>`(tactic|repeat' (first | tm_at "t1" | fail))
open PySem PM TM
namespace L
variable {t:T} {K:Hp} {v:V} {P:Nat→Prop} {ts:List T} {vs:List V}
noncomputable abbrev Mo:=Int×Int×List Int
noncomputable def Zbo(m:Mo): T:=.tup [.int m.1,.int m.2.1,.lst (m.2.2.map T.int)]
noncomputable def Z2(m:Mo)(b:Nat): V:=.tup [.int m.1,.int m.2.1,.ref b]
structure RS where
 n:Nat
 wt:List (Mo×T)
 m:Mo
noncomputable def ZcD(ts:List T)(k:Int): Option T:=(seqIndex? k ts.length).bind fun j=>ts[j]?
noncomputable def unL: T→Option (List T)
 | .lst ts=>some ts
 | _=>none
noncomputable def ZaU(tw:T)(m:Mo): Option (List T):=(unL tw).bind fun a=>(ZcD a m.1).bind fun b=>(unL b).bind fun c=>(ZcD c m.2.1).bind unL
noncomputable def unI: T→Option Int
 | .int k=>some k
 | _=>none
noncomputable def ZdH(t:T): Option (List Int):=(unL t).bind Zbr
noncomputable def Zhc: T→Option Mo
 | .tup [.int f,.int p,.lst ts]=>(Zbr ts).map fun l=>(f,p,l)
 | _=>none
noncomputable def Z0(bs:List Int): T:=.lst (bs.map T.int)
noncomputable def Zem(bs:List Int): List T→Option (List Int)
 | []=>some []
 | one::ts=>((ZbF [one,Z0 bs]).bind unI).bind fun k=>(Zem bs ts).map (k::·)
noncomputable def Zd0(tp:T)(g:Int)(given:List Int): Option Mo:=(Zf5 [tp,.int g,Z0 given]).bind Zhc
noncomputable def ZjE(bs:List Int)(x a:Int): Option (List Int):=(Zel [Z0 bs,.int x,.int a]).bind ZdH
noncomputable def unD: T→Option (Option (List Int))
 | .none=>some none
 | .lst ts=>(Zbr ts).map some
 | _=>none
noncomputable def ZfF(bs:List Int)(act:T)(pick:Int): Option (Option (List Int)):=(Zbp [Z0 bs,act,.int pick]).bind unD
noncomputable def Zjp(s:RS): Option RS:=s.wt.getLast?.bind fun fr=>s.m.2.2.getLast?.bind fun a=>match fr.2 with
 | .tup [_,.tup (_::.int x::_),.int q]=>(ZjE fr.1.2.2 x a).map fun l=>⟨s.n,s.wt.dropLast,(fr.1.1,q,l)⟩
 | _=>none
noncomputable def ZgT(tp:T)(s:RS)(row:T): Option RS:=if s.wt.length<10000 then match row with
 | .tup [_,.tup [_,_,.int g,.lst sums],_]=>if sums.length<10000 then(Zem s.m.2.2 sums).bind fun gv=>(Zd0 tp g gv).map fun m=>⟨s.n,s.wt++[(s.m,row)],m⟩else none
 | _=>none else none
noncomputable def ZaP(ks:List Int)(n:Nat)(wd:Str): Nat×Int:=if wd=Str.ofString "any" then(n+1,ks.getD n 0)else(n,0)
noncomputable def ZfO: T→Option (T×Int)
 | .tup [_,act,.int q]=>some (act,q)
 | _=>none
noncomputable def Zhj(f q:Int)(m:Option Mo): Option (List Int)→Option Mo
 | none=>m
 | some l=>some (f,q,l)
noncomputable def Zen(bs:List Int)(f pick:Int): List T→Option Mo→Option (Option Mo)
 | [],m=>some m
 | t::rs,m=>(ZfO t).bind fun aq=>(ZfF bs aq.1 pick).bind fun r=>Zen bs f pick rs (Zhj f aq.2 m r)
theorem Znb{act:T}{q:Int}(e:ZfO t=some (act,q)): ∃h,t=.tup [h,act,.int q]:=by
 unfold ZfO at e
 split at e
 case h_2=>first|exact Zx0 e|cases e
 cases e
 exact⟨_,rfl⟩
noncomputable def ZbZ(tp tw:T)(ks:List Int)(s:RS): Option RS:=(ZaU tw s.m).bind fun rows=>match rows with
 | []=>Zjp s
 | row::rs=>match row with
  | .tup [_,.tup (.str wd::_),_]=>if PyData.strOk wd=true then(if wd=Str.ofString "call" then ZgT tp s row else((Zen s.m.2.2 s.m.1 (ZaP ks s.n wd).2 (row::rs) none).bind id).map fun m=>⟨(ZaP ks s.n wd).1,s.wt,m⟩)else none
  | _=>none
noncomputable def ZcJ(tw:T)(s:RS): Option Bool:=(ZaU tw s.m).map fun rows=>rows.isEmpty && s.wt.isEmpty
noncomputable def RFo(K:Hp)(v:V)(t:T)(P:Nat→Prop): Prop:=∃F,RF K v t F∧∀a∈F,P a
theorem RFo.keep{K':Hp}(r:RFo K v t P)(h:∀a,P a→a<K.length→K'[a]?=K[a]?): RFo K' v t P:=by
 obtain⟨F,r,p⟩:=r
 exact⟨F,r.frame fun a m=>h a (p a m) (r.lt a m),p⟩
theorem RFo.lst(r:RFo K v (.lst ts) P): ∃b vs,v=.ref b∧K[b]?=some vs∧P b∧(∃F,RFs K vs ts F∧∀a∈F,P a):=by
 obtain⟨F,r,p⟩:=r
 cases r with
 | ref e hs=>exact⟨_,_,rfl,e,p _ Zz5,_,hs,fun a m=>p a (Zz2 _ m)⟩
theorem RFo.tup(r:RFo K v (.tup ts) P): ∃vs,v=.tup vs∧(∃F,RFs K vs ts F∧∀a∈F,P a):=by
 obtain⟨F,r,p⟩:=r
 cases r with
 | tup hs=>exact⟨_,rfl,_,hs,p⟩
theorem ZT(r:∃F,RFs K vs (t::ts) F∧∀a∈F,P a): ∃v us,vs=v::us∧RFo K v t P∧(∃F,RFs K us ts F∧∀a∈F,P a):=by
 obtain⟨F,r,p⟩:=r
 cases r with
 | cons a b=>exact⟨_,_,rfl,⟨_,a,fun x m=>p x (Zz4 _ m)⟩,_,b,fun x m=>p x (Zz3 _ m)⟩
theorem Zbx(r:∃F,RFs K vs [] F∧∀a∈F,P a): vs=[]:=by
 obtain⟨F,r,p⟩:=r
 cases r
 rfl
theorem RFo.int{k:Int}(r:RFo K v (.int k) P): v=.int k:=by
 obtain⟨F,r,_⟩:=r
 cases r
 rfl
theorem RFo.str{k:Str}(r:RFo K v (.str k) P): v=.str k:=by
 obtain⟨F,r,_⟩:=r
 cases r
 rfl
theorem Zds{j:Nat}(r:∃F,RFs K vs ts F∧∀a∈F,P a)(e:ts[j]?=some t): ∃v,vs[j]?=some v∧RFo K v t P:=by
 obtain⟨F,r,p⟩:=r
 obtain⟨v,G,h1,h2,h3⟩:=r.at e
 exact⟨v,h1,G,h2,fun a m=>p a (h3.subset m)⟩
theorem Ze2{K:Hp}: ∀{ts:List T} {ks:List Int} {vs:List V} {F:List Nat},Zbr ts=some ks→RFs K vs ts F→vs=ks.map V.int∧F=[]∧ts=ks.map T.int
 | [],ks,vs,F,e,r=>by cases r;cases e;exact⟨rfl,rfl,rfl⟩
 | .int k::ts,ks,vs,F,e,r=>by
  obtain⟨js,e1,e2⟩:=Zz1.mp e
  subst e2
  cases r with
  | cons a b=>
   cases a
   obtain⟨rfl,rfl,rfl⟩:=Ze2 e1 b
   exact⟨rfl,rfl,rfl⟩
theorem Zfp: ∀ks:List Int,Zbr (ks.map T.int)=some ks
 | []=>rfl
 | k::ks=>by simp[Zbr,Zfp ks]
theorem Zcx{b:Nat}{bs:List Int}(e:K[b]?=some (bs.map V.int)): RF K (.ref b) (Z0 bs) [b]:=.ref e (by
 have:∀ks:List Int,RFs K (ks.map V.int) (ks.map T.int) []:=fun ks=>by
  induction ks with
  | nil=>exact .nil
  | cons k ks ih=>exact .cons (.int k) ih
 exact this bs)
theorem Zfe{k:Int}(r:RFo K v (.lst ts) P)(e:ZcD ts k=some t): ∃u,Zf v (.int k) K=some (u,K)∧RFo K u t P:=by
 obtain⟨b,vs,rfl,e1,pb,rs⟩:=r.lst
 obtain⟨j,e2,e3⟩:=Zz0.mp e
 obtain⟨u,h1,h2⟩:=Zds rs e3
 have hl:vs.length=ts.length:=by obtain⟨F,r,_⟩:=rs;exact r.length
 refine⟨u,?_,h2⟩
 simp[Zf,e1,hl,e2,h1]
theorem Ze3(e:unL t=some ts): t=.lst ts:=by
 cases t <;> simp[unL]at e
 rw[e]
theorem Zjq{a b:Str}(ha:PyData.strOk a=true)(hb:PyData.strOk b=true)(H:Hp): ZN (.str a) (.str b) H=some (.bool (decide (a=b)),H):=by
 simp[ZN,ZcN,toD,SeqAt.shaped,PyData.canLay0,PyData.depth,PyData.eqv,ha,hb]
 rfl
theorem Zql{a b:Str}(ha:PyData.strOk a=true)(hb:PyData.strOk b=true)(H:Hp): oNe (.str a) (.str b) H=some (.bool (!decide (a=b)),H):=by
 simp[oNe,ZcN,toD,SeqAt.shaped,PyData.canLay0,PyData.depth,PyData.eqv,ha,hb]
 rfl
theorem Zae{a b:Sm}{ρ ρ1:Lc}{H H1:Hp}(h:a ρ H=some (none,ρ1,H1)): Zm a b ρ H=b ρ1 H1:=by simp[Zm,h]
end L
open PySem PM TM
namespace L
variable {K K':Hp} {P:Nat→Prop} {vs:List V}
noncomputable def Off(o w m0 a:Nat): Prop:=a≠o∧a≠w∧a≠m0
noncomputable def FmR(K:Hp)(P:Nat→Prop)(v:V)(fr:Mo×T): Prop:=∃c vr,v=.tup [Z2 fr.1 c,vr]∧K[c]?=some (fr.1.2.2.map V.int)∧P c∧RFo K vr fr.2 P
inductive FmRs(K:Hp)(P:Nat→Prop): List V→List (Mo×T)→Prop where
 | nil:FmRs K P [] []
 | snoc {vs:List V} {frs:List (Mo×T)} {v:V} {fr:Mo×T}:FmRs K P vs frs→FmR K P v fr→FmRs K P (vs++[v]) (frs++[fr])
theorem lt_of_at{a:Nat}{x:List V}(e:K[a]?=some x): a<K.length:=(Zz6.mp e).1
theorem FmR.keep{v:V}{fr:Mo×T}(r:FmR K P v fr)(h:∀a,P a→a<K.length→K'[a]?=K[a]?): FmR K' P v fr:=by
 obtain⟨c,vr,e1,e2,p,r⟩:=r
 exact⟨c,vr,e1,(h c p (lt_of_at e2)).trans e2,p,r.keep h⟩
theorem FmRs.keep{frs:List (Mo×T)}(r:FmRs K P vs frs)(h:∀a,P a→a<K.length→K'[a]?=K[a]?): FmRs K' P vs frs:=by
 induction r with
 | nil=>exact .nil
 | snoc _ b ih=>exact .snoc ih (b.keep h)
theorem FmRs.length{frs:List (Mo×T)}(r:FmRs K P vs frs): vs.length=frs.length:=by
 induction r with
 | nil=>rfl
 | snoc _ _ ih=>simp[ih]
theorem FmRs.last{frs:List (Mo×T)}{fr:Mo×T}(r:FmRs K P vs frs)(e:frs.getLast? = some fr): ∃us v,vs=us++[v]∧FmR K P v fr∧FmRs K P us frs.dropLast:=by
 cases r with
 | nil=>simp at e
 | snoc a b=>simp at e;subst e;exact⟨_,_,rfl,b,by simpa using a⟩
structure Rn(K:Hp)(o w b m0:Nat)(vp vw:V)(kk:Nat)(tp tw:T)(ks:List Int)(s:RS): Prop where
 ho:K[o]?=some [vp,vw,.ref kk,.int s.n,.ref w,Z2 s.m b]
 hw:∃ws,K[w]?=some ws∧FmRs K (Off o w m0) ws s.wt
 hb:K[b]?=some (s.m.2.2.map V.int)
 rp:RFo K vp tp (Off o w m0)
 rw:RFo K vw tw (Off o w m0)
 rk:K[kk]?=some (ks.map V.int)
 ko:Off o w m0 kk
 bo:Off o w m0 b
 o0:o≠0
 w0:w≠0
 ow:o≠w
 mo:Off o w o m0
 ml:m0<K.length
section
variable {K:Hp} {o w b m0:Nat} {vp vw:V} {kk:Nat} {tp tw:T} {ks:List Int} {s:RS}
theorem ZkG{rows:List T}(R:Rn K o w b m0 vp vw kk tp tw ks s)(e:ZaU tw s.m=some rows): ∃v,ZeE [.obj Runner_c o] K=some (v,K)∧RFo K v (.lst rows) (Off o w m0):=by
 obtain⟨a,e1,f1⟩:=Zz0.mp e
 obtain⟨t1,e2,f2⟩:=Zz0.mp f1
 obtain⟨c,e3,f3⟩:=Zz0.mp f2
 obtain⟨d,e4,f4⟩:=Zz0.mp f3
 have:=Ze3 e1;subst this
 have:=Ze3 e3;subst this
 have:=Ze3 f4;subst this
 obtain⟨u1,h1,r1⟩:=Zfe R.rw e2
 obtain⟨u2,h2,r2⟩:=Zfe r1 e4
 refine⟨u2,?_,r2⟩
 unfold ZeE Zhn ZH
 simp only[List.length_singleton,if_true]
 have i0:∀(x y z:V) H,Zf (.tup [x,y,z]) (.int 0) H=some (x,H):=fun _ _ _ _=>rfl
 have i1:∀(x y z:V) H,Zf (.tup [x,y,z]) (.int 1) H=some (y,H):=fun _ _ _ _=>rfl
 simp[Zy,Zc,ZM,Z9,Za,R.ho,Zd,Z2,i0,i1,h1,h2]
theorem ZgE{v:V}{ts:List T}(r:RFo K v (.lst ts) P): Z3 [v] K=some (.int ts.length,K):=by
 obtain⟨c,vs,rfl,e1,pb,F,rs,_⟩:=r.lst
 simp[Z3,e1,rs.length]
theorem Znc{q:Bool}(R:Rn K o w b m0 vp vw kk tp tw ks s)(e:ZcJ tw s=some q): ZeQ [.obj Runner_c o] K=some (.bool q,K):=by
 obtain⟨rows,e9,rfl⟩:=Zz1.mp e
 obtain⟨v,h1,h2⟩:=ZkG R e9
 obtain⟨ws,h3,h4⟩:=R.hw
 have l1:=ZgE h2
 have l2:=h4.length
 unfold ZeQ ZhY ZH
 simp only[List.length_singleton,if_true]
 have ho:=R.ho
 cases rows with
 | nil=>
  simp only[List.length_nil]at l1
  cases hwt:s.wt with
  | nil=>
   rw[hwt]at l2
   have:ws=[]:=List.length_eq_zero_iff.mp (by simpa using l2)
   subst this
   have l6:Z3 [.ref w] K=some (.int 0,K):=by simp[Z3,h3]
   simp[Zy,Zey,Zc,Zh,Zb,Ze,Z5,Za,Zbb,h1,l1,Zd,Zak,ZM,Z9,ho,l6]
  | cons f fs=>
   have:ws.length≠0:=by rw[l2,hwt];simp
   have l3:((ws.length:Int) == 0)=false:=by simpa using this
   have l4:ws≠[]:=by rintro rfl;simp at this
   have l6:Z3 [.ref w] K=some (.int ws.length,K):=by simp[Z3,h3]
   simp[Zy,Zey,Zc,Zh,Zb,Ze,Z5,Za,Zbb,h1,l1,Zd,Zak,ZM,Z9,ho,l6,l3,l4]
 | cons r rs=>
  have l3:(((r::rs).length:Int) == 0)=false:=by simp;lia
  simp only[Zy,Zey,Zc,Zh,Zb,Ze,Z5,Za,Zbb,List.getElem?_cons_zero,Zs1,Zs0,beq_self_eq_true,if_true,h1,l1,Zd,ZlX,l3,Zak]
  simp
noncomputable def ZfP(K K':Hp)(o w m0:Nat)(vp vw:V)(kk:Nat)(tp tw:T)(ks:List Int)(s':RS): Prop:=∃b',Rn K' o w b' m0 vp vw kk tp tw ks s'∧K.length≤b'∧K.length≤K'.length∧∀a,a<K.length→a≠o→a≠w→K'[a]?=K[a]?
theorem Rn.mk'{b':Nat}{s':RS}(R:Rn K o w b m0 vp vw kk tp tw ks s)(kp:∀a,a<K.length→a≠o→a≠w→K'[a]?=K[a]?)(ho:K'[o]?=some [vp,vw,.ref kk,.int s'.n,.ref w,Z2 s'.m b'])(hw:∃ws,K'[w]?=some ws∧FmRs K' (Off o w m0) ws s'.wt)(hb:K'[b']?=some (s'.m.2.2.map V.int))(hn:K.length≤b')(hl:K.length≤K'.length): ZfP K K' o w m0 vp vw kk tp tw ks s':=by
 have k2:∀a,Off o w m0 a→a<K.length→K'[a]?=K[a]?:=fun a p l=>kp a l p.1 p.2.1
 obtain⟨ws,w1,w2⟩:=R.hw
 have lo:=lt_of_at R.ho
 have lw:=lt_of_at w1
 have lm:=R.ml
 exact⟨b',⟨ho,hw,hb,R.rp.keep k2,R.rw.keep k2,(k2 _ R.ko (lt_of_at R.rk)).trans R.rk,R.ko,⟨by lia,by lia,by lia⟩,R.o0,R.w0,R.ow,R.mo,by lia⟩,hn,hl,kp⟩
theorem Znd{s':RS}(R:Rn K o w b m0 vp vw kk tp tw ks s)(e:Zjp s=some s'): ∃K',Zf3 [.obj Runner_c o] K=some (.none,K')∧ZfP K K' o w m0 vp vw kk tp tw ks s':=by
 obtain⟨fr,e1,e⟩:=Zz0.mp e
 obtain⟨a,e2,e⟩:=Zz0.mp e
 obtain⟨⟨cf,cp,cb⟩,row⟩:=fr
 dsimp only at e
 split at e
 case h_2=>first|exact Zx0 e|cases e
 rename_i th tw' x tas q _hq
 obtain⟨l,e3,e⟩:=Zz1.mp e
 subst e
 obtain⟨t,e3,e4⟩:=Zz0.mp e3
 obtain⟨ts,e4,e5⟩:=Zz0.mp e4
 have:=Ze3 e4;subst this
 obtain⟨ws,w1,w2⟩:=R.hw
 obtain⟨us,v,rfl,w3,w4⟩:=w2.last e1
 obtain⟨c,vr,rfl,c1,c2,c3⟩:=w3
 obtain⟨vs3,rfl,d1⟩:=c3.tup
 obtain⟨vh,_,rfl,_,d1⟩:=ZT d1
 obtain⟨va,_,rfl,d2,d1⟩:=ZT d1
 obtain⟨vq,_,rfl,d3,d1⟩:=ZT d1
 have:=Zbx d1;subst this
 have:=d3.int;subst this
 obtain⟨vas,rfl,d4⟩:=d2.tup
 obtain⟨vw0,_,rfl,_,d4⟩:=ZT d4
 obtain⟨vx,vrest,rfl,d5,_⟩:=ZT d4
 have:=d5.int;subst this
 have ho:=R.ho
 have hb:=R.hb
 have lo:=lt_of_at R.ho
 have lw:=lt_of_at w1
 have an:Zf (.ref b) (.int (-1)) K=some (.int a,K):=by
  obtain⟨ys,ey⟩:=List.getLast?_eq_some_iff.mp e2
  have hne:s.m.2.2.length=ys.length+1:=by rw[ey];simp
  simp only[Zf,hb,Zs0,List.length_map]
  have:seqIndex? (-1) s.m.2.2.length=some ys.length:=by
   unfold seqIndex?
   simp
   omega
  rw[this]
  simp[ey]
 generalize hK2:K.set w us=K2
 have k2o:K2[o]?=K[o]?:=by rw[←hK2,Zy2 (Ne.symm R.ow)]
 have k2c:K2[c]?=K[c]?:=by rw[←hK2,Zy2 (Ne.symm c2.2.1)]
 have l2:K2.length=K.length:=by rw[←hK2];simp
 obtain⟨v',X,F,g1,g2,g3,g4⟩:=ZlB K2 [.ref c,.int x,.int a] [Z0 cb,.int x,.int a] (.lst ts) _ (by lia) (.cons (Zcx (k2c.trans c1)) (.cons (.int x) (.one (.int a)))) e3
 obtain⟨gn,gl⟩:=g4 rfl
 cases g2 with
 | @ref b' vs' _ F' gb grs=>
 obtain⟨rfl,rfl,_⟩:=Ze2 e5 grs
 have hb':=gl b' List.mem_cons_self
 have lb':=lt_of_at gb
 generalize hK3:(K2++X).set o [vp,vw,.ref kk,.int s.n,.ref w,Z2 (cf,q,l) b']=K3
 have kp:∀a,a<K.length→a≠o→a≠w→K3[a]?=K[a]?:=fun a la ha hw=>by
  rw[←hK3,Zy2 (Ne.symm ha),Zy0 (show a<K2.length by lia),←hK2,Zy2 (Ne.symm hw)]
 have k3w:K3[w]?=some us:=by
  rw[←hK3,List.getElem?_set_ne R.ow,Zy0 (show w<K2.length by lia),←hK2,Zy6 lw]
 refine⟨K3,?_,R.mk' (b':=b') kp ?_ ⟨us,k3w,?_⟩ ?_ (by lia) ?_⟩
 ·unfold Zf3 ZhT ZH
  simp only[List.length_singleton,if_true]
  have i0:∀(x y z:V) H,Zf (.tup [x,y,z]) (.int 0) H=some (x,H):=fun _ _ _ _=>rfl
  have i2:∀(x y z:V) H,Zf (.tup [x,y,z]) (.int 2) H=some (z,H):=fun _ _ _ _=>rfl
  have i1:∀(x y z:V) H,Zf (.tup [x,y,z]) (.int 1) H=some (y,H):=fun _ _ _ _=>rfl
  have j0:∀(x y:V) H,Zf (.tup [x,y]) (.int 0) H=some (x,H):=fun _ _ _=>rfl
  have j1:∀(x y:V) H,Zf (.tup [x,y]) (.int 1) H=some (y,H):=fun _ _ _=>rfl
  have a1:∀(x y:V) (ys:List V) H,Zf (.tup (x::y::ys)) (.int 1) H=some (y,H):=fun x y ys H=>by
   have:seqIndex? 1 (ys.length+1+1)=some 1:=by unfold seqIndex?;simp;lia
   simp[Zf,this]
  rw[Zae (ρ1:=upd (fun i=>[V.obj Runner_c o][i]?) 1 (.int a)) (H1:=K) (by simp[Zw,Zc,ZM,Z9,Za,ho,Zd,Z2,i2,an])]
  rw[Zae (ρ1:=upd (upd (fun i=>[V.obj Runner_c o][i]?) 1 (.int a)) 2 (.tup [Z2 (cf,cp,cb) c,V.tup [vh,V.tup (vw0::V.int x::vrest),V.int q]])) (H1:=K2) (by simp[Zw,ZjO,ZM,Z9,Za,upd,ho,ZjN,w1,R.w0,hK2])]
  rw[Zae (ρ1:=upd (upd (upd (fun i=>[V.obj Runner_c o][i]?) 1 (.int a)) 2 (.tup [Z2 (cf,cp,cb) c,V.tup [vh,V.tup (vw0::V.int x::vrest),V.int q]])) 3 (Z2 (cf,cp,cb) c)) (H1:=K2) (by simp[Zw,Zc,Za,upd,Zd,j0])]
  rw[Zae (ρ1:=upd (upd (upd (upd (fun i=>[V.obj Runner_c o][i]?) 1 (.int a)) 2 (.tup [Z2 (cf,cp,cb) c,V.tup [vh,V.tup (vw0::V.int x::vrest),V.int q]])) 3 (Z2 (cf,cp,cb) c)) 4 (V.tup [vh,V.tup (vw0::V.int x::vrest),V.int q])) (H1:=K2) (by simp[Zw,Zc,Za,upd,Zd,j1])]
  have kxo:(K2++X)[o]?=some [vp,vw,.ref kk,.int s.n,.ref w,Z2 s.m b]:=by rw[Zy0 (show o<K2.length by lia),k2o,ho]
  have e0:ZaS Runner_c 5 (.obj Runner_c o) (.tup [.int cf,.int q,.ref b']) (K2++X)=some K3:=by
   simp[ZaS,R.o0,kxo,Z2,←hK3]
  simp[ZaC,Z8,Zb,Ze,Zc,Za,upd,Zd,Z2,i0,i2,i1,a1,Zh,g1,Zac,e0]
 ·rw[←hK3,Zy6 (by rw[List.length_append];lia)]
 ·exact w4.keep fun a p l=>kp a l p.1 p.2.1
 ·rw[←hK3,Zy2 (by lia)]
  exact gb
 ·rw[←hK3];simp;lia
end
end L
open PySem PM TM
namespace L
section
variable {K:Hp} {o w b m0:Nat} {vp vw:V} {kk:Nat} {tp tw:T} {ks:List Int} {s:RS}
theorem i30(x y z:V)(H:Hp): Zf (.tup [x,y,z]) (.int 0) H=some (x,H):=rfl
theorem i31(x y z:V)(H:Hp): Zf (.tup [x,y,z]) (.int 1) H=some (y,H):=rfl
theorem i32(x y z:V)(H:Hp): Zf (.tup [x,y,z]) (.int 2) H=some (z,H):=rfl
theorem i42(x y z u:V)(H:Hp): Zf (.tup [x,y,z,u]) (.int 2) H=some (z,H):=rfl
theorem i43(x y z u:V)(H:Hp): Zf (.tup [x,y,z,u]) (.int 3) H=some (u,H):=rfl
theorem ia0(x:V)(xs:List V)(H:Hp): Zf (.tup (x::xs)) (.int 0) H=some (x,H):=by
 have:seqIndex? 0 (xs.length+1)=some 0:=by unfold seqIndex?;simp
 simp[Zf,this]
noncomputable def Zfq: Ex:=Zh Zeg (Zb (Za 100) (Zb (Zc Zf (ZM (Z9 (Runner_c) 5) (Za 0)) (Zd 2)) Ze))
theorem Zj9{ρ:Lc}{d:Nat}{vs:List V}{P:Nat→Prop}(h0:ρ 0=some (.obj Runner_c o))(ho:K[o]?=some [vp,vw,.ref kk,.int s.n,.ref w,Z2 s.m b])(hb:K[b]?=some (s.m.2.2.map V.int))(hd:K[d]?=some vs)(hp:0<K.length): ∀(ts:List T) (i:Nat) (acc gv:List Int) (X:Hp),(∀(j:Nat) t,ts[j]?=some t→∃v,vs[i+j]?=some v∧RFo K v t P)→vs.length=i+ts.length→Zem s.m.2.2 ts=some gv→acc.length+ts.length<ZX→∃Y,ZaF (Zad d) (ZQ 100) ZZ Zfq ρ (ts.length+1) i (acc.map V.int) (K++X)=some ((acc++gv).map V.int,K++Y)
 | [],i,acc,gv,X,hr,hl,e,hc=>by
  cases e
  have hn:vs[i]?=none:=Zy8 (by simp at hl;lia)
  refine⟨X,?_⟩
  have hd':(K++X)[d]?=some vs:=by rw[Zy0 (lt_of_at hd)];exact hd
  simp[ZaF,Zad,hd',hn]
 | one::ts,i,acc,gv,X,hr,hl,e,hc=>by
  obtain⟨k,e1,e⟩:=Zz0.mp e
  obtain⟨gv',e2,e3⟩:=Zz1.mp e
  subst e3
  obtain⟨t,e4,e5⟩:=Zz0.mp e1
  have et:t=.int k:=by
   cases t <;> simp[unI]at e5
   rw[e5]
  subst et
  obtain⟨v,v1,F1,v2,v3⟩:=hr 0 one rfl
  rw[Nat.add_zero]at v1
  have hd':(K++X)[d]?=some vs:=by rw[Zy0 (lt_of_at hd)];exact hd
  have hb':(K++X)[b]?=some (s.m.2.2.map V.int):=by rw[Zy0 (lt_of_at hb)];exact hb
  have ho':(K++X)[o]?=some [vp,vw,.ref kk,.int s.n,.ref w,Z2 s.m b]:=by rw[Zy0 (lt_of_at ho)];exact ho
  obtain⟨u,Z,F,g1,g2,_⟩:=Zi3 (K++X) [v,.ref b] [one,Z0 s.m.2.2] (.int k) _ (by rw[List.length_append];lia) (.cons (v2.ext X) (.one (Zcx hb'))) e4
  cases g2
  obtain⟨Y,y1⟩:=Zj9 h0 ho hb hd hp ts (i+1) (acc++[k]) gv' (X++Z) (fun j t e=>by
   have:=hr (j+1) t (by simpa using e)
   rw[show i+(j+1)=i+1+j by lia]at this
   exact this) (by rw[hl];simp;lia) e2 (by simp at hc ⊢;lia)
  refine⟨Y,?_⟩
  have g3:Zfq (upd ρ 100 v) (K++X)=some (.int k,K++(X++Z)):=by
   rw[List.append_assoc]at g1
   simp only[Z2]at ho'
   simp[Zfq,Zh,Zb,Ze,Za,upd,h0,Zc,ZM,Z9,ho',Zd,i32]
   exact g1
  have hc':acc.length<ZX:=by simp at hc;lia
  rw[List.length_cons]
  have y1':ZaF (Zad d) (ZQ 100) ZZ Zfq ρ (ts.length+1) (i+1) (acc.map V.int++[V.int k]) (K++(X++Z))=some ((acc++k::gv').map V.int,K++Y):=by
   have:(acc++[k]).map V.int=acc.map V.int++[V.int k]:=by simp
   rw[←this,y1]
   simp
  show((Zad d i (K++X)).bind _)=_
  have hx:Zad d i (K++X)=some (some v):=by simp[Zad,hd',v1]
  rw[hx]
  simp only[Zs0,ZQ,ZZ,if_true,g3,List.length_map,hc']
  exact y1'
theorem Zka{t:T}{m:Mo}(e:Zhc t=some m): ∃ts,t=.tup [.int m.1,.int m.2.1,.lst ts]∧Zbr ts=some m.2.2:=by
 unfold Zhc at e
 split at e
 case h_2=>first|exact Zx0 e|cases e
 obtain⟨l,e1,e2⟩:=Zz1.mp e
 subst e2
 exact⟨_,rfl,e1⟩
theorem Zk7{v:V}{m:Mo}{ts:List T}{F:List Nat}(r:RF K v (.tup [.int m.1,.int m.2.1,.lst ts]) F)(e:Zbr ts=some m.2.2): ∃b',v=Z2 m b'∧K[b']?=some (m.2.2.map V.int)∧F=[b']:=by
 cases r with
 | tup hs=>
  cases hs with
  | cons a hs=>
   cases a
   cases hs with
   | cons a hs=>
    cases a
    cases hs with
    | cons a hs=>
     cases hs
     cases a with
     | ref e1 hs=>
      obtain⟨rfl,rfl,_⟩:=Ze2 e hs
      exact⟨_,rfl,e1,by simp⟩
theorem Zne{s':RS}{vrow:V}{row:T}(R:Rn K o w b m0 vp vw kk tp tw ks s)(r:RFo K vrow row (Off o w m0))(e:ZgT tp s row=some s'): ∃K',Zf6 [.obj Runner_c o,vrow] K=some (.none,K')∧ZfP K K' o w m0 vp vw kk tp tw ks s':=by
 have rr:=r
 unfold ZgT at e
 split at e
 case isFalse=>first|exact Zx0 e|cases e
 rename_i hlw
 split at e
 case h_2=>first|exact Zx0 e|cases e
 rename_i th tw0 tx g sums tq
 split at e
 case isFalse=>first|exact Zx0 e|cases e
 rename_i hls
 obtain⟨gv,e1,e⟩:=Zz0.mp e
 obtain⟨m,e2,e⟩:=Zz1.mp e
 subst e
 obtain⟨t,e2,e3⟩:=Zz0.mp e2
 obtain⟨ts,rfl,e4⟩:=Zka e3
 obtain⟨vs3,rfl,d1⟩:=r.tup
 obtain⟨vh,_,rfl,_,d1⟩:=ZT d1
 obtain⟨va,_,rfl,d2,d1⟩:=ZT d1
 obtain⟨vq,_,rfl,d3,d1⟩:=ZT d1
 have:=Zbx d1;subst this
 obtain⟨vas,rfl,d4⟩:=d2.tup
 obtain⟨v1,_,rfl,_,d4⟩:=ZT d4
 obtain⟨v2,_,rfl,_,d4⟩:=ZT d4
 obtain⟨v3,_,rfl,d5,d4⟩:=ZT d4
 obtain⟨v4,_,rfl,d6,d4⟩:=ZT d4
 have:=Zbx d4;subst this
 have:=d5.int;subst this
 obtain⟨d,vs,rfl,hd,_,rs⟩:=d6.lst
 obtain⟨ws,w1,w2⟩:=R.hw
 have ho:=R.ho
 have hb:=R.hb
 have lo:=lt_of_at R.ho
 have lw:=lt_of_at w1
 have lvs:vs.length=sums.length:=by obtain⟨F,r,_⟩:=rs;exact r.length
 obtain⟨Y,gl⟩:=Zj9 (ρ:=upd (fun i=>[V.obj Runner_c o,V.tup [vh,V.tup [v1,v2,V.int g,V.ref d],vq]][i]?) 2 (V.tup [v1,v2,V.int g,V.ref d])) (d:=d) (vs:=vs) (P:=Off o w m0) (by simp[upd]) ho hb hd (by lia) sums 0 [] gv [] (fun j t e=>by rw[Nat.zero_add];exact Zds rs e) (by lia) e1 (by rw[Zac];simp;lia)
 simp only[List.map_nil,List.append_nil,List.nil_append]at gl
 generalize hK3:K++Y++[gv.map V.int]=K3
 have l3:K3.length=K.length+Y.length+1:=by rw[←hK3];simp;lia
 have k3:∀a,a<K.length→K3[a]?=K[a]?:=fun a l=>by
  rw[←hK3,List.append_assoc,Zy0 l]
 have k3g:K3[(K++Y).length]?=some (gv.map V.int):=by rw[←hK3];simp
 generalize hK4:K3.set w (ws++[.tup [Z2 s.m b,V.tup [vh,V.tup [v1,v2,V.int g,V.ref d],vq]]])=K4
 have l4:K4.length=K3.length:=by rw[←hK4];simp
 have lg:(K++Y).length<K3.length:=lt_of_at k3g
 have lky:(K++Y).length=K.length+Y.length:=by simp
 have k4:∀a,a<K3.length→a≠w→K4[a]?=K3[a]?:=fun a l h=>by rw[←hK4,Zy2 (Ne.symm h)]
 have k4w:K4[w]?=some (ws++[.tup [Z2 s.m b,V.tup [vh,V.tup [v1,v2,V.int g,V.ref d],vq]]]):=by rw[←hK4,Zy6 (by lia)]
 have kp4:∀a,Off o w m0 a→a<K.length→K4[a]?=K[a]?:=fun a p l=>(k4 a (by lia) p.2.1).trans (k3 a l)
 obtain⟨Fp,rp,_⟩:=R.rp.keep kp4
 obtain⟨v',X,F,g1,g2,g3,g4⟩:=Zj0 K4 [vp,.int g,.ref (K++Y).length] [tp,.int g,Z0 gv] _ _ (by(first | lia | omega)) (.cons rp (.cons (.int g) (.one (Zcx ((k4 _ lg (by(first | lia | omega))).trans k3g))))) e2
 obtain⟨b',rfl,gb,rfl⟩:=Zk7 (m:=m) g2 e4
 have hb':=(g4 rfl).2 b' List.mem_cons_self
 have lb':=lt_of_at gb
 generalize hK5:(K4++X).set o [vp,vw,.ref kk,.int s.n,.ref w,Z2 m b']=K5
 have l5:K5.length=K4.length+X.length:=by rw[←hK5];simp
 have kp:∀a,a<K.length→a≠o→a≠w→K5[a]?=K[a]?:=fun a la ha hw=>by
  rw[←hK5,Zy2 (Ne.symm ha),Zy0 (show a<K4.length by lia),k4 a (by lia) hw,k3 a la]
 have k5w:K5[w]?=K4[w]?:=by
  rw[←hK5,List.getElem?_set_ne R.ow,Zy0 (show w<K4.length by lia)]
 have kpo:∀a,Off o w m0 a→a<K.length→K5[a]?=K[a]?:=fun a p l=>kp a l p.1 p.2.1
 refine⟨K5,?_,R.mk' (b':=b') kp ?_ ⟨_,k5w.trans k4w,?_⟩ ?_ (by lia) (by lia)⟩
 ·unfold Zf6 ZhW ZH
  simp only[List.length_cons,List.length_nil,if_true]
  rw[Zae (ρ1:=upd (fun i=>[V.obj Runner_c o,V.tup [vh,V.tup [v1,v2,V.int g,V.ref d],vq]][i]?) 2 (V.tup [v1,v2,V.int g,V.ref d])) (H1:=K) (by simp[Zw,Zc,Za,Zd,i31])]
  rw[Zae (ρ1:=upd (upd (fun i=>[V.obj Runner_c o,V.tup [vh,V.tup [v1,v2,V.int g,V.ref d],vq]][i]?) 2 (V.tup [v1,v2,V.int g,V.ref d])) 3 (.ref (K++Y).length)) (H1:=K3) (by
   have gl':=gl
   rw[←lvs]at gl'
   simp only[Zfq]at gl'
   simp only[Zw,Zam,Zar,Zc,Za,upd,if_true,Zs1,Zs0,Zd,i43,hd]
   rw[gl']
   simp[←hK3])]
  have h3o:K3[o]?=some [vp,vw,.ref kk,.int s.n,.ref w,Z2 s.m b]:=(k3 o lo).trans ho
  have h3w:K3[w]?=some ws:=(k3 w lw).trans w1
  have lws:ws.length<100000:=by have:=w2.length;lia
  rw[Zae (ρ1:=upd (upd (fun i=>[V.obj Runner_c o,V.tup [vh,V.tup [v1,v2,V.int g,V.ref d],vq]][i]?) 2 (V.tup [v1,v2,V.int g,V.ref d])) 3 (.ref (K++Y).length)) (H1:=K4) (by
   simp[ZC,ZaD,ZM,Z9,Za,upd,h3o,Z8,Zb,Ze,Zcf,h3w,R.w0,Zac,lws,hK4])]
  have h4o:K4[o]?=some [vp,vw,.ref kk,.int s.n,.ref w,Z2 s.m b]:=(k4 o (by lia) R.ow).trans h3o
  have kxo:(K4++X)[o]?=some [vp,vw,.ref kk,.int s.n,.ref w,Z2 s.m b]:=by rw[Zy0 (show o<K4.length by lia),h4o]
  have e0:ZaS Runner_c 5 (.obj Runner_c o) (Z2 m b') (K4++X)=some K5:=by
   simp[ZaS,R.o0,kxo,←hK5]
  have u1:ZM (Z9 Runner_c 0) (Za 0) (upd (upd (fun i=>[V.obj Runner_c o,V.tup [vh,V.tup [v1,v2,V.int g,V.ref d],vq]][i]?) 2 (V.tup [v1,v2,V.int g,V.ref d])) 3 (.ref (K++Y).length)) K4=some (vp,K4):=by
   simp[ZM,Z9,Za,upd,h4o]
  simp only[ZaC,Zh,Zb,Ze,u1,Zs0,Zc,Za,upd,Zd,i42]
  simp only[if_true,if_false,Zs1,Zs0,i42,g1,show(2=3)=False from by simp,show(0=3)=False from by simp,show(0=2)=False from by simp,List.getElem?_cons_zero,e0]
  rfl
 ·rw[←hK5,Zy6 (by rw[List.length_append];lia)]
 ·refine .snoc (w2.keep kpo) ⟨b,_,rfl,(kpo b R.bo (lt_of_at hb)).trans hb,R.bo,?_⟩
  exact rr.keep kpo
 ·rw[←hK5,Zy2 (by lia)]
  exact gb
end
end L
open PySem PM TM
namespace L
variable {n:Nat} {a b:Int} {t:T}
section
variable {K:Hp} {o w b m0:Nat} {vp vw:V} {kk:Nat} {tp tw:T} {ks:List Int} {s:RS}
theorem Zn3{wd:Str}{as:List V}(R:Rn K o w b m0 vp vw kk tp tw ks s)(hwd:PyData.strOk wd=true): ∃K',ZfW [.obj Runner_c o,.tup (.str wd::as)] K=some (.int (ZaP ks s.n wd).2,K')∧K'.length=K.length∧K'[o]?=some [vp,vw,.ref kk,.int (ZaP ks s.n wd).1,.ref w,Z2 s.m b]∧∀a,a≠o→K'[a]?=K[a]?:=by
 have hn:=Zql hwd (show PyData.strOk (Str.ofString "any")=true by decide +kernel) K
 unfold ZfW Zhr ZH ZaP
 simp only[List.length_cons,List.length_nil,if_true]
 by_cases c:wd=Str.ofString "any"
 ·rw[decide_eq_true c]at hn
  generalize hK1:K.set o [vp,vw,.ref kk,.int (s.n+1:Nat),.ref w,Z2 s.m b]=K1
  have lo:=lt_of_at R.ho
  have h1o:K1[o]?=some [vp,vw,.ref kk,.int (s.n+1:Nat),.ref w,Z2 s.m b]:=by rw[←hK1,Zy6 lo]
  have h1k:K1[kk]?=some (ks.map V.int):=by rw[←hK1,Zy2 (Ne.symm R.ko.1)];exact R.rk
  refine⟨K1,?_,by rw[←hK1];simp,by simp[c,h1o],fun a h=>by rw[←hK1,Zy2 (Ne.symm h)]⟩
  rw[Zae (ρ1:=(fun i=>[V.obj Runner_c o,V.tup (V.str wd::as)][i]?)) (H1:=K) (by simp[Zz,Zs,Zc,Za,Zd,ia0,ZG,hn,Zak,ZL])]
  rw[Zae (ρ1:=(fun i=>[V.obj Runner_c o,V.tup (V.str wd::as)][i]?)) (H1:=K1) (by
   have e0:ZaS Runner_c 3 (.obj Runner_c o) (.int ((s.n:Int)+1)) K=some K1:=by
    simp[ZaS,R.o0,R.ho,←hK1]
   simp[ZaC,Zc,ZM,Z9,Za,R.ho,Zd,e0])]
  have lk:Z3 [.ref kk] K1=some (.int ks.length,K1):=by simp[Z3,h1k]
  by_cases c2:ks.length<s.n+1
  ·have hg:ks.getD s.n 0=0:=by
    rw[List.getD_eq_getElem?_getD,Zy8 (by lia)];rfl
   have c3:((ks.length:Int)<(s.n:Int)+1):=by lia
   simp[Zm,Zz,Zs,Zc,ZM,Z9,Za,h1o,Zh,Zb,Ze,lk,Zak,c3,Zy,Zd,c]
   rw[Zy8 (by omega)]
   rfl
  ·have c3:¬((ks.length:Int)<(s.n:Int)+1):=by lia
   have hx:Zf (.ref kk) (.int ((s.n:Int)+1-1)) K1=some (.int (ks.getD s.n 0),K1):=by
    have:seqIndex? ((s.n:Int)+1-1) ks.length=some s.n:=by unfold seqIndex?;simp;lia
    simp only[Zf,h1k,Zs0,List.length_map,this]
    rw[List.getElem?_map,Zy1 (by lia),List.getD_eq_getElem?_getD,Zy1 (by omega)]
    rfl
   simp only[Zm,Zz,Zs,Zc,ZM,Z9,Za,List.getElem?_cons_zero,Zs1,Zs0,if_true,h1o,Zh,Zb,Ze,List.getElem?_cons_succ]
   simp[lk,Zak,c3,ZL,Zy,Za,Zd,h1o,ZM,Zc,Z9,hx,c]
   simp only[Int.add_sub_cancel]at hx
   rw[hx]
   simp
 ·rw[decide_eq_false c]at hn
  refine⟨K,?_,rfl,by simp[c,R.ho],fun _ _=>rfl⟩
  simp[Zm,Zz,Zs,Zc,Za,Zd,ia0,ZG,hn,Zak,Zy,c]
noncomputable def Zfr: Sm:=Zm (Zw 5 (Zh Zfo (Zb (Zc Zf (Za 3) (Zd 2)) (Zb (Zc Zf (Za 4) (Zd 1)) (Zb (Za 2) Ze))))) (Zz (Zs (Zc ZdX (Za 5) (ZaT))) (ZaC (Runner_c) 5 (Z8 (Zb (Zc Zf (Za 3) (Zd 0)) (Zb (Zc Zf (Za 4) (Zd 2)) (Zb (Za 5) Ze)))) (Za 0)) ZL)
noncomputable def AlI(K:Hp)(o w:Nat)(vp vw:V)(kk n b:Nat)(s:RS)(acc:Option Mo)(K1:Hp): Prop:=K.length≤K1.length∧(∀a,a<K.length→a≠o→K1[a]?=K[a]?)∧match acc with
 | none=>K1[o]?=some [vp,vw,.ref kk,.int n,.ref w,Z2 s.m b]
 | some m=>∃b',K.length≤b'∧K1[o]?=some [vp,vw,.ref kk,.int n,.ref w,Z2 m b']∧K1[b']?=some (m.2.2.map V.int)
theorem AlI.at{acc:Option Mo}{K1:Hp}(h:AlI K o w vp vw kk n b s acc K1): ∃x,K1[o]?=some [vp,vw,.ref kk,.int n,.ref w,x]:=by
 obtain⟨_,_,h⟩:=h
 cases acc with
 | none=>exact⟨_,h⟩
 | some m=>obtain⟨b',_,h,_⟩:=h;exact⟨_,h⟩
theorem Zkb{P:Nat→Prop}(hPo:∀a,P a→a≠o)(o0:o≠0){n r:Nat}{pick:Int}{vs:List V}(lo:o<K.length)(hr:K[r]?=some vs)(ro:r≠o)(hb:K[b]?=some (s.m.2.2.map V.int))(bo:b≠o): ∀(ts:List T) (i:Nat) (acc fin:Option Mo) (K1:Hp) (ρ:Lc),(∀(j:Nat) t,ts[j]?=some t→∃v,vs[i+j]?=some v∧RFo K v t P)→vs.length=i+ts.length→ρ 0=some (.obj Runner_c o)→ρ 2=some (.int pick)→ρ 3=some (Z2 s.m b)→AlI K o w vp vw kk n b s acc K1→Zen s.m.2.2 s.m.1 pick ts acc=some fin→∃ρ' K',Za3 (Zad r) (ZQ 4) Zfr (ts.length+1) i ρ K1=some (none,ρ',K')∧AlI K o w vp vw kk n b s fin K'
 | [],i,acc,fin,K1,ρ,hv,hl,h0,h2,h3,A,e=>by
  cases e
  have hn:vs[i]?=none:=Zy8 (by simp at hl;lia)
  have hr':K1[r]?=some vs:=(A.2.1 r (lt_of_at hr) ro).trans hr
  exact⟨ρ,K1,by simp[Za3,Zad,hr',hn],A⟩
 | t::ts,i,acc,fin,K1,ρ,hv,hl,h0,h2,h3,A,e=>by
  obtain⟨⟨act,q⟩,e0,e9⟩:=Zz0.mp e
  obtain⟨dn,e1,e2⟩:=Zz0.mp e9
  obtain⟨th,rfl⟩:=Znb e0
  obtain⟨dt,e3,e4⟩:=Zz0.mp e1
  obtain⟨v,v1,v2⟩:=hv 0 _ rfl
  rw[Nat.add_zero]at v1
  have v2':=v2
  obtain⟨vs3,rfl,d1⟩:=v2.tup
  obtain⟨vh,_,rfl,_,d1⟩:=ZT d1
  obtain⟨va,_,rfl,d2,d1⟩:=ZT d1
  obtain⟨vq,_,rfl,d3,d1⟩:=ZT d1
  have:=Zbx d1;subst this
  have:=d3.int;subst this
  have kp:∀a,P a→a<K.length→K1[a]?=K[a]?:=fun a p l=>A.2.1 a l (hPo a p)
  obtain⟨Fa,ra,_⟩:=d2.keep kp
  have hr':K1[r]?=some vs:=(A.2.1 r (lt_of_at hr) ro).trans hr
  have hb':K1[b]?=some (s.m.2.2.map V.int):=(A.2.1 b (lt_of_at hb) bo).trans hb
  have l1:=A.1
  obtain⟨u,X,F,g1,g2,g3,g4⟩:=Zqk K1 [.ref b,va,.int pick] [Z0 s.m.2.2,act,.int pick] dt _ (by lia) (.cons (Zcx hb') (.cons ra (.one (.int pick)))) e3
  have st5:∀ρ:Lc,ρ 2=some (.int pick)→ρ 3=some (Z2 s.m b)→Zw 5 (Zh Zfo (Zb (Zc Zf (Za 3) (Zd 2)) (Zb (Zc Zf (Za 4) (Zd 1)) (Zb (Za 2) Ze)))) (upd ρ 4 (V.tup [vh,va,V.int q])) K1=some (none,upd (upd ρ 4 (V.tup [vh,va,V.int q])) 5 u,K1++X):=fun ρ h2 h3=>by
   simp[Zw,Zh,Zb,Ze,Zc,Za,upd,h2,h3,Zd,Z2,i32,i31,g1]
  have nxt:∀j,j≤ts.length→True:=fun _ _=>trivial
  have body:∃K2,Zfr (upd ρ 4 (V.tup [vh,va,V.int q])) K1=some (none,upd (upd ρ 4 (V.tup [vh,va,V.int q])) 5 u,K2)∧AlI K o w vp vw kk n b s (Zhj s.m.1 q acc dn) K2:=by
   unfold Zfr
   rw[Zae (st5 ρ h2 h3)]
   obtain⟨A1,A2,A3⟩:=A
   have kx:∀a,a<K1.length→(K1++X)[a]?=K1[a]?:=fun a l=>Zy0 l
   cases dt with
   | none=>
    cases e4
    cases g2
    refine⟨K1++X,by simp[Zz,Zs,Zc,Za,upd,ZaT,Zak,ZL],by simp;lia,fun a l h=>(kx a (by lia)).trans (A2 a l h),?_⟩
    cases acc with
    | none=>exact(kx o (by lia)).trans A3
    | some m=>
     obtain⟨b',y1,y2,y3⟩:=A3
     exact⟨b',y1,(kx o (by lia)).trans y2,(kx b' (lt_of_at y3)).trans y3⟩
   | lst dts=>
    obtain⟨l,e5,e6⟩:=Zz1.mp e4
    subst e6
    obtain⟨gn,gl⟩:=g4 rfl
    cases g2 with
    | @ref b' vs' _ F' gb grs=>
    obtain⟨rfl,rfl,_⟩:=Ze2 e5 grs
    have hb2:=gl b' List.mem_cons_self
    have lb':=lt_of_at gb
    obtain⟨x,ox⟩:=AlI.at (K:=K) (o:=o) (w:=w) (vp:=vp) (vw:=vw) (kk:=kk) (b:=b) (s:=s) ⟨A1,A2,A3⟩
    have kxo:(K1++X)[o]?=some [vp,vw,.ref kk,.int n,.ref w,x]:=(kx o (by lia)).trans ox
    generalize hK2:(K1++X).set o [vp,vw,.ref kk,.int n,.ref w,Z2 (s.m.1,q,l) b']=K2
    have e0:ZaS Runner_c 5 (.obj Runner_c o) (.tup [.int s.m.1,.int q,.ref b']) (K1++X)=some K2:=by
     simp[ZaS,o0,kxo,Z2,←hK2]
    refine⟨K2,?_,by rw[←hK2];simp;lia,fun a l h=>by rw[←hK2,Zy2 (Ne.symm h)];exact(kx a (by lia)).trans (A2 a l h),b',by lia,by rw[←hK2,Zy6 (by rw[List.length_append];lia)],by rw[←hK2,Zy2 (by lia)];exact gb⟩
    simp[Zz,Zs,Zc,Za,upd,ZaT,Zak,ZaC,Z8,Zb,Ze,h3,Z2,Zd,i30,i32,Zac,h0,e0]
   | bool _=>first|exact Zx0 e4|cases e4
   | int _=>first|exact Zx0 e4|cases e4
   | str _=>first|exact Zx0 e4|cases e4
   | tup _=>first|exact Zx0 e4|cases e4
   | ob _ _=>first|exact Zx0 e4|cases e4
  obtain⟨K2,b1,b2⟩:=body
  obtain⟨ρ',K',c1,c2⟩:=Zkb hPo o0 lo hr ro hb bo ts (i+1) _ fin K2 (upd (upd ρ 4 (V.tup [vh,va,V.int q])) 5 u) (fun j t e=>by
   have:=hv (j+1) t (by simpa using e)
   rw[show i+(j+1)=i+1+j by lia]at this
   exact this) (by rw[hl];simp;lia) (by simp[upd,h0]) (by simp[upd,h2]) (by simp[upd,h3]) b2 e2
  refine⟨ρ',K',?_,c2⟩
  rw[List.length_cons]
  show((Zad r i K1).bind _)=_
  have hx:Zad r i K1=some (some (V.tup [vh,va,V.int q])):=by simp[Zad,hr',v1]
  rw[hx]
  simp only[Zs0,ZQ,b1]
  exact c1
theorem Znf{vrows:V}{wd:Str}{th tq:T}{tas rs:List T}{m:Mo}(R:Rn K o w b m0 vp vw kk tp tw ks s)(hwd:PyData.strOk wd=true)(r:RFo K vrows (.lst (.tup [th,.tup (.str wd::tas),tq]::rs)) (Off o w m0))(e:Zen s.m.2.2 s.m.1 (ZaP ks s.n wd).2 (.tup [th,.tup (.str wd::tas),tq]::rs) none=some (some m)): ∃K',ZfX [.obj Runner_c o,vrows] K=some (.none,K')∧ZfP K K' o w m0 vp vw kk tp tw ks ⟨(ZaP ks s.n wd).1,s.wt,m⟩:=by
 obtain⟨rr,vs,rfl,hr,hro,rs'⟩:=r.lst
 obtain⟨v0,h0,r0⟩:=Zds rs' (j:=0) rfl
 obtain⟨vs3,rfl,d1⟩:=r0.tup
 obtain⟨vh,_,rfl,_,d1⟩:=ZT d1
 obtain⟨va,_,rfl,d2,d1⟩:=ZT d1
 obtain⟨vq,_,rfl,d3,d1⟩:=ZT d1
 have:=Zbx d1;subst this
 obtain⟨vas,rfl,d4⟩:=d2.tup
 obtain⟨vw0,vas,rfl,d5,_⟩:=ZT d4
 have:=d5.str;subst this
 obtain⟨K1,p1,p2,p3,p4⟩:=Zn3 (as:=vas) R hwd
 have lo:=lt_of_at R.ho
 have kp:∀a,Off o w m0 a→a<K.length→K1[a]?=K[a]?:=fun a p l=>p4 a p.1
 have hl:vs.length=rs.length+1:=by obtain⟨F,q,_⟩:=rs';have:=q.length;simpa using this
 have hr1:K1[rr]?=some vs:=(p4 rr hro.1).trans hr
 have hb1:K1[b]?=some (s.m.2.2.map V.int):=(p4 b R.bo.1).trans R.hb
 have lp:=Zkb (K:=K1) (o:=o) (w:=w) (b:=b) (vp:=vp) (vw:=vw) (kk:=kk) (s:=s) (P:=Off o w m0) (fun a p=>p.1) R.o0 (n:=(ZaP ks s.n wd).1) (pick:=(ZaP ks s.n wd).2) (by lia) hr1 hro.1 hb1 R.bo.1 (.tup [th,.tup (.str wd::tas),tq]::rs) 0 none (some m) K1 (upd (upd (fun i=>[V.obj Runner_c o,V.ref rr][i]?) 2 (.int (ZaP ks s.n wd).2)) 3 (Z2 s.m b)) (fun j t e=>by
  rw[Nat.zero_add]
  obtain⟨v,z1,z2⟩:=Zds rs' e
  exact⟨v,z1,z2.keep kp⟩) (by simp[hl]) (by simp[upd]) (by simp[upd]) (by simp[upd]) ⟨Zz10 _,fun _ _ _=>rfl,p3⟩ e
 obtain⟨ρ',K',c1,c2,c3,b',c4,c5,c6⟩:=lp
 have lw:w<K.length:=by obtain⟨ws,w1,_⟩:=R.hw;exact lt_of_at w1
 have kq:∀a,a<K.length→a≠o→K'[a]?=K[a]?:=fun a l h=>(c3 a (by lia) h).trans (p4 a h)
 refine⟨K',?_,R.mk' (b':=b') (fun a l h _=>kq a l h) c5 ?_ c6 (by lia) (by lia)⟩
 ·unfold ZfX Zhs ZH
  simp only[List.length_cons,List.length_nil,if_true]
  have ix:Zf (.ref rr) (.int 0) K=some (V.tup [vh,V.tup (V.str wd::vas),vq],K):=by
   have:seqIndex? 0 vs.length=some 0:=by rw[hl];unfold seqIndex?;simp
   simp[Zf,hr,this,h0]
  rw[Zae (ρ1:=upd (fun i=>[V.obj Runner_c o,V.ref rr][i]?) 2 (.int (ZaP ks s.n wd).2)) (H1:=K1) (by
   simp[Zw,Z5,Za,Zbb,Zb,Ze,Zc,Zd,ix,i31,p1])]
  rw[Zae (ρ1:=upd (upd (fun i=>[V.obj Runner_c o,V.ref rr][i]?) 2 (.int (ZaP ks s.n wd).2)) 3 (Z2 s.m b)) (H1:=K1) (by
   simp[Zw,ZM,Z9,Za,upd,p3])]
  have hx:ZaL (Zar (Za 1)) (ZQ 4) Zfr (upd (upd (fun i=>[V.obj Runner_c o,V.ref rr][i]?) 2 (.int (ZaP ks s.n wd).2)) 3 (Z2 s.m b)) K1=some (none,ρ',K'):=by
   have el:vs.length+1=(T.tup [th,.tup (.str wd::tas),tq]::rs).length+1:=by simp[hl]
   have ev:Zar (Za 1) (upd (upd (fun i=>[V.obj Runner_c o,V.ref rr][i]?) 2 (.int (ZaP ks s.n wd).2)) 3 (Z2 s.m b)) K1=some (Zad rr,vs.length+1,K1):=by
    simp[Zar,Za,upd,hr1]
   unfold ZaL
   rw[ev,el]
   exact c1
  unfold Zfr at hx
  rw[hx]
  rfl
 ·obtain⟨ws,w1,w2⟩:=R.hw
  exact⟨ws,(kq w lw (Ne.symm R.ow)).trans w1,w2.keep fun a p l=>kq a l p.1⟩
theorem Zng{s':RS}(R:Rn K o w b m0 vp vw kk tp tw ks s)(e:ZbZ tp tw ks s=some s'): ∃K',ZeP [.obj Runner_c o] K=some (.none,K')∧ZfP K K' o w m0 vp vw kk tp tw ks s':=by
 obtain⟨rows,e1,e⟩:=Zz0.mp e
 obtain⟨v,h1,h2⟩:=ZkG R e1
 have l1:=ZgE h2
 unfold ZeP ZhX ZH
 simp only[List.length_singleton,if_true]
 rw[Zae (ρ1:=upd (fun i=>[V.obj Runner_c o][i]?) 1 v) (H1:=K) (by simp[Zw,Z5,Za,Zbb,Ze,h1])]
 cases rows with
 | nil=>
  obtain⟨K',g1,g2⟩:=Znd R e
  refine⟨K',?_,g2⟩
  simp only[List.length_nil]at l1
  simp[Zz,Zs,Zc,Zh,Zb,Ze,Za,upd,l1,Zd,Zak,ZC,Z5,Zbb,g1]
 | cons row rs=>
  dsimp only at e
  split at e
  case h_2=>first|exact Zx0 e|cases e
  rename_i th wd tas tq
  split at e
  case isFalse=>first|exact Zx0 e|cases e
  rename_i hwd
  have l3:(((T.tup [th,T.tup (T.str wd::tas),tq]::rs).length:Int) == 0)=false:=by simp;lia
  have h3:=h2
  obtain⟨rr,vs,rfl,hr,hro,rs'⟩:=h2.lst
  obtain⟨v0,h0,r0⟩:=Zds rs' (j:=0) rfl
  have r1:=r0
  obtain⟨vs3,rfl,d1⟩:=r0.tup
  obtain⟨vh,_,rfl,_,d1⟩:=ZT d1
  obtain⟨va,_,rfl,d2,d1⟩:=ZT d1
  obtain⟨vq,_,rfl,d3,d1⟩:=ZT d1
  have:=Zbx d1;subst this
  obtain⟨vas,rfl,d4⟩:=d2.tup
  obtain⟨vw0,vas,rfl,d5,_⟩:=ZT d4
  have:=d5.str;subst this
  have hl:vs.length=rs.length+1:=by obtain⟨F,q,_⟩:=rs';have:=q.length;simpa using this
  have ix:Zf (.ref rr) (.int 0) K=some (V.tup [vh,V.tup (V.str wd::vas),vq],K):=by
   have:seqIndex? 0 vs.length=some 0:=by rw[hl];unfold seqIndex?;simp
   simp[Zf,hr,this,h0]
  have hn:=Zjq hwd (show PyData.strOk (Str.ofString "call")=true by decide +kernel) K
  have t1:Zs (Zc ZN (Zh Z3 (Zb (Za 1) Ze)) (Zd 0)) (upd (fun i=>[V.obj Runner_c o][i]?) 1 (.ref rr)) K=some (false,K):=by
   simp only[Zs,Zc,Zh,Zb,Za,upd,if_true,Zs1,Zs0,Ze,l1,Zd,ZlX,l3,Zak]
  have t2:Zs (Zc ZN (Zc Zf (Zc Zf (Zc Zf (Za 1) (Zd 0)) (Zd 1)) (Zd 0)) (ZG (Str.ofString "call"))) (upd (fun i=>[V.obj Runner_c o][i]?) 1 (.ref rr)) K=some (decide (wd=Str.ofString "call"),K):=by
   simp only[Zs,Zc,Za,upd,if_true,Zs1,Zs0,Zd,ix,i31,ia0,ZG,hn,Zak]
  split at e
  ·rename_i hc
   obtain⟨K',g1,g2⟩:=Zne R r1 e
   refine⟨K',?_,g2⟩
   rw[decide_eq_true hc]at t2
   simp only[Zz,t1,t2,Zs0,Bool.false_eq_true,if_false,if_true]
   simp[ZC,Z5,Za,upd,Zbb,Zb,Ze,Zc,Zd,ix,g1]
  ·rename_i hc
   obtain⟨m,e2,rfl⟩:=Zz1.mp e
   obtain⟨om,e3,e4⟩:=Zz0.mp e2
   cases e4
   obtain⟨K',g1,g2⟩:=Znf R hwd h3 e3
   refine⟨K',?_,g2⟩
   rw[decide_eq_false hc]at t2
   simp only[Zz,t1,t2,Zs0,Bool.false_eq_true,if_false,if_true]
   simp[ZC,Z5,Za,upd,Zbb,Zb,Ze,g1]
end
noncomputable def Zet(ns:List Int): T:=.lst (ns.map T.int)
noncomputable def Zcn(ns:List Int): Prop:=PyData.layable0 (.list (ns.map .int))=true
noncomputable def Zaw(ns:List Int)(p:Nat)(r:Int): T:=.lst [Zet ns,.int p,.int r]
theorem Zn4{ns:List Int}: (ns.map T.int).length=ns.length:=by simp
theorem Znh{ns:List Int}(hL:Zcn ns): Cell 0:=by
 have:=cell_at hL (ns.length:Int)
 rw[cellAt_def]at this
 simpa using this
section
variable {Q:T→Prop}
theorem ZqQ(h:Q (.int M5)): Pk (Zcl (.int 48271) (.int 14)) Q:=by
 have:=ZqF []
 simp only[oPow]at this
 split at this
 ·rename_i hc
  refine⟨_,by simp only[Zcl];rw[if_pos hc],?_⟩
  simp only[Option.some.injEq,Prod.mk.injEq,V.int.injEq,and_true]at this
  rw[this];exact h
 ·first|exact Zx0 this|cases this
theorem ZlQ(h:Q (.int T60)): Pk (Zcl (.int 10) (.int 60)) Q:=by
 have:=Zpu []
 simp only[oPow]at this
 split at this
 ·rename_i hc
  refine⟨_,by simp only[Zcl];rw[if_pos hc],?_⟩
  simp only[Option.some.injEq,Prod.mk.injEq,V.int.injEq,and_true]at this
  rw[this];exact h
 ·first|exact Zx0 this|cases this
theorem Zo9(h1:-(2 ^ 64)<b)(h2:b<2 ^ 64)(h:Q (.int (a*b))): Pk (Zcm (.int a) (.int b)) Q:=Zjk (Zm3 h1 h2) h
theorem Zqm{a b:Str}(h:a≠b): T.str a≠T.str b:=fun e=>h (by cases e;rfl)
theorem ZcA{a:Str}(ha:PyData.strOk a=true)(h:Q (.bool true)): Pk (qEq (.str a) (.str a)) Q:=Zlw (n:=1) (m:=1) (.str ha) (.str ha) (by rw[ZlN rfl];exact h)
theorem ZaV{a b:Str}(hab:(PyData.strOk a && PyData.strOk b && decide (a≠b))=true)(h:Q (.bool false)): Pk (qEq (.str a) (.str b)) Q:=by
 simp only[Bool.and_eq_true,decide_eq_true_eq]at hab
 exact Zlw (n:=1) (m:=1) (.str hab.1.1) (.str hab.1.2) (by rw[ZjA (Zqm hab.2)];exact h)
theorem Zcv(h1:0<b)(h2:b<2 ^ 30)(h:Q (.int (a.fdiv b))): Pk (ZbB (.int a) (.int b)) Q:=Zlt (by lia) (PyProof.noPylong_small (by omega)) h
theorem Zi8(h1:-(2 ^ 64)<a)(h2:a<2 ^ 64)(h:Q (.int (a*b))): Pk (Zcm (.int a) (.int b)) Q:=Zjk (ZmF h1 h2) h
end
section
variable {ns:List Int} {p:Nat} {r:Int} {Q:T→List T→Prop}
theorem Zk8(hL:Zcn ns)(h:∀v,Cell v→Q (.int v) [Zaw ns (p+1) r]): Pr (ZeZ [Zaw ns p r]) Q:=by
 unfold ZeZ Zii Zaw Zet
 have hl:(ns.map T.int).length=ns.length:=Zn4
 walk_at "tz"
 refine⟨_,1,rfl,rfl,by decide,(by simp),?_⟩
 show Psx (ZD _ _ (ZI _ 0 (T.lst [T.lst (List.map T.int ns),T.int ((p:Int)+1),T.int r]))) _ _
 walk_at "tz"
 rw[hl]
 refine⟨fun c=>?_,fun c=>?_⟩
 ·walk_at "tz"
  exact h 0 (Znh hL)
 ·have c:=of_decide_eq_false c
  have hp:p<ns.length:=by omega
  walk_at "tz"
  refine Zb4 (t:=.int (cellAt ns p 0)) (by lia) ?_ ?_
  ·rw[show((p:Int)+1-1).toNat=p by lia,List.getElem?_map,Zy1 hp,cellAt_def]
   simp only[Zs1,T.int.injEq,Option.some.injEq]
   rw[List.getD_eq_getElem?_getD,show((p:Int)).toNat=p by lia,Zy1 hp]
   rfl
  walk_at "tz"
  exact h _ (cell_at hL _)
theorem ZcY{m:Int}(hL:Zcn ns)(hm:0<m)(h:∀v,0≤v→v<m→Q (.int v) [Zaw ns (p+1) r]): Pr (Zb2 [Zaw ns p r,.int m]) Q:=by
 unfold Zb2 ZhM
 walk_at "tz"
 refine(Zk8 hL fun v hv=>?_)
 walk_at "tz"
 refine Zo9 (by decide) (by decide) ?_
 walk_at "tz"
 exact h _ (Int.fmod_nonneg_of_pos _ hm) (Int.fmod_lt_of_pos _ hm)
end
inductive Nice: Nat→T→Prop where
 | none {n:Nat}:Nice n .none
 | bool {n:Nat} (b:Bool):Nice n (.bool b)
 | int {n:Nat} (i:Int):Nice n (.int i)
 | str {n:Nat} {s:Str}:PyData.strOk s=true→Nice n (.str s)
 | tup {n:Nat} {ts:List T}:ts.length≤1000→(∀t∈ts,Nice n t)→Nice (n+1) (.tup ts)
 | lst {n:Nat} {ts:List T}:ts.length≤1000→(∀t∈ts,Nice n t)→Nice (n+1) (.lst ts)
theorem Nice.mono{m:Nat}(h:Nice n t)(k:n≤m): Nice m t:=by
 induction h generalizing m with
 | none=>exact .none
 | bool b=>exact .bool b
 | int i=>exact .int i
 | str h=>exact .str h
 | tup h1 h2 ih=>
  match m,k with
  | m+1,k=>exact .tup h1 fun t ht=>ih t ht (by lia)
 | lst h1 h2 ih=>
  match m,k with
  | m+1,k=>exact .lst h1 fun t ht=>ih t ht (by omega)
theorem Zkl{f:Nat→T}(h:t∈tab n f): ∃i,i<n∧f i=t:=by
 simp only[tab,List.mem_map,List.mem_range]at h
 obtain⟨i,a,b⟩:=h
 exact⟨i,a,b⟩
theorem nl0: ∀t∈([]:List T),Nice n t:=fun t h=>(List.not_mem_nil h).elim
theorem nlc{ts:List T}(h:Nice n t)(k:∀t∈ts,Nice n t): ∀u∈t::ts,Nice n u:=fun u m=>by
 rcases Zz7.mp m with rfl | m
 ·exact h
 ·exact k u m
section
variable {ns:List Int} {p:Nat} {r:Int} {Q:T→List T→Prop}
end
noncomputable def iF: Str:=Str.ofString "if"
noncomputable def wH: Str:=Str.ofString "while"
noncomputable def Zdj(t:T): Prop:=Nice 3 t∧∃w rest,t=.tup (.str w::rest)∧(PyData.strOk w && PyData.strOk iF && decide (w≠iF))=true∧(PyData.strOk w && PyData.strOk wH && decide (w≠wH))=true
section
variable {ns:List Int} {p:Nat} {r:Int} {Q:T→List T→Prop}
end
noncomputable def ifT(c:T)(a b:List T): T:=.tup [.str iF,c,.lst a,.lst b]
noncomputable def whT(c:T)(a:List T): T:=.tup [.str wH,c,.lst a]
inductive Bs(S:Nat→T→Prop): Nat→List T→Prop where
 | nil:Bs S 0 []
 | cons {k m:Nat} {t:T} {ts:List T}:S k t→Bs S m ts→Bs S (k+m) (t::ts)
noncomputable def St: Nat→Nat→T→Prop
 | 0=>fun k t=>k=1∧Zdj t
 | n+1=>fun k t=>(k=1∧Zdj t)∨(∃c a b ka kb,t=ifT c a b∧Nice 2 c∧Bs (St n) ka a∧Bs (St n) kb b∧a.length≤4∧b.length≤4∧k=ka+kb+1)∨(∃c a ka,t=whT c a∧Nice 2 c∧Bs (St n) ka a∧a.length≤4∧k=ka+1)
theorem St.plain(h:Zdj t): St n 1 t:=by
 cases n with
 | zero=>exact⟨rfl,h⟩
 | succ n=>exact .inl ⟨rfl,h⟩
section
variable {ns:List Int} {p:Nat} {r:Int} {Q:T→List T→Prop}
end
theorem Zgh{σ:TL}{j:Nat}{F:List T→Option T}{g:PE}{ts:List T}{Q:T→Prop}(hg:Zb1 g σ=some ts)(hl:ts.length≤1000)(h:∀t∈ts,F [t]=some t)(q:Q (.lst ts)): Pk (Zbz (Zb1 g) (ZaG j) Zbk (ZV F (Zj (Zg j) Zu)) σ) Q:=by
 refine⟨.lst ts,?_,q⟩
 have:=Zis (σ:=σ) (j:=j) (f:=ZV F (Zj (Zg j) Zu)) (h:=fun t=>t) (ts:=ts) fun t m=>by
  simp only[ZV,Zj,Zg,Zu,Zit,Zs0,Zs1]
  exact h t m
 simp only[Zbz,hg,Zs0,this]
 rw[if_pos (by rw[Zac];lia)]
 simp
theorem ZmN(h:Nice n t): ZdR (n+1) [t]=some t:=by
 induction h with
 | none=>rfl
 | bool b=>rfl
 | int i=>rfl
 | str h=>rfl
 | @tup n ts hl hs ih=>
  apply Pk.eq
  show Pk (Za0 1 (Zeh (ZdR (n+1))) [.tup ts]) _
  unfold Zeh
  walk_at "z"
  refine Zgh (ts:=ts) rfl hl ih ?_
  walk_at "z"
  rfl
 | @lst n ts hl hs ih=>
  apply Pk.eq
  show Pk (Za0 1 (Zeh (ZdR (n+1))) [.lst ts]) _
  unfold Zeh
  walk_at "z"
  exact Zgh (ts:=ts) rfl hl ih rfl
theorem Zni(h:Nice n t): ZdK (n+1) [t]=some t:=by
 induction h with
 | none=>rfl
 | bool b=>rfl
 | int i=>rfl
 | str h=>rfl
 | @tup n ts hl hs ih=>
  apply Pk.eq
  show Pk (Za0 1 (Zd9 (ZdK (n+1))) [.tup ts]) _
  unfold Zd9
  walk_at "z"
  refine Zgh (ts:=ts) rfl hl ih ?_
  walk_at "z"
  rfl
 | @lst n ts hl hs ih=>
  apply Pk.eq
  show Pk (Za0 1 (Zd9 (ZdK (n+1))) [.lst ts]) _
  unfold Zd9
  walk_at "z"
  exact Zgh (ts:=ts) rfl hl ih rfl
theorem Zkc(h:Nice 23 t): Zi7 [t]=some t:=ZmN h
theorem Znj(h:Nice 23 t): Zf2 [t]=some t:=Zni h
theorem eqB_bool(a b:Bool): Zcc (.bool a) (.bool b)=some (a == b):=by
 cases a <;> cases b <;> decide +kernel
noncomputable def goT: T:=.tup [.str (Str.ofString "go")]
noncomputable def ZaA(c:T)(b:Bool): T:=.tup [.str (Str.ofString "when"),c,.bool b]
noncomputable def rowT(a:Int)(t:T)(b:Int): T:=.tup [.int a,t,.int b]
inductive LyB(L:T→Int→List T→Int→Prop): List T→Int→List T→Int→Prop where
 | nil {u:Int}:LyB L [] u [] u
 | cons {t:T} {ts:List T} {u e e':Int} {r r':List T}:L t u r e→LyB L ts e r' e'→LyB L (t::ts) u (r++r') e'
noncomputable def LyS: Nat→T→Int→List T→Int→Prop
 | 0=>fun t u r e=>Zdj t∧r=[rowT u t (u+1)]∧e=u+1
 | n+1=>fun t u r e=>(Zdj t∧r=[rowT u t (u+1)]∧e=u+1) ∨
   (∃c a b ra ea rb eb,t=ifT c a b∧Nice 2 c∧LyB (LyS n) a (u+1) ra ea∧LyB (LyS n) b (ea+1) rb eb∧r=rowT u (ZaA c true) (u+1)::(ra++rowT u (ZaA c false) (ea+1)::(rb++[rowT ea goT (eb+1),rowT eb goT (eb+1)]))∧e=eb+1) ∨
   (∃c a ra ea,t=whT c a∧Nice 2 c∧LyB (LyS n) a (u+2) ra ea∧r=rowT u goT (u+1)::rowT (u+1) (ZaA c true) (u+2)::(ra++[rowT ea goT (u+1),rowT (u+1) (ZaA c false) (ea+1)])∧e=ea+1)
section
variable {Q:T→List T→Prop}
theorem Zpa{c:T}{b:Bool}(h:Nice 2 c): Zio [c,.bool b]=some (ZaA c b):=by
 apply Pk.eq
 unfold Zio Zin
 walk_at "z"
 refine Pk.of (Zkc (h.mono (by decide))) ?_
 walk_at "z"
 rfl
end
end L
open PySem PM TM
namespace L
variable {K:Hp} {a r ts:List T} {c t:T} {e h:Int} {C:List V→Hp→Option (V×Hp)}
theorem ZcK{a:Nat}{x:List V}(e:K[a]?=some x): a<K.length:=(Zz6.mp e).1
structure Ly(K:Hp)(o R L0:Nat)(rows:List T)(u:Int): Prop where
 ho:K[o]?=some [.ref R,.int u]
 hr:∃vs F,K[R]?=some vs∧RFs K vs rows F∧∀a∈F,L0≤a∧a≠o∧a≠R
 lo:L0≤o
 lR:L0≤R
 oR:o≠R
 l0:0<L0
noncomputable def Kl(K K':Hp)(o R:Nat): Prop:=(∀a,a<K.length→a≠o→a≠R→K'[a]?=K[a]?)∧K.length≤K'.length
section
variable {K K' K'':Hp} {o R L0:Nat} {rows:List T} {u:Int}
theorem Kl.trans(a:Kl K K' o R)(b:Kl K' K'' o R): Kl K K'' o R:=⟨fun i l h1 h2=>(b.1 i (Nat.lt_of_lt_of_le l a.2) h1 h2).trans (a.1 i l h1 h2),Nat.le_trans a.2 b.2⟩
theorem Kl.ext(X:Hp): Kl K (K++X) o R:=⟨fun i l _ _=>Zy0 l,by simp⟩
theorem Ly.ext(G:Ly K o R L0 rows u)(X:Hp): Ly (K++X) o R L0 rows u:=by
 obtain⟨vs,F,h1,h2,h3⟩:=G.hr
 exact⟨(Zy0 (ZcK G.ho)).trans G.ho,⟨vs,F,(Zy0 (ZcK h1)).trans h1,h2.ext X,h3⟩,G.lo,G.lR,G.oR,G.l0⟩
theorem RFo.kl{v:V}(r:RFo K v t (· < L0))(k:Kl K K' o R)(lo:L0≤o)(lR:L0≤R): RFo K' v t (· < L0):=r.keep fun a p l=>k.1 a l (by lia) (by lia)
theorem ZiG{b:Int}{va:V}{act:T}{Fa:List Nat}(G:Ly K o R L0 rows u)(ra:RF K va act Fa)(fa:∀a∈Fa,L0≤a∧a≠o∧a≠R)(hl:rows.length<10000): ∃K',Zec [.obj Layer_c o,.int h,va,.int b] K=some (.none,K')∧Ly K' o R L0 (rows++[rowT h act b]) u∧Kl K K' o R:=by
 obtain⟨vs,F,h1,h2,h3⟩:=G.hr
 have lR:=ZcK h1
 generalize hK:K.set R (vs++[.tup [.int h,va,.int b]])=K2
 have k2:∀a,a≠R→K2[a]?=K[a]?:=fun a h=>by rw[←hK,Zy2 (Ne.symm h)]
 have q1:RF K2 (.tup [.int h,va,.int b]) (rowT h act b) Fa:=by
  have:=RFs.cons (RF.int (H:=K2) h) (RFs.cons (ra.frame fun a m=>k2 a (fa a m).2.2) (RFs.one (RF.int (H:=K2) b)))
  exact .tup (by simpa using this)
 refine⟨K2,?_,⟨(k2 o G.oR).trans G.ho,⟨_,F++Fa,by rw[←hK,Zy6 lR],(h2.frame fun a m=>k2 a (h3 a m).2.2).append (.one q1),fun a m=>(Zz8.mp m).elim (h3 a) (fa a)⟩,G.lo,G.lR,G.oR,G.l0⟩,fun a _ _ h=>k2 a h,by rw[←hK];simp⟩
 have R0:R≠0:=by have:=G.lR;have:=G.l0;lia
 have lv:vs.length<100000:=by rw[h2.length];lia
 unfold Zec Zh9 ZH
 simp[ZC,ZaD,ZM,Z9,Za,G.ho,Z8,Zb,Ze,Zcf,h1,R0,lv,Zac,hK]
theorem Zgn{va:V}{act:T}{Fa:List Nat}(G:Ly K o R L0 rows u)(ra:RF K va act Fa)(fa:∀a∈Fa,L0≤a∧a≠o∧a≠R)(hl:rows.length<10000): ∃K',Zcp [.obj Layer_c o,.int h,va] K=some (.int (u+1),K')∧Ly K' o R L0 (rows++[rowT h act (u+1)]) (u+1)∧Kl K K' o R:=by
 obtain⟨vs,F,h1,h2,h3⟩:=G.hr
 have lo:=ZcK G.ho
 have o0:o≠0:=by have:=G.lo;have:=G.l0;lia
 generalize hK:K.set o [.ref R,.int (u+1)]=K1
 have k1:∀a,a≠o→K1[a]?=K[a]?:=fun a h=>by rw[←hK,Zy2 (Ne.symm h)]
 have G1:Ly K1 o R L0 rows (u+1):=⟨by rw[←hK,Zy6 lo],⟨vs,F,(k1 R (Ne.symm G.oR)).trans h1,h2.frame fun a m=>k1 a (h3 a m).2.1,h3⟩,G.lo,G.lR,G.oR,G.l0⟩
 obtain⟨K',q1,G',q2⟩:=ZiG (h:=h) (b:=u+1) G1 (ra.frame fun a m=>k1 a (fa a m).2.1) fa hl
 refine⟨K',?_,G',Kl.trans ⟨fun a _ h _=>k1 a h,by rw[←hK];simp⟩ q2⟩
 have fst:ZaC Layer_c 1 (Zc ZE (ZM (Z9 Layer_c 1) (Za 0)) (Zd 1)) (Za 0) (fun i=>[V.obj Layer_c o,.int h,va][i]?) K=some (none,(fun i=>[V.obj Layer_c o,.int h,va][i]?),K1):=by
  simp[ZaC,Zc,ZM,Z9,Za,G.ho,Zd,ZaS,o0,hK]
 unfold Zcp ZhJ ZH
 rw[if_pos (by rfl),Zae fst]
 simp[Zm,ZC,Z5,Za,Zbb,Zb,ZM,Z9,G1.ho,Ze,q1,Zy,G'.ho]
noncomputable def LaS(C:List V→Hp→Option (V×Hp))(o R L0:Nat)(t:T)(r:List T)(u e:Int): Prop:=∀(K:Hp) (rows:List T) (v:V),rows.length+r.length≤9000→Ly K o R L0 rows u→RFo K v t (· < L0)→∃K',C [.obj Layer_c o,v,.int u] K=some (.int e,K')∧Ly K' o R L0 (rows++r) e∧Kl K K' o R
theorem Zgo{vc:V}{b:Bool}(G:Ly K o R L0 rows u)(hc:Nice 2 c)(rc:RFo K vc c (· < L0))(hl:rows.length<10000): ∃va X K',ZdO [vc,.bool b] K=some (va,K++X)∧Zcp [.obj Layer_c o,.int h,va] (K++X)=some (.int (u+1),K')∧Ly K' o R L0 (rows++[rowT h (ZaA c b) (u+1)]) (u+1)∧Kl K K' o R:=by
 obtain⟨Fc,rc,_⟩:=rc
 have lo:=ZcK G.ho
 obtain⟨vs,F,h1,_,_⟩:=G.hr
 have lR:=ZcK h1
 obtain⟨va,X,Fa,g1,g2,g3,g4⟩:=ZmM K [vc,.bool b] [c,.bool b] _ _ (by lia) (.cons rc (.one (.bool b))) (Zpa hc)
 have:=(g4 rfl).2
 obtain⟨K',q1,q2,q3⟩:=Zgn (h:=h) (G.ext X) g2 (fun a m=>by have:=this a m;have:=G.lo;exact⟨by lia,by lia,by lia⟩) hl
 exact⟨va,X,K',g1,q1,q2,(Kl.ext X).trans q3⟩
theorem ZgU: RF K (.tup [.str (Str.ofString "go")]) goT []:=.tup (by simpa using RFs.one (RF.str (H:=K) (Str.ofString "go")))
theorem ZfG{L0 o R:Nat}: ∀a∈([]:List Nat),L0≤a∧a≠o∧a≠R:=fun a m=>(List.not_mem_nil m).elim
theorem Zpb{b ra rb:List T}{ea eb:Int}(hc:Nice 2 c)(ha:LaS C o R L0 (.lst a) ra (u+1) ea)(hb:LaS C o R L0 (.lst b) rb (ea+1) eb): LaS (Zf8 C) o R L0 (ifT c a b) (rowT u (ZaA c true) (u+1)::(ra++rowT u (ZaA c false) (ea+1)::(rb++[rowT ea goT (eb+1),rowT eb goT (eb+1)]))) u (eb+1):=by
 intro K rows v hl G r
 simp only[List.length_cons,List.length_append,List.length_nil]at hl
 obtain⟨vs0,rfl,rs0⟩:=r.tup
 obtain⟨vw,vs1,rfl,d0,rs1⟩:=ZT rs0
 obtain⟨vc,vs2,rfl,dc,rs2⟩:=ZT rs1
 obtain⟨va,vs3,rfl,da,rs3⟩:=ZT rs2
 obtain⟨vb,vs4,rfl,db,rs4⟩:=ZT rs3
 have:=Zbx rs4;subst this
 obtain⟨w1,X1,K1,p1,p2,G1,k1⟩:=Zgo (h:=u) (b:=true) G hc dc (by lia)
 obtain⟨K2,p3,G2,k2⟩:=ha K1 _ va (by simp;lia) G1 (da.kl k1 G.lo G.lR)
 obtain⟨w3,X3,K3,p4,p5,G3,k3⟩:=Zgo (h:=u) (b:=false) G2 hc (dc.kl (k1.trans k2) G.lo G.lR) (by simp;lia)
 obtain⟨K4,p6,G4,k4⟩:=hb K3 _ vb (by simp;lia) G3 (db.kl ((k1.trans k2).trans k3) G.lo G.lR)
 obtain⟨K5,p7,G5,k5⟩:=Zgn (h:=ea) G4 ZgU ZfG (by simp;lia)
 obtain⟨K6,p8,G6,k6⟩:=ZiG (h:=eb) (b:=eb+1) G5 ZgU ZfG (by simp;lia)
 refine⟨K6,?_,by simpa using G6,((((k1.trans k2).trans k3).trans k4).trans k5).trans k6⟩
 unfold Zf8 Zh0 ZH
 have i1:∀H,Zf (.tup [vw,vc,va,vb]) (.int 1) H=some (vc,H):=fun _=>rfl
 have i2:∀H,Zf (.tup [vw,vc,va,vb]) (.int 2) H=some (va,H):=fun _=>rfl
 have i3:∀H,Zf (.tup [vw,vc,va,vb]) (.int 3) H=some (vb,H):=fun _=>rfl
 have ln:(1:Nat)≤ZX:=by rw[Zac];lia
 simp[Zm,Zw,ZC,Zy,Z5,Za,upd,Zbb,Zb,Ze,Zh,Zc,Zd,ZbH,ZG,Z8,i1,i2,i3,p1,p2,p3,p4,p5,p6,p7,p8,ln]
theorem Zpc{ra:List T}{ea:Int}(hc:Nice 2 c)(ha:LaS C o R L0 (.lst a) ra (u+2) ea): LaS (ZfY C) o R L0 (whT c a) (rowT u goT (u+1)::rowT (u+1) (ZaA c true) (u+2)::(ra++[rowT ea goT (u+1),rowT (u+1) (ZaA c false) (ea+1)])) u (ea+1):=by
 intro K rows v hl G r
 simp only[List.length_cons,List.length_append,List.length_nil]at hl
 obtain⟨vs0,rfl,rs0⟩:=r.tup
 obtain⟨vw,vs1,rfl,d0,rs1⟩:=ZT rs0
 obtain⟨vc,vs2,rfl,dc,rs2⟩:=ZT rs1
 obtain⟨va,vs3,rfl,da,rs3⟩:=ZT rs2
 have:=Zbx rs3;subst this
 obtain⟨K1,p1,G1,k1⟩:=Zgn (h:=u) G ZgU ZfG (by lia)
 obtain⟨w2,X2,K2,p2,p3,G2,k2⟩:=Zgo (h:=u+1) (b:=true) G1 hc (dc.kl k1 G.lo G.lR) (by simp;lia)
 rw[show u+1+1=u+2 by lia]at p3 G2
 obtain⟨K3,p4,G3,k3⟩:=ha K2 _ va (by simp;lia) G2 (da.kl (k1.trans k2) G.lo G.lR)
 obtain⟨K4,p5,G4,k4⟩:=ZiG (h:=ea) (b:=u+1) G3 ZgU ZfG (by simp;lia)
 obtain⟨w5,X5,K5,p6,p7,G5,k5⟩:=Zgo (h:=u+1) (b:=false) G4 hc (dc.kl (((k1.trans k2).trans k3).trans k4) G.lo G.lR) (by simp;lia)
 refine⟨K5,?_,by simpa using G5,(((k1.trans k2).trans k3).trans k4).trans k5⟩
 unfold ZfY Zht ZH
 have i1:∀H,Zf (.tup [vw,vc,va]) (.int 1) H=some (vc,H):=fun _=>rfl
 have i2:∀H,Zf (.tup [vw,vc,va]) (.int 2) H=some (va,H):=fun _=>rfl
 have ln:(1:Nat)≤ZX:=by rw[Zac];lia
 simp[Zm,Zw,ZC,Zy,Z5,Za,upd,Zbb,Zb,Ze,Zh,Zc,Zd,ZbH,ZG,Z8,i1,i2,p1,p2,p3,p4,p5,p6,p7,ln]
theorem Ze4{ρ:Lc}{wd w:Str}{as:List V}(h:ρ 1=some (.tup (.str wd::as)))(h1:PyData.strOk wd=true)(h2:PyData.strOk w=true): Zs (Zc ZN (Zc Zf (Za 1) (Zd 0)) (ZG w)) ρ K=some (decide (wd=w),K):=by
 have i0:Zf (.tup (.str wd::as)) (.int 0) K=some (.str wd,K):=by
  have:seqIndex? 0 (as.length+1)=some 0:=by unfold seqIndex?;simp
  simp[Zf,this]
 simp[Zs,Zc,Za,h,Zd,i0,ZG,Zjq h1 h2,Zak]
theorem Zn5{n:Nat}(hC:∀m,m<n→∀ts u r e,LyB (LyS m) ts u r e→LaS C o R L0 (.lst ts) r u e)(h:LyS n t u r e): LaS (Zco C) o R L0 t r u e:=by
 have plain:Zdj t→r=[rowT u t (u+1)]→e=u+1→LaS (Zco C) o R L0 t r u e:=by
  rintro⟨hN,w,rest,rfl,q1,q2⟩ rfl rfl K rows v hl G r
  have rr:=r
  obtain⟨Fr,r0,_⟩:=r
  have lo:=ZcK G.ho
  obtain⟨vs,F,h1,_,_⟩:=G.hr
  have lR:=ZcK h1
  obtain⟨va,X,Fa,g1,g2,g3,g4⟩:=Zk6 K [v] [_] _ _ (by lia) (.one r0) (Zkc (hN.mono (by decide)))
  have nw:=(g4 rfl).2
  obtain⟨K',p1,G',k'⟩:=Zgn (h:=u) (G.ext X) g2 (fun a m=>by have:=nw a m;have:=G.lo;exact⟨by lia,by lia,by lia⟩) (by simp at hl;lia)
  refine⟨K',?_,G',(Kl.ext X).trans k'⟩
  obtain⟨vs0,rfl,rs0⟩:=rr.tup
  obtain⟨vw,vs1,rfl,d0,rs1⟩:=ZT rs0
  have:=d0.str;subst this
  simp only[Bool.and_eq_true,decide_eq_true_eq]at q1 q2
  have t1:=Ze4 (K:=K) (ρ:=fun i=>[V.obj Layer_c o,.tup (.str w::vs1),.int u][i]?) (w:=Str.ofString "if") rfl q1.1.1 (by decide +kernel)
  have t2:=Ze4 (K:=K) (ρ:=fun i=>[V.obj Layer_c o,.tup (.str w::vs1),.int u][i]?) (w:=Str.ofString "while") rfl q1.1.1 (by decide +kernel)
  rw[decide_eq_false (show w≠Str.ofString "if" from q1.2)]at t1
  rw[decide_eq_false (show w≠Str.ofString "while" from q2.2)]at t2
  unfold Zco ZeD ZH
  simp only[List.length_cons,List.length_nil,if_true,Zm,Zz,t1,t2,Zs0,Bool.false_eq_true,if_false,ZL]
  simp[Zy,Z5,Za,Zbb,Zb,Ze,Zh,g1,p1]
 match n,h with
 | 0,h=>exact plain h.1 h.2.1 h.2.2
 | n+1,h=>
  rcases h with⟨h1,h2,h3⟩ | ⟨c,a,b,ra,ea,rb,eb,rfl,hc,ha,hb,rfl,rfl⟩ | ⟨c,a,ra,ea,rfl,hc,ha,rfl,rfl⟩
  ·exact plain h1 h2 h3
  ·intro K rows v hl G r
   obtain⟨K',p1,G',k'⟩:=Zpb hc (hC n (by lia) _ _ _ _ ha) (hC n (by omega) _ _ _ _ hb) K rows v hl G r
   refine⟨K',?_,G',k'⟩
   obtain⟨vs0,rfl,rs0⟩:=r.tup
   obtain⟨vw,vs1,rfl,d0,rs1⟩:=ZT rs0
   have:=d0.str;subst this
   have t1:=Ze4 (K:=K) (ρ:=fun i=>[V.obj Layer_c o,.tup (.str iF::vs1),.int u][i]?) (wd:=iF) (w:=Str.ofString "if") rfl (by decide +kernel) (by decide +kernel)
   rw[decide_eq_true (show iF=Str.ofString "if" from rfl)]at t1
   unfold Zco ZeD ZH
   simp only[List.length_cons,List.length_nil,if_true,Zm,Zz,t1,Zs0]
   simp[Zy,Z5,Za,Zbb,Zb,Ze,p1]
  ·intro K rows v hl G r
   obtain⟨K',p1,G',k'⟩:=Zpc hc (hC n (by lia) _ _ _ _ ha) K rows v hl G r
   refine⟨K',?_,G',k'⟩
   obtain⟨vs0,rfl,rs0⟩:=r.tup
   obtain⟨vw,vs1,rfl,d0,rs1⟩:=ZT rs0
   have:=d0.str;subst this
   have t1:=Ze4 (K:=K) (ρ:=fun i=>[V.obj Layer_c o,.tup (.str wH::vs1),.int u][i]?) (wd:=wH) (w:=Str.ofString "if") rfl (by decide +kernel) (by decide +kernel)
   rw[decide_eq_false (by decide +kernel)]at t1
   have t2:=Ze4 (K:=K) (ρ:=fun i=>[V.obj Layer_c o,.tup (.str wH::vs1),.int u][i]?) (wd:=wH) (w:=Str.ofString "while") rfl (by decide +kernel) (by decide +kernel)
   rw[decide_eq_true (show wH=Str.ofString "while" from rfl)]at t2
   unfold Zco ZeD ZH
   simp only[List.length_cons,List.length_nil,if_true,Zm,Zz,t1,t2,Zs0,Bool.false_eq_true,if_false,ZL]
   simp[Zy,Z5,Za,Zbb,Zb,Ze,p1]
theorem Zkd{C:List V→Hp→Option (V×Hp)}{n pb:Nat}{vs:List V}(hS:∀t u r e,LyS n t u r e→LaS (Zco C) o R L0 t r u e)(hpb:pb<L0){e:Int}: ∀(ts:List T) (i:Nat) (u:Int) (r rows:List T) (K:Hp) (ρ:Lc),LyB (LyS n) ts u r e→rows.length+r.length≤9000→vs.length=i+ts.length→K[pb]?=some vs→(∀(j:Nat) t,ts[j]?=some t→∃v,vs[i+j]?=some v∧RFo K v t (· < L0))→Ly K o R L0 rows u→ρ 0=some (.obj Layer_c o)→ρ 3=some (.int u)→∃K' ρ',Za3 (Zad pb) (ZQ 4) (Zw 3 (Z5 (Layer_c) (Zco C) (Za 0) (Zb (Za 4) (Zb (Za 3) Ze)))) (ts.length+1) i ρ K=some (none,ρ',K')∧ρ' 3=some (.int e)∧Ly K' o R L0 (rows++r) e∧Kl K K' o R
 | [],i,u,r,rows,K,ρ,h,hl,hv,hp,hx,G,r0,r3=>by
  cases h
  have hn:vs[i]?=none:=Zy8 (by simp at hv;lia)
  exact⟨K,ρ,by simp[Za3,Zad,hp,hn],r3,by simpa using G,fun _ _ _ _=>rfl,Nat.le_refl _⟩
 | t::ts,i,u,r,rows,K,ρ,h,hl,hv,hp,hx,G,r0,r3=>by
  cases h with
  | @cons _ _ _ e1 _ ra rb hs hb=>
   simp only[List.length_append]at hl
   obtain⟨v,v1,v2⟩:=hx 0 t rfl
   rw[Nat.add_zero]at v1
   obtain⟨K1,p1,G1,k1⟩:=hS _ _ _ _ hs K rows v (by lia) G v2
   have hpl:=ZcK hp
   have hp1:K1[pb]?=some vs:=(k1.1 pb hpl (by have:=G.lo;lia) (by have:=G.lR;omega)).trans hp
   obtain⟨K',ρ',q1,q2,q3,q4⟩:=Zkd hS hpb ts (i+1) e1 rb (rows++ra) K1 (upd (upd ρ 4 v) 3 (.int e1)) hb (by simp;lia) (by rw[hv];simp;lia) hp1 (fun j t' e'=>by
    obtain⟨w,w1,w2⟩:=hx (j+1) t' (by simpa using e')
    exact⟨w,by rw[show i+1+j=i+(j+1)by lia];exact w1,w2.kl k1 G.lo G.lR⟩) G1 (by simp[upd,r0]) (by simp[upd])
   refine⟨K',ρ',?_,q2,by simpa using q3,k1.trans q4⟩
   rw[List.length_cons]
   show((Zad pb i K).bind _)=_
   have hx:Zad pb i K=some (some v):=by simp[Zad,hp,v1]
   rw[hx]
   have bb:Zw 3 (Z5 (Layer_c) (Zco C) (Za 0) (Zb (Za 4) (Zb (Za 3) Ze))) (upd ρ 4 v) K=some (none,upd (upd ρ 4 v) 3 (.int e1),K1):=by
    simp[Zw,Z5,Za,upd,r0,r3,Zbb,Zb,Ze,p1]
   simp only[Zs0,ZQ,bb]
   exact q1
theorem Zkm: ∀(N n:Nat),n<N→∀ts u r e,LyB (LyS n) ts u r e→LaS (Zdk N) o R L0 (.lst ts) r u e
 | 0,n,h,ts,u,r,e,hb=>absurd h (by lia)
 | N+1,n,h,ts,u,r,e,hb=>by
  intro K rows v hl G rv
  obtain⟨pb,vs,rfl,hp,pl,rs⟩:=rv.lst
  have hlv:vs.length=ts.length:=by obtain⟨F,r,_⟩:=rs;exact r.length
  obtain⟨K',ρ',q1,q2,q3,q4⟩:=Zkd (C:=Zdk N) (vs:=vs) (fun t u r e hs=>Zn5 (fun m hm ts u r e hb=>Zkm N m (by lia) ts u r e hb) hs) pl ts 0 u r rows K (upd (fun i=>[V.obj Layer_c o,.ref pb,.int u][i]?) 3 (.int u)) hb hl (by lia) hp (fun j t e=>by rw[Nat.zero_add];exact Zds rs e) G (by simp[upd]) (by simp[upd])
  refine⟨K',?_,q3,q4⟩
  show((ZfZ (Zdk N) (fun i=>[V.obj Layer_c o,.ref pb,.int u][i]?) K).map _)=_
  unfold ZfZ
  rw[Zae (ρ1:=upd (fun i=>[V.obj Layer_c o,.ref pb,.int u][i]?) 3 (.int u)) (H1:=K) (by simp[Zw,Za])]
  have ev:Zar (Za 1) (upd (fun i=>[V.obj Layer_c o,.ref pb,.int u][i]?) 3 (.int u)) K=some (Zad pb,vs.length+1,K):=by simp[Zar,Za,upd,hp]
  have s2:ZaL (Zar (Za 1)) (ZQ 4) (Zw 3 (Z5 (Layer_c) (Zco (Zdk N)) (Za 0) (Zb (Za 4) (Zb (Za 3) Ze)))) (upd (fun i=>[V.obj Layer_c o,.ref pb,.int u][i]?) 3 (.int u)) K=some (none,ρ',K'):=by
   unfold ZaL
   rw[ev,hlv]
   exact q1
  rw[Zae s2]
  simp[Zy,Za,q2]
end
open Classical in
noncomputable def Zeu: T→Option T
 | .lst ts=>if h:∃r,∃e,LyB (LyS 8) ts 0 r e∧r.length≤9000 then some (.lst (choose h))else none
 | _=>none
theorem Znk{v:V}{rs:T}{F:List Nat}(hp:0<K.length)(r:RF K v t F)(e:Zeu t=some rs): ∃v' X F',Ze0 [v] K=some (v',K++X)∧RF (K++X) v' rs F'∧∀a∈F',K.length≤a:=by
 unfold Zeu at e
 split at e
 case h_2=>first|exact Zx0 e|cases e
 rename_i ts
 split at e
 case isFalse=>first|exact Zx0 e|cases e
 rename_i hx
 cases e
 obtain⟨e,h1,h2⟩:=Classical.choose_spec hx
 generalize Classical.choose hx=rows at *
 generalize hK1:K++[[.ref (K.length+1),.int 0],[]]=K1
 have l1:K1.length=K.length+2:=by rw[←hK1];simp
 have k1:∀a,a<K.length→K1[a]?=K[a]?:=fun a l=>by rw[←hK1,Zy0 l]
 have G:Ly K1 K.length (K.length+1) K.length [] 0:=by
  refine⟨?_,⟨[],[],?_,.nil,ZfG⟩,Nat.le_refl _,by lia,by lia,hp⟩
  ·rw[←hK1,Zy5 (by lia),show K.length-K.length=0 by lia];rfl
  ·rw[←hK1,Zy5 (by omega),show K.length+1-K.length=1 by lia];rfl
 have rv:RFo K1 v (.lst ts) (· < K.length):=⟨F,r.frame fun a m=>k1 a (r.lt a m),r.lt⟩
 obtain⟨K',p1,G',k'⟩:=Zkm 9 8 (by lia) ts 0 rows e h1 K1 [] v (by simpa using h2) G rv
 obtain⟨vs,F',q1,q2,q3⟩:=G'.hr
 have keep:∀a,a<K.length→K'[a]?=K[a]?:=fun a l=>(k'.1 a (by lia) (by lia) (by lia)).trans (k1 a l)
 have lK:K.length≤K'.length:=by have:=k'.2;lia
 have eK:K'=K++K'.drop K.length:=by
  apply List.ext_getElem?
  intro i
  by_cases c:i<K.length
  ·rw[Zy0 c,keep i c]
  ·rw[Zy5 (by lia),List.getElem?_drop];congr 1;lia
 refine⟨.ref (K.length+1),K'.drop K.length,(K.length+1)::F',?_,?_,fun a m=>?_⟩
 ·rw[←eK]
  unfold Ze0 Ziw ZH
  simp only[List.length_singleton,if_true]
  have n1:ZcO Layer_c Zf7 Ze (fun i=>[v][i]?) K=some (.obj Layer_c K.length,K1):=by
   unfold ZcO Zf7 ZhZ ZH
   have hc:Layer_c.2.length=2:=rfl
   have K0:K.length≠0:=by lia
   generalize hA:K++[[],[]]=A
   have a0:A[K.length]?=some []:=by rw[←hA,Zy5 (by lia),show K.length-K.length=0 by lia];rfl
   have lA:K.length<A.length:=ZcK a0
   have b0:(A.set K.length [.ref (K.length+1)])[K.length]?=some [.ref (K.length+1)]:=by rw[Zy6 lA]
   have e1:(A.set K.length [.ref (K.length+1)]).set K.length [.ref (K.length+1),.int 0]=K1:=by rw[←hK1,←hA];simp
   have n0:ZU Ze (fun i=>[V.obj Layer_c K.length][i]?) (K++[[]])=some (.ref (K.length+1),A):=by
    simp[ZU,Ze,←hA]
   have s0:ZaC Layer_c 0 (ZU Ze) (Za 0) (fun i=>[V.obj Layer_c K.length][i]?) (K++[[]])=some (none,(fun i=>[V.obj Layer_c K.length][i]?),A.set K.length [.ref (K.length+1)]):=by
    simp only[ZaC,n0,Zs0,Za,List.getElem?_cons_zero,Zs1,ZaS,a0]
    simp[K0,hc]
   have s1:ZaC Layer_c 1 (Zd 0) (Za 0) (fun i=>[V.obj Layer_c K.length][i]?) (A.set K.length [.ref (K.length+1)])=some (none,(fun i=>[V.obj Layer_c K.length][i]?),K1):=by
    simp only[ZaC,Zd,Zs0,Za,List.getElem?_cons_zero,Zs1,ZaS,b0]
    simp only[List.cons_append,List.nil_append,List.length_singleton,e1]
    simp[K0,hc]
   simp only[Ze,Zs0,List.length_singleton,if_true]
   rw[Zae s0,s1]
   rfl
  rw[Zae (ρ1:=upd (fun i=>[v][i]?) 1 (.obj Layer_c K.length)) (H1:=K1) (by simp[Zw,n1])]
  have p1':Zhx [.obj Layer_c K.length,v,.int 0] K1=some (.int e,K'):=p1
  simp[Zm,ZC,Z5,Za,upd,Zbb,Zb,Ze,Zd,p1',Zy,ZM,Z9,G'.ho]
 ·rw[←eK]
  exact .ref q1 (by simpa using q2)
 ·rcases Zz7.mp m with rfl | m
  ·lia
  ·exact(q3 a m).1
theorem ZgF{L:T→Int→List T→Int→Prop}(hL:∀t u r e r' e',L t u r e→L t u r' e'→r=r'∧e=e'){u:Int}(h:LyB L ts u r e): ∀{r':List T} {e':Int},LyB L ts u r' e'→r=r'∧e=e':=by
 induction h with
 | nil=>intro r' e' k;cases k;exact⟨rfl,rfl⟩
 | cons a _ ih=>
  intro r' e' k
  cases k with
  | cons a' k=>
   obtain⟨rfl,rfl⟩:=hL _ _ _ _ _ _ a a'
   obtain⟨rfl,rfl⟩:=ih k
   exact⟨rfl,rfl⟩
theorem ZlC{b:List T}(h:Zdj (ifT c a b)): False:=by
 obtain⟨_,w,rest,e,q,_⟩:=h
 cases e
 exact absurd q (by decide +kernel)
theorem ZlD(h:Zdj (whT c a)): False:=by
 obtain⟨_,w,rest,e,_,q⟩:=h
 cases e
 exact absurd q (by decide +kernel)
theorem ZgG: ∀(n:Nat) (t:T) (u:Int) (r:List T) (e:Int) (r':List T) (e':Int),LyS n t u r e→LyS n t u r' e'→r=r'∧e=e'
 | 0,t,u,r,e,r',e',h,k=>by
  obtain⟨_,rfl,rfl⟩:=h
  obtain⟨_,rfl,rfl⟩:=k
  exact⟨rfl,rfl⟩
 | n+1,t,u,r,e,r',e',h,k=>by
  rcases h with⟨hp,rfl,rfl⟩ | ⟨c,a,b,ra,ea,rb,eb,rfl,hc,ha,hb,rfl,rfl⟩ | ⟨c,a,ra,ea,rfl,hc,ha,rfl,rfl⟩
  ·rcases k with⟨_,rfl,rfl⟩ | ⟨c,a,b,ra,ea,rb,eb,rfl,_⟩ | ⟨c,a,ra,ea,rfl,_⟩
   ·exact⟨rfl,rfl⟩
   ·exact(ZlC hp).elim
   ·exact(ZlD hp).elim
  ·rcases k with⟨hp,_⟩ | ⟨c',a',b',ra',ea',rb',eb',et,_,ha',hb',rfl,rfl⟩ | ⟨c',a',ra',ea',et,_⟩
   ·exact(ZlC hp).elim
   ·first|exact Zx0 et|cases et
    obtain⟨rfl,rfl⟩:=ZgF (ZgG n) ha ha'
    obtain⟨rfl,rfl⟩:=ZgF (ZgG n) hb hb'
    exact⟨rfl,rfl⟩
   ·first|exact Zx0 et|cases et
  ·rcases k with⟨hp,_⟩ | ⟨c',a',b',ra',ea',rb',eb',et,_⟩ | ⟨c',a',ra',ea',et,_,ha',rfl,rfl⟩
   ·exact(ZlD hp).elim
   ·first|exact Zx0 et|cases et
   ·first|exact Zx0 et|cases et
    obtain⟨rfl,rfl⟩:=ZgF (ZgG n) ha ha'
    exact⟨rfl,rfl⟩
theorem ZgH{L L':T→Int→List T→Int→Prop}(hL:∀t u r e,L t u r e→L' t u r e){u:Int}(h:LyB L ts u r e): LyB L' ts u r e:=by
 induction h with
 | nil=>exact .nil
 | cons a _ ih=>exact .cons (hL _ _ _ _ a) ih
theorem Zdt: ∀(n:Nat) (t:T) (u:Int) (r:List T) (e:Int),LyS n t u r e→LyS (n+1) t u r e
 | 0,t,u,r,e,h=>.inl h
 | n+1,t,u,r,e,h=>by
  rcases h with h | ⟨c,a,b,ra,ea,rb,eb,h1,hc,ha,hb,h2⟩ | ⟨c,a,ra,ea,h1,hc,ha,h2⟩
  ·exact .inl h
  ·exact .inr (.inl ⟨c,a,b,ra,ea,rb,eb,h1,hc,ZgH (Zdt n) ha,ZgH (Zdt n) hb,h2⟩)
  ·exact .inr (.inr ⟨c,a,ra,ea,h1,hc,ZgH (Zdt n) ha,h2⟩)
theorem Zn6(h:LyB (LyS 3) ts 0 r e)(hl:r.length≤9000): Zeu (.lst ts)=some (.lst r):=by
 have h8:LyB (LyS 8) ts 0 r e:=ZgH (fun t u r e h=>Zdt 7 _ _ _ _ (Zdt 6 _ _ _ _ (Zdt 5 _ _ _ _ (Zdt 4 _ _ _ _ (Zdt 3 _ _ _ _ h))))) h
 have hx:∃r,∃e,LyB (LyS 8) ts 0 r e∧r.length≤9000:=⟨r,e,h8,hl⟩
 unfold Zeu
 simp only
 rw[dif_pos hx]
 obtain⟨e',k,_⟩:=Classical.choose_spec hx
 rw[(ZgF (ZgG 8) k h8).1]
end L
open PySem PM TM
namespace L
variable {K:Hp} {F:List Nat}
theorem Zqn{b:Int}{H:Hp}(hb:0≤b)(hb9:b≤90000): Zbw 0 b 1 H=some (Zb3 0 1 b.toNat,b.toNat+1,H):=by
 unfold Zbw rngN
 rw[Zg2 hb,if_pos]
 refine⟨by decide,?_,hb,by rw[Zac];lia,?_⟩
 ·unfold Builtin.Range.small
  rw[Zg2 hb]
  simp only[Builtin.Range.rangeFitsLong,Bool.and_eq_true,Bool.or_eq_true,decide_eq_true_eq,beq_iff_eq]
  rw[if_pos (by decide)]
  simp only[Bool.and_eq_true,decide_eq_true_eq]
  by_cases h:(0:Int)<b
  ·refine⟨⟨⟨⟨?_,?_⟩,?_⟩,?_⟩,Or.inr ?_⟩ <;> (first | lia | omega)
  ·refine⟨⟨⟨⟨?_,?_⟩,?_⟩,?_⟩,?_⟩ <;> first | (first | lia | omega) | (left;omega)
 ·exact PyProof.noPylong_small (by lia)
theorem Zk9{a b:Sm}{ρ ρ1:Lc}{H H1:Hp}(h:a ρ H=some (none,ρ1,H1)): Zm a b ρ H=b ρ1 H1:=by simp[Zm,h]
noncomputable def src(q:Int): T→Bool
 | .tup (.int a::_)=>a == q
 | _=>false
noncomputable def Za4(q:Int): V→Bool
 | .tup (.int a::_)=>a == q
 | _=>false
noncomputable def ZjF(n:Nat): T→Bool
 | .tup (.int a::_)=>decide (0≤a∧a<n)
 | _=>false
noncomputable def byP(n:Nat)(rows:List T): T:=.lst ((List.range n).map fun(p:Nat)=>.lst (rows.filter (src p)))
noncomputable def Zff: T→Option T
 | .lst rows=>match Zgb [.lst rows]with
  | some (.int e)=>if 0≤e∧e≤80000∧rows.length≤10000∧rows.all (ZjF (e.toNat+1))=true then some (byP (e.toNat+1) rows)else none
  | _=>none
 | _=>none
theorem Zpd{v:V}{t:T}{q:Int}(r:RF K v t F): Za4 q v=src q t:=by
 cases r with
 | tup hs=>
  cases hs with
  | nil=>rfl
  | cons a b=>cases a <;> rfl
 | _=>rfl
theorem ZkH{K:Hp}{q:Int}: ∀{vs:List V} {ts:List T} {F:List Nat},RFs K vs ts F→∃G,RFs K (vs.filter (Za4 q)) (ts.filter (src q)) G∧∀a∈G,a∈F
 | _,_,_,.nil=>⟨[],.nil,fun a m=>m⟩
 | _,_,_,.cons (v:=v) (t:=t) a r=>by
  obtain⟨G,h1,h2⟩:=ZkH (q:=q) r
  have e:=Zpd (q:=q) a
  by_cases c:src q t=true
  ·rw[List.filter_cons_of_pos (by rw[e];exact c),List.filter_cons_of_pos c]
   exact⟨_,.cons a h1,fun x m=>(Zz8.mp m).elim (fun m=>Zy7 _ m) (fun m=>List.mem_append_right _ (h2 x m))⟩
  ·rw[List.filter_cons_of_neg (by rw[e];exact c),List.filter_cons_of_neg c]
   exact⟨G,h1,fun x m=>List.mem_append_right _ (h2 x m)⟩
theorem Zla{ρ:Lc}{n:Nat}: ∀(m i:Nat) (acc:List V) (H:Hp),i+m=n→acc.length+m<ZX→ZaF (Zb3 0 1 n) (ZQ 100) ZZ (ZU Ze) ρ (m+1) i acc H=some (acc++(List.range m).map (fun j=>V.ref (H.length+j)),H++List.replicate m [])
 | 0,i,acc,H,h,hl=>by
  have:¬i<n:=by lia
  simp[ZaF,Zb3,this]
 | m+1,i,acc,H,h,hl=>by
  have c:i<n:=by lia
  have ih:=Zla (ρ:=ρ) (n:=n) m (i+1) (acc++[V.ref H.length]) (H++[[]]) (by lia) (by simp;lia)
  have hl':acc.length<ZX:=by lia
  show((Zb3 0 1 n i H).bind _)=_
  simp only[Zb3,if_pos c,Zs0,ZQ,ZZ,if_true,ZU,Ze,List.length_nil,Nat.zero_le,hl']
  rw[ih,List.range_succ_eq_map]
  simp[List.replicate_succ,Function.comp_def]
  intro a _
  lia
theorem Zlb{B R n:Nat}{K:Hp}{vrows:List V}{bs:List Nat}(hB:∀p,p<n→bs[p]?=some (K.length+p))(hbl:bs.length=n)(hR:R<K.length)(hK:K[R]?=some vrows)(hB':B=K.length+n)(hp:0<K.length)(hlen:vrows.length≤10000): ∀(ws us:List V) (i:Nat) (ρ:Lc),vrows=us++ws→us.length=i→ρ 1=some (.ref B)→(∀w∈ws,∃a rest,w=.tup (.int a::rest)∧0≤a∧a<n)→∃ρ',Za3 (Zad R) (ZQ 2) (ZC (ZaD (Zc Zf (Za 1) (Zc Zf (Za 2) (Zd 0))) (Za 2))) (ws.length+1) i ρ (K++((List.range n).map fun(p:Nat)=>us.filter (Za4 p))++[bs.map V.ref])=some (none,ρ',K++((List.range n).map fun(p:Nat)=>vrows.filter (Za4 p))++[bs.map V.ref])∧ρ' 1=some (.ref B)
 | [],us,i,ρ,hv,hu,r1,hw=>by
  subst hv
  have e1:(K++((List.range n).map fun(p:Nat)=>us.filter (Za4 p))++[bs.map V.ref])[R]?=some (us++[]):=by
   rw[List.append_assoc,Zy0 hR];exact hK
  refine⟨ρ,?_,r1⟩
  have:(us++([]:List V))[i]?=none:=Zy8 (by simp;lia)
  simp only[List.length_nil,Za3,Zad,e1,Zs1,this,Zs0]
  simp
 | w::ws,us,i,ρ,hv,hu,r1,hw=>by
  obtain⟨a,rest,rfl,a0,an⟩:=hw w Zz5
  obtain⟨ρ',h1,h2⟩:=Zlb hB hbl hR hK hB' hp hlen ws (us++[V.tup (.int a::rest)]) (i+1) (upd ρ 2 (V.tup (.int a::rest))) (by rw[hv];simp) (by simp[hu]) (by simp[upd,r1]) (fun w m=>hw w (Zz2 _ m))
  refine⟨ρ',?_,h2⟩
  generalize hH:K++((List.range n).map fun(p:Nat)=>us.filter (Za4 p))++[bs.map V.ref]=H
  have e1:H[R]?=some vrows:=by rw[←hH,List.append_assoc,Zy0 hR];exact hK
  have ew:vrows[i]?=some (V.tup (.int a::rest)):=by
   rw[hv,Zy5 (by lia),hu];simp
  have eB:H[B]?=some (bs.map V.ref):=by
   rw[←hH,Zy5 (by simp;lia)]
   simp[hB']
  have ep:H[K.length+a.toNat]?=some (us.filter (Za4 a)):=by
   rw[←hH,Zy0 (by simp;lia),Zy5 (by lia)]
   rw[show K.length+a.toNat-K.length=a.toNat by lia,List.getElem?_map,List.getElem?_range (by omega)]
   simp only[Zs1]
   rw[show((a.toNat:Nat):Int)=a by lia]
  have ei:(bs.map V.ref)[a.toNat]?=some (.ref (K.length+a.toNat)):=by
   rw[List.getElem?_map,hB a.toNat (by omega)];rfl
  have eset:H.set (K.length+a.toNat) (us.filter (Za4 a)++[V.tup (.int a::rest)])=K++((List.range n).map fun(p:Nat)=>(us++[V.tup (.int a::rest)]).filter (Za4 p))++[bs.map V.ref]:=by
   rw[←hH,List.set_append_left _ _ (by simp;omega),List.set_append_right _ _ (by omega)]
   congr 2
   apply List.ext_getElem
   ·simp
   ·intro j l1 l2
    simp at l1
    rw[List.getElem_set]
    by_cases c:K.length+a.toNat-K.length=j
    ·rw[if_pos c]
     have:j=a.toNat:=by lia
     subst this
     simp only[List.getElem_map,List.getElem_range]
     rw[List.filter_append,show((a.toNat:Nat):Int)=a by lia]
     simp[Za4]
    ·rw[if_neg c]
     simp only[List.getElem_map,List.getElem_range,List.filter_append]
     have:¬a=(j:Int):=by lia
     simp[Za4,this]
  have sx:ZC (ZaD (Zc Zf (Za 1) (Zc Zf (Za 2) (Zd 0))) (Za 2)) (upd ρ 2 (V.tup (.int a::rest))) H=some (none,upd ρ 2 (V.tup (.int a::rest)),K++((List.range n).map fun(p:Nat)=>(us++[V.tup (.int a::rest)]).filter (Za4 p))++[bs.map V.ref]):=by
   have i0:Zf (V.tup (.int a::rest)) (.int 0) H=some (.int a,H):=by
    have:seqIndex? 0 (rest.length+1)=some 0:=by unfold seqIndex?;simp
    simp[Zf,this]
   have i1:Zf (.ref B) (.int a) H=some (.ref (K.length+a.toNat),H):=by
    have:seqIndex? a (bs.map V.ref).length=some a.toNat:=by unfold seqIndex?;simp[hbl];lia
    simp only[Zf,eB,Zs0,this,ei,Zs1]
   have hl:(us.filter (Za4 a)).length<ZX:=by
    have:=List.length_filter_le (Za4 a) us
    have:us.length≤vrows.length:=by rw[hv];simp
    rw[Zac];lia
   have g1:Za 1 (upd ρ 2 (V.tup (.int a::rest))) H=some (.ref B,H):=by simp[Za,upd,r1]
   have g2:Za 2 (upd ρ 2 (V.tup (.int a::rest))) H=some (V.tup (.int a::rest),H):=by simp[Za,upd]
   simp only[ZC,ZaD,Zc,g1,g2,Zs0,Zd,i0,i1,Zcf,ep]
   rw[if_pos ⟨by lia,hl⟩]
   simp only[Zs1,eset]
  rw[List.length_cons]
  show((Zad R i H).bind _)=_
  have hx:Zad R i H=some (some (V.tup (.int a::rest))):=by simp[Zad,e1,ew]
  rw[hx]
  simp only[Zs0,ZQ,sx]
  exact h1
theorem ZmO{v:V}{t u:T}(hp:0<K.length)(r:RF K v t F)(e:Zff t=some u): ∃v' X F',ZeL [v] K=some (v',K++X)∧RF (K++X) v' u F'∧∀a∈F',K.length≤a∨a∈F:=by
 unfold Zff at e
 split at e
 case h_2=>first|exact Zx0 e|cases e
 rename_i rows
 split at e
 case h_2=>first|exact Zx0 e|cases e
 rename_i le hle
 split at e
 case isFalse=>first|exact Zx0 e|cases e
 rename_i hc
 obtain⟨h0,h8,hl,hall⟩:=hc
 cases e
 have r':=r
 cases r with
 | @ref R vrows _ Fr hR rs=>
 obtain⟨w,X,G,g1,g2,_⟩:=Zmv K [.ref R] [.lst rows] _ _ hp (.one r') hle
 cases g2
 generalize hK1:K++X=K1 at *
 have lR:=(Zz6.mp hR).1
 have l1:K.length≤K1.length:=by rw[←hK1];simp
 have hR1:K1[R]?=some vrows:=by rw[←hK1,Zy0 lR];exact hR
 have rs1:RFs K1 vrows rows Fr:=by rw[←hK1];exact rs.ext X
 have hlv:vrows.length=rows.length:=rs.length
 generalize hn:le.toNat+1=n at *
 have cm:=Zla (ρ:=fun i=>[V.ref R][i]?) (n:=n) n 0 [] K1 (by lia) (by rw[Zac];simp;lia)
 simp only[List.nil_append]at cm
 generalize hbs:(List.range n).map (fun j=>K1.length+j)=bs
 have ebs:(List.range n).map (fun j=>V.ref (K1.length+j))=bs.map V.ref:=by rw[←hbs];simp
 have hB:∀p,p<n→bs[p]?=some (K1.length+p):=fun p hp=>by rw[←hbs,List.getElem?_map,List.getElem?_range hp];rfl
 have hbl:bs.length=n:=by rw[←hbs];simp
 have emp:List.replicate n ([]:List V)=(List.range n).map fun(p:Nat)=>([]:List V).filter (Za4 p):=by
  apply List.ext_getElem
  ·simp
  ·intro i _ _;simp
 obtain⟨ρ',lp,lr⟩:=Zlb (B:=K1.length+n) hB hbl (by lia) hR1 rfl (by lia) (by lia) vrows [] 0 (upd (fun i=>[V.ref R][i]?) 1 (.ref (K1.length+n))) rfl rfl (by simp[upd]) (fun w m=>by
  obtain⟨i,hi,ew⟩:=List.getElem_of_mem m
  have ht:rows[i]?=some rows[i]:=Zy1 (by omega)
  obtain⟨v,G,q1,q2,_⟩:=rs.at ht
  have hi':vrows[i]?=some w:=by rw[Zy1 hi];exact congrArg some ew
  rw[hi']at q1
  cases q1
  clear hi' ew
  have ok:=List.all_eq_true.mp hall rows[i] (List.getElem_mem _)
  generalize rows[i]=t at *
  unfold ZjF at ok
  split at ok
  case h_2=>first|exact Zx0 ok|cases ok
  cases q2 with
  | tup hs=>
   cases hs with
   | cons a b=>
    cases a
    simp only[decide_eq_true_eq]at ok
    exact⟨_,_,rfl,ok.1,ok.2⟩)
 generalize hKf:K1++((List.range n).map fun(p:Nat)=>vrows.filter (Za4 p))++[bs.map V.ref]=Kf at *
 have rsf:RFs Kf vrows rows Fr:=rs1.frame fun a m=>by rw[←hKf,List.append_assoc,Zy0 (rs1.lt a m)]
 have key:∀m,m≤n→∃G,RFs Kf (((List.range m).map fun(p:Nat)=>V.ref (K1.length+p))) ((List.range m).map fun(p:Nat)=>T.lst (rows.filter (src p))) G∧∀a∈G,K.length≤a∨a∈Fr:=by
  intro m
  induction m with
  | zero=>intro _;exact⟨[],.nil,fun a m=>(List.not_mem_nil m).elim⟩
  | succ m ih=>
   intro hm
   obtain⟨G,g1,g2⟩:=ih (by lia)
   obtain⟨G',k1,k2⟩:=ZkH (q:=(m:Int)) rsf
   rw[List.range_succ,List.map_append,List.map_append]
   have em:Kf[K1.length+m]?=some (vrows.filter (Za4 m)):=by
    rw[←hKf,Zy0 (by simp;lia),Zy5 (by lia),show K1.length+m-K1.length=m by lia,List.getElem?_map,List.getElem?_range (by omega)]
    rfl
   refine⟨_,g1.append (.one (.ref em k1)),fun a q=>?_⟩
   rcases Zz8.mp q with q | q
   ·exact g2 a q
   ·rcases Zz7.mp q with rfl | q
    ·exact .inl (by lia)
    ·exact .inr (k2 a q)
 obtain⟨G,G1,G2⟩:=key n (Zz10 _)
 rw[ebs]at G1
 have eB:Kf[K1.length+n]?=some (bs.map V.ref):=by
  rw[←hKf,Zy5 (by simp)]
  simp
 refine⟨.ref (K1.length+n),X++(((List.range n).map fun(p:Nat)=>vrows.filter (Za4 p))++[bs.map V.ref]),(K1.length+n)::G,?_,?_,fun a m=>?_⟩
 ·rw[←List.append_assoc,hK1,←List.append_assoc,hKf]
  unfold ZeL ZhI ZH
  simp only[List.length_singleton,if_true]
  have s1:Zw 1 (Zam (Za7 (Zb (Zc ZE (Zh ZeU (Zb (Za 0) Ze)) (Zd 1)) Ze)) (ZQ 100) ZZ (ZU Ze)) (fun i=>[V.ref R][i]?) K=some (none,upd (fun i=>[V.ref R][i]?) 1 (.ref (K1.length+n)),K1++((List.range n).map fun(p:Nat)=>([]:List V).filter (Za4 p))++[bs.map V.ref]):=by
   have rg:Za7 (Zb (Zc ZE (Zh ZeU (Zb (Za 0) Ze)) (Zd 1)) Ze) (fun i=>[V.ref R][i]?) K=some (Zb3 0 1 n,n+1,K1):=by
    have:=Zqn (b:=le+1) (H:=K1) (by lia) (by lia)
    rw[show(le+1).toNat=n by lia]at this
    simp only[Za7,Zb,Ze,Zc,Zh,Za,List.getElem?_cons_zero,Zs1,Zs0,g1,Zd,Zda]
    exact this
   rw[ebs]at cm
   simp only[Zw,Zam,rg,Zs0,cm,Zs1,emp]
   simp
  rw[Zk9 s1]
  have ev:Zar (Za 0) (upd (fun i=>[V.ref R][i]?) 1 (.ref (K1.length+n))) (K1++((List.range n).map fun(p:Nat)=>([]:List V).filter (Za4 p))++[bs.map V.ref])=some (Zad R,vrows.length+1,K1++((List.range n).map fun(p:Nat)=>([]:List V).filter (Za4 p))++[bs.map V.ref]):=by
   have:(K1++((List.range n).map fun(p:Nat)=>([]:List V).filter (Za4 p))++[bs.map V.ref])[R]?=some vrows:=by
    rw[List.append_assoc,Zy0 (by omega)];exact hR1
   simp only[Zar,Za,upd,show(0=1)=False from by simp,if_false,List.getElem?_cons_zero,Zs1,Zs0,this]
  have s2:ZaL (Zar (Za 0)) (ZQ 2) (ZC (ZaD (Zc Zf (Za 1) (Zc Zf (Za 2) (Zd 0))) (Za 2))) (upd (fun i=>[V.ref R][i]?) 1 (.ref (K1.length+n))) (K1++((List.range n).map fun(p:Nat)=>([]:List V).filter (Za4 p))++[bs.map V.ref])=some (none,ρ',Kf):=by
   simp only[ZaL,ev,Zs0]
   exact lp
  rw[Zk9 s2]
  simp[Zy,Za,lr]
 ·rw[←List.append_assoc,hK1,←List.append_assoc,hKf]
  exact .ref eB G1
 ·rcases Zz7.mp m with rfl | m
  ·exact .inl (by lia)
  ·rcases G2 a m with q | q
   ·exact .inl q
   ·exact .inr (Zz2 _ q)
noncomputable def Zjr: T→Option T
 | .tup (_::_::b::_)=>some b
 | _=>none
noncomputable def ZfH: List T→Option (List T)
 | []=>some []
 | f::fs=>(Zjr f).bind fun b=>(Zeu b).bind fun rs=>(Zff rs).bind fun pl=>(ZfH fs).map (pl::·)
noncomputable def prE: Ex:=Zh ZeL (Zb (Zh Ze0 (Zb (Zc Zf (Za 100) (Zd 2)) Ze)) Ze)
theorem Zlc{K:Hp}{ρ:Lc}{d:Nat}{vs:List V}(hd:K[d]?=some vs)(hp:0<K.length): ∀(fs:List T) (i:Nat) (acc:List V) (at_ pls:List T) (X:Hp) (G:List Nat),(∀(j:Nat) t,fs[j]?=some t→∃v F,vs[i+j]?=some v∧RF K v t F)→vs.length=i+fs.length→RFs (K++X) acc at_ G→(∀a∈G,K.length≤a)→ZfH fs=some pls→acc.length+fs.length<ZX→∃Y ws G',ZaF (Zad d) (ZQ 100) ZZ prE ρ (fs.length+1) i acc (K++X)=some (ws,K++Y)∧RFs (K++Y) ws (at_++pls) G'∧∀a∈G',K.length≤a
 | [],i,acc,at_,pls,X,G,hr,hl,ha,hg,e,hc=>by
  cases e
  have hn:vs[i]?=none:=Zy8 (by simp at hl;lia)
  have hd':(K++X)[d]?=some vs:=by rw[Zy0 (Zz6.mp hd).1];exact hd
  exact⟨X,acc,G,by simp[ZaF,Zad,hd',hn],by simpa using ha,hg⟩
 | f::fs,i,acc,at_,pls,X,G,hr,hl,ha,hg,e,hc=>by
  obtain⟨b,e1,e⟩:=Zz0.mp e
  obtain⟨rs,e2,e⟩:=Zz0.mp e
  obtain⟨pl,e3,e⟩:=Zz0.mp e
  obtain⟨pls',e4,rfl⟩:=Zz1.mp e
  obtain⟨v,F,v1,v2⟩:=hr 0 f rfl
  rw[Nat.add_zero]at v1
  have hd':(K++X)[d]?=some vs:=by rw[Zy0 (Zz6.mp hd).1];exact hd
  have hv:∃x y w us,v=.tup (x::y::w::us)∧∃Fb,RF K w b Fb:=by
   unfold Zjr at e1
   split at e1
   case h_2=>first|exact Zx0 e1|cases e1
   cases e1
   cases v2 with
   | tup hs=>
    cases hs with
    | cons a hs=>
     cases hs with
     | cons a2 hs=>
      cases hs with
      | cons a3 hs=>exact⟨_,_,_,_,rfl,_,a3⟩
  obtain⟨x0,y0,w,us,rfl,Fb,rb⟩:=hv
  have hpx:0<(K++X).length:=by rw[List.length_append];lia
  obtain⟨u1,X1,F1,g1,g2,g5⟩:=Znk hpx (rb.ext X) e2
  obtain⟨u2,X2,F2,k1,k2,k3⟩:=ZmO (K:=K++X++X1) (by rw[List.length_append];lia) g2 e3
  have lx:K.length≤(K++X).length:=by rw[List.length_append];lia
  have new2:∀a∈F2,K.length≤a:=fun a m=>by
   rcases k3 a m with q | q
   ·rw[List.length_append]at q;lia
   ·have:=g5 a q;lia
  have ee:K++X++X1++X2=K++(X++(X1++X2)):=by simp
  rw[ee]at k1 k2
  have ha2:RFs (K++(X++(X1++X2))) (acc++[u2]) (at_++[pl]) (G++F2):=by
   have:=(ha.ext (X1++X2)).append (.one (by rw[List.append_assoc];exact k2))
   rw[List.append_assoc]at this
   exact this
  obtain⟨Y,ws,G',y1,y2,y3⟩:=Zlc hd hp fs (i+1) (acc++[u2]) (at_++[pl]) pls' (X++(X1++X2)) (G++F2) (fun j t e=>by
   have:=hr (j+1) t (by simpa using e)
   rw[show i+(j+1)=i+1+j by lia]at this
   exact this) (by rw[hl];simp;lia) ha2 (fun a m=>(Zz8.mp m).elim (hg a) (new2 a)) e4 (by simp at hc ⊢;lia)
  refine⟨Y,ws,G',?_,by simpa using y2,y3⟩
  have i2:∀H,Zf (.tup (x0::y0::w::us)) (.int 2) H=some (w,H):=fun H=>by
   have:seqIndex? 2 (us.length+1+1+1)=some 2:=by unfold seqIndex?;simp;lia
   simp[Zf,this]
  have g6:prE (upd ρ 100 (.tup (x0::y0::w::us))) (K++X)=some (u2,K++(X++(X1++X2))):=by
   simp only[prE,Zh,Zb,Ze,Zc,Za,upd,if_true,Zs1,Zs0,Zd,i2,g1,k1]
  have hc':acc.length<ZX:=by simp at hc;lia
  rw[List.length_cons]
  show((Zad d i (K++X)).bind _)=_
  have hx:Zad d i (K++X)=some (some (.tup (x0::y0::w::us))):=by simp[Zad,hd',v1]
  rw[hx]
  simp only[Zs0,ZQ,ZZ,if_true,g6,hc']
  exact y1
noncomputable def ZcS: List T→Option T
 | [.lst fns]=>if fns.length<10000 then(ZfH fns).map .lst else none
 | _=>none
theorem ZmA{vp:V}{fns:List T}{tw:T}(hp:0<K.length)(r:RF K vp (.lst fns) F)(e:ZcS [.lst fns]=some tw): ∃v X F',Zf9 [vp] K=some (v,K++X)∧RF (K++X) v tw F'∧∀a∈F',K.length≤a:=by
 unfold ZcS at e
 dsimp only at e
 split at e
 case isFalse=>first|exact Zx0 e|cases e
 rename_i hl
 obtain⟨pls,e1,rfl⟩:=Zz1.mp e
 cases r with
 | @ref d vs _ Fr hd rs=>
 obtain⟨Y,ws,G,y1,y2,y3⟩:=Zlc (ρ:=fun i=>[V.ref d][i]?) hd hp fns 0 [] [] pls [] [] (fun j t e=>by
  obtain⟨v,G,q1,q2,_⟩:=rs.at e
  exact⟨v,G,by rw[Nat.zero_add];exact q1,q2⟩) (by rw[rs.length];lia) .nil (fun a m=>(List.not_mem_nil m).elim) e1 (by rw[Zac];simp;lia)
 simp only[List.append_nil,List.nil_append]at y1 y2
 refine⟨.ref (K++Y).length,Y++[ws],(K++Y).length::G,?_,?_,fun a m=>?_⟩
 ·unfold Zf9 Zh1 ZH
  simp only[List.length_singleton,if_true]
  have:=rs.length
  unfold prE at y1
  rw[←this]at y1
  simp only[Zy,Zam,Zar,Za,List.getElem?_cons_zero,Zs1,Zs0,hd]
  rw[y1]
  simp
 ·rw[←List.append_assoc]
  exact .ref (by simp) (y2.ext _)
 ·rcases Zz7.mp m with rfl | m
  ·simp
  ·exact y3 a m
end L
open PySem PM TM
namespace L
variable {a b d e q steps u v:Int} {H K:Hp} {bs ks ss:List Int} {body fns fs r s sums ts:List T} {t tw:T} {c x:Nat→Int} {N X h k m n:Nat} {p:PE} {σ:TL} {wd:Str} {ρ:Lc} {sig:Nat→Nat×Nat}
noncomputable def ZjG: Sm:=Zm (Zz (Zs (Zc oNe (Zh Z3 (Zb (Za 1) Ze)) (Zc Zf (Zc Zf (Za 0) (ZM Zbl (Zd 1))) (Zd 0)))) (PM.sNo) ZL) (Zm (Zw 4 (ZcO (Runner_c) ZeM (Zb (Za 0) (Zb (Za 1) (Zb (Za 2) Ze))))) (Zm (Zw 5 (ZU (Zb (ZM (Z9 (Runner_c) 5) (Za 4)) Ze))) (Zm (Zc2 (Zav (Zs (Zc oLe (Zh Z3 (Zb (Za 5) Ze)) (Za 3))) (Zav (Zca (Zs (Z5 (Runner_c) ZeQ (Za 4) Ze))) ZZ)) (Zm (ZC (Z5 (Runner_c) ZeP (Za 4) Ze)) (ZC (ZaD (Za 5) (ZM (Z9 (Runner_c) 5) (Za 4))))) 1000000) (Zy (Za 5)))))
noncomputable def Zhd: List V→Hp→Option (V×Hp):=ZH 4 ZjG
noncomputable def ZjH(fns:List T): Option Int:=fns.getLast?.bind fun t=>match t with
 | .tup (.int p::_)=>some p
 | _=>none
noncomputable def Zev(tp tw:T)(ks:List Int): Nat→RS→Option (List Mo)
 | 0,_=>some []
 | k+1,s=>(ZcJ tw s).bind fun q=>if q then some []else(ZbZ tp tw ks s).bind fun s'=>(Zev tp tw ks k s').map (s'.m::·)
noncomputable def Zew: List T→Option T
 | [.lst fns,st,pk,.int steps]=>(ZdH st).bind fun ss=>(ZdH pk).bind fun ks=>(ZjH fns).bind fun pr=>if(ss.length:Int)=pr∧steps≤10000 then(ZcS [.lst fns]).bind fun tw=>(Zd0 (.lst fns) ((fns.length:Int)-1) ss).bind fun m=>(Zev (.lst fns) tw ks steps.toNat ⟨0,[],m⟩).map fun ms=>.lst ((m::ms).map Zbo)else none
 | _=>none
inductive MomR(K:Hp)(P:Nat→Prop): List V→List Mo→List Nat→Prop where
 | nil:MomR K P [] [] []
 | snoc {vs:List V} {ms:List Mo} {F:List Nat} {m:Mo} {b:Nat}:MomR K P vs ms F→K[b]?=some (m.2.2.map V.int)→P b→b∉F→MomR K P (vs++[Z2 m b]) (ms++[m]) (F++[b])
section
variable {K K':Hp} {P:Nat→Prop} {vs:List V} {ms:List Mo} {F:List Nat}
theorem MomR.keep(r:MomR K P vs ms F)(h:∀a,P a→a<K.length→K'[a]?=K[a]?): MomR K' P vs ms F:=by
 induction r with
 | nil=>exact .nil
 | snoc _ b p n ih=>exact .snoc ih ((h _ p (lt_of_at b)).trans b) p n
theorem MomR.length(r:MomR K P vs ms F): vs.length=ms.length:=by
 induction r with
 | nil=>rfl
 | snoc _ _ _ _ ih=>simp[ih]
theorem MomR.lt(r:MomR K P vs ms F): ∀a∈F,a<K.length∧P a:=by
 induction r with
 | nil=>intro a m;cases m
 | snoc _ b p _ ih=>
  intro a m
  rcases Zz8.mp m with m | m
  ·exact ih a m
  ·rw[List.mem_singleton]at m;subst m;exact⟨lt_of_at b,p⟩
theorem MomR.nodup(r:MomR K P vs ms F): F.Nodup:=by
 induction r with
 | nil=>exact List.nodup_nil
 | snoc _ _ _ n ih=>exact List.nodup_append.mpr ⟨ih,by simp,fun a h c k q=>by rw[List.mem_singleton]at k;subst k;exact n (q▸h)⟩
theorem Zqo{b:Nat}{m:Mo}(e:K[b]?=some (m.2.2.map V.int)): RF K (Z2 m b) (Zbo m) [b]:=by
 have:=RFs.cons (RF.int (H:=K) m.1) (RFs.cons (RF.int (H:=K) m.2.1) (RFs.one (Zcx e)))
 exact .tup (by simpa [Z0]using this)
theorem MomR.rfs(r:MomR K P vs ms F): RFs K vs (ms.map Zbo) F:=by
 induction r with
 | nil=>exact .nil
 | snoc _ b _ _ ih=>rw[List.map_append];exact ih.append (RFs.one (Zqo b))
end
noncomputable def Zd1: Ts:=Zav (Zs (Zc oLe (Zh Z3 (Zb (Za 5) Ze)) (Za 3))) (Zav (Zca (Zs (Z5 (Runner_c) ZeQ (Za 4) Ze))) ZZ)
noncomputable def ZgV: Sm:=Zm (ZC (Z5 (Runner_c) ZeP (Za 4) Ze)) (ZC (ZaD (Za 5) (ZM (Z9 (Runner_c) 5) (Za 4))))
section
variable {o w m0:Nat} {vp vw:V} {kk:Nat} {tp tw:T} {ks:List Int}
theorem Zkn{steps:Int}{ρ:Lc}{L0:Nat}(h3:ρ 3=some (.int steps))(h4:ρ 4=some (.obj Runner_c o))(h5:ρ 5=some (.ref m0))(hm:m0≠0)(hs:steps≤10000)(lo:L0≤o)(lw:L0≤w)(lm:L0≤m0): ∀(k fuel:Nat) (s:RS) (b:Nat) (K:Hp) (vs:List V) (ms ms':List Mo) (F:List Nat),Rn K o w b m0 vp vw kk tp tw ks s→K[m0]?=some vs→MomR K (fun a=>Off o w m0 a∧L0≤a) vs ms F→1≤vs.length→vs.length-1+k=steps.toNat→L0≤K.length→k<fuel→Zev tp tw ks k s=some ms'→∃K' vs' F',Zc2 Zd1 ZgV fuel ρ K=some (none,ρ,K')∧K'[m0]?=some vs'∧MomR K' (fun a=>Off o w m0 a∧L0≤a) vs' (ms++ms') F'∧L0≤K'.length∧∀a,a<L0→K'[a]?=K[a]?
 | 0,fuel+1,s,b,K,vs,ms,ms',F,R,km,M,l1,l2,lk,hf,e=>by
  cases e
  refine⟨K,vs,F,?_,km,by simpa using M,lk,fun _ _=>rfl⟩
  have c:¬((vs.length:Int)≤steps):=by omega
  simp[Zc2,Zd1,Zav,Zs,Zc,Zh,Zb,Ze,Za,h5,Z3,km,h3,c,Zak]
 | k+1,fuel+1,s,b,K,vs,ms,ms',F,R,km,M,l1,l2,lk,hf,e=>by
  obtain⟨q,e1,e⟩:=Zz0.mp e
  have c:((vs.length:Int)≤steps):=by lia
  have en:=Znc R e1
  cases q with
  | true=>
   rw[if_pos rfl]at e
   cases e
   refine⟨K,vs,F,?_,km,by simpa using M,lk,fun _ _=>rfl⟩
   simp[Zc2,Zd1,Zav,Zs,Zc,Zh,Zb,Ze,Za,h5,Z3,km,h3,c,Zak,Zca,Z5,h4,Zbb,en]
  | false=>
   rw[if_neg (by decide)]at e
   obtain⟨s',e2,e⟩:=Zz0.mp e
   obtain⟨ms2,e3,rfl⟩:=Zz1.mp e
   obtain⟨K1,g1,b',R1,g2,g3,g4⟩:=Zng R e2
   have lm0:=lt_of_at km
   have km1:K1[m0]?=some vs:=(g4 m0 lm0 R.mo.1 R.mo.2.1).trans km
   generalize hK2:K1.set m0 (vs++[Z2 s'.m b'])=K2
   have kp2:∀a,a≠m0→K2[a]?=K1[a]?:=fun a h=>by rw[←hK2,Zy2 (Ne.symm h)]
   have kq:∀a,Off o w m0 a→a<K1.length→K2[a]?=K1[a]?:=fun a p _=>kp2 a p.2.2
   have km2:K2[m0]?=some (vs++[Z2 s'.m b']):=by rw[←hK2,Zy6 (by lia)]
   obtain⟨ws,w1,w2⟩:=R1.hw
   have R2:Rn K2 o w b' m0 vp vw kk tp tw ks s':=⟨(kp2 o (Ne.symm R.mo.1)).trans R1.ho,⟨ws,(kp2 w (Ne.symm R.mo.2.1)).trans w1,w2.keep kq⟩,(kq b' R1.bo (lt_of_at R1.hb)).trans R1.hb,R1.rp.keep kq,R1.rw.keep kq,(kq _ R1.ko (lt_of_at R1.rk)).trans R1.rk,R1.ko,R1.bo,R1.o0,R1.w0,R1.ow,R1.mo,by rw[←hK2];simpa using R1.ml⟩
   have M2:MomR K2 (fun a=>Off o w m0 a∧L0≤a) (vs++[Z2 s'.m b']) (ms++[s'.m]) (F++[b']):=
    .snoc (M.keep fun a p l=>(kq a p.1 (by lia)).trans (g4 a l p.1.1 p.1.2.1)) R2.hb ⟨R2.bo,by lia⟩ (fun q=>by have:=(M.lt b' q).1;lia)
   obtain⟨K',vs',F',c1,c2,c3,c4,c5⟩:=Zkn h3 h4 h5 hm hs lo lw lm k fuel s' b' K2 (vs++[Z2 s'.m b']) (ms++[s'.m]) ms2 (F++[b']) R2 km2 M2 (by simp) (by simp;lia) (by rw[←hK2];simp;lia) (by lia) e3
   refine⟨K',vs',F',?_,c2,by simpa using c3,c4,fun a l=>(c5 a l).trans ((kp2 a (by lia)).trans (g4 a (by lia) (by lia) (by lia)))⟩
   have tt:Zd1 ρ K=some (true,K):=by
    simp[Zd1,Zav,Zs,Zc,Zh,Zb,Ze,Za,h5,Z3,km,h3,c,Zak,Zca,Z5,h4,Zbb,en,ZZ]
   have lvs:vs.length<100000:=by lia
   have bb:ZgV ρ K=some (none,ρ,K2):=by
    simp[ZgV,Zm,ZC,Z5,Za,h4,Zbb,Ze,g1,ZaD,h5,ZM,Z9,R1.ho,Zcf,km1,hm,Zac,lvs,hK2]
   show((Zd1 ρ K).bind _)=_
   rw[tt]
   simp only[Zs0,if_true,bb]
   exact c1
theorem Zn7{sp:Nat}{m:Mo}{Fp:List Nat}(hp:0<H.length)(rp:RF H vp (.lst fns) Fp)(rs:H[sp]?=some (ss.map V.int))(rk:H[kk]?=some (ks.map V.int))(e1:ZcS [.lst fns]=some tw)(e2:Zd0 (.lst fns) ((fns.length:Int)-1) ss=some m): ∃K vw w b Fw,ZcO Runner_c ZeM (fun _ H=>some ([vp,.ref sp,.ref kk],H)) (fun _=>none) H=some (.obj Runner_c H.length,K)∧K[H.length]?=some [vp,vw,.ref kk,.int 0,.ref w,Z2 m b]∧K[w]?=some []∧K[b]?=some (m.2.2.map V.int)∧RF K vw tw Fw∧(∀a∈Fw,H.length<a∧a<w)∧H.length<w∧w<b∧b<K.length∧∀a,a<H.length→K[a]?=H[a]?:=by
 obtain⟨tm,e2,e3⟩:=Zz0.mp e2
 obtain⟨ts,rfl,e4⟩:=Zka e3
 have lp:∀a∈Fp,a<H.length:=rp.lt
 generalize ho:H.length=o at *
 have o0:o≠0:=by lia
 generalize hK1:H++[[vp]]=K1
 have l1:K1.length=o+1:=by rw[←hK1];simp[ho]
 have k1:∀a,a<o→K1[a]?=H[a]?:=fun a l=>by rw[←hK1,Zy0 (by lia)]
 have k1o:K1[o]?=some [vp]:=by rw[←hK1,←ho];simp
 have rp1:RF K1 vp (.lst fns) Fp:=rp.frame fun a m=>k1 a (lp a m)
 obtain⟨vw,X,Fw,g1,g2,gl⟩:=ZmA (by lia) rp1 e1
 generalize hK4:(K1++X).set o [vp,vw,.ref kk,.int 0]=K4
 have l4:K4.length=o+1+X.length:=by rw[←hK4];simp[l1]
 have k4:∀a,a<K1.length+X.length→a≠o→K4[a]?=(K1++X)[a]?:=fun a l h=>by rw[←hK4,Zy2 (Ne.symm h)]
 have k4o:K4[o]?=some [vp,vw,.ref kk,.int 0]:=by rw[←hK4,Zy6 (by rw[List.length_append];lia)]
 generalize hw:K4.length=w at *
 generalize hK5:(K4++[[]]).set o [vp,vw,.ref kk,.int 0,.ref w]=K5
 have l5:K5.length=w+1:=by rw[←hK5];simp[hw]
 have k5:∀a,a<w→a≠o→K5[a]?=K4[a]?:=fun a l h=>by rw[←hK5,Zy2 (Ne.symm h),Zy0 (by lia)]
 have k5o:K5[o]?=some [vp,vw,.ref kk,.int 0,.ref w]:=by rw[←hK5,Zy6 (by rw[List.length_append];lia)]
 have k5w:K5[w]?=some []:=by rw[←hK5,Zy2 (by lia),←hw];simp
 have k5h:∀a,a<o→K5[a]?=H[a]?:=fun a l=>by
  rw[k5 a (by lia) (by lia),k4 a (by lia) (by omega),Zy0 (by lia),k1 a l]
 have rp5:RF K5 vp (.lst fns) Fp:=rp.frame fun a m=>k5h a (lp a m)
 have rs5:K5[sp]?=some (ss.map V.int):=(k5h sp (by have:=lt_of_at rs;lia)).trans rs
 obtain⟨v',Y,F,y1,y2,y3,y4⟩:=Zj0 K5 [vp,.int ((fns.length:Int)-1),.ref sp] [.lst fns,.int ((fns.length:Int)-1),Z0 ss] _ _ (by(first | lia | omega)) (.cons rp5 (.cons (.int _) (.one (Zcx rs5)))) e2
 obtain⟨b,rfl,yb,rfl⟩:=Zk7 (m:=m) y2 e4
 have hb:=(y4 rfl).2 b Zz5
 have lb:=lt_of_at yb
 rw[List.length_append]at lb
 generalize hK6:(K5++Y).set o [vp,vw,.ref kk,.int 0,.ref w,Z2 m b]=K6
 have l6:K6.length=w+1+Y.length:=by rw[←hK6];simp[l5]
 have k6:∀a,a<w+1→a≠o→K6[a]?=K5[a]?:=fun a l h=>by rw[←hK6,Zy2 (Ne.symm h),Zy0 (by lia)]
 have lFw:∀a∈Fw,o<a∧a<w:=fun a m=>by
  have p1:=gl a m
  have p2:=g2.lt a m
  rw[List.length_append]at p2
  lia
 refine⟨K6,vw,w,b,Fw,?_,?_,(k6 w (by lia) (by lia)).trans k5w,?_,?_,lFw,by lia,by lia,by lia,fun a l=>(k6 a (by lia) (by lia)).trans (k5h a l)⟩
 ·unfold ZcO ZeM ZhK ZH
  simp only[Zs0,List.length_cons,List.length_nil,if_true,ho]
  have hl:Runner_c.2.length=6:=rfl
  have k0o:(H++[[]])[o]?=some []:=by rw[←ho];simp
  have s1:(H++[[]]).set o [vp]=K1:=by rw[←hK1,←ho];simp
  rw[Zae (ρ1:=(fun i=>[V.obj Runner_c o,vp,V.ref sp,V.ref kk][i]?)) (H1:=K1) (by
   have:ZaS Runner_c 0 (.obj Runner_c o) vp (H++[[]])=some K1:=by simp[ZaS,o0,k0o,hl,s1]
   simp[ZaC,Za,this])]
  generalize hK2:(K1++X).set o [vp,vw]=K2
  have kxo:(K1++X)[o]?=some [vp]:=by rw[Zy0 (by lia)];exact k1o
  have lkx:o<(K1++X).length:=lt_of_at kxo
  rw[Zae (ρ1:=(fun i=>[V.obj Runner_c o,vp,V.ref sp,V.ref kk][i]?)) (H1:=K2) (by
   have:ZaS Runner_c 1 (.obj Runner_c o) vw (K1++X)=some K2:=by simp[ZaS,o0,kxo,hl,hK2]
   simp[ZaC,Za,Zh,Zb,Ze,g1,this])]
  generalize hK3:(K1++X).set o [vp,vw,.ref kk]=K3
  have k2o:K2[o]?=some [vp,vw]:=by rw[←hK2,Zy6 lkx]
  rw[Zae (ρ1:=(fun i=>[V.obj Runner_c o,vp,V.ref sp,V.ref kk][i]?)) (H1:=K3) (by
   have:ZaS Runner_c 2 (.obj Runner_c o) (.ref kk) K2=some K3:=by simp[ZaS,o0,k2o,hl,←hK3];rw[←hK2];simp
   simp[ZaC,Za,this])]
  have k3o:K3[o]?=some [vp,vw,.ref kk]:=by rw[←hK3,Zy6 lkx]
  rw[Zae (ρ1:=(fun i=>[V.obj Runner_c o,vp,V.ref sp,V.ref kk][i]?)) (H1:=K4) (by
   have:ZaS Runner_c 3 (.obj Runner_c o) (.int 0) K3=some K4:=by simp[ZaS,o0,k3o,hl,←hK4];rw[←hK3];simp
   simp[ZaC,Za,Zd,this])]
  have k4e:(K4++[[]])[o]?=some [vp,vw,.ref kk,.int 0]:=by rw[Zy0 (by lia)];exact k4o
  rw[Zae (ρ1:=(fun i=>[V.obj Runner_c o,vp,V.ref sp,V.ref kk][i]?)) (H1:=K5) (by
   have:ZaS Runner_c 4 (.obj Runner_c o) (.ref w) (K4++[[]])=some K5:=by simp[ZaS,o0,k4e,hl,←hK5]
   simp[ZaC,Za,ZU,Ze,hw,this])]
  have k5e:(K5++Y)[o]?=some [vp,vw,.ref kk,.int 0,.ref w]:=by rw[Zy0 (by lia)];exact k5o
  have e6:ZaS Runner_c 5 (.obj Runner_c o) (Z2 m b) (K5++Y)=some K6:=by simp[ZaS,o0,k5e,hl,←hK6]
  have ln:=ZgE (P:=fun _=>True) ⟨_,rp5,fun _ _=>trivial⟩
  simp[ZaC,Za,Zh,Zb,Ze,Zc,Zd,ln,y1,e6]
 ·rw[←hK6,Zy6 (by rw[List.length_append];lia)]
 ·rw[←hK6,Zy2 (by lia)];exact yb
 ·refine g2.frame fun a m=>?_
  have:=lFw a m
  rw[k6 a (by lia) (by lia),k5 a (by lia) (by omega),k4 a (by lia) (by omega)]
end
theorem Zjs(l:H.length≤K.length)(h:∀a,a<H.length→K[a]?=H[a]?): K=H++K.drop H.length:=by
 apply List.ext_getElem?
 intro i
 by_cases c:i<H.length
 ·rw[Zy0 c,h i c]
 ·rw[Zy5 (by lia),List.getElem?_drop]
  congr 1
  lia
theorem Zgi(e:ZdH t=some ks): t=Z0 ks:=by
 obtain⟨ts,e1,e2⟩:=Zz0.mp e
 have:=Ze3 e1;subst this
 have:∀{ts:List T} {ks:List Int},Zbr ts=some ks→ts=ks.map T.int:=by
  intro ts
  induction ts with
  | nil=>intro ks e;cases e;rfl
  | cons t ts ih=>
   intro ks e
   cases t <;> simp[Zbr]at e
   obtain⟨js,a,rfl⟩:=e
   rw[ih a]
   rfl
 rw[this e2]
 rfl
theorem ZgW{v:V}{F:List Nat}(r:RF H v (Z0 ks) F): ∃b,v=.ref b∧H[b]?=some (ks.map V.int):=by
 cases r with
 | ref e hs=>
  obtain⟨rfl,_,_⟩:=Ze2 (Zfp ks) hs
  exact⟨_,rfl,e⟩
theorem Zqp: SimF true Zhd Zew:=fun H vs ts t F1 hp r e=>by
 unfold Zew at e
 split at e
 case h_2=>first|exact Zx0 e|cases e
 rename_i fns st pk steps
 obtain⟨ss,e1,e⟩:=Zz0.mp e
 obtain⟨ks,e2,e⟩:=Zz0.mp e
 obtain⟨pr,e3,e⟩:=Zz0.mp e
 split at e
 case isFalse=>first|exact Zx0 e|cases e
 rename_i hc
 obtain⟨hc,hst⟩:=hc
 obtain⟨tw,e4,e⟩:=Zz0.mp e
 obtain⟨m,e5,e⟩:=Zz0.mp e
 obtain⟨ms,e6,e⟩:=Zz1.mp e
 subst e
 have:=Zgi e1;subst this
 have:=Zgi e2;subst this
 cases r with
 | @cons vp _ Fp _ _ _ rp r=>
 cases r with
 | @cons vs0 _ Fs _ _ _ rs r=>
 cases r with
 | @cons vk _ Fk _ _ _ rk r=>
 cases r with
 | @cons v3 _ F3 _ _ _ r3 r=>
 cases r
 cases r3
 obtain⟨sp,rfl,hs⟩:=ZgW rs
 obtain⟨kk,rfl,hk⟩:=ZgW rk
 obtain⟨K,vw,w,b,Fw,n1,n2,n3,n4,n5,n6,n7,n8,n9,n10⟩:=Zn7 hp rp hs hk e4 e5
 generalize ho:H.length=o at *
 generalize hm0:K.length=m0 at *
 generalize hK1:K++[[Z2 m b]]=K1
 have l1:K1.length=m0+1:=by rw[←hK1];simp[hm0]
 have k1:∀a,a<m0→K1[a]?=K[a]?:=fun a l=>by rw[←hK1,Zy0 (by lia)]
 have k1m:K1[m0]?=some [Z2 m b]:=by rw[←hK1,←hm0];simp
 have lFp:∀a∈Fp,a<o:=fun a m=>by have:=rp.lt a m;lia
 have lk:=lt_of_at hk
 have R:Rn K1 o w b m0 vp vw kk (.lst fns) tw ks ⟨0,[],m⟩:=by
  refine⟨(k1 o (by lia)).trans n2,⟨[],(k1 w (by lia)).trans n3,.nil⟩,(k1 b (by omega)).trans n4,⟨Fp,rp.frame fun a m=>?_,fun a m=>?_⟩,⟨Fw,n5.frame fun a m=>?_,fun a m=>?_⟩,?_,⟨by lia,by lia,by lia⟩,⟨by lia,by lia,by lia⟩,by lia,by lia,by lia,⟨by lia,by lia,by omega⟩,by lia⟩
  ·have:=lFp a m;rw[k1 a (by lia),n10 a (by omega)]
  ·have:=lFp a m;exact⟨by lia,by lia,by lia⟩
  ·have:=n6 a m;rw[k1 a (by lia)]
  ·have:=n6 a m;exact⟨by lia,by lia,by lia⟩
  ·rw[k1 kk (by lia),n10 kk (by lia)];exact hk
 have M:MomR K1 (fun a=>Off o w m0 a∧o≤a) [Z2 m b] [m] [b]:=MomR.snoc (vs:=[]) (ms:=[]) (F:=[]) .nil R.hb ⟨R.bo,by lia⟩ (by simp)
 generalize hρ:upd (upd (fun i=>[vp,V.ref sp,V.ref kk,V.int steps][i]?) 4 (.obj Runner_c o)) 5 (.ref m0)=ρ
 obtain⟨K',vs',F',c1,c2,c3,c4,c5⟩:=Zkn (steps:=steps) (ρ:=ρ) (L0:=o) (by rw[←hρ];simp[upd]) (by rw[←hρ];simp[upd]) (by rw[←hρ];simp[upd]) (by lia) hst (by lia) (by lia) (by lia) steps.toNat 1000000 _ b K1 [Z2 m b] [m] ms [b] R k1m M (by simp) (by simp) (by lia) (by lia) e6
 have keep:∀a,a<H.length→K'[a]?=H[a]?:=fun a l=>(c5 a (by lia)).trans ((k1 a (by lia)).trans (n10 a (by omega)))
 have eK:=Zjs (H:=H) (K:=K') (by lia) keep
 have fm:∀a∈F',a≠m0∧o≤a:=fun a q=>⟨(c3.lt a q).2.1.2.2,(c3.lt a q).2.2⟩
 refine⟨.ref m0,K'.drop H.length,m0::F',?_,?_,fun a q=>.inl ?_,fun _=>⟨List.nodup_cons.mpr ⟨fun q=>(fm m0 q).1 rfl,c3.nodup⟩,fun a q=>?_⟩⟩
 ·rw[←eK]
  unfold Zhd ZjG ZH
  simp only[List.length_cons,List.length_nil,if_true]
  rw[Zae (ρ1:=(fun i=>[vp,V.ref sp,V.ref kk,V.int steps][i]?)) (H1:=H) (by
   obtain⟨lt,q1,q2⟩:=Zz0.mp e3
   obtain⟨ys,ey⟩:=List.getLast?_eq_some_iff.mp q1
   split at q2
   case h_2=>first|exact Zx0 q2|cases q2
   rename_i pr2 tl
   cases q2
   have ix:ZcD fns (-1)=some (T.tup (T.int (ss.length:Int)::tl)):=by
    have:seqIndex? (-1) fns.length=some ys.length:=by
     rw[ey]
     unfold seqIndex?
     simp
     lia
    simp only[ZcD,this,Zs0]
    rw[ey,hc]
    simp
   obtain⟨u,u1,u2⟩:=Zfe (P:=fun _=>True) ⟨_,rp,fun _ _=>trivial⟩ ix
   obtain⟨us,rfl,u3⟩:=u2.tup
   obtain⟨u4,us4,rfl,u5,_⟩:=ZT u3
   have:=u5.int;subst this
   have ln:Z3 [V.ref sp] H=some (.int ss.length,H):=by simp[Z3,hs]
   simp[Zz,Zs,Zc,Zh,Zb,Ze,Za,ln,ZM,Zd,u1,ia0,Zak,ZL])]
  rw[Zae (ρ1:=upd (fun i=>[vp,V.ref sp,V.ref kk,V.int steps][i]?) 4 (.obj Runner_c o)) (H1:=K) (by
   have:ZcO Runner_c ZeM (Zb (Za 0) (Zb (Za 1) (Zb (Za 2) Ze))) (fun i=>[vp,V.ref sp,V.ref kk,V.int steps][i]?) H=some (.obj Runner_c o,K):=by
    rw[←n1]
    simp[ZcO,Zb,Za,Ze]
   simp[Zw,this])]
  rw[Zae (ρ1:=ρ) (H1:=K1) (by
   simp[Zw,ZU,Zb,Ze,ZM,Z9,Za,upd,n2,Zac,hm0,hK1,←hρ])]
  unfold Zd1 ZgV at c1
  rw[Zae c1]
  simp[Zy,Za,←hρ,upd]
 ·rw[←eK]
  exact .ref c2 (by simpa using c3.rfs)
 ·rcases Zz7.mp q with rfl | q
  ·lia
  ·have:=(fm a q).2;omega
 ·rcases Zz7.mp q with rfl | q
  ·omega
  ·have:=(fm a q).2;omega
noncomputable def RowOk(e:Int)(x:T): Prop:=∃a t b,x=rowT a t b∧Nice 3 t∧0≤a∧a≤e∧0≤b∧b≤e
theorem RowOk.mono{e':Int}{x:T}(h:RowOk e x)(k:e≤e'): RowOk e' x:=by
 obtain⟨a,t,b,h1,h2,h3,h4,h5,h6⟩:=h
 exact⟨a,t,b,h1,h2,h3,by lia,h5,by lia⟩
noncomputable def Zjt(u:Int)(r:List T)(e:Int): Prop:=(∀x∈r,RowOk e x)∧(u<e→∃a t,rowT a t e∈r)
theorem ZgI: Nice (n+1) goT:=.tup (by simp) (nlc (.str (by decide +kernel)) nl0)
theorem Zgj{c:T}{b:Bool}(h:Nice 2 c): Nice 3 (ZaA c b):=.tup (by simp) (nlc (.str (by decide +kernel)) (nlc h (nlc (.bool b) nl0)))
theorem Zgp{L:T→Int→List T→Int→Prop}(hL:∀t u r e,L t u r e→0≤u→u<e∧Zjt u r e)(h:LyB L ts u r e): 0≤u→u≤e∧Zjt u r e:=by
 induction h with
 | nil=>intro _;exact⟨by lia,by simp,fun q=>absurd q (by lia)⟩
 | @cons t ts u e e' r r' a _ ih=>
  intro h0
  obtain⟨h1,h2,h3⟩:=hL _ _ _ _ a h0
  obtain⟨h4,h5,h6⟩:=ih (by lia)
  refine⟨by lia,fun x m=>?_,fun q=>?_⟩
  ·rcases Zz8.mp m with m | m
   ·exact(h2 x m).mono h4
   ·exact h5 x m
  ·by_cases z:e<e'
   ·obtain⟨a,t,m⟩:=h6 z
    exact⟨a,t,List.mem_append_right _ m⟩
   ·have:e'=e:=by lia
    subst this
    obtain⟨a,t,m⟩:=h3 h1
    exact⟨a,t,Zy7 _ m⟩
theorem Zgq: ∀(n:Nat) (t:T) (u:Int) (r:List T) (e:Int),LyS n t u r e→0≤u→u<e∧Zjt u r e
 | 0,t,u,r,e,h,h0=>by
  obtain⟨h,rfl,rfl⟩:=h
  refine⟨by lia,fun x m=>?_,fun _=>⟨u,t,by simp⟩⟩
  simp at m
  subst m
  exact⟨u,t,u+1,rfl,h.1,h0,by lia,by lia,by lia⟩
 | n+1,t,u,r,e,h,h0=>by
  rcases h with⟨h1,rfl,rfl⟩ | ⟨c,a,b,ra,ea,rb,eb,rfl,hc,ha,hb,rfl,rfl⟩ | ⟨c,a,ra,ea,rfl,hc,ha,rfl,rfl⟩
  ·refine⟨by omega,fun x m=>?_,fun _=>⟨u,t,by simp⟩⟩
   simp at m
   subst m
   exact⟨u,t,u+1,rfl,h1.1,h0,by omega,by omega,by omega⟩
  ·obtain⟨l1,k1,_⟩:=Zgp (Zgq n) ha (by omega)
   obtain⟨l2,k2,_⟩:=Zgp (Zgq n) hb (by lia)
   refine⟨by lia,fun x m=>?_,fun _=>⟨ea,goT,by simp⟩⟩
   simp only[List.mem_cons,List.mem_append,List.not_mem_nil,or_false]at m
   rcases m with rfl | m | rfl | m | rfl | rfl
   ·exact⟨_,_,_,rfl,Zgj hc,by omega,by lia,by lia,by lia⟩
   ·exact(k1 x m).mono (by lia)
   ·exact⟨_,_,_,rfl,Zgj hc,by omega,by omega,by lia,by lia⟩
   ·exact(k2 x m).mono (by lia)
   ·exact⟨_,_,_,rfl,ZgI,by lia,by omega,by lia,by lia⟩
   ·exact⟨_,_,_,rfl,ZgI,by lia,by omega,by omega,by omega⟩
  ·obtain⟨l1,k1,_⟩:=Zgp (Zgq n) ha (by lia)
   refine⟨by lia,fun x m=>?_,fun _=>⟨u+1,ZaA c false,by simp⟩⟩
   simp only[List.mem_cons,List.mem_append,List.not_mem_nil,or_false]at m
   rcases m with rfl | rfl | m | rfl | rfl
   ·exact⟨_,_,_,rfl,ZgI,by omega,by lia,by lia,by lia⟩
   ·exact⟨_,_,_,rfl,Zgj hc,by omega,by omega,by lia,by lia⟩
   ·exact(k1 x m).mono (by lia)
   ·exact⟨_,_,_,rfl,ZgI,by lia,by omega,by omega,by omega⟩
   ·exact⟨_,_,_,rfl,Zgj hc,by omega,by omega,by lia,by lia⟩
noncomputable def mxI: T→Int
 | .tup [.int a,_,.int b]=>if b>a then b else a
 | _=>0
theorem ZkI: ∀(r:List T),Zbr (r.map fun x=>T.int (mxI x))=some (r.map mxI)
 | []=>rfl
 | x::r=>by simp[Zbr,ZkI r]
theorem Zpe(h0:0≤e)(hl:r.length≤9000)(h1:∀x∈r,RowOk e x)(h2:0<e→∃a t,rowT a t e∈r): Zgb [.lst r]=some (.int e):=by
 apply Pk.eq
 unfold Zgb Zh8
 walk_at "z"
 have key:(r.map mxI).max?.getD 0=e:=by
  by_cases q:0<e
  ·have:(r.map mxI).max? = some e:=by
    rw[List.max?_eq_some_iff]
    refine⟨?_,fun c hc=>?_⟩
    ·obtain⟨a,t,m⟩:=h2 q
     obtain⟨a',t',b',e1,_,k1,k2,k3,k4⟩:=h1 _ m
     unfold rowT at e1
     cases e1
     refine Zz11.mpr ⟨_,m,?_⟩
     show(if e>a then e else a)=e
     split <;> (first | lia | omega)
    ·obtain⟨x,m,rfl⟩:=Zz11.mp hc
     obtain⟨a,t,b,rfl,_,k1,k2,k3,k4⟩:=h1 x m
     show(if b>a then b else a)≤e
     split <;> omega
   rw[this]
   rfl
  ·have e0:e=0:=by lia
   subst e0
   cases r with
   | nil=>rfl
   | cons x r=>
    have:((x::r).map mxI).max? = some 0:=by
     rw[List.max?_eq_some_iff]
     have z:∀y∈x::r,mxI y=0:=fun y m=>by
      obtain⟨a,t,b,rfl,_,k1,k2,k3,k4⟩:=h1 y m
      show(if b>a then b else a)=0
      split <;> (first | lia | omega)
     refine⟨Zz11.mpr ⟨x,List.mem_cons_self,z x Zz5⟩,fun c hc=>?_⟩
     obtain⟨y,m,rfl⟩:=Zz11.mp hc
     rw[z y m]
     exact Int.le_refl _
    rw[this]
    rfl
 refine⟨.lst (r.map fun x=>T.int (mxI x)),?_,?_⟩
 ·have:=Zis (σ:=fun i=>[T.lst r][i]?) (j:=100) (f:=ZV ZfA (Zj (Zk ZF (Zg 100) (Zo 0)) (Zj (Zk ZF (Zg 100) (Zo 2)) Zu))) (h:=fun x=>T.int (mxI x)) (ts:=r) fun t m=>by
   obtain⟨a,t,b,rfl,_⟩:=h1 t m
   apply Pk.eq
   unfold rowT
   walk_at "z"
   rfl
  simp only[Zbz,show Zb1 (Zg 0) (fun i=>[T.lst r][i]?)=some r from rfl,Zs0,this]
  rw[if_pos (by rw[Zac];lia)]
  simp
 ·walk_at "z"
  refine⟨.int e,?_,rfl⟩
  simp only[Zhb,ZkI,Zs1,key]
section
variable {σ:TL} {Q:T→Prop}
theorem Znl(h:Pk (p σ) fun t=>∃ts,t=.lst ts∧Q (.lst (ts.drop k))): Pk (ZfC p k σ) Q:=by
 obtain⟨_,e,ts,rfl,q⟩:=h
 exact⟨_,by simp only[ZfC,e,Zs0],q⟩
theorem ZlR{e:PE}(h:Pk (p σ) fun t=>∃ts,t=.lst ts∧Pk (e σ) fun u=>∃a:Nat,u=.int a∧Q (.lst (ts.take a))): Pk (ZcI p Zc5 (Zc6 e) σ) Q:=by
 obtain⟨_,e1,ts,rfl,_,e2,a,rfl,q⟩:=h
 refine⟨_,?_,q⟩
 simp only[ZcI,e1,Zc5,Zc6,e2,Zs0,Zop ts rfl]
theorem ZqR{e:PE}(h:Pk (p σ) fun t=>∃ts,t=.lst ts∧Pk (e σ) fun u=>∃a:Nat,u=.int a∧Q (.lst (ts.drop a))): Pk (ZcI p (Zc6 e) Zc5 σ) Q:=by
 obtain⟨_,e1,ts,rfl,_,e2,a,rfl,q⟩:=h
 refine⟨_,?_,q⟩
 simp only[ZcI,e1,Zc5,Zc6,e2,Zs0,Zkg ts rfl]
theorem ZgJ{a b:List T}(hl:a.length+b.length≤10000)(h:Q (.lst (a++b))): Pk (Zag (.lst a) (.lst b)) Q:=by
 refine⟨_,?_,h⟩
 simp only[Zag]
 rw[if_pos (by rw[Zac,List.length_append];lia)]
end
theorem Zn8{f:Nat→T}: (tab (n+1) f).drop 1=tab n fun i=>f (i+1):=by
 apply List.ext_getElem
 ·simp[tab]
 ·intro i h1 h2
  simp[tab]
noncomputable def Za5(c:Nat→Int)(x:Nat→Int): Nat→Int
 | 0=>c 0
 | j+1=>Za5 c x j+c (j+1)*x j
theorem Zld{c x:Nat→Int}: ∀n,c 0+(tab n fun i=>c (i+1)*x i).sum=Za5 c x n
 | 0=>by simp[tab,Za5]
 | n+1=>by
  rw[←ZnM (n:=n) (f:=fun i=>c (i+1)*x i),List.sum_append]
  have:=Zld (c:=c) (x:=x) n
  simp only[List.sum_cons,List.sum_nil,Za5]
  lia
theorem Zpf{l:List T}{x:Nat}{w:T}(h:x<l.length): l.take x++[w]++l.drop (x+1)=l.set x w:=by
 rw[List.set_eq_take_append_cons_drop,if_pos h]
 simp
theorem Zpg{x:Nat}{f:Nat→T}{w:T}(hx:x<n)(hn:n≤1000)(hf:∀i,i<n→(f i).flat=true)(hw:w.flat=true): Zel [.lst (tab n f),.int ((x:Int)+1),w]=some (.lst (tab n fun i=>if i=x then w else f i)):=by
 apply Pk.eq
 unfold Zel Zjn
 have hlen:(tab n f).length=n:=ZaI
 walk_at "z"
 refine ZlR ?_
 walk_at "z"
 refine⟨_,rfl,?_⟩
 walk_at "z"
 refine⟨x,by congr 1;lia,?_⟩
 walk_at "z"
 refine ZgJ (by simp[hlen];lia) ?_
 refine ZqR ?_
 walk_at "z"
 refine⟨_,rfl,?_⟩
 walk_at "z"
 refine⟨x+1,rfl,?_⟩
 refine ZgJ (by simp[hlen];omega) ?_
 rw[Zpf (by lia),Zoz]
 refine⟨Zig fun i hi=>?_,rfl⟩
 split
 ·exact hw
 ·exact hf i hi
theorem Zph{a:T}(ha:Pln n a)(hb:Pln m (.tup ts))(hn:n≤40:=by decide)(hm:m≤40:=by decide): ZfN a (.tup ts)=some (dec (a∈ts)):=by
 have ha:=ha.mono hn
 have hb:=hb.mono hm
 obtain⟨a1,a2,a3⟩:=ha.dat
 obtain⟨b1,b2,b3⟩:=hb.dat
 unfold ZfN Zbg
 rw[a1,b1]
 simp only[Zs0,dd,inD]
 simp only[dd,PyData.canLay0]at b2
 rw[if_pos ⟨b2,a2,by lia⟩,Zlx]
 intro t m
 cases hb with
 | tup hs=>exact(hs t m).eqv ha
theorem Zd2{a b c d:Str}{Q:T→Prop}(hok:(PyData.strOk a && PyData.strOk b && PyData.strOk c && PyData.strOk d)=true){r:Bool}(hr:decide (a=b∨a=c∨a=d)=r)(h:Q (.bool r)): Pk (qIn (.str a) (.tup [.str b,.str c,.str d])) Q:=by
 simp only[Bool.and_eq_true]at hok
 obtain⟨⟨⟨ha,hb⟩,hc⟩,hd⟩:=hok
 refine⟨.bool r,?_,h⟩
 have hp:Pln 1 (.tup [.str b,.str c,.str d]):=.tup fun t m=>by
  simp at m
  rcases m with rfl | rfl | rfl
  ·exact .str hb
  ·exact .str hc
  ·exact .str hd
 simp only[qIn,Zph (.str ha:Pln 1 (.str a)) hp,Zs1]
 congr 2
 rw[←hr]
 exact Zjj (by rw[decide_eq_true_eq];simp)
noncomputable def Zao(n:Nat)(c:Nat→Int): T:=.lst (tab (n+1) fun i=>.int (c i))
noncomputable def Sh(n:Nat)(c:Nat→Int): Prop:=∀i,i<n→-(2 ^ 64)<c (i+1)∧c (i+1)<2 ^ 64
theorem ZdV(hn:n≤60)(hc:Sh n c): ZbF [Zao n c,Z1 n x]=some (.int (Za5 c x n)):=by
 apply Pk.eq
 unfold ZbF Zi2 Zao Z1
 have h0:0<n+1:=by lia
 walk_at "z"
 refine ZnR (n:=n) (a:=fun i=>.int (c (i+1))) (b:=fun i=>.int (x i)) (c:=fun i=>.int (c (i+1)*x i)) (by lia) ?_ (fun i hi=>?_) ?_
 ·refine Zlv ?_
  refine Znl ?_
  walk_at "z"
  refine⟨_,rfl,?_⟩
  rw[Zn8]
  walk_at "z"
  rfl
 ·walk_at "z"
  exact Zi8 (hc i hi).1 (hc i hi).2 rfl
 walk_at "z"
 refine⟨.int (tab n fun i=>c (i+1)*x i).sum,by simp only[Zhg,ZnP,Zs1],?_⟩
 walk_at "z"
 rw[show(Int.toNat 0)=0 from rfl,Zld]
theorem Zgr(hn:n≤60)(hc:Sh n c): ZcP [Zao n c,Z1 n x]=some (.int (Za5 c x n)):=by
 apply Pk.eq
 unfold ZcP ZhE Zao Z1
 have h0:0<n+1:=by lia
 walk_at "z"
 refine Zp4 (n:=n) (a:=fun i=>.int i) (P:=fun k σ=>σ 0=some (.lst (tab (n+1) fun i=>.int (c i)))∧σ 1=some (.lst (tab n fun i=>.int (x i)))∧σ 2=some (.int (Za5 c x k))) ?_ ⟨by walk_at "r",by walk_at "r",by walk_at "r"⟩ ?_ ?_
 ·walk_at "z"
  rfl
 ·rintro i σ hi ⟨e0,e1,e2⟩
  walk_at "z"
  rw[show((i:Int)+1).toNat=i+1 by lia]
  refine Zi8 (hc i hi).1 (hc i hi).2 ?_
  walk_at "z"
  exact⟨by walk_at "r",by walk_at "r",by walk_at "r"⟩
 ·rintro σ ⟨e0,e1,e2⟩
  walk_at "z"
  rfl
noncomputable def unT(n:Nat)(c:Nat→Int): T:=.tup [.str (Str.ofString "under"),Zao n c]
noncomputable def smT(n:Nat)(c:Nat→Int): T:=.tup [.str (Str.ofString "same"),Zao n c]
noncomputable def evT(n:Nat)(c:Nat→Int)(d:Int): T:=.tup [.str (Str.ofString "even"),Zao n c,.int d]
noncomputable def ZjP(a:Int): Int:=if a<0 then -a else a
noncomputable abbrev Sp2:=Option Int×Option Int
theorem su: PyData.strOk (Str.ofString "under")=true:=by decide +kernel
theorem ss_: PyData.strOk (Str.ofString "same")=true:=by decide +kernel
theorem ZmP(h:ZbF [Zao n c,Z1 n x]=some (.int v)): Zcg [unT n c,Z1 n x]=some (.bool (decide (v<0))):=by
 apply Pk.eq
 unfold Zcg Zfd unT
 walk_at "z"
 refine Pk.of h ?_
 walk_at "z"
 refine ZcA su ?_
 walk_at "z"
 rfl
theorem ZmQ(h:ZbF [Zao n c,Z1 n x]=some (.int v)): Zcg [smT n c,Z1 n x]=some (.bool (decide (v=0))):=by
 apply Pk.eq
 unfold Zcg Zfd smT
 walk_at "z"
 refine Pk.of h ?_
 walk_at "z"
 refine ZaV (by decide +kernel) ?_
 walk_at "z"
 refine ZcA ss_ ?_
 walk_at "z"
 rfl
theorem ZmR(hd:0<d)(h:ZbF [Zao n c,Z1 n x]=some (.int v)): Zcg [evT n c d,Z1 n x]=some (.bool (decide (v.fmod d=0))):=by
 apply Pk.eq
 unfold Zcg Zfd evT
 walk_at "z"
 refine Pk.of h ?_
 walk_at "z"
 refine ZaV (by decide +kernel) ?_
 walk_at "z"
 refine ZaV (by decide +kernel) ?_
 walk_at "z"
 rfl
theorem Zl6(h:ZcP [Zao n c,Z1 n x]=some (.int v)): ZcQ [unT n c,Z1 n x]=some (.bool (decide (v<0))):=by
 apply Pk.eq
 unfold ZcQ ZeK unT
 walk_at "z"
 refine Pk.of h ?_
 walk_at "z"
 refine ZcA su ?_
 walk_at "z"
 rfl
theorem Zl7(h:ZcP [Zao n c,Z1 n x]=some (.int v)): ZcQ [smT n c,Z1 n x]=some (.bool (decide (v=0))):=by
 apply Pk.eq
 unfold ZcQ ZeK smT
 walk_at "z"
 refine Pk.of h ?_
 walk_at "z"
 refine ZaV (by decide +kernel) ?_
 walk_at "z"
 refine ZcA ss_ ?_
 walk_at "z"
 rfl
theorem Zl8(hd:0<d)(h:ZcP [Zao n c,Z1 n x]=some (.int v)): ZcQ [evT n c d,Z1 n x]=some (.bool (decide (v.fmod d=0))):=by
 apply Pk.eq
 unfold ZcQ ZeK evT
 walk_at "z"
 refine Pk.of h ?_
 walk_at "z"
 refine ZaV (by decide +kernel) ?_
 walk_at "z"
 refine ZaV (by decide +kernel) ?_
 walk_at "z"
 rfl
noncomputable def pkd(s:Sp2)(p:Int): Int:=match s.1,s.2 with
 | none,none=>p
 | some l,none=>l+ZjP p
 | none,some h=>h-ZjP p
 | some l,some h=>l+p.fmod (h-l+1)
theorem Znm{s:Sp2}{p:Int}(h:∀x y,s.1=some x→s.2=some y→x≤y): Zgm [oT s.1,oT s.2,.int p]=some (.int (pkd s p)):=by
 apply Pk.eq
 unfold Zgm ZiE pkd
 obtain⟨a,b⟩:=s
 cases a with
 | none=>
  cases b with
  | none=>rw[Zgy];walk_at "z";rfl
  | some y=>rw[Zgy,Zfb];walk_at "z";rfl
 | some x=>
  cases b with
  | none=>rw[Zgy,Zfb];walk_at "z";rfl
  | some y=>
   have:y-x+1≠0:=by have:=h x y rfl rfl;omega
   rw[Zfb,Zfb];walk_at "z";rfl
theorem ZlE(bd:d.natAbs<2 ^ 300): Builtin.divisionGoesByPylong a d=false:=by
 refine PyProof.noPylong_of_log2 ?_
 by_cases h0:d.natAbs=0
 ·rw[h0];decide +kernel
 ·exact Nat.lt_of_lt_of_le ((Nat.log2_lt h0).mpr bd) (by decide)
section
variable {n X:Nat} {c x:Nat→Int} {d p v:Int} {s:Sp2} {A:T}
theorem Ze5(hX:X<n)(hn:n≤60): Zel [Z1 n x,.int ((X:Int)+1),.int v]=some (Z1 n fun i=>if i=X then v else x i):=by
 unfold Z1
 rw[Zpg hX (by lia) (fun i _=>rfl) rfl]
 congr 2
 refine Zm6 fun i _=>?_
 show _=T.int (if i=X then v else x i)
 split <;> rfl
theorem Zn9(hv:ZbF [Zao n c,Z1 n x]=some (.int (Za5 c x n))): ZcG [Z1 n x,.tup [.str (Str.ofString "set"),.int ((X:Int)+1),Zao n c],.int p]=some (.int (Za5 c x n)):=by
 apply Pk.eq
 unfold ZcG Zea
 walk_at "z"
 refine ZaV (by decide +kernel) ?_
 walk_at "z"
 refine Pk.of hv ?_
 walk_at "z"
 refine ZaV (by decide +kernel) ?_
 walk_at "z"
 refine ZaV (by decide +kernel) ?_
 walk_at "z"
 rfl
theorem Zoa(hX:X<n)(hn:n≤60)(hv:ZbF [Zao n c,Z1 n x]=some (.int (Za5 c x n))): Zbp [Z1 n x,.tup [.str (Str.ofString "set"),.int ((X:Int)+1),Zao n c],.int p]=some (Z1 n fun i=>if i=X then Za5 c x n else x i):=by
 have hl:=Ze5 (x:=x) (v:=Za5 c x n) hX hn
 have hw:=Zn9 (n:=n) (X:=X) (x:=x) (p:=p) hv
 apply Pk.eq
 unfold Zbp Zc7
 walk_at "z"
 refine ZaV (by decide +kernel) ?_
 walk_at "z"
 refine Zd2 (by decide +kernel) (r:=false) (by decide +kernel) ?_
 walk_at "z"
 refine Pk.of hw ?_
 walk_at "z"
 exact Pk.of hl rfl
theorem Znn(hd:0<d)(bd:d.natAbs<2 ^ 300)(hv:ZbF [Zao n c,Z1 n x]=some (.int (Za5 c x n))): ZcG [Z1 n x,.tup [.str (Str.ofString "part"),.int ((X:Int)+1),Zao n c,.int d],.int p]=some (.int ((Za5 c x n).fdiv d)):=by
 apply Pk.eq
 unfold ZcG Zea
 walk_at "z"
 refine ZaV (by decide +kernel) ?_
 walk_at "z"
 refine Pk.of hv ?_
 walk_at "z"
 refine ZcA (by decide +kernel) ?_
 walk_at "z"
 exact Zlt (by lia) (ZlE bd) rfl
theorem Zno(hX:X<n)(hn:n≤60)(hd:0<d)(bd:d.natAbs<2 ^ 300)(hv:ZbF [Zao n c,Z1 n x]=some (.int (Za5 c x n))): Zbp [Z1 n x,.tup [.str (Str.ofString "part"),.int ((X:Int)+1),Zao n c,.int d],.int p]=some (Z1 n fun i=>if i=X then(Za5 c x n).fdiv d else x i):=by
 have hl:=Ze5 (x:=x) (v:=(Za5 c x n).fdiv d) hX hn
 have hw:=Znn (n:=n) (X:=X) (x:=x) (p:=p) hd bd hv
 apply Pk.eq
 unfold Zbp Zc7
 walk_at "z"
 refine ZaV (by decide +kernel) ?_
 walk_at "z"
 refine Zd2 (by decide +kernel) (r:=false) (by decide +kernel) ?_
 walk_at "z"
 refine Pk.of hw ?_
 walk_at "z"
 exact Pk.of hl rfl
theorem Znp(hd:0<d)(hv:ZbF [Zao n c,Z1 n x]=some (.int (Za5 c x n))): ZcG [Z1 n x,.tup [.str (Str.ofString "rest"),.int ((X:Int)+1),Zao n c,.int d],.int p]=some (.int ((Za5 c x n).fmod d)):=by
 apply Pk.eq
 unfold ZcG Zea
 walk_at "z"
 refine ZaV (by decide +kernel) ?_
 walk_at "z"
 refine Pk.of hv ?_
 walk_at "z"
 refine ZaV (by decide +kernel) ?_
 walk_at "z"
 refine ZcA (by decide +kernel) ?_
 walk_at "z"
 rfl
theorem Znq(hX:X<n)(hn:n≤60)(hd:0<d)(hv:ZbF [Zao n c,Z1 n x]=some (.int (Za5 c x n))): Zbp [Z1 n x,.tup [.str (Str.ofString "rest"),.int ((X:Int)+1),Zao n c,.int d],.int p]=some (Z1 n fun i=>if i=X then(Za5 c x n).fmod d else x i):=by
 have hl:=Ze5 (x:=x) (v:=(Za5 c x n).fmod d) hX hn
 have hw:=Znp (n:=n) (X:=X) (x:=x) (p:=p) hd hv
 apply Pk.eq
 unfold Zbp Zc7
 walk_at "z"
 refine ZaV (by decide +kernel) ?_
 walk_at "z"
 refine Zd2 (by decide +kernel) (r:=false) (by decide +kernel) ?_
 walk_at "z"
 refine Pk.of hw ?_
 walk_at "z"
 exact Pk.of hl rfl
theorem Zob(hs:∀x y,s.1=some x→s.2=some y→x≤y): ZcG [Z1 n x,.tup [.str (Str.ofString "any"),.int ((X:Int)+1),oT s.1,oT s.2],.int p]=some (.int (pkd s p)):=by
 apply Pk.eq
 unfold ZcG Zea
 walk_at "z"
 refine ZcA (by decide +kernel) ?_
 walk_at "z"
 exact Pk.of (Znm hs) rfl
theorem Zoc(hX:X<n)(hn:n≤60)(hs:∀x y,s.1=some x→s.2=some y→x≤y): Zbp [Z1 n x,.tup [.str (Str.ofString "any"),.int ((X:Int)+1),oT s.1,oT s.2],.int p]=some (Z1 n fun i=>if i=X then pkd s p else x i):=by
 have hl:=Ze5 (x:=x) (v:=pkd s p) hX hn
 have hw:=Zob (n:=n) (X:=X) (x:=x) (p:=p) hs
 apply Pk.eq
 unfold Zbp Zc7
 walk_at "z"
 refine ZaV (by decide +kernel) ?_
 walk_at "z"
 refine Zd2 (by decide +kernel) (r:=false) (by decide +kernel) ?_
 walk_at "z"
 refine Pk.of hw ?_
 walk_at "z"
 exact Pk.of hl rfl
theorem Znr{Cl:T}{b r:Bool}(h:Zcg [Cl,Z1 n x]=some (.bool r)): Zbp [Z1 n x,.tup [.str (Str.ofString "when"),Cl,.bool b],.int p]=some (if r=b then Z1 n x else .none):=by
 have hl:∀{Q:T→Prop},Q (Z1 n x)→Pk (Zc4 [Z1 n x]) Q:=fun h=>⟨_,rfl,h⟩
 have hf:(Z1 n x).flatIn=true:=Zig fun _ _=>rfl
 apply Pk.eq
 unfold Zbp Zc7
 cases r <;> cases b
 all_goals
  walk_at "z"
  refine ZcA (by decide +kernel) ?_
  walk_at "z"
  refine Pk.of h ?_
  walk_at "z"
  first
  | rfl
  | (refine Zd2 (by decide +kernel) (r:=true) (by decide +kernel) ?_;walk_at "z";refine hl ?_;refine⟨hf,?_⟩;walk_at "z";rfl)
theorem Zpi: Zbp [Z1 n x,.tup [.str (Str.ofString "go")],.int p]=some (Z1 n x):=by
 apply Pk.eq
 unfold Zbp Zc7
 walk_at "z"
 refine ZaV (by decide +kernel) ?_
 walk_at "z"
 refine Zd2 (by decide +kernel) (r:=true) (by decide +kernel) ?_
 unfold Z1
 walk_at "z"
 rfl
theorem Zod: Zbp [Z1 n x,.tup [.str (Str.ofString "say"),A],.int p]=some (Z1 n x):=by
 apply Pk.eq
 unfold Zbp Zc7
 walk_at "z"
 refine ZaV (by decide +kernel) ?_
 walk_at "z"
 refine Zd2 (by decide +kernel) (r:=true) (by decide +kernel) ?_
 unfold Z1
 walk_at "z"
 rfl
end
theorem Zbu(bs:List Int): Z0 bs=Z1 bs.length (fun i=>bs.getD i 0):=by
 unfold Z0 Z1
 congr 1
 apply List.ext_getElem
 ·simp[tab]
 ·intro i h1 h2
  simp[tab]at h1 h2 ⊢
  rw[Zy1 (by omega)]
  rfl
theorem Zqq(n:Nat)(f:Nat→Int): Z1 n f=Z0 (tab n f):=by
 unfold Z0 Z1
 congr 1
 simp[tab]
theorem Zfg: Z1 bs.length (fun i=>if i=X then v else bs.getD i 0)=Z0 (bs.set X v):=by
 rw[Zqq]
 congr 1
 apply List.ext_getElem
 ·simp[tab]
 ·intro i h1 h2
  simp[tab]at h1 h2 ⊢
  rw[List.getElem_set]
  by_cases c:i=X
  ·rw[if_pos c,if_pos c.symm]
  ·rw[if_neg c,if_neg (Ne.symm c),Zy1 (by omega)]
   rfl
noncomputable def ZcE(c:Nat→Int)(bs:List Int): Int:=Za5 c (fun i=>bs.getD i 0) bs.length
section
variable {bs:List Int} {c:Nat→Int}
theorem Zpj(hn:bs.length≤60)(hc:Sh bs.length c): ZbF [Zao bs.length c,Z0 bs]=some (.int (ZcE c bs)):=by
 rw[Zbu];exact ZdV hn hc
theorem ZkJ(hn:bs.length≤60)(hc:Sh bs.length c): ZcP [Zao bs.length c,Z0 bs]=some (.int (ZcE c bs)):=by
 rw[Zbu];exact Zgr hn hc
end
inductive ClOk(n:Nat): T→Prop where
 | un {c:Nat→Int}:Sh n c→ClOk n (unT n c)
 | sm {c:Nat→Int}:Sh n c→ClOk n (smT n c)
 | ev {c:Nat→Int} {d:Int}:Sh n c→0<d→ClOk n (evT n c d)
theorem ZlS(h:ClOk bs.length t)(hn:bs.length≤60): ∃r,Zcg [t,Z0 bs]=some (.bool r)∧ZcQ [t,Z0 bs]=some (.bool r):=by
 cases h with
 | @un c hc=>
  have h1:=ZdV (x:=fun i=>bs.getD i 0) hn hc
  have h2:=Zgr (x:=fun i=>bs.getD i 0) hn hc
  exact⟨_,by rw[Zbu];exact ZmP h1,by rw[Zbu];exact Zl6 h2⟩
 | @sm c hc=>
  have h1:=ZdV (x:=fun i=>bs.getD i 0) hn hc
  have h2:=Zgr (x:=fun i=>bs.getD i 0) hn hc
  exact⟨_,by rw[Zbu];exact ZmQ h1,by rw[Zbu];exact Zl7 h2⟩
 | @ev c d hc hd=>
  have h1:=ZdV (x:=fun i=>bs.getD i 0) hn hc
  have h2:=Zgr (x:=fun i=>bs.getD i 0) hn hc
  exact⟨_,by rw[Zbu];exact ZmR hd h1,by rw[Zbu];exact Zl8 hd h2⟩
inductive PlOk(sig:Nat→Nat×Nat)(g n:Nat): T→Prop where
 | set {X:Nat} {c:Nat→Int}:X<n→Sh n c→PlOk sig g n (.tup [.str (Str.ofString "set"),.int ((X:Int)+1),Zao n c])
 | part {X:Nat} {c:Nat→Int} {d:Int}:X<n→Sh n c→0<d→d.natAbs<2 ^ 300→PlOk sig g n (.tup [.str (Str.ofString "part"),.int ((X:Int)+1),Zao n c,.int d])
 | rest {X:Nat} {c:Nat→Int} {d:Int}:X<n→Sh n c→0<d→PlOk sig g n (.tup [.str (Str.ofString "rest"),.int ((X:Int)+1),Zao n c,.int d])
 | any {X:Nat} {s:Sp2}:X<n→(∀x y,s.1=some x→s.2=some y→x≤y)→PlOk sig g n (.tup [.str (Str.ofString "any"),.int ((X:Int)+1),oT s.1,oT s.2])
 | say {c:T}:ClOk n c→PlOk sig g n (.tup [.str (Str.ofString "say"),c])
 | call {X h:Nat} {sums:List T}:X<n→h<g→sums.length=(sig h).1→(∀s∈sums,∃c,s=Zao n c∧Sh n c)→PlOk sig g n (.tup [.str (Str.ofString "call"),.int ((X:Int)+1),.int h,.lst sums])
noncomputable def ZbP(tp tw:T)(ks:List Int): Nat→RS→Option (List Mo×Nat)
 | 0,s=>some ([],s.n)
 | k+1,s=>(ZcJ tw s).bind fun q=>if q then some ([],s.n)else(ZbZ tp tw ks s).bind fun s'=>(ZbP tp tw ks k s').map fun r=>(s'.m::r.1,r.2)
theorem Zle{tp tw:T}{ks:List Int}: ∀{k:Nat} {s:RS} {r:List Mo×Nat},ZbP tp tw ks k s=some r→Zev tp tw ks k s=some r.1
 | 0,s,r,e=>by cases e;rfl
 | k+1,s,r,e=>by
  obtain⟨q,e1,e⟩:=Zz0.mp e
  cases q with
  | true=>rw[if_pos rfl]at e;cases e;simp[Zev,e1]
  | false=>
   rw[if_neg (by decide)]at e
   obtain⟨s',e2,e⟩:=Zz0.mp e
   obtain⟨r',e3,rfl⟩:=Zz1.mp e
   simp[Zev,e1,e2,Zle e3]
noncomputable def Cps(tp tw:T)(ks:List Int)(most:Nat)(s:RS)(ms:List Mo)(s':RS)(ms':List Mo): Prop:=∃new,ms'=ms++new∧∀r,ZbP tp tw ks (most-ms'.length) s'=some r→ZbP tp tw ks (most-ms.length) s=some (new++r.1,r.2)
noncomputable def mkM(most:Nat)(ms:List Mo)(m:Mo): List Mo:=if ms.length<most then ms++[m]else ms
section
variable {tp tw:T} {ks:List Int} {most:Nat} {s s' s'':RS} {ms ms' ms'':List Mo}
theorem Cps.refl: Cps tp tw ks most s ms s ms:=⟨[],by simp,fun r e=>by simpa using e⟩
theorem Cps.trans(a:Cps tp tw ks most s ms s' ms')(b:Cps tp tw ks most s' ms' s'' ms''): Cps tp tw ks most s ms s'' ms'':=by
 obtain⟨n1,rfl,h1⟩:=a
 obtain⟨n2,rfl,h2⟩:=b
 refine⟨n1++n2,by simp,fun r e=>?_⟩
 have:=h1 _ (h2 r e)
 simpa using this
theorem Cps.step(e1:ZcJ tw s=some false)(e2:ZbZ tp tw ks s=some s')(h:ms.length<most∨s'.n=s.n): Cps tp tw ks most s ms s' (mkM most ms s'.m):=by
 unfold mkM
 by_cases c:ms.length<most
 ·rw[if_pos c]
  refine⟨[s'.m],rfl,fun r e=>?_⟩
  have:most-ms.length=(most-(ms++[s'.m]).length)+1:=by simp;lia
  rw[this]
  simp only[ZbP,e1,Zs0,e2,e,Zs1]
  rfl
 ·rw[if_neg c]
  refine⟨[],by simp,fun r e=>?_⟩
  rw[show most-ms.length=0 by omega]at e ⊢
  cases e
  have:=h.resolve_left c
  simp[ZbP,this]
theorem Zlf(h:¬ms.length<most)(hn:s'.n=s.n): Cps tp tw ks most s ms s' ms:=⟨[],by simp,fun r e=>by
 rw[show most-ms.length=0 by omega]at e ⊢
 cases e
 simp[ZbP,hn]⟩
end
section
variable {tp tw:T} {ks:List Int} {n:Nat} {wt:List (Mo×T)} {f u:Int} {bs:List Int}
theorem ZcX{s:RS}{row:T}{rs:List T}(h:ZaU tw s.m=some (row::rs)): ZcJ tw s=some false:=by
 simp[ZcJ,h]
theorem Zi9(l:List Int): ZdH (Z0 l)=some l:=by
 simp[ZdH,Z0,unL,Zfp]
theorem ZlF(l:List Int): unD (Z0 l)=some (some l):=by
 simp[unD,Z0,Zfp]
theorem ZkK{as:List T}{bs':List Int}(h:ZaU tw (f,u,bs)=some [rowT u (.tup (.str wd::as)) q])(hw:PyData.strOk wd=true)(hc:wd≠Str.ofString "call")(hd:Zbp [Z0 bs,.tup (.str wd::as),.int (ZaP ks n wd).2]=some (Z0 bs')): ZbZ tp tw ks ⟨n,wt,(f,u,bs)⟩=some ⟨(ZaP ks n wd).1,wt,(f,q,bs')⟩:=by
 have e:ZfF bs (.tup (.str wd::as)) (ZaP ks n wd).2=some (some bs'):=by simp[ZfF,hd,ZlF]
 unfold rowT at h
 simp only[ZbZ,h,Zs0,if_pos hw,if_neg hc,Zen,ZfO,e,Zhj,Zs1,id]
theorem Zix{c:T}{q1 q2:Int}{r:Bool}(h:ZaU tw (f,u,bs)=some [rowT u (ZaA c true) q1,rowT u (ZaA c false) q2])(hh:Zcg [c,Z0 bs]=some (.bool r)): ZbZ tp tw ks ⟨n,wt,(f,u,bs)⟩=some ⟨n,wt,(f,if r then q1 else q2,bs)⟩:=by
 have hp:ZaP ks n (Str.ofString "when")=(n,0):=by
  unfold ZaP;rw[if_neg (by decide +kernel)]
 have d:∀b:Bool,ZfF bs (ZaA c b) 0=some (if r=b then some bs else none):=fun b=>by
  have:=Znr (n:=bs.length) (x:=fun i=>bs.getD i 0) (p:=0) (b:=b) (by rw[←Zbu];exact hh)
  rw[←Zbu]at this
  unfold ZfF ZaA
  rw[this]
  cases r <;> cases b <;> simp[ZlF] <;> rfl
 have d1:=d true
 have d2:=d false
 unfold rowT at h
 unfold ZaA at h d1 d2
 simp only[ZbZ,h,Zs0,if_pos (show PyData.strOk (Str.ofString "when")=true by decide +kernel),if_neg (show Str.ofString "when"≠Str.ofString "call" by decide +kernel),hp,Zen,ZfO,d1,d2]
 cases r <;> simp[Zhj]
end
structure Gw(K:Hp)(g mk kk L0:Nat)(vp:V)(tp:T)(ks:List Int)(most u:Nat)(ms:List Mo)(F:List Nat): Prop where
 hg:K[g]?=some [vp,.ref kk,.int u,.ref mk,.int most]
 hm:∃vs,K[mk]?=some vs∧MomR K (fun a=>L0≤a∧a≠g∧a≠mk) vs ms F
 rp:RFo K vp tp (· < L0)
 rk:K[kk]?=some (ks.map V.int)
 kl:kk<L0
 lg:L0≤g
 lm:L0≤mk
 gm:g≠mk
 l0:0<L0
 ml:∀m∈ms,m.2.2.length≤100
structure Bx(K:Hp)(g mk L0 x:Nat)(F:List Nat)(bs:List Int): Prop where
 hx:K[x]?=some (bs.map V.int)
 lx:L0≤x
 xg:x≠g
 xm:x≠mk
 xF:x∉F
 bl:bs.length≤100
structure Kept(K:Hp)(g mk x:Nat)(F:List Nat)(K':Hp)(F':List Nat): Prop where
 kp:∀a,a<K.length→a≠g→a≠mk→a≠x→K'[a]?=K[a]?
 le:K.length≤K'.length
 fs:∀a∈F',a∈F∨K.length≤a
section
variable {K K' K'':Hp} {g mk kk L0 x:Nat} {vp:V} {tp:T} {ks:List Int} {most u:Nat} {ms:List Mo} {F F' F'':List Nat} {bs:List Int}
theorem Kept.trans(a:Kept K g mk x F K' F')(b:Kept K' g mk x F' K'' F''): Kept K g mk x F K'' F'':=
 ⟨fun i l h1 h2 h3=>(b.kp i (Nat.lt_of_lt_of_le l a.le) h1 h2 h3).trans (a.kp i l h1 h2 h3),Nat.le_trans a.le b.le,fun i m=>by
  have:=a.le
  rcases b.fs i m with q | q
  ·exact a.fs i q
  ·exact .inr (by lia)⟩
theorem Kept.refl: Kept K g mk x F K F:=⟨fun _ _ _ _ _=>rfl,Nat.le_refl _,fun _ m=>.inl m⟩
theorem Gw.glt(G:Gw K g mk kk L0 vp tp ks most u ms F): g<K.length:=lt_of_at G.hg
theorem Gw.mlt(G:Gw K g mk kk L0 vp tp ks most u ms F): mk<K.length:=by obtain⟨_,h,_⟩:=G.hm;exact lt_of_at h
theorem i53(a b c d e:V)(k:Nat)(hk:K[k]?=some [a,b,c,d,e]): Zf (.ref k) (.int 3) K=some (d,K):=by simp only[Zf,hk];rfl
theorem i54(a b c d e:V)(k:Nat)(hk:K[k]?=some [a,b,c,d,e]): Zf (.ref k) (.int 4) K=some (e,K):=by simp only[Zf,hk];rfl
theorem i52(a b c d e:V)(k:Nat)(hk:K[k]?=some [a,b,c,d,e]): Zf (.ref k) (.int 2) K=some (c,K):=by simp only[Zf,hk];rfl
theorem i51(a b c d e:V)(k:Nat)(hk:K[k]?=some [a,b,c,d,e]): Zf (.ref k) (.int 1) K=some (b,K):=by simp only[Zf,hk];rfl
theorem i50(a b c d e:V)(k:Nat)(hk:K[k]?=some [a,b,c,d,e]): Zf (.ref k) (.int 0) K=some (a,K):=by simp only[Zf,hk];rfl
theorem ZiH(G:Gw K g mk kk L0 vp tp ks most u ms F)(h0:ρ 0=some (.ref g)): Zs (Zc oLt (Zh Z3 (Zb (Zc Zf (Za 0) (Zd 3)) Ze)) (Zc Zf (Za 0) (Zd 4))) ρ K=some (decide (ms.length<most),K):=by
 obtain⟨vs,h1,h2⟩:=G.hm
 have hl:=h2.length
 simp[Zs,Zc,Za,h0,Zd,Zh,Zb,Ze,i53 _ _ _ _ _ _ G.hg,i54 _ _ _ _ _ _ G.hg,Z3,h1,Zak,hl]
theorem Zct{f p:Int}(G:Gw K g mk kk L0 vp tp ks most u ms F)(B:Bx K g mk L0 x F bs)(hm:most≤1000): ∃K' F',ZaM [.ref g,.int f,.int p,.ref x] K=some (.none,K')∧Gw K' g mk kk L0 vp tp ks most u (mkM most ms (f,p,bs)) F'∧Bx K' g mk L0 x F' bs∧Kept K g mk x F K' F':=by
 obtain⟨vs,h1,h2⟩:=G.hm
 have hl:=h2.length
 have rr:=ZiH (ρ:=fun i=>[V.ref g,.int f,.int p,.ref x][i]?) G rfl
 unfold ZaM Zij ZH
 simp only[List.length_cons,List.length_nil,if_true,Zz,rr,Zs0]
 unfold mkM
 by_cases c:ms.length<most
 ·rw[decide_eq_true c,if_pos rfl,if_pos c]
  have hx:=B.hx
  have lx:=lt_of_at B.hx
  have lg:=G.glt
  have lm:=G.mlt
  generalize hK1:K++[bs.map V.int]=K1
  have l1:K1.length=K.length+1:=by rw[←hK1];simp
  have k1:∀a,a<K.length→K1[a]?=K[a]?:=fun a l=>by rw[←hK1,Zy0 l]
  have k1n:K1[K.length]?=some (bs.map V.int):=by rw[←hK1];simp
  generalize hK2:K1.set mk (vs++[Z2 (f,p,bs) K.length])=K2
  have l2:K2.length=K.length+1:=by rw[←hK2];simp[l1]
  have k2:∀a,a<K.length→a≠mk→K2[a]?=K[a]?:=fun a l h=>by rw[←hK2,Zy2 (Ne.symm h),k1 a l]
  have k2n:K2[K.length]?=some (bs.map V.int):=by rw[←hK2,Zy2 (by lia),k1n]
  have k2m:K2[mk]?=some (vs++[Z2 (f,p,bs) K.length]):=by rw[←hK2,Zy6 (by lia)]
  have nF:K.length∉F:=fun q=>by have:=(h2.lt _ q).1;lia
  refine⟨K2,F++[K.length],?_,⟨(k2 g lg G.gm).trans G.hg,⟨_,k2m,.snoc (h2.keep fun a p l=>k2 a l p.2.2) k2n ⟨by have:=G.lg;lia,by lia,by lia⟩ nF⟩,G.rp.keep fun a p l=>k2 a l (by have:=G.lm;lia),(k2 kk (lt_of_at G.rk) (by have:=G.kl;have:=G.lm;lia)).trans G.rk,G.kl,G.lg,G.lm,G.gm,G.l0,fun m hm=>(Zz8.mp hm).elim (G.ml m) (fun q=>by rw[List.mem_singleton]at q;subst q;exact B.bl)⟩,⟨(k2 x lx B.xm).trans hx,B.lx,B.xg,B.xm,fun q=>?_,B.bl⟩,⟨fun a l _ h _=>k2 a l h,by lia,fun a m=>?_⟩⟩
  ·have o1:Zbt [.ref x] K=some (.ref K.length,K1):=by simp[Zbt,hx,←hK1]
   have hm1:K1[mk]?=some vs:=(k1 mk lm).trans h1
   have lvs:vs.length<100000:=by lia
   have m0:mk≠0:=by have:=G.lm;have:=G.l0;lia
   simp[ZC,ZaD,Zc,Za,Zd,i53 _ _ _ _ _ _ G.hg,Z8,Zb,Ze,Zh,o1,Zac,Zcf,hm1,lvs,m0]
   rw[←hK2]
   rfl
  ·rcases Zz8.mp q with q | q
   ·exact B.xF q
   ·rw[List.mem_singleton]at q;lia
  ·rcases Zz8.mp m with q | q
   ·exact .inl q
   ·rw[List.mem_singleton]at q;exact .inr (by lia)
 ·rw[decide_eq_false c,if_neg (by decide),if_neg c]
  exact⟨K,F,by simp[ZL],G,B,.refl⟩
theorem Zfh(G:Gw K g mk kk L0 vp tp ks most u ms F)(B:Bx K g mk L0 x F bs)(hX:X<bs.length): ∃K',ZdE (.ref x) (.int ((X:Int)+1-1)) (.int v) K=some K'∧Gw K' g mk kk L0 vp tp ks most u ms F∧Bx K' g mk L0 x F (bs.set X v)∧Kept K g mk x F K' F:=by
 obtain⟨vs,h1,h2⟩:=G.hm
 have lx:=lt_of_at B.hx
 generalize hK2:K.set x ((bs.set X v).map V.int)=K2
 have l2:K2.length=K.length:=by rw[←hK2];simp
 have k2:∀a,a≠x→K2[a]?=K[a]?:=fun a h=>by rw[←hK2,Zy2 (Ne.symm h)]
 have x0:x≠0:=by have:=B.lx;have:=G.l0;lia
 refine⟨K2,?_,⟨(k2 g (Ne.symm B.xg)).trans G.hg,⟨vs,(k2 mk (Ne.symm B.xm)).trans h1,?_⟩,G.rp.keep fun a p l=>k2 a (by have:=B.lx;lia),(k2 kk (by have:=G.kl;have:=B.lx;lia)).trans G.rk,G.kl,G.lg,G.lm,G.gm,G.l0,G.ml⟩,⟨by rw[←hK2,Zy6 lx],B.lx,B.xg,B.xm,B.xF,by simpa using B.bl⟩,⟨fun a l _ _ h=>k2 a h,by lia,fun a m=>.inl m⟩⟩
 ·simp[ZdE,B.hx,x0,hX,←hK2,List.map_set]
 ·have:∀{vs:List V} {ms:List Mo} {F:List Nat},MomR K (fun a=>L0≤a∧a≠g∧a≠mk) vs ms F→x∉F→MomR K2 (fun a=>L0≤a∧a≠g∧a≠mk) vs ms F:=by
   intro vs ms F r
   induction r with
   | nil=>intro _;exact .nil
   | @snoc vs ms F m b _ hb p n ih=>
    intro hx
    refine .snoc (ih fun q=>hx (Zz4 _ q)) ((k2 b fun q=>hx (by simp[q])).trans hb) p n
  exact this h2 B.xF
end
section
variable {K:Hp} {g mk kk L0 x:Nat} {vp:V} {tp:T} {ks:List Int} {most u:Nat} {ms:List Mo} {F:List Nat} {bs:List Int}
theorem ZaH{i:Nat}{w:Str}{as:List V}(h:ρ i=some (.tup (.str wd::as)))(h1:PyData.strOk wd=true)(h2:PyData.strOk w=true): Zs (Zc ZN (Zc Zf (Za i) (Zd 0)) (ZG w)) ρ K=some (decide (wd=w),K):=by
 simp[Zs,Zc,Za,h,Zd,ia0,ZG,Zjq h1 h2,Zak]
theorem Gw.ext(G:Gw K g mk kk L0 vp tp ks most u ms F)(X:Hp): Gw (K++X) g mk kk L0 vp tp ks most u ms F:=by
 have k:∀a,a<K.length→(K++X)[a]?=K[a]?:=fun a l=>Zy0 l
 obtain⟨vs,h1,h2⟩:=G.hm
 exact⟨(k g G.glt).trans G.hg,⟨vs,(k mk G.mlt).trans h1,h2.keep fun a _ l=>k a l⟩,G.rp.keep fun a _ l=>k a l,(k kk (lt_of_at G.rk)).trans G.rk,G.kl,G.lg,G.lm,G.gm,G.l0,G.ml⟩
theorem Bx.ext(B:Bx K g mk L0 x F bs)(X:Hp): Bx (K++X) g mk L0 x F bs:=⟨(Zy0 (lt_of_at B.hx)).trans B.hx,B.lx,B.xg,B.xm,B.xF,B.bl⟩
theorem Kept.ext(X:Hp): Kept K g mk x F (K++X) F:=⟨fun a l _ _ _=>Zy0 l,by simp,fun a m=>.inl m⟩
theorem ZmS{s:Sp2}(G:Gw K g mk kk L0 vp tp ks most u ms F)(hs:∀x y,s.1=some x→s.2=some y→x≤y): ∃K',ZeG [.ref g,(match s.1 with | none=>.none | some a=>.int a),(match s.2 with | none=>.none | some a=>.int a)] K=some (.int (pkd s (ks.getD u 0)),K')∧Gw K' g mk kk L0 vp tp ks most (u+1) ms F∧K'.length=K.length∧∀a,a≠g→K'[a]?=K[a]?:=by
 obtain⟨vs,h1,h2⟩:=G.hm
 have lg:=G.glt
 generalize hK2:K.set g [vp,.ref kk,.int (u+1:Nat),.ref mk,.int most]=K2
 have l2:K2.length=K.length:=by rw[←hK2];simp
 have k2:∀a,a≠g→K2[a]?=K[a]?:=fun a h=>by rw[←hK2,Zy2 (Ne.symm h)]
 have k2g:K2[g]?=some [vp,.ref kk,.int (u+1:Nat),.ref mk,.int most]:=by rw[←hK2,Zy6 lg]
 have g0:g≠0:=by have:=G.lg;have:=G.l0;lia
 have gk:kk≠g:=by have:=G.kl;have:=G.lg;lia
 refine⟨K2,?_,⟨k2g,⟨vs,(k2 mk (Ne.symm G.gm)).trans h1,h2.keep fun a p l=>k2 a p.2.1⟩,G.rp.keep fun a p l=>k2 a (by have:=G.lg;lia),(k2 kk gk).trans G.rk,G.kl,G.lg,G.lm,G.gm,G.l0,G.ml⟩,l2,k2⟩
 have ln:Z3 [.ref kk] K=some (.int ks.length,K):=by simp[Z3,G.rk]
 generalize hva:(match s.1 with | none=>V.none | some a=>V.int a)=va
 generalize hvb:(match s.2 with | none=>V.none | some a=>V.int a)=vb
 unfold ZeG Zhw ZH
 simp only[List.length_cons,List.length_nil,if_true]
 rw[Zae (ρ1:=upd (fun i=>[V.ref g,va,vb][i]?) 3 (.int 0)) (H1:=K) (by simp[Zw,Zd])]
 have e1:Zz (Zs (Zc oLt (Zc Zf (Za 0) (Zd 2)) (Zh Z3 (Zb (Zc Zf (Za 0) (Zd 1)) Ze)))) (Zw 3 (Zc Zf (Zc Zf (Za 0) (Zd 1)) (Zc Zf (Za 0) (Zd 2)))) ZL (upd (fun i=>[V.ref g,va,vb][i]?) 3 (.int 0)) K=some (none,upd (fun i=>[V.ref g,va,vb][i]?) 3 (.int (ks.getD u 0)),K):=by
  have t1:Zs (Zc oLt (Zc Zf (Za 0) (Zd 2)) (Zh Z3 (Zb (Zc Zf (Za 0) (Zd 1)) Ze))) (upd (fun i=>[V.ref g,va,vb][i]?) 3 (.int 0)) K=some (decide (u<ks.length),K):=by
   simp[Zs,Zc,Za,upd,Zd,i52 _ _ _ _ _ _ G.hg,i51 _ _ _ _ _ _ G.hg,Zh,Zb,Ze,ln,Zak]
  by_cases c:u<ks.length
  ·rw[decide_eq_true c]at t1
   have ix:Zf (.ref kk) (.int u) K=some (.int (ks.getD u 0),K):=by
    have:seqIndex? (u:Int) ks.length=some u:=by unfold seqIndex?;simp;lia
    simp only[Zf,G.rk,Zs0,List.length_map,this]
    rw[List.getElem?_map,Zy1 c,List.getD_eq_getElem?_getD,Zy1 c]
    rfl
   simp only[Zz,t1,Zs0,if_true]
   have uu:∀w,upd (upd (fun i=>[V.ref g,va,vb][i]?) 3 (.int 0)) 3 w=upd (fun i=>[V.ref g,va,vb][i]?) 3 w:=fun w=>by
    funext j;unfold upd;split <;> rfl
   simp only[Zw,Zc,Za,upd,Zd,Zs1,Zs0,List.getElem?_cons_zero,if_false,show(0=3)=False from by simp,i51 _ _ _ _ _ _ G.hg,i52 _ _ _ _ _ _ G.hg,ix]
   exact congrArg some (by rw[Prod.mk.injEq];exact⟨rfl,by rw[Prod.mk.injEq];exact⟨uu _,rfl⟩⟩)
  ·rw[decide_eq_false c]at t1
   have:ks.getD u 0=0:=by rw[List.getD_eq_getElem?_getD,Zy8 (by lia)];rfl
   simp only[Zz,t1,Zs0,Bool.false_eq_true,if_false,ZL,this]
 rw[Zae e1]
 rw[Zae (ρ1:=upd (fun i=>[V.ref g,va,vb][i]?) 3 (.int (ks.getD u 0))) (H1:=K2) (by
  have:ZdE (.ref g) (.int 2) (.int ((u:Int)+1)) K=some K2:=by simp[ZdE,G.hg,g0,←hK2]
  simp[ZaY,Zc,Za,upd,Zd,i52 _ _ _ _ _ _ G.hg,this])]
 obtain⟨sa,sb⟩:=s
 unfold pkd ZjP
 cases sa with
 | none=>
  cases sb with
  | none=>subst hva hvb;simp[Zm,Zz,Zav,Zs,Zc,Za,upd,ZaT,Zak,ZZ,Zy]
  | some b=>subst hva hvb;simp[Zm,Zz,Zav,Zs,Zc,Za,upd,ZaT,Zak,ZZ,Zy,ZL,Zh,Zb,Ze]
 | some a=>
  cases sb with
  | none=>subst hva hvb;simp[Zm,Zz,Zav,Zs,Zc,Za,upd,ZaT,Zak,ZZ,Zy,ZL,Zh,Zb,Ze]
  | some b=>
   have:b-a+1≠0:=by have:=hs a b rfl rfl;lia
   subst hva hvb
   simp[Zm,Zz,Zav,Zs,Zc,Za,upd,ZaT,Zak,ZZ,Zy,ZL,Zh,Zb,Ze,Zd,oMod,this]
theorem Zoe{fg:Nat}{tas:List T}{vt:V}(G:Gw K g mk kk L0 vp tp ks most u ms F)(B:Bx K g mk L0 x F bs)(hn:bs.length≤60)(P:PlOk sig fg bs.length (.tup (.str wd::tas)))(hc:wd≠Str.ofString "call")(r:RFo K vt (.tup (.str wd::tas)) (· < L0)):
  ∃K' bs',Zgd [.ref g,vt,.ref x] K=some (.none,K')∧Gw K' g mk kk L0 vp tp ks most (ZaP ks u wd).1 ms F∧Bx K' g mk L0 x F bs'∧Kept K g mk x F K' F∧bs'.length=bs.length∧PyData.strOk wd=true∧Zbp [Z0 bs,.tup (.str wd::tas),.int (ZaP ks u wd).2]=some (Z0 bs'):=by
 have nx:∀w:Str,w≠Str.ofString "any"→ZaP ks u w=(u,0):=fun w h=>by unfold ZaP;rw[if_neg h]
 have hrun:∀(wd:Str) (as:List V) (K':Hp),PyData.strOk wd=true→Zgd [.ref g,.tup (.str wd::as),.ref x] K=((Zdm (fun i=>[V.ref g,.tup (.str wd::as),.ref x][i]?) K).map fun r=>((r.1.getD .none),r.2.2)):=fun wd as K' h=>rfl
 obtain⟨vs0,rfl,rs0⟩:=r.tup
 obtain⟨vw,vsr,rfl,d0,rs1⟩:=ZT rs0
 have:=d0.str;subst this
 have s1:PyData.strOk (Str.ofString "set")=true:=by decide +kernel
 have s2:PyData.strOk (Str.ofString "part")=true:=by decide +kernel
 have s3:PyData.strOk (Str.ofString "rest")=true:=by decide +kernel
 have s4:PyData.strOk (Str.ofString "any")=true:=by decide +kernel
 have s5:PyData.strOk (Str.ofString "say")=true:=by decide +kernel
 have val:∀{c:Nat→Int} {vc:V},Sh bs.length c→RFo K vc (Zao bs.length c) (· < L0)→∃X,ZbL [vc,.ref x] K=some (.int (ZcE c bs),K++X):=fun hc ⟨Fc,rc,_⟩=>by
  obtain⟨v,X,F,g1,g2,_⟩:=ZhF K _ _ _ _ (Nat.lt_of_le_of_lt (Nat.zero_le _) (lt_of_at B.hx)) (.cons rc (.one (Zcx B.hx))) (ZkJ hn hc)
  cases g2
  exact⟨X,g1⟩
 cases P with
 | @set X c hX hc'=>
  obtain⟨v1,vs1,rfl,d1,rs2⟩:=ZT rs1
  obtain⟨v2,vs2,rfl,d2,rs3⟩:=ZT rs2
  have:=Zbx rs3;subst this
  have:=d1.int;subst this
  obtain⟨Y,y⟩:=val hc' d2
  obtain⟨K',p1,G',B',kp⟩:=Zfh (v:=ZcE c bs) (G.ext Y) (B.ext Y) hX
  have np:=nx (Str.ofString "set") (by decide +kernel)
  refine⟨K',_,?_,by rw[np];exact G',B',(Kept.ext Y).trans kp,by simp,s1,?_⟩
  ·rw[hrun _ _ K s1]
   unfold Zdm
   have t1:∀H,Zs (Zc ZN (Zc Zf (Za 1) (Zd 0)) (ZG (Str.ofString "set"))) (fun i=>[V.ref g,.tup [.str (Str.ofString "set"),.int ((X:Int)+1),v2],.ref x][i]?) H=some (true,H):=fun H=>by rw[ZaH (wd:=Str.ofString "set") rfl s1 s1];simp
   have t2:∀H,Zs (Zc ZN (Zc Zf (Za 1) (Zd 0)) (ZG (Str.ofString "part"))) (fun i=>[V.ref g,.tup [.str (Str.ofString "set"),.int ((X:Int)+1),v2],.ref x][i]?) H=some (false,H):=fun H=>by rw[ZaH (wd:=Str.ofString "set") rfl s1 s2,decide_eq_false (by decide +kernel)]
   have t3:∀H,Zs (Zc ZN (Zc Zf (Za 1) (Zd 0)) (ZG (Str.ofString "rest"))) (fun i=>[V.ref g,.tup [.str (Str.ofString "set"),.int ((X:Int)+1),v2],.ref x][i]?) H=some (false,H):=fun H=>by rw[ZaH (wd:=Str.ofString "set") rfl s1 s3,decide_eq_false (by decide +kernel)]
   have t4:∀H,Zs (Zc ZN (Zc Zf (Za 1) (Zd 0)) (ZG (Str.ofString "any"))) (fun i=>[V.ref g,.tup [.str (Str.ofString "set"),.int ((X:Int)+1),v2],.ref x][i]?) H=some (false,H):=fun H=>by rw[ZaH (wd:=Str.ofString "set") rfl s1 s4,decide_eq_false (by decide +kernel)]
   have st:ZaY (Zh ZbL (Zb (Zc Zf (Za 1) (Zd 2)) (Zb (Za 2) Ze))) (Za 2) (Zc Zaf (Zc Zf (Za 1) (Zd 1)) (Zd 1)) (fun i=>[V.ref g,.tup [.str (Str.ofString "set"),.int ((X:Int)+1),v2],.ref x][i]?) K=some (none,(fun i=>[V.ref g,.tup [.str (Str.ofString "set"),.int ((X:Int)+1),v2],.ref x][i]?),K'):=by
    simp only[ZaY,Zh,Zb,Ze,Zc,Za,Zd,Zdb,Zs0,Zs1,List.getElem?_cons_zero,List.getElem?_cons_succ,i31,i32,y,p1]
   simp only[Zm,Zz,t1,t2,t3,t4,Zs0,if_true,Bool.false_eq_true,if_false,ZL,st]
   rfl
  ·rw[np,Zbu,←Zfg];exact Zoa hX hn (ZdV hn hc')
 | @part X c d hX hc' hd bd=>
  obtain⟨v1,vs1,rfl,d1,rs2⟩:=ZT rs1
  obtain⟨v2,vs2,rfl,d2,rs3⟩:=ZT rs2
  obtain⟨v3,vs3,rfl,d3,rs4⟩:=ZT rs3
  have:=Zbx rs4;subst this
  have:=d1.int;subst this
  have:=d3.int;subst this
  obtain⟨Y,y⟩:=val hc' d2
  obtain⟨K',p1,G',B',kp⟩:=Zfh (v:=(ZcE c bs).fdiv d) (G.ext Y) (B.ext Y) hX
  have np:=nx (Str.ofString "part") (by decide +kernel)
  refine⟨K',_,?_,by rw[np];exact G',B',(Kept.ext Y).trans kp,by simp,s2,?_⟩
  ·rw[hrun _ _ K s2]
   unfold Zdm
   have t1:∀H,Zs (Zc ZN (Zc Zf (Za 1) (Zd 0)) (ZG (Str.ofString "set"))) (fun i=>[V.ref g,.tup [.str (Str.ofString "part"),.int ((X:Int)+1),v2,.int d],.ref x][i]?) H=some (false,H):=fun H=>by rw[ZaH (wd:=Str.ofString "part") rfl s2 s1,decide_eq_false (by decide +kernel)]
   have t2:∀H,Zs (Zc ZN (Zc Zf (Za 1) (Zd 0)) (ZG (Str.ofString "part"))) (fun i=>[V.ref g,.tup [.str (Str.ofString "part"),.int ((X:Int)+1),v2,.int d],.ref x][i]?) H=some (true,H):=fun H=>by rw[ZaH (wd:=Str.ofString "part") rfl s2 s2];simp
   have t3:∀H,Zs (Zc ZN (Zc Zf (Za 1) (Zd 0)) (ZG (Str.ofString "rest"))) (fun i=>[V.ref g,.tup [.str (Str.ofString "part"),.int ((X:Int)+1),v2,.int d],.ref x][i]?) H=some (false,H):=fun H=>by rw[ZaH (wd:=Str.ofString "part") rfl s2 s3,decide_eq_false (by decide +kernel)]
   have t4:∀H,Zs (Zc ZN (Zc Zf (Za 1) (Zd 0)) (ZG (Str.ofString "any"))) (fun i=>[V.ref g,.tup [.str (Str.ofString "part"),.int ((X:Int)+1),v2,.int d],.ref x][i]?) H=some (false,H):=fun H=>by rw[ZaH (wd:=Str.ofString "part") rfl s2 s4,decide_eq_false (by decide +kernel)]
   have dv:oDiv (.int (ZcE c bs)) (.int d) (K++Y)=some (.int ((ZcE c bs).fdiv d),K++Y):=by
    simp only[oDiv];rw[if_pos ⟨by lia,ZlE bd⟩]
   have i41:∀(x y z u:V) (H:Hp),Zf (.tup [x,y,z,u]) (.int 1) H=some (y,H):=fun _ _ _ _ _=>rfl
   have st:ZaY (Zc oDiv (Zh ZbL (Zb (Zc Zf (Za 1) (Zd 2)) (Zb (Za 2) Ze))) (Zc Zf (Za 1) (Zd 3))) (Za 2) (Zc Zaf (Zc Zf (Za 1) (Zd 1)) (Zd 1)) (fun i=>[V.ref g,.tup [.str (Str.ofString "part"),.int ((X:Int)+1),v2,.int d],.ref x][i]?) K=some (none,(fun i=>[V.ref g,.tup [.str (Str.ofString "part"),.int ((X:Int)+1),v2,.int d],.ref x][i]?),K'):=by
    simp only[ZaY,Zh,Zb,Ze,Zc,Za,Zd,Zdb,Zs0,Zs1,List.getElem?_cons_zero,List.getElem?_cons_succ,i41,i42,i43,y,dv,p1]
   simp only[Zm,Zz,t1,t2,t3,t4,Zs0,if_true,Bool.false_eq_true,if_false,ZL,st]
   rfl
  ·rw[np,Zbu,←Zfg];exact Zno hX hn hd bd (ZdV hn hc')
 | @rest X c d hX hc' hd=>
  obtain⟨v1,vs1,rfl,d1,rs2⟩:=ZT rs1
  obtain⟨v2,vs2,rfl,d2,rs3⟩:=ZT rs2
  obtain⟨v3,vs3,rfl,d3,rs4⟩:=ZT rs3
  have:=Zbx rs4;subst this
  have:=d1.int;subst this
  have:=d3.int;subst this
  obtain⟨Y,y⟩:=val hc' d2
  obtain⟨K',p1,G',B',kp⟩:=Zfh (v:=(ZcE c bs).fmod d) (G.ext Y) (B.ext Y) hX
  have np:=nx (Str.ofString "rest") (by decide +kernel)
  refine⟨K',_,?_,by rw[np];exact G',B',(Kept.ext Y).trans kp,by simp,s3,?_⟩
  ·rw[hrun _ _ K s3]
   unfold Zdm
   have t1:∀H,Zs (Zc ZN (Zc Zf (Za 1) (Zd 0)) (ZG (Str.ofString "set"))) (fun i=>[V.ref g,.tup [.str (Str.ofString "rest"),.int ((X:Int)+1),v2,.int d],.ref x][i]?) H=some (false,H):=fun H=>by rw[ZaH (wd:=Str.ofString "rest") rfl s3 s1,decide_eq_false (by decide +kernel)]
   have t2:∀H,Zs (Zc ZN (Zc Zf (Za 1) (Zd 0)) (ZG (Str.ofString "part"))) (fun i=>[V.ref g,.tup [.str (Str.ofString "rest"),.int ((X:Int)+1),v2,.int d],.ref x][i]?) H=some (false,H):=fun H=>by rw[ZaH (wd:=Str.ofString "rest") rfl s3 s2,decide_eq_false (by decide +kernel)]
   have t3:∀H,Zs (Zc ZN (Zc Zf (Za 1) (Zd 0)) (ZG (Str.ofString "rest"))) (fun i=>[V.ref g,.tup [.str (Str.ofString "rest"),.int ((X:Int)+1),v2,.int d],.ref x][i]?) H=some (true,H):=fun H=>by rw[ZaH (wd:=Str.ofString "rest") rfl s3 s3];simp
   have t4:∀H,Zs (Zc ZN (Zc Zf (Za 1) (Zd 0)) (ZG (Str.ofString "any"))) (fun i=>[V.ref g,.tup [.str (Str.ofString "rest"),.int ((X:Int)+1),v2,.int d],.ref x][i]?) H=some (false,H):=fun H=>by rw[ZaH (wd:=Str.ofString "rest") rfl s3 s4,decide_eq_false (by decide +kernel)]
   have dv:oMod (.int (ZcE c bs)) (.int d) (K++Y)=some (.int ((ZcE c bs).fmod d),K++Y):=by
    simp only[oMod];rw[if_pos (by omega)]
   have i41:∀(x y z u:V) (H:Hp),Zf (.tup [x,y,z,u]) (.int 1) H=some (y,H):=fun _ _ _ _ _=>rfl
   have st:ZaY (Zc oMod (Zh ZbL (Zb (Zc Zf (Za 1) (Zd 2)) (Zb (Za 2) Ze))) (Zc Zf (Za 1) (Zd 3))) (Za 2) (Zc Zaf (Zc Zf (Za 1) (Zd 1)) (Zd 1)) (fun i=>[V.ref g,.tup [.str (Str.ofString "rest"),.int ((X:Int)+1),v2,.int d],.ref x][i]?) K=some (none,(fun i=>[V.ref g,.tup [.str (Str.ofString "rest"),.int ((X:Int)+1),v2,.int d],.ref x][i]?),K'):=by
    simp only[ZaY,Zh,Zb,Ze,Zc,Za,Zd,Zdb,Zs0,Zs1,List.getElem?_cons_zero,List.getElem?_cons_succ,i41,i42,i43,y,dv,p1]
   simp only[Zm,Zz,t1,t2,t3,t4,Zs0,if_true,Bool.false_eq_true,if_false,ZL,st]
   rfl
  ·rw[np,Zbu,←Zfg];exact Znq hX hn hd (ZdV hn hc')
 | @any X s hX hs=>
  obtain⟨v1,vs1,rfl,d1,rs2⟩:=ZT rs1
  obtain⟨v2,vs2,rfl,d2,rs3⟩:=ZT rs2
  obtain⟨v3,vs3,rfl,d3,rs4⟩:=ZT rs3
  have:=Zbx rs4;subst this
  have:=d1.int;subst this
  have oi:∀{a:Option Int} {v:V},RFo K v (oT a) (· < L0)→v=(match a with | none=>V.none | some a=>V.int a):=fun {a v} r=>by
   obtain⟨F,r,_⟩:=r
   cases a with
   | none=>rw[Zgy]at r;cases r;rfl
   | some a=>rw[Zfb]at r;cases r;rfl
  have:=oi d2;subst this
  have:=oi d3;subst this
  obtain⟨K1,q1,G1,l1,k1⟩:=ZmS G hs
  have B1:Bx K1 g mk L0 x F bs:=⟨(k1 x B.xg).trans B.hx,B.lx,B.xg,B.xm,B.xF,B.bl⟩
  obtain⟨K',p1,G',B',kp⟩:=Zfh (v:=pkd s (ks.getD u 0)) G1 B1 hX
  have np:ZaP ks u (Str.ofString "any")=(u+1,ks.getD u 0):=by unfold ZaP;rw[if_pos rfl]
  refine⟨K',_,?_,by rw[np];exact G',B',Kept.trans ⟨fun a l h _ _=>k1 a h,by lia,fun a m=>.inl m⟩ kp,by simp,s4,?_⟩
  ·rw[hrun _ _ K s4]
   generalize (match s.1 with | none=>V.none | some a=>V.int a)=va at *
   generalize (match s.2 with | none=>V.none | some a=>V.int a)=vb at *
   unfold Zdm
   have t1:∀H,Zs (Zc ZN (Zc Zf (Za 1) (Zd 0)) (ZG (Str.ofString "set"))) (fun i=>[V.ref g,.tup [.str (Str.ofString "any"),.int ((X:Int)+1),va,vb],.ref x][i]?) H=some (false,H):=fun H=>by rw[ZaH (wd:=Str.ofString "any") rfl s4 s1,decide_eq_false (by decide +kernel)]
   have t2:∀H,Zs (Zc ZN (Zc Zf (Za 1) (Zd 0)) (ZG (Str.ofString "part"))) (fun i=>[V.ref g,.tup [.str (Str.ofString "any"),.int ((X:Int)+1),va,vb],.ref x][i]?) H=some (false,H):=fun H=>by rw[ZaH (wd:=Str.ofString "any") rfl s4 s2,decide_eq_false (by decide +kernel)]
   have t3:∀H,Zs (Zc ZN (Zc Zf (Za 1) (Zd 0)) (ZG (Str.ofString "rest"))) (fun i=>[V.ref g,.tup [.str (Str.ofString "any"),.int ((X:Int)+1),va,vb],.ref x][i]?) H=some (false,H):=fun H=>by rw[ZaH (wd:=Str.ofString "any") rfl s4 s3,decide_eq_false (by decide +kernel)]
   have t4:∀H,Zs (Zc ZN (Zc Zf (Za 1) (Zd 0)) (ZG (Str.ofString "any"))) (fun i=>[V.ref g,.tup [.str (Str.ofString "any"),.int ((X:Int)+1),va,vb],.ref x][i]?) H=some (true,H):=fun H=>by rw[ZaH (wd:=Str.ofString "any") rfl s4 s4];simp
   have i41:∀(x y z u:V) (H:Hp),Zf (.tup [x,y,z,u]) (.int 1) H=some (y,H):=fun _ _ _ _ _=>rfl
   have st:ZaY (Zh ZeG (Zb (Za 0) (Zb (Zc Zf (Za 1) (Zd 2)) (Zb (Zc Zf (Za 1) (Zd 3)) Ze)))) (Za 2) (Zc Zaf (Zc Zf (Za 1) (Zd 1)) (Zd 1)) (fun i=>[V.ref g,.tup [.str (Str.ofString "any"),.int ((X:Int)+1),va,vb],.ref x][i]?) K=some (none,(fun i=>[V.ref g,.tup [.str (Str.ofString "any"),.int ((X:Int)+1),va,vb],.ref x][i]?),K'):=by
    simp only[ZaY,Zh,Zb,Ze,Zc,Za,Zd,Zdb,Zs0,Zs1,List.getElem?_cons_zero,List.getElem?_cons_succ,i41,i42,i43,q1,p1]
   simp only[Zm,Zz,t1,t2,t3,t4,Zs0,if_true,Bool.false_eq_true,if_false,ZL,st]
   rfl
  ·rw[np,Zbu,←Zfg];exact Zoc hX hn hs
 | @say c hcl=>
  have np:=nx (Str.ofString "say") (by decide +kernel)
  refine⟨K,bs,?_,by rw[np];exact G,B,.refl,rfl,s5,?_⟩
  ·rw[hrun _ _ K s5]
   unfold Zdm
   have t1:∀H,Zs (Zc ZN (Zc Zf (Za 1) (Zd 0)) (ZG (Str.ofString "set"))) (fun i=>[V.ref g,.tup (.str (Str.ofString "say")::vsr),.ref x][i]?) H=some (false,H):=fun H=>by rw[ZaH (wd:=Str.ofString "say") rfl s5 s1,decide_eq_false (by decide +kernel)]
   have t2:∀H,Zs (Zc ZN (Zc Zf (Za 1) (Zd 0)) (ZG (Str.ofString "part"))) (fun i=>[V.ref g,.tup (.str (Str.ofString "say")::vsr),.ref x][i]?) H=some (false,H):=fun H=>by rw[ZaH (wd:=Str.ofString "say") rfl s5 s2,decide_eq_false (by decide +kernel)]
   have t3:∀H,Zs (Zc ZN (Zc Zf (Za 1) (Zd 0)) (ZG (Str.ofString "rest"))) (fun i=>[V.ref g,.tup (.str (Str.ofString "say")::vsr),.ref x][i]?) H=some (false,H):=fun H=>by rw[ZaH (wd:=Str.ofString "say") rfl s5 s3,decide_eq_false (by decide +kernel)]
   have t4:∀H,Zs (Zc ZN (Zc Zf (Za 1) (Zd 0)) (ZG (Str.ofString "any"))) (fun i=>[V.ref g,.tup (.str (Str.ofString "say")::vsr),.ref x][i]?) H=some (false,H):=fun H=>by rw[ZaH (wd:=Str.ofString "say") rfl s5 s4,decide_eq_false (by decide +kernel)]
   simp only[Zm,Zz,t1,t2,t3,t4,Zs0,if_true,Bool.false_eq_true,if_false,ZL]
   rfl
  ·rw[np,Zbu];exact Zod
 | call=>exact absurd rfl hc
end
noncomputable def SL(sig:Nat→Nat×Nat)(g n:Nat): Nat→T→Int→List T→Int→Prop
 | 0=>fun t u r e=>PlOk sig g n t∧r=[rowT u t (u+1)]∧e=u+1
 | k+1=>fun t u r e=>(PlOk sig g n t∧r=[rowT u t (u+1)]∧e=u+1) ∨
   (∃c a b ra ea rb eb,t=ifT c a b∧ClOk n c∧LyB (SL sig g n k) a (u+1) ra ea∧LyB (SL sig g n k) b (ea+1) rb eb∧r=rowT u (ZaA c true) (u+1)::(ra++rowT u (ZaA c false) (ea+1)::(rb++[rowT ea goT (eb+1),rowT eb goT (eb+1)]))∧e=eb+1) ∨
   (∃c a ra ea,t=whT c a∧ClOk n c∧LyB (SL sig g n k) a (u+2) ra ea∧r=rowT u goT (u+1)::rowT (u+1) (ZaA c true) (u+2)::(ra++[rowT ea goT (u+1),rowT (u+1) (ZaA c false) (ea+1)])∧e=ea+1)
noncomputable def Btw(u e:Int)(r:List T): Prop:=∀x∈r,∃a t b,x=rowT a t b∧u≤a∧a<e
theorem Btw.mono{u' e':Int}(h:Btw u e r)(h1:u'≤u)(h2:e≤e'): Btw u' e' r:=fun x m=>by
 obtain⟨a,t,b,q,l1,l2⟩:=h x m
 exact⟨a,t,b,q,by lia,by lia⟩
theorem Btw.app(h:Btw u e r)(k:Btw u e s): Btw u e (r++s):=fun x m=>(Zz8.mp m).elim (h x) (k x)
theorem Btw.cons(h1:u≤a)(h2:a<e)(k:Btw u e s): Btw u e (rowT a t b::s):=fun x m=>by
 rcases Zz7.mp m with rfl | m
 ·exact⟨a,t,b,rfl,h1,h2⟩
 ·exact k x m
theorem Btw.nil: Btw u e []:=fun x m=>(List.not_mem_nil m).elim
theorem ZcZ{L:T→Int→List T→Int→Prop}(hL:∀t u r e,L t u r e→u<e∧Btw u e r)(h:LyB L ts u r e): u≤e∧Btw u e r:=by
 induction h with
 | nil=>exact⟨by lia,.nil⟩
 | cons a _ ih=>
  obtain⟨h1,h2⟩:=hL _ _ _ _ a
  obtain⟨h3,h4⟩:=ih
  exact⟨by lia,(h2.mono (by lia) h3).app (h4.mono (by lia) (by lia))⟩
section
variable {sig:Nat→Nat×Nat} {g n:Nat}
theorem ZcL: ∀(k:Nat) (t:T) (u:Int) (r:List T) (e:Int),SL sig g n k t u r e→u<e∧Btw u e r
 | 0,t,u,r,e,h=>by
  obtain⟨_,rfl,rfl⟩:=h
  exact⟨by lia,.cons (by lia) (by omega) .nil⟩
 | k+1,t,u,r,e,h=>by
  rcases h with⟨_,rfl,rfl⟩ | ⟨c,a,b,ra,ea,rb,eb,rfl,hc,ha,hb,rfl,rfl⟩ | ⟨c,a,ra,ea,rfl,hc,ha,rfl,rfl⟩
  ·exact⟨by omega,.cons (by omega) (by omega) .nil⟩
  ·obtain⟨l1,k1⟩:=ZcZ (ZcL k) ha
   obtain⟨l2,k2⟩:=ZcZ (ZcL k) hb
   exact⟨by lia,.cons (by lia) (by omega) ((k1.mono (by lia) (by lia)).app (.cons (by omega) (by omega) ((k2.mono (by lia) (by lia)).app (.cons (by lia) (by lia) (.cons (by lia) (by lia) .nil)))))⟩
  ·obtain⟨l1,k1⟩:=ZcZ (ZcL k) ha
   exact⟨by lia,.cons (by lia) (by omega) (.cons (by lia) (by lia) ((k1.mono (by lia) (by lia)).app (.cons (by lia) (by lia) (.cons (by omega) (by omega) .nil))))⟩
end
theorem ZgK: src q (rowT a t b)=(a == q):=rfl
theorem ZbV(h:Btw u e r)(hq:q<u∨e≤q): r.filter (src q)=[]:=by
 rw[List.filter_eq_nil_iff]
 intro x m
 obtain⟨a,t,b,rfl,l1,l2⟩:=h x m
 rw[ZgK]
 simp
 lia
noncomputable def Seg(tw:T)(f u e:Int)(r:List T): Prop:=∀q bs,u≤q→q<e→ZaU tw (f,q,bs)=some (r.filter (src q))
section
variable {tw:T} {f u e u1 e1:Int} {r r1 r2:List T}
theorem Seg.left(S:Seg tw f u e (r1++r2))(h2:Btw e1 e r2)(l:e1≤e): Seg tw f u e1 r1:=fun q bs a b=>by
 rw[S q bs a (by lia),List.filter_append,ZbV h2 (by omega),List.append_nil]
theorem Seg.right(S:Seg tw f u e (r1++r2))(h1:Btw u e1 r1)(l:u≤e1): Seg tw f e1 e r2:=fun q bs a b=>by
 rw[S q bs (by lia) b,List.filter_append,ZbV h1 (by omega),List.nil_append]
end
section
variable {sig:Nat→Nat×Nat} {g n:Nat}
theorem Zja(h:PlOk sig g n t): ∃w rest,t=.tup (.str w::rest)∧(PyData.strOk w && PyData.strOk iF && decide (w≠iF))=true∧(PyData.strOk w && PyData.strOk wH && decide (w≠wH))=true∧PyData.strOk w=true:=by
 cases h <;> exact⟨_,_,rfl,by decide +kernel,by decide +kernel,by decide +kernel⟩
theorem ZkL{L:T→Int→List T→Int→Prop}(h:LyB L (t::ts) u r e): ∃e1 r1 r2,L t u r1 e1∧LyB L ts e1 r2 e∧r=r1++r2:=by
 cases h with
 | cons a b=>exact⟨_,_,_,a,b,rfl⟩
theorem Zlg{L:T→Int→List T→Int→Prop}(h:LyB L [] u r e): e=u∧r=[]:=by
 cases h
 exact⟨rfl,rfl⟩
theorem Zfi: ∀(m k:Nat),k<m→∀(ts r:List T) (u e:Int),LyB (SL sig g n k) ts u r e→ZcT m [.lst ts]=some (.int (e-u))
 | 0,k,hk,ts,r,u,e,h=>by lia
 | m+1,k,hk,ts,r,u,e,h=>by
  apply Pk.eq
  unfold ZcT Zil
  walk_at "z"
  refine ZiW (ts:=ts) ?_ (P:=fun i σ=>∃u' r',LyB (SL sig g n k) (ts.drop i) u' r' e∧σ 1=some (.int (u'-u))) ⟨u,r,h,by show some (T.int _)=some (T.int _);congr 2;lia⟩ ?_ ?_
  ·walk_at "z"
   rfl
  ·rintro i t σ et ⟨u',r',h',e1⟩
   have ed:ts.drop i=t::ts.drop (i+1):=by
    obtain⟨hl,rfl⟩:=Zz6.mp et
    exact List.drop_eq_getElem_cons hl
   rw[ed]at h'
   obtain⟨e2,r1,r2,hs,hb,rfl⟩:=ZkL h'
   have plain:PlOk sig g n t→e2=u'+1→Psk ((ZD (Zbi 1 (Zk Zag (Zg 1) (Zo 1))) (ZD (qIf (Z6 (Zk qEq (Zk ZF (Zg 2) (Zo 0)) (ZaB (Str.ofString "if")))) (Zbi 1 (Zk Zag (Zk Zag (Zk Zag (Zg 1) (Zo 2)) (ZV (ZcT m) (Zj (Zk ZF (Zg 2) (Zo 2)) Zu))) (ZV (ZcT m) (Zj (Zk ZF (Zg 2) (Zo 3)) Zu)))) Zai) (qIf (Z6 (Zk qEq (Zk ZF (Zg 2) (Zo 0)) (ZaB (Str.ofString "while")))) (Zbi 1 (Zk Zag (Zk Zag (Zg 1) (Zo 2)) (ZV (ZcT m) (Zj (Zk ZF (Zg 2) (Zo 2)) Zu)))) Zai))) (ZI σ 2 t)) (fun x=>x=T.int (e-u)) (fun σ=>∃u' r',LyB (SL sig g n k) (ts.drop (i+1)) u' r' e∧σ 1=some (.int (u'-u))):=by
    intro hp ee
    subst ee
    obtain⟨w,rest,rfl,q1,q2,_⟩:=Zja hp
    walk_at "z"
    refine ZaV q1 ?_
    walk_at "z"
    refine ZaV q2 ?_
    walk_at "z"
    exact⟨_,r2,hb,by show some (T.int _)=some (T.int _);congr 2;lia⟩
   match k,hs,hk with
   | 0,hs,hk=>
    obtain⟨hp,_,ee⟩:=hs
    exact plain hp ee
   | k+1,hs,hk=>
    rcases hs with⟨hp,_,ee⟩ | ⟨c,a,b,ra,ea,rb,eb,rfl,hc,ha,hb2,rfl,rfl⟩ | ⟨c,a,ra,ea,rfl,hc,ha,rfl,rfl⟩
    ·exact plain hp ee
    ·have z1:=Zfi m k (by lia) _ _ _ _ ha
     have z2:=Zfi m k (by omega) _ _ _ _ hb2
     unfold ifT
     walk_at "z"
     refine ZcA (by decide +kernel) ?_
     walk_at "z"
     refine Pk.of z1 ?_
     walk_at "z"
     refine Pk.of z2 ?_
     walk_at "z"
     refine ZaV (by decide +kernel) ?_
     walk_at "z"
     exact⟨_,r2,hb,by show some (T.int _)=some (T.int _);congr 2;lia⟩
    ·have z1:=Zfi m k (by omega) _ _ _ _ ha
     unfold whT
     walk_at "z"
     refine ZaV (by decide +kernel) ?_
     walk_at "z"
     refine ZcA (by decide +kernel) ?_
     walk_at "z"
     refine Pk.of z1 ?_
     walk_at "z"
     exact⟨_,r2,hb,by show some (T.int _)=some (T.int _);congr 2;lia⟩
  ·rintro σ ⟨u',r',h',e1⟩
   rw[List.drop_length]at h'
   obtain⟨rfl,_⟩:=Zlg h'
   walk_at "z"
   rfl
end
theorem ZmT(l:List Int): T.flatIn (.lst (l.map T.int))=true:=by
 show T.flats _=true
 induction l with
 | nil=>rfl
 | cons a l ih=>simp[T.flats,T.flat,ih]
noncomputable def callT(X:Nat)(h:Nat)(sums:List T): T:=.tup [.str (Str.ofString "call"),.int ((X:Int)+1),.int h,.lst sums]
section
variable {tp tw:T} {ks:List Int} {n:Nat} {wt:List (Mo×T)} {f u:Int} {bs:List Int}
theorem ZmU{gv:List Int}{m:Mo}(hr:ZaU tw (f,u,bs)=some [rowT u (callT X h sums) q])(hg:Zem bs sums=some gv)(hf:Zd0 tp h gv=some m)(hl:wt.length<10000)(hs:sums.length<10000): ZbZ tp tw ks ⟨n,wt,(f,u,bs)⟩=some ⟨n,wt++[((f,u,bs),rowT u (callT X h sums) q)],m⟩:=by
 unfold rowT callT at *
 simp only[ZbZ,hr,Zs0,if_pos (show PyData.strOk (Str.ofString "call")=true by decide +kernel),if_true,ZgT,if_pos hl,if_pos hs,hg,hf,Zs1]
theorem Zof(hX:X<bs.length)(hn:bs.length≤60): ZjE bs ((X:Int)+1) a=some (bs.set X a):=by
 unfold ZjE
 rw[Zbu,Ze5 hX hn,Zfg]
 exact Zi9 _
theorem ZmV{f' p':Int}{bs':List Int}(hr:ZaU tw (f',p',bs')=some [])(ha:bs'.getLast? = some a)(hX:X<bs.length)(hn:bs.length≤60): ZbZ tp tw ks ⟨n,wt++[((f,u,bs),rowT u (callT X h sums) q)],(f',p',bs')⟩=some ⟨n,wt,(f,q,bs.set X a)⟩:=by
 have:=Zof (a:=a) hX hn
 unfold rowT callT
 simp[ZbZ,hr,Zjp,ha,this]
theorem Zog{s:RS}{fr:Mo×T}{rows:List T}(h:ZaU tw s.m=some rows)(hw:s.wt=wt++[fr]): ZcJ tw s=some false:=by
 simp[ZcJ,h,hw]
theorem ZkM{p:Nat}{gv:List Int}(e:fns[h]?=some (.tup [.int p,.int m,.lst body]))(hg:gv.length=p)(hm:m≤60)(hp:p≤m): Zd0 (.lst fns) h gv=some ((h:Int),0,gv++List.replicate (m-p) 0):=by
 have hlt:h<fns.length:=(Zz6.mp e).1
 have:Zf5 [.lst fns,.int h,Z0 gv]=some (Zbo ((h:Int),0,gv++List.replicate (m-p) 0)):=by
  apply Pk.eq
  unfold Zf5 ZhV Z0
  walk_at "z"
  refine Zb4 (t:=.tup [.int p,.int m,.lst body]) (by lia) (by simpa using e) ?_
  walk_at "z"
  refine ZoT (n:=m-p) (a:=fun i=>.int i) (b:=fun _=>.int 0) (by lia) ?_ (fun i hi=>?_) ?_
  ·refine ZkA ?_
   walk_at "z"
   refine .inl ⟨m-p,?_,by lia,rfl⟩
   rw[List.length_map,hg]
   congr 2
   lia
  ·walk_at "z"
   rfl
  ·have et:(gv.map T.int++tab (m-p) fun _=>T.int 0)=(gv++List.replicate (m-p) 0).map T.int:=by
    rw[List.map_append]
    congr 1
    apply List.ext_getElem
    ·simp[tab]
    ·intro i h1 h2
     simp[tab]
   refine ZgJ (by simp[hg,tab];lia) ?_
   rw[et]
   refine⟨ZmT _,?_⟩
   walk_at "z"
   rfl
 simp only[Zd0,this,Zs0,Zbo,Zhc,Zfp,Zs1]
end
structure Wo(fns:List T)(tw:T)(sig:Nat→Nat×Nat)(nf:Nat): Prop where
 fn:∀h,h<nf→∃body r e,fns[h]?=some (.tup [.int (sig h).1,.int (sig h).2,.lst body])∧LyB (SL sig h (sig h).2 3) body 0 r e∧Seg tw h 0 e r∧∀bs,ZaU tw ((h:Int),e,bs)=some []
 sg:∀h,h<nf→(sig h).1≤(sig h).2∧1≤(sig h).2∧(sig h).2≤4
noncomputable def GoS(C:List V→Hp→Option (V×Hp))(fns:List T)(tw:T)(ks:List Int)(g mk kk L0:Nat)(vp:V)(most:Nat)(sig:Nat→Nat×Nat)(fg:Nat)(body:List T)(u e:Int)(wt:List (Mo×T)): Prop:=
 ∀(K:Hp) (x us:Nat) (bs:List Int) (F:List Nat) (ms:List Mo) (vb:V),bs.length=(sig fg).2→Gw K g mk kk L0 vp (.lst fns) ks most us ms F→Bx K g mk L0 x F bs→RFo K vb (.lst body) (· < L0) →
  ∃K' F' us' ms' bs',C [.ref g,.int fg,vb,.int (u+1),.ref x] K=some (.none,K')∧Gw K' g mk kk L0 vp (.lst fns) ks most us' ms' F'∧Bx K' g mk L0 x F' bs'∧Kept K g mk x F K' F'∧bs'.length=bs.length∧Cps (.lst fns) tw ks most ⟨us,wt,((fg:Int),u,bs)⟩ ms ⟨us',wt,((fg:Int),e,bs')⟩ ms'
noncomputable def Zd7(C:List V→Hp→Option (V×Hp))(fns:List T)(tw:T)(ks:List Int)(g mk kk L0:Nat)(vp:V)(most:Nat)(sig:Nat→Nat×Nat)(fg:Nat)(t:T)(u e:Int)(wt:List (Mo×T)): Prop:=
 ∀(K:Hp) (x us:Nat) (bs:List Int) (F:List Nat) (ms:List Mo) (vt:V),bs.length=(sig fg).2→ms.length<most→Gw K g mk kk L0 vp (.lst fns) ks most us ms F→Bx K g mk L0 x F bs→RFo K vt t (· < L0) →
  ∃K' F' us' ms' bs',C [.ref g,.int fg,vt,.int (u+1),.ref x] K=some (.none,K')∧Gw K' g mk kk L0 vp (.lst fns) ks most us' ms' F'∧Bx K' g mk L0 x F' bs'∧Kept K g mk x F K' F'∧bs'.length=bs.length∧Cps (.lst fns) tw ks most ⟨us,wt,((fg:Int),u,bs)⟩ ms ⟨us',wt,((fg:Int),e,bs')⟩ ms'
section
variable {fns:List T} {tw:T} {ks:List Int} {g mk kk L0:Nat} {vp:V} {most:Nat} {sig:Nat→Nat×Nat} {fg nf:Nat} {wt:List (Mo×T)}
theorem RFo.lt0{K':Hp}{v:V}{x:Nat}{F F':List Nat}(r:RFo K v t (· < L0))(k:Kept K g mk x F K' F')(lg:L0≤g)(lm:L0≤mk)(lx:L0≤x): RFo K' v t (· < L0):=r.keep fun a p l=>k.kp a l (by lia) (by lia) (by lia)
theorem ZiI{v:V}(hk:k<24)(h:LyB (SL sig fg n k) ts u r e)(rv:RFo K v (.lst ts) (· < L0))(hp:0<K.length): ∃X,ZbS [v] K=some (.int (e-u),K++X):=by
 obtain⟨F,rv,_⟩:=rv
 obtain⟨w,X,G,g1,g2,_⟩:=Zj8 K [v] [.lst ts] _ _ hp (.one rv) (Zfi 24 k hk ts r u e h)
 cases g2
 exact⟨X,g1⟩
theorem Zko{c:T}{x:Nat}{r:Bool}{v:V}(h:ZcQ [c,Z0 bs]=some (.bool r))(rv:RFo K v c (· < L0))(hx:K[x]?=some (bs.map V.int)): ∃X,ZcF [v,.ref x] K=some (.bool r,K++X):=by
 obtain⟨F,rv,_⟩:=rv
 obtain⟨w,X,G,g1,g2,_⟩:=Zmc K [v,.ref x] [c,Z0 bs] _ _ (Nat.lt_of_le_of_lt (Nat.zero_le _) (lt_of_at hx)) (.cons rv (.one (Zcx hx))) h
 cases g2
 exact⟨X,g1⟩
theorem Zns{Cg:List V→Hp→Option (V×Hp)}{tas:List T}(hm:most≤1000)(P:PlOk sig fg (sig fg).2 (.tup (.str wd::tas)))(hc:wd≠Str.ofString "call")(hw:(sig fg).2≤60)(S:Seg tw fg u (u+1) [rowT u (.tup (.str wd::tas)) (u+1)]): Zd7 (ZbE Cg) fns tw ks g mk kk L0 vp most sig fg (.tup (.str wd::tas)) u (u+1) wt:=by
 intro K x us bs F ms vt hb hlt G B r
 obtain⟨K1,bs1,d1,G1,B1,k1,lb,ok,dn⟩:=Zoe G B (by lia) (by rw[hb];exact P) hc r
 obtain⟨K2,F2,m1,G2,B2,k2⟩:=Zct (f:=fg) (p:=u+1) G1 B1 hm
 obtain⟨w,rest,ew,q1,q2,_⟩:=Zja P
 cases ew
 have rw0:ZaU tw ((fg:Int),u,bs)=some [rowT u (.tup (.str wd::tas)) (u+1)]:=by
  rw[S u bs (by lia) (by lia)]
  simp[ZgK]
 refine⟨K2,F2,_,_,bs1,?_,G2,B2,k1.trans k2,lb,?_⟩
 ·obtain⟨vs0,rfl,rs0⟩:=r.tup
  obtain⟨vw,vsr,rfl,d0,rs1⟩:=ZT rs0
  have:=d0.str;subst this
  simp only[Bool.and_eq_true,decide_eq_true_eq]at q1 q2
  unfold ZbE ZdN ZH
  simp only[List.length_cons,List.length_nil,if_true]
  have t1:=ZaH (K:=K) (ρ:=fun i=>[V.ref g,.int fg,.tup (.str wd::vsr),.int (u+1),.ref x][i]?) (i:=2) (wd:=wd) (w:=Str.ofString "if") (as:=vsr) rfl ok (by decide +kernel)
  have t2:=ZaH (K:=K) (ρ:=fun i=>[V.ref g,.int fg,.tup (.str wd::vsr),.int (u+1),.ref x][i]?) (i:=2) (wd:=wd) (w:=Str.ofString "while") (as:=vsr) rfl ok (by decide +kernel)
  have t3:=ZaH (K:=K) (ρ:=fun i=>[V.ref g,.int fg,.tup (.str wd::vsr),.int (u+1),.ref x][i]?) (i:=2) (wd:=wd) (w:=Str.ofString "call") (as:=vsr) rfl ok (by decide +kernel)
  have q1':wd≠Str.ofString "if":=q1.2
  have q2':wd≠Str.ofString "while":=q2.2
  rw[decide_eq_false q1']at t1
  rw[decide_eq_false q2']at t2
  rw[decide_eq_false hc]at t3
  simp only[Zz,t1,t2,t3,Zs0,Bool.false_eq_true,if_false]
  simp only[Zm,ZC,Zh,Zb,Ze,Za,List.getElem?_cons_zero,List.getElem?_cons_succ,Zs1,Zs0,d1,m1]
  rfl
 ·exact Cps.step (s':=⟨_,wt,((fg:Int),u+1,bs1)⟩) (ZcX rw0) (ZkK rw0 ok hc dn) (.inl hlt)
noncomputable def Zfs(Cg:List V→Hp→Option (V×Hp)): Sm:=Zz (Zs (Zc oLt (Zh Z3 (Zb (Zc Zf (Za 0) (Zd 3)) Ze)) (Zc Zf (Za 0) (Zd 4)))) (Zm (ZC (Zh (ZbE Cg) (Zb (Za 0) (Zb (Za 1) (Zb (Za 5) (Zb (Za 3) (Zb (Za 4) Ze))))))) (Zw 3 (Zc ZE (Za 3) (Zh ZbS (Zb (ZU (Zb (Za 5) Ze)) Ze))))) ZL
theorem Zjb{Cg:List V→Hp→Option (V×Hp)}{k pb:Nat}{vs:List V}{x:Nat}{e:Int}(hk:k<24)(hpb:pb<L0)(ones:∀t u r e,SL sig fg (sig fg).2 k t u r e→Seg tw fg u e r→Zd7 (ZbE Cg) fns tw ks g mk kk L0 vp most sig fg t u e wt):
  ∀(ts:List T) (i:Nat) (u:Int) (r:List T) (K:Hp) (us:Nat) (bs:List Int) (F:List Nat) (ms:List Mo) (ρ:Lc),LyB (SL sig fg (sig fg).2 k) ts u r e→Seg tw fg u e r→vs.length=i+ts.length→K[pb]?=some vs→(∀(j:Nat) t,ts[j]?=some t→∃v,vs[i+j]?=some v∧RFo K v t (· < L0))→bs.length=(sig fg).2→Gw K g mk kk L0 vp (.lst fns) ks most us ms F→Bx K g mk L0 x F bs→ρ 0=some (.ref g)→ρ 1=some (.int fg)→ρ 4=some (.ref x)→(ρ 3=some (.int (u+1))∨¬ms.length<most) →
  ∃K' F' us' ms' bs' ρ',Za3 (Zad pb) (ZQ 5) (Zfs Cg) (ts.length+1) i ρ K=some (none,ρ',K')∧Gw K' g mk kk L0 vp (.lst fns) ks most us' ms' F'∧Bx K' g mk L0 x F' bs'∧Kept K g mk x F K' F'∧bs'.length=bs.length∧Cps (.lst fns) tw ks most ⟨us,wt,((fg:Int),u,bs)⟩ ms ⟨us',wt,((fg:Int),e,bs')⟩ ms'
 | [],i,u,r,K,us,bs,F,ms,ρ,h,S,hl,hp,hv,hb,G,B,r0,r1,r4,r3=>by
  obtain⟨rfl,_⟩:=Zlg h
  have hn:vs[i]?=none:=Zy8 (by simp at hl;lia)
  exact⟨K,F,us,ms,bs,ρ,by simp[Za3,Zad,hp,hn],G,B,.refl,rfl,.refl⟩
 | t::ts,i,u,r,K,us,bs,F,ms,ρ,h,S,hl,hp,hv,hb,G,B,r0,r1,r4,r3=>by
  obtain⟨e1,ra,rb,hs,hrest,rfl⟩:=ZkL h
  obtain⟨l1,b1⟩:=ZcL _ _ _ _ _ hs
  obtain⟨l2,b2⟩:=ZcZ (ZcL _) hrest
  have S1:=S.left b2 l2
  have S2:=S.right b1 (by lia)
  obtain⟨v,v1,v2⟩:=hv 0 t rfl
  rw[Nat.add_zero]at v1
  have hx:Zad pb i K=some (some v):=by simp[Zad,hp,v1]
  have rm:=ZiH (ρ:=upd ρ 5 v) G (by simp[upd,r0])
  by_cases c:ms.length<most
  ·rw[decide_eq_true c]at rm
   have r3':=r3.resolve_right (by simpa using c)
   obtain⟨K1,F1,us1,ms1,bs1,o1,G1,B1,k1,lb1,c1⟩:=ones t u ra e1 hs S1 K x us bs F ms v hb c G B v2
   have v2':=v2.lt0 k1 G.lg G.lm B.lx
   have q1:LyB (SL sig fg (sig fg).2 k) [t] u (ra++[]) e1:=.cons hs .nil
   have rl:RFo (K1++[[v]]) (.ref K1.length) (.lst [t]) (fun _=>True):=by
    obtain⟨Fv,rv,_⟩:=v2'
    exact⟨_,.ref (by simp) (.one (rv.ext _)),fun _ _=>trivial⟩
   obtain⟨Fl,rl,_⟩:=rl
   obtain⟨w,X,G0,s1,s2,_⟩:=Zj8 (K1++[[v]]) [.ref K1.length] [.lst [t]] _ _ (by simp) (.one rl) (Zfi 24 k hk [t] _ u e1 q1)
   cases s2
   have hpl:=lt_of_at hp
   have hp1:K1[pb]?=some vs:=(k1.kp pb hpl (by have:=G.lg;lia) (by have:=G.lm;omega) (by have:=B.lx;lia)).trans hp
   obtain⟨K',F',us',ms',bs',ρ',f1,G',B',k',lb',c'⟩:=Zjb hk hpb ones ts (i+1) e1 rb (K1++[[v]]++X) us1 bs1 F1 ms1 (upd (upd ρ 5 v) 3 (.int (e1+1))) hrest S2 (by rw[hl];simp;lia) (by rw[List.append_assoc,Zy0 (lt_of_at hp1)];exact hp1) (fun j t' e'=>by
    obtain⟨w,w1,w2⟩:=hv (j+1) t' (by simpa using e')
    refine⟨w,by rw[show i+1+j=i+(j+1)by lia];exact w1,?_⟩
    have:=w2.lt0 k1 G.lg G.lm B.lx
    exact this.keep fun a _ l=>by rw[List.append_assoc,Zy0 l]) (by lia) (by rw[List.append_assoc];exact G1.ext _) (by rw[List.append_assoc];exact B1.ext _) (by simp[upd,r0]) (by simp[upd,r1]) (by simp[upd,r4]) (.inl (by simp[upd]))
   refine⟨K',F',us',ms',bs',ρ',?_,G',B',k1.trans (Kept.trans (by rw[List.append_assoc];exact Kept.ext _) k'),by lia,c1.trans c'⟩
   rw[List.length_cons]
   show((Zad pb i K).bind _)=_
   rw[hx]
   have bb:Zfs Cg (upd ρ 5 v) K=some (none,upd (upd ρ 5 v) 3 (.int (e1+1)),K1++[[v]]++X):=by
    have a1:ZC (Zh (ZbE Cg) (Zb (Za 0) (Zb (Za 1) (Zb (Za 5) (Zb (Za 3) (Zb (Za 4) Ze)))))) (upd ρ 5 v) K=some (none,upd ρ 5 v,K1):=by
     have g0:Zb (Za 0) (Zb (Za 1) (Zb (Za 5) (Zb (Za 3) (Zb (Za 4) Ze)))) (upd ρ 5 v) K=some ([.ref g,.int fg,v,.int (u+1),.ref x],K):=by
      simp[Zb,Za,Ze,upd,r0,r1,r3',r4]
     simp only[ZC,Zh,g0,Zs0,o1,Zs1]
    have a2:Zw 3 (Zc ZE (Za 3) (Zh ZbS (Zb (ZU (Zb (Za 5) Ze)) Ze))) (upd ρ 5 v) K1=some (none,upd (upd ρ 5 v) 3 (.int (e1+1)),K1++[[v]]++X):=by
     have g0:Zb (ZU (Zb (Za 5) Ze)) Ze (upd ρ 5 v) K1=some ([.ref K1.length],K1++[[v]]):=by
      simp[Zb,ZU,Za,Ze,upd,Zac]
     have g1:Za 3 (upd ρ 5 v) K1=some (.int (u+1),K1):=by simp[Za,upd,r3']
     simp only[Zw,Zc,g1,Zh,g0,Zs0,s1,Zda,Zs1]
     rw[show u+1+(e1-u)=e1+1 by lia]
    unfold Zfs
    simp only[Zz,rm,Zs0,if_true]
    rw[Zae a1]
    exact a2
   simp only[Zs0,ZQ,bb]
   exact f1
  ·rw[decide_eq_false c]at rm
   obtain⟨K',F',us',ms',bs',ρ',f1,G',B',k',lb',c'⟩:=Zjb hk hpb ones ts (i+1) e1 rb K us bs F ms (upd ρ 5 v) hrest S2 (by rw[hl];simp;lia) hp (fun j t' e'=>by
    obtain⟨w,w1,w2⟩:=hv (j+1) t' (by simpa using e')
    exact⟨w,by rw[show i+1+j=i+(j+1)by lia];exact w1,w2⟩) hb G B (by simp[upd,r0]) (by simp[upd,r1]) (by simp[upd,r4]) (.inr c)
   refine⟨K',F',us',ms',bs',ρ',?_,G',B',k',lb',(Zlf (s:=⟨us,wt,((fg:Int),u,bs)⟩) (s':=⟨us,wt,((fg:Int),e1,bs)⟩) c rfl).trans c'⟩
   rw[List.length_cons]
   show((Zad pb i K).bind _)=_
   rw[hx]
   have bb:Zfs Cg (upd ρ 5 v) K=some (none,upd ρ 5 v,K):=by
    unfold Zfs
    simp only[Zz,rm,Zs0,Bool.false_eq_true,if_false,ZL]
   simp only[Zs0,ZQ,bb]
   exact f1
theorem ZqS(hk:k<24)(ones:∀t u r e,SL sig fg (sig fg).2 k t u r e→Seg tw fg u e r→Zd7 (ZbE (Za1 N)) fns tw ks g mk kk L0 vp most sig fg t u e wt)(h:LyB (SL sig fg (sig fg).2 k) body u r e)(S:Seg tw fg u e r): GoS (Za1 (N+1)) fns tw ks g mk kk L0 vp most sig fg body u e wt:=by
 intro K x us bs F ms vb hb G B rb
 obtain⟨pb,vs,rfl,hp,pl,rs⟩:=rb.lst
 have hl:vs.length=body.length:=by obtain⟨F,r,_⟩:=rs;exact r.length
 obtain⟨K',F',us',ms',bs',ρ',f1,G',B',k',lb',c'⟩:=Zjb (x:=x) (vs:=vs) hk pl ones body 0 u r K us bs F ms (fun i=>[V.ref g,.int fg,.ref pb,.int (u+1),.ref x][i]?) h S (by lia) hp (fun j t e=>by rw[Nat.zero_add];exact Zds rs e) hb G B rfl rfl rfl (.inl rfl)
 refine⟨K',F',us',ms',bs',?_,G',B',k',lb',c'⟩
 show((ZeT (Za1 N) (fun i=>[V.ref g,.int fg,.ref pb,.int (u+1),.ref x][i]?) K).map _)=_
 have:ZeT (Za1 N) (fun i=>[V.ref g,.int fg,.ref pb,.int (u+1),.ref x][i]?) K=some (none,ρ',K'):=by
  unfold ZeT ZaL
  have ev:Zar (Za 2) (fun i=>[V.ref g,.int fg,.ref pb,.int (u+1),.ref x][i]?) K=some (Zad pb,vs.length+1,K):=by
   simp[Zar,Za,hp]
  rw[ev,hl]
  exact f1
 rw[this]
 rfl
end
theorem Zdd(h:a=q): (rowT a t b::s).filter (src q)=rowT a t b::s.filter (src q):=by
 rw[List.filter_cons_of_pos (by rw[ZgK];simpa using h)]
theorem ZaQ(h:a≠q): (rowT a t b::s).filter (src q)=s.filter (src q):=by
 rw[List.filter_cons_of_neg (by rw[ZgK];simpa using h)]
theorem Zpk: Zbp [Z0 bs,goT,.int (ZaP ks n (Str.ofString "go")).2]=some (Z0 bs):=by
 rw[Zbu];exact Zpi
theorem Zpl: (ZaP ks n (Str.ofString "go")).1=n:=by unfold ZaP;rw[if_neg (by decide +kernel)]
section
variable {fns:List T} {tw:T} {ks:List Int} {g mk kk L0:Nat} {vp:V} {most:Nat} {sig:Nat→Nat×Nat} {fg nf:Nat} {wt:List (Mo×T)}
theorem Zjc{us:Nat}{tp:T}(h:ZaU tw ((fg:Int),u,bs)=some [rowT u goT q]): ZbZ tp tw ks ⟨us,wt,((fg:Int),u,bs)⟩=some ⟨us,wt,((fg:Int),q,bs)⟩:=by
 have:=ZkK (tp:=tp) (ks:=ks) (n:=us) (wt:=wt) (bs':=bs) h (by decide +kernel) (by decide +kernel) Zpk
 rw[Zpl]at this
 exact this
theorem Zqr{c:T}{a b ra rb:List T}{ea eb:Int}(hm:most≤1000)(hk:k<24)(hw:(sig fg).2≤60)(hc:ClOk (sig fg).2 c)(ha:LyB (SL sig fg (sig fg).2 k) a (u+1) ra ea)(hb:LyB (SL sig fg (sig fg).2 k) b (ea+1) rb eb)
  (S:Seg tw fg u (eb+1) (rowT u (ZaA c true) (u+1)::(ra++rowT u (ZaA c false) (ea+1)::(rb++[rowT ea goT (eb+1),rowT eb goT (eb+1)]))))
  (gA:Seg tw fg (u+1) ea ra→GoS (Za1 N) fns tw ks g mk kk L0 vp most sig fg a (u+1) ea wt) (gB:Seg tw fg (ea+1) eb rb→GoS (Za1 N) fns tw ks g mk kk L0 vp most sig fg b (ea+1) eb wt):
  Zd7 (ZbE (Za1 N)) fns tw ks g mk kk L0 vp most sig fg (ifT c a b) u (eb+1) wt:=by
 intro K x us bs F ms vt hbl hlt G B r
 obtain⟨l1,b1⟩:=ZcZ (ZcL _) ha
 obtain⟨l2,b2⟩:=ZcZ (ZcL _) hb
 have ou:∀bs,ZaU tw ((fg:Int),u,bs)=some [rowT u (ZaA c true) (u+1),rowT u (ZaA c false) (ea+1)]:=fun bs=>by
  rw[S u bs (by lia) (by lia)]
  rw[Zdd rfl,List.filter_append,ZbV b1 (Or.inl (show u<u+1 by lia)),List.nil_append,Zdd rfl,List.filter_append,ZbV b2 (Or.inl (show u<ea+1 by lia)),List.nil_append,ZaQ (by lia),ZaQ (by lia),List.filter_nil]
 have Sa:Seg tw fg (u+1) ea ra:=fun q bs h1 h2=>by
  rw[S q bs (by lia) (by lia)]
  rw[ZaQ (by lia),List.filter_append,ZaQ (by omega),List.filter_append,ZbV b2 (Or.inl (show q<ea+1 by lia)),List.nil_append,ZaQ (by lia),ZaQ (by lia),List.filter_nil,List.append_nil]
 have oa:∀bs,ZaU tw ((fg:Int),ea,bs)=some [rowT ea goT (eb+1)]:=fun bs=>by
  rw[S ea bs (by lia) (by lia)]
  rw[ZaQ (by lia),List.filter_append,ZbV b1 (Or.inr (show ea≤ea by lia)),List.nil_append,ZaQ (by omega),List.filter_append,ZbV b2 (Or.inl (show ea<ea+1 by lia)),List.nil_append,Zdd rfl,ZaQ (by lia),List.filter_nil]
 have Sb:Seg tw fg (ea+1) eb rb:=fun q bs h1 h2=>by
  rw[S q bs (by lia) (by lia)]
  rw[ZaQ (by lia),List.filter_append,ZbV b1 (Or.inr (show ea≤q by lia)),List.nil_append,ZaQ (by omega),List.filter_append,ZaQ (by lia),ZaQ (by lia),List.filter_nil,List.append_nil]
 have ob:∀bs,ZaU tw ((fg:Int),eb,bs)=some [rowT eb goT (eb+1)]:=fun bs=>by
  rw[S eb bs (by lia) (by lia)]
  rw[ZaQ (by lia),List.filter_append,ZbV b1 (Or.inr (show ea≤eb by lia)),List.nil_append,ZaQ (by omega),List.filter_append,ZbV b2 (Or.inr (show eb≤eb by lia)),List.nil_append,ZaQ (by lia),Zdd rfl,List.filter_nil]
 obtain⟨vs0,rfl,rs0⟩:=r.tup
 obtain⟨vw,vs1,rfl,d0,rs1⟩:=ZT rs0
 obtain⟨vc,vs2,rfl,dc,rs2⟩:=ZT rs1
 obtain⟨va,vs3,rfl,da,rs3⟩:=ZT rs2
 obtain⟨vb,vs4,rfl,db,rs4⟩:=ZT rs3
 have:=Zbx rs4;subst this
 have:=d0.str;subst this
 have hp:0<K.length:=Nat.lt_of_le_of_lt (Nat.zero_le _) (lt_of_at B.hx)
 obtain⟨X1,z1⟩:=ZiI hk ha da hp
 obtain⟨rr,p1,p2⟩:=ZlS (bs:=bs) (by rw[hbl];exact hc) (by lia)
 have G1:=G.ext X1
 have B1:=B.ext X1
 have dc1:RFo (K++X1) vc c (· < L0):=dc.keep fun a _ l=>Zy0 l
 obtain⟨X2,z2⟩:=Zko p2 dc1 B1.hx
 have G2:=G1.ext X2
 have B2:=B1.ext X2
 have k2:Kept K g mk x F (K++X1++X2) F:=(Kept.ext X1).trans (Kept.ext X2)
 have st0:ZbZ (.lst fns) tw ks ⟨us,wt,((fg:Int),u,bs)⟩=some ⟨us,wt,((fg:Int),if rr then u+1 else ea+1,bs)⟩:=Zix (ou bs) p1
 have fin:∀(K1:Hp) (F1:List Nat) (us1:Nat) (ms1:List Mo) (bs1:List Int) (p:Int),Gw K1 g mk kk L0 vp (.lst fns) ks most us1 ms1 F1→Bx K1 g mk L0 x F1 bs1→Kept K g mk x F K1 F1→bs1.length=bs.length→Cps (.lst fns) tw ks most ⟨us,wt,((fg:Int),u,bs)⟩ ms ⟨us1,wt,((fg:Int),p,bs1)⟩ ms1→ZaU tw ((fg:Int),p,bs1)=some [rowT p goT (eb+1)]→∃K' F' ms',(∃X3,ZbS [vb] K1=some (.int (eb-(ea+1)),K1++X3)∧ZaM [.ref g,.int fg,.int (u+1+1+(ea-(u+1))+1+(eb-(ea+1))),.ref x] (K1++X3)=some (.none,K'))∧Gw K' g mk kk L0 vp (.lst fns) ks most us1 ms' F'∧Bx K' g mk L0 x F' bs1∧Kept K g mk x F K' F'∧Cps (.lst fns) tw ks most ⟨us,wt,((fg:Int),u,bs)⟩ ms ⟨us1,wt,((fg:Int),eb+1,bs1)⟩ ms':=by
  intro K1 F1 us1 ms1 bs1 p G1 B1 k1 lb1 c1 hr
  have db1:=db.lt0 k1 G.lg G.lm B.lx
  obtain⟨X3,z3⟩:=ZiI hk hb db1 (Nat.lt_of_le_of_lt (Nat.zero_le _) (lt_of_at B1.hx))
  obtain⟨K',F',m1,G',B',k'⟩:=Zct (f:=fg) (p:=u+1+1+(ea-(u+1))+1+(eb-(ea+1))) (G1.ext X3) (B1.ext X3) hm
  have ee:u+1+1+(ea-(u+1))+1+(eb-(ea+1))=eb+1:=by lia
  refine⟨K',F',_,⟨X3,z3,m1⟩,G',B',k1.trans ((Kept.ext X3).trans k'),?_⟩
  rw[ee]
  exact c1.trans (Cps.step (s':=⟨us1,wt,((fg:Int),eb+1,bs1)⟩) (ZcX hr) (Zjc hr) (.inr rfl))
 have t1:=ZaH (K:=K) (ρ:=fun i=>[V.ref g,.int fg,.tup [.str iF,vc,va,vb],.int (u+1),.ref x][i]?) (i:=2) (wd:=iF) (w:=Str.ofString "if") (as:=[vc,va,vb]) rfl (by decide +kernel) (by decide +kernel)
 rw[decide_eq_true (show iF=Str.ofString "if" from rfl)]at t1
 have i41:∀(x y z u:V) (H:Hp),Zf (.tup [x,y,z,u]) (.int 1) H=some (y,H):=fun _ _ _ _ _=>rfl
 generalize hρ:upd (fun i=>[V.ref g,.int fg,.tup [.str iF,vc,va,vb],.int (u+1),.ref x][i]?) 5 (V.int (u+1+1+(ea-(u+1))))=ρ
 have r0:ρ 0=some (.ref g):=by rw[←hρ];simp[upd]
 have r1:ρ 1=some (.int fg):=by rw[←hρ];simp[upd]
 have r2:ρ 2=some (.tup [.str iF,vc,va,vb]):=by rw[←hρ];simp[upd]
 have r3:ρ 3=some (.int (u+1)):=by rw[←hρ];simp[upd]
 have r4:ρ 4=some (.ref x):=by rw[←hρ];simp[upd]
 have r5:ρ 5=some (.int (u+1+1+(ea-(u+1)))):=by rw[←hρ];simp[upd]
 have s1:Zw 5 (Zc ZE (Zc ZE (Za 3) (Zd 1)) (Zh ZbS (Zb (Zc Zf (Za 2) (Zd 2)) Ze))) (fun i=>[V.ref g,.int fg,.tup [.str iF,vc,va,vb],.int (u+1),.ref x][i]?) K=some (none,ρ,K++X1):=by
  simp only[Zw,Zc,Za,Zd,Zh,Zb,Ze,List.getElem?_cons_zero,List.getElem?_cons_succ,Zs1,Zs0,Zda,i42,z1,hρ]
 have t2:Zs (Zh ZcF (Zb (Zc Zf (Za 2) (Zd 1)) (Zb (Za 4) Ze))) ρ (K++X1)=some (rr,K++X1++X2):=by
  simp only[Zs,Zh,Zb,Ze,Zc,Za,Zd,r2,r4,Zs1,Zs0,i41,z2,Zak]
 have s3:∀(K1 X3 K':Hp),ZbS [vb] K1=some (.int (eb-(ea+1)),K1++X3)→ZaM [.ref g,.int fg,.int (u+1+1+(ea-(u+1))+1+(eb-(ea+1))),.ref x] (K1++X3)=some (.none,K')→ZC (Zh ZaM (Zb (Za 0) (Zb (Za 1) (Zb (Zc ZE (Zc ZE (Za 5) (Zd 1)) (Zh ZbS (Zb (Zc Zf (Za 2) (Zd 3)) Ze))) (Zb (Za 4) Ze))))) ρ K1=some (none,ρ,K'):=fun K1 X3 K' h1 h2=>by
  simp only[ZC,Zh,Zb,Ze,Zc,Za,Zd,r0,r1,r2,r4,r5,Zs1,Zs0,Zda,i43,h1,h2]
 cases rr with
 | true=>
  rw[if_pos rfl]at st0
  obtain⟨K3,F3,m3,G3,B3,k3⟩:=Zct (f:=fg) (p:=u+1) G2 B2 hm
  have da3:=da.lt0 (k2.trans k3) G.lg G.lm B.lx
  obtain⟨K4,F4,us4,ms4,bs4,g4,G4,B4,k4,lb4,c4⟩:=gA Sa K3 x us bs F3 _ va hbl G3 B3 da3
  have c0:Cps (.lst fns) tw ks most ⟨us,wt,((fg:Int),u,bs)⟩ ms ⟨us,wt,((fg:Int),u+1,bs)⟩ (mkM most ms ((fg:Int),u+1,bs)):=Cps.step (ZcX (ou bs)) st0 (.inl hlt)
  obtain⟨K',F',ms',⟨X3,z3,m5⟩,G',B',k',c'⟩:=fin K4 F4 us4 ms4 bs4 ea G4 B4 ((k2.trans k3).trans k4) lb4 (c0.trans c4) (oa bs4)
  refine⟨K',F',us4,ms',bs4,?_,G',B',k',lb4,c'⟩
  unfold ZbE ZdN ZH
  simp only[List.length_cons,List.length_nil,if_true]
  simp only[Zz,t1,Zs0,if_true]
  rw[Zae s1]
  have s2:(fun ρ H=>(Zs (Zh ZcF (Zb (Zc Zf (Za 2) (Zd 1)) (Zb (Za 4) Ze))) ρ H).bind fun p=>if p.1=true then Zm (ZC (Zh ZaM (Zb (Za 0) (Zb (Za 1) (Zb (Za 3) (Zb (Za 4) Ze)))))) (ZC (Zh (Za1 N) (Zb (Za 0) (Zb (Za 1) (Zb (Zc Zf (Za 2) (Zd 2)) (Zb (Zc ZE (Za 3) (Zd 1)) (Zb (Za 4) Ze))))))) ρ p.2 else Zm (ZC (Zh ZaM (Zb (Za 0) (Zb (Za 1) (Zb (Za 5) (Zb (Za 4) Ze)))))) (ZC (Zh (Za1 N) (Zb (Za 0) (Zb (Za 1) (Zb (Zc Zf (Za 2) (Zd 3)) (Zb (Zc ZE (Za 5) (Zd 1)) (Zb (Za 4) Ze))))))) ρ p.2) ρ (K++X1)=some (none,ρ,K4):=by
   simp only[t2,Zs0,if_true,Zm,ZC,Zh,Zb,Ze,Zc,Za,Zd,r0,r1,r2,r3,r4,Zs1,Zda,i42,m3,g4]
  rw[Zae s2,s3 K4 X3 K' z3 m5]
  rfl
 | false=>
  rw[if_neg (by decide)]at st0
  have e5:u+1+1+(ea-(u+1))=ea+1:=by lia
  obtain⟨K3,F3,m3,G3,B3,k3⟩:=Zct (f:=fg) (p:=ea+1) G2 B2 hm
  have db3:=db.lt0 (k2.trans k3) G.lg G.lm B.lx
  obtain⟨K4,F4,us4,ms4,bs4,g4,G4,B4,k4,lb4,c4⟩:=gB Sb K3 x us bs F3 _ vb hbl G3 B3 db3
  have c0:Cps (.lst fns) tw ks most ⟨us,wt,((fg:Int),u,bs)⟩ ms ⟨us,wt,((fg:Int),ea+1,bs)⟩ (mkM most ms ((fg:Int),ea+1,bs)):=Cps.step (ZcX (ou bs)) st0 (.inl hlt)
  obtain⟨K',F',ms',⟨X3,z3,m5⟩,G',B',k',c'⟩:=fin K4 F4 us4 ms4 bs4 eb G4 B4 ((k2.trans k3).trans k4) lb4 (c0.trans c4) (ob bs4)
  refine⟨K',F',us4,ms',bs4,?_,G',B',k',lb4,c'⟩
  unfold ZbE ZdN ZH
  simp only[List.length_cons,List.length_nil,if_true]
  simp only[Zz,t1,Zs0,if_true]
  rw[Zae s1]
  have s2:(fun ρ H=>(Zs (Zh ZcF (Zb (Zc Zf (Za 2) (Zd 1)) (Zb (Za 4) Ze))) ρ H).bind fun p=>if p.1=true then Zm (ZC (Zh ZaM (Zb (Za 0) (Zb (Za 1) (Zb (Za 3) (Zb (Za 4) Ze)))))) (ZC (Zh (Za1 N) (Zb (Za 0) (Zb (Za 1) (Zb (Zc Zf (Za 2) (Zd 2)) (Zb (Zc ZE (Za 3) (Zd 1)) (Zb (Za 4) Ze))))))) ρ p.2 else Zm (ZC (Zh ZaM (Zb (Za 0) (Zb (Za 1) (Zb (Za 5) (Zb (Za 4) Ze)))))) (ZC (Zh (Za1 N) (Zb (Za 0) (Zb (Za 1) (Zb (Zc Zf (Za 2) (Zd 3)) (Zb (Zc ZE (Za 5) (Zd 1)) (Zb (Za 4) Ze))))))) ρ p.2) ρ (K++X1)=some (none,ρ,K4):=by
   rw[←e5]at m3 g4
   simp only[t2,Zs0,Bool.false_eq_true,if_false,Zm,ZC,Zh,Zb,Ze,Zc,Za,Zd,r0,r1,r2,r3,r4,r5,Zs1,Zda,i43,m3,g4]
  rw[Zae s2,s3 K4 X3 K' z3 m5]
  rfl
end
noncomputable def Zc8: Ts:=Zav (Zs (Zc oLt (Zh Z3 (Zb (Zc Zf (Za 0) (Zd 3)) Ze)) (Zc Zf (Za 0) (Zd 4)))) (Zav (Zs (Zh ZcF (Zb (Zc Zf (Za 2) (Zd 1)) (Zb (Za 4) Ze)))) ZZ)
noncomputable def ZgX(Cg:List V→Hp→Option (V×Hp)): Sm:=Zm (ZC (Zh ZaM (Zb (Za 0) (Zb (Za 1) (Zb (Zc ZE (Za 3) (Zd 1)) (Zb (Za 4) Ze)))))) (Zm (ZC (Zh Cg (Zb (Za 0) (Zb (Za 1) (Zb (Zc Zf (Za 2) (Zd 2)) (Zb (Zc ZE (Za 3) (Zd 2)) (Zb (Za 4) Ze))))))) (ZC (Zh ZaM (Zb (Za 0) (Zb (Za 1) (Zb (Za 3) (Zb (Za 4) Ze)))))))
section
variable {fns:List T} {tw:T} {ks:List Int} {g mk kk L0:Nat} {vp:V} {most:Nat} {sig:Nat→Nat×Nat} {fg nf:Nat} {wt:List (Mo×T)}
theorem Zqs{ms:List Mo}{m:Mo}(h:ms.length<most): ms.length<(mkM most ms m).length:=by
 unfold mkM;rw[if_pos h];simp
theorem Cps.le{tp:T}{s s':RS}{ms ms':List Mo}(c:Cps tp tw ks most s ms s' ms'): ms.length≤ms'.length:=by
 obtain⟨n,rfl,_⟩:=c
 simp
theorem Zlh{Cg:List V→Hp→Option (V×Hp)}{c:T}{a:List T}{u ea:Int}{x:Nat}{vc va:V}{ρ:Lc}(hm:most≤1000)(hw:(sig fg).2≤60)(hc:ClOk (sig fg).2 c)(ou:∀bs,ZaU tw ((fg:Int),u+1,bs)=some [rowT (u+1) (ZaA c true) (u+2),rowT (u+1) (ZaA c false) (ea+1)])(oa:∀bs,ZaU tw ((fg:Int),ea,bs)=some [rowT ea goT (u+1)])
  (gA:GoS Cg fns tw ks g mk kk L0 vp most sig fg a (u+2) ea wt) (r0:ρ 0=some (.ref g)) (r1:ρ 1=some (.int fg)) (r2:ρ 2=some (.tup [.str wH,vc,va])) (r3:ρ 3=some (.int (u+1))) (r4:ρ 4=some (.ref x)):
  ∀(j fuel:Nat) (K:Hp) (us:Nat) (bs:List Int) (F:List Nat) (ms:List Mo),most-ms.length≤j→j<fuel→bs.length=(sig fg).2→Gw K g mk kk L0 vp (.lst fns) ks most us ms F→Bx K g mk L0 x F bs→RFo K vc c (· < L0)→RFo K va (.lst a) (· < L0) →
  ∃K' F' us' ms' bs',Zc2 Zc8 (ZgX Cg) fuel ρ K=some (none,ρ,K')∧Gw K' g mk kk L0 vp (.lst fns) ks most us' ms' F'∧Bx K' g mk L0 x F' bs'∧Kept K g mk x F K' F'∧bs'.length=bs.length∧Cps (.lst fns) tw ks most ⟨us,wt,((fg:Int),u+1,bs)⟩ ms ⟨us',wt,((fg:Int),u+1,bs')⟩ ms'∧(¬ms'.length<most∨Zcg [c,Z0 bs']=some (.bool false))
 | j,fuel+1,K,us,bs,F,ms,hj,hf,hb,G,B,dc,da=>by
  have rm:=ZiH (ρ:=ρ) G r0
  by_cases cl:ms.length<most
  ·rw[decide_eq_true cl]at rm
   obtain⟨rr,p1,p2⟩:=ZlS (bs:=bs) (by rw[hb];exact hc) (by lia)
   obtain⟨X1,z1⟩:=Zko p2 dc B.hx
   have i31':∀(x y z:V) (H:Hp),Zf (.tup [x,y,z]) (.int 1) H=some (y,H):=fun _ _ _ _=>rfl
   have tt:Zc8 ρ K=some (rr,K++X1):=by
    have:Zs (Zh ZcF (Zb (Zc Zf (Za 2) (Zd 1)) (Zb (Za 4) Ze))) ρ K=some (rr,K++X1):=by
     simp only[Zs,Zh,Zb,Ze,Zc,Za,Zd,r2,r4,Zs1,Zs0,i31',z1,Zak]
    unfold Zc8
    simp only[Zav,rm,Zs0,if_true,this,ZZ]
    cases rr <;> rfl
   have G1:=G.ext X1
   have B1:=B.ext X1
   have st0:=Zix (tp:=.lst fns) (ks:=ks) (n:=us) (wt:=wt) (ou bs) p1
   cases rr with
   | false=>
    refine⟨K++X1,F,us,ms,bs,?_,G1,B1,Kept.ext X1,rfl,.refl,.inr p1⟩
    show((Zc8 ρ K).bind _)=_
    rw[tt]
    rfl
   | true=>
    rw[if_pos rfl]at st0
    obtain⟨K2,F2,m2,G2,B2,k2⟩:=Zct (f:=fg) (p:=u+1+1) G1 B1 hm
    have e2:u+1+1=u+2:=by lia
    have kk2:Kept K g mk x F K2 F2:=(Kept.ext X1).trans k2
    have da2:=da.lt0 kk2 G.lg G.lm B.lx
    obtain⟨K3,F3,us3,ms3,bs3,g3,G3,B3,k3,lb3,c3⟩:=gA K2 x us bs F2 _ va hb G2 B2 da2
    obtain⟨K4,F4,m4,G4,B4,k4⟩:=Zct (f:=fg) (p:=u+1) G3 B3 hm
    have kk4:Kept K g mk x F K4 F4:=(kk2.trans k3).trans k4
    have dc4:=dc.lt0 kk4 G.lg G.lm B.lx
    have da4:=da.lt0 kk4 G.lg G.lm B.lx
    have c0:Cps (.lst fns) tw ks most ⟨us,wt,((fg:Int),u+1,bs)⟩ ms ⟨us,wt,((fg:Int),u+2,bs)⟩ (mkM most ms ((fg:Int),u+1+1,bs)):=by
     rw[e2]
     exact Cps.step (ZcX (ou bs)) st0 (.inl cl)
    have c4:Cps (.lst fns) tw ks most ⟨us3,wt,((fg:Int),ea,bs3)⟩ ms3 ⟨us3,wt,((fg:Int),u+1,bs3)⟩ (mkM most ms3 ((fg:Int),u+1,bs3)):=
     Cps.step (ZcX (oa bs3)) (Zjc (oa bs3)) (.inr rfl)
    have cc:=(c0.trans c3).trans c4
    have l1:ms.length<(mkM most ms ((fg:Int),u+1+1,bs)).length:=Zqs cl
    have l2:=c3.le
    have l3:=c4.le
    match j,hj with
    | 0,hj=>omega
    | j+1,hj=>
     obtain⟨K',F',us',ms',bs',w1,G',B',k',lb',c',q'⟩:=Zlh hm hw hc ou oa gA r0 r1 r2 r3 r4 j fuel K4 us3 bs3 F4 _ (by omega) (by lia) (by lia) G4 B4 dc4 da4
     refine⟨K',F',us',ms',bs',?_,G',B',kk4.trans k',by lia,cc.trans c',q'⟩
     have bb:ZgX Cg ρ (K++X1)=some (none,ρ,K4):=by
      have i32':∀(x y z:V) (H:Hp),Zf (.tup [x,y,z]) (.int 2) H=some (z,H):=fun _ _ _ _=>rfl
      have e3:u+1+2=u+2+1:=by lia
      rw[←e3]at g3
      unfold ZgX
      simp only[Zm,ZC,Zh,Zb,Ze,Zc,Za,Zd,r0,r1,r2,r3,r4,Zs1,Zs0,Zda,i32',m2,g3,m4]
     show((Zc8 ρ K).bind _)=_
     rw[tt]
     simp only[Zs0,if_true,bb]
     exact w1
  ·rw[decide_eq_false cl]at rm
   refine⟨K,F,us,ms,bs,?_,G,B,.refl,rfl,.refl,.inl cl⟩
   have tt:Zc8 ρ K=some (false,K):=by
    unfold Zc8
    simp only[Zav,rm,Zs0,Bool.false_eq_true,if_false]
   show((Zc8 ρ K).bind _)=_
   rw[tt]
   rfl
theorem Znt{c:T}{a ra:List T}{ea:Int}(hm:most≤1000)(hk:k<24)(hw:(sig fg).2≤60)(hc:ClOk (sig fg).2 c)(ha:LyB (SL sig fg (sig fg).2 k) a (u+2) ra ea)
  (S:Seg tw fg u (ea+1) (rowT u goT (u+1)::rowT (u+1) (ZaA c true) (u+2)::(ra++[rowT ea goT (u+1),rowT (u+1) (ZaA c false) (ea+1)])))
  (gA:Seg tw fg (u+2) ea ra→GoS (Za1 N) fns tw ks g mk kk L0 vp most sig fg a (u+2) ea wt):
  Zd7 (ZbE (Za1 N)) fns tw ks g mk kk L0 vp most sig fg (whT c a) u (ea+1) wt:=by
 intro K x us bs F ms vt hbl hlt G B r
 obtain⟨l1,b1⟩:=ZcZ (ZcL _) ha
 have o0:∀bs,ZaU tw ((fg:Int),u,bs)=some [rowT u goT (u+1)]:=fun bs=>by
  rw[S u bs (by lia) (by lia),Zdd rfl,ZaQ (by lia),List.filter_append,ZbV b1 (Or.inl (show u<u+2 by lia)),List.nil_append,ZaQ (by lia),ZaQ (by omega),List.filter_nil]
 have ou:∀bs,ZaU tw ((fg:Int),u+1,bs)=some [rowT (u+1) (ZaA c true) (u+2),rowT (u+1) (ZaA c false) (ea+1)]:=fun bs=>by
  rw[S (u+1) bs (by lia) (by lia),ZaQ (by lia),Zdd rfl,List.filter_append,ZbV b1 (Or.inl (show u+1<u+2 by lia)),List.nil_append,ZaQ (by lia),Zdd rfl,List.filter_nil]
 have Sa:Seg tw fg (u+2) ea ra:=fun q bs h1 h2=>by
  rw[S q bs (by lia) (by lia),ZaQ (by lia),ZaQ (by lia),List.filter_append,ZaQ (by lia),ZaQ (by omega),List.filter_nil,List.append_nil]
 have oa:∀bs,ZaU tw ((fg:Int),ea,bs)=some [rowT ea goT (u+1)]:=fun bs=>by
  rw[S ea bs (by lia) (by lia),ZaQ (by lia),ZaQ (by lia),List.filter_append,ZbV b1 (Or.inr (show ea≤ea by lia)),List.nil_append,Zdd rfl,ZaQ (by omega),List.filter_nil]
 obtain⟨vs0,rfl,rs0⟩:=r.tup
 obtain⟨vw,vs1,rfl,d0,rs1⟩:=ZT rs0
 obtain⟨vc,vs2,rfl,dc,rs2⟩:=ZT rs1
 obtain⟨va,vs3,rfl,da,rs3⟩:=ZT rs2
 have:=Zbx rs3;subst this
 have:=d0.str;subst this
 generalize hρ:(fun i=>[V.ref g,.int fg,.tup [.str wH,vc,va],.int (u+1),.ref x][i]?:Lc)=ρ
 have r0:ρ 0=some (.ref g):=by rw[←hρ];rfl
 have r1:ρ 1=some (.int fg):=by rw[←hρ];rfl
 have r2:ρ 2=some (.tup [.str wH,vc,va]):=by rw[←hρ];rfl
 have r3:ρ 3=some (.int (u+1)):=by rw[←hρ];rfl
 have r4:ρ 4=some (.ref x):=by rw[←hρ];rfl
 obtain⟨K1,F1,m1,G1,B1,k1⟩:=Zct (f:=fg) (p:=u+1) G B hm
 have c1:Cps (.lst fns) tw ks most ⟨us,wt,((fg:Int),u,bs)⟩ ms ⟨us,wt,((fg:Int),u+1,bs)⟩ (mkM most ms ((fg:Int),u+1,bs)):=Cps.step (ZcX (o0 bs)) (Zjc (o0 bs)) (.inl hlt)
 obtain⟨K2,F2,us2,ms2,bs2,w2,G2,B2,k2,lb2,c2,q2⟩:=Zlh hm hw hc ou oa (gA Sa) r0 r1 r2 r3 r4 1000 1000000 K1 us bs F1 _ (by omega) (by lia) hbl G1 B1 (dc.lt0 k1 G.lg G.lm B.lx) (da.lt0 k1 G.lg G.lm B.lx)
 have da2:=da.lt0 (k1.trans k2) G.lg G.lm B.lx
 obtain⟨X3,z3⟩:=ZiI hk ha da2 (Nat.lt_of_le_of_lt (Nat.zero_le _) (lt_of_at B2.hx))
 obtain⟨K4,F4,m4,G4,B4,k4⟩:=Zct (f:=fg) (p:=u+1+2+(ea-(u+2))) (G2.ext X3) (B2.ext X3) hm
 have ee:u+1+2+(ea-(u+2))=ea+1:=by lia
 refine⟨K4,F4,us2,_,bs2,?_,G4,B4,(k1.trans k2).trans ((Kept.ext X3).trans k4),lb2,?_⟩
 ·unfold ZbE ZdN ZH
  simp only[List.length_cons,List.length_nil,if_true]
  rw[hρ]
  have t1:=ZaH (K:=K) (ρ:=ρ) (i:=2) (wd:=wH) (w:=Str.ofString "if") (as:=[vc,va]) r2 (by decide +kernel) (by decide +kernel)
  rw[decide_eq_false (by decide +kernel)]at t1
  have t2:=ZaH (K:=K) (ρ:=ρ) (i:=2) (wd:=wH) (w:=Str.ofString "while") (as:=[vc,va]) r2 (by decide +kernel) (by decide +kernel)
  rw[decide_eq_true (show wH=Str.ofString "while" from rfl)]at t2
  have s1:ZC (Zh ZaM (Zb (Za 0) (Zb (Za 1) (Zb (Za 3) (Zb (Za 4) Ze))))) ρ K=some (none,ρ,K1):=by
   simp only[ZC,Zh,Zb,Ze,Za,r0,r1,r3,r4,Zs1,Zs0,m1]
  have s3:ZC (Zh ZaM (Zb (Za 0) (Zb (Za 1) (Zb (Zc ZE (Zc ZE (Za 3) (Zd 2)) (Zh ZbS (Zb (Zc Zf (Za 2) (Zd 2)) Ze))) (Zb (Za 4) Ze))))) ρ K2=some (none,ρ,K4):=by
   have i32':∀(x y z:V) (H:Hp),Zf (.tup [x,y,z]) (.int 2) H=some (z,H):=fun _ _ _ _=>rfl
   simp only[ZC,Zh,Zb,Ze,Zc,Za,Zd,r0,r1,r2,r3,r4,Zs1,Zs0,Zda,i32',z3,m4]
  unfold Zc8 ZgX at w2
  simp only[Zz,t1,t2,Zs0,Bool.false_eq_true,if_false,if_true]
  rw[Zae s1,Zae w2,s3]
  rfl
 ·rw[ee]
  refine(c1.trans c2).trans ?_
  rcases q2 with q2 | q2
  ·have:mkM most ms2 ((fg:Int),ea+1,bs2)=ms2:=by unfold mkM;rw[if_neg q2]
   rw[this]
   exact Zlf q2 rfl
  ·have st:=Zix (tp:=.lst fns) (ks:=ks) (n:=us2) (wt:=wt) (ou bs2) q2
   exact Cps.step (s':=⟨us2,wt,((fg:Int),ea+1,bs2)⟩) (ZcX (ou bs2)) st (.inr rfl)
end
theorem Zq1{t:Ts}{a b:Sm}{H1:Hp}(h:t ρ H=some (true,H1)): Zz t a b ρ H=a ρ H1:=by simp only[Zz,h,Zs0,if_true]
theorem ZlY{t:Ts}{a b:Sm}{H1:Hp}(h:t ρ H=some (false,H1)): Zz t a b ρ H=b ρ H1:=by simp only[Zz,h,Zs0,Bool.false_eq_true,if_false]
noncomputable def lgP(bs:List Int): List T→Option (List Int)
 | []=>some []
 | one::ts=>((ZcP [one,Z0 bs]).bind unI).bind fun k=>(lgP bs ts).map (k::·)
theorem Zke{bs:List Int}(hn:bs.length≤60): ∀{sums:List T},(∀s∈sums,∃c,s=Zao bs.length c∧Sh bs.length c)→∃gv,Zem bs sums=some gv∧lgP bs sums=some gv∧gv.length=sums.length
 | [],_=>⟨[],rfl,rfl,rfl⟩
 | s::sums,h=>by
  obtain⟨gv,e1,e2,e3⟩:=Zke hn (sums:=sums) fun s m=>h s (Zz2 _ m)
  obtain⟨c,rfl,hc⟩:=h s Zz5
  exact⟨ZcE c bs::gv,by simp[Zem,Zpj hn hc,unI,e1],by simp[lgP,ZkJ hn hc,unI,e2],by simp[e3]⟩
noncomputable def lgE: Ex:=Zh ZbL (Zb (Za 100) (Zb (Za 4) Ze))
theorem Zli{K:Hp}{ρ:Lc}{d x:Nat}{vs:List V}{bs:List Int}{P:Nat→Prop}(h4:ρ 4=some (.ref x))(hb:K[x]?=some (bs.map V.int))(hd:K[d]?=some vs): ∀(ts:List T) (i:Nat) (acc gv:List Int) (X:Hp),(∀(j:Nat) t,ts[j]?=some t→∃v,vs[i+j]?=some v∧RFo K v t P)→vs.length=i+ts.length→lgP bs ts=some gv→acc.length+ts.length<ZX→∃Y,ZaF (Zad d) (ZQ 100) ZZ lgE ρ (ts.length+1) i (acc.map V.int) (K++X)=some ((acc++gv).map V.int,K++Y)
 | [],i,acc,gv,X,hr,hl,e,hc=>by
  cases e
  have hn:vs[i]?=none:=Zy8 (by simp at hl;lia)
  refine⟨X,?_⟩
  have hd':(K++X)[d]?=some vs:=by rw[Zy0 (lt_of_at hd)];exact hd
  simp[ZaF,Zad,hd',hn]
 | one::ts,i,acc,gv,X,hr,hl,e,hc=>by
  obtain⟨k,e1,e⟩:=Zz0.mp e
  obtain⟨gv',e2,e3⟩:=Zz1.mp e
  subst e3
  obtain⟨t,e4,e5⟩:=Zz0.mp e1
  have et:t=.int k:=by
   cases t <;> simp[unI]at e5
   rw[e5]
  subst et
  obtain⟨v,v1,F1,v2,v3⟩:=hr 0 one rfl
  rw[Nat.add_zero]at v1
  have hd':(K++X)[d]?=some vs:=by rw[Zy0 (lt_of_at hd)];exact hd
  have hb':(K++X)[x]?=some (bs.map V.int):=by rw[Zy0 (lt_of_at hb)];exact hb
  obtain⟨u,Z,F,g1,g2,_⟩:=ZhF (K++X) [v,.ref x] [one,Z0 bs] (.int k) _ (Nat.lt_of_le_of_lt (Nat.zero_le _) (lt_of_at hb')) (.cons (v2.ext X) (.one (Zcx hb'))) e4
  cases g2
  obtain⟨Y,y1⟩:=Zli h4 hb hd ts (i+1) (acc++[k]) gv' (X++Z) (fun j t e=>by
   have:=hr (j+1) t (by simpa using e)
   rw[show i+(j+1)=i+1+j by lia]at this
   exact this) (by rw[hl];simp;lia) e2 (by simp at hc ⊢;lia)
  refine⟨Y,?_⟩
  have g3:lgE (upd ρ 100 v) (K++X)=some (.int k,K++(X++Z)):=by
   rw[List.append_assoc]at g1
   simp[lgE,Zh,Zb,Ze,Za,upd,h4]
   exact g1
  have hc':acc.length<ZX:=by simp at hc;lia
  rw[List.length_cons]
  have y1':ZaF (Zad d) (ZQ 100) ZZ lgE ρ (ts.length+1) (i+1) (acc.map V.int++[V.int k]) (K++(X++Z))=some ((acc++k::gv').map V.int,K++Y):=by
   have:(acc++[k]).map V.int=acc.map V.int++[V.int k]:=by simp
   rw[←this,y1]
   simp
  show((Zad d i (K++X)).bind _)=_
  have hx:Zad d i (K++X)=some (some v):=by simp[Zad,hd',v1]
  rw[hx]
  simp only[Zs0,ZQ,ZZ,if_true,g3,List.length_map,hc']
  exact y1'
theorem ZiJ: ∀n,Zdf [V.int 0] n=(List.replicate n (0:Int)).map V.int
 | 0=>rfl
 | n+1=>by
  show Zdf [V.int 0] n++[V.int 0]=_
  rw[ZiJ n,List.replicate_succ']
  simp
section
variable {fns:List T} {tw:T} {ks:List Int} {g mk kk L0:Nat} {vp:V} {most:Nat} {sig:Nat→Nat×Nat} {fg nf:Nat} {wt:List (Mo×T)}
theorem Zoh(W:Wo fns tw sig nf)(hfg:fg<nf)(hm:most≤1000)(hX:X<(sig fg).2)(hh:h<fg)(hl:sums.length=(sig h).1)(hs:∀s∈sums,∃c,s=Zao (sig fg).2 c∧Sh (sig fg).2 c)(hwt:wt.length<1000)
  (S:Seg tw fg u (u+1) [rowT u (callT X h sums) (u+1)])
  (gC:∀body r e fr,fns[h]?=some (.tup [.int (sig h).1,.int (sig h).2,.lst body])→LyB (SL sig h (sig h).2 3) body 0 r e→Seg tw h 0 e r→GoS (Za1 N) fns tw ks g mk kk L0 vp most sig h body 0 e (wt++[fr])):
  Zd7 (ZbE (Za1 N)) fns tw ks g mk kk L0 vp most sig fg (callT X h sums) u (u+1) wt:=by
 intro K x us bs F ms vt hbl hlt G B r
 obtain⟨body,rr,ee,f1,f2,f3,f4⟩:=W.fn h (by lia)
 obtain⟨q1,q2,q3⟩:=W.sg h (by omega)
 obtain⟨_,_,w3⟩:=W.sg fg hfg
 have ou:ZaU tw ((fg:Int),u,bs)=some [rowT u (callT X h sums) (u+1)]:=by
  rw[S u bs (by lia) (by lia),Zdd rfl,List.filter_nil]
 obtain⟨gv,gv1,gv2,gv3⟩:=Zke (bs:=bs) (sums:=sums) (by lia) (by rw[hbl];exact hs)
 have hf:=ZkM (fns:=fns) (h:=h) (gv:=gv) f1 (by(first | lia | omega)) (by(first | lia | omega)) q1
 generalize hin:gv++List.replicate ((sig h).2-(sig h).1) 0=inn at hf
 have linn:inn.length=(sig h).2:=by rw[←hin];simp;lia
 have st0:=ZmU (tp:=.lst fns) (ks:=ks) (n:=us) ou gv1 hf (show wt.length<10000 by lia) (show sums.length<10000 by lia)
 obtain⟨vs0,rfl,rs0⟩:=r.tup
 obtain⟨vw,vs1,rfl,d0,rs1⟩:=ZT rs0
 obtain⟨v1,vs2,rfl,d1,rs2⟩:=ZT rs1
 obtain⟨v2,vs3,rfl,d2,rs3⟩:=ZT rs2
 obtain⟨v3,vs4,rfl,d3,rs4⟩:=ZT rs3
 have:=Zbx rs4;subst this
 have:=d0.str;subst this
 have:=d1.int;subst this
 have:=d2.int;subst this
 obtain⟨pd,vsd,rfl,hd,pl,rsd⟩:=d3.lst
 have lvs:vsd.length=sums.length:=by obtain⟨F,r,_⟩:=rsd;exact r.length
 have ix:ZcD fns (h:Int)=some (.tup [.int (sig h).1,.int (sig h).2,.lst body]):=by
  have hlt:h<fns.length:=(Zz6.mp f1).1
  have:seqIndex? (h:Int) fns.length=some h:=by unfold seqIndex?;simp;omega
  simp[ZcD,this,f1]
 obtain⟨vsh,sh1,sh2⟩:=Zfe G.rp ix
 obtain⟨vs5,rfl,rs5⟩:=sh2.tup
 obtain⟨s0,vs6,rfl,e0,rs6⟩:=ZT rs5
 obtain⟨s1,vs7,rfl,e1,rs7⟩:=ZT rs6
 obtain⟨vbd,vs8,rfl,ebd,rs8⟩:=ZT rs7
 have:=Zbx rs8;subst this
 have:=e0.int;subst this
 have:=e1.int;subst this
 generalize hvt:V.tup [.str (Str.ofString "call"),.int ((X:Int)+1),.int h,.ref pd]=vt
 generalize hρ0:(fun i=>[V.ref g,.int fg,vt,.int (u+1),.ref x][i]?:Lc)=ρ0
 generalize hρ:upd ρ0 6 (.tup [.int (sig h).1,.int (sig h).2,vbd])=ρ
 have r00:ρ0 0=some (.ref g):=by rw[←hρ0];rfl
 have r01:ρ0 1=some (.int fg):=by rw[←hρ0];rfl
 have r02:ρ0 2=some vt:=by rw[←hρ0];rfl
 have r03:ρ0 3=some (.int (u+1)):=by rw[←hρ0];rfl
 have r04:ρ0 4=some (.ref x):=by rw[←hρ0];rfl
 have r0:ρ 0=some (.ref g):=by rw[←hρ];simp[upd,r00]
 have r2:ρ 2=some vt:=by rw[←hρ];simp[upd,r02]
 have r4:ρ 4=some (.ref x):=by rw[←hρ];simp[upd,r04]
 have r6:ρ 6=some (.tup [.int (sig h).1,.int (sig h).2,vbd]):=by rw[←hρ];simp[upd]
 have j2:∀H,Zf vt (.int 2) H=some (.int h,H):=fun H=>by rw[←hvt];rfl
 have j3:∀H,Zf vt (.int 3) H=some (.ref pd,H):=fun H=>by rw[←hvt];rfl
 have j1:∀H,Zf vt (.int 1) H=some (.int ((X:Int)+1),H):=fun H=>by rw[←hvt];rfl
 obtain⟨Y,gl⟩:=Zli (ρ:=ρ) (P:=(· < L0)) r4 B.hx hd sums 0 [] gv [] (fun j t e=>by rw[Nat.zero_add];exact Zds rsd e) (by lia) gv2 (by rw[Zac];simp;lia)
 simp only[List.map_nil,List.append_nil,List.nil_append]at gl
 generalize hK1:K++(Y++[gv.map V.int,[V.int 0],(List.replicate ((sig h).2-(sig h).1) (0:Int)).map V.int,inn.map V.int])=K1
 generalize hy:K.length+Y.length+3=y
 have l1:K1.length=y+1:=by rw[←hK1];simp;lia
 have k1:∀a,a<K.length→K1[a]?=K[a]?:=fun a l=>by rw[←hK1,Zy0 l]
 have G1:Gw K1 g mk kk L0 vp (.lst fns) ks most us ms F:=by rw[←hK1];exact G.ext _
 have Bx1:Bx K1 g mk L0 x F bs:=by rw[←hK1];exact B.ext _
 have k1y:K1[y]?=some (inn.map V.int):=by
  rw[←hK1,←hy,Zy5 (by lia),Zy5 (by omega)]
  rw[show K.length+Y.length+3-K.length-Y.length=3 by lia]
  rfl
 have lg:=G.glt
 have lm:=G.mlt
 have lx:=lt_of_at B.hx
 have lF:∀a∈F,a<K.length:=fun a m=>by obtain⟨_,_,q⟩:=G.hm;exact(q.lt a m).1
 have By:Bx K1 g mk L0 y F inn:=⟨k1y,by have:=G.lg;lia,by lia,by lia,fun q=>by have:=lF y q;lia,by lia⟩
 have kx1:Kept K g mk x F K1 F:=by rw[←hK1];exact Kept.ext _
 obtain⟨K2,F2,m2,G2,B2,k2⟩:=Zct (f:=h) (p:=0) G1 By hm
 have ebd1:RFo K2 vbd (.lst body) (· < L0):=(ebd.lt0 kx1 G.lg G.lm B.lx).lt0 k2 G.lg G.lm By.lx
 obtain⟨K3,F3,us3,ms3,bs3,g3,G3,B3,k3,lb3,c3⟩:=gC body rr ee ((((fg:Int),u,bs):Mo),rowT u (callT X h sums) (u+1)) f1 f2 f3 K2 y us inn F2 _ vbd linn G2 B2 ebd1
 have k13:Kept K1 g mk y F K3 F3:=k2.trans k3
 have Bx3:Bx K3 g mk L0 x F3 bs:=⟨(k13.kp x (by lia) B.xg B.xm (by lia)).trans Bx1.hx,B.lx,B.xg,B.xm,fun q=>by
  rcases k13.fs x q with q | q
  ·exact B.xF q
  ·lia,B.bl⟩
 have ne:bs3≠[]:=by intro q;rw[q]at lb3;simp at lb3;lia
 generalize ha:bs3.getLast ne=a
 have ha':bs3.getLast? = some a:=by rw[List.getLast?_eq_some_getLast ne,ha]
 obtain⟨K4,p4,G4,B4,k4⟩:=Zfh (X:=X) (v:=a) G3 Bx3 (by lia)
 obtain⟨K5,F5,m5,G5,B5,k5⟩:=Zct (f:=fg) (p:=u+1) G4 B4 hm
 have kx3:Kept K g mk x F K3 F3:=⟨fun a l h1 h2 h3=>(k13.kp a (by lia) h1 h2 (by lia)).trans (k1 a l),by have:=k13.le;lia,fun a m=>by
  rcases k13.fs a m with q | q
  ·exact .inl q
  ·exact .inr (by lia)⟩
 refine⟨K5,F5,us3,_,bs.set X a,?_,G5,B5,(kx3.trans k4).trans k5,by simp,?_⟩
 ·unfold ZbE ZdN ZH
  simp only[List.length_cons,List.length_nil,if_true]
  rw[hρ0]
  have sc:PyData.strOk (Str.ofString "call")=true:=by decide +kernel
  have t1:=ZaH (K:=K) (ρ:=ρ0) (i:=2) (wd:=Str.ofString "call") (w:=Str.ofString "if") (as:=[.int ((X:Int)+1),.int h,.ref pd]) (by rw[r02,←hvt]) sc (by decide +kernel)
  rw[decide_eq_false (by decide +kernel)]at t1
  have t2:=ZaH (K:=K) (ρ:=ρ0) (i:=2) (wd:=Str.ofString "call") (w:=Str.ofString "while") (as:=[.int ((X:Int)+1),.int h,.ref pd]) (by rw[r02,←hvt]) sc (by decide +kernel)
  rw[decide_eq_false (by decide +kernel)]at t2
  have t3:=ZaH (K:=K) (ρ:=ρ0) (i:=2) (wd:=Str.ofString "call") (w:=Str.ofString "call") (as:=[.int ((X:Int)+1),.int h,.ref pd]) (by rw[r02,←hvt]) sc sc
  rw[decide_eq_true rfl]at t3
  rw[ZlY t1,ZlY t2,Zq1 t3]
  have s6:Zw 6 (Zc Zf (Zc Zf (Za 0) (Zd 0)) (Zc Zf (Za 2) (Zd 2))) ρ0 K=some (none,ρ,K):=by
   simp only[Zw,Zc,Za,Zd,r00,r02,Zs1,Zs0,i50 _ _ _ _ _ _ G.hg,j2,sh1,hρ]
  rw[Zae s6]
  have s7:Zw 7 (Zc ZE (Zam (Zar (Zc Zf (Za 2) (Zd 3))) (ZQ 100) ZZ (Zh ZbL (Zb (Za 100) (Zb (Za 4) Ze)))) (Zc Zbh (ZU (Zb (Zd 0) Ze)) (Zc Zaf (Zc Zf (Za 6) (Zd 1)) (Zc Zf (Za 6) (Zd 0))))) ρ K=some (none,upd ρ 7 (.ref y),K1):=by
   have a1:Zam (Zar (Zc Zf (Za 2) (Zd 3))) (ZQ 100) ZZ (Zh ZbL (Zb (Za 100) (Zb (Za 4) Ze))) ρ K=some (.ref (K++Y).length,K++Y++[gv.map V.int]):=by
    have gl':=gl
    rw[←lvs]at gl'
    simp only[lgE]at gl'
    simp only[Zam,Zar,Zc,Za,r2,Zs1,Zs0,Zd,j3,hd]
    rw[gl']
    rfl
   have a2:Zc Zbh (ZU (Zb (Zd 0) Ze)) (Zc Zaf (Zc Zf (Za 6) (Zd 1)) (Zc Zf (Za 6) (Zd 0))) ρ (K++Y++[gv.map V.int])=some (.ref (K.length+Y.length+2),K++Y++[gv.map V.int]++[[V.int 0]]++[(List.replicate ((sig h).2-(sig h).1) (0:Int)).map V.int]):=by
    have b1:ZU (Zb (Zd 0) Ze) ρ (K++Y++[gv.map V.int])=some (.ref (K++Y++[gv.map V.int]).length,K++Y++[gv.map V.int]++[[V.int 0]]):=by
     simp only[ZU,Zb,Zd,Ze,Zs0]
     rw[if_pos (by rw[Zac];simp)]
    have b2:((K++Y++[gv.map V.int]++[[V.int 0]])[(K++Y++[gv.map V.int]).length]?:Option (List V))=some [V.int 0]:=by simp
    have b3:(((sig h).2:Int)-((sig h).1:Int)).toNat=(sig h).2-(sig h).1:=by lia
    simp only[Zc,b1,Zs0,Za,r6,Zs1,Zd,i31,i30,Zdb,Zbh,b2,b3]
    rw[if_pos ⟨by rw[Zac];simp;lia,by lia,by lia⟩,ZiJ]
    simp
    lia
   have c1:(K++Y++[gv.map V.int]++[[V.int 0]]++[(List.replicate ((sig h).2-(sig h).1) (0:Int)).map V.int])[(K++Y).length]?=some (gv.map V.int):=by
    rw[List.append_assoc,List.append_assoc,Zy5 (Zz10 _)]
    simp
   have c2:(K++Y++[gv.map V.int]++[[V.int 0]]++[(List.replicate ((sig h).2-(sig h).1) (0:Int)).map V.int])[K.length+Y.length+2]?=some ((List.replicate ((sig h).2-(sig h).1) (0:Int)).map V.int):=by
    rw[Zy5 (by simp;lia),show K.length+Y.length+2-(K++Y++[gv.map V.int]++[[V.int 0]]).length=0 by simp;lia]
    rfl
   have c3:ZE (.ref (K++Y).length) (.ref (K.length+Y.length+2)) (K++Y++[gv.map V.int]++[[V.int 0]]++[(List.replicate ((sig h).2-(sig h).1) (0:Int)).map V.int])=some (.ref y,K1):=by
    simp only[ZE,c1,c2,Zs0]
    rw[if_pos (by rw[Zac];simp;omega),←List.map_append,hin,←hK1]
    simp
    omega
   have c4:Zc ZE (Zam (Zar (Zc Zf (Za 2) (Zd 3))) (ZQ 100) ZZ (Zh ZbL (Zb (Za 100) (Zb (Za 4) Ze)))) (Zc Zbh (ZU (Zb (Zd 0) Ze)) (Zc Zaf (Zc Zf (Za 6) (Zd 1)) (Zc Zf (Za 6) (Zd 0)))) ρ K=some (.ref y,K1):=by
    rw[←c3]
    simp only[Zc]at a2 ⊢
    simp only[a1,Zs0,a2]
   simp only[Zw,c4,Zs1]
  rw[Zae s7]
  have u0:upd ρ 7 (.ref y) 0=some (.ref g):=by simp[upd,r0]
  have u1:upd ρ 7 (.ref y) 1=some (.int fg):=by rw[←hρ];simp[upd,r01]
  have u2:upd ρ 7 (.ref y) 2=some vt:=by simp[upd,r2]
  have u3:upd ρ 7 (.ref y) 3=some (.int (u+1)):=by rw[←hρ];simp[upd,r03]
  have u4:upd ρ 7 (.ref y) 4=some (.ref x):=by simp[upd,r4]
  have u6:upd ρ 7 (.ref y) 6=some (.tup [.int (sig h).1,.int (sig h).2,vbd]):=by simp[upd,r6]
  have u7:upd ρ 7 (.ref y) 7=some (.ref y):=by simp[upd]
  generalize upd ρ 7 (.ref y)=ρ7 at *
  have s8:ZC (Zh ZaM (Zb (Za 0) (Zb (Zc Zf (Za 2) (Zd 2)) (Zb (Zd 0) (Zb (Za 7) Ze))))) ρ7 K1=some (none,ρ7,K2):=by
   simp only[ZC,Zh,Zb,Ze,Zc,Za,Zd,u0,u2,u7,Zs1,Zs0,j2,m2]
  rw[Zae s8]
  have s9:ZC (Zh (Za1 N) (Zb (Za 0) (Zb (Zc Zf (Za 2) (Zd 2)) (Zb (Zc Zf (Za 6) (Zd 2)) (Zb (Zd 1) (Zb (Za 7) Ze)))))) ρ7 K2=some (none,ρ7,K3):=by
   have g3':Za1 N [.ref g,.int h,vbd,.int 1,.ref y] K2=some (.none,K3):=by rw[show(0:Int)+1=1 from rfl]at g3;exact g3
   simp only[ZC,Zh,Zb,Ze,Zc,Za,Zd,u0,u2,u6,u7,Zs1,Zs0,j2,i32,g3']
  rw[Zae s9]
  have la:Zf (.ref y) (.int (-1)) K3=some (.int a,K3):=by
   obtain⟨ys,ey⟩:=List.getLast?_eq_some_iff.mp ha'
   have hne:bs3.length=ys.length+1:=by rw[ey];simp
   simp only[Zf,B3.hx,Zs0,List.length_map]
   have:seqIndex? (-1) bs3.length=some ys.length:=by
    unfold seqIndex?
    simp
    omega
   rw[this]
   simp[ey]
  have s10:ZaY (Zc Zf (Za 7) (ZM Zbl (Zd 1))) (Za 4) (Zc Zaf (Zc Zf (Za 2) (Zd 1)) (Zd 1)) ρ7 K3=some (none,ρ7,K4):=by
   simp only[ZaY,Zc,ZM,Za,Zd,u2,u4,u7,Zs1,Zs0,Zjw,la,j1,Zdb,p4]
  rw[Zae s10]
  have s11:ZC (Zh ZaM (Zb (Za 0) (Zb (Za 1) (Zb (Za 3) (Zb (Za 4) Ze))))) ρ7 K4=some (none,ρ7,K5):=by
   simp only[ZC,Zh,Zb,Ze,Za,u0,u1,u3,u4,Zs1,Zs0,m5]
  rw[s11]
  rfl
 ·have c0:Cps (.lst fns) tw ks most ⟨us,wt,((fg:Int),u,bs)⟩ ms ⟨us,wt++[(((fg:Int),u,bs),rowT u (callT X h sums) (u+1))],((h:Int),0,inn)⟩ (mkM most ms ((h:Int),0,inn)):=Cps.step (ZcX ou) st0 (.inl hlt)
  refine(c0.trans c3).trans ?_
  have st:=ZmV (tp:=.lst fns) (ks:=ks) (n:=us3) (wt:=wt) (f:=(fg:Int)) (u:=u) (bs:=bs) (X:=X) (h:=h) (sums:=sums) (q:=u+1) (f4 bs3) ha' (by omega) (by lia)
  exact Cps.step (s':=⟨us3,wt,((fg:Int),u+1,bs.set X a)⟩) (Zog (f4 bs3) rfl) st (.inr rfl)
end
section
variable {fns:List T} {tw:T} {ks:List Int} {g mk kk L0:Nat} {vp:V} {most:Nat} {sig:Nat→Nat×Nat} {nf:Nat}
theorem Zoi{fg:Nat}(hp:PlOk sig fg n t): (∃X h sums,t=callT X h sums∧X<n∧h<fg∧sums.length=(sig h).1∧∀s∈sums,∃c,s=Zao n c∧Sh n c)∨∃wd rest,t=.tup (.str wd::rest)∧wd≠Str.ofString "call":=by
 cases hp with
 | call c1 c2 c3 c4=>exact .inl ⟨_,_,_,rfl,c1,c2,c3,c4⟩
 | set=>exact .inr ⟨_,_,rfl,by decide +kernel⟩
 | part=>exact .inr ⟨_,_,rfl,by decide +kernel⟩
 | rest=>exact .inr ⟨_,_,rfl,by decide +kernel⟩
 | any=>exact .inr ⟨_,_,rfl,by decide +kernel⟩
 | say=>exact .inr ⟨_,_,rfl,by decide +kernel⟩
theorem Zft(W:Wo fns tw sig nf)(hm:most≤1000): ∀(N fg k:Nat) (body r:List T) (u e:Int) (wt:List (Mo×T)),4*fg+k<N→k≤3→fg<nf→wt.length+fg<1000→LyB (SL sig fg (sig fg).2 k) body u r e→Seg tw fg u e r→GoS (Za1 N) fns tw ks g mk kk L0 vp most sig fg body u e wt
 | 0,fg,k,body,r,u,e,wt,hN,_,_,_,_,_=>by lia
 | N+1,fg,k,body,r,u,e,wt,hN,hk,hf,hw,h,S=>by
  obtain⟨w1,w2,w3⟩:=W.sg fg hf
  have plain:∀t u,PlOk sig fg (sig fg).2 t→Seg tw fg u (u+1) [rowT u t (u+1)]→Zd7 (ZbE (Za1 N)) fns tw ks g mk kk L0 vp most sig fg t u (u+1) wt:=by
   intro t u hp S
   rcases Zoi hp with⟨X,h,sums,rfl,c1,c2,c3,c4⟩ | ⟨wd,rest,rfl,hc⟩
   ·refine Zoh W hf hm c1 c2 c3 c4 (by lia) S fun body r e fr f1 f2 f3=>?_
    exact Zft W hm N h 3 body r 0 e (wt++[fr]) (by lia) (by lia) (by lia) (by simp;lia) f2 f3
   ·exact Zns hm hp hc (by lia) S
  refine ZqS (by lia) (fun t u r e hs S=>?_) h S
  match k,hs with
  | 0,hs=>
   obtain⟨hp,rfl,rfl⟩:=hs
   exact plain t u hp S
  | k+1,hs=>
   rcases hs with⟨hp,rfl,rfl⟩ | ⟨c,a,b,ra,ea,rb,eb,rfl,hc,ha,hb,rfl,rfl⟩ | ⟨c,a,ra,ea,rfl,hc,ha,rfl,rfl⟩
   ·exact plain t u hp S
   ·exact Zqr hm (k:=k) (by lia) (by lia) hc ha hb S (fun Sa=>Zft W hm N fg k a ra _ _ wt (by lia) (by lia) hf hw ha Sa) (fun Sb=>Zft W hm N fg k b rb _ _ wt (by omega) (by omega) hf hw hb Sb)
   ·exact Znt hm (k:=k) (by omega) (by omega) hc ha S (fun Sa=>Zft W hm N fg k a ra _ _ wt (by omega) (by omega) hf hw ha Sa)
end
section
variable {sig:Nat→Nat×Nat} {g n:Nat}
theorem ZdQ(h:m≤60): Nice (k+1) (Zao m c):=.lst (by simp[tab];lia) (fun t ht=>by
 obtain⟨i,_,rfl⟩:=Zkl ht
 exact .int _)
theorem Zfj(h:ClOk n t)(hn:n≤60): Nice 2 t:=by
 cases h with
 | un hc=>exact .tup (by simp) (nlc (.str su) (nlc (ZdQ hn) nl0))
 | sm hc=>exact .tup (by simp) (nlc (.str ss_) (nlc (ZdQ hn) nl0))
 | ev hc hd=>exact .tup (by simp) (nlc (.str (by decide +kernel)) (nlc (ZdQ hn) (nlc (.int _) nl0)))
theorem Zlj{a:Option Int}: Nice k (oT a):=by
 cases a with
 | none=>exact .none
 | some a=>exact .int a
theorem Zjd(h:PlOk sig g n t)(hn:n≤60)(hs:∀h,(sig h).1≤60): Zdj t:=by
 refine⟨?_,?_⟩
 ·cases h with
  | set _ _=>exact .tup (by simp) (nlc (.str (by decide +kernel)) (nlc (.int _) (nlc (ZdQ hn) nl0)))
  | part _ _ _ _=>exact .tup (by simp) (nlc (.str (by decide +kernel)) (nlc (.int _) (nlc (ZdQ hn) (nlc (.int _) nl0))))
  | rest _ _ _=>exact .tup (by simp) (nlc (.str (by decide +kernel)) (nlc (.int _) (nlc (ZdQ hn) (nlc (.int _) nl0))))
  | any _ _=>exact .tup (by simp) (nlc (.str (by decide +kernel)) (nlc (.int _) (nlc Zlj (nlc Zlj nl0))))
  | say hc=>exact .tup (by simp) (nlc (.str (by decide +kernel)) (nlc (Zfj hc hn) nl0))
  | @call X h sums h1 h2 h3 h4=>
   refine .tup (by simp) (nlc (.str (by decide +kernel)) (nlc (.int _) (nlc (.int _) (nlc (.lst ?_ fun t ht=>?_) nl0))))
   ·rw[h3];have:=hs h;lia
   ·obtain⟨c,rfl,_⟩:=h4 t ht
    exact ZdQ hn
 ·obtain⟨w,rest,e,h1,h2,_⟩:=Zja h
  exact⟨w,rest,e,h1,h2⟩
theorem ZcH{L L':T→Int→List T→Int→Prop}(hL:∀t u r e,L t u r e→L' t u r e)(h:LyB L ts u r e): LyB L' ts u r e:=by
 induction h with
 | nil=>exact .nil
 | cons a _ ih=>exact .cons (hL _ _ _ _ a) ih
theorem ZgY(hn:n≤60)(hs:∀h,(sig h).1≤60): ∀(k:Nat) (t:T) (u:Int) (r:List T) (e:Int),SL sig g n k t u r e→LyS k t u r e
 | 0,t,u,r,e,h=>⟨Zjd h.1 hn hs,h.2⟩
 | k+1,t,u,r,e,h=>by
  rcases h with⟨hp,h2⟩ | ⟨c,a,b,ra,ea,rb,eb,h1,hc,ha,hb,h2⟩ | ⟨c,a,ra,ea,h1,hc,ha,h2⟩
  ·exact .inl ⟨Zjd hp hn hs,h2⟩
  ·exact .inr (.inl ⟨c,a,b,ra,ea,rb,eb,h1,Zfj hc hn,ZcH (ZgY hn hs k) ha,ZcH (ZgY hn hs k) hb,h2⟩)
  ·exact .inr (.inr ⟨c,a,ra,ea,h1,Zfj hc hn,ZcH (ZgY hn hs k) ha,h2⟩)
theorem ZgL{L:T→Int→List T→Int→Prop}(hL:∀t u r e,L t u r e→e-u≤r.length)(h:LyB L ts u r e): e-u≤r.length:=by
 induction h with
 | nil=>simp
 | cons a _ ih=>
  have:=hL _ _ _ _ a
  simp
  lia
theorem ZgZ: ∀(k:Nat) (t:T) (u:Int) (r:List T) (e:Int),SL sig g n k t u r e→e-u≤r.length
 | 0,t,u,r,e,h=>by
  obtain⟨_,rfl,rfl⟩:=h
  simp
  lia
 | k+1,t,u,r,e,h=>by
  rcases h with⟨_,rfl,rfl⟩ | ⟨c,a,b,ra,ea,rb,eb,rfl,hc,ha,hb,rfl,rfl⟩ | ⟨c,a,ra,ea,rfl,hc,ha,rfl,rfl⟩
  ·simp
   omega
  ·have:=ZgL (ZgZ k) ha
   have:=ZgL (ZgZ k) hb
   simp
   lia
  ·have:=ZgL (ZgZ k) ha
   simp
   lia
theorem Znu(hn:n≤60)(hs:∀h,(sig h).1≤60)(h:LyB (SL sig g n 3) body 0 r e)(hl:r.length≤9000): 0≤e∧Zeu (.lst body)=some (.lst r)∧Zff (.lst r)=some (byP (e.toNat+1) r):=by
 have h':=ZcH (ZgY hn hs 3) h
 obtain⟨e0,hr1,hr2⟩:=Zgp (Zgq 3) h' (by lia)
 have hb:=ZgL (ZgZ 3) h
 obtain⟨_,bt⟩:=ZcZ (ZcL 3) h
 refine⟨e0,Zn6 h' hl,?_⟩
 have la:=Zpe e0 hl hr1 (fun q=>hr2 q)
 simp only[Zff,la]
 rw[if_pos]
 refine⟨e0,by lia,by lia,?_⟩
 rw[List.all_eq_true]
 intro x m
 obtain⟨a,t,b,rfl,l1,l2⟩:=bt x m
 simp only[ZjF,rowT,decide_eq_true_eq]
 lia
theorem Zlk{k:Int}(h0:0≤k)(h:ts[k.toNat]?=some t): ZcD ts k=some t:=by
 have hlt:k.toNat<ts.length:=(Zz6.mp h).1
 have:seqIndex? k ts.length=some k.toNat:=by unfold seqIndex?;simp;lia
 simp[ZcD,this,h]
end
structure PrOk(fns:List T)(sig:Nat→Nat×Nat): Prop where
 fn:∀h,h<fns.length→∃body r e,fns[h]?=some (.tup [.int (sig h).1,.int (sig h).2,.lst body])∧LyB (SL sig h (sig h).2 3) body 0 r e∧r.length≤9000
 sg:∀h,(sig h).1≤(sig h).2∧1≤(sig h).2∧(sig h).2≤4
theorem Zll{sig:Nat→Nat×Nat}(hs:∀h,(sig h).1≤(sig h).2∧1≤(sig h).2∧(sig h).2≤4): ∀(fs:List T) (k:Nat),(∀j,j<fs.length→∃body r e,fs[j]?=some (.tup [.int (sig (k+j)).1,.int (sig (k+j)).2,.lst body])∧LyB (SL sig (k+j) (sig (k+j)).2 3) body 0 r e∧r.length≤9000)→∃pls,ZfH fs=some pls∧∀j,j<fs.length→∃body r e,fs[j]?=some (.tup [.int (sig (k+j)).1,.int (sig (k+j)).2,.lst body])∧LyB (SL sig (k+j) (sig (k+j)).2 3) body 0 r e∧0≤e∧pls[j]?=some (byP (e.toNat+1) r)
 | [],k,h=>⟨[],rfl,fun j hj=>by simp at hj⟩
 | f::fs,k,h=>by
  obtain⟨body,r,e,h1,h2,h3⟩:=h 0 (by simp)
  obtain⟨pls,p1,p2⟩:=Zll hs fs (k+1) (fun j hj=>by
   have:=h (j+1) (by simp;omega)
   rw[show k+(j+1)=k+1+j by lia]at this
   simpa using this)
  obtain⟨e0,q1,q2⟩:=Znu (by have:=(hs (k+0)).2.2;lia) (fun h=>by have:=hs h;lia) h2 h3
  simp only[List.getElem?_cons_zero,Option.some.injEq]at h1
  subst h1
  refine⟨byP (e.toNat+1) r::pls,by simp[ZfH,Zjr,q1,q2,p1],fun j hj=>?_⟩
  match j,hj with
  | 0,_=>exact⟨body,r,e,rfl,h2,e0,rfl⟩
  | j+1,hj=>
   obtain⟨b',r',e',z1,z2,z3,z4⟩:=p2 j (by simp at hj;omega)
   rw[show k+(j+1)=k+1+j by lia]
   exact⟨b',r',e',by simpa using z1,z2,z3,by simpa using z4⟩
theorem ZlT(P:PrOk fns sig)(hl:fns.length≤100): ∃tw,ZcS [.lst fns]=some tw∧Wo fns tw sig fns.length:=by
 obtain⟨pls,p1,p2⟩:=Zll P.sg fns 0 (fun j hj=>by rw[Nat.zero_add];exact P.fn j hj)
 refine⟨.lst pls,by simp only[ZcS];rw[if_pos (by lia),p1];rfl,⟨fun h hh=>?_,fun h _=>P.sg h⟩⟩
 obtain⟨body,r,e,z1,z2,z3,z4⟩:=p2 h hh
 rw[Nat.zero_add]at z1 z2
 obtain⟨_,bt⟩:=ZcZ (ZcL 3) z2
 have key:∀q bs,0≤q→q≤e→ZaU (.lst pls) ((h:Int),q,bs)=some (r.filter (src q)):=fun q bs q0 q1=>by
  have i1:=Zlk (ts:=pls) (k:=(h:Int)) (by lia) (by simpa using z4)
  have i2:=Zlk (ts:=(List.range (e.toNat+1)).map fun(p:Nat)=>T.lst (r.filter (src p))) (k:=q) (t:=.lst (r.filter (src q))) q0 (by
   rw[List.getElem?_map,List.getElem?_range (by lia)]
   simp only[Zs1]
   rw[show((q.toNat:Nat):Int)=q by lia])
  simp only[ZaU,unL,Zs0,i1,byP,i2]
 refine⟨body,r,e,z1,z2,fun q bs q0 q1=>key q bs q0 (by lia),fun bs=>?_⟩
 rw[key e bs z3 (by lia),ZbV bt (.inr (by omega))]
section
variable {Q:T→Prop}
theorem Zqt(h:Q (.int 1000000000)): Pk (Zcl (.int 10) (.int 9)) Q:=⟨_,by simp only[Zcl];rw[if_pos (by decide +kernel)];rfl,h⟩
end
theorem Znv(hd:0<d)(h:Cell v): Cell (v.fdiv d):=by
 refine⟨?_⟩
 have hb:=h.bits
 unfold Builtin.Int.intBits at hb ⊢
 rw[Int.fdiv_eq_ediv_of_nonneg v (by lia)]
 by_cases z:v / d=0
 ·simp[z]
 ·have hv:v≠0:=fun q=>z (by rw[q];simp)
  rw[if_neg (by simpa using hv)]at hb
  rw[if_neg (by simpa using z)]
  have hn:(v / d).natAbs≤v.natAbs:=Int.natAbs_ediv_le_natAbs v d
  have h1:v.natAbs.log2<2 ^ 20:=by lia
  have h3:(v / d).natAbs.log2<2 ^ 20:=(Nat.log2_lt (by lia)).mpr (Nat.lt_of_le_of_lt hn ((Nat.log2_lt (by lia)).mp h1))
  lia
theorem Zqu(hv:Cell v): Zb8 (v.fdiv 7) M5=true:=by
 have:=(Znv (d:=7) (by decide) hv).bits
 refine ZnJ (Nat.le_trans this (by decide)) ?_
 unfold M5
 exact Nat.le_trans (PyProof.Rows.intBits_le (k:=256) (by decide +kernel)) (by decide)
theorem Zqv: T60<2 ^ 200:=by
 unfold T60;decide
noncomputable def B60(v:Int): Prop:=v.natAbs<2 ^ 210
noncomputable def bk: Nat→Nat
 | 0=>1
 | k+1=>4+8*bk k
section
variable {ns:List Int} {p:Nat} {r:Int} {Q:T→List T→Prop}
theorem ZdS(hL:Zcn ns)(h:∀v,B60 v→Q (.int v) [Zaw ns (p+1) r]): Pr (Zce [Zaw ns p r]) Q:=by
 have t0:=Zqv
 have t1:0<T60:=by unfold T60;decide
 unfold Zce Zhv
 walk_at "tz"
 refine(Zk8 hL fun v hv=>?_)
 walk_at "tz"
 refine Zcv (by decide) (by decide) ?_
 walk_at "tz"
 refine ZqQ ?_
 walk_at "tz"
 refine Zjk (Zqu hv) ?_
 walk_at "tz"
 refine⟨fun c=>?_,fun c=>?_⟩
 ·walk_at "tz"
  refine ZlQ ?_
  walk_at "tz"
  refine Zi8 (by decide) (by decide) ?_
  walk_at "tz"
  refine ZlQ ?_
  walk_at "tz"
  refine h _ ?_
  have h1:=Int.fmod_nonneg_of_pos (v.fdiv 7*M5) (show 0<2*T60-1 by lia)
  have h2:=Int.fmod_lt_of_pos (v.fdiv 7*M5) (show 0<2*T60-1 by lia)
  unfold B60
  omega
 walk_at "tz"
 refine⟨fun c=>?_,fun c=>?_⟩
 ·walk_at "tz"
  refine h _ ?_
  have h1:=Int.fmod_nonneg_of_pos (v.fdiv 7*M5) (show(0:Int)<2001 by lia)
  have h2:=Int.fmod_lt_of_pos (v.fdiv 7*M5) (show(0:Int)<2001 by lia)
  unfold B60
  omega
 ·walk_at "tz"
  refine h _ ?_
  have h1:=Int.fmod_nonneg_of_pos (v.fdiv 7*M5) (show(0:Int)<13 by lia)
  have h2:=Int.fmod_lt_of_pos (v.fdiv 7*M5) (show(0:Int)<13 by lia)
  unfold B60
  omega
theorem Zq2(h0:0≤v)(h1:v<8): ∃z:Int,(-(2 ^ 64)<z∧z<2 ^ 64)∧([T.int 0,.int 1,.int (-1),.int 2,.int 0,.int (-3),.int 1,.int 1000000000]:List T)[v.toNat]?=some (.int z):=by
 have hv:v=0∨v=1∨v=2∨v=3∨v=4∨v=5∨v=6∨v=7:=by lia
 rcases hv with rfl | rfl | rfl | rfl | rfl | rfl | rfl | rfl <;> exact⟨_,by(first | lia | omega),rfl⟩
theorem Zoj{l:List Int}(hl:l.length=n+1): T.lst (l.map T.int)=Zao n (fun i=>l.getD i 0):=by
 have:=Zbu l
 unfold Z0 Z1 at this
 rw[hl]at this
 exact this
theorem Zde(hL:Zcn ns)(hn:n≤100)(h:∀c p',Sh n c→Q (Zao n c) [Zaw ns p' r]): Pr (Zdl [Zaw ns p r,.int n]) Q:=by
 unfold Zdl Zh4
 walk_at "tz"
 refine ZdS hL fun v hv=>?_
 walk_at "tz"
 refine ZcY hL (by decide) fun cd c0 c1=>?_
 walk_at "tz"
 refine Zk3 (n:=n) (a:=fun i=>.int (i:Nat)) (fun i τ=>∃ks p' cd,τ 0=some (Zaw ns p' r)∧τ 2=some (.lst ((v::ks).map T.int))∧τ 3=some (.int cd)∧ks.length=i∧∀k∈ks,-(2 ^ 64)<k∧k<2 ^ 64) ?_ ⟨[],p+1+1,cd,?_,?_,?_,rfl,fun k hk=>(List.not_mem_nil hk).elim⟩ (fun i τ hi hI=>?_) (fun τ hI=>?_)
 ·walk_at "tz"
  rfl
 ·walk_at "tr"
 ·walk_at "tr"
 ·walk_at "tr"
 ·obtain⟨ks,p',cd,e0,e2,e3,h1,h2⟩:=hI
  have m0:=Int.fmod_nonneg_of_pos cd (show(0:Int)<8 by decide)
  have m1:=Int.fmod_lt_of_pos cd (show(0:Int)<8 by decide)
  obtain⟨z,hz,ez⟩:=Zq2 m0 m1
  walk_at "tz"
  refine Zqt ?_
  walk_at "tz"
  refine Zb4 (t:=.int z) m0 ez ?_
  walk_at "tz"
  refine⟨(v::ks).map T.int,by walk_at "tr",by simp;lia,?_⟩
  walk_at "tz"
  refine Zcv (by decide) (by decide) ?_
  refine⟨ks++[z],p',cd.fdiv 8,?_,?_,?_,by simp[h1],fun k hk=>?_⟩
  ·walk_at "tr"
  ·rw[←List.cons_append,List.map_append];walk_at "tr"
  ·walk_at "tr"
  ·rcases Zz8.mp hk with hk | hk
   ·exact h2 k hk
   ·simp at hk;subst hk;exact hz
 ·obtain⟨ks,p',cd,e0,e2,e3,h1,h2⟩:=hI
  walk_at "tz"
  rw[Zoj (n:=n) (by simp[h1])]
  refine h _ _ fun i hi=>?_
  have:(v::ks).getD (i+1) 0=ks[i]:=by
   rw[List.getD_eq_getElem?_getD,List.getElem?_cons_succ,Zy1 (by omega)]
   rfl
  rw[this]
  exact h2 _ (List.getElem_mem _)
theorem ZdW(hL:Zcn ns)(hn:n≤60)(h:∀c p',ClOk n c→Q c [Zaw ns p' r]): Pr (ZeI [Zaw ns p r,.int n]) Q:=by
 unfold ZeI ZhC
 walk_at "tz"
 refine ZcY hL (by decide) fun v v0 v1=>?_
 walk_at "tz"
 have hv:v=0∨v=1∨v=2∨v=3:=by lia
 rcases hv with rfl | rfl | rfl | rfl
 ·refine Zb4 (t:=.str (Str.ofString "under")) (by decide) rfl ⟨rfl,?_⟩
  walk_at "tz"
  refine Zde hL (by lia) fun c p' hc=>?_
  walk_at "tz"
  refine ZaV (by decide +kernel) ?_
  walk_at "tz"
  exact h _ _ (.un hc)
 ·refine Zb4 (t:=.str (Str.ofString "under")) (by decide) rfl ⟨rfl,?_⟩
  walk_at "tz"
  refine Zde hL (by omega) fun c p' hc=>?_
  walk_at "tz"
  refine ZaV (by decide +kernel) ?_
  walk_at "tz"
  exact h _ _ (.un hc)
 ·refine Zb4 (t:=.str (Str.ofString "same")) (by decide) rfl ⟨rfl,?_⟩
  walk_at "tz"
  refine Zde hL (by omega) fun c p' hc=>?_
  walk_at "tz"
  refine ZaV (by decide +kernel) ?_
  walk_at "tz"
  exact h _ _ (.sm hc)
 ·refine Zb4 (t:=.str (Str.ofString "even")) (by decide) rfl ⟨rfl,?_⟩
  walk_at "tz"
  refine Zde hL (by omega) fun c p' hc=>?_
  walk_at "tz"
  refine ZcA (by decide +kernel) ?_
  walk_at "tz"
  refine ZdS hL fun d hd=>?_
  walk_at "tz"
  refine h _ _ (.ev hc ?_)
  split <;> (first | lia | omega)
end
noncomputable def ZfQ(fs:List T)(sig:Nat→Nat×Nat): Prop:=∀j,j<fs.length→∃rest,fs[j]?=some (.tup (.int (sig j).1::rest))∧(sig j).1≤4
section
variable {ns:List Int} {p:Nat} {r:Int} {Q:T→List T→Prop} {fs:List T} {sig:Nat→Nat×Nat} {n:Nat} {sp low code:Int}
theorem Zlm{k:Int}(h0:0≤k)(h1:k<2): ∃o:Option Int,([T.int a,T.none]:List T)[k.toNat]?=some (oT o)∧(∀x,o=some x→x=a)∧(oT o).flat=true:=by
 have hk:k=0∨k=1:=by lia
 rcases hk with rfl | rfl
 ·exact⟨some a,rfl,fun x h=>by cases h;rfl,rfl⟩
 ·exact⟨none,rfl,fun x h=>(by cases h),rfl⟩
theorem ZlU(k:Int): 0≤(k.fmod 4).fdiv 3∧(k.fmod 4).fdiv 3<2:=by
 have h1:=Int.fmod_nonneg_of_pos k (show(0:Int)<4 by decide)
 have h2:=Int.fmod_lt_of_pos k (show(0:Int)<4 by decide)
 generalize k.fmod 4=m at *
 have hm:m=0∨m=1∨m=2∨m=3:=by lia
 rcases hm with rfl | rfl | rfl | rfl <;> decide
theorem Zje(hL:Zcn ns)(hF:ZfQ fs sig)(hfl:fs.length≤10)(h0:0≤code)(hl0:1≤low)(hl1:low≤n)(hn:n≤4)(h:∀t p',PlOk sig fs.length n t→Q t [Zaw ns p' r]): Pr (Zf0 [Zaw ns p r,.lst fs,.lst [.int sp,.int n],.int low,.int code]) Q:=by
 have hd:(n:Int)-low+1≠0:=by lia
 have x0:=Int.fmod_nonneg_of_pos (code.fdiv 10) (show 0<(n:Int)-low+1 by omega)
 have x1:=Int.fmod_lt_of_pos (code.fdiv 10) (show 0<(n:Int)-low+1 by omega)
 obtain⟨X,hX⟩:∃X:Nat,low+(code.fdiv 10).fmod ((n:Int)-low+1)=(X:Int)+1:=⟨(low+(code.fdiv 10).fmod ((n:Int)-low+1)-1).toNat,by omega⟩
 have hXn:X<n:=by omega
 unfold Zf0 ZhA
 walk_at "tz"
 refine Zcv (by decide) (by decide) ?_
 walk_at "tz"
 rw[hX]
 refine⟨fun c=>?_,fun c=>?_⟩
 ·walk_at "tz"
  refine Zde hL (by lia) fun c p' hc=>?_
  walk_at "tz"
  refine ZdS hL fun d hd=>?_
  walk_at "tz"
  refine h _ _ (.part hXn hc ?_ ?_)
  ·split <;> (first | lia | omega)
  ·unfold B60 at hd;split <;> omega
 walk_at "tz"
 refine⟨fun c=>?_,fun c=>?_⟩
 ·walk_at "tz"
  refine Zde hL (by omega) fun c p' hc=>?_
  walk_at "tz"
  refine ZdS hL fun d hd=>?_
  walk_at "tz"
  refine h _ _ (.rest hXn hc ?_)
  split <;> omega
 walk_at "tz"
 refine⟨fun c=>?_,fun c=>?_⟩
 ·walk_at "tz"
  refine ZdS hL fun lo hlo=>?_
  walk_at "tz"
  refine Zcv (by decide) (by decide) ?_
  walk_at "tz"
  refine Zcv (by decide) (by decide) ?_
  walk_at "tz"
  refine Zcv (by decide) (by decide) ?_
  obtain⟨a0,a1⟩:=ZlU (code.fdiv 360)
  obtain⟨o1,e1,q1,f1⟩:=Zlm (a:=lo) a0 a1
  refine Zb4 (t:=oT o1) a0 e1 ⟨f1,?_⟩
  walk_at "tz"
  refine Zcv (by decide) (by decide) ?_
  walk_at "tz"
  refine Zcv (by decide) (by decide) ?_
  obtain⟨b0,b1⟩:=ZlU (code.fdiv 1440)
  obtain⟨o2,e2,q2,f2⟩:=Zlm (a:=lo+(code.fdiv 40).fmod 9) b0 b1
  refine Zb4 (t:=oT o2) b0 e2 ⟨f2,?_⟩
  walk_at "tz"
  refine h _ _ (.any (s:=(o1,o2)) hXn fun x y hx hy=>?_)
  have:=q1 x hx
  have:=q2 y hy
  have:=Int.fmod_nonneg_of_pos (code.fdiv 40) (show(0:Int)<9 by decide)
  lia
 walk_at "tz"
 refine⟨fun c=>?_,fun c=>?_⟩
 ·walk_at "tz"
  refine⟨fun c2=>?_,fun c2=>?_⟩
  ·have c2:=of_decide_eq_true c2
   walk_at "tz"
   refine Zcv (by decide) (by decide) ?_
   have hl:(fs.length:Int)≠0:=by lia
   walk_at "tz"
   have j0:=Int.fmod_nonneg_of_pos (code.fdiv 40) (show 0<(fs.length:Int)by omega)
   have j1:=Int.fmod_lt_of_pos (code.fdiv 40) (show 0<(fs.length:Int)by omega)
   obtain⟨j,hj⟩:∃j:Nat,(code.fdiv 40).fmod (fs.length:Int)=j:=⟨_,(Int.toNat_of_nonneg j0).symm⟩
   rw[hj]
   obtain⟨rest,ej,pj⟩:=hF j (by omega)
   refine ZiZ (n:=(sig j).1) (a:=fun i=>.int (i:Nat)) (fun t:T=>t) .none (fun _ t=>∃c,t=Zao n c∧Sh n c) (fun _ τ=>(∃p',τ 0=some (Zaw ns p' r))∧τ 2=some (.lst [.int sp,.int n])∧τ 5=some (.int ((X:Int)+1))∧τ 8=some (.int j)) (by lia) ?_ ⟨⟨p,?_⟩,?_,?_,?_⟩ (fun i τ hi hI=>?_) fun y τ hy hI=>?_
   ·walk_at "tz"
    refine Zb4 (t:=.tup (.int (sig j).1::rest)) (by omega) (by simpa using ej) ?_
    walk_at "tz"
    rfl
   ·walk_at "tr"
   ·walk_at "tr"
   ·walk_at "tr"
   ·walk_at "tr"
   ·obtain⟨⟨p',e0⟩,e2,e5,e8⟩:=hI
    walk_at "tz"
    refine Zde hL (by lia) fun c p'' hc=>?_
    refine⟨⟨_,rfl,c,rfl,hc⟩,⟨p'',?_⟩,?_,?_,?_⟩
    ·walk_at "tr"
    ·walk_at "tr"
    ·walk_at "tr"
    ·walk_at "tr"
   ·obtain⟨⟨p',e0⟩,e2,e5,e8⟩:=hI
    walk_at "tz"
    refine h _ _ (.call hXn (by omega) (by rw[ZaI]) fun s hs=>?_)
    obtain⟨i,hi,rfl⟩:=Zkl hs
    exact hy i hi
  ·walk_at "tz"
   refine Zde hL (by omega) fun c p' hc=>?_
   walk_at "tz"
   exact h _ _ (.set hXn hc)
 ·refine⟨fun q=>(by cases q),fun _=>?_⟩
  walk_at "tz"
  refine Zde hL (by omega) fun c p' hc=>?_
  walk_at "tz"
  exact h _ _ (.set hXn hc)
end
noncomputable def StD(sig:Nat→Nat×Nat)(g n k:Nat)(t:T): Prop:=(∀u,∃r e,SL sig g n k t u r e∧r.length≤bk k)∧Nice (3+2*k) t
noncomputable def BodyD(sig:Nat→Nat×Nat)(g n k:Nat)(ts:List T): Prop:=ts.length≤4∧∀t∈ts,StD sig g n k t
section
variable {sig:Nat→Nat×Nat} {g n k:Nat}
theorem Zkp: ∀{ts:List T},(∀t∈ts,StD sig g n k t)→∀u,∃r e,LyB (SL sig g n k) ts u r e∧r.length≤ts.length*bk k
 | [],_,u=>⟨[],u,.nil,by simp⟩
 | t::ts,h,u=>by
  obtain⟨r,e,h1,h2⟩:=(h t Zz5).1 u
  obtain⟨r',e',h3,h4⟩:=Zkp (fun t m=>h t (Zz2 _ m)) e
  refine⟨r++r',e',.cons h1 h3,?_⟩
  rw[List.length_append,List.length_cons,Nat.add_mul]
  lia
theorem BodyD.rows(h:BodyD sig g n k ts)(u:Int): ∃r e,LyB (SL sig g n k) ts u r e∧r.length≤4*bk k:=by
 obtain⟨r,e,h1,h2⟩:=Zkp h.2 u
 exact⟨r,e,h1,Nat.le_trans h2 (Nat.mul_le_mul_right _ h.1)⟩
theorem BodyD.nice(h:BodyD sig g n k ts): Nice (3+2*k+1) (.lst ts):=.lst (by have:=h.1;lia) fun t m=>(h.2 t m).2
theorem StD.plain(h:PlOk sig g n t)(hn:n≤60)(hs:∀h,(sig h).1≤60): StD sig g n k t:=by
 refine⟨fun u=>?_,((Zjd h hn hs).1).mono (by lia)⟩
 cases k with
 | zero=>exact⟨_,_,⟨h,rfl,rfl⟩,by simp[bk]⟩
 | succ k=>exact⟨_,_,.inl ⟨h,rfl,rfl⟩,by simp[bk];lia⟩
theorem Zpm{c:T}{a b:List T}(hc:ClOk n c)(hn:n≤60)(ha:BodyD sig g n k a)(hb:BodyD sig g n k b): StD sig g n (k+1) (ifT c a b):=by
 refine⟨fun u=>?_,?_⟩
 ·obtain⟨ra,ea,h1,h2⟩:=ha.rows (u+1)
  obtain⟨rb,eb,h3,h4⟩:=hb.rows (ea+1)
  exact⟨_,_,.inr (.inl ⟨c,a,b,ra,ea,rb,eb,rfl,hc,h1,h3,rfl,rfl⟩),by simp[bk];lia⟩
 ·rw[show 3+2*(k+1)=3+2*k+1+1 by lia]
  exact .tup (by simp) (nlc (.str (by decide +kernel)) (nlc ((Zfj hc hn).mono (by lia)) (nlc ha.nice (nlc hb.nice nl0))))
theorem Zpn{c:T}{a:List T}(hc:ClOk n c)(hn:n≤60)(ha:BodyD sig g n k a): StD sig g n (k+1) (whT c a):=by
 refine⟨fun u=>?_,?_⟩
 ·obtain⟨ra,ea,h1,h2⟩:=ha.rows (u+2)
  exact⟨_,_,.inr (.inr ⟨c,a,ra,ea,rfl,hc,h1,rfl,rfl⟩),by simp[bk];lia⟩
 ·rw[show 3+2*(k+1)=3+2*k+1+1 by lia]
  exact .tup (by simp) (nlc (.str (by decide +kernel)) (nlc ((Zfj hc hn).mono (by lia)) (nlc ha.nice nl0)))
end
noncomputable def Zgs(fs:List T)(sig:Nat→Nat×Nat)(n:Nat)(sp low:Int)(d:Nat)(P:List T→Option (T×List T)): Prop:=∀(ns:List Int) (p:Nat) (r:Int) (Q:T→List T→Prop),Zcn ns→(∀ts p' r',BodyD sig fs.length n (3-d) ts→Q (.lst ts) [Zaw ns p' r'])→Pr (P [Zaw ns p r,.lst fs,.lst [.int sp,.int n],.int low,.int d]) Q
section
variable {ns:List Int} {p:Nat} {r:Int} {Q:T→List T→Prop} {fs:List T} {sig:Nat→Nat×Nat} {n:Nat} {sp low:Int}
theorem ZmB{d:Nat}{P:List T→Option (T×List T)}(hL:Zcn ns)(hF:ZfQ fs sig)(hfl:fs.length≤10)(hs:∀h,(sig h).1≤60)(hl0:1≤low)(hn:n≤4)(hd:d≤3)(hP:d<3→Zgs fs sig n sp low (d+1) P)(h:∀t p' r',StD sig fs.length n (3-d) t→Q t [Zaw ns p' r']): Pr (ZfV P [Zaw ns p r,.lst fs,.lst [.int sp,.int n],.int low,.int d]) Q:=by
 unfold ZfV Zhm
 have e3:Zaw ns p r=T.lst [Zet ns,T.int p,T.int r]:=rfl
 rw[e3]
 walk_at "tz"
 refine⟨_,2,rfl,rfl,by decide,(by simp),?_⟩
 show Psx (ZD _ _ (ZI _ 0 (Zaw ns p (r-1)))) _ _
 walk_at "tz"
 refine ZcY hL (by decide) fun v v0 v1=>?_
 walk_at "tz"
 refine⟨fun c=>?_,fun c=>?_⟩
 ·walk_at "tz"
  refine⟨fun c2=>?_,fun c2=>?_⟩
  ·have d3:d<3:=by have:=of_decide_eq_true c2;lia
   have ed:(d:Int)+1=((d+1:Nat):Int):=by lia
   have en:3-d=3-(d+1)+1:=by lia
   walk_at "tz"
   refine Zcv (by decide) (by decide) ?_
   walk_at "tz"
   refine⟨fun c3=>?_,fun c3=>?_⟩
   ·walk_at "tz"
    refine ZdW hL (by lia) fun cl p1 hc=>?_
    walk_at "tz"
    rw[ed]
    refine hP d3 _ _ _ _ hL fun a p2 r2 ha=>?_
    walk_at "tz"
    refine⟨fun c4=>?_,fun c4=>?_⟩
    ·walk_at "tz"
     refine h _ _ _ ?_
     rw[en]
     exact Zpn hc (by omega) ha
    ·walk_at "tz"
     rw[ed]
     refine hP d3 _ _ _ _ hL fun b p3 r3 hb=>?_
     walk_at "tz"
     refine h _ _ _ ?_
     rw[en]
     exact Zpm hc (by omega) ha hb
   ·refine⟨fun q=>(by cases q),fun _=>?_⟩
    walk_at "tz"
    refine⟨fun c5=>?_,fun c5=>?_⟩
    ·refine⟨fun _=>?_,fun q=>(by cases q)⟩
     walk_at "tz"
     refine ZdW hL (by omega) fun c p' hc=>?_
     walk_at "tz"
     exact h _ _ _ (StD.plain (.say hc) (by omega) hs)
    ·have c5:=of_decide_eq_false c5
     walk_at "tz"
     refine⟨fun c6=>?_,fun c6=>?_⟩
     ·refine⟨fun _=>?_,fun q=>(by cases q)⟩
      walk_at "tz"
      refine ZdW hL (by omega) fun c p' hc=>?_
      walk_at "tz"
      exact h _ _ _ (StD.plain (.say hc) (by omega) hs)
     ·walk_at "tz"
      refine Zje hL hF hfl v0 hl0 (by lia) hn fun t p' ht=>?_
      walk_at "tz"
      exact h _ _ _ (StD.plain ht (by omega) hs)
  ·refine⟨fun q=>(by cases q),fun _=>?_⟩
   walk_at "tz"
   refine⟨fun c5=>?_,fun c5=>?_⟩
   ·refine⟨fun _=>?_,fun q=>(by cases q)⟩
    walk_at "tz"
    refine ZdW hL (by omega) fun c p' hc=>?_
    walk_at "tz"
    exact h _ _ _ (StD.plain (.say hc) (by omega) hs)
   ·have c5:=of_decide_eq_false c5
    walk_at "tz"
    refine⟨fun c6=>?_,fun c6=>?_⟩
    ·refine⟨fun _=>?_,fun q=>(by cases q)⟩
     walk_at "tz"
     refine ZdW hL (by omega) fun c p' hc=>?_
     walk_at "tz"
     exact h _ _ _ (StD.plain (.say hc) (by omega) hs)
    ·walk_at "tz"
     refine Zje hL hF hfl v0 hl0 (by omega) hn fun t p' ht=>?_
     walk_at "tz"
     exact h _ _ _ (StD.plain ht (by omega) hs)
 ·refine⟨fun q=>(by cases q),fun _=>?_⟩
  walk_at "tz"
  refine⟨fun c5=>?_,fun c5=>?_⟩
  ·refine⟨fun _=>?_,fun q=>(by cases q)⟩
   walk_at "tz"
   refine ZdW hL (by omega) fun c p' hc=>?_
   walk_at "tz"
   exact h _ _ _ (StD.plain (.say hc) (by omega) hs)
  ·have c5:=of_decide_eq_false c5
   walk_at "tz"
   refine⟨fun c6=>?_,fun c6=>?_⟩
   ·refine⟨fun _=>?_,fun q=>(by cases q)⟩
    walk_at "tz"
    refine ZdW hL (by omega) fun c p' hc=>?_
    walk_at "tz"
    exact h _ _ _ (StD.plain (.say hc) (by omega) hs)
   ·walk_at "tz"
    refine Zje hL hF hfl v0 hl0 (by omega) hn fun t p' ht=>?_
    walk_at "tz"
    exact h _ _ _ (StD.plain ht (by omega) hs)
theorem ZmC{d:Nat}{P:List T→Option (T×List T)}(hF:ZfQ fs sig)(hfl:fs.length≤10)(hs:∀h,(sig h).1≤60)(hl0:1≤low)(hn:n≤4)(hd:d≤3)(hP:d<3→Zgs fs sig n sp low (d+1) P): Zgs fs sig n sp low d (ZbK 5 [(0,1)] (Zf1 P)):=fun ns p r Q hL h=>by
 unfold Zf1
 walk_at "tz"
 refine Zo3 ?_
 walk_at "tz"
 refine ZcY hL (by decide) fun v v0 v1=>?_
 walk_at "tz"
 obtain⟨m,hm,hm4⟩:∃m:Nat,v+1-(if(d:Int)<1 then(d:Int)else 1)=m∧m≤4:=⟨(v+1-(if(d:Int)<1 then(d:Int)else 1)).toNat,by split <;> (first | lia | omega),by split <;> (first | lia | omega)⟩
 rw[hm]
 refine Rn.one (by lia) ?_
 refine ZnW (fun i τ=>∃ts p' r',τ 0=some (Zaw ns p' r')∧τ 1=some (.lst fs)∧τ 2=some (.lst [.int sp,.int n])∧τ 3=some (.int low)∧τ 4=some (.int d)∧τ 5=some (.lst ts)∧(∀t∈ts,StD sig fs.length n (3-d) t)∧ts.length≤i) ⟨[],p+1,r,?_,?_,?_,?_,?_,?_,fun t m=>(List.not_mem_nil m).elim,by simp⟩ (fun i τ hi hI=>?_) (fun τ hI=>?_)
 ·walk_at "tr"
 ·walk_at "tr"
 ·walk_at "tr"
 ·walk_at "tr"
 ·walk_at "tr"
 ·walk_at "tr"
 ·obtain⟨ts,p',r',e0,e1,e2,e3,e4,e5,hb,hl⟩:=hI
  have e9:Zaw ns p' r'=T.lst [Zet ns,T.int p',T.int r']:=rfl
  walk_at "tz"
  rw[e9]
  refine Zb4 (t:=.int r') (by decide) rfl ?_
  walk_at "tz"
  refine⟨fun c=>?_,fun c=>?_⟩
  ·walk_at "tz"
   refine ZmB hL hF hfl hs hl0 hn hd hP fun t p2 r2 ht=>?_
   walk_at "tz"
   refine⟨ts,?_,by lia,ts++[t],p2,r2,?_,?_,?_,?_,?_,?_,fun t' m'=>?_,by simp;omega⟩
   ·walk_at "tr"
   ·walk_at "tr"
   ·walk_at "tr"
   ·walk_at "tr"
   ·walk_at "tr"
   ·walk_at "tr"
   ·walk_at "tr"
   ·rcases Zz8.mp m' with m' | m'
    ·exact hb t' m'
    ·simp at m';subst m';exact ht
  ·walk_at "tz"
   refine⟨ts,p',r',?_,?_,?_,?_,?_,?_,hb,by lia⟩
   ·walk_at "tr"
   ·walk_at "tr"
   ·walk_at "tr"
   ·walk_at "tr"
   ·walk_at "tr"
   ·walk_at "tr"
 ·obtain⟨ts,p',r',e0,e1,e2,e3,e4,e5,hb,hl⟩:=hI
  walk_at "tz"
  exact h ts p' r' ⟨by lia,hb⟩
theorem Zju(hF:ZfQ fs sig)(hfl:fs.length≤10)(hs:∀h,(sig h).1≤60)(hl0:1≤low)(hn:n≤4): ∀(f d:Nat),d≤3→4≤f+d→Zgs fs sig n sp low d (ZeJ f)
 | 0,d,h1,h2=>absurd h2 (by lia)
 | f+1,d,h1,h2=>ZmC hF hfl hs hl0 hn h1 fun h=>Zju hF hfl hs hl0 hn f (d+1) (by lia) (by lia)
end
section
variable {sig sig':Nat→Nat×Nat} {g n:Nat}
theorem PlOk.congr(h:∀j,j<g→sig j=sig' j)(p:PlOk sig g n t): PlOk sig' g n t:=by
 cases p with
 | set a b=>exact .set a b
 | part a b c d=>exact .part a b c d
 | rest a b c=>exact .rest a b c
 | any a b=>exact .any a b
 | say a=>exact .say a
 | call a b c d=>exact .call a b (by rw[←h _ b];exact c) d
theorem SL.congr(h:∀j,j<g→sig j=sig' j): ∀(k:Nat) (t:T) (u:Int) (r:List T) (e:Int),SL sig g n k t u r e→SL sig' g n k t u r e
 | 0,t,u,r,e,x=>⟨x.1.congr h,x.2⟩
 | k+1,t,u,r,e,x=>by
  rcases x with⟨hp,h2⟩ | ⟨c,a,b,ra,ea,rb,eb,h1,hc,ha,hb,h2⟩ | ⟨c,a,ra,ea,h1,hc,ha,h2⟩
  ·exact .inl ⟨hp.congr h,h2⟩
  ·exact .inr (.inl ⟨c,a,b,ra,ea,rb,eb,h1,hc,ZcH (SL.congr h k) ha,ZcH (SL.congr h k) hb,h2⟩)
  ·exact .inr (.inr ⟨c,a,ra,ea,h1,hc,ZcH (SL.congr h k) ha,h2⟩)
theorem SL.up: ∀(k:Nat) (t:T) (u:Int) (r:List T) (e:Int),SL sig g n k t u r e→SL sig g n (k+1) t u r e
 | 0,t,u,r,e,x=>.inl x
 | k+1,t,u,r,e,x=>by
  rcases x with⟨hp,h2⟩ | ⟨c,a,b,ra,ea,rb,eb,h1,hc,ha,hb,h2⟩ | ⟨c,a,ra,ea,h1,hc,ha,h2⟩
  ·exact .inl ⟨hp,h2⟩
  ·exact .inr (.inl ⟨c,a,b,ra,ea,rb,eb,h1,hc,ZcH (SL.up k) ha,ZcH (SL.up k) hb,h2⟩)
  ·exact .inr (.inr ⟨c,a,ra,ea,h1,hc,ZcH (SL.up k) ha,h2⟩)
theorem StD.congr(h:∀j,j<g→sig j=sig' j)(x:StD sig g n k t): StD sig' g n k t:=⟨fun u=>by
 obtain⟨r,e,h1,h2⟩:=x.1 u
 exact⟨r,e,h1.congr h _ _ _ _ _,h2⟩,x.2⟩
theorem StD.up(x:StD sig g n k t): StD sig g n (k+1) t:=⟨fun u=>by
 obtain⟨r,e,h1,h2⟩:=x.1 u
 exact⟨r,e,h1.up _ _ _ _ _,by simp[bk];lia⟩,x.2.mono (by lia)⟩
end
structure GoodFs(fs:List T)(sig:Nat→Nat×Nat): Prop where
 fn:∀j,j<fs.length→∃body,fs[j]?=some (.tup [.int (sig j).1,.int (sig j).2,.lst body])∧BodyD sig j (sig j).2 3 body
 sg:∀h,(sig h).1≤(sig h).2∧1≤(sig h).2∧(sig h).2≤4
theorem GoodFs.fsok(G:GoodFs fs sig): ZfQ fs sig:=fun j hj=>by
 obtain⟨b,h1,_⟩:=G.fn j hj
 have:=G.sg j
 exact⟨_,h1,by lia⟩
theorem GoodFs.snoc{p:Nat}(G:GoodFs fs sig)(h1:p≤m)(h2:1≤m)(h3:m≤4)(hb:BodyD sig fs.length m 3 body): ∃sig',GoodFs (fs++[.tup [.int p,.int m,.lst body]]) sig':=by
 refine⟨fun j=>if j=fs.length then(p,m)else sig j,⟨fun j hj=>?_,fun h=>?_⟩⟩
 ·have cg:∀i,i≤fs.length→∀j,j<i→sig j=(if j=fs.length then(p,m)else sig j):=fun i hi j hj=>by rw[if_neg (by lia)]
  by_cases c:j=fs.length
  ·subst c
   simp only[if_true]
   refine⟨body,by simp,hb.1,fun t m=>(hb.2 t m).congr (cg fs.length (Zz10 _))⟩
  ·simp at hj
   obtain⟨b,q1,q2⟩:=G.fn j (by lia)
   simp only[c,if_false]
   refine⟨b,by rw[Zy0 (by omega)];exact q1,q2.1,fun t m=>(q2.2 t m).congr (cg j (by lia))⟩
 ·split
  ·exact⟨h1,h2,h3⟩
  ·exact G.sg h
theorem GoodFs.pr(G:GoodFs fs sig): PrOk fs sig:=⟨fun h hh=>by
 obtain⟨b,q1,q2⟩:=G.fn h hh
 obtain⟨r,e,q3,q4⟩:=q2.rows 0
 exact⟨b,r,e,q1,q3,Nat.le_trans q4 (by decide)⟩,G.sg⟩
theorem GoodFs.nice(G:GoodFs fs sig)(hl:fs.length≤4): Nice 12 (.lst fs):=.lst (by lia) fun t m=>by
 obtain⟨i,hi,rfl⟩:=List.getElem_of_mem m
 obtain⟨b,q1,q2⟩:=G.fn i hi
 rw[Zy1 hi]at q1
 rw[Option.some.inj q1]
 exact .tup (by simp) (nlc (.int _) (nlc (.int _) (nlc q2.nice nl0)))
section
variable {ns:List Int} {p:Nat} {r:Int} {Q:T→List T→Prop}
theorem Znw(hL:Zcn ns)(h:∀fs sig p' r',GoodFs fs sig→1≤fs.length→fs.length≤4→Q (.lst fs) [Zaw ns p' r']): Pr (ZeF [Zaw ns p r]) Q:=by
 unfold ZeF Zhq
 walk_at "tz"
 refine ZcY hL (by decide) fun v v0 v1=>?_
 walk_at "tz"
 obtain⟨m,rfl⟩:∃m:Nat,v=m:=⟨_,(Int.toNat_of_nonneg v0).symm⟩
 refine Zk3 (n:=m+1) (a:=fun i=>.int (i:Nat)) (fun i τ=>∃fs sig p' r',τ 0=some (Zaw ns p' r')∧τ 1=some (.lst fs)∧τ 2=some (.int m)∧fs.length=i∧GoodFs fs sig) ?_ ⟨[],fun _=>(0,1),p+1,r,?_,?_,?_,rfl,⟨fun j hj=>by simp at hj,fun _=>by decide⟩⟩ (fun i τ hi hI=>?_) (fun τ hI=>?_)
 ·walk_at "tz"
  rw[show(m:Int)+1=((m+1:Nat):Int)by lia]
  exact Rn.one (by lia) rfl
 ·walk_at "tr"
 ·walk_at "tr"
 ·walk_at "tr"
 ·obtain⟨fs,sig,p',r',e0,e1,e2,hl,G⟩:=hI
  have hF:=G.fsok
  have hs:∀h,(sig h).1≤60:=fun h=>by have:=G.sg h;lia
  walk_at "tz"
  refine ZcY hL (by decide) fun cd c0 c1=>?_
  have k0:=Int.fmod_nonneg_of_pos cd (show(0:Int)<4 by decide)
  have k1:=Int.fmod_lt_of_pos cd (show(0:Int)<4 by decide)
  have kd:(2:Int)+cd.fmod 4≠0:=by omega
  have s0:=Int.fmod_nonneg_of_pos (cd.fdiv 4) (show(0:Int)<2+cd.fmod 4 by omega)
  have s1:=Int.fmod_lt_of_pos (cd.fdiv 4) (show(0:Int)<2+cd.fmod 4 by omega)
  obtain⟨sp,hsp⟩:∃sp:Nat,(cd.fdiv 4).fmod (2+cd.fmod 4)=sp:=⟨_,(Int.toNat_of_nonneg s0).symm⟩
  obtain⟨n,hn⟩:∃n:Nat,1+cd.fmod 4=n:=⟨(1+cd.fmod 4).toNat,by omega⟩
  walk_at "tz"
  refine Zcv (by decide) (by decide) ?_
  walk_at "tz"
  rw[hsp,hn]
  refine⟨fun c=>?_,fun c=>?_⟩
  ·have c':=of_decide_eq_true c
   walk_at "tz"
   refine⟨_,rfl,?_⟩
   walk_at "tz"
   rw[c]
   refine⟨.int 1,rfl,?_⟩
   walk_at "tz"
   refine Zju (low:=(sp:Int)+1) (sp:=sp) hF (by lia) hs (by omega) (by omega) 9 1 (by lia) (by lia) _ _ _ _ hL fun ts p2 r2 hb=>?_
   walk_at "tz"
   have hb3:BodyD sig fs.length n 3 ts:=⟨hb.1,fun t m=>(hb.2 t m).up⟩
   obtain⟨sig',G'⟩:=G.snoc (p:=sp) (m:=n) (by omega) (by omega) (by omega) hb3
   refine⟨fs,by walk_at "tr",by lia,fs++[.tup [.int sp,.int n,.lst ts]],sig',p2,r2,?_,?_,?_,by simp[hl],G'⟩
   ·walk_at "tr"
   ·walk_at "tr"
   ·walk_at "tr"
  ·have c':=of_decide_eq_false c
   walk_at "tz"
   refine Zb4 (t:=.int r') (by decide) rfl ?_
   walk_at "tz"
   refine⟨_,2,rfl,rfl,by decide,(by simp),?_⟩
   show Psx (ZdA _ _ _ (ZI _ 0 (Zaw ns (p'+1) (r'+8)))) _ _
   walk_at "tz"
   refine⟨_,rfl,?_⟩
   walk_at "tz"
   rw[c]
   refine⟨.int 0,rfl,?_⟩
   walk_at "tz"
   refine Zju (low:=1) (sp:=sp) hF (by lia) hs (by lia) (by omega) 9 0 (by lia) (by lia) _ _ _ _ hL fun ts p2 r2 hb=>?_
   walk_at "tz"
   have hb3:BodyD sig fs.length n 3 ts:=⟨hb.1,fun t m=>hb.2 t m⟩
   obtain⟨sig',G'⟩:=G.snoc (p:=sp) (m:=n) (by omega) (by omega) (by omega) hb3
   refine⟨fs,by walk_at "tr",by lia,fs++[.tup [.int sp,.int n,.lst ts]],sig',p2,r2,?_,?_,?_,by simp[hl],G'⟩
   ·walk_at "tr"
   ·walk_at "tr"
   ·walk_at "tr"
 ·obtain⟨fs,sig,p',r',e0,e1,e2,hl,G⟩:=hI
  walk_at "tz"
  exact h fs sig p' r' G (by lia) (by lia)
end
noncomputable def ZfR: Sm:=Zw 7 (Zc ZE (Za 6) (Zc Zbh (ZU (Zb (Zd 0) Ze)) (Zc Zaf (Zc Zf (Zc Zf (Za 5) (ZM Zbl (Zd 1))) (Zd 1)) (Zc Zf (Zc Zf (Za 5) (ZM Zbl (Zd 1))) (Zd 0)))))
noncomputable def ZfS: Sm:=Zw 8 (ZU (Zb (Za 5) (Zb (Za 3) (Zb (Zd 0) (Zb (ZU Ze) (Zb (Zc ZE (Za 2) (Zd 1)) Ze))))))
noncomputable def ZfT: Sm:=ZC (Zh ZaM (Zb (Za 8) (Zb (Zc Zaf (Zh Z3 (Zb (Za 5) Ze)) (Zd 1)) (Zb (Zd 0) (Zb (Za 7) Ze)))))
noncomputable def Zhk: Sm:=ZC (Zh Zga (Zb (Za 8) (Zb (Zc Zaf (Zh Z3 (Zb (Za 5) Ze)) (Zd 1)) (Zb (Zc Zf (Zc Zf (Za 5) (ZM Zbl (Zd 1))) (Zd 2)) (Zb (Zd 1) (Zb (Za 7) Ze))))))
noncomputable def m015(sig:Nat→Nat×Nat)(last:Nat)(ss:List Int): Mo:=((last:Int),0,ss++List.replicate ((sig last).2-(sig last).1) 0)
theorem Zln{v5:V}{p6 kk last:Nat}{F5:List Nat}(hp:0<H.length)(r5:RF H v5 (.lst fns) F5)(h6:H[p6]?=some (ss.map V.int))(h3:H[kk]?=some (ks.map V.int))(s0:0≤steps)(s9:steps≤900)(W:Wo fns tw sig fns.length)(hl:fns.length=last+1)(hl4:last<4)(hss:ss.length=(sig last).1)
  (e5:ρ 5=some v5) (e6:ρ 6=some (.ref p6)) (e3:ρ 3=some (.ref kk)) (e2:ρ 2=some (.int steps)):
  ∃X g x G us new,Zm ZfR (Zm ZfS (Zm ZfT Zhk)) ρ H=some (none,upd (upd ρ 7 (.ref x)) 8 (.ref g),H++X)∧RF (H++X) (.ref g) (.lst [.lst fns,Z0 ks,.int (us:Nat),.lst ((m015 sig last ss::new).map Zbo),.int (steps+1)]) G∧(∀a∈G,H.length≤a∨a∈F5∨a=kk)∧ZbP (.lst fns) tw ks steps.toNat ⟨0,[],m015 sig last ss⟩=some (new,us)∧∀m∈m015 sig last ss::new,m.2.2.length≤100:=by
 obtain⟨body,rr,ee,f1,f2,f3,f4⟩:=W.fn last (by lia)
 obtain⟨q1,q2,q3⟩:=W.sg last (by omega)
 have ix:ZcD fns (-1)=some (.tup [.int (sig last).1,.int (sig last).2,.lst body]):=by
  have:seqIndex? (-1) fns.length=some last:=by
   rw[hl]
   unfold seqIndex?
   simp
   lia
  simp[ZcD,this,f1]
 have r5o:RFo H v5 (.lst fns) (· < H.length):=⟨F5,r5,r5.lt⟩
 obtain⟨vsh,sh1,sh2⟩:=Zfe r5o ix
 obtain⟨vs5,rfl,rs5⟩:=sh2.tup
 obtain⟨w0,vs6,rfl,z0,rs6⟩:=ZT rs5
 obtain⟨w1,vs7,rfl,z1,rs7⟩:=ZT rs6
 obtain⟨vbd,vs8,rfl,zb,rs8⟩:=ZT rs7
 have:=Zbx rs8;subst this
 have:=z0.int;subst this
 have:=z1.int;subst this
 have shX:∀X,Zf v5 (.int (-1)) (H++X)=some (.tup [.int (sig last).1,.int (sig last).2,vbd],H++X):=fun X=>by
  obtain⟨b5,vs,rfl,hb5,_,_⟩:=r5o.lst
  have hb5':(H++X)[b5]?=some vs:=by rw[Zy0 (lt_of_at hb5)];exact hb5
  simp only[Zf,hb5,hb5',Zs0]at sh1 ⊢
  obtain⟨j,j1,j2⟩:=Zz0.mp sh1
  obtain⟨v,j3,j4⟩:=Zz1.mp j2
  cases j4
  simp[j1,j3]
 have lenX:∀X,Z3 [v5] (H++X)=some (.int fns.length,H++X):=fun X=>ZgE (P:=fun _=>True) ⟨F5,r5.ext X,fun _ _=>trivial⟩
 generalize hzz:(List.replicate ((sig last).2-(sig last).1) (0:Int))=zz
 have lzz:zz.length=(sig last).2-(sig last).1:=by rw[←hzz];simp
 generalize hbs:ss++zz=bs
 have lbs:bs.length=(sig last).2:=by rw[←hbs];simp;omega
 generalize hK1:H++[[V.int 0],zz.map V.int,bs.map V.int]=K1
 generalize hx:H.length+2=x
 have l1:K1.length=x+1:=by rw[←hK1];simp;omega
 have k1:∀a,a<H.length→K1[a]?=H[a]?:=fun a l=>by rw[←hK1,Zy0 l]
 have k1x:K1[x]?=some (bs.map V.int):=by
  rw[←hK1,←hx,Zy5 (by lia),show H.length+2-H.length=2 by lia]
  rfl
 have sa:ZfR ρ H=some (none,upd ρ 7 (.ref x),K1):=by
  have a2:Zc Zbh (ZU (Zb (Zd 0) Ze)) (Zc Zaf (Zc Zf (Zc Zf (Za 5) (ZM Zbl (Zd 1))) (Zd 1)) (Zc Zf (Zc Zf (Za 5) (ZM Zbl (Zd 1))) (Zd 0))) ρ H=some (.ref (H.length+1),H++[[V.int 0]]++[zz.map V.int]):=by
   have b1:ZU (Zb (Zd 0) Ze) ρ H=some (.ref H.length,H++[[V.int 0]]):=by
    simp only[ZU,Zb,Zd,Ze,Zs0]
    rw[if_pos (by rw[Zac];simp)]
   have b2:((H++[[V.int 0]])[H.length]?:Option (List V))=some [V.int 0]:=by simp
   have b3:(((sig last).2:Int)-((sig last).1:Int)).toNat=(sig last).2-(sig last).1:=by lia
   simp only[Zc,b1,Zs0,Za,e5,Zs1,ZM,Zd,Zjw,shX,i31,i30,Zdb,Zbh,b2,b3]
   rw[if_pos ⟨by rw[Zac];simp;lia,by lia,by lia⟩,ZiJ,hzz]
   simp
  have c1:(H++[[V.int 0]]++[zz.map V.int])[p6]?=some (ss.map V.int):=by
   rw[List.append_assoc,Zy0 (lt_of_at h6)];exact h6
  have c2:(H++[[V.int 0]]++[zz.map V.int])[H.length+1]?=some (zz.map V.int):=by
   rw[Zy5 (by simp)]
   simp
  have c3:ZE (.ref p6) (.ref (H.length+1)) (H++[[V.int 0]]++[zz.map V.int])=some (.ref x,K1):=by
   simp only[ZE,c1,c2,Zs0]
   rw[if_pos (by rw[Zac];simp[lzz];omega),←List.map_append,hbs,←hK1]
   simp
   omega
  have c4:Zc ZE (Za 6) (Zc Zbh (ZU (Zb (Zd 0) Ze)) (Zc Zaf (Zc Zf (Zc Zf (Za 5) (ZM Zbl (Zd 1))) (Zd 1)) (Zc Zf (Zc Zf (Za 5) (ZM Zbl (Zd 1))) (Zd 0)))) ρ H=some (.ref x,K1):=by
   have g6:Za 6 ρ H=some (.ref p6,H):=by simp[Za,e6]
   rw[←c3]
   simp only[Zc]at a2 ⊢
   simp only[g6,Zs0,a2]
  unfold ZfR
  simp only[Zw,c4,Zs1]
 generalize hmk:K1.length=mk
 generalize hg:mk+1=g
 generalize hK2:K1++[[],[v5,.ref kk,.int 0,.ref mk,.int (steps+1)]]=K2
 have l2:K2.length=g+1:=by rw[←hK2];simp;lia
 have k2:∀a,a<K1.length→K2[a]?=K1[a]?:=fun a l=>by rw[←hK2,Zy0 l]
 have k2m:K2[mk]?=some []:=by rw[←hK2,Zy5 (by lia),show mk-K1.length=0 by omega];rfl
 have k2g:K2[g]?=some [v5,.ref kk,.int 0,.ref mk,.int (steps+1)]:=by rw[←hK2,Zy5 (by lia),show g-K1.length=1 by omega];rfl
 have kH:∀a,a<H.length→K2[a]?=H[a]?:=fun a l=>(k2 a (by lia)).trans (k1 a l)
 have sb:ZfS (upd ρ 7 (.ref x)) K1=some (none,upd (upd ρ 7 (.ref x)) 8 (.ref g),K2):=by
  have u5:upd ρ 7 (.ref x) 5=some v5:=by simp[upd,e5]
  have u3:upd ρ 7 (.ref x) 3=some (.ref kk):=by simp[upd,e3]
  have u2:upd ρ 7 (.ref x) 2=some (.int steps):=by simp[upd,e2]
  unfold ZfS
  have c:ZU (Zb (Za 5) (Zb (Za 3) (Zb (Zd 0) (Zb (ZU Ze) (Zb (Zc ZE (Za 2) (Zd 1)) Ze))))) (upd ρ 7 (.ref x)) K1=some (.ref g,K2):=by
   have c0:ZU Ze (upd ρ 7 (.ref x)) K1=some (.ref mk,K1++[[]]):=by
    simp only[ZU,Ze,Zs0,List.length_nil,Nat.zero_le,if_true,hmk]
   generalize hE:ZU Ze=E0 at c0
   simp only[ZU,Zb,Za,u5,u3,u2,Zd,Zs1,Zs0,c0,Zc,Zda,Ze]
   rw[if_pos (by rw[Zac];simp),←hK2]
   simp
   lia
  simp only[Zw,c,Zs1]
 obtain⟨st,hst⟩:∃st:Nat,steps=st:=⟨_,(Int.toNat_of_nonneg s0).symm⟩
 have lk:=lt_of_at h3
 have G0:Gw K2 g mk kk H.length v5 (.lst fns) ks (st+1) 0 [] []:=by
  refine⟨by rw[k2g,hst];rfl,⟨[],k2m,.nil⟩,⟨F5,r5.frame fun a m=>kH a (r5.lt a m),r5.lt⟩,(kH kk lk).trans h3,lk,by lia,by lia,by lia,hp,fun m h=>(List.not_mem_nil h).elim⟩
 have B0:Bx K2 g mk H.length x [] bs:=⟨(k2 x (by lia)).trans k1x,by lia,by lia,by lia,by simp,by lia⟩
 obtain⟨K3,F3,m3,G3,B3,k3⟩:=Zct (f:=(last:Int)) (p:=0) G0 B0 (by lia)
 have zb2:RFo K2 vbd (.lst body) (· < H.length):=zb.keep fun a p l=>kH a p
 have zb3:=zb2.lt0 k3 G0.lg G0.lm B0.lx
 obtain⟨K4,F4,us,ms,bs',g4,G4,B4,k4,lb4,c4⟩:=Zft (ks:=ks) (g:=g) (mk:=mk) (kk:=kk) (L0:=H.length) (vp:=v5) (most:=st+1) W (by omega) 20 last 3 body rr 0 ee [] (by lia) (by lia) (by lia) (by simp;lia) f2 f3 K3 x 0 bs F3 _ vbd lbs G3 B3 zb3
 have hm0:mkM (st+1) [] ((last:Int),0,bs)=[((last:Int),0,bs)]:=by unfold mkM;rw[if_pos (by simp)];rfl
 rw[hm0]at c4
 obtain⟨new,hms,hcp⟩:=c4
 have fin:ZbP (.lst fns) tw ks (st+1-ms.length) ⟨us,[],((last:Int),ee,bs')⟩=some ([],us):=by
  generalize st+1-ms.length=k
  cases k with
  | zero=>rfl
  | succ k=>
   have:ZcJ tw ⟨us,[],((last:Int),ee,bs')⟩=some true:=by simp[ZcJ,f4 bs']
   simp[ZbP,this]
 have mom:=hcp _ fin
 have keep:∀a,a<H.length→K4[a]?=H[a]?:=fun a l=>by
  rw[k4.kp a (by have:=k3.le;lia) (by lia) (by lia) (by lia),k3.kp a (by lia) (by omega) (by omega) (by omega),kH a l]
 have lK4:H.length≤K4.length:=by have:=k3.le;have:=k4.le;lia
 have eK:=Zjs (H:=H) (K:=K4) lK4 keep
 obtain⟨vms,vm1,vm2⟩:=G4.hm
 refine⟨K4.drop H.length,g,x,g::(F5++([kk]++([]++((mk::F4)++([]++[]))))),us,new,?_,?_,fun a m=>?_,?_,?_⟩
 ·rw[Zae sa,Zae sb]
  generalize hρ:upd (upd ρ 7 (.ref x)) 8 (.ref g)=ρ2
  have u5:ρ2 5=some v5:=by rw[←hρ];simp[upd,e5]
  have u7:ρ2 7=some (.ref x):=by rw[←hρ];simp[upd]
  have u8:ρ2 8=some (.ref g):=by rw[←hρ];simp[upd]
  have eX:∀K:Hp,H.length≤K.length→(∀a,a<H.length→K[a]?=H[a]?)→Z3 [v5] K=some (.int fns.length,K)∧Zf v5 (.int (-1)) K=some (.tup [.int (sig last).1,.int (sig last).2,vbd],K):=fun K h1 h2=>by
   have:=Zjs h1 h2
   rw[this]
   exact⟨lenX _,shX _⟩
  obtain⟨n1,n2⟩:=eX K2 (by lia) kH
  have kH3:∀a,a<H.length→K3[a]?=H[a]?:=fun a l=>by rw[k3.kp a (by lia) (by lia) (by lia) (by lia),kH a l]
  obtain⟨n3,n4⟩:=eX K3 (by have:=k3.le;lia) kH3
  have el:(fns.length:Int)-1=(last:Int):=by lia
  have sc:ZfT ρ2 K2=some (none,ρ2,K3):=by
   unfold ZfT
   simp only[ZC,Zh,Zb,Ze,Zc,Za,Zd,u5,u7,u8,Zs1,Zs0,n1,Zdb,el,m3]
  rw[Zae sc]
  have g4':Zga [.ref g,.int last,vbd,.int 1,.ref x] K3=some (.none,K4):=g4
  unfold Zhk
  simp only[ZC,Zh,Zb,Ze,Zc,ZM,Za,Zd,u5,u7,u8,Zs1,Zs0,n3,Zdb,el,Zjw,n4,i32,g4',←eK]
 ·rw[←eK]
  have hms':(m015 sig last ss::new)=ms:=by rw[hms];unfold m015;rw[hzz,hbs];rfl
  rw[hms',hst]
  have q:RFs K4 [v5,.ref kk,.int us,.ref mk,.int (st+1:Nat)] [.lst fns,Z0 ks,.int us,.lst (ms.map Zbo),.int (st+1:Nat)] (F5++([kk]++([]++((mk::F4)++([]++[]))))):=
   .cons (r5.frame fun a m=>keep a (r5.lt a m)) (.cons (Zcx G4.rk) (.cons (.int _) (.cons (.ref vm1 vm2.rfs) (.cons (.int _) .nil))))
  exact .ref G4.hg q
 ·simp only[List.mem_cons,List.mem_append,List.not_mem_nil,or_false,false_or]at m
  rcases m with rfl | m | rfl | rfl | m
  ·exact .inl (by lia)
  ·exact .inr (.inl m)
  ·exact .inr (.inr rfl)
  ·exact .inl (by lia)
  ·exact .inl (vm2.lt a m).2.1
 ·rw[hst]
  have:(st:Int).toNat=st+1 - [((last:Int),0,bs)].length:=by simp
  unfold m015
  rw[this,hzz,hbs]
  simpa using mom
 ·have hms':(m015 sig last ss::new)=ms:=by rw[hms];unfold m015;rw[hzz,hbs];rfl
  rw[hms']
  exact G4.ml
mutual
theorem ZlV(H:Hp): ∀t:T,∃X v F,RF (H++X) v t F
 | .none=>⟨[],_,_,.none⟩
 | .bool b=>⟨[],_,_,.bool b⟩
 | .int i=>⟨[],_,_,.int i⟩
 | .str s=>⟨[],_,_,.str s⟩
 | .tup ts=>by
  obtain⟨X,vs,F,h⟩:=Zg0 H ts
  exact⟨X,_,_,.tup h⟩
 | .lst ts=>by
  obtain⟨X,vs,F,h⟩:=Zg0 H ts
  exact⟨X++[vs],.ref (H++X).length,_,.ref (vs:=vs) (by rw[←List.append_assoc];simp) (by rw[←List.append_assoc];exact h.ext _)⟩
 | .ob c ts=>by
  obtain⟨X,vs,F,h⟩:=Zg0 H ts
  exact⟨X++[vs],.obj c (H++X).length,_,.obj (vs:=vs) (by rw[←List.append_assoc];simp) (by rw[←List.append_assoc];exact h.ext _)⟩
theorem Zg0(H:Hp): ∀ts:List T,∃X vs F,RFs (H++X) vs ts F
 | []=>⟨[],[],[],.nil⟩
 | t::ts=>by
  obtain⟨X,v,F,h⟩:=ZlV H t
  obtain⟨Y,vs,G,k⟩:=Zg0 (H++X) ts
  exact⟨X++Y,_,_,by rw[←List.append_assoc];exact .cons (h.ext Y) k⟩
end
theorem Znx{last:Nat}(W:Wo fns tw sig fns.length)(hl:fns.length=last+1)(hl4:last<4)(hss:ss.length=(sig last).1)(s0:0≤steps)(s9:steps≤900): ∃r,ZbP (.lst fns) tw ks steps.toNat ⟨0,[],m015 sig last ss⟩=some r∧∀m∈m015 sig last ss::r.1,m.2.2.length≤100:=by
 obtain⟨X,v5,F5,h5⟩:=ZlV [ss.map V.int,ks.map V.int] (.lst fns)
 obtain⟨Y,g,x,G,us,new,_,_,_,q,q9⟩:=Zln (H:=[ss.map V.int,ks.map V.int]++X) (ρ:=fun i=>if i=5 then some v5 else if i=6 then some (.ref 0)else if i=3 then some (.ref 1)else some (.int steps)) (p6:=0) (kk:=1) (by simp) h5 rfl rfl s0 s9 W hl hl4 hss rfl rfl rfl rfl
 exact⟨_,q,q9⟩
open Classical in
noncomputable def goQ(σ:TL): Option T:=match σ 5,σ 6,σ 3,σ 2 with
 | some (.lst fns),some st,some pk,some (.int steps)=>(ZdH st).bind fun ss=>(ZdH pk).bind fun ks=>if h:∃sig:Nat→Nat×Nat,PrOk fns sig∧1≤fns.length∧fns.length≤4∧ss.length=(sig (fns.length-1)).1∧0≤steps∧steps≤900 then(ZcS [.lst fns]).bind fun tw=>(ZbP (.lst fns) tw ks steps.toNat ⟨0,[],m015 (choose h) (fns.length-1) ss⟩).map fun r=>.lst [.lst fns,Z0 ks,.int r.2,.lst ((m015 (choose h) (fns.length-1) ss::r.1).map Zbo),.int (steps+1)]else none
 | _,_,_,_=>none
theorem Zok{sig':Nat→Nat×Nat}(P:PrOk fns sig)(P':PrOk fns sig'){j:Nat}(hj:j<fns.length): sig j=sig' j:=by
 obtain⟨b,r,e,h1,_⟩:=P.fn j hj
 obtain⟨b',r',e',h1',_⟩:=P'.fn j hj
 rw[h1]at h1'
 simp only[Option.some.injEq,T.tup.injEq,List.cons.injEq,T.int.injEq,Int.natCast_inj]at h1'
 exact Prod.ext h1'.1 h1'.2.1
theorem Zqw{r:List Mo×Nat}(e5:σ 5=some (.lst fns))(e6:σ 6=some (Z0 ss))(e3:σ 3=some (Z0 ks))(e2:σ 2=some (.int steps))(P:PrOk fns sig)(h1:1≤fns.length)(h4:fns.length≤4)(hss:ss.length=(sig (fns.length-1)).1)(s0:0≤steps)(s9:steps≤900)(hw:ZcS [.lst fns]=some tw)(hm:ZbP (.lst fns) tw ks steps.toNat ⟨0,[],m015 sig (fns.length-1) ss⟩=some r): goQ σ=some (.lst [.lst fns,Z0 ks,.int r.2,.lst ((m015 sig (fns.length-1) ss::r.1).map Zbo),.int (steps+1)]):=by
 have hx:∃sig:Nat→Nat×Nat,PrOk fns sig∧1≤fns.length∧fns.length≤4∧ss.length=(sig (fns.length-1)).1∧0≤steps∧steps≤900:=⟨sig,P,h1,h4,hss,s0,s9⟩
 have es:m015 (Classical.choose hx) (fns.length-1) ss=m015 sig (fns.length-1) ss:=by
  unfold m015
  rw[Zok (Classical.choose_spec hx).1 P (by omega)]
 unfold goQ
 simp only[e5,e6,e3,e2,Zi9,Zs0]
 rw[dif_pos hx,hw]
 simp only[Zs0,es,hm,Zs1]
theorem Zpo{c:TM.Ctx}{Φ:Nat→List Nat}(s:TM.St c [] ρ σ H Φ)(e:goQ σ=some t): ∃X g x G,Zm ZfR (Zm ZfS (Zm ZfT Zhk)) ρ H=some (none,upd (upd ρ 7 (.ref x)) 8 (.ref g),H++X)∧RF (H++X) (.ref g) t G∧∀a∈G,From H [5,3] σ Φ a:=by
 unfold goQ at e
 split at e
 case h_2=>first|exact Zx0 e|cases e
 rename_i fns st pk steps e5 e6 e3 e2
 obtain⟨ss,u6,e⟩:=Zz0.mp e
 obtain⟨ks,u3,e⟩:=Zz0.mp e
 split at e
 case isFalse=>first|exact Zx0 e|cases e
 rename_i hx
 obtain⟨tw,hw,e⟩:=Zz0.mp e
 obtain⟨r,hm,e⟩:=Zz1.mp e
 subst e
 have:=Zgi u6;subst this
 have:=Zgi u3;subst this
 obtain⟨P,h1,h4,hss,s0,s9⟩:=Classical.choose_spec hx
 generalize Classical.choose hx=sig at *
 obtain⟨tw',hw',W⟩:=ZlT P (by lia)
 rw[hw]at hw'
 cases hw'
 obtain⟨v5,r5,rf5⟩:=s.slot 5 _ e5
 obtain⟨v6,r6,rf6⟩:=s.slot 6 _ e6
 obtain⟨v3,r3,rf3⟩:=s.slot 3 _ e3
 obtain⟨v2,r2,rf2⟩:=s.slot 2 _ e2
 obtain⟨p6,rfl,h6⟩:=ZgW rf6
 obtain⟨kk,rfl,h3⟩:=ZgW rf3
 have ev2:v2=.int steps:=by generalize Φ 2=G at rf2;cases rf2;rfl
 subst ev2
 have f3:kk∈Φ 3:=by
  obtain⟨_,e⟩:=rf3.det (Zcx h3)
  rw[e];simp
 obtain⟨X,g,x,G,us,new,q1,q2,q3,q4,_⟩:=Zln (last:=fns.length-1) (Nat.lt_of_lt_of_le s.pos s.len) rf5 h6 h3 s0 s9 W (by omega) (by omega) hss r5 r6 r3 r2
 rw[hm]at q4
 cases q4
 refine⟨X,g,x,G,q1,q2,fun a m=>?_⟩
 rcases q3 a m with q | q | rfl
 ·exact .inl q
 ·exact .inr ⟨5,by simp,⟨_,e5⟩,q⟩
 ·exact .inr ⟨3,by simp,⟨_,e3⟩,f3⟩
noncomputable def Ze6: PS:=fun σ=>(goQ σ).map fun t=>(none,ZI (Zab σ 7) 8 t)
theorem Zol{fr:Bool}: SU [] [] [] [] [] fr (Zm ZfR (Zm ZfS (Zm ZfT Zhk))) Ze6:=fun c ρ σ H Φ Ψ r hc s e=>by
 obtain⟨t,h1,rfl⟩:=Zz1.mp e
 obtain⟨X,g,x,G,q1,q2,q3⟩:=Zpo s.st h1
 have s1:=(s.del 7).ext X
 have s2:=s1.putL (k:=8) (v:=.ref g) (t:=t) (F:=G) (by simp) (by simp) q2 (fun a m=>s.st.from_src (q3 a m)) (fun i hi=>(List.not_mem_nil hi).elim) (fun a h=>by obtain⟨_,_,hi,_⟩:=h;exact(List.not_mem_nil hi).elim)
 have s3:Su c [] [] (upd (upd ρ 7 (.ref x)) 8 (.ref g)) (ZI (Zab σ 7) 8 t) (H++X) (Zx Φ 8 G) Ψ:=by
  refine⟨⟨fun i t' ei=>?_,s2.st.src,fun i hi=>(List.not_mem_nil hi).elim,s2.st.len,s2.st.keep,s2.st.pos,s2.st.f0⟩,fun i d hi=>(List.not_mem_nil hi).elim,fun i hi=>(List.not_mem_nil hi).elim,fun i hi=>(List.not_mem_nil hi).elim⟩
  obtain⟨v,v1,v2⟩:=s2.st.slot i t' ei
  refine⟨v,?_,v2⟩
  by_cases c8:i=8
  ·subst c8;simpa [PM.upd]using v1
  ·have c7:i≠7:=by
    intro q
    subst q
    simp[ZI,Zab]at ei
   simpa [PM.upd,c8,c7]using v1
 refine⟨_,H++X,Zx Φ 8 G,Ψ,by simp,fun a ha _=>Zy0 ha,fun q hq=>(List.not_mem_nil hq).elim,.inl ⟨rfl,q1,s3,fun a h=>?_⟩⟩
 rcases h with⟨j,hj,_⟩ | ⟨j,d',hj,_⟩
 ·exact(List.not_mem_nil hj).elim
 ·exact(List.not_mem_nil hj).elim
theorem Zip(a b c:Sm): Zm (Zm a b) c=Zm a (Zm b c):=by
 funext ρ H
 simp only[Zm]
 cases a ρ H with
 | none=>rfl
 | some p=>
  simp only[Zs0]
  cases h:p.1 with
  | some v=>simp only[Zs0];rw[h]
  | none=>rfl
theorem Zny{O O1 O':List Nat}{S S1 S' SR:Sps}{fr:Bool}{a b c d r:Sm}{p q:PS}(x:SU O S O1 S1 SR fr (Zm a (Zm b (Zm c d))) p)(y:SU O1 S1 O' S' SR fr r q): SU O S O' S' SR fr (Zm a (Zm b (Zm c (Zm d r)))) (ZD p q):=by
 have:=SU.seq x y
 rw[Zip,Zip,Zip]at this
 exact this
end L
open PySem PM TM
namespace L
variable {n:Nat} {t:T} {ns:List Int}
noncomputable def ZiK: Sm:=Zm (Zw 1 (ZU (Zb (Za 0) (Zb (Zd 0) (Zb (Zd 20) Ze))))) (Zm (Zw 2 (Zh Zbv (Zb (Za 1) (Zb (Zd 81) Ze)))) (Zm (Zz (Zs (Zc ZN (Zh Zbv (Zb (Za 1) (Zb (Zd 8) Ze))) (Zd 1))) (Zw 2 (Zc Zaf (Zd 300) (Za 2))) ZL) (Zm (Zw 3 (Zam (Za7 (Zb (Zh Zbv (Zb (Za 1) (Zb (Zd 4) Ze))) Ze)) (ZQ 100) ZZ (Zh ZbD (Zb (Za 1) Ze)))) (Zm (Zw 4 (Zam (Za7 (Zb (Zd 4) Ze)) (ZQ 102) ZZ (Zh ZbD (Zb (Za 1) Ze)))) (Zm (Zw 5 (Zh Zhp (Zb (Za 1) Ze))) (Zm (Zw 6 (Zc0 (Za 4) Zdv (Zdw (Zc Zf (Zc Zf (Za 5) (ZM Zbl (Zd 1))) (Zd 0))))) (Zm (Zw 7 (Zc ZE (Za 6) (Zc Zbh (ZU (Zb (Zd 0) Ze)) (Zc Zaf (Zc Zf (Zc Zf (Za 5) (ZM Zbl (Zd 1))) (Zd 1)) (Zc Zf (Zc Zf (Za 5) (ZM Zbl (Zd 1))) (Zd 0)))))) (Zm (Zw 8 (ZU (Zb (Za 5) (Zb (Za 3) (Zb (Zd 0) (Zb (ZU Ze) (Zb (Zc ZE (Za 2) (Zd 1)) Ze))))))) (Zm (ZC (Zh ZaM (Zb (Za 8) (Zb (Zc Zaf (Zh Z3 (Zb (Za 5) Ze)) (Zd 1)) (Zb (Zd 0) (Zb (Za 7) Ze)))))) (Zm (ZC (Zh Zga (Zb (Za 8) (Zb (Zc Zaf (Zh Z3 (Zb (Za 5) Ze)) (Zd 1)) (Zb (Zc Zf (Zc Zf (Za 5) (ZM Zbl (Zd 1))) (Zd 2)) (Zb (Zd 1) (Zb (Za 7) Ze))))))) (Zm (Zw 9 (ZU (Zb (Zh ZhP (Zb (Za 5) Ze)) (Zb (Zh Zbt (Zb (Za 6) Ze)) (Zb (Zh Zbt (Zb (Za 3) Ze)) Ze))))) (Zm (Zz (Zca (Zs (Zh ZhR (Zb (Zh Zhd (Zb (Zc Zf (Za 9) (Zd 0)) (Zb (Zc Zf (Za 9) (Zd 1)) (Zb (Zc Zf (Za 9) (Zd 2)) (Zb (Za 2) Ze))))) (Zb (Zc Zf (Za 8) (Zd 3)) Ze))))) (Zy (ZbH false)) ZL) (Zy (Zc ZN (Za 9) (ZU (Zb (Za 5) (Zb (Za 6) (Zb (Za 3) Ze))))))))))))))))))
noncomputable def ZkN: List V→Hp→Option (V×Hp):=ZH 1 ZiK
noncomputable def ZiL: PS:=(ZD (Zbi 1 (Zbq (Zj (Zg 0) (Zj (Zo 0) (Zj (Zo 20) Zu))))) (ZD (Zaq 2 (Zan false [1] Zb2 (Zj (Zg 1) (Zj (Zo 81) Zu)))) (ZD (Zbn (Zhi (ZaX 1000 (Zan false [1] Zb2 (Zj (Zg 1) (Zj (Zo 8) Zu))) (xP (Zk qEq (Zg 1000) (Zo 1))))) (Zaq 2 (xP (Zk ZbJ (Zo 300) (Zg 2)))) Zai) (ZD (Zaq 3 (ZaX 1001 (Zan false [1] Zb2 (Zj (Zg 1) (Zj (Zo 4) Zu))) (ZdB (ZbG (Zj (Zg 1001) Zu)) 100 (Zan false [1] Zce (Zj (Zg 1) Zu))))) (ZD (Zaq 4 (ZdB (ZbG (Zj (Zo 4) Zu)) 102 (Zan false [1] Zce (Zj (Zg 1) Zu)))) (ZD (Zaq 5 (Zan false [1] ZeF (Zj (Zg 1) Zu))) (ZD (Zaq 6 (xP (ZcI (Zg 4) Zc5 (Zc6 (Zk ZF (Zk ZF (Zg 5) (pUn ZeA (Zo 1))) (Zo 0)))))) (ZD Ze6 (ZD (Zaq 9 (xP (Zbq (Zj (ZV Zf2 (Zj (Zg 5) Zu)) (Zj (ZV Zc4 (Zj (Zg 6) Zu)) (Zj (ZV Zc4 (Zj (Zg 3) Zu)) Zu)))))) (ZD (Zbn (xB (Zdh (Z6 (ZV ZeO (Zj (ZV Zew (Zj (Zk ZF (Zg 9) (Zo 0)) (Zj (Zk ZF (Zg 9) (Zo 1)) (Zj (Zk ZF (Zg 9) (Zo 2)) (Zj (Zg 2) Zu))))) (Zj (Zk ZF (Zg 8) (Zo 3)) Zu)))))) (ZaK (xP (Zeq false))) Zai) (ZaK (xP (Zk qEq (Zg 9) (Zbq (Zj (Zg 5) (Zj (Zg 6) (Zj (Zg 3) Zu)))))))))))))))))
noncomputable def Zgt: List T→Option (T×List T):=ZbK 1 [] ZiL
theorem Zom: SimX 1 [] true ZkN Zgt:=SimX.of (show SU [] [] [] [] [] true ZiK ZiL from(SU.seq (ZkZ (i:=1) (O':=[]) (S':=[]) (ZB (Zl 0) (ZB (Zp _) (ZB (Zp _) ZK))) (by decide) (by decide) (by decide) (by decide)) (SU.seq (SU.set (i:=2) (O':=[]) (S':=[(1,1)]) (EX.call (b:=false) (xs:=[1]) (as:=[some 1,none]) (M:=[]) ZcR (XAs.slot (Zas (Zp _) (by decide) XAs.nil)))) (SU.seq (ZbO (BX.val (ZbN (k:=1000) (C:=fun e=>(Zc ZN (e) (Zd 1))) (e:=(Zh Zbv (Zb (Za 1) (Zb (Zd 8) Ze)))) (ZdU (Zba) (fun ρ v H=>rfl)) (EX.call (b:=false) (xs:=[1]) (as:=[some 1,none]) (M:=[]) ZcR (XAs.slot (Zas (Zp _) (by decide) XAs.nil))) (Zaj (ZA ZaW (Zl 1000) (Zp _))))) (SU.set (i:=2) (O':=[]) (S':=[(1,1)]) (Zaj (ZA ZbX (Zp _) (Zl 2)))) SU.next) (SU.seq (SU.set (i:=3) (O':=[]) (S':=[(1,1)]) (ZbN (k:=1001) (C:=fun e=>(Zam (Za7 (Zb (e) Ze)) (ZQ 100) ZZ (Zh ZbD (Zb (Za 1) Ze)))) (e:=(Zh Zbv (Zb (Za 1) (Zb (Zd 4) Ze)))) (Ct.comp (by decide) (Cg.range (Cts.head (Zba) (fun ρ v H=>rfl))) (fun ρ v H=>rfl) (fun ρ v H=>rfl)) (EX.call (b:=false) (xs:=[1]) (as:=[some 1,none]) (M:=[]) ZcR (XAs.slot (Zas (Zp _) (by decide) XAs.nil))) (EX.comp (Gs.range (ZB (Zl 1001) ZK)) (by decide) (by decide) (EX.call (b:=false) (xs:=[1]) (as:=[some 1]) (M:=[]) ZdI (XAs.slot XAs.nil))))) (SU.seq (SU.set (i:=4) (O':=[]) (S':=[(1,1)]) (EX.comp (Gs.range (ZB (Zp _) ZK)) (by decide) (by decide) (EX.call (b:=false) (xs:=[1]) (as:=[some 1]) (M:=[]) ZdI (XAs.slot XAs.nil)))) (SU.seq (Zo7 (x:=1) (i:=5) Zl2 (by decide)) (SU.seq (SU.set (i:=6) (O':=[]) (S':=[]) (Zaj (ZiS (Zl 4) Pe.none (Pe.some (ZO ZP (ZO ZP (Zl 5) (Zjy Zjz (Zp _))) (Zp _)))))) (Zny Zol (SU.seq (SU.set (i:=9) (O':=[]) (S':=[]) (Zaj (E.list (ZB (E.fn Zmh (ZB (Zl 5) ZK)) (ZB (ZkU ZiR (ZB (Zl 6) ZK)) (ZB (ZkU ZiR (ZB (Zl 3) ZK)) ZK))) (by decide)))) (SU.seq (ZbO (ZbU (Zfk (Bt.val (E.fn Zmi (ZB (E.fn Zqp (ZB (ZO ZP (Zl 9) (Zp _)) (ZB (ZO ZP (Zl 9) (Zp _)) (ZB (ZO ZP (Zl 9) (Zp _)) (ZB (Zl 2) ZK))))) (ZB (ZO ZP (Zl 8) (Zp _)) ZK)))))) (Zbc (O':=[]) (S':=[]) (Zaj (E.bool _))) SU.next) (Zbc (O':=[]) (S':=[]) (Zaj (ZA ZaW (Zl 9) (E.list (ZB (Zl 5) (ZB (Zl 6) (ZB (Zl 3) ZK))) (by decide)))))))))))))))) (by decide) (by decide)
inductive Bl: Nat→T→Prop where
 | none {n:Nat}:Bl n .none
 | bool {n:Nat} {b:Bool}:Bl n (.bool b)
 | int {n:Nat} {i:Int}:Bl n (.int i)
 | str {n:Nat} {x:Str}:PyData.strOk x=true→Bl n (.str x)
 | tup {n:Nat} {ts:List T}:(∀t∈ts,Bl n t)→ts.length≤10000→Bl (n+1) (.tup ts)
 | lst {n:Nat} {ts:List T}:(∀t∈ts,Bl n t)→ts.length≤10000→Bl (n+1) (.lst ts)
theorem Bl.mono(h:Bl n t): ∀{m:Nat},n≤m→Bl m t:=by
 induction h with
 | none=>intro m _;exact .none
 | bool=>intro m _;exact .bool
 | int=>intro m _;exact .int
 | str h=>intro m _;exact .str h
 | tup hs hl ih=>
  intro m hm
  cases m with
  | zero=>lia
  | succ m=>exact .tup (fun t a=>ih t a (by lia)) hl
 | lst hs hl ih=>
  intro m hm
  cases m with
  | zero=>omega
  | succ m=>exact .lst (fun t a=>ih t a (by omega)) hl
theorem Bl.dat(h:Bl n t): ZbC n t=some (dd t)∧PyData.canLay0 (dd t)=true∧PyData.depth (dd t)≤n:=by
 induction h with
 | @none n=>cases n <;> exact⟨rfl,rfl,by simp[dd,PyData.depth]⟩
 | @bool n b=>cases n <;> exact⟨rfl,rfl,by simp[dd,PyData.depth]⟩
 | @int n i=>cases n <;> exact⟨rfl,rfl,by simp[dd,PyData.depth]⟩
 | @str n x h=>cases n <;> exact⟨rfl,by simpa [dd,PyData.canLay0]using h,by simp[dd,PyData.depth]⟩
 | @tup n ts _ _ ih=>
  refine⟨?_,?_,?_⟩
  ·simp only[ZbC,Ze1 fun t m=>(ih t m).1,Zs1,dd]
  ·simp only[dd,PyData.canLay0];exact Ze9 fun t m=>(ih t m).2.1
  ·simp only[dd,PyData.depth]
   have:=Zfa fun t m=>(ih t m).2.2
   lia
 | @lst n ts _ _ ih=>
  refine⟨?_,?_,?_⟩
  ·simp only[ZbC,Ze1 fun t m=>(ih t m).1,Zs1,dd]
  ·simp only[dd,PyData.canLay0];exact Ze9 fun t m=>(ih t m).2.1
  ·simp only[dd,PyData.depth]
   have:=Zfa fun t m=>(ih t m).2.2
   omega
theorem Ziy: ∀{ts:List T},(∀t∈ts,PyData.eqv (dd t) (dd t)=true)→PyData.eqvAll (dds ts) (dds ts)=true
 | [],_=>by simp[dds,PyData.eqvAll]
 | t::ts,h=>by
  simp only[dds,PyData.eqvAll,Bool.and_eq_true,h t Zz5,Ziy fun t m=>h t (Zz2 _ m),and_self]
theorem Bl.eqv(h:Bl n t): PyData.eqv (dd t) (dd t)=true:=by
 induction h with
 | none=>simp[dd,PyData.eqv]
 | bool=>simp[dd,PyData.eqv]
 | int=>simp[dd,PyData.eqv]
 | str _=>simp[dd,PyData.eqv]
 | tup hs _ ih=>simp only[dd,PyData.eqv];exact Ziy ih
 | lst hs _ ih=>simp only[dd,PyData.eqv];exact Ziy ih
theorem Zon{a:T}(ha:Bl n a)(hn:n≤40:=by decide): Zcc a a=some true:=by
 have ha:=ha.mono hn
 obtain⟨a1,a2,a3⟩:=ha.dat
 unfold Zcc Zbg
 rw[a1]
 simp only[Zs0]
 have hs:SeqAt.shaped (dd a)=true:=by simp only[SeqAt.shaped,a2,Bool.true_and,decide_eq_true_eq];lia
 rw[if_pos ⟨hs,hs⟩,ha.eqv]
section
variable {Q:T→Prop}
theorem ZlG{a:T}(ha:Bl n a)(h:Q (.bool true))(hn:n≤40:=by decide): Pk (qEq a a) Q:=⟨_,by simp only[qEq,Zon ha hn,Zs1],h⟩
end
theorem bl0: ∀t∈([]:List T),Bl n t:=fun t h=>(List.not_mem_nil h).elim
theorem blc{ts:List T}(h:Bl n t)(k:∀t∈ts,Bl n t): ∀u∈t::ts,Bl n u:=fun u m=>by
 rcases Zz7.mp m with rfl | m
 ·exact h
 ·exact k u m
theorem Nice.bl(h:Nice n t): Bl n t:=by
 induction h with
 | none=>exact .none
 | bool b=>exact .bool
 | int i=>exact .int
 | str h=>exact .str h
 | tup hl _ ih=>exact .tup ih (by lia)
 | lst hl _ ih=>exact .lst ih (by omega)
theorem Zjf{l:List Int}(h:l.length≤1000): Bl (n+1) (Z0 l):=.lst (fun t m=>by
 obtain⟨k,_,rfl⟩:=Zz11.mp m
 exact .int) (by simp;lia)
theorem Zqx{m:Mo}(h:m.2.2.length≤100): Bl 2 (Zbo m):=.tup (blc .int (blc .int (blc (Zjf (by lia)) bl0))) (by simp)
theorem Zqy{ms:List Mo}(hl:ms.length≤1000)(hb:∀m∈ms,m.2.2.length≤100): ZeO [.lst (ms.map Zbo),.lst (ms.map Zbo)]=some (.bool true):=by
 apply Pk.eq
 unfold ZeO ZhS
 walk_at "z"
 refine ZiW (ts:=ms.map Zbo) ?_ (P:=fun i σ=>σ 0=some (.lst (ms.map Zbo))∧σ 1=some (.lst (ms.map Zbo))) ⟨rfl,rfl⟩ ?_ ?_
 ·walk_at "z"
  rfl
 ·rintro i t σ et ⟨e0,e1⟩
  rw[List.getElem?_map]at et
  obtain⟨m,em,rfl⟩:=Zz1.mp et
  have hm:=hb m (Zy4 em)
  unfold Zbo
  walk_at "z"
  refine ZiW (ts:=[.int m.1,.int m.2.1]++m.2.2.map T.int) ?_ (P:=fun i σ=>σ 0=some (.lst (ms.map Zbo))∧σ 1=some (.lst (ms.map Zbo))) ⟨by walk_at "r",by walk_at "r"⟩ ?_ ?_
  ·walk_at "z"
   refine ZgJ (by simp;lia) ?_
   walk_at "z"
   rfl
  ·rintro j u τ eu ⟨f0,f1⟩
   have:∃k,u=.int k:=by
    have hu:=Zy4 eu
    simp only[List.cons_append,List.nil_append,List.mem_cons,List.mem_map]at hu
    rcases hu with rfl | rfl | ⟨k,_,rfl⟩
    ·exact⟨_,rfl⟩
    ·exact⟨_,rfl⟩
    ·exact⟨_,rfl⟩
   obtain⟨k,rfl⟩:=this
   walk_at "z"
   exact⟨by walk_at "r",by walk_at "r"⟩
  ·rintro τ ⟨f0,f1⟩
   exact⟨f0,f1⟩
 ·rintro σ ⟨e0,e1⟩
  walk_at "z"
  refine ZlG (n:=3) (.lst (fun t m=>?_) (by simp;lia)) rfl
  obtain⟨x,hx,rfl⟩:=Zz11.mp m
  exact Zqx (hb x hx)
theorem Zkq{tp tw:T}{ks:List Int}: ∀{k:Nat} {s:RS} {r:List Mo×Nat},ZbP tp tw ks k s=some r→r.1.length≤k
 | 0,s,r,e=>by cases e;simp
 | k+1,s,r,e=>by
  obtain⟨q,e1,e⟩:=Zz0.mp e
  cases q with
  | true=>rw[if_pos rfl]at e;cases e;simp
  | false=>
   rw[if_neg (by decide)]at e
   obtain⟨s',e2,e⟩:=Zz0.mp e
   obtain⟨r',e3,rfl⟩:=Zz1.mp e
   have:=Zkq e3
   simp
   omega
theorem Zqz{fns:List T}{sig:Nat→Nat×Nat}{tw:T}{ks ss:List Int}{steps:Int}{r:List Mo×Nat}(P:PrOk fns sig)(h1:1≤fns.length)(h4:fns.length≤4)(hss:ss.length=(sig (fns.length-1)).1)(s9:steps≤900)(hw:ZcS [.lst fns]=some tw)(hm:ZbP (.lst fns) tw ks steps.toNat ⟨0,[],m015 sig (fns.length-1) ss⟩=some r): Zew [.lst fns,Z0 ss,Z0 ks,.int steps]=some (.lst ((m015 sig (fns.length-1) ss::r.1).map Zbo)):=by
 obtain⟨b,r0,e,f1,_⟩:=P.fn (fns.length-1) (by omega)
 obtain⟨q1,q2,q3⟩:=P.sg (fns.length-1)
 have hmain:ZjH fns=some ((sig (fns.length-1)).1:Int):=by
  have:fns.getLast? = some (.tup [.int (sig (fns.length-1)).1,.int (sig (fns.length-1)).2,.lst b]):=by
   rw[List.getLast?_eq_getElem?];exact f1
  simp[ZjH,this]
 have hf:Zd0 (.lst fns) ((fns.length:Int)-1) ss=some (m015 sig (fns.length-1) ss):=by
  have:=ZkM (gv:=ss) f1 hss (by(first | lia | omega)) q1
  rw[show((fns.length-1:Nat):Int)=(fns.length:Int)-1 by lia]at this
  rw[this]
  unfold m015
  rw[show((fns.length-1:Nat):Int)=(fns.length:Int)-1 by omega]
 simp only[Zew,Zi9,Zs0,hmain]
 rw[if_pos ⟨by rw[hss],by lia⟩]
 simp only[hw,Zs0,hf,Zle hm,Zs1]
theorem ZkO{y:Nat→Int}: T.lst (tab n fun i=>T.int (y i))=Z0 (tab n y):=by
 unfold Z0
 congr 1
 simp[tab]
theorem Zkr{c:Option (Option T×TL)}{R:T→TL→Prop}{N N':TL→Prop}(h:Psx c R N')(k:∀σ,N' σ→N σ): Psx c R N:=by
 obtain⟨o,σ,h1,h2,h3⟩:=h
 exact⟨o,σ,h1,h2,fun e=>k σ (h3 e)⟩
theorem ZqA{σ:TL}{R:T→TL→Prop}{N:TL→Prop}(h:goQ σ=some t)(k:N (ZI (Zab σ 7) 8 t)): Psx (Ze6 σ) R N:=⟨none,ZI (Zab σ 7) 8 t,by simp only[Ze6,h,Zs1],fun v e=>(by cases e),fun _=>k⟩
theorem Znz{Q:T→Prop}{ts:List T}(h:ts[ts.length-1]?=some t)(k:Q t): Pk (ZF (.lst ts) (.int (-1))) Q:=by
 refine⟨t,?_,k⟩
 have hlt:=(Zz6.mp h).1
 have:seqIndex? (-1) ts.length=some (ts.length-1):=by
  unfold seqIndex?
  simp
  lia
 simp[ZF,this,h]
noncomputable def r15: PS:=(ZD (Zaq 3 (ZaX 1001 (Zan false [1] Zb2 (Zj (Zg 1) (Zj (Zo 4) Zu))) (ZdB (ZbG (Zj (Zg 1001) Zu)) 100 (Zan false [1] Zce (Zj (Zg 1) Zu))))) (ZD (Zaq 4 (ZdB (ZbG (Zj (Zo 4) Zu)) 102 (Zan false [1] Zce (Zj (Zg 1) Zu)))) (ZD (Zaq 5 (Zan false [1] ZeF (Zj (Zg 1) Zu))) (ZD (Zaq 6 (xP (ZcI (Zg 4) Zc5 (Zc6 (Zk ZF (Zk ZF (Zg 5) (pUn ZeA (Zo 1))) (Zo 0)))))) (ZD Ze6 (ZD (Zaq 9 (xP (Zbq (Zj (ZV Zf2 (Zj (Zg 5) Zu)) (Zj (ZV Zc4 (Zj (Zg 6) Zu)) (Zj (ZV Zc4 (Zj (Zg 3) Zu)) Zu)))))) (ZD (Zbn (xB (Zdh (Z6 (ZV ZeO (Zj (ZV Zew (Zj (Zk ZF (Zg 9) (Zo 0)) (Zj (Zk ZF (Zg 9) (Zo 1)) (Zj (Zk ZF (Zg 9) (Zo 2)) (Zj (Zg 2) Zu))))) (Zj (Zk ZF (Zg 8) (Zo 3)) Zu)))))) (ZaK (xP (Zeq false))) Zai) (ZaK (xP (Zk qEq (Zg 9) (Zbq (Zj (Zg 5) (Zj (Zg 6) (Zj (Zg 3) Zu))))))))))))))
theorem ZlH(hL:Zcn ns){σ:TL}{p:Nat}{s:Int}(e1:σ 1=some (Zaw ns p 20))(e2:σ 2=some (.int s))(s0:0≤s)(s3:s≤300): Psx (r15 σ) (fun t σ=>Pl (ZcC σ []) fun us=>t=T.bool true) (fun σ=>Pl (ZcC σ []) fun us=>T.none=T.bool true):=by
 unfold r15
 walk_at "tz"
 refine ZcY hL (by decide) fun v v0 v1=>?_
 walk_at "tz"
 obtain⟨m,rfl⟩:∃m:Nat,v=m:=⟨_,(Int.toNat_of_nonneg v0).symm⟩
 refine ZiZ (n:=m) (a:=fun i=>.int (i:Nat)) (fun k:Int=>T.int k) 0 (fun _ _=>True) (fun _ τ=>(∃p',τ 1=some (Zaw ns p' 20))∧τ 2=some (.int s)) (by lia) ?_ ⟨⟨p+1,?_⟩,?_⟩ (fun i τ hi hI=>?_) fun y τ hy hI=>?_
 ·walk_at "tz"
  rfl
 ·walk_at "tr"
 ·walk_at "tr"
 ·obtain⟨⟨p',t1⟩,t2⟩:=hI
  walk_at "tz"
  refine ZdS hL fun k hk=>?_
  refine⟨⟨_,rfl,trivial⟩,⟨p'+1,?_⟩,?_⟩
  ·walk_at "tr"
  ·walk_at "tr"
 obtain⟨⟨p2,t1⟩,t2⟩:=hI
 rw[ZkO]
 generalize hks:tab m y=ks
 have lks:ks.length≤4:=by rw[←hks,ZaI];lia
 walk_at "tz"
 refine ZiZ (n:=4) (a:=fun i=>.int (i:Nat)) (fun k:Int=>T.int k) 0 (fun _ _=>True) (fun _ τ=>(∃p',τ 1=some (Zaw ns p' 20))∧τ 2=some (.int s)∧τ 3=some (Z0 ks)) (by lia) ?_ ⟨⟨p2,?_⟩,?_,?_⟩ (fun i τ hi hI=>?_) fun y2 τ2 hy2 hI=>?_
 ·walk_at "tz"
  exact Rn.one (n:=4) (by lia) rfl
 ·walk_at "tr"
 ·walk_at "tr"
 ·walk_at "tr"
 ·obtain⟨⟨p',t1⟩,t2,t3⟩:=hI
  walk_at "tz"
  refine ZdS hL fun k hk=>?_
  refine⟨⟨_,rfl,trivial⟩,⟨p'+1,?_⟩,?_,?_⟩
  ·walk_at "tr"
  ·walk_at "tr"
  ·walk_at "tr"
 obtain⟨⟨p3,t1⟩,t2,t3⟩:=hI
 rw[ZkO]
 generalize hnm:tab 4 y2=nm
 have lnm:nm.length=4:=by rw[←hnm,ZaI]
 walk_at "tz"
 refine Znw hL fun fs sig p' r' G h1 h4=>?_
 have P:=G.pr
 obtain⟨b,r0,e,f1,_⟩:=P.fn (fs.length-1) (by omega)
 obtain⟨q1,q2,q3⟩:=P.sg (fs.length-1)
 have ix:(fs)[(fs.length-1:Nat)]?=some (.tup [.int (sig (fs.length-1)).1,.int (sig (fs.length-1)).2,.lst b]):=f1
 walk_at "tz"
 refine ZlR ?_
 walk_at "tz"
 refine⟨_,rfl,?_⟩
 walk_at "tz"
 refine Znz ix ?_
 walk_at "tz"
 refine⟨(sig (fs.length-1)).1,rfl,?_⟩
 have ess:T.lst ((nm.map T.int).take (sig (fs.length-1)).1)=Z0 (nm.take (sig (fs.length-1)).1):=by
  unfold Z0;rw[List.map_take]
 rw[ess]
 generalize hss:nm.take (sig (fs.length-1)).1=ss
 have lss:ss.length=(sig (fs.length-1)).1:=by rw[←hss,List.length_take];lia
 obtain⟨tw,hw,W⟩:=ZlT P (by lia)
 obtain⟨r,hr,hr9⟩:=Znx (ks:=ks) W (last:=fs.length-1) (by lia) (by lia) lss s0 (by lia)
 have hrun:=Zqz P h1 h4 lss (show s≤900 by omega) hw hr
 have hlen:=Zkq hr
 have hsame:=Zqy (ms:=m015 sig (fs.length-1) ss::r.1) (by simp;lia) hr9
 have hN:=G.nice h4
 walk_at "tz"
 refine ZqA (Zqw (by walk_at "tr") (by walk_at "tr") (by walk_at "tr") (by walk_at "tr") P h1 h4 lss s0 (by lia) hw hr) ?_
 generalize hmm:T.lst ((m015 sig (fs.length-1) ss::r.1).map Zbo)=mm at *
 walk_at "tz"
 refine Pk.of (Znj (hN.mono (by decide))) ?_
 walk_at "tz"
 refine⟨Z0 ss,rfl,?_⟩
 walk_at "tz"
 refine⟨Z0 ks,rfl,?_⟩
 walk_at "tz"
 refine Pk.of hrun ?_
 walk_at "tz"
 refine Pk.of hsame ?_
 walk_at "tz"
 refine ZlG (n:=13) (.lst (blc (hN.bl.mono (by decide)) (blc (Zjf (n:=11) (by lia)) (blc (Zjf (n:=11) (by lia)) bl0))) (by simp)) ?_
 walk_at "tz"
 rfl
theorem ZmD(hL:Zcn ns): ∃us,Zgt [Zet ns]=some (.bool true,us):=by
 have:Pr (Zgt [Zet ns]) fun t _=>t=.bool true:=by
  unfold Zgt ZiL
  walk_at "tz"
  refine ZcY (p:=0) (r:=20) hL (by decide) fun st s0 s1=>?_
  walk_at "tz"
  refine ZcY hL (by decide) fun ch c0 c1=>?_
  walk_at "tz"
  refine⟨fun c=>?_,fun c=>?_⟩
  ·refine Zkr (N':=fun σ=>(∃p',σ 1=some (Zaw ns p' 20))∧σ 2=some (.int (300-st))) ?_ fun σ h=>?_
   ·walk_at "tz"
    exact⟨⟨0+1+1,by walk_at "tr"⟩,by walk_at "tr"⟩
   ·obtain⟨⟨p',h1⟩,h2⟩:=h
    exact ZlH hL h1 h2 (by lia) (by lia)
  ·refine Zkr (N':=fun σ=>(∃p',σ 1=some (Zaw ns p' 20))∧σ 2=some (.int st)) ?_ fun σ h=>?_
   ·walk_at "tz"
    exact⟨⟨0+1+1,by walk_at "tr"⟩,by walk_at "tr"⟩
   ·obtain⟨⟨p',h1⟩,h2⟩:=h
    exact ZlH hL h1 h2 (by omega) (by lia)
 obtain⟨t,us,e,rfl⟩:=this
 exact⟨us,e⟩
theorem Zmw(hlen:ns.length≤63)(hL:PyData.layable0 (.list (ns.map .int))=true): ∃H',ZkN [.ref 0] [ns.map V.int]=some (.bool true,H'):=ZmJ Zom ns (ZmD hL)
end L
end
section
open PySem PySem.W PyProof.Rows
namespace PySem.W.Fast
theorem tw5105673956185107153:True:=⟨⟩
theorem tw16968176118458789586:True:=⟨⟩
theorem tw9497945907656264259:True:=⟨⟩
theorem tw1176975735165151067:True:=⟨⟩
theorem tw6397798872860733234:True:=⟨⟩
theorem tw4621932581444047675:True:=⟨⟩
theorem tw13402640891724300857:True:=⟨⟩
theorem tw14869557710840242666:True:=⟨⟩
theorem tw17643754061406199020:True:=⟨⟩
theorem tw11187973929812520656:True:=⟨⟩
theorem tw4584130408075211490:True:=⟨⟩
theorem tw9601000219436670146:True:=⟨⟩
theorem tw15452572443179084588:True:=⟨⟩
theorem tw9156678896304099913:True:=⟨⟩
theorem tw15886500619415505586:True:=⟨⟩
theorem tw3520363519792060846:True:=⟨⟩
theorem tw12048056826642495367:True:=⟨⟩
theorem tw4419873286371483742:True:=⟨⟩
theorem tw13436231055378572716:True:=⟨⟩
theorem tw15221209806709932071:True:=⟨⟩
theorem tw11930311979851757478:True:=⟨⟩
theorem tw12798869161161681673:True:=⟨⟩
theorem tw9774394379856643515:True:=⟨⟩
theorem tw2257529940240947247:True:=⟨⟩
theorem tw9840342860782594374:True:=⟨⟩
theorem tw3101917741504857134:True:=⟨⟩
theorem tw17704188385166749297:True:=⟨⟩
theorem tw7523194637212750777:True:=⟨⟩
theorem tw4361700775904427359:True:=⟨⟩
theorem tw3092117133297227249:True:=⟨⟩
theorem tw10299302589577801163:True:=⟨⟩
theorem tw13840814423707232359:True:=⟨⟩
theorem tw15515405784836723652:True:=⟨⟩
theorem tw9563574807059059695:True:=⟨⟩
theorem tw11519117686961666697:True:=⟨⟩
theorem tw2947586027576077979:True:=⟨⟩
theorem tw16932301668260661676:True:=⟨⟩
theorem tw4157206338815638501:True:=⟨⟩
theorem tw16915470645016011554:True:=⟨⟩
theorem tw16472409268878238316:True:=⟨⟩
theorem tw10700183255674453818:True:=⟨⟩
theorem tw8164005668110941744:True:=⟨⟩
theorem tw3764688243253525356:True:=⟨⟩
theorem tw13426244417702134072:True:=⟨⟩
theorem tw234749781942434899:True:=⟨⟩
theorem tw5681066748535004433:True:=⟨⟩
theorem tw529536973988259948:True:=⟨⟩
theorem tw1906743188756502811:True:=⟨⟩
theorem tw10335527622381539264:True:=⟨⟩
theorem tw14501001857826371202:True:=⟨⟩
theorem tw17925384258215065573:True:=⟨⟩
theorem tw4026151001005817321:True:=⟨⟩
theorem tw7328447075739424539:True:=⟨⟩
theorem tw13517250619966689955:True:=⟨⟩
theorem tw16131593051203169754:True:=⟨⟩
theorem tw8933567498414919238:True:=⟨⟩
theorem tw5623994078177797194:True:=⟨⟩
theorem tw14191745827877185554:True:=⟨⟩
theorem tw5312734613080425828:True:=⟨⟩
theorem tw10155365746132046468:True:=⟨⟩
theorem tw17849293660312457548:True:=⟨⟩
theorem tw14613296582639449008:True:=⟨⟩
theorem tw12018387782679925087:True:=⟨⟩
theorem tw16749348522385944071:True:=⟨⟩
theorem tw17133258087290579817:True:=⟨⟩
theorem tw12996339429388188178:True:=⟨⟩
theorem tw69414778264802052:True:=⟨⟩
theorem tw16550838102048051623:True:=⟨⟩
theorem tw10721554026630188791:True:=⟨⟩
theorem tw7215932318001415403:True:=⟨⟩
theorem tw12300527617525357084:True:=⟨⟩
theorem tw734138898119960010:True:=⟨⟩
theorem tw16950569574821323974:True:=⟨⟩
theorem tw16172578528114110199:True:=⟨⟩
theorem tw1541540961381408409:True:=⟨⟩
theorem tw8789256864460932259:True:=⟨⟩
theorem tw15622835117965313283:True:=⟨⟩
theorem tw5388663596951873645:True:=⟨⟩
theorem tw11849525312028181438:True:=⟨⟩
theorem tw10785849952161257653:True:=⟨⟩
theorem tw569269584081339442:True:=⟨⟩
theorem tw7317576523658780031:True:=⟨⟩
theorem tw8621301723031713458:True:=⟨⟩
theorem tw7363425622247834253:True:=⟨⟩
theorem tw12941643214049860704:True:=⟨⟩
theorem tw13056512690104125533:True:=⟨⟩
theorem tw8934421753687110507:True:=⟨⟩
theorem tw11418939547134857076:True:=⟨⟩
theorem tw3094701115853657799:True:=⟨⟩
theorem tw16641721618263044686:True:=⟨⟩
theorem tw4179031660912777645:True:=⟨⟩
theorem tw305048472116853797:True:=⟨⟩
theorem tw3857615796733700780:True:=⟨⟩
theorem tw6700522753317681526:True:=⟨⟩
theorem tw804092199982636349:True:=⟨⟩
theorem tw13829591483307370896:True:=⟨⟩
theorem tw17969941481158815411:True:=⟨⟩
theorem tw16469568281967520401:True:=⟨⟩
theorem tw15213048550514571353:True:=⟨⟩
theorem tw17427895641331663283:True:=⟨⟩
theorem tw17334881123488906936:True:=⟨⟩
theorem tw4033379813872489195:True:=⟨⟩
theorem tw14712817762504950641:True:=⟨⟩
theorem tw8903238766108814736:True:=⟨⟩
theorem tw539595736760451978:True:=⟨⟩
theorem tw16149030986926176842:True:=⟨⟩
theorem tw11622863634709415212:True:=⟨⟩
theorem tw13478877428745155630:True:=⟨⟩
theorem tw8436589768386056944:True:=⟨⟩
theorem tw10097012582147076362:True:=⟨⟩
theorem tw1147522009701800784:True:=⟨⟩
theorem tw17721039672839981703:True:=⟨⟩
theorem tw112567504061534027:True:=⟨⟩
theorem tw9455475090630465045:True:=⟨⟩
theorem tw8646929664414959583:True:=⟨⟩
theorem tw2766794811542550618:True:=⟨⟩
theorem tw17004574920194074796:True:=⟨⟩
theorem tw17845374550828520631:True:=⟨⟩
theorem tw14439765378166140033:True:=⟨⟩
theorem tw10752687858943698738:True:=⟨⟩
theorem tw7927676657355488515:True:=⟨⟩
theorem tw7470021291188754609:True:=⟨⟩
theorem tw17601101962401091345:True:=⟨⟩
theorem tw16629561534657121264:True:=⟨⟩
theorem tw14864845329073380503:True:=⟨⟩
theorem tw12059592832596718669:True:=⟨⟩
theorem tw16118103595353321548:True:=⟨⟩
theorem tw11712190458185945011:True:=⟨⟩
theorem tw15210816241431372910:True:=⟨⟩
theorem tw14566440943485919492:True:=⟨⟩
theorem tw13231743877010270464:True:=⟨⟩
theorem tw4733640183689119296:True:=⟨⟩
theorem tw14374603453287560736:True:=⟨⟩
theorem tw15069716523494295500:True:=⟨⟩
theorem tw14678158920106854735:True:=⟨⟩
theorem tw14790834132378566595:True:=⟨⟩
theorem tw12221415409051222339:True:=⟨⟩
theorem tw9685044298169568939:True:=⟨⟩
theorem tw12532165626772418067:True:=⟨⟩
theorem tw3241244739717862871:True:=⟨⟩
theorem tw8160871880118814707:True:=⟨⟩
theorem tw6951939212644042833:True:=⟨⟩
theorem tw9715166753854553471:True:=⟨⟩
theorem tw5613845454599061817:True:=⟨⟩
theorem tw5759927347364260171:True:=⟨⟩
theorem tw6585068141940680455:True:=⟨⟩
theorem tw11990459337992974956:True:=⟨⟩
theorem tw10879198800498315992:True:=⟨⟩
theorem tw5036445103931068615:True:=⟨⟩
theorem tw11732214188671553305:True:=⟨⟩
theorem tw13792483299354683862:True:=⟨⟩
theorem tw6834397320308548248:True:=⟨⟩
theorem tw3482820431698744051:True:=⟨⟩
theorem tw6511239469406747073:True:=⟨⟩
theorem tw11002848052431835627:True:=⟨⟩
theorem tw11289143093466461953:True:=⟨⟩
theorem tw1948689806639624469:True:=⟨⟩
theorem tw2852278927748849453:True:=⟨⟩
theorem tw805765646861919253:True:=⟨⟩
theorem tw5427499738942290107:True:=⟨⟩
theorem tw10042499479572932358:True:=⟨⟩
theorem tw6642427785307546499:True:=⟨⟩
theorem tw10390157646234782899:True:=⟨⟩
theorem tw2906307230902593747:True:=⟨⟩
theorem tw4626940704210403192:True:=⟨⟩
theorem tw17996964024917085871:True:=⟨⟩
theorem tw7042659310547366237:True:=⟨⟩
theorem tw10015853644003576960:True:=⟨⟩
theorem tw931956834028986255:True:=⟨⟩
theorem tw17857563459279650048:True:=⟨⟩
theorem tw4211952112222678748:True:=⟨⟩
theorem tw8864380892348041232:True:=⟨⟩
theorem tw1322031339247656150:True:=⟨⟩
theorem tw12434779806091606683:True:=⟨⟩
theorem tw13218621648322568166:True:=⟨⟩
theorem tw5353813085845620550:True:=⟨⟩
theorem tw12184380411685104690:True:=⟨⟩
theorem tw4475145619620083286:True:=⟨⟩
theorem tw10693841506766600124:True:=⟨⟩
theorem tw15724745641170818534:True:=⟨⟩
theorem tw5485572742587201778:True:=⟨⟩
theorem tw13481268755573549168:True:=⟨⟩
theorem tw17093224777342109595:True:=⟨⟩
theorem tw8237626310708396552:True:=⟨⟩
theorem tw17837415989878807268:True:=⟨⟩
theorem tw9585978970863474492:True:=⟨⟩
theorem tw12829676779853934266:True:=⟨⟩
theorem tw4674102799890499726:True:=⟨⟩
theorem tw5552461122284547459:True:=⟨⟩
theorem tw5260856337621036202:True:=⟨⟩
theorem tw6315216371427503177:True:=⟨⟩
theorem tw15862806813707239167:True:=⟨⟩
theorem tw8824595633291508535:True:=⟨⟩
theorem tw14199714164133228370:True:=⟨⟩
theorem tw14805814515597417852:True:=⟨⟩
theorem tw726985913927333873:True:=⟨⟩
theorem tw2335157872551914648:True:=⟨⟩
theorem tw15137687247720179910:True:=⟨⟩
theorem tw17513604867990543079:True:=⟨⟩
theorem tw14902116518872038344:True:=⟨⟩
theorem tw13553050674002434610:True:=⟨⟩
theorem tw7097827964152542560:True:=⟨⟩
theorem tw5426448371682200115:True:=⟨⟩
theorem tw17094580856887593759:True:=⟨⟩
theorem tw3904583755211930517:True:=⟨⟩
theorem tw14788362278542820120:True:=⟨⟩
theorem tw10069975712529536831:True:=⟨⟩
theorem tw7317234293075219:True:=⟨⟩
theorem tw3373145609055282853:True:=⟨⟩
theorem tw18431155831084640082:True:=⟨⟩
theorem tw14722794537435163219:True:=⟨⟩
theorem tw11069628954808310989:True:=⟨⟩
theorem tw7942853410682446962:True:=⟨⟩
theorem tw17698735102306075112:True:=⟨⟩
theorem tw11118301316682269745:True:=⟨⟩
theorem tw15078095837771203109:True:=⟨⟩
theorem tw4227517698962585424:True:=⟨⟩
theorem tw11763852733077360975:True:=⟨⟩
theorem tw8526028360262338249:True:=⟨⟩
theorem tw10052001805573714066:True:=⟨⟩
theorem tw1877378965866140348:True:=⟨⟩
theorem tw17882641709403210578:True:=⟨⟩
theorem tw12694589447371642155:True:=⟨⟩
theorem tw15545184769064153574:True:=⟨⟩
theorem tw16396790404030501481:True:=⟨⟩
theorem tw12067549021546063074:True:=⟨⟩
theorem tw15755044616229629136:True:=⟨⟩
theorem tw1647960591809683682:True:=⟨⟩
theorem tw17878424488110687958:True:=⟨⟩
theorem tw3345597093286824917:True:=⟨⟩
theorem tw5680315236850328200:True:=⟨⟩
theorem tw8174591469460913490:True:=⟨⟩
theorem tw11786325122171474085:True:=⟨⟩
theorem tw15223397061033166810:True:=⟨⟩
theorem tw7343611390307366373:True:=⟨⟩
theorem tw5916140570258018564:True:=⟨⟩
theorem tw7340446101256811000:True:=⟨⟩
theorem tw3121739546393284973:True:=⟨⟩
theorem tw14323227155912201964:True:=⟨⟩
theorem tw14734032772098568817:True:=⟨⟩
theorem tw8553059368797141306:True:=⟨⟩
theorem tw2962324470309885386:True:=⟨⟩
theorem tw16266442582153907279:True:=⟨⟩
theorem tw8667492640987031791:True:=⟨⟩
theorem tw11320351676317602388:True:=⟨⟩
theorem tw1936002371953529552:True:=⟨⟩
theorem tw6793172497655745189:True:=⟨⟩
theorem tw13952158723898717365:True:=⟨⟩
theorem tw5310652868755799522:True:=⟨⟩
theorem tw7524379617451308511:True:=⟨⟩
theorem tw18167724695441219349:True:=⟨⟩
theorem tw4968929673044707356:True:=⟨⟩
theorem tw10562023465304736242:True:=⟨⟩
theorem tw13887902116395311400:True:=⟨⟩
theorem tw1391549112126926301:True:=⟨⟩
theorem tw12712400820596877648:True:=⟨⟩
theorem tw10846345724684618374:True:=⟨⟩
theorem tw7076977106511060911:True:=⟨⟩
theorem tw274189353798237994:True:=⟨⟩
theorem tw10896712999787139778:True:=⟨⟩
theorem tw16655083059833703075:True:=⟨⟩
theorem tw6771182271545134960:True:=⟨⟩
theorem tw10497823618577955822:True:=⟨⟩
theorem tw644751248652905101:True:=⟨⟩
theorem tw897888412878121761:True:=⟨⟩
theorem tw14279065940840616024:True:=⟨⟩
theorem tw18329075359065952542:True:=⟨⟩
theorem tw16463793508043411602:True:=⟨⟩
theorem tw5587484289544270231:True:=⟨⟩
theorem tw12356241338228022558:True:=⟨⟩
theorem tw8131721106225051767:True:=⟨⟩
theorem tw3808584094389355786:True:=⟨⟩
theorem tw15261137711255440680:True:=⟨⟩
theorem tw10800367221633172730:True:=⟨⟩
theorem tw10134030333460990790:True:=⟨⟩
theorem tw4177351759533223642:True:=⟨⟩
theorem tw2202087279664922802:True:=⟨⟩
theorem tw16925118299729312639:True:=⟨⟩
theorem tw3471986238504059686:True:=⟨⟩
theorem tw4799189423077775474:True:=⟨⟩
theorem tw17456480263006714056:True:=⟨⟩
theorem tw17084317755948004794:True:=⟨⟩
theorem tw1567247161763788871:True:=⟨⟩
theorem tw7894344252036594922:True:=⟨⟩
theorem tw5845538515087863352:True:=⟨⟩
theorem tw17338234738716814015:True:=⟨⟩
theorem tw12325562205625792791:True:=⟨⟩
theorem tw6623812351622530092:True:=⟨⟩
theorem tw1998032249293215463:True:=⟨⟩
theorem tw9161490523856799436:True:=⟨⟩
theorem tw6760056911573607715:True:=⟨⟩
theorem tw7618804249908900691:True:=⟨⟩
theorem tw14323754321771104433:True:=⟨⟩
theorem tw18277388166739348960:True:=⟨⟩
theorem tw3133745999044795564:True:=⟨⟩
theorem tw671769174312181376:True:=⟨⟩
theorem tw670427922429333600:True:=⟨⟩
theorem tw3083371992184736890:True:=⟨⟩
theorem tw7395645310213146516:True:=⟨⟩
theorem tw12079628635447562283:True:=⟨⟩
theorem tw6252695792229605141:True:=⟨⟩
theorem tw12487779173672901959:True:=⟨⟩
theorem tw10393078302967963895:True:=⟨⟩
theorem tw6205024481829086969:True:=⟨⟩
theorem tw16884622931589843948:True:=⟨⟩
theorem tw5015507407206683207:True:=⟨⟩
theorem tw8621336744817483243:True:=⟨⟩
theorem tw16408362238061914836:True:=⟨⟩
theorem tw14064692534454641163:True:=⟨⟩
theorem tw15155859288707382567:True:=⟨⟩
theorem tw11347631108264317165:True:=⟨⟩
theorem tw11586196018267737339:True:=⟨⟩
theorem tw17590088832654516399:True:=⟨⟩
theorem tw14398365135244066966:True:=⟨⟩
theorem tw6606014719576569030:True:=⟨⟩
theorem tw6999941293234460784:True:=⟨⟩
theorem tw10241233070082051121:True:=⟨⟩
theorem tw17960406059949683352:True:=⟨⟩
theorem tw8249347019533418915:True:=⟨⟩
theorem tw1173414789623836638:True:=⟨⟩
theorem tw7158441374720773216:True:=⟨⟩
theorem tw12319047049370110589:True:=⟨⟩
theorem tw16286715671046524454:True:=⟨⟩
theorem tw6788773261714906821:True:=⟨⟩
theorem tw7945405709010385892:True:=⟨⟩
theorem tw2484844197603217540:True:=⟨⟩
theorem tw7717702957765121957:True:=⟨⟩
theorem tw13350131943787299761:True:=⟨⟩
theorem tw14731147920152588799:True:=⟨⟩
theorem tw8078195926588453703:True:=⟨⟩
theorem tw3822784309164373692:True:=⟨⟩
theorem tw5674458297940323589:True:=⟨⟩
theorem tw5011889884212318148:True:=⟨⟩
theorem tw14245618210516037357:True:=⟨⟩
theorem tw6784790241324674965:True:=⟨⟩
theorem tw2456577590951144490:True:=⟨⟩
theorem tw8697654515486363317:True:=⟨⟩
theorem tw16607927582987124570:True:=⟨⟩
theorem tw13949155002146243131:True:=⟨⟩
theorem tw16970792351503237766:True:=⟨⟩
theorem tw1620389302784492585:True:=⟨⟩
theorem tw13323373534744806615:True:=⟨⟩
theorem tw15854262060937163188:True:=⟨⟩
theorem tw17802128708061929859:True:=⟨⟩
theorem tw9835382159548102362:True:=⟨⟩
theorem tw5713610079918043996:True:=⟨⟩
theorem tw1833547357909804662:True:=⟨⟩
theorem tw3016012700857477809:True:=⟨⟩
theorem tw3942624392001961204:True:=⟨⟩
theorem tw6662249597110656733:True:=⟨⟩
theorem tw16803143847538834185:True:=⟨⟩
theorem tw11843833423457600547:True:=⟨⟩
theorem tw15536387163757344236:True:=⟨⟩
theorem tw16504757533647375273:True:=⟨⟩
end PySem.W.Fast
set_option maxRecDepth 100000 in
set_option maxHeartbeats 8000000 in
open_top head for PySem.Challenge.rw_seer_k15_whole_run_by_statements
end
section
open PySem PySem.W PySem.Calls PyProof.Rows PM
seal PM.J PM.Js PM.JT PM.JA PM.JF PM.JI PM.JI2 PM.JP PM.S1 PM.Ss PM.Sto PM.Rd PM.Nm PM.OpN PM.Op2 PM.Def
namespace L
variable {F:List V→Hp→Option (V×Hp)}
noncomputable abbrev DD(w:World)(s₀:Shared)(mg mb:Str→Option Value)(f:Addr)(r:Nat)(F:List V→Hp→Option (V×Hp)): Prop:=Def PySem.Challenge.rw_seer_k15_whole_run_by_statements.row.prog w (head.heap_39 w.params) head.view_39 (looseW head.view_39 []) (ExcName.means s₀.heap) mg mb f r F
section
variable {w:World} {s₀:Shared} {mg mb:Str→Option Value}
theorem Zkf: DD w s₀ mg mb 263 1 ZeY:=by
 unfold DD;k_fill
 refine Dof (names:=["_law_feed"]) (g:=Zih) ?_
 exact fun _ _ _ _ _ _ _ c _ _=>(Zr (S1.put (Zt (Zq vL jI) jI ok_add) vL jI) (Zr (ZY (ZW (Zq vL jI) (Zay (nB c) (jc (Zq vL jI) Zn) ok_len) Zeo) (Zv (ZJ jI)) Z4) (Zv (ZJ (Zq (Zq vL jI) (Zt (Zq vL jI) jI ok_sub))))))
theorem law_draw_v12_d: DD w s₀ mg mb 270 2 Zbv:=by
 unfold DD;k_fill
 refine Dof (names:=["_law_feed","_law_many"]) (g:=ZhL) ?_
 exact fun _ _ _ _ _ _ _ c _ _=>(Zv (ZJ (Zt (Zt (Zt (cF c Zkf (jc vL Zn)) jI ok_mul) jI ZaE) vL ZaE)))
theorem law_number_v15_d: DD w s₀ mg mb 277 2 ZbD:=by
 unfold DD;k_fill
 refine Dof (names:=["_law_feed","_law_cell","_law_wide"]) (g:=Zhu) ?_
 exact fun _ _ _ _ _ _ _ c _ _=>(Zr (ZR sL (cF c Zkf (jc vL Zn))) (Zr (ZR sL (Zt (Zt vL jI Zb6) (Zt jI jI ZgM) ok_mul)) (Zr (ZY (ZW (Zt vL jI ZaE) jI ok_eq) (Zv (ZJ (Zt (Zt vL (Zt (Zt jI (Zt jI jI ZgM) ok_mul) jI ok_sub) ZaE) (Zt (Zt jI jI ZgM) jI ok_sub) ok_sub))) Z4) (Zr (ZY (ZW (Zt vL jI ZaE) jI ok_eq) (Zv (ZJ (Zt (Zt vL jI ZaE) jI ok_sub))) Z4) (Zv (ZJ (Zt (Zt vL jI ZaE) jI ok_sub)))))))
theorem ZeS: DD w s₀ mg mb 284 3 Zcq:=by
 unfold DD;k_fill
 refine Dof (names:=["_law_feed","_law_many","_law_one","_law_code","_law_k"]) (g:=Zh3) ?_
 exact fun _ _ _ _ _ _ _ c _ _=>(Zr (ZR sL (J.list (jc (cF c law_number_v15_d (jc vL Zn)) Zn))) (Zr (ZR sL (cF c law_draw_v12_d (jc vL (jc jI Zn)))) (Zr (Zcw sL (JI.range (nB c) (jc vL Zn)) (Zr (Zau (J.append vL (Zq (J.list (jc jI (jc jI (jc (J.un jI ok_neg) (jc jI (jc jI (jc (J.un jI ok_neg) (jc jI (jc (Zt jI jI ZgM) Zn))))))))) (Zt vL jI ZaE)))) (Zv (ZR sL (Zt vL jI Zb6))))) (Zv (ZJ vL)))))
theorem Zmd: DD w s₀ mg mb 296 4 Zhz:=by
 unfold DD;k_fill
 refine Dof (names:=["_law_feed","_law_program_here","_law_shape","_law_low","_law_code","_law_x","_law_lo","_law_hi","_law_named"]) (g:=Zhy) ?_
 exact fun _ _ _ _ _ _ _ c _ _=>(Zr (ZR sL (Zt vL (Zt (Zt vL jI Zb6) (Zt (Zt (Zq vC jI) vL ok_sub) jI ok_add) ZaE) ok_add)) (Zr (ZY (ZW (Zt vL jI ZaE) jI ok_eq) (Zv (ZJ (J.tup (jc jS (jc vL (jc (cF c ZeS (jc vC (jc (Zq vC jI) Zn))) (jc (Zt jI (Zay (nB c) (jc (cF c law_number_v15_d (jc vC Zn)) Zn) ZdY) ok_add) Zn))))))) Z4) (Zr (ZY (ZW (Zt vL jI ZaE) jI ok_eq) (Zv (ZJ (J.tup (jc jS (jc vL (jc (cF c ZeS (jc vC (jc (Zq vC jI) Zn))) (jc (Zt jI (Zay (nB c) (jc (cF c law_number_v15_d (jc vC Zn)) Zn) ZdY) ok_add) Zn))))))) Z4) (Zr (ZY (ZW (Zt vL jI ZaE) jI ok_eq) (Zr (ZR sL (cF c law_number_v15_d (jc vC Zn))) (Zr (ZR sL (Zt vL (Zt (Zt vL jI Zb6) jI ZaE) ok_add)) (Zv (ZJ (J.tup (jc jS (jc vL (jc (Zq (J.list (jc vL (jc jN Zn))) (Zt (Zt (Zt vL jI Zb6) jI ZaE) jI Zb6)) (jc (Zq (J.list (jc vL (jc jN Zn))) (Zt (Zt (Zt vL jI Zb6) jI ZaE) jI Zb6)) Zn))))))))) Z4) (Zr (ZY (Zcs (ZbM (ZW (Zt vL jI ZaE) jI Zeo) (ZbM (ZW (Zay (nB c) (jc vL Zn) ok_len) jI Zeo) ZdP))) (Zr (ZR sL (Zt (Zt vL jI Zb6) (Zay (nB c) (jc vL Zn) ok_len) ZaE)) (Zv (ZJ (J.tup (jc jS (jc vL (jc vL (jc (by refine cO ?_ ?_ ?_;(exact(JI.range (nB c) (jc (Zq (Zq vL vL) jI) Zn)));(exact fun _ _=>(cF (Clr.comp c) ZeS (jc vD (jc (Zq vD jI) Zn))));(exact fun _ _=>JF.nil)) Zn)))))))) Z4) (Zv (ZJ (J.tup (jc jS (jc vL (jc (cF c ZeS (jc vC (jc (Zq vC jI) Zn))) Zn)))))))))))
theorem ZjV: DD w s₀ mg mb 291 4 ZeH:=by
 unfold DD;k_fill
 refine Dof (names:=["_law_feed","_law_many","_law_word","_law_one"]) (g:=ZhB) ?_
 exact fun _ _ _ _ _ _ _ c _ _=>(Zr (ZR sL (Zq (J.list (jc jS (jc jS (jc jS (jc jS Zn))))) (cF c law_draw_v12_d (jc vL (jc jI Zn))))) (Zr (ZR sL (cF c ZeS (jc vL (jc vL Zn)))) (Zr (ZY (ZW vL jS ok_eq) (Zv (ZJ (J.tup (jc vL (jc vL (jc (Zt jI (Zay (nB c) (jc (cF c law_number_v15_d (jc vL Zn)) Zn) ZdY) ok_add) Zn)))))) Z4) (Zv (ZJ (J.tup (jc vL (jc vL Zn))))))))
theorem Zl1(n:Nat)(ih:Def PySem.Challenge.rw_seer_k15_whole_run_by_statements.row.prog w (head.heap_39 w.params) head.view_39 (looseW head.view_39 []) (ExcName.means s₀.heap) mg mb 310 (2*n+4) F): Def PySem.Challenge.rw_seer_k15_whole_run_by_statements.row.prog w (head.heap_39 w.params) head.view_39 (looseW head.view_39 []) (ExcName.means s₀.heap) mg mb 303 (2*n+5) (ZfU F):=by
  k_fill
  refine' Def.of (names:=["_law_feed","_law_program_here","_law_shape","_law_low","_law_depth","_law_code","_law_claim_here","_law_body_here"]) (n:=5) (room:=2*n+4) (g:=Zhl F) (ho:=?ho) (hcd:=?hcd) (nd:=by decide) (hn:=by decide) (hbind:=?hb) (hkinds:=?hk) (hone:=?h1) (hco:=?z1) (hgen:=?z2) (hk:=?z3) (hbody:=?hbody)
  case ho=>k_is
  case z1=>rfl
  case z2=>rfl
  case z3=>rfl
  case hcd=>k_is
  case hb=>intro s xs hx;match xs,hx with | [x0,x1,x2,x3,x4],_=>exact BindsTo.of_eq rfl
  case hk=>decide
  case h1=>decide +kernel
  case hbody=>
   intro dp un gd L outer h₀ hu clr hd1 hu1
   exact(Zr (S1.put (Zt (Zq vL jI) jI ok_sub) vL jI) (Zr (ZR sL (cF clr law_draw_v12_d (jc vL (jc jI Zn)))) (Zr (ZY (Zcs (ZbM (ZW (Zt vL jI ZaE) jI Zcz) (ZbM (ZW vL jI Zcz) (ZbM (ZW (Zt (Zt vL jI Zb6) jI ZaE) jI ok_eq) ZdP)))) (Zr (ZR sL (cF clr ZjV (jc vL (jc (Zq vL jI) Zn)))) (Zr (ZR sL (cF clr ih (jc vL (jc vL (jc vL (jc vL (jc (Zt vL jI ok_add) Zn))))))) (Zr (ZY (ZW (Zt vL jI ZaE) jI Zcz) (Zv (ZJ (J.tup (jc jS (jc vL (jc vL Zn)))))) Z4) (Zv (ZJ (J.tup (jc jS (jc vL (jc vL (jc (cF clr ih (jc vL (jc vL (jc vL (jc vL (jc (Zt vL jI ok_add) Zn)))))) Zn)))))))))) Z4) (Zr (ZY (Zcs (ZcV (ZW vL (Zq vL jI) Zeo) (ZcV (ZW (Zt vL jI ZaE) jI ok_eq) Zgk))) (Zv (ZJ (J.tup (jc jS (jc (cF clr ZjV (jc vL (jc (Zq vL jI) Zn))) Zn))))) Z4) (Zv (ZJ (cF clr Zmd (jc vL (jc vL (jc vL (jc vL (jc vL Zn))))))))))))
theorem ZjW: ∀n:Nat,Def PySem.Challenge.rw_seer_k15_whole_run_by_statements.row.prog w (head.heap_39 w.params) head.view_39 (looseW head.view_39 []) (ExcName.means s₀.heap) mg mb 310 (2*n+4) (ZdJ n)
 | 0=>Def.zero
 | n+1=>by
  have ih:=ZjW n
  k_fill
  have e0:2*(n+1)+4=(2*n+5)+1:=by omega
  rw[e0]
  refine' Def.of (names:=["_law_feed","_law_program_here","_law_shape","_law_low","_law_depth","_law_body_here","_law_k"]) (n:=5) (room:=2*n+5) (g:=ZhN (ZdJ n)) (ho:=?ho) (hcd:=?hcd) (nd:=by decide) (hn:=by decide) (hbind:=?hb) (hkinds:=?hk) (hone:=?h1) (hco:=?z1) (hgen:=?z2) (hk:=?z3) (hbody:=?hbody)
  case ho=>k_is
  case z1=>rfl
  case z2=>rfl
  case z3=>rfl
  case hcd=>k_is
  case hb=>intro s xs hx;match xs,hx with | [x0,x1,x2,x3,x4],_=>exact BindsTo.of_eq rfl
  case hk=>decide
  case h1=>decide +kernel
  case hbody=>
   intro dp un gd L outer h₀ hu clr hd1 hu1
   exact(Zr (ZR sL (J.list Zn)) (Zr (Zcw sL (JI.range (nB clr) (jc (Zt (Zt (cF clr law_draw_v12_d (jc vL (jc jI Zn))) jI ok_add) (Zay (nB clr) (jc jI (jc vL Zn)) Zor) ok_sub) Zn)) (Zv (ZY (ZW (Zq vL jI) jI Zeo) (Zv (Zau (J.append vL (ZbT clr (nm_def clr (by k_is) rfl rfl rfl rfl) (by k_is) (Zl1 n ih) (by omega) (by omega) (jc vL (jc vL (jc vL (jc vL (jc vL Zn))))))))) Z4))) (Zv (ZJ vL))))
theorem Zmj: Def PySem.Challenge.rw_seer_k15_whole_run_by_statements.row.prog w (head.heap_39 w.params) head.view_39 (looseW head.view_39 []) (ExcName.means s₀.heap) mg mb 310 22 ZdM:=ZjW 9
theorem law_program_v15_d: DD w s₀ mg mb 317 23 Zhp:=by
 unfold DD;k_fill
 refine Dof (names:=["_law_feed","_law_program_here","_law_count","_law_f","_law_code","_law_shape","_law_low"]) (g:=Zho) ?_
 exact fun _ _ _ _ _ _ _ c _ _=>(Zr (ZR sL (J.list Zn)) (Zr (ZR sL (cF c law_draw_v12_d (jc vL (jc jI Zn)))) (Zr (Zcw sL (JI.range (nB c) (jc (Zt vL jI ok_add) Zn)) (Zr (ZR sL (cF c law_draw_v12_d (jc vL (jc jI Zn)))) (Zr (ZR sL (J.list (jc (Zt (Zt vL jI Zb6) (Zt jI (Zt vL jI ZaE) ok_add) ZaE) (jc (Zt jI (Zt vL jI ZaE) ok_add) Zn)))) (Zr (ZR sL jI) (Zr (ZY (ZW vL vL Zcz) (Zv (ZR sL (Zt (Zq vL jI) jI ok_add))) (Zv (S1.put (Zt (Zq vL jI) jI ok_add) vL jI))) (Zv (Zau (J.append vL (J.tup (jc (Zq vL jI) (jc (Zq vL jI) (jc (cF c Zmj (jc vL (jc (Zdn (nB c) (jc vL Zn) ok_list1) (jc vL (jc vL (jc (Zdn (nB c) (jc (Zcy vL vL Zcz) Zn) Zo6) Zn)))))) Zn)))))))))))) (Zv (ZJ vL)))))
theorem law_mark_d: DD w s₀ mg mb 350 1 ZaM:=by
 unfold DD;k_fill
 refine Dof (names:=["_law_going","_law_f","_law_place","_law_boxes"]) (g:=Zij) ?_
 exact fun _ _ _ _ _ _ _ c _ _=>(Zv (ZY (ZW (Zay (nB c) (jc (Zq vL jI) Zn) ok_len) (Zq vL jI) Zcz) (Zv (Zau (J.append (Zq vL jI) (J.tup (jc vL (jc vL (jc (Zdn (nB c) (jc vL Zn) ok_list1) Zn))))))) Z4))
theorem ZeN: DD w s₀ mg mb 329 1 ZbL:=by
 unfold DD;k_fill
 refine Dof (names:=["_law_one","_law_boxes","_law_total","_law_k"]) (g:=ZhD) ?_
 exact fun _ _ _ _ _ _ _ c _ _=>(Zr (ZR sL (Zq vL jI)) (Zr (Zcw sL (JI.range (nB c) (jc (Zay (nB c) (jc vL Zn) ok_len) Zn)) (Zv (ZR sL (Zt vL (Zt (Zq vL (Zt vL jI ok_add)) (Zq vL vL) ok_mul) ok_add)))) (Zv (ZJ vL))))
theorem ZjX: DD w s₀ mg mb 336 2 ZcF:=by
 unfold DD;k_fill
 refine Dof (names:=["_law_claim_here","_law_boxes","_law_total"]) (g:=ZhG) ?_
 exact fun _ _ _ _ _ _ _ c _ _=>(Zr (ZR sL (cF c ZeN (jc (Zq vL jI) (jc vL Zn)))) (Zr (ZY (ZW (Zq vL jI) jS ok_eq) (Zv (ZJ (Zcy vL jI Zcz))) Z4) (Zr (ZY (ZW (Zq vL jI) jS ok_eq) (Zv (ZJ (Zcy vL jI ok_eq))) Z4) (Zv (ZJ (Zcy (Zt vL (Zq vL jI) ZaE) jI ok_eq))))))
theorem Zj4: ∀n:Nat,Def PySem.Challenge.rw_seer_k15_whole_run_by_statements.row.prog w (head.heap_39 w.params) head.view_39 (looseW head.view_39 []) (ExcName.means s₀.heap) mg mb 343 (1*n+0) (Zeb n)
 | 0=>Def.zero
 | n+1=>by
  have ih:=Zj4 n
  k_fill
  have e0:1*(n+1)+0=(1*n+0)+1:=by omega
  rw[e0]
  refine' Def.of (names:=["_law_body_here","_law_total","_law_one"]) (n:=1) (room:=1*n+0) (g:=Zik (Zeb n)) (ho:=?ho) (hcd:=?hcd) (nd:=by decide) (hn:=by decide) (hbind:=?hb) (hkinds:=?hk) (hone:=?h1) (hco:=?z1) (hgen:=?z2) (hk:=?z3) (hbody:=?hbody)
  case ho=>k_is
  case z1=>rfl
  case z2=>rfl
  case z3=>rfl
  case hcd=>k_is
  case hb=>intro s xs hx;match xs,hx with | [x0],_=>exact BindsTo.of_eq rfl
  case hk=>decide
  case h1=>decide +kernel
  case hbody=>
   intro dp un gd L outer h₀ hu clr hd1 hu1
   exact(Zr (ZR sL jI) (Zr (Zcw sL (JI.seq vL) (Zr (ZR sL (Zt vL jI ok_add)) (Zr (ZY (ZW (Zq vL jI) jS ok_eq) (Zv (ZR sL (Zt (Zt (Zt vL jI ok_add) (cF clr ih (jc (Zq vL jI) Zn)) ok_add) (cF clr ih (jc (Zq vL jI) Zn)) ok_add))) Z4) (Zv (ZY (ZW (Zq vL jI) jS ok_eq) (Zv (ZR sL (Zt (Zt vL jI ok_add) (cF clr ih (jc (Zq vL jI) Zn)) ok_add))) Z4))))) (Zv (ZJ vL))))
theorem Zge: Def PySem.Challenge.rw_seer_k15_whole_run_by_statements.row.prog w (head.heap_39 w.params) head.view_39 (looseW head.view_39 []) (ExcName.means s₀.heap) mg mb 343 24 ZbS:=Zj4 24
theorem Zl9: DD w s₀ mg mb 357 1 ZeG:=by
 unfold DD;k_fill
 refine Dof (names:=["_law_going","_law_lo","_law_hi","_law_pick"]) (g:=Zhw) ?_
 exact fun _ _ _ _ _ _ _ c _ _=>(Zr (ZR sL jI) (Zr (ZY (ZW (Zq vL jI) (Zay (nB c) (jc (Zq vL jI) Zn) ok_len) Zcz) (Zv (ZR sL (Zq (Zq vL jI) (Zq vL jI)))) Z4) (Zr (S1.put (Zt (Zq vL jI) jI ok_add) vL jI) (Zr (ZY (Zcs (ZbM (ZW vL jN Zdu) (ZbM (ZW vL jN Zdu) ZdP))) (Zv (ZJ vL)) Z4) (Zr (ZY (ZW vL jN Zdu) (Zv (ZJ (Zt vL (Zay (nB c) (jc vL Zn) ZdY) ok_sub))) Z4) (Zr (ZY (ZW vL jN Zdu) (Zv (ZJ (Zt vL (Zay (nB c) (jc vL Zn) ZdY) ok_add))) Z4) (Zv (ZJ (Zt vL (Zt vL (Zt (Zt vL vL ok_sub) jI ok_add) ZaE) ok_add)))))))))
theorem ZmW: DD w s₀ mg mb 364 2 Zgd:=by
 unfold DD;k_fill
 refine Dof (names:=["_law_going","_law_one","_law_boxes"]) (g:=Zdm) ?_
 exact fun _ _ _ _ _ _ _ c _ _=>(Zr (ZY (ZW (Zq vL jI) jS ok_eq) (Zv (S1.put (cF c ZeN (jc (Zq vL jI) (jc vL Zn))) vL (Zt (Zq vL jI) jI ok_sub))) Z4) (Zr (ZY (ZW (Zq vL jI) jS ok_eq) (Zv (S1.put (Zt (cF c ZeN (jc (Zq vL jI) (jc vL Zn))) (Zq vL jI) Zb6) vL (Zt (Zq vL jI) jI ok_sub))) Z4) (Zr (ZY (ZW (Zq vL jI) jS ok_eq) (Zv (S1.put (Zt (cF c ZeN (jc (Zq vL jI) (jc vL Zn))) (Zq vL jI) ZaE) vL (Zt (Zq vL jI) jI ok_sub))) Z4) (Zv (ZY (ZW (Zq vL jI) jS ok_eq) (Zv (S1.put (cF c Zl9 (jc vL (jc (Zq vL jI) (jc (Zq vL jI) Zn)))) vL (Zt (Zq vL jI) jI ok_sub))) Z4)))))
theorem Zmx(n:Nat)(ih:Def PySem.Challenge.rw_seer_k15_whole_run_by_statements.row.prog w (head.heap_39 w.params) head.view_39 (looseW head.view_39 []) (ExcName.means s₀.heap) mg mb 376 (2*n+24) F): Def PySem.Challenge.rw_seer_k15_whole_run_by_statements.row.prog w (head.heap_39 w.params) head.view_39 (looseW head.view_39 []) (ExcName.means s₀.heap) mg mb 369 (2*n+25) (ZbE F):=by
  k_fill
  refine' Def.of (names:=["_law_going","_law_f","_law_one","_law_fresh","_law_boxes","_law_other","_law_shape","_law_inner"]) (n:=5) (room:=2*n+24) (g:=ZdN F) (ho:=?ho) (hcd:=?hcd) (nd:=by decide) (hn:=by decide) (hbind:=?hb) (hkinds:=?hk) (hone:=?h1) (hco:=?z1) (hgen:=?z2) (hk:=?z3) (hbody:=?hbody)
  case ho=>k_is
  case z1=>rfl
  case z2=>rfl
  case z3=>rfl
  case hcd=>k_is
  case hb=>intro s xs hx;match xs,hx with | [x0,x1,x2,x3,x4],_=>exact BindsTo.of_eq rfl
  case hk=>decide
  case h1=>decide +kernel
  case hbody=>
   intro dp un gd L outer h₀ hu clr hd1 hu1
   exact(Zv (ZY (ZW (Zq vL jI) jS ok_eq) (Zr (ZR sL (Zt (Zt vL jI ok_add) (cF clr Zge (jc (Zq vL jI) Zn)) ok_add)) (Zr (ZY (JT.val (cF clr ZjX (jc (Zq vL jI) (jc vC Zn)))) (Zr (Zau (cF clr law_mark_d (jc vL (jc vL (jc vL (jc vC Zn)))))) (Zv (Zau (cF clr ih (jc vL (jc vL (jc (Zq vL jI) (jc (Zt vL jI ok_add) (jc vC Zn))))))))) (Zr (Zau (cF clr law_mark_d (jc vL (jc vL (jc vL (jc vC Zn)))))) (Zv (Zau (cF clr ih (jc vL (jc vL (jc (Zq vL jI) (jc (Zt vL jI ok_add) (jc vC Zn)))))))))) (Zv (Zau (cF clr law_mark_d (jc vL (jc vL (jc (Zt (Zt vL jI ok_add) (cF clr Zge (jc (Zq vL jI) Zn)) ok_add) (jc vC Zn))))))))) (Zv (ZY (ZW (Zq vL jI) jS ok_eq) (Zr (Zau (cF clr law_mark_d (jc vL (jc vL (jc vL (jc vC Zn)))))) (Zr (Zku 1000000 (Zcs (ZbM (ZW (Zay (nB clr) (jc (Zq vL jI) Zn) ok_len) (Zq vL jI) Zcz) (ZbM (JT.val (cF clr ZjX (jc (Zq vL jI) (jc vC Zn)))) ZdP))) (Zr (Zau (cF clr law_mark_d (jc vL (jc vL (jc (Zt vL jI ok_add) (jc vC Zn)))))) (Zr (Zau (cF clr ih (jc vL (jc vL (jc (Zq vL jI) (jc (Zt vL jI ok_add) (jc vC Zn))))))) (Zv (Zau (cF clr law_mark_d (jc vL (jc vL (jc vL (jc vC Zn)))))))))) (Zv (Zau (cF clr law_mark_d (jc vL (jc vL (jc (Zt (Zt vL jI ok_add) (cF clr Zge (jc (Zq vL jI) Zn)) ok_add) (jc vC Zn))))))))) (Zv (ZY (ZW (Zq vL jI) jS ok_eq) (Zr (ZR sL (Zq (Zq vL jI) (Zq vL jI))) (Zr (ZR sL (Zt (by refine cO ?_ ?_ ?_;(exact(JI.seq (Zq vL jI)));(exact fun _ _=>(cF (Clr.comp clr) ZeN (jc vO (jc vD Zn))));(exact fun _ _=>JF.nil)) (Zt (J.list (jc jI Zn)) (Zt (Zq vL jI) (Zq vL jI) ok_sub) ok_mul) ok_add)) (Zr (Zau (cF clr law_mark_d (jc vL (jc (Zq vL jI) (jc jI (jc vL Zn)))))) (Zr (Zau (cF clr ih (jc vL (jc (Zq vL jI) (jc (Zq vL jI) (jc jI (jc vL Zn))))))) (Zr (S1.put (Zq vL (J.un jI ok_neg)) vC (Zt (Zq vL jI) jI ok_sub)) (Zv (Zau (cF clr law_mark_d (jc vL (jc vL (jc vL (jc vC Zn)))))))))))) (Zr (Zau (cF clr ZmW (jc vL (jc vL (jc vC Zn))))) (Zv (Zau (cF clr law_mark_d (jc vL (jc vL (jc vL (jc vC Zn))))))))))))))
theorem Zj2: ∀n:Nat,Def PySem.Challenge.rw_seer_k15_whole_run_by_statements.row.prog w (head.heap_39 w.params) head.view_39 (looseW head.view_39 []) (ExcName.means s₀.heap) mg mb 376 (2*n+24) (Za1 n)
 | 0=>Def.zero
 | n+1=>by
  have ih:=Zj2 n
  k_fill
  have e0:2*(n+1)+24=(2*n+25)+1:=by omega
  rw[e0]
  refine' Def.of (names:=["_law_going","_law_f","_law_body_here","_law_fresh","_law_boxes","_law_one"]) (n:=5) (room:=2*n+25) (g:=ZeT (Za1 n)) (ho:=?ho) (hcd:=?hcd) (nd:=by decide) (hn:=by decide) (hbind:=?hb) (hkinds:=?hk) (hone:=?h1) (hco:=?z1) (hgen:=?z2) (hk:=?z3) (hbody:=?hbody)
  case ho=>k_is
  case z1=>rfl
  case z2=>rfl
  case z3=>rfl
  case hcd=>k_is
  case hb=>intro s xs hx;match xs,hx with | [x0,x1,x2,x3,x4],_=>exact BindsTo.of_eq rfl
  case hk=>decide
  case h1=>decide +kernel
  case hbody=>
   intro dp un gd L outer h₀ hu clr hd1 hu1
   exact(Zv (Zcw sL (JI.seq vL) (Zv (ZY (ZW (Zay (nB clr) (jc (Zq vL jI) Zn) ok_len) (Zq vL jI) Zcz) (Zr (Zau (ZbT clr (nm_def clr (by k_is) rfl rfl rfl rfl) (by k_is) (Zmx n ih) (by omega) (by omega) (jc vL (jc vL (jc vL (jc vL (jc vL Zn))))))) (Zv (ZR sL (Zt vL (cF clr Zge (jc (J.list (jc vL Zn)) Zn)) ok_add)))) Z4))))
theorem law_go_v15_d: Def PySem.Challenge.rw_seer_k15_whole_run_by_statements.row.prog w (head.heap_39 w.params) head.view_39 (looseW head.view_39 []) (ExcName.means s₀.heap) mg mb 376 64 Zga:=Zj2 20
theorem ZjY: ∀n:Nat,Def PySem.Challenge.rw_seer_k15_whole_run_by_statements.row.prog w (head.heap_39 w.params) head.view_39 (looseW head.view_39 []) (ExcName.means s₀.heap) mg mb 322 (1*n+0) (Zd8 n)
 | 0=>Def.zero
 | n+1=>by
  have ih:=ZjY n
  k_fill
  have e0:1*(n+1)+0=(1*n+0)+1:=by omega
  rw[e0]
  refine' Def.of (names:=["_law_thing"]) (n:=1) (room:=1*n+0) (g:=ZhO (Zd8 n)) (ho:=?ho) (hcd:=?hcd) (nd:=by decide) (hn:=by decide) (hbind:=?hb) (hkinds:=?hk) (hone:=?h1) (hco:=?z1) (hgen:=?z2) (hk:=?z3) (hbody:=?hbody)
  case ho=>k_is
  case z1=>rfl
  case z2=>rfl
  case z3=>rfl
  case hcd=>k_is
  case hb=>intro s xs hx;match xs,hx with | [x0],_=>exact BindsTo.of_eq rfl
  case hk=>decide
  case h1=>decide +kernel
  case hbody=>
   intro dp un gd L outer h₀ hu clr hd1 hu1
   exact(Zr (ZY (JT.val (ZcW (nB clr) (nB clr) (.inr (.inr (.inl rfl))) vL)) (Zv (ZJ (by refine cO ?_ ?_ ?_;(exact(JI.seq vL));(exact fun _ _=>(cF (Clr.comp clr) ih (jc vO Zn)));(exact fun _ _=>JF.nil)))) Z4) (Zr (ZY (JT.val (ZcW (nB clr) (nB clr) (.inr (.inr (.inr rfl))) vL)) (Zv (ZJ (Zdn (nB clr) (jc (by refine cO ?_ ?_ ?_;(exact(JI.seq vL));(exact fun _ _=>(cF (Clr.comp clr) ih (jc vO Zn)));(exact fun _ _=>JF.nil)) Zn) Zki))) Z4) (Zv (ZJ vL))))
theorem law_copy_v12_d: Def PySem.Challenge.rw_seer_k15_whole_run_by_statements.row.prog w (head.heap_39 w.params) head.view_39 (looseW head.view_39 []) (ExcName.means s₀.heap) mg mb 322 24 ZhP:=ZjY 24
theorem law_same_v15_d: DD w s₀ mg mb 383 1 ZhR:=by
 unfold DD;k_fill
 refine Dof (names:=["_law_found","_law_due","_law_each","_law_number_here"]) (g:=ZhQ) ?_
 exact fun _ _ _ _ _ _ _ c _ _=>(Zr (ZY (Zcs (ZcV (Zei (JT.val (ZcW (nB c) (nB c) (.inr (.inr (.inl rfl))) vL))) (ZcV (ZW (Zay (nB c) (jc vL Zn) ok_len) (Zay (nB c) (jc vL Zn) ok_len) Zfu) Zgk))) (Zv (ZJ jB)) Z4) (Zr (Zcw sL (JI.seq vL) (Zr (ZY (Zcs (ZcV (Zei (JT.val (ZcW (nB c) (nB c) (.inr (.inr (.inr rfl))) vL))) (ZcV (ZW (Zay (nB c) (jc vL Zn) ok_len) jI Zfu) (ZcV (Zei (JT.val (ZcW (nB c) (nB c) (.inr (.inr (.inl rfl))) (Zq vL jI)))) Zgk)))) (Zv (ZJ jB)) Z4) (Zv (Zcw sL (JI.seq (Zt (J.list (jc (Zq vL jI) (jc (Zq vL jI) Zn))) (Zq vL jI) ok_add)) (Zv (ZY (Zcs (ZcV (Zei (JT.val (ZcW (nB c) (nB c) (.inl rfl) vL))) (ZcV (JT.val (ZcW (nB c) (nB c) (.inr (.inl rfl)) vL)) Zgk))) (Zv (ZJ jB)) Z4)))))) (Zv (ZJ (Zcy vL vL ok_eq)))))
theorem Zmy: DD w s₀ mg mb 126 1 ZeU:=by
 unfold DD;k_fill
 refine Dof (names:=["rows"]) (g:=Zh7) ?_
 exact fun _ _ _ _ _ _ _ c _ _=>(Zv (ZJ (Zqh (nB c) (by refine cO ?_ ?_ ?_;(exact(JI.seq vL));(exact fun _ _=>(Zay (nB (Clr.comp c)) (jc (Zq vO jI) (jc (Zq vO jI) Zn)) Zoq));(exact fun _ _=>JF.nil)))))
theorem Zme: DD w s₀ mg mb 138 2 ZeL:=by
 unfold DD;k_fill
 refine Dof (names:=["rows","by_place","row"]) (g:=ZhI) ?_
 exact fun _ _ _ _ _ _ _ c _ _=>(Zr (by refine sO sL ?_ ?_ ?_;(exact(JI.range (nB c) (jc (Zt (cF c Zmy (jc vL Zn)) jI ok_add) Zn)));(exact fun _ _=>(J.list Zn));(exact fun _ _=>JF.nil)) (Zr (Zcw sL (JI.seq vL) (Zv (Zau (J.append (Zq vL (Zq vL jI)) vL)))) (Zv (ZJ vL))))
theorem Zmk: DD w s₀ mg mb 65 1 Zf7:=by
 unfold DD;k_fill
 refine Dof (names:=["self"]) (g:=ZhZ) ?_
 exact fun _ _ _ _ _ _ _ c _ _=>(Zr (Zb5 (Clr.keep c) (J.list Zn) vL (by rfl) (by decide) (by decide) (by k_is) (by k_is) (by k_is) (by k_is)) (Zv (Zb5 (Clr.keep c) jI vL (by rfl) (by decide) (by decide) (by k_is) (by k_is) (by k_is) (by k_is))))
theorem Zia: DD w s₀ mg mb 79 1 Zec:=by
 unfold DD;k_fill
 refine Dof (names:=["self","here","act","there"]) (g:=Zh9) ?_
 exact fun _ _ _ _ _ _ _ c _ _=>(Zv (Zau (J.append (Za2 (Clr.keep c) vL (by rfl) (by decide) (by k_is) (by k_is) (by k_is) (by k_is)) (J.tup (jc vL (jc vL (jc vL Zn)))))))
theorem ZdL: DD w s₀ mg mb 72 2 Zcp:=by
 unfold DD;k_fill
 refine Dof (names:=["self","here","act"]) (g:=ZhJ) ?_
 exact fun _ _ _ _ _ _ _ c _ _=>(Zr (Zb5 (Clr.keep c) (Zt (Za2 (Clr.keep c) vL (by rfl) (by decide) (by k_is) (by k_is) (by k_is) (by k_is)) jI ok_add) vL (by rfl) (by decide) (by decide) (by k_is) (by k_is) (by k_is) (by k_is)) (Zr (Zau (Zbj c vL (by k_is) (by k_is) (by k_is) (by decide) (by k_is) Zia (by omega) (by omega) (jc vL (jc vL (jc (Za2 (Clr.keep c) vL (by rfl) (by decide) (by k_is) (by k_is) (by k_is) (by k_is)) Zn))))) (Zv (ZJ (Za2 (Clr.keep c) vL (by rfl) (by decide) (by k_is) (by k_is) (by k_is) (by k_is))))))
theorem ZkP: ∀n:Nat,Def PySem.Challenge.rw_seer_k15_whole_run_by_statements.row.prog w (head.heap_39 w.params) head.view_39 (looseW head.view_39 []) (ExcName.means s₀.heap) mg mb 19 (1*n+0) (Zef n)
 | 0=>Def.zero
 | n+1=>by
  have ih:=ZkP n
  k_fill
  have e0:1*(n+1)+0=(1*n+0)+1:=by omega
  rw[e0]
  refine' Def.of (names:=["thing"]) (n:=1) (room:=1*n+0) (g:=Zi6 (Zef n)) (ho:=?ho) (hcd:=?hcd) (nd:=by decide) (hn:=by decide) (hbind:=?hb) (hkinds:=?hk) (hone:=?h1) (hco:=?z1) (hgen:=?z2) (hk:=?z3) (hbody:=?hbody)
  case ho=>k_is
  case z1=>rfl
  case z2=>rfl
  case z3=>rfl
  case hcd=>k_is
  case hb=>intro s xs hx;match xs,hx with | [x0],_=>exact BindsTo.of_eq rfl
  case hk=>decide
  case h1=>decide +kernel
  case hbody=>
   intro dp un gd L outer h₀ hu clr hd1 hu1
   exact(Zr (ZY (JT.val (ZcW (nB clr) (nB clr) (.inr (.inr (.inl rfl))) vL)) (Zv (ZJ (by refine cO ?_ ?_ ?_;(exact(JI.seq vL));(exact fun _ _=>(cF (Clr.comp clr) ih (jc vO Zn)));(exact fun _ _=>JF.nil)))) Z4) (Zr (ZY (JT.val (ZcW (nB clr) (nB clr) (.inr (.inr (.inr rfl))) vL)) (Zv (ZJ (Zdn (nB clr) (jc (by refine cO ?_ ?_ ?_;(exact(JI.seq vL));(exact fun _ _=>(cF (Clr.comp clr) ih (jc vO Zn)));(exact fun _ _=>JF.nil)) Zn) Zki))) Z4) (Zv (ZJ vL))))
theorem Zlo: Def PySem.Challenge.rw_seer_k15_whole_run_by_statements.row.prog w (head.heap_39 w.params) head.view_39 (looseW head.view_39 []) (ExcName.means s₀.heap) mg mb 19 24 ZgD:=ZkP 24
theorem Zgf: DD w s₀ mg mb 133 25 ZdO:=by
 unfold DD;k_fill
 refine Dof (names:=["claim","truth"]) (g:=Zim) ?_
 exact fun _ _ _ _ _ _ _ c _ _=>(Zv (ZJ (J.tup (jc jS (jc (cF c Zlo (jc vL Zn)) (jc vL Zn))))))
theorem Zml(n:Nat)(ih:Def PySem.Challenge.rw_seer_k15_whole_run_by_statements.row.prog w (head.heap_39 w.params) head.view_39 (looseW head.view_39 []) (ExcName.means s₀.heap) mg mb 86 (3*n+25) F): Def PySem.Challenge.rw_seer_k15_whole_run_by_statements.row.prog w (head.heap_39 w.params) head.view_39 (looseW head.view_39 []) (ExcName.means s₀.heap) mg mb 100 (3*n+26) (Zf8 F):=by
  k_fill
  refine' Def.of (names:=["self","statement","here","then","then_end","other","other_end","end"]) (n:=3) (room:=3*n+25) (g:=Zh0 F) (ho:=?ho) (hcd:=?hcd) (nd:=by decide) (hn:=by decide) (hbind:=?hb) (hkinds:=?hk) (hone:=?h1) (hco:=?z1) (hgen:=?z2) (hk:=?z3) (hbody:=?hbody)
  case ho=>k_is
  case z1=>rfl
  case z2=>rfl
  case z3=>rfl
  case hcd=>k_is
  case hb=>intro s xs hx;match xs,hx with | [x0,x1,x2],_=>exact BindsTo.of_eq rfl
  case hk=>decide
  case h1=>decide +kernel
  case hbody=>
   intro dp un gd L outer h₀ hu clr hd1 hu1
   exact(Zr (ZR sL (Zbj clr vL (by k_is) (by k_is) (by k_is) (by decide) (by k_is) ZdL (by omega) (by omega) (jc vL (jc (cF clr Zgf (jc (Zq vL jI) (jc jB Zn))) Zn)))) (Zr (ZR sL (Zbj clr vL (by k_is) (by k_is) (by k_is) (by decide) (by k_is) ih (by omega) (by omega) (jc (Zq vL jI) (jc vL Zn)))) (Zr (ZR sL (Zbj clr vL (by k_is) (by k_is) (by k_is) (by decide) (by k_is) ZdL (by omega) (by omega) (jc vL (jc (cF clr Zgf (jc (Zq vL jI) (jc jB Zn))) Zn)))) (Zr (ZR sL (Zbj clr vL (by k_is) (by k_is) (by k_is) (by decide) (by k_is) ih (by omega) (by omega) (jc (Zq vL jI) (jc vL Zn)))) (Zr (ZR sL (Zbj clr vL (by k_is) (by k_is) (by k_is) (by decide) (by k_is) ZdL (by omega) (by omega) (jc vL (jc (J.tup (jc jS Zn)) Zn)))) (Zr (Zau (Zbj clr vL (by k_is) (by k_is) (by k_is) (by decide) (by k_is) Zia (by omega) (by omega) (jc vL (jc (J.tup (jc jS Zn)) (jc vL Zn))))) (Zv (ZJ vL))))))))
theorem Zl3(n:Nat)(ih:Def PySem.Challenge.rw_seer_k15_whole_run_by_statements.row.prog w (head.heap_39 w.params) head.view_39 (looseW head.view_39 []) (ExcName.means s₀.heap) mg mb 86 (3*n+25) F): Def PySem.Challenge.rw_seer_k15_whole_run_by_statements.row.prog w (head.heap_39 w.params) head.view_39 (looseW head.view_39 []) (ExcName.means s₀.heap) mg mb 107 (3*n+26) (ZfY F):=by
  k_fill
  refine' Def.of (names:=["self","statement","here","head","again","again_end"]) (n:=3) (room:=3*n+25) (g:=Zht F) (ho:=?ho) (hcd:=?hcd) (nd:=by decide) (hn:=by decide) (hbind:=?hb) (hkinds:=?hk) (hone:=?h1) (hco:=?z1) (hgen:=?z2) (hk:=?z3) (hbody:=?hbody)
  case ho=>k_is
  case z1=>rfl
  case z2=>rfl
  case z3=>rfl
  case hcd=>k_is
  case hb=>intro s xs hx;match xs,hx with | [x0,x1,x2],_=>exact BindsTo.of_eq rfl
  case hk=>decide
  case h1=>decide +kernel
  case hbody=>
   intro dp un gd L outer h₀ hu clr hd1 hu1
   exact(Zr (ZR sL (Zbj clr vL (by k_is) (by k_is) (by k_is) (by decide) (by k_is) ZdL (by omega) (by omega) (jc vL (jc (J.tup (jc jS Zn)) Zn)))) (Zr (ZR sL (Zbj clr vL (by k_is) (by k_is) (by k_is) (by decide) (by k_is) ZdL (by omega) (by omega) (jc vL (jc (cF clr Zgf (jc (Zq vL jI) (jc jB Zn))) Zn)))) (Zr (ZR sL (Zbj clr vL (by k_is) (by k_is) (by k_is) (by decide) (by k_is) ih (by omega) (by omega) (jc (Zq vL jI) (jc vL Zn)))) (Zr (Zau (Zbj clr vL (by k_is) (by k_is) (by k_is) (by decide) (by k_is) Zia (by omega) (by omega) (jc vL (jc (J.tup (jc jS Zn)) (jc vL Zn))))) (Zv (ZJ (Zbj clr vL (by k_is) (by k_is) (by k_is) (by decide) (by k_is) ZdL (by omega) (by omega) (jc vL (jc (cF clr Zgf (jc (Zq vL jI) (jc jB Zn))) Zn)))))))))
theorem ZlZ(n:Nat)(ih:Def PySem.Challenge.rw_seer_k15_whole_run_by_statements.row.prog w (head.heap_39 w.params) head.view_39 (looseW head.view_39 []) (ExcName.means s₀.heap) mg mb 86 (3*n+25) F): Def PySem.Challenge.rw_seer_k15_whole_run_by_statements.row.prog w (head.heap_39 w.params) head.view_39 (looseW head.view_39 []) (ExcName.means s₀.heap) mg mb 93 (3*n+27) (Zco F):=by
  k_fill
  refine' Def.of (names:=["self","statement","here"]) (n:=3) (room:=3*n+26) (g:=ZeD F) (ho:=?ho) (hcd:=?hcd) (nd:=by decide) (hn:=by decide) (hbind:=?hb) (hkinds:=?hk) (hone:=?h1) (hco:=?z1) (hgen:=?z2) (hk:=?z3) (hbody:=?hbody)
  case ho=>k_is
  case z1=>rfl
  case z2=>rfl
  case z3=>rfl
  case hcd=>k_is
  case hb=>intro s xs hx;match xs,hx with | [x0,x1,x2],_=>exact BindsTo.of_eq rfl
  case hk=>decide
  case h1=>decide +kernel
  case hbody=>
   intro dp un gd L outer h₀ hu clr hd1 hu1
   exact(Zr (ZY (ZW (Zq vL jI) jS ok_eq) (Zv (ZJ (Zbj clr vL (by k_is) (by k_is) (by k_is) (by decide) (by k_is) (Zml n ih) (by omega) (by omega) (jc vL (jc vL Zn))))) Z4) (Zr (ZY (ZW (Zq vL jI) jS ok_eq) (Zv (ZJ (Zbj clr vL (by k_is) (by k_is) (by k_is) (by decide) (by k_is) (Zl3 n ih) (by omega) (by omega) (jc vL (jc vL Zn))))) Z4) (Zv (ZJ (Zbj clr vL (by k_is) (by k_is) (by k_is) (by decide) (by k_is) ZdL (by omega) (by omega) (jc vL (jc (cF clr Zlo (jc vL Zn)) Zn)))))))
theorem ZjR: ∀n:Nat,Def PySem.Challenge.rw_seer_k15_whole_run_by_statements.row.prog w (head.heap_39 w.params) head.view_39 (looseW head.view_39 []) (ExcName.means s₀.heap) mg mb 86 (3*n+25) (Zdk n)
 | 0=>Def.zero
 | n+1=>by
  have ih:=ZjR n
  k_fill
  have e0:3*(n+1)+25=(3*n+27)+1:=by omega
  rw[e0]
  refine' Def.of (names:=["self","body","here","place","statement"]) (n:=3) (room:=3*n+27) (g:=ZfZ (Zdk n)) (ho:=?ho) (hcd:=?hcd) (nd:=by decide) (hn:=by decide) (hbind:=?hb) (hkinds:=?hk) (hone:=?h1) (hco:=?z1) (hgen:=?z2) (hk:=?z3) (hbody:=?hbody)
  case ho=>k_is
  case z1=>rfl
  case z2=>rfl
  case z3=>rfl
  case hcd=>k_is
  case hb=>intro s xs hx;match xs,hx with | [x0,x1,x2],_=>exact BindsTo.of_eq rfl
  case hk=>decide
  case h1=>decide +kernel
  case hbody=>
   intro dp un gd L outer h₀ hu clr hd1 hu1
   exact(Zr (ZR sL vL) (Zr (Zcw sL (JI.seq vL) (Zv (ZR sL (Zbj clr vL (by k_is) (by k_is) (by k_is) (by decide) (by k_is) (ZlZ n ih) (by omega) (by omega) (jc vL (jc vL Zn)))))) (Zv (ZJ vL))))
theorem Zma: Def PySem.Challenge.rw_seer_k15_whole_run_by_statements.row.prog w (head.heap_39 w.params) head.view_39 (looseW head.view_39 []) (ExcName.means s₀.heap) mg mb 86 52 Zhx:=ZjR 9
theorem ZnA: DD w s₀ mg mb 121 54 Ze0:=by
 unfold DD;k_fill
 refine Dof (names:=["body","layer"]) (g:=Ziw) ?_
 exact fun _ _ _ _ _ _ _ c _ _=>(Zr (ZR sL (Zp6 c (nm_def c (by k_is) rfl rfl rfl rfl) (by k_is) (by k_is) (by k_is) (by k_is) Zmk (by omega) (by omega))) (Zr (Zau (Zbj c vL (by k_is) (by k_is) (by k_is) (by decide) (by k_is) Zma (by omega) (by omega) (jc vL (jc jI Zn)))) (Zv (ZJ (Za2 (Clr.keep c) vL (by rfl) (by decide) (by k_is) (by k_is) (by k_is) (by k_is))))))
theorem Zmm: DD w s₀ mg mb 143 55 Zf9:=by
 unfold DD;k_fill
 refine Dof (names:=["program"]) (g:=Zh1) ?_
 exact fun _ _ _ _ _ _ _ c _ _=>(Zv (ZJ (by refine cO ?_ ?_ ?_;(exact(JI.seq vL));(exact fun _ _=>(cF (Clr.comp c) Zme (jc (cF (Clr.comp c) ZnA (jc (Zq vO jI) Zn)) Zn)));(exact fun _ _=>JF.nil))))
theorem Zj1: DD w s₀ mg mb 256 1 Zf4:=by
 unfold DD;k_fill
 refine Dof (names:=["program","function","given","many"]) (g:=ZhU) ?_
 exact fun _ _ _ _ _ _ _ c _ _=>(Zr (ZR sL (Zq (Zq vL vL) jI)) (Zv (ZJ (J.tup (jc vL (jc jI (jc (Zt vL (by refine cO ?_ ?_ ?_;(exact(JI.range (nB c) (jc (Zt vL (Zay (nB c) (jc vL Zn) ok_len) ok_sub) Zn)));(exact fun _ _=>jI);(exact fun _ _=>JF.nil)) ok_add) Zn)))))))
theorem Zmf: DD w s₀ mg mb 190 56 ZeM:=by
 unfold DD;k_fill
 refine Dof (names:=["self","program","start","picks"]) (g:=ZhK) ?_
 exact fun _ _ _ _ _ _ _ c _ _=>(Zr (Zb5 (Clr.keep c) vL vL (by rfl) (by decide) (by decide) (by k_is) (by k_is) (by k_is) (by k_is)) (Zr (Zb5 (Clr.keep c) (cF c Zmm (jc vL Zn)) vL (by rfl) (by decide) (by decide) (by k_is) (by k_is) (by k_is) (by k_is)) (Zr (Zb5 (Clr.keep c) vL vL (by rfl) (by decide) (by decide) (by k_is) (by k_is) (by k_is) (by k_is)) (Zr (Zb5 (Clr.keep c) jI vL (by rfl) (by decide) (by decide) (by k_is) (by k_is) (by k_is) (by k_is)) (Zr (Zb5 (Clr.keep c) (J.list Zn) vL (by rfl) (by decide) (by decide) (by k_is) (by k_is) (by k_is) (by k_is)) (Zv (Zb5 (Clr.keep c) (cF c Zj1 (jc vL (jc (Zt (Zay (nB c) (jc vL Zn) ok_len) jI ok_sub) (jc vL Zn)))) vL (by rfl) (by decide) (by decide) (by k_is) (by k_is) (by k_is) (by k_is))))))))
theorem ZjQ: DD w s₀ mg mb 197 1 ZeE:=by
 unfold DD;k_fill
 refine Dof (names:=["self"]) (g:=Zhn) ?_
 exact fun _ _ _ _ _ _ _ c _ _=>(Zv (ZJ (Zq (Zq (Za2 (Clr.keep c) vL (by rfl) (by decide) (by k_is) (by k_is) (by k_is) (by k_is)) (Zq (Za2 (Clr.keep c) vL (by rfl) (by decide) (by k_is) (by k_is) (by k_is) (by k_is)) jI)) (Zq (Za2 (Clr.keep c) vL (by rfl) (by decide) (by k_is) (by k_is) (by k_is) (by k_is)) jI))))
theorem ZlI: DD w s₀ mg mb 26 1 ZgS:=by
 unfold DD;k_fill
 refine Dof (names:=["row","x","thing"]) (g:=Zjm) ?_
 exact fun _ _ _ _ _ _ _ c _ _=>(Zv (ZJ (Zt (Zt (Zgv vL JP.none (JP.some (Zt vL jI ok_sub))) (J.list (jc vL Zn)) ok_add) (Zgv vL (JP.some vL) JP.none) ok_add)))
theorem Zmn: DD w s₀ mg mb 223 2 Zf3:=by
 unfold DD;k_fill
 refine Dof (names:=["self","answer","call","caller","row"]) (g:=ZhT) ?_
 exact fun _ _ _ _ _ _ _ c _ _=>(Zr (ZR sL (Zq (Zq (Za2 (Clr.keep c) vL (by rfl) (by decide) (by k_is) (by k_is) (by k_is) (by k_is)) jI) (J.un jI ok_neg))) (Zr (ZR sL (J.pop (Za2 (Clr.keep c) vL (by rfl) (by decide) (by k_is) (by k_is) (by k_is) (by k_is)))) (Zr (ZR sL (Zq vL jI)) (Zr (ZR sL (Zq vL jI)) (Zv (Zb5 (Clr.keep c) (J.tup (jc (Zq vL jI) (jc (Zq vL jI) (jc (cF c ZlI (jc (Zq vL jI) (jc (Zq (Zq vL jI) jI) (jc vL Zn)))) Zn)))) vL (by rfl) (by decide) (by decide) (by k_is) (by k_is) (by k_is) (by k_is)))))))
theorem Zjg: DD w s₀ mg mb 148 1 Zeg:=by
 unfold DD;k_fill
 refine Dof (names:=["one","boxes"]) (g:=Zi1) ?_
 exact fun _ _ _ _ _ _ _ c _ _=>(Zv (ZJ (Zt (Zq vL jI) (Zay (nB c) (jc (by refine cT ?_ ?_;(exact(JI2.zip (nB c) (Zpw vL jI) vL));(exact fun _ _=>(Zt vO vO ok_mul))) Zn) Zpq) ok_add)))
theorem Zmo: DD w s₀ mg mb 216 2 Zf6:=by
 unfold DD;k_fill
 refine Dof (names:=["self","row","act","given"]) (g:=ZhW) ?_
 exact fun _ _ _ _ _ _ _ c _ _=>(Zr (ZR sL (Zq vL jI)) (Zr (by refine sO sL ?_ ?_ ?_;(exact(JI.seq (Zq vL jI)));(exact fun _ _=>(cF (Clr.comp c) Zjg (jc vO (jc (Zq (Za2 (Clr.keep (Clr.comp c)) vD (by rfl) (by decide) (by k_is) (by k_is) (by k_is) (by k_is)) jI) Zn))));(exact fun _ _=>JF.nil)) (Zr (Zau (J.append (Za2 (Clr.keep c) vC (by rfl) (by decide) (by k_is) (by k_is) (by k_is) (by k_is)) (J.tup (jc (Za2 (Clr.keep c) vC (by rfl) (by decide) (by k_is) (by k_is) (by k_is) (by k_is)) (jc vL Zn))))) (Zv (Zb5 (Clr.keep c) (cF c Zj1 (jc (Za2 (Clr.keep c) vC (by rfl) (by decide) (by k_is) (by k_is) (by k_is) (by k_is)) (jc (Zq vL jI) (jc vL Zn)))) vC (by rfl) (by decide) (by decide) (by k_is) (by k_is) (by k_is) (by k_is))))))
theorem Zl4: DD w s₀ mg mb 237 1 ZfW:=by
 unfold DD;k_fill
 refine Dof (names:=["self","act"]) (g:=Zhr) ?_
 exact fun _ _ _ _ _ _ _ c _ _=>(Zr (ZY (ZW (Zq vL jI) jS Zfu) (Zv (ZJ jI)) Z4) (Zr (Zb5 (Clr.keep c) (Zt (Za2 (Clr.keep c) vL (by rfl) (by decide) (by k_is) (by k_is) (by k_is) (by k_is)) jI ok_add) vL (by rfl) (by decide) (by decide) (by k_is) (by k_is) (by k_is) (by k_is)) (Zr (ZY (ZW (Za2 (Clr.keep c) vL (by rfl) (by decide) (by k_is) (by k_is) (by k_is) (by k_is)) (Zay (nB c) (jc (Za2 (Clr.keep c) vL (by rfl) (by decide) (by k_is) (by k_is) (by k_is) (by k_is)) Zn) ok_len) Zeo) (Zv (ZJ jI)) Z4) (Zv (ZJ (Zq (Za2 (Clr.keep c) vL (by rfl) (by decide) (by k_is) (by k_is) (by k_is) (by k_is)) (Zt (Za2 (Clr.keep c) vL (by rfl) (by decide) (by k_is) (by k_is) (by k_is) (by k_is)) jI ok_sub)))))))
theorem Zoo: DD w s₀ mg mb 176 1 ZiD:=by
 unfold DD;k_fill
 refine Dof (names:=["lo","hi","pick"]) (g:=ZiC) ?_
 exact fun _ _ _ _ _ _ _ c _ _=>(Zr (ZY (Zcs (ZbM (ZW vL jN Zdu) (ZbM (ZW vL jN Zdu) ZdP))) (Zv (ZJ vL)) Z4) (Zr (ZY (ZW vL jN Zdu) (Zv (ZJ (Zt vL (Zay (nB c) (jc vL Zn) ZdY) ok_add))) Z4) (Zr (ZY (ZW vL jN Zdu) (Zv (ZJ (Zt vL (Zay (nB c) (jc vL Zn) ZdY) ok_sub))) Z4) (Zv (ZJ (Zt vL (Zt vL (Zt (Zt vL vL ok_sub) jI ok_add) ZaE) ok_add))))))
theorem Zmz: DD w s₀ mg mb 169 2 Zh6:=by
 unfold DD;k_fill
 refine Dof (names:=["boxes","act","pick","number"]) (g:=Zh5) ?_
 exact fun _ _ _ _ _ _ _ c _ _=>(Zr (ZY (ZW (Zq vL jI) jS ok_eq) (Zv (ZJ (cF c Zoo (jc (Zq vL jI) (jc (Zq vL jI) (jc vL Zn)))))) Z4) (Zr (ZR sL (cF c Zjg (jc (Zq vL jI) (jc vL Zn)))) (Zr (ZY (ZW (Zq vL jI) jS ok_eq) (Zv (ZJ (Zt vL (Zq vL jI) Zb6))) Z4) (Zr (ZY (ZW (Zq vL jI) jS ok_eq) (Zv (ZJ (Zt vL (Zq vL jI) ZaE))) Z4) (Zv (ZJ vL))))))
theorem Zpp: DD w s₀ mg mb 155 2 Zi5:=by
 unfold DD;k_fill
 refine Dof (names:=["claim","boxes","told"]) (g:=Zi4) ?_
 exact fun _ _ _ _ _ _ _ c _ _=>(Zr (ZR sL (cF c Zjg (jc (Zq vL jI) (jc vL Zn)))) (Zr (ZY (ZW (Zq vL jI) jS ok_eq) (Zv (ZJ (Zcy vL jI Zcz))) Z4) (Zr (ZY (ZW (Zq vL jI) jS ok_eq) (Zv (ZJ (Zcy vL jI ok_eq))) Z4) (Zv (ZJ (Zcy (Zt vL (Zq vL jI) ZaE) jI ok_eq))))))
theorem ZqB: DD w s₀ mg mb 162 3 Zfo:=by
 unfold DD;k_fill
 refine Dof (names:=["boxes","act","pick"]) (g:=Zjo) ?_
 exact fun _ _ _ _ _ _ _ c _ _=>(Zr (ZY (Zcs (ZbM (ZW (Zq vL jI) jS ok_eq) (ZbM (ZW (cF c Zpp (jc (Zq vL jI) (jc vL Zn))) (Zq vL jI) Zfu) ZdP))) (Zv (ZJ jN)) Z4) (Zr (ZY (ZW (Zq vL jI) (J.tup (jc jS (jc jS (jc jS Zn)))) ZqO) (Zv (ZJ (Zdn (nB c) (jc vL Zn) ok_list1))) Z4) (Zv (ZJ (cF c ZlI (jc vL (jc (Zq vL jI) (jc (cF c Zmz (jc vL (jc vL (jc vL Zn)))) Zn))))))))
theorem Zl5: DD w s₀ mg mb 230 4 ZfX:=by
 unfold DD;k_fill
 refine Dof (names:=["self","rows","pick","here","row","boxes"]) (g:=Zhs) ?_
 exact fun _ _ _ _ _ _ _ c _ _=>(Zr (ZR sL (Zbj c vL (by k_is) (by k_is) (by k_is) (by decide) (by k_is) Zl4 (by omega) (by omega) (jc (Zq (Zq vL jI) jI) Zn))) (Zr (ZR sL (Za2 (Clr.keep c) vL (by rfl) (by decide) (by k_is) (by k_is) (by k_is) (by k_is))) (Zv (Zcw sL (JI.seq vL) (Zr (ZR sL (cF c ZqB (jc (Zq vL jI) (jc (Zq vL jI) (jc vL Zn))))) (Zv (ZY (ZW vL jN ZnC) (Zv (Zb5 (Clr.keep c) (J.tup (jc (Zq vL jI) (jc (Zq vL jI) (jc vL Zn)))) vL (by rfl) (by decide) (by decide) (by k_is) (by k_is) (by k_is) (by k_is))) Z4)))))))
theorem Zmp: DD w s₀ mg mb 211 5 ZeP:=by
 unfold DD;k_fill
 refine Dof (names:=["self","rows"]) (g:=ZhX) ?_
 exact fun _ _ _ _ _ _ _ c _ _=>(Zr (ZR sL (Zfc c vL (by k_is) (by k_is) (by k_is) (by decide) (by k_is) ZjQ (by omega) (by omega))) (Zv (ZY (ZW (Zay (nB c) (jc vL Zn) ok_len) jI ok_eq) (Zv (Zau (Zfc c vL (by k_is) (by k_is) (by k_is) (by decide) (by k_is) Zmn (by omega) (by omega)))) (Zv (ZY (ZW (Zq (Zq (Zq vL jI) jI) jI) jS ok_eq) (Zv (Zau (Zbj c vL (by k_is) (by k_is) (by k_is) (by decide) (by k_is) Zmo (by omega) (by omega) (jc (Zq vL jI) Zn)))) (Zv (Zau (Zbj c vL (by k_is) (by k_is) (by k_is) (by decide) (by k_is) Zl5 (by omega) (by omega) (jc vL Zn)))))))))
theorem Zmq: DD w s₀ mg mb 204 2 ZeQ:=by
 unfold DD;k_fill
 refine Dof (names:=["self"]) (g:=ZhY) ?_
 exact fun _ _ _ _ _ _ _ c _ _=>(Zv (ZJ (ZqC (Zcy (Zay (nB c) (jc (Zfc c vL (by k_is) (by k_is) (by k_is) (by decide) (by k_is) ZjQ (by omega) (by omega)) Zn) ok_len) jI ok_eq) (Zcy (Zay (nB c) (jc (Za2 (Clr.keep c) vL (by rfl) (by decide) (by k_is) (by k_is) (by k_is) (by k_is)) Zn) ok_len) jI ok_eq))))
theorem run_d: DD w s₀ mg mb 251 58 Zhd:=by
 unfold DD;k_fill
 refine Dof (names:=["program","start","picks","steps","runner","moments"]) (g:=ZjG) ?_
 exact fun _ _ _ _ _ _ _ c _ _=>(Zr (ZY (ZW (Zay (nB c) (jc vL Zn) ok_len) (Zq (Zq vL (J.un jI ok_neg)) jI) Zfu) (Zv (S1.no)) Z4) (Zr (ZR sL (J.new c (nm_def c (by k_is) rfl rfl rfl rfl) (by k_is) (by k_is) (by k_is) (by k_is) Zmf (by omega) (by omega) (jc vL (jc vL (jc vL Zn))))) (Zr (ZR sL (J.list (jc (Za2 (Clr.keep c) vL (by rfl) (by decide) (by k_is) (by k_is) (by k_is) (by k_is)) Zn))) (Zr (Zku 1000000 (Zcs (ZbM (ZW (Zay (nB c) (jc vL Zn) ok_len) vL ZqD) (ZbM (Zei (JT.val (Zfc c vL (by k_is) (by k_is) (by k_is) (by decide) (by k_is) Zmq (by omega) (by omega)))) ZdP))) (Zr (Zau (Zfc c vL (by k_is) (by k_is) (by k_is) (by decide) (by k_is) Zmp (by omega) (by omega))) (Zv (Zau (J.append vL (Za2 (Clr.keep c) vL (by rfl) (by decide) (by k_is) (by k_is) (by k_is) (by k_is))))))) (Zv (ZJ vL))))))
end
end L
end
section
open PySem PySem.W PySem.Calls PyProof.Rows PM
open L
seal PySem.wpAny PM.J PM.Js PM.JT PM.JA PM.JF PM.JI PM.JI2 PM.JP PM.S1 PM.Ss PM.Sto PM.Rd PM.Nm PM.OpN PM.Op2 PM.Def
theorem PySem.Challenge.cw_seer_k15_whole_run_by_statements_holds : PySem.Challenge.rw_seer_k15_whole_run_by_statements.Holds :=
 head (by
  w_strict (k_go0;(rename Well _ _ _ _=>w9);(rename Frag.In _ _=>kx9);(rename Top _ _ _ _ _ _=>t9);(rename Fr _ _ _ _=>f9);(rename News _ _ _ _=>n9);(rename CellsAre _ _ _=>x9);(rename (PyData.layable0 _=true)=>hl9);(obtain⟨H9,e9⟩:=L.Zmw (by omega) hl9);(refine' PM.Zot (names:=[Str.ofString "_law_script",Str.ofString "_law_feed",Str.ofString "_law_steps",Str.ofString "_law_picks",Str.ofString "_law_numbers",Str.ofString "_law_program_here",Str.ofString "_law_start",Str.ofString "_law_boxes",Str.ofString "_law_going",Str.ofString "_law_handed"]) (g:=ZiK) (room:=64) ?hb ?h1 ?h2 ?h3 ?h4 kx9 t9 w9 ?len f9 n9 x9 e9 ?post);(case h1=>decide);(case h2=>decide);(case h3=>rfl);(case h4=>rfl);(case len=>(rw[PM.Zac];omega));(case hb=>(intro dp un gd L a ccd outer h₀ hu clr hd1 hu1;exact(Zr (ZR (sto_cel (by decide) (by rfl) rfl rfl rfl) (J.list (Zaa (Zal (rd_loc (by rfl) rfl rfl rfl)) (Zaa (J.int _ _ _) (Zaa (J.int _ _ _) Zn))))) (Zr (ZR (sto_loc (by decide) (by rfl) rfl rfl) (ZbT clr (nm_def clr (by k_is) rfl rfl rfl rfl) (by k_is) law_draw_v12_d (by omega) (by omega) (Zaa (Zal (rd_cel (by rfl) rfl rfl rfl)) (Zaa (J.int _ _ _) Zn)))) (Zr (ZY (ZW (ZbT clr (nm_def clr (by k_is) rfl rfl rfl rfl) (by k_is) law_draw_v12_d (by omega) (by omega) (Zaa (Zal (rd_cel (by rfl) rfl rfl rfl)) (Zaa (J.int _ _ _) Zn))) (J.int _ _ _) ok_eq) (Zv (ZR (sto_loc (by decide) (by rfl) rfl rfl) (Zt (J.int _ _ _) (Zal (rd_loc (by rfl) rfl rfl rfl)) ok_sub))) Z4) (Zr (by refine Zid (t:=100) (hsw:=by rfl) (hclos:=by with_unfolding_all rfl) (hy:=(sto_loc (by decide) (by rfl) rfl rfl)) (hg:=?pg100) (hel:=?pe100) (hif:=?pi100) (hcell:=by decide) (hkind:=rfl) (hnames:=by decide) (hx:=rfl);(case pg100=>exact(JI.range (nm_built clr (by k_is) (by boot_by_name) (by decide) rfl rfl rfl rfl rfl) (Zaa (ZbT clr (nm_def clr (by k_is) rfl rfl rfl rfl) (by k_is) law_draw_v12_d (by omega) (by omega) (Zaa (Zal (rd_cel (by rfl) rfl rfl rfl)) (Zaa (J.int _ _ _) Zn))) Zn)));(case pe100=>intro C ρ;exact(ZbT (Clr.comp clr) (nm_def (Clr.comp clr) (by k_is) rfl rfl rfl rfl) (by k_is) law_number_v15_d (by omega) (by omega) (Zaa (Zal (rdc_cel (by rfl) rfl (by decide) rfl rfl rfl rfl)) Zn)));(case pi100=>intro C ρ;exact JF.nil)) (Zr (by refine Zid (t:=102) (hsw:=by rfl) (hclos:=by with_unfolding_all rfl) (hy:=(sto_loc (by decide) (by rfl) rfl rfl)) (hg:=?pg102) (hel:=?pe102) (hif:=?pi102) (hcell:=by decide) (hkind:=rfl) (hnames:=by decide) (hx:=rfl);(case pg102=>exact(JI.range (nm_built clr (by k_is) (by boot_by_name) (by decide) rfl rfl rfl rfl rfl) (Zaa (J.int _ _ _) Zn)));(case pe102=>intro C ρ;exact(ZbT (Clr.comp clr) (nm_def (Clr.comp clr) (by k_is) rfl rfl rfl rfl) (by k_is) law_number_v15_d (by omega) (by omega) (Zaa (Zal (rdc_cel (by rfl) rfl (by decide) rfl rfl rfl rfl)) Zn)));(case pi102=>intro C ρ;exact JF.nil)) (Zr (ZR (sto_loc (by decide) (by rfl) rfl rfl) (ZbT clr (nm_def clr (by k_is) rfl rfl rfl rfl) (by k_is) law_program_v15_d (by omega) (by omega) (Zaa (Zal (rd_cel (by rfl) rfl rfl rfl)) Zn))) (Zr (ZR (sto_loc (by decide) (by rfl) rfl rfl) (Zgv (Zal (rd_loc (by rfl) rfl rfl rfl)) JP.none (JP.some (Zq (Zq (Zal (rd_loc (by rfl) rfl rfl rfl)) (J.un (J.int _ _ _) ok_neg)) (J.int _ _ _))))) (Zr (ZR (sto_loc (by decide) (by rfl) rfl rfl) (Zt (Zal (rd_loc (by rfl) rfl rfl rfl)) (Zt (J.list (Zaa (J.int _ _ _) Zn)) (Zt (Zq (Zq (Zal (rd_loc (by rfl) rfl rfl rfl)) (J.un (J.int _ _ _) ok_neg)) (J.int _ _ _)) (Zq (Zq (Zal (rd_loc (by rfl) rfl rfl rfl)) (J.un (J.int _ _ _) ok_neg)) (J.int _ _ _)) ok_sub) ok_mul) ok_add)) (Zr (ZR (sto_loc (by decide) (by rfl) rfl rfl) (J.list (Zaa (Zal (rd_loc (by rfl) rfl rfl rfl)) (Zaa (Zal (rd_loc (by rfl) rfl rfl rfl)) (Zaa (J.int _ _ _) (Zaa (J.list Zn) (Zaa (Zt (Zal (rd_loc (by rfl) rfl rfl rfl)) (J.int _ _ _) ok_add) Zn))))))) (Zr (Zau (ZbT clr (nm_def clr (by k_is) rfl rfl rfl rfl) (by k_is) law_mark_d (by omega) (by omega) (Zaa (Zal (rd_loc (by rfl) rfl rfl rfl)) (Zaa (Zt (Zay (nm_built clr (by k_is) (by boot_by_name) (by decide) rfl rfl rfl rfl rfl) (Zaa (Zal (rd_loc (by rfl) rfl rfl rfl)) Zn) ok_len) (J.int _ _ _) ok_sub) (Zaa (J.int _ _ _) (Zaa (Zal (rd_loc (by rfl) rfl rfl rfl)) Zn)))))) (Zr (Zau (ZbT clr (nm_def clr (by k_is) rfl rfl rfl rfl) (by k_is) law_go_v15_d (by omega) (by omega) (Zaa (Zal (rd_loc (by rfl) rfl rfl rfl)) (Zaa (Zt (Zay (nm_built clr (by k_is) (by boot_by_name) (by decide) rfl rfl rfl rfl rfl) (Zaa (Zal (rd_loc (by rfl) rfl rfl rfl)) Zn) ok_len) (J.int _ _ _) ok_sub) (Zaa (Zq (Zq (Zal (rd_loc (by rfl) rfl rfl rfl)) (J.un (J.int _ _ _) ok_neg)) (J.int _ _ _)) (Zaa (J.int _ _ _) (Zaa (Zal (rd_loc (by rfl) rfl rfl rfl)) Zn))))))) (Zr (ZR (sto_loc (by decide) (by rfl) rfl rfl) (J.list (Zaa (ZbT clr (nm_def clr (by k_is) rfl rfl rfl rfl) (by k_is) law_copy_v12_d (by omega) (by omega) (Zaa (Zal (rd_loc (by rfl) rfl rfl rfl)) Zn)) (Zaa (Zdn (nm_built clr (by k_is) (by boot_by_name) (by decide) rfl rfl rfl rfl rfl) (Zaa (Zal (rd_loc (by rfl) rfl rfl rfl)) Zn) ok_list1) (Zaa (Zdn (nm_built clr (by k_is) (by boot_by_name) (by decide) rfl rfl rfl rfl rfl) (Zaa (Zal (rd_loc (by rfl) rfl rfl rfl)) Zn) ok_list1) Zn))))) (Zr (ZY (Zei (JT.val (ZbT clr (nm_def clr (by k_is) rfl rfl rfl rfl) (by k_is) law_same_v15_d (by omega) (by omega) (Zaa (ZbT clr (nm_def clr (by k_is) rfl rfl rfl rfl) (by k_is) run_d (by omega) (by omega) (Zaa (Zq (Zal (rd_loc (by rfl) rfl rfl rfl)) (J.int _ _ _)) (Zaa (Zq (Zal (rd_loc (by rfl) rfl rfl rfl)) (J.int _ _ _)) (Zaa (Zq (Zal (rd_loc (by rfl) rfl rfl rfl)) (J.int _ _ _)) (Zaa (Zal (rd_loc (by rfl) rfl rfl rfl)) Zn))))) (Zaa (Zq (Zal (rd_loc (by rfl) rfl rfl rfl)) (J.int _ _ _)) Zn))))) (Zv (ZJ (J.bool _ _ _))) Z4) (Zv (ZJ (Zcy (Zal (rd_loc (by rfl) rfl rfl rfl)) (J.list (Zaa (Zal (rd_loc (by rfl) rfl rfl rfl)) (Zaa (Zal (rd_loc (by rfl) rfl rfl rfl)) (Zaa (Zal (rd_loc (by rfl) rfl rfl rfl)) Zn)))) ok_eq))))))))))))))))));(case post=>(intro h' tk' m' F';k_steps)))
  )
end
