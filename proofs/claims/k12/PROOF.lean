import PyProof.Rows.All
import Wide.All
import OpenK.AllK
import Wide.FinOn
import PySem.Challenge.RW_seer_k12_well_made_or_refused
import PyProof.Rows.News
import PyProof.Rows.Nodes
import PyProof.Rows.Chain
import PyProof.Rows.TupSub
import ObjForm.Fk.ObjNew
import ObjForm.Fk.InstLoad
import PyProof.PureInt
import PyProof.Rules2
import PyProof.Rules3
import PyProof.Rows.Globals
import PyProof.Rows.RuleB_mod
import PyProof.Rows.RuleB_floordiv
import PyProof.Rows.RuleB_small
import PyProof.NoPylong
import PyProof.Rows.RuleB_pow
import PyProof.Rows.EqDataRows
import PyProof.Rows.StrTemp
import PyProof.Rows.TupAdd
import PyProof.Rows.ListMul
import PyProof.ListIndexNeg
import PyProof.SliceList
import PyProof.Methods
import PyProof.Rows.Tup
import PyProof.IsiPairs
import PyProof.IsiHeapPairs
import PyProof.IsiNone
import PyProof.Rows.RuleN_abs
import PyProof.Rows.SumAny
import PyProof.WalkInts
import PyProof.PvWalk
import PyProof.RulesRaise
import PyProof.Raises
import PyProof.Dict
import PyProof.Seq
import PyProof.Rows.ListAppend
import PyProof.ForAppend
import PyProof.ForAny
import PyProof.Walks
import PyProof.WalksT
import KE.KItem
import PyProof.WalksMore
import PyProof.RangeFor
import PyProof.Rows.Range3
import OpenK.KCell
import KE.KTree
import KE.RegLcTurns
import KE.KCompFold
import KE.KLcPair
import KE.LcTurns
import PyProof.CompUse
import PyProof.Rows.ZipGen
import OpenK.KLine
import KE.KState
import Wide.Well
import PyProof.ListCopy
import PyProof.Rows.TupleOfSeqD
import KE.LcSums
import KE.KCellOne
import PyProof.FitsBits
import KE.KEqDeep
import PyProof.Rows.TupMore
import PyProof.Rows.NestLooks
import PyProof.EnumMake
import PyProof.WalksEnum
import OpenK.KWalk
import OpenK.KMake
import PyProof.AssignAttr
import PyProof.Rows.AttrNodeAny
import PyProof.Draws
import PyProof.Rows.CallKwBuiltin
import PyProof.Rows.SortWalk
import PyProof.DictStraight
import PyProof.EqAt
import PyProof.Rows.SeqMore2
import KE.KSortTup
import PyProof.WalksPairs
import KE.KAnyBase
import PyProof.Rows.SeqSlice
import PyProof.Rows.SetFrom
import PyProof.FactsAll.set_1
import PyProof.FactsAll.set_2
import PyProof.Conv_int_bool
import PyProof.FactsAll.list_4
import KE.KTryDeep
import PyProof.IsRules
import KE.KIsAll
import KE.RegKIsAll
import PyProof.Rows.CatchPack
namespace My
end My
set_option linter.all false
set_option maxRecDepth 100000
set_option maxHeartbeats 8000000
noncomputable abbrev Zy0:=@List.getElem?_append_left
noncomputable abbrev Zy1:=@List.getElem?_eq_getElem
noncomputable abbrev Zy2:=@List.getElem?_set_ne
noncomputable abbrev Zy3:=@List.mem_cons_of_mem
noncomputable abbrev Zy4:=@List.mem_of_getElem?
noncomputable abbrev Zy5:=@List.getElem?_append_right
noncomputable abbrev Zy6:=@List.getElem?_set_self
noncomputable abbrev Zy7:=@List.mem_append_left
noncomputable abbrev Zy8:=@List.getElem?_eq_none
noncomputable abbrev Zy9:=@List.mem_filter
noncomputable abbrev Zy10:=@List.append_assoc
theorem Zs0{α β:Type _}(a:α)(f:α→Option β):(some a).bind f=f a:=rfl
theorem Zs1{α β:Type _}(a:α)(f:α→β):(some a).map f=some (f a):=rfl
noncomputable abbrev Zz0:=@Option.bind_eq_some_iff
noncomputable abbrev Zz1:=@Option.map_eq_some_iff
noncomputable abbrev Zz2:=@List.mem_cons_of_mem
noncomputable abbrev Zz3:=@List.mem_append_right
noncomputable abbrev Zz4:=@List.mem_append_left
noncomputable abbrev Zz5:=@List.mem_cons_self
noncomputable abbrev Zz6:=@List.getElem?_eq_some_iff
noncomputable abbrev Zz7:=@List.mem_cons
noncomputable abbrev Zz8:=@List.mem_append
noncomputable abbrev Zz9:=@List.mem_singleton
noncomputable abbrev Zz10:=@Nat.le_refl
noncomputable abbrev Zz11:=@List.mem_map
set_option Elab.async false
set_option compiler.extract_closed false
theorem Q02{P A B:Prop}(f:A→B→P):(A∧B)→P:=fun h=>f h.1 h.2
theorem Q11{α:Sort _}{A:α→Prop}{P:Prop}(f:∀x,A x→P):(∃x,A x)→P:=fun h=>h.elim f
theorem Q03{P A B C:Prop}(f:A→B→C→P):(A∧B∧C)→P:=fun h=>f h.1 h.2.1 h.2.2
theorem Q12{α:Sort _}{A B:α→Prop}{P:Prop}(f:∀x,A x→B x→P):(∃x,A x∧B x)→P:=fun h=>h.elim fun x h=>f x h.1 h.2
theorem Q21{α β:Sort _}{A:α→β→Prop}{P:Prop}(f:∀x y,A x y→P):(∃x y,A x y)→P:=fun h=>h.elim fun x h=>h.elim fun y h=>f x y h
theorem Q04{P A B C D:Prop}(f:A→B→C→D→P):(A∧B∧C∧D)→P:=fun h=>f h.1 h.2.1 h.2.2.1 h.2.2.2
theorem Q13{α:Sort _}{A B C:α→Prop}{P:Prop}(f:∀x,A x→B x→C x→P):(∃x,A x∧B x∧C x)→P:=fun h=>h.elim fun x h=>f x h.1 h.2.1 h.2.2
theorem Q22{α β:Sort _}{A B:α→β→Prop}{P:Prop}(f:∀x y,A x y→B x y→P):(∃x y,A x y∧B x y)→P:=fun h=>h.elim fun x h=>h.elim fun y h=>f x y h.1 h.2
theorem Q31{α β γ:Sort _}{A:α→β→γ→Prop}{P:Prop}(f:∀x y z,A x y z→P):(∃x y z,A x y z)→P:=fun h=>h.elim fun x h=>h.elim fun y h=>h.elim fun z h=>f x y z h
theorem Q05{P A B C D E:Prop}(f:A→B→C→D→E→P):(A∧B∧C∧D∧E)→P:=fun h=>f h.1 h.2.1 h.2.2.1 h.2.2.2.1 h.2.2.2.2
theorem Q14{α:Sort _}{A B C D:α→Prop}{P:Prop}(f:∀x,A x→B x→C x→D x→P):(∃x,A x∧B x∧C x∧D x)→P:=fun h=>h.elim fun x h=>f x h.1 h.2.1 h.2.2.1 h.2.2.2
theorem Q23{α β:Sort _}{A B C:α→β→Prop}{P:Prop}(f:∀x y,A x y→B x y→C x y→P):(∃x y,A x y∧B x y∧C x y)→P:=fun h=>h.elim fun x h=>h.elim fun y h=>f x y h.1 h.2.1 h.2.2
theorem Q32{α β γ:Sort _}{A B:α→β→γ→Prop}{P:Prop}(f:∀x y z,A x y z→B x y z→P):(∃x y z,A x y z∧B x y z)→P:=fun h=>h.elim fun x h=>h.elim fun y h=>h.elim fun z h=>f x y z h.1 h.2
theorem Q41{α β γ δ:Sort _}{A:α→β→γ→δ→Prop}{P:Prop}(f:∀x y z u,A x y z u→P):(∃x y z u,A x y z u)→P:=fun h=>h.elim fun x h=>h.elim fun y h=>h.elim fun z h=>h.elim fun u h=>f x y z u h
theorem Q06{P A B C D E F:Prop}(f:A→B→C→D→E→F→P):(A∧B∧C∧D∧E∧F)→P:=fun h=>f h.1 h.2.1 h.2.2.1 h.2.2.2.1 h.2.2.2.2.1 h.2.2.2.2.2
theorem Q15{α:Sort _}{A B C D E:α→Prop}{P:Prop}(f:∀x,A x→B x→C x→D x→E x→P):(∃x,A x∧B x∧C x∧D x∧E x)→P:=fun h=>h.elim fun x h=>f x h.1 h.2.1 h.2.2.1 h.2.2.2.1 h.2.2.2.2
theorem Q24{α β:Sort _}{A B C D:α→β→Prop}{P:Prop}(f:∀x y,A x y→B x y→C x y→D x y→P):(∃x y,A x y∧B x y∧C x y∧D x y)→P:=fun h=>h.elim fun x h=>h.elim fun y h=>f x y h.1 h.2.1 h.2.2.1 h.2.2.2
theorem Q33{α β γ:Sort _}{A B C:α→β→γ→Prop}{P:Prop}(f:∀x y z,A x y z→B x y z→C x y z→P):(∃x y z,A x y z∧B x y z∧C x y z)→P:=fun h=>h.elim fun x h=>h.elim fun y h=>h.elim fun z h=>f x y z h.1 h.2.1 h.2.2
theorem Q42{α β γ δ:Sort _}{A B:α→β→γ→δ→Prop}{P:Prop}(f:∀x y z u,A x y z u→B x y z u→P):(∃x y z u,A x y z u∧B x y z u)→P:=fun h=>h.elim fun x h=>h.elim fun y h=>h.elim fun z h=>h.elim fun u h=>f x y z u h.1 h.2
theorem Q51{α β γ δ ε:Sort _}{A:α→β→γ→δ→ε→Prop}{P:Prop}(f:∀x y z u v,A x y z u v→P):(∃x y z u v,A x y z u v)→P:=fun h=>h.elim fun x h=>h.elim fun y h=>h.elim fun z h=>h.elim fun u h=>h.elim fun v h=>f x y z u v h
theorem Q07{P A B C D E F G:Prop}(f:A→B→C→D→E→F→G→P):(A∧B∧C∧D∧E∧F∧G)→P:=fun h=>f h.1 h.2.1 h.2.2.1 h.2.2.2.1 h.2.2.2.2.1 h.2.2.2.2.2.1 h.2.2.2.2.2.2
theorem Q16{α:Sort _}{A B C D E F:α→Prop}{P:Prop}(f:∀x,A x→B x→C x→D x→E x→F x→P):(∃x,A x∧B x∧C x∧D x∧E x∧F x)→P:=fun h=>h.elim fun x h=>f x h.1 h.2.1 h.2.2.1 h.2.2.2.1 h.2.2.2.2.1 h.2.2.2.2.2
theorem Q25{α β:Sort _}{A B C D E:α→β→Prop}{P:Prop}(f:∀x y,A x y→B x y→C x y→D x y→E x y→P):(∃x y,A x y∧B x y∧C x y∧D x y∧E x y)→P:=fun h=>h.elim fun x h=>h.elim fun y h=>f x y h.1 h.2.1 h.2.2.1 h.2.2.2.1 h.2.2.2.2
theorem Q34{α β γ:Sort _}{A B C D:α→β→γ→Prop}{P:Prop}(f:∀x y z,A x y z→B x y z→C x y z→D x y z→P):(∃x y z,A x y z∧B x y z∧C x y z∧D x y z)→P:=fun h=>h.elim fun x h=>h.elim fun y h=>h.elim fun z h=>f x y z h.1 h.2.1 h.2.2.1 h.2.2.2
theorem Q43{α β γ δ:Sort _}{A B C:α→β→γ→δ→Prop}{P:Prop}(f:∀x y z u,A x y z u→B x y z u→C x y z u→P):(∃x y z u,A x y z u∧B x y z u∧C x y z u)→P:=fun h=>h.elim fun x h=>h.elim fun y h=>h.elim fun z h=>h.elim fun u h=>f x y z u h.1 h.2.1 h.2.2
theorem Q52{α β γ δ ε:Sort _}{A B:α→β→γ→δ→ε→Prop}{P:Prop}(f:∀x y z u v,A x y z u v→B x y z u v→P):(∃x y z u v,A x y z u v∧B x y z u v)→P:=fun h=>h.elim fun x h=>h.elim fun y h=>h.elim fun z h=>h.elim fun u h=>h.elim fun v h=>f x y z u v h.1 h.2
theorem Q61{α β γ δ ε ζ:Sort _}{A:α→β→γ→δ→ε→ζ→Prop}{P:Prop}(f:∀x y z u v w,A x y z u v w→P):(∃x y z u v w,A x y z u v w)→P:=fun h=>h.elim fun x h=>h.elim fun y h=>h.elim fun z h=>h.elim fun u h=>h.elim fun v h=>h.elim fun w h=>f x y z u v w h
theorem Q08{P A B C D E F G H:Prop}(f:A→B→C→D→E→F→G→H→P):(A∧B∧C∧D∧E∧F∧G∧H)→P:=fun h=>f h.1 h.2.1 h.2.2.1 h.2.2.2.1 h.2.2.2.2.1 h.2.2.2.2.2.1 h.2.2.2.2.2.2.1 h.2.2.2.2.2.2.2
theorem Q17{α:Sort _}{A B C D E F G:α→Prop}{P:Prop}(f:∀x,A x→B x→C x→D x→E x→F x→G x→P):(∃x,A x∧B x∧C x∧D x∧E x∧F x∧G x)→P:=fun h=>h.elim fun x h=>f x h.1 h.2.1 h.2.2.1 h.2.2.2.1 h.2.2.2.2.1 h.2.2.2.2.2.1 h.2.2.2.2.2.2
theorem Q26{α β:Sort _}{A B C D E F:α→β→Prop}{P:Prop}(f:∀x y,A x y→B x y→C x y→D x y→E x y→F x y→P):(∃x y,A x y∧B x y∧C x y∧D x y∧E x y∧F x y)→P:=fun h=>h.elim fun x h=>h.elim fun y h=>f x y h.1 h.2.1 h.2.2.1 h.2.2.2.1 h.2.2.2.2.1 h.2.2.2.2.2
theorem Q35{α β γ:Sort _}{A B C D E:α→β→γ→Prop}{P:Prop}(f:∀x y z,A x y z→B x y z→C x y z→D x y z→E x y z→P):(∃x y z,A x y z∧B x y z∧C x y z∧D x y z∧E x y z)→P:=fun h=>h.elim fun x h=>h.elim fun y h=>h.elim fun z h=>f x y z h.1 h.2.1 h.2.2.1 h.2.2.2.1 h.2.2.2.2
theorem Q44{α β γ δ:Sort _}{A B C D:α→β→γ→δ→Prop}{P:Prop}(f:∀x y z u,A x y z u→B x y z u→C x y z u→D x y z u→P):(∃x y z u,A x y z u∧B x y z u∧C x y z u∧D x y z u)→P:=fun h=>h.elim fun x h=>h.elim fun y h=>h.elim fun z h=>h.elim fun u h=>f x y z u h.1 h.2.1 h.2.2.1 h.2.2.2
theorem Q53{α β γ δ ε:Sort _}{A B C:α→β→γ→δ→ε→Prop}{P:Prop}(f:∀x y z u v,A x y z u v→B x y z u v→C x y z u v→P):(∃x y z u v,A x y z u v∧B x y z u v∧C x y z u v)→P:=fun h=>h.elim fun x h=>h.elim fun y h=>h.elim fun z h=>h.elim fun u h=>h.elim fun v h=>f x y z u v h.1 h.2.1 h.2.2
theorem Q62{α β γ δ ε ζ:Sort _}{A B:α→β→γ→δ→ε→ζ→Prop}{P:Prop}(f:∀x y z u v w,A x y z u v w→B x y z u v w→P):(∃x y z u v w,A x y z u v w∧B x y z u v w)→P:=fun h=>h.elim fun x h=>h.elim fun y h=>h.elim fun z h=>h.elim fun u h=>h.elim fun v h=>h.elim fun w h=>f x y z u v w h.1 h.2
theorem Q71{α β γ δ ε ζ η:Sort _}{A:α→β→γ→δ→ε→ζ→η→Prop}{P:Prop}(f:∀x y z u v w s,A x y z u v w s→P):(∃x y z u v w s,A x y z u v w s)→P:=fun h=>h.elim fun x h=>h.elim fun y h=>h.elim fun z h=>h.elim fun u h=>h.elim fun v h=>h.elim fun w h=>h.elim fun s h=>f x y z u v w s h
local macro_rules|`(tactic|obtain⟨$ps,*⟩:=$t)=>do
 let ps:=ps.getElems
 let n:=ps.size
 if n<2 then Lean.Macro.throwUnsupported
 let mut bs:Array Lean.Term:= #[]
 let mut qs:Array (Array (Lean.TSyntax `tactic)):= #[]
 for p in ps do
  let r:=p.raw[0]
  let c:=r[0][0]
  if r[0].getNumArgs>1 then Lean.Macro.throwUnsupported
  if c.isOfKind ``Lean.Parser.Tactic.rcasesPat.one&&c[0].getId != `rfl then
   bs:=bs.push ⟨c[0]⟩
   qs:=qs.push #[]
  else if c.isOfKind ``Lean.Parser.Tactic.rcasesPat.ignore then
   bs:=bs.push (← `(_))
   qs:=qs.push #[]
  else
   let q:=Lean.mkIdent (← Lean.Macro.addMacroScope (.mkSimple s!"q{bs.size}"))
   bs:=bs.push q
   qs:=qs.push #[← `(tactic|obtain $(⟨r⟩):rcasesPatMed:= $q)]
 let mut r:Array (Lean.TSyntax `tactic):= #[]
 for d in [0:n] do
  let j:=n-d
  let mut b:Array Lean.Term:= #[]
  let mut s:Array (Lean.TSyntax `tactic):= #[]
  for i in [0:j] do
   if s.isEmpty then b:=b.push bs[i]! else s:=s.push (← `(tactic|intro $(bs[i]!):term))
   s:=s++qs[i]!
  if j=n&&n<9 then
   for k in [0:n] do
    let f:=Lean.mkIdent (.mkSimple s!"Q{k}{n-k}")
    r:=r.push (← `(tactic|(refine $f fun $b* =>?_;($[$s:tactic];*))))
  if j<n&&j<8 then
   let z:=ps.extract j n
   for k in [0:j+1] do
    let f:=Lean.mkIdent (.mkSimple s!"Q{k}{j+1-k}")
    r:=r.push (← `(tactic|(refine $f fun $b* =>?_;($[$s:tactic];*);intro q;obtain⟨$z,*⟩:=q)))
 let u:Lean.TSyntax `tactic← (if t.raw.isIdent then let i:Lean.Ident:=⟨t⟩;`(tactic|revert $i:ident) else `(tactic|(have q:= $t;revert q)))
 `(tactic|($u:tactic;first $[|$r:tactic]*))
section
/-! The plain machine: values as trees, lists as places; and how it stands for the model's heap. -/
namespace PM
open PySem PyProof.Rows
inductive V where
 | none
 | bool (b:Bool)
 | int (i:Int)
 | str (s:Str)
 | tup (vs:List V)
 | ref (a:Nat)
 | obj (c:Nat×List Str) (a:Nat)
noncomputable abbrev Hp:=List (List V)
noncomputable abbrev Lc:=Nat→Option V
noncomputable def ZX: Nat:=100000
theorem Zav: ZX=100000:=rfl
theorem ZbS{n:Nat}(h:n≤ZX): n≤sizeLine:=by
 have:sizeLine=2 ^ 24:=rfl
 rw[this];rw[Zav]at h;omega
noncomputable abbrev ZbC(xs:List Value)(k:Nat): Obj:={ cls:=.type "tuple",data:=.seq xs.toArray k }
noncomputable abbrev Za7(xs:List Value)(k:Nat): Obj:={ cls:=.type "list",data:=.seq xs.toArray k }
structure Wd where
 pi:List Addr
 tups:List (Addr×Obj)
 sc:Addr×Obj
 ins:List (Nat×List Str)
structure Wd.Le(W W':Wd): Prop where
 pi:W.pi <+: W'.pi
 tups:∀q∈W.tups,q∈W'.tups
 sc:W'.sc=W.sc
 ins:∀q∈W.ins,q∈W'.ins
 inew:∀q∈W'.ins,q∈W.ins∨W.pi.length≤q.1
theorem Wd.Le.refl(W:Wd): W.Le W:=⟨List.prefix_refl _,fun _ h=>h,rfl,fun _ h=>h,fun _ h=>.inl h⟩
theorem Wd.Le.trans{W W' W'':Wd}(a:W.Le W')(b:W'.Le W''): W.Le W'':=⟨a.pi.trans b.pi,fun q h=>b.tups q (a.tups q h),b.sc.trans a.sc,fun q h=>b.ins q (a.ins q h),fun q h=>by
 rcases b.inew q h with z | z
 ·exact a.inew q z
 ·exact .inr (Nat.le_trans a.pi.length_le z)⟩
noncomputable def Wd.At(W:Wd)(i:Nat)(a:Addr): Prop:=W.pi[i]?=some a∧∀q∈W.ins,q.1≠i
noncomputable def ZgS(o:Obj)(C dx:Addr): Prop:=o = { cls:=.ref C,dict:=some dx,data:=.plain }
inductive FE: List Str→List Value→List DictEntry→Prop where
 | nil {fs:List Str}:FE fs [] []
 | cons {f:Str} {fs:List Str} {x:Value} {xs:List Value} {hs:Int} {t:Tok} {es:List DictEntry}:FE fs xs es→FE (f::fs) (x::xs) (⟨hs,.str f t,x⟩::es)
noncomputable def ZmK(o:Obj)(fs:List Str)(xs:List Value): Prop:=∃es n,o = { cls:=.type "dict",data:=.dict es.toArray n }∧FE fs xs es
theorem Wd.Le.piAt{W W':Wd}(h:W.Le W'){i:Nat}{a:Addr}(e:W.pi[i]?=some a): W'.pi[i]?=some a:=by
 obtain⟨t,ht⟩:=h.pi
 have hi:i<W.pi.length:=(Zz6.mp e).1
 rw[←ht,Zy0 hi]
 exact e
theorem Wd.Le.at{W W':Wd}(h:W.Le W'){i:Nat}{a:Addr}(e:W.At i a): W'.At i a:=⟨h.piAt e.1,fun q hq z=>by
 rcases h.inew q hq with y | y
 ·exact e.2 q y z
 ·have:=(Zz6.mp e.1).1
  omega⟩
mutual
inductive VR(W:Wd): V→Value→Prop where
 | none:VR W .none .none
 | bool (b:Bool):VR W (.bool b) (.bool b)
 | int (i:Int) (t:Tok):VR W (.int i) (.int i t)
 | str (s:Str) (t:Tok):VR W (.str s) (.str s t)
 | tup {vs:List V} {a:Addr} {xs:List Value} {k:Nat}:(a,ZbC xs k)∈W.tups→vs.length≤ZX→VRs W vs xs→VR W (.tup vs) (.ref a)
 | ref {i:Nat} {a:Addr}:W.At i a→VR W (.ref i) (.ref a)
 | obj {c:Nat×List Str} {i:Nat} {a x:Addr} {ox:Obj}:W.pi[i]?=some a→(i,c.2)∈W.ins→(x,ox)∈W.tups→ZgS ox c.1 a→VR W (.obj c i) (.ref x)
inductive VRs(W:Wd): List V→List Value→Prop where
 | nil:VRs W [] []
 | cons {v:V} {x:Value} {vs:List V} {xs:List Value}:VR W v x→VRs W vs xs→VRs W (v::vs) (x::xs)
end
mutual
theorem VR.mono{W W':Wd}(h:W.Le W'){v:V}{x:Value}(r:VR W v x): VR W' v x:=by
 cases r with
 | none=>exact .none
 | bool b=>exact .bool b
 | int i t=>exact .int i t
 | str s t=>exact .str s t
 | tup hm hl hs=>exact .tup (h.tups _ hm) hl (VRs.mono h hs)
 | ref e=>exact .ref (h.at e)
 | obj h1 h2 h3 h4=>exact .obj (h.piAt h1) (h.ins _ h2) (h.tups _ h3) h4
theorem VRs.mono{W W':Wd}(h:W.Le W'){vs:List V}{xs:List Value}(r:VRs W vs xs): VRs W' vs xs:=by
 cases r with
 | nil=>exact .nil
 | cons a b=>exact .cons (VR.mono h a) (VRs.mono h b)
end
theorem VRs.length{W:Wd}: ∀{vs:List V} {xs:List Value},VRs W vs xs→xs.length=vs.length
 | _,_,.nil=>rfl
 | _,_,.cons _ r=>by rw[List.length_cons,List.length_cons,r.length]
theorem VRs.at{W:Wd}: ∀{vs:List V} {xs:List Value} {i:Nat} {v:V},VRs W vs xs→vs[i]?=some v→∃x,xs[i]?=some x∧VR W v x
 | _,_,_,_,.nil,e=>by simp at e
 | _,_,0,_,.cons a _,e=>by
  simp at e
  exact⟨_,by simp,e▸a⟩
 | _,_,i+1,_,.cons _ r,e=>by
  simp at e
  obtain⟨x,hx,hr⟩:=r.at e
  exact⟨x,by simpa using hx,hr⟩
theorem VRs.append{W:Wd}: ∀{vs us:List V} {xs ys:List Value},VRs W vs xs→VRs W us ys→VRs W (vs++us) (xs++ys)
 | _,_,_,_,.nil,h=>h
 | _,_,_,_,.cons a r,h=>.cons a (r.append h)
theorem VRs.snoc{W:Wd}{vs:List V}{xs:List Value}{v:V}{x:Value}(h:VRs W vs xs)(r:VR W v x): VRs W (vs++[v]) (xs++[x]):=h.append (.cons r .nil)
theorem VRs.set{W:Wd}: ∀{vs:List V} {xs:List Value} {v:V} {x:Value} (i:Nat),VRs W vs xs→VR W v x→VRs W (vs.set i v) (xs.set i x)
 | _,_,_,_,_,.nil,_=>.nil
 | _,_,_,_,0,.cons _ r,h=>.cons h r
 | _,_,_,_,i+1,.cons a r,h=>.cons a (r.set i h)
theorem VRs.drop{W:Wd}: ∀{vs:List V} {xs:List Value} (i:Nat),VRs W vs xs→VRs W (vs.drop i) (xs.drop i)
 | _,_,0,h=>h
 | _,_,_+1,.nil=>.nil
 | _,_,i+1,.cons _ r=>r.drop i
structure HR(W:Wd)(H:Hp)(led:List (Addr×Obj)): Prop where
 len:W.pi.length=H.length
 nd:W.pi.Nodup
 lists:∀(i:Nat) (vs:List V),H[i]?=some vs→(∀q∈W.ins,q.1≠i)→vs.length≤ZX∧∃a xs k,W.pi[i]?=some a∧(a,Za7 xs k)∈led∧VRs W vs xs
 tups:∀q∈W.tups,q∈led
 kind:∀q∈W.tups,(∃xs k,q.2=ZbC xs k)∨∃C dx,ZgS q.2 C dx
 objs:∀(i:Nat) (vs:List V) (fs:List Str),H[i]?=some vs→(i,fs)∈W.ins→vs.length≤fs.length∧∃a od xs,W.pi[i]?=some a∧(a,od)∈led∧ZmK od fs xs∧VRs W vs xs
 inlt:∀q∈W.ins,q.1<H.length
 iuni:∀q∈W.ins,∀r∈W.ins,q.1=r.1→q=r
theorem HR.mono{W:Wd}{H:Hp}{led led':List (Addr×Obj)}(R:HR W H led)(h:∀q∈led,q∈led'): HR W H led':=
 ⟨R.len,R.nd,fun i vs e ni=>by
  obtain⟨l,a,xs,k,h1,h2,h3⟩:=R.lists i vs e ni
  exact⟨l,a,xs,k,h1,h _ h2,h3⟩,fun q hq=>h q (R.tups q hq),R.kind,fun i vs fs e hi=>by
  obtain⟨l,a,od,xs,h1,h2,h3⟩:=R.objs i vs fs e hi
  exact⟨l,a,od,xs,h1,h _ h2,h3⟩,R.inlt,R.iuni⟩
theorem HR.any{W:Wd}{H:Hp}{led:List (Addr×Obj)}(R:HR W H led){i:Nat}{vs:List V}(e:H[i]?=some vs): ∃a o,W.pi[i]?=some a∧(a,o)∈led∧(o.cls=.type "list"∨o.cls=.type "dict"):=by
 by_cases ni:∀q∈W.ins,q.1≠i
 ·obtain⟨_,a,xs,k,h1,h2,_⟩:=R.lists i vs e ni
  exact⟨a,_,h1,h2,.inl rfl⟩
 ·obtain⟨⟨j,fs⟩,hq⟩:=Classical.not_forall.mp ni
  obtain⟨hq',z⟩:=Classical.not_imp.mp hq
  have z:j=i:=Classical.not_not.mp z
  rw[z]at hq'
  obtain⟨_,a,od,xs,h1,h2,h3,_⟩:=R.objs i vs fs e hq'
  obtain⟨es,n,eo,_⟩:=h3
  exact⟨a,od,h1,h2,.inr (by rw[eo])⟩
theorem Zkq{o:Obj}(k:(∃xs k,o=ZbC xs k)∨∃C dx,ZgS o C dx): o.cls≠.type "list"∧o.cls≠.type "dict":=by
 rcases k with⟨xs,k,e⟩ | ⟨C,dx,e⟩
 ·rw[e];exact⟨by simp,by simp⟩
 ·rw[show o=_ from e];exact⟨by simp,by simp⟩
structure Cx where
 A:Around
 env:Env
 h₀:Heap
 L:Addr
 hh:A.handled=none
 hu:A.units+200<cLine
 Own:Wd→Lc→(Str→Option Value)→List (Addr×Obj)→Prop
 mono:∀{W W':Wd} {ρ:Lc} {m:Str→Option Value} {c:List (Addr×Obj)},W.Le W'→Own W ρ m c→Own W' ρ m c
structure Rep'(Γ:Cx)(W:Wd)(ρ:Lc)(H:Hp)(fr:List (Addr×Obj))(h:Heap)(m:Str→Option Value)(cells led:List (Addr×Obj)): Prop where
 F:Fr Γ.h₀ Γ.L h m
 N:News Γ.h₀ Γ.L h led
 R:HR W H (W.sc::led)
 sc:Γ.h₀.get? W.sc.1=some W.sc.2
 sc0:W.pi[0]?=some W.sc.1
 frIn:∀q∈fr,q∈led
 frOff:∀q∈fr,q.1∉W.pi
 clIn:∀q∈cells,q∈led
 clOff:∀q∈cells,q.1∉W.pi
 apart:∀q∈cells,∀r∈fr,q.1≠r.1
 frTup:∀q∈fr,∀t∈W.tups,q.1≠t.1
 clTup:∀q∈cells,∀t∈W.tups,q.1≠t.1
 own:Γ.Own W ρ m cells
noncomputable def Rep(Γ:Cx)(W:Wd)(ρ:Lc)(H:Hp)(fr:List (Addr×Obj))(h:Heap): Prop:=∃m cells led,Rep' Γ W ρ H fr h m cells led
theorem Rep.grown{Γ:Cx}{W:Wd}{ρ:Lc}{H:Hp}{fr:List (Addr×Obj)}{h h':Heap}(r:Rep Γ W ρ H fr h)(up:∀b o,h.get? b=some o→h'.get? b=some o): Rep Γ W ρ H fr h':=by
 obtain⟨m,c,led,r⟩:=r
 refine⟨m,c,led,⟨⟨?_,fun b o e=>up b o (r.F.keep b o e),r.F.above⟩,fun q hq=>⟨up _ _ (r.N q hq).1,(r.N q hq).2⟩,r.R,r.sc,r.sc0,r.frIn,r.frOff,r.clIn,r.clOff,r.apart,r.frTup,r.clTup,r.own⟩⟩
 obtain⟨o,es,ep,h1,h2⟩:=r.F.ns
 exact⟨o,es,ep,up _ _ h1,h2⟩
theorem Rep.push{Γ:Cx}{W:Wd}{ρ:Lc}{H:Hp}{fr:List (Addr×Obj)}{h:Heap}(r:Rep Γ W ρ H fr h)(o:Obj): Rep Γ W ρ H fr (h.push o):=r.grown fun _ _ e=>Heap.get?_push_of_some _ e
theorem Zbs{q s:Addr×Obj}{l l':List (Addr×Obj)}(h:q∈s::l)(m:q∈l→q∈l'): q∈s::l':=by
 rcases Zz7.mp h with e | h
 ·exact e▸List.mem_cons_self
 ·exact Zz2 _ (m h)
theorem ZbW{q s:Addr×Obj}{l l':List (Addr×Obj)}(h:q∈s::l)(m:∀x∈l,x∈l'): q∈s::l':=by
 rcases Zz7.mp h with e | h
 ·exact e▸List.mem_cons_self
 ·exact Zz2 _ (m q h)
theorem Rep'.get{Γ:Cx}{W:Wd}{ρ:Lc}{H:Hp}{fr:List (Addr×Obj)}{h:Heap}{m:Str→Option Value}{c led:List (Addr×Obj)}(r:Rep' Γ W ρ H fr h m c led){q:Addr×Obj}(hq:q∈W.sc::led): h.get? q.1=some q.2:=by
 rcases Zz7.mp hq with e | hq
 ·rw[e]
  exact r.F.keep _ _ r.sc
 ·exact(r.N q hq).1
theorem Rep'.off{Γ:Cx}{W:Wd}{ρ:Lc}{H:Hp}{fr:List (Addr×Obj)}{h:Heap}{m:Str→Option Value}{c led:List (Addr×Obj)}(r:Rep' Γ W ρ H fr h m c led): ∀q∈W.sc::led,q.1≠h.objs.size:=fun q hq=>Nat.ne_of_lt (Heap.lt_size (r.get hq))
theorem Rep'.piIn{Γ:Cx}{W:Wd}{ρ:Lc}{H:Hp}{fr:List (Addr×Obj)}{h:Heap}{m:Str→Option Value}{c led:List (Addr×Obj)}(r:Rep' Γ W ρ H fr h m c led): ∀a∈W.pi,∃o,(a,o)∈W.sc::led:=by
 intro a ha
 obtain⟨i,hi,e⟩:=List.getElem_of_mem ha
 have hi':i<H.length:=r.R.len▸hi
 obtain⟨b,o,h1,h2,_⟩:=r.R.any (Zy1 hi')
 have:b=a:=by rw[Zy1 hi,e]at h1;exact(Option.some.inj h1).symm
 exact⟨_,this▸h2⟩
theorem Rep'.inLed{Γ:Cx}{W:Wd}{ρ:Lc}{H:Hp}{fr:List (Addr×Obj)}{h:Heap}{m:Str→Option Value}{c led:List (Addr×Obj)}(r:Rep' Γ W ρ H fr h m c led){i:Nat}{a:Addr}{o:Obj}(hi:i≠0)(ea:W.pi[i]?=some a)(hm:(a,o)∈W.sc::led): (a,o)∈led:=by
 rcases Zz7.mp hm with e | hm
 ·have e1:a=W.sc.1:=congrArg (·.1) e
  have hl:i<W.pi.length:=(Zz6.mp ea).1
  have:i=0:=(List.getElem?_inj hl r.R.nd).mp (by rw[ea,r.sc0,e1])
  exact absurd this hi
 ·exact hm
theorem Rep'.notSc{Γ:Cx}{W:Wd}{ρ:Lc}{H:Hp}{fr:List (Addr×Obj)}{h:Heap}{m:Str→Option Value}{c led:List (Addr×Obj)}(r:Rep' Γ W ρ H fr h m c led): ∀q∈led,q.1≠W.sc.1:=fun q hq e=>by
 have:=(r.N q hq).2.2
 rw[e,r.sc]at this
 cases this
theorem Rep'.newTup{Γ:Cx}{W:Wd}{ρ:Lc}{H:Hp}{fr:List (Addr×Obj)}{h h':Heap}{m:Str→Option Value}{c led:List (Addr×Obj)}{vs:List V}{xs:List Value}{k:Nat}{n:Addr}(r:Rep' Γ W ρ H fr h m c led)(F':Fr Γ.h₀ Γ.L h' m)(N':News Γ.h₀ Γ.L h' ((n,ZbC xs k)::led))(hn:∀q∈W.sc::led,q.1≠n)(hv:VRs W vs xs)(hl:vs.length≤ZX):
  ∃W',W.Le W'∧Rep Γ W' ρ H fr h'∧VR W' (.tup vs) (.ref n):=by
 have le:W.Le ⟨W.pi,(n,ZbC xs k)::W.tups,W.sc,W.ins⟩:=⟨List.prefix_refl _,fun q hq=>Zy3 _ hq,rfl,fun _ h=>h,fun _ h=>.inl h⟩
 refine⟨⟨W.pi,(n,ZbC xs k)::W.tups,W.sc,W.ins⟩,le,⟨m,c,(n,ZbC xs k)::led,⟨F',N',?_,r.sc,r.sc0,fun q hq=>Zy3 _ (r.frIn q hq),r.frOff,fun q hq=>Zy3 _ (r.clIn q hq),r.clOff,r.apart,fun q hq t ht=>?_,fun q hq t ht=>?_,Γ.mono le r.own⟩⟩,.tup Zz5 hl (hv.mono le)⟩
 ·refine⟨r.R.len,r.R.nd,fun i us e ni=>?_,fun q hq=>?_,fun q hq=>?_,fun i us fs e hi=>?_,r.R.inlt,r.R.iuni⟩
  ·obtain⟨l,a,ys,j,h1,h2,h3⟩:=r.R.lists i us e ni
   exact⟨l,a,ys,j,h1,ZbW h2 fun x hx=>Zy3 _ hx,h3.mono le⟩
  ·rcases Zz7.mp hq with e | hq
   ·exact e▸Zy3 _ Zz5
   ·exact ZbW (r.R.tups q hq) fun x hx=>Zy3 _ hx
  ·rcases Zz7.mp hq with e | hq
   ·exact .inl ⟨xs,k,by rw[e]⟩
   ·exact r.R.kind q hq
  ·obtain⟨l,a,od,ys,h1,h2,h3,h4⟩:=r.R.objs i us fs e hi
   exact⟨l,a,od,ys,h1,ZbW h2 fun x hx=>Zy3 _ hx,h3,h4.mono le⟩
 ·rcases Zz7.mp ht with e | ht
  ·rw[e]
   exact hn q (Zz2 _ (r.frIn q hq))
  ·exact r.frTup q hq t ht
 ·rcases Zz7.mp ht with e | ht
  ·rw[e]
   exact hn q (Zz2 _ (r.clIn q hq))
  ·exact r.clTup q hq t ht
theorem Rep.tuple{Γ:Cx}{W:Wd}{ρ:Lc}{H:Hp}{fr:List (Addr×Obj)}{h:Heap}{vs:List V}{xs:List Value}{k:Nat}(r:Rep Γ W ρ H fr h)(hv:VRs W vs xs)(hl:vs.length≤ZX):
  ∃W',W.Le W'∧Rep Γ W' ρ H fr (h.push (ZbC xs k))∧VR W' (.tup vs) (.ref h.objs.size):=by
 obtain⟨m,c,led,r⟩:=r
 exact r.newTup (r.F.push _) (News.push r.F r.N _) r.off hv hl
theorem Rep'.newList{Γ:Cx}{W:Wd}{ρ:Lc}{H:Hp}{fr:List (Addr×Obj)}{h h':Heap}{m:Str→Option Value}{c led:List (Addr×Obj)}{vs:List V}{xs:List Value}{k:Nat}{n:Addr}(r:Rep' Γ W ρ H fr h m c led)(F':Fr Γ.h₀ Γ.L h' m)(N':News Γ.h₀ Γ.L h' ((n,Za7 xs k)::led))(hn:∀q∈W.sc::led,q.1≠n)(hv:VRs W vs xs)(hl:vs.length≤ZX):
  ∃W',W.Le W'∧Rep Γ W' ρ (H++[vs]) fr h'∧VR W' (.ref H.length) (.ref n):=by
 have le:W.Le ⟨W.pi++[n],W.tups,W.sc,W.ins⟩:=⟨List.prefix_append _ _,fun q hq=>hq,rfl,fun _ h=>h,fun _ h=>.inl h⟩
 have h0:0<W.pi.length:=(Zz6.mp r.sc0).1
 have at_n:(W.pi++[n])[H.length]?=some n:=by rw[←r.R.len];simp
 have nin:∀q∈W.ins,q.1≠H.length:=fun q hq e=>by have:=r.R.inlt q hq;omega
 refine⟨⟨W.pi++[n],W.tups,W.sc,W.ins⟩,le,⟨m,c,(n,Za7 xs k)::led,⟨F',N',?_,r.sc,(Zy0 h0).trans r.sc0,fun q hq=>Zy3 _ (r.frIn q hq),fun q hq=>?_,fun q hq=>Zy3 _ (r.clIn q hq),fun q hq=>?_,r.apart,r.frTup,r.clTup,Γ.mono le r.own⟩⟩,.ref ⟨at_n,nin⟩⟩
 ·refine⟨by simp[r.R.len],?_,fun i us e ni=>?_,fun q hq=>ZbW (r.R.tups q hq) fun x hx=>Zy3 _ hx,r.R.kind,fun i us fs e hi=>?_,fun q hq=>by have:=r.R.inlt q hq;simp;omega,r.R.iuni⟩
  ·show(W.pi++[n]).Nodup
   rw[List.nodup_append]
   refine⟨r.R.nd,by simp,fun a ha b hb=>?_⟩
   rw[List.mem_singleton.mp hb]
   obtain⟨o,ho⟩:=r.piIn a ha
   exact hn _ ho
  ·by_cases hi:i<H.length
   ·rw[Zy0 hi]at e
    obtain⟨l,a,ys,j,h1,h2,h3⟩:=r.R.lists i us e ni
    exact⟨l,a,ys,j,le.piAt h1,ZbW h2 fun x hx=>Zy3 _ hx,h3.mono le⟩
   ·have:i=H.length:=by
     have:=(Zz6.mp e).1
     simp at this
     omega
    subst this
    simp at e
    subst e
    exact⟨hl,n,xs,k,at_n,Zy3 _ Zz5,hv.mono le⟩
  ·have hi':i<H.length:=r.R.inlt _ hi
   rw[Zy0 hi']at e
   obtain⟨l,a,od,ys,h1,h2,h3,h4⟩:=r.R.objs i us fs e hi
   exact⟨l,a,od,ys,le.piAt h1,ZbW h2 fun x hx=>Zy3 _ hx,h3,h4.mono le⟩
 ·intro hm
  rcases Zz8.mp hm with hm | hm
  ·exact r.frOff q hq hm
  ·exact hn q (Zz2 _ (r.frIn q hq)) (Zz9.mp hm)
 ·intro hm
  rcases Zz8.mp hm with hm | hm
  ·exact r.clOff q hq hm
  ·exact hn q (Zz2 _ (r.clIn q hq)) (Zz9.mp hm)
theorem Rep.list{Γ:Cx}{W:Wd}{ρ:Lc}{H:Hp}{fr:List (Addr×Obj)}{h:Heap}{vs:List V}{xs:List Value}{k:Nat}(r:Rep Γ W ρ H fr h)(hv:VRs W vs xs)(hl:vs.length≤ZX):
  ∃W',W.Le W'∧Rep Γ W' ρ (H++[vs]) fr (h.push (Za7 xs k))∧VR W' (.ref H.length) (.ref h.objs.size):=by
 obtain⟨m,c,led,r⟩:=r
 exact r.newList (r.F.push _) (News.push r.F r.N _) r.off hv hl
theorem Rep.at{Γ:Cx}{W:Wd}{ρ:Lc}{H:Hp}{fr:List (Addr×Obj)}{h:Heap}{i:Nat}{a:Addr}{vs:List V}(r:Rep Γ W ρ H fr h)(e:H[i]?=some vs)(ea:W.At i a): vs.length≤ZX∧∃xs k,h.get? a=some (Za7 xs k)∧VRs W vs xs:=by
 obtain⟨m,c,led,r⟩:=r
 obtain⟨l,b,xs,k,h1,h2,h3⟩:=r.R.lists i vs e ea.2
 rw[ea.1]at h1
 cases h1
 exact⟨l,xs,k,r.get h2,h3⟩
theorem Rep.tupAt{Γ:Cx}{W:Wd}{ρ:Lc}{H:Hp}{fr:List (Addr×Obj)}{h:Heap}{q:Addr×Obj}(r:Rep Γ W ρ H fr h)(e:q∈W.tups): h.get? q.1=some q.2:=by
 obtain⟨m,c,led,r⟩:=r
 exact r.get (r.R.tups _ e)
theorem Rep'.changed{Γ:Cx}{W:Wd}{ρ:Lc}{H:Hp}{fr:List (Addr×Obj)}{h h':Heap}{m:Str→Option Value}{c led:List (Addr×Obj)}{i:Nat}{a:Addr}{vs us:List V}{ys:List Value}{k:Nat}(r:Rep' Γ W ρ H fr h m c led)(i0:i≠0)(e:H[i]?=some vs)(ea:W.At i a)(F':Fr Γ.h₀ Γ.L h' m)(N':News Γ.h₀ Γ.L h' ((a,Za7 ys k)::led.filter (fun q=>decide (q.1≠a))))(hv:VRs W us ys)(hl:us.length≤ZX):
  Rep Γ W ρ (H.set i us) fr h':=by
 obtain⟨_,b,xs,j,h1,h2,h3⟩:=r.R.lists i vs e ea.2
 rw[ea.1]at h1
 cases h1
 have h2:=r.inLed i0 ea.1 h2
 have hN:=r.N _ h2
 have hm:a∈W.pi:=Zy4 ea.1
 have hi:i<H.length:=(Zz6.mp e).1
 refine⟨m,c,(a,Za7 ys k)::led.filter (fun q=>decide (q.1≠a)),⟨F',N',?_,r.sc,r.sc0,fun q hq=>?_,r.frOff,fun q hq=>?_,r.clOff,r.apart,r.frTup,r.clTup,r.own⟩⟩
 ·refine⟨by simp[r.R.len],r.R.nd,fun n ws en ni=>?_,fun q hq=>?_,r.R.kind,fun n ws fs en hi'=>?_,fun q hq=>by have:=r.R.inlt q hq;simpa using this,r.R.iuni⟩
  ·by_cases hn:n=i
   ·subst hn
    rw[Zy6 hi]at en
    cases en
    exact⟨hl,a,ys,k,ea.1,Zy3 _ Zz5,hv⟩
   ·rw[Zy2 (Ne.symm hn)]at en
    obtain⟨l,d,zs,j',g1,g2,g3⟩:=r.R.lists n ws en ni
    refine⟨l,d,zs,j',g1,Zbs g2 fun g2=>Zy3 _ (Zy9.mpr ⟨g2,?_⟩),g3⟩
    have:d≠a:=fun e=>by
     subst e
     exact hn ((List.getElem?_inj (Zz6.mp g1).1 r.R.nd).mp (g1.trans ea.1.symm))
    simpa using this
  ·refine Zbs (r.R.tups q hq) fun g2=>Zy3 _ (Zy9.mpr ⟨g2,?_⟩)
   have:q.1≠a:=fun e=>by
    have hk:=Zkq (r.R.kind q hq)
    have g:=r.get (r.R.tups q hq)
    rw[e,hN.1]at g
    have c:=congrArg Obj.cls (Option.some.inj g)
    exact hk.1 c.symm
   simpa using this
  ·have hn:n≠i:=fun q=>ea.2 _ hi' q
   rw[Zy2 (Ne.symm hn)]at en
   obtain⟨l,d,od,zs,g1,g2,g3,g4⟩:=r.R.objs n ws fs en hi'
   refine⟨l,d,od,zs,g1,Zbs g2 fun g2=>Zy3 _ (Zy9.mpr ⟨g2,?_⟩),g3,g4⟩
   have:d≠a:=fun e=>by
    subst e
    exact hn ((List.getElem?_inj (Zz6.mp g1).1 r.R.nd).mp (g1.trans ea.1.symm))
   simpa using this
 ·refine Zz2 _ (Zy9.mpr ⟨r.frIn q hq,?_⟩)
  have:q.1≠a:=fun e=>r.frOff q hq (e▸hm)
  simpa using this
 ·refine Zz2 _ (Zy9.mpr ⟨r.clIn q hq,?_⟩)
  have:q.1≠a:=fun e=>r.clOff q hq (e▸hm)
  simpa using this
theorem Rep.change{Γ:Cx}{W:Wd}{ρ:Lc}{H:Hp}{fr:List (Addr×Obj)}{h h':Heap}{i:Nat}{a:Addr}{vs us:List V}{ys:List Value}{k:Nat}(r:Rep Γ W ρ H fr h)(i0:i≠0)(e:H[i]?=some vs)(ea:W.At i a)(sb:Heap.SameBut a h h')(ha:h'.get? a=some (Za7 ys k))(hv:VRs W us ys)(hl:us.length≤ZX):
  Rep Γ W ρ (H.set i us) fr h':=by
 obtain⟨m,c,led,r⟩:=r
 obtain⟨_,b,xs,j,h1,h2,h3⟩:=r.R.lists i vs e ea.2
 rw[ea.1]at h1
 cases h1
 have h2:=r.inLed i0 ea.1 h2
 have hN:=r.N _ h2
 have keep:∀q∈led,q.1≠a→h'.get? q.1=some q.2:=fun q hq hn=>sb.extBut _ _ hn (r.N q hq).1
 refine r.changed (k:=k) i0 e ea ⟨r.F.ns.sameBut sb (Ne.symm hN.2.1),fun b o eb=>sb.extBut b o (fun q=>?_) (r.F.keep b o eb),r.F.above⟩ (fun q hq=>?_) hv hl
 ·subst q
  rw[hN.2.2]at eb
  cases eb
 ·rcases Zz7.mp hq with e | hq
  ·subst e
   exact⟨ha,hN.2⟩
  ·obtain⟨h1,h2⟩:=List.mem_filter.mp hq
   exact⟨keep q h1 (by simpa using h2),(r.N q h1).2⟩
theorem Rep.swap{Γ:Cx}{W:Wd}{ρ:Lc}{H:Hp}{fs fs' fr:List (Addr×Obj)}{h h':Heap}(r:Rep Γ W ρ H (fs++fr) h)(ap:∀q∈fs,∀t∈fr,q.1≠t.1)(keep:∀b o,b∉fs.map (·.1)→h.get? b=some o→h'.get? b=some o)(new:∀q∈fs',h'.get? q.1=some q.2∧q.1∈fs.map (·.1)): Rep Γ W ρ H (fs'++fr) h':=by
 obtain⟨m,c,led,r⟩:=r
 have inF:∀q∈fs,q∈fs++fr:=fun q hq=>Zy7 _ hq
 have nL:∀a∈fs.map (·.1),a≠Γ.L∧Γ.h₀.get? a=none:=fun a ha=>by
  obtain⟨q,hq,e⟩:=Zz11.mp ha
  exact e▸(r.N q (r.frIn q (inF q hq))).2
 have kp:∀q∈led,q.1∉fs.map (·.1)→h'.get? q.1=some q.2:=fun q hq hn=>keep _ _ hn (r.N q hq).1
 refine⟨m,c,fs'++led.filter (fun q=>decide (q.1∉fs.map (·.1))),⟨⟨?_,fun b o e=>?_,r.F.above⟩,fun q hq=>?_,⟨r.R.len,r.R.nd,fun i vs e ni=>?_,fun q hq=>?_,r.R.kind,fun i vs fn e hi=>?_,r.R.inlt,r.R.iuni⟩,r.sc,r.sc0,fun q hq=>?_,fun q hq=>?_,fun q hq=>?_,r.clOff,fun q hq t ht=>?_,fun q hq t ht=>?_,r.clTup,r.own⟩⟩
 ·obtain⟨o,es,ep,h1,h2⟩:=r.F.ns
  exact⟨o,es,ep,keep _ _ (fun q=>(nL _ q).1 rfl) h1,h2⟩
 ·refine keep b o (fun q=>?_) (r.F.keep b o e)
  rw[(nL b q).2]at e
  cases e
 ·rcases Zz8.mp hq with hq | hq
  ·obtain⟨h1,h2⟩:=new q hq
   exact⟨h1,nL _ h2⟩
  ·obtain⟨h1,h2⟩:=List.mem_filter.mp hq
   exact⟨kp q h1 (by simpa using h2),(r.N q h1).2⟩
 ·obtain⟨l,a,xs,k,h1,h2,h3⟩:=r.R.lists i vs e ni
  refine⟨l,a,xs,k,h1,Zbs h2 fun h2=>List.mem_append_right _ (Zy9.mpr ⟨h2,?_⟩),h3⟩
  have:a∉fs.map (·.1):=fun q=>by
   obtain⟨t,ht,e⟩:=Zz11.mp q
   exact r.frOff t (inF t ht) (e▸Zy4 h1)
  simpa using this
 ·refine Zbs (r.R.tups q hq) fun h2=>List.mem_append_right _ (Zy9.mpr ⟨h2,?_⟩)
  have:q.1∉fs.map (·.1):=fun z=>by
   obtain⟨t,ht,e⟩:=Zz11.mp z
   exact r.frTup t (inF t ht) q hq e
  simpa using this
 ·obtain⟨l,a,od,xs,h1,h2,h3⟩:=r.R.objs i vs fn e hi
  refine⟨l,a,od,xs,h1,Zbs h2 fun h2=>List.mem_append_right _ (Zy9.mpr ⟨h2,?_⟩),h3⟩
  have:a∉fs.map (·.1):=fun q=>by
   obtain⟨t,ht,e⟩:=Zz11.mp q
   exact r.frOff t (inF t ht) (e▸Zy4 h1)
  simpa using this
 ·rcases Zz8.mp hq with hq | hq
  ·exact Zz4 _ hq
  ·refine Zz3 _ (Zy9.mpr ⟨r.frIn q (Zz3 _ hq),?_⟩)
   have:q.1∉fs.map (·.1):=fun z=>by
    obtain⟨t,ht,e⟩:=Zz11.mp z
    exact ap t ht q hq e
   simpa using this
 ·rcases Zz8.mp hq with hq | hq
  ·obtain⟨t,ht,e⟩:=Zz11.mp (new q hq).2
   exact e▸r.frOff t (inF t ht)
  ·exact r.frOff q (Zz3 _ hq)
 ·refine Zz3 _ (Zy9.mpr ⟨r.clIn q hq,?_⟩)
  have:q.1∉fs.map (·.1):=fun z=>by
   obtain⟨t,ht,e⟩:=Zz11.mp z
   exact r.apart q hq t (inF t ht) e.symm
  simpa using this
 ·rcases Zz8.mp ht with ht | ht
  ·obtain⟨u,hu,e⟩:=Zz11.mp (new t ht).2
   exact e▸r.apart q hq u (inF u hu)
  ·exact r.apart q hq t (Zz3 _ ht)
 ·rcases Zz8.mp hq with hq | hq
  ·obtain⟨u,hu,e⟩:=Zz11.mp (new q hq).2
   exact e▸r.frTup u (inF u hu) t ht
  ·exact r.frTup q (Zz3 _ hq) t ht
theorem Rep.more{Γ:Cx}{W:Wd}{ρ:Lc}{H:Hp}{fs fr:List (Addr×Obj)}{h h':Heap}(r:Rep Γ W ρ H fr h)(up:∀b o,h.get? b=some o→h'.get? b=some o)(new:∀q∈fs,h'.get? q.1=some q.2∧h.objs.size≤q.1): Rep Γ W ρ H (fs++fr) h'∧∀q∈fs,∀t∈fr,q.1≠t.1:=by
 have r':=r.grown up
 obtain⟨m,c,led,r⟩:=r
 have lt:∀q∈W.sc::led,q.1<h.objs.size:=fun q hq=>Heap.lt_size (r.get hq)
 have ne:∀q∈fs,∀t∈W.sc::led,q.1≠t.1:=fun q hq t ht=>Nat.ne_of_gt (Nat.lt_of_lt_of_le (lt t ht) (new q hq).2)
 refine⟨⟨m,c,fs++led,⟨⟨?_,fun b o e=>up b o (r.F.keep b o e),r.F.above⟩,fun q hq=>?_,r.R.mono fun q hq=>ZbW hq fun x hx=>List.mem_append_right _ hx,r.sc,r.sc0,fun q hq=>?_,fun q hq=>?_,fun q hq=>List.mem_append_right _ (r.clIn q hq),r.clOff,fun q hq t ht=>?_,fun q hq t ht=>?_,r.clTup,r.own⟩⟩,fun q hq t ht=>ne q hq t (Zz2 _ (r.frIn t ht))⟩
 ·obtain⟨o,es,ep,h1,h2⟩:=r.F.ns
  exact⟨o,es,ep,up _ _ h1,h2⟩
 ·rcases Zz8.mp hq with hq | hq
  ·obtain⟨h1,h2⟩:=new q hq
   refine⟨h1,fun e=>?_,?_⟩
   ·exact absurd (e▸r.F.ns.lt) (Nat.not_lt.mpr h2)
   ·cases e:Γ.h₀.get? q.1 with
    | none=>rfl
    | some o=>exact absurd (Heap.lt_size (r.F.keep _ _ e)) (Nat.not_lt.mpr h2)
  ·exact⟨up _ _ (r.N q hq).1,(r.N q hq).2⟩
 ·rcases Zz8.mp hq with hq | hq
  ·exact Zz4 _ hq
  ·exact Zz3 _ (r.frIn q hq)
 ·rcases Zz8.mp hq with hq | hq
  ·intro hm
   obtain⟨o,ho⟩:=r.piIn _ hm
   exact ne q hq _ ho rfl
  ·exact r.frOff q hq
 ·rcases Zz8.mp ht with ht | ht
  ·exact(ne t ht q (Zz2 _ (r.clIn q hq))).symm
  ·exact r.apart q hq t ht
 ·rcases Zz8.mp hq with hq | hq
  ·exact ne q hq t (r.R.tups t ht)
  ·exact r.frTup q hq t ht
theorem Rep.less{Γ:Cx}{W:Wd}{ρ:Lc}{H:Hp}{fs fr:List (Addr×Obj)}{h:Heap}(r:Rep Γ W ρ H fs h)(sub:∀q∈fr,q∈fs): Rep Γ W ρ H fr h:=by
 obtain⟨m,c,led,r⟩:=r
 exact⟨m,c,led,⟨r.F,r.N,r.R,r.sc,r.sc0,fun q hq=>r.frIn q (sub q hq),fun q hq=>r.frOff q (sub q hq),r.clIn,r.clOff,fun q hq t ht=>r.apart q hq t (sub t ht),fun q hq=>r.frTup q (sub q hq),r.clTup,r.own⟩⟩
theorem Rep.frAt{Γ:Cx}{W:Wd}{ρ:Lc}{H:Hp}{fr:List (Addr×Obj)}{h:Heap}{q:Addr×Obj}(r:Rep Γ W ρ H fr h)(hq:q∈fr): h.get? q.1=some q.2:=by
 obtain⟨m,c,led,r⟩:=r
 exact(r.N q (r.frIn q hq)).1
end PM
end
section
namespace PM
open PySem PyProof.Rows PyProof
noncomputable abbrev Ex:=Lc→Hp→Option (V×Hp)
noncomputable abbrev ZW:=Lc→Hp→Option (List V×Hp)
noncomputable abbrev Ts:=Lc→Hp→Option (Bool×Hp)
noncomputable abbrev Zdz(Γ:Cx)(W:Wd)(ρ:Lc)(H:Hp)(fr:List (Addr×Obj))(s:Shared)(Q:Value→Shared→Prop)(v:V): Prop:=
 ∀(W':Wd) (h':Heap) (tk':Nat) (x:Value),W.Le W'→Rep Γ W' ρ H fr h'→VR W' v x→Q x { s with heap:=h',toks:=tk' }
noncomputable abbrev Zfh(Γ:Cx)(W:Wd)(ρ:Lc)(H:Hp)(fr:List (Addr×Obj))(s:Shared)(Q:Bool→Shared→Prop)(b:Bool): Prop:=
 ∀(W':Wd) (h':Heap) (tk':Nat),W.Le W'→Rep Γ W' ρ H fr h'→Q b { s with heap:=h',toks:=tk' }
section
variable (prog:Program) (w:World)
noncomputable def J(Γ:Cx)(e:Expr)(f:Ex): Prop:=∀(W:Wd) (ρ:Lc) (H:Hp) (fr:List (Addr×Obj)) (s:Shared) (Q E:Value→Shared→Prop) (v:V) (H':Hp),
 Rep Γ W ρ H fr s.heap→f ρ H=some (v,H')→Zdz Γ W ρ H' fr s Q v→wpAny (model prog w) Γ.A (eval e Γ.env) Q E s
noncomputable def Js(Γ:Cx)(es:List Expr)(f:ZW): Prop:=∀(pos:Pos) (W:Wd) (ρ:Lc) (H:Hp) (fr:List (Addr×Obj)) (s:Shared) (Q:List Value→Shared→Prop) (E:Value→Shared→Prop) (vs:List V) (H':Hp),
 Rep Γ W ρ H fr s.heap→f ρ H=some (vs,H')→(∀(W':Wd) (h':Heap) (tk':Nat) (xs:List Value),W.Le W'→Rep Γ W' ρ H' fr h'→VRs W' vs xs→Q xs { s with heap:=h',toks:=tk' })→wpAny (model prog w) Γ.A (spliced (backTo pos (starEach es Γ.env))) Q E s
noncomputable def JT(Γ:Cx)(e:Expr)(f:Ts): Prop:=∀(W:Wd) (ρ:Lc) (H:Hp) (fr:List (Addr×Obj)) (s:Shared) (Q:Bool→Shared→Prop) (E:Value→Shared→Prop) (b:Bool) (H':Hp),
 Rep Γ W ρ H fr s.heap→f ρ H=some (b,H')→Zfh Γ W ρ H' fr s Q b→wpAny (model prog w) Γ.A (isTrue e Γ.env (eval e Γ.env)) Q E s
noncomputable def Op2(m:Value→Value→Sem Value)(o:V→V→Hp→Option (V×Hp)): Prop:=∀(Γ:Cx) (W:Wd) (ρ:Lc) (H:Hp) (fr:List (Addr×Obj)) (s:Shared) (Q E:Value→Shared→Prop) (a b:V) (x y:Value) (v:V) (H':Hp),
 Rep Γ W ρ H fr s.heap→VR W a x→VR W b y→o a b H=some (v,H')→Zdz Γ W ρ H' fr s Q v→wpAny (model prog w) Γ.A (m x y) Q E s
noncomputable def Op1(m:Value→Sem Value)(o:V→Hp→Option (V×Hp)): Prop:=∀(Γ:Cx) (W:Wd) (ρ:Lc) (H:Hp) (fr:List (Addr×Obj)) (s:Shared) (Q E:Value→Shared→Prop) (a:V) (x:Value) (v:V) (H':Hp),
 Rep Γ W ρ H fr s.heap→VR W a x→o a H=some (v,H')→Zdz Γ W ρ H' fr s Q v→wpAny (model prog w) Γ.A (m x) Q E s
noncomputable def OpT(m:Value→Sem Bool)(o:V→Hp→Option Bool): Prop:=∀(Γ:Cx) (W:Wd) (ρ:Lc) (H:Hp) (fr:List (Addr×Obj)) (s:Shared) (Q:Bool→Shared→Prop) (E:Value→Shared→Prop) (a:V) (x:Value) (b:Bool),
 Rep Γ W ρ H fr s.heap→VR W a x→o a H=some b→Zfh Γ W ρ H fr s Q b→wpAny (model prog w) Γ.A (m x) Q E s
end
noncomputable def Zb(k:Int): Ex:=fun _ H=>some (.int k,H)
noncomputable def Zba: Ex:=fun _ H=>some (.none,H)
noncomputable def ZbH(b:Bool): Ex:=fun _ H=>some (.bool b,H)
noncomputable def Zo(x:Str): Ex:=fun _ H=>some (.str x,H)
noncomputable def eVar(i:Nat): Ex:=fun ρ H=>(ρ i).map fun v=>(v,H)
noncomputable def Za(o:V→V→Hp→Option (V×Hp))(f g:Ex): Ex:=fun ρ H=>(f ρ H).bind fun p=>(g ρ p.2).bind fun q=>o p.1 q.1 q.2
noncomputable def eUn(o:V→Hp→Option (V×Hp))(f:Ex): Ex:=fun ρ H=>(f ρ H).bind fun p=>o p.1 p.2
noncomputable def eIf(t:Ts)(f g:Ex): Ex:=fun ρ H=>(t ρ H).bind fun p=>if p.1 then f ρ p.2 else g ρ p.2
noncomputable def eNil: ZW:=fun _ H=>some ([],H)
noncomputable def eCons(f:Ex)(g:ZW): ZW:=fun ρ H=>(f ρ H).bind fun p=>(g ρ p.2).bind fun q=>some (p.1::q.1,q.2)
noncomputable def ZY(g:ZW): Ex:=fun ρ H=>(g ρ H).bind fun p=>if p.1.length≤ZX then some (.tup p.1,p.2)else none
noncomputable def ZM(g:ZW): Ex:=fun ρ H=>(g ρ H).bind fun p=>if p.1.length≤ZX then some (.ref p.2.length,p.2++[p.1])else none
noncomputable def Z9: V→Hp→Option Bool
 | .bool b,_=>some b
 | .int i,_=>some (i != 0)
 | .none,_=>some false
 | _,_=>none
noncomputable def Zp(f:Ex): Ts:=fun ρ H=>(f ρ H).bind fun p=>(Z9 p.1 p.2).map fun b=>(b,p.2)
noncomputable def ZdA(t:Ts): Ts:=fun ρ H=>(t ρ H).map fun p=>(!p.1,p.2)
noncomputable def ZaH: Ts:=fun _ H=>some (true,H)
noncomputable def ZaD: Ts:=fun _ H=>some (false,H)
noncomputable def Za1(t u:Ts): Ts:=fun ρ H=>(t ρ H).bind fun p=>if p.1 then u ρ p.2 else some (false,p.2)
noncomputable def ZZ(t u:Ts): Ts:=fun ρ H=>(t ρ H).bind fun p=>if p.1 then some (true,p.2)else u ρ p.2
noncomputable def tIf(t u v:Ts): Ts:=fun ρ H=>(t ρ H).bind fun p=>if p.1 then u ρ p.2 else v ρ p.2
noncomputable def Zm7(f:Ex): Ex:=fun ρ H=>(f ρ H).bind fun p=>(Z9 p.1 p.2).map fun b=>(.bool (!b),p.2)
noncomputable def ZcI(f g:Ex): Ex:=fun ρ H=>(f ρ H).bind fun p=>(Z9 p.1 p.2).bind fun b=>if b then g ρ p.2 else some p
noncomputable def eOr(f g:Ex): Ex:=fun ρ H=>(f ρ H).bind fun p=>(Z9 p.1 p.2).bind fun b=>if b then some p else g ρ p.2
section
variable {prog:Program} {w:World} {Γ:Cx}
theorem J.int(k:Int)(n:Nat)(pos:Pos): J prog w Γ (.Constant (.int k) n pos) (Zb k):=fun W ρ H fr s Q E v H' r e post=>by
 cases e
 exact wpAny_Constant_int (post W s.heap _ _ (.refl W) r (.int k _))
theorem J.none(n:Nat)(pos:Pos): J prog w Γ (.Constant .none n pos) Zba:=fun W ρ H fr s Q E v H' r e post=>by
 cases e
 exact wpAny_Constant_none (post W s.heap s.toks _ (.refl W) r .none)
theorem J.bool(b:Bool)(n:Nat)(pos:Pos): J prog w Γ (.Constant (.bool b) n pos) (ZbH b):=fun W ρ H fr s Q E v H' r e post=>by
 cases e
 exact wpAny_Constant_bool (post W s.heap s.toks _ (.refl W) r (.bool b))
theorem J.str(x:Str)(n:Nat)(pos:Pos): J prog w Γ (.Constant (.str x) n pos) (Zo x):=fun W ρ H fr s Q E v H' r e post=>by
 cases e
 exact wpAny_Constant_str (post W s.heap _ _ (.refl W) r (.str x _))
theorem ZG{e1 e2:Expr}{op:Operator}{pos:Pos}{f g:Ex}{o:V→V→Hp→Option (V×Hp)}(h1:J prog w Γ e1 f)(h2:J prog w Γ e2 g)(ho:Op2 prog w (binaryOp op) o): J prog w Γ (.BinOp e1 op e2 pos) (Za o f g):=by
 intro W ρ H fr s Q E v H' r hf post
 obtain⟨p,e1,hf⟩:=Zz0.mp hf
 obtain⟨q,e2,e3⟩:=Zz0.mp hf
 refine wpAny_BinOp (h1 W ρ H fr s _ E _ _ r e1 fun W1 k1 t1 x l1 r1 x1=>?_)
 refine h2 W1 ρ _ fr _ _ E _ _ r1 e2 fun W2 k2 t2 y l2 r2 y2=>?_
 exact ho Γ W2 ρ _ fr _ Q E _ _ x y v H' r2 (x1.mono l2) y2 e3 fun W3 k3 t3 z l3 r3 z3=>post W3 k3 t3 z ((l1.trans l2).trans l3) r3 z3
theorem Zef{e1 e2:Expr}{op:CmpOp}{pos:Pos}{f g:Ex}{o:V→V→Hp→Option (V×Hp)}(h1:J prog w Γ e1 f)(h2:J prog w Γ e2 g)(ho:Op2 prog w (compareOp op) o)(hm:behindInMarks op e2=false:=by with_unfolding_all rfl): J prog w Γ (.Compare e1 [op] [e2] pos) (Za o f g):=by
 intro W ρ H fr s Q E v H' r hf post
 obtain⟨p,e1,hf⟩:=Zz0.mp hf
 obtain⟨q,e2,e3⟩:=Zz0.mp hf
 refine wpAny_Compare1 (h1 W ρ H fr s _ E _ _ r e1 fun W1 k1 t1 x l1 r1 x1=>?_) hm
 refine h2 W1 ρ _ fr _ _ E _ _ r1 e2 fun W2 k2 t2 y l2 r2 y2=>?_
 exact ho Γ W2 ρ _ fr _ Q E _ _ x y v H' r2 (x1.mono l2) y2 e3 fun W3 k3 t3 z l3 r3 z3=>post W3 k3 t3 z ((l1.trans l2).trans l3) r3 z3
theorem ZdB{e1:Expr}{op:UnaryOp}{pos:Pos}{f:Ex}{o:V→Hp→Option (V×Hp)}(h1:J prog w Γ e1 f)(ho:Op1 prog w (unaryOp op) o): J prog w Γ (.UnaryOp op e1 pos) (eUn o f):=by
 intro W ρ H fr s Q E v H' r hf post
 obtain⟨p,e1,hf⟩:=Zz0.mp hf
 refine wpAny_UnaryOp (h1 W ρ H fr s _ E _ _ r e1 fun W1 k1 t1 x l1 r1 x1=>?_)
 exact ho Γ W1 ρ _ fr _ Q E _ x v H' r1 x1 hf fun W3 k3 t3 z l3 r3 z3=>post W3 k3 t3 z (l1.trans l3) r3 z3
theorem Zeg: OpT prog w truthy Z9:=by
 intro Γ W ρ H fr s Q E a x b r hx ho post
 cases hx with
 | none=>cases ho;exact truthy_none (post W s.heap s.toks (.refl W) r)
 | bool c=>cases ho;exact fun _ _ _=>post W s.heap s.toks (.refl W) r
 | int i t=>cases ho;exact P.truthy_int (post W s.heap s.toks (.refl W) r)
 | str _ _=>cases ho
 | tup _ _ _=>cases ho
 | ref _=>cases ho
 | obj _ _ _ _=>cases ho
theorem ZmL{e1 e2:Expr}{pos:Pos}{f g:Ex}(h1:J prog w Γ e1 f)(h2:J prog w Γ e2 g): J prog w Γ (.BoolOp .And [e1,e2] pos) (ZcI f g):=by
 intro W ρ H fr s Q E v H' r hf post
 obtain⟨p,e1,hf⟩:=Zz0.mp hf
 obtain⟨b,e2,e3⟩:=Zz0.mp hf
 refine wpAny_And2 (h1 W ρ H fr s _ E _ _ r e1 fun W1 k1 t1 x l1 r1 x1=>?_)
 refine Zeg Γ W1 ρ _ fr _ _ E _ x b r1 x1 e2 fun W2 k2 t2 l2 r2=>?_
 cases b with
 | true=>exact h2 W2 ρ _ fr _ Q E v H' r2 e3 fun W3 k3 t3 z l3 r3 z3=>post W3 k3 t3 z ((l1.trans l2).trans l3) r3 z3
 | false=>
  cases e3
  exact post W2 k2 t2 x (l1.trans l2) r2 (x1.mono l2)
theorem Zm8{e1 e2:Expr}{pos:Pos}{f g:Ex}(h1:J prog w Γ e1 f)(h2:J prog w Γ e2 g): J prog w Γ (.BoolOp .Or [e1,e2] pos) (eOr f g):=by
 intro W ρ H fr s Q E v H' r hf post
 obtain⟨p,e1,hf⟩:=Zz0.mp hf
 obtain⟨b,e2,e3⟩:=Zz0.mp hf
 refine wpAny_Or2 (h1 W ρ H fr s _ E _ _ r e1 fun W1 k1 t1 x l1 r1 x1=>?_)
 refine Zeg Γ W1 ρ _ fr _ _ E _ x b r1 x1 e2 fun W2 k2 t2 l2 r2=>?_
 cases b with
 | false=>exact h2 W2 ρ _ fr _ Q E v H' r2 e3 fun W3 k3 t3 z l3 r3 z3=>post W3 k3 t3 z ((l1.trans l2).trans l3) r3 z3
 | true=>
  cases e3
  exact post W2 k2 t2 x (l1.trans l2) r2 (x1.mono l2)
theorem Zi1{t e1 e2:Expr}{pos:Pos}{u:Ts}{f g:Ex}(ht:JT prog w Γ t u)(h1:J prog w Γ e1 f)(h2:J prog w Γ e2 g): J prog w Γ (.IfExp t e1 e2 pos) (eIf u f g):=by
 intro W ρ H fr s Q E v H' r hf post
 obtain⟨p,e1,hf⟩:=Zz0.mp hf
 refine wpAny_IfExp (ht W ρ H fr s _ E _ _ r e1 fun W1 k1 t1 l1 r1=>?_)
 obtain⟨b,H1⟩:=p
 cases b with
 | true=>exact h1 W1 ρ _ fr _ Q E v H' r1 hf fun W3 k3 t3 z l3 r3 z3=>post W3 k3 t3 z (l1.trans l3) r3 z3
 | false=>exact h2 W1 ρ _ fr _ Q E v H' r1 hf fun W3 k3 t3 z l3 r3 z3=>post W3 k3 t3 z (l1.trans l3) r3 z3
theorem Zg: Js prog w Γ [] eNil:=fun pos W ρ H fr s Q E vs H' r hf post=>by
 cases hf
 exact wpAny_items_nil (post W s.heap s.toks [] (.refl W) r .nil)
theorem Zk{e:Expr}{es:List Expr}{f:Ex}{g:ZW}(h1:J prog w Γ e f)(h2:Js prog w Γ es g)(he:starEach (e::es) Γ.env=(false,eval e Γ.env)::starEach es Γ.env:=by rfl): Js prog w Γ (e::es) (eCons f g):=by
 intro pos W ρ H fr s Q E vs H' r hf post
 obtain⟨p,e1,hf⟩:=Zz0.mp hf
 obtain⟨q,e2,e3⟩:=Zz0.mp hf
 cases e3
 refine wpAny_items_cons (h1 W ρ H fr s _ E _ _ r e1 fun W1 k1 t1 x l1 r1 x1=>?_) he
 exact h2 pos W1 ρ _ fr _ _ E _ _ r1 e2 fun W2 k2 t2 ys l2 r2 y2=>post W2 k2 t2 _ (l1.trans l2) r2 (.cons (x1.mono l2) y2)
theorem J.tup{es:List Expr}{k:Nat}{pos:Pos}{g:ZW}(h:Js prog w Γ es g): J prog w Γ (.Tuple es k pos) (ZY g):=by
 intro W ρ H fr s Q E v H' r hf post
 obtain⟨p,e1,hf⟩:=Zz0.mp hf
 by_cases hl:p.1.length≤ZX
 ·rw[if_pos hl]at hf
  cases hf
  refine wpAny_Tuple (h pos W ρ H fr s _ E _ _ r e1 fun W1 k1 t1 xs l1 r1 x1=>⟨ZbS (by rw[x1.length];exact hl),?_⟩)
  obtain⟨W2,l2,r2,v2⟩:=r1.tuple (k:=0) x1 hl
  exact post W2 _ _ _ (l1.trans l2) r2 v2
 ·rw[if_neg hl]at hf
  cases hf
theorem J.list{es:List Expr}{pos:Pos}{g:ZW}(h:Js prog w Γ es g): J prog w Γ (.List es pos) (ZM g):=by
 intro W ρ H fr s Q E v H' r hf post
 obtain⟨p,e1,hf⟩:=Zz0.mp hf
 by_cases hl:p.1.length≤ZX
 ·rw[if_pos hl]at hf
  cases hf
  refine wpAny_List (h pos W ρ H fr s _ E _ _ r e1 fun W1 k1 t1 xs l1 r1 x1=>⟨ZbS (by rw[x1.length];exact hl),?_⟩)
  obtain⟨W2,l2,r2,v2⟩:=r1.list (k:=0) x1 hl
  exact post W2 _ _ _ (l1.trans l2) r2 v2
 ·rw[if_neg hl]at hf
  cases hf
theorem Ziy{e:Expr}{pos:Pos}{t:Ts}(h:JT prog w Γ e t): JT prog w Γ (.UnaryOp .Not e pos) (ZdA t):=by
 intro W ρ H fr s Q E b H' r hf post
 obtain⟨p,e1,e2⟩:=Zz1.mp hf
 cases e2
 exact isTrue_not (h W ρ H fr s _ E _ _ r e1 post)
noncomputable def JA(prog:Program)(w:World)(Γ:Cx)(op:BoolOp)(es:List Expr)(f:Ts): Prop:=∀(W:Wd) (ρ:Lc) (H:Hp) (fr:List (Addr×Obj)) (s:Shared) (Q:Bool→Shared→Prop) (E:Value→Shared→Prop) (b:Bool) (H':Hp),
 Rep Γ W ρ H fr s.heap→f ρ H=some (b,H')→Zfh Γ W ρ H' fr s Q b→wpAny (model prog w) Γ.A (allTrue op es Γ.env) Q E s
theorem Zdh: JA prog w Γ .And [] ZaH:=fun W ρ H fr s Q E b H' r hf post=>by
 cases hf
 exact wpAny_allTrue_And_nil (post W s.heap s.toks (.refl W) r)
theorem ZbT: JA prog w Γ .Or [] ZaD:=fun W ρ H fr s Q E b H' r hf post=>by
 cases hf
 exact wpAny_allTrue_Or_nil (post W s.heap s.toks (.refl W) r)
theorem ZbQ{e:Expr}{es:List Expr}{t u:Ts}(h1:JT prog w Γ e t)(h2:JA prog w Γ .And es u): JA prog w Γ .And (e::es) (Za1 t u):=by
 intro W ρ H fr s Q E b H' r hf post
 obtain⟨p,e1,hf⟩:=Zz0.mp hf
 refine wpAny_allTrue_And_cons (h1 W ρ H fr s _ E _ _ r e1 fun W1 k1 t1 l1 r1=>?_)
 obtain⟨c,H1⟩:=p
 cases c with
 | true=>exact h2 W1 ρ _ fr _ Q E b H' r1 hf fun W3 k3 t3 l3 r3=>post W3 k3 t3 (l1.trans l3) r3
 | false=>
  cases hf
  exact post W1 k1 t1 l1 r1
theorem Zaw{e:Expr}{es:List Expr}{t u:Ts}(h1:JT prog w Γ e t)(h2:JA prog w Γ .Or es u): JA prog w Γ .Or (e::es) (ZZ t u):=by
 intro W ρ H fr s Q E b H' r hf post
 obtain⟨p,e1,hf⟩:=Zz0.mp hf
 refine wpAny_allTrue_Or_cons (h1 W ρ H fr s _ E _ _ r e1 fun W1 k1 t1 l1 r1=>?_)
 obtain⟨c,H1⟩:=p
 cases c with
 | false=>exact h2 W1 ρ _ fr _ Q E b H' r1 hf fun W3 k3 t3 l3 r3=>post W3 k3 t3 (l1.trans l3) r3
 | true=>
  cases hf
  exact post W1 k1 t1 l1 r1
theorem Za8{op:BoolOp}{es:List Expr}{pos:Pos}{t:Ts}(h:JA prog w Γ op es t:=by decide): JT prog w Γ (.BoolOp op es pos) t:=fun W ρ H fr s Q E b H' r hf post=>wpAny_isTrue_BoolOp (h W ρ H fr s Q E b H' r hf post)
theorem Zbx{e:Expr}{f:Ex}(h:J prog w Γ e f)(he:isTrue e Γ.env (eval e Γ.env)=(do let v ←eval e Γ.env;standAt e.pos;holding [v] (truthy v)):=by rfl): JT prog w Γ e (Zp f):=by
 intro W ρ H fr s Q E b H' r hf post
 obtain⟨p,e1,hf⟩:=Zz0.mp hf
 obtain⟨c,e2,e3⟩:=Zz1.mp hf
 cases e3
 refine isTrue_plain (h W ρ H fr s _ E _ _ r e1 fun W1 k1 t1 x l1 r1 x1=>?_) he
 exact Zeg Γ W1 ρ _ fr _ _ E _ x b r1 x1 e2 fun W2 k2 t2 l2 r2=>post W2 k2 t2 (l1.trans l2) r2
theorem Zz{e1 e2:Expr}{op:CmpOp}{pos:Pos}{f g:Ex}{o:V→V→Hp→Option (V×Hp)}(h1:J prog w Γ e1 f)(h2:J prog w Γ e2 g)(ho:Op2 prog w (compareOp op) o)(hm:behindInMarks op e2=false:=by with_unfolding_all rfl): JT prog w Γ (.Compare e1 [op] [e2] pos) (Zp (Za o f g)):=by
 intro W ρ H fr s Q E b H' r hf post
 obtain⟨pp,e0,hf0⟩:=Zz0.mp hf
 obtain⟨c,e4,e5⟩:=Zz1.mp hf0
 cases e5
 obtain⟨p,e1,hf⟩:=Zz0.mp e0
 obtain⟨q,e2,e3⟩:=Zz0.mp hf
 refine wpAny_isTrue_Compare1 (h1 W ρ H fr s _ E _ _ r e1 fun W1 k1 t1 x l1 r1 x1=>?_) hm
 refine h2 W1 ρ _ fr _ _ E _ _ r1 e2 fun W2 k2 t2 y l2 r2 y2=>?_
 refine ho Γ W2 ρ _ fr _ _ E _ _ x y _ _ r2 (x1.mono l2) y2 e3 fun W3 k3 t3 z l3 r3 z3=>?_
 exact Zeg Γ W3 ρ _ fr _ _ E _ z b r3 z3 e4 fun W4 k4 t4 l4 r4=>post W4 k4 t4 (((l1.trans l2).trans l3).trans l4) r4
end
end PM
end
section
namespace PM
open PySem PyProof.Rows PyProof
noncomputable def Zb4(a b:Int): Bool:=!(decide (Builtin.Int.intBits a>shortFactorBits) && decide (Builtin.Int.intBits b>shortFactorBits) && Builtin.Int.intTooBig (Builtin.Int.intBits a+Builtin.Int.intBits b))
theorem Zkr{a b:Int}(h:Zb4 a b=true): IntMulOk a b:=by
 unfold Zb4 at h
 unfold IntMulOk
 intro c
 rw[c]at h
 cases h
noncomputable def Zau: V→V→Hp→Option (V×Hp)
 | .int a,.int b,H=>some (.int (a-b),H)
 | _,_,_=>none
noncomputable def oDiv: V→V→Hp→Option (V×Hp)
 | .int a,.int b,H=>if b≠0∧Builtin.divisionGoesByPylong a b=false then some (.int (a.fdiv b),H)else none
 | _,_,_=>none
noncomputable def oMod: V→V→Hp→Option (V×Hp)
 | .int a,.int b,H=>if b≠0 then some (.int (a.fmod b),H)else none
 | _,_,_=>none
noncomputable def oPow: V→V→Hp→Option (V×Hp)
 | .int a,.int b,H=>if 0≤b∧(Builtin.Int.intBits a:Int)*b≤2 ^ 27 then some (.int (a ^ b.toNat),H)else none
 | _,_,_=>none
noncomputable def ZbN: V→Hp→Option (V×Hp)
 | .int a,H=>some (.int (-a),H)
 | _,_=>none
noncomputable def Zbb(p:Int→Int→Bool): V→V→Hp→Option (V×Hp)
 | .int a,.int b,H=>some (.bool (p a b),H)
 | _,_,_=>none
noncomputable def oLt:=Zbb fun a b=>decide (a<b)
noncomputable def oLe:=Zbb fun a b=>decide (a≤b)
noncomputable def oGt:=Zbb fun a b=>decide (b<a)
noncomputable def oGe:=Zbb fun a b=>decide (b≤a)
section
variable {prog:Program} {w:World}
theorem Zbp: Op2 prog w (binaryOp .Sub) Zau:=by
 intro Γ W ρ H fr s Q E a b x y v H' r hx hy ho post
 cases hx <;> first | (cases ho;done) | skip
 cases hy <;> first | (cases ho;done) | skip
 cases ho
 exact PySem.P.sub_int (post W s.heap _ _ (.refl W) r (.int _ _))
theorem ZbF: Op2 prog w (binaryOp .Mod) oMod:=by
 intro Γ W ρ H fr s Q E a b x y v H' r hx hy ho post
 cases hx <;> first | (cases ho;done) | skip
 cases hy <;> first | (cases ho;done) | skip
 rename_i i t j u
 simp only[oMod]at ho
 by_cases hb:j≠0
 ·rw[if_pos hb]at ho
  cases ho
  exact mod_int' hb (post W s.heap _ _ (.refl W) r (.int _ _))
 ·rw[if_neg hb]at ho
  cases ho
theorem Zdn: Op2 prog w (binaryOp .FloorDiv) oDiv:=by
 intro Γ W ρ H fr s Q E a b x y v H' r hx hy ho post
 cases hx <;> first | (cases ho;done) | skip
 cases hy <;> first | (cases ho;done) | skip
 rename_i i t j u
 simp only[oDiv]at ho
 by_cases hb:j≠0∧Builtin.divisionGoesByPylong i j=false
 ·rw[if_pos hb]at ho
  cases ho
  exact floordiv_int hb.1 (post W s.heap _ _ (.refl W) r (.int _ _)) (.inl hb.2)
 ·rw[if_neg hb]at ho
  cases ho
theorem Ze4: Op2 prog w (binaryOp .Pow) oPow:=by
 intro Γ W ρ H fr s Q E a b x y v H' r hx hy ho post
 cases hx <;> first | (cases ho;done) | skip
 cases hy <;> first | (cases ho;done) | skip
 rename_i i t j u
 simp only[oPow]at ho
 by_cases hb:0≤j∧(Builtin.Int.intBits i:Int)*j≤2 ^ 27
 ·rw[if_pos hb]at ho
  cases ho
  exact pow_int hb.1 hb.2 (post W s.heap _ _ (.refl W) r (.int _ _))
 ·rw[if_neg hb]at ho
  cases ho
theorem Zdo: Op1 prog w (unaryOp .USub) ZbN:=by
 intro Γ W ρ H fr s Q E a x v H' r hx ho post
 cases hx <;> first | (cases ho;done) | skip
 cases ho
 exact PySem.P.neg_int (post W s.heap _ _ (.refl W) r (.int _ _))
theorem Zbz: Op2 prog w (compareOp .Lt) oLt:=by
 intro Γ W ρ H fr s Q E a b x y v H' r hx hy ho post
 cases hx <;> first | (cases ho;done) | skip
 cases hy <;> first | (cases ho;done) | skip
 cases ho
 exact PySem.P.lt_int (post W s.heap s.toks _ (.refl W) r (.bool _))
theorem Zi2: Op2 prog w (compareOp .LtE) oLe:=by
 intro Γ W ρ H fr s Q E a b x y v H' r hx hy ho post
 cases hx <;> first | (cases ho;done) | skip
 cases hy <;> first | (cases ho;done) | skip
 cases ho
 exact PySem.P.le_int (post W s.heap s.toks _ (.refl W) r (.bool _))
theorem ZbA: Op2 prog w (compareOp .Gt) oGt:=by
 intro Γ W ρ H fr s Q E a b x y v H' r hx hy ho post
 cases hx <;> first | (cases ho;done) | skip
 cases hy <;> first | (cases ho;done) | skip
 cases ho
 exact PySem.P.gt_int (post W s.heap s.toks _ (.refl W) r (.bool _))
theorem ZgT: Op2 prog w (compareOp .GtE) oGe:=by
 intro Γ W ρ H fr s Q E a b x y v H' r hx hy ho post
 cases hx <;> first | (cases ho;done) | skip
 cases hy <;> first | (cases ho;done) | skip
 cases ho
 exact PySem.P.ge_int (post W s.heap s.toks _ (.refl W) r (.bool _))
end
end PM
end
section
namespace PM
open PySem PyProof.Rows PyProof
noncomputable def ZdC(f:V→Option PyData): List V→Option (List PyData)
 | []=>some []
 | v::vs=>(f v).bind fun d=>(ZdC f vs).bind fun ds=>some (d::ds)
noncomputable def toD(H:Hp): Nat→V→Option PyData
 | _,.none=>some .none
 | _,.bool b=>some (.bool b)
 | _,.int i=>some (.int i)
 | _,.str x=>some (.str x)
 | n+1,.tup vs=>(ZdC (toD H n) vs).map .tuple
 | n+1,.ref a=>H[a]?.bind fun vs=>(ZdC (toD H n) vs).map .list
 | 0,.tup _=>none
 | 0,.ref _=>none
 | _,.obj _ _=>none
theorem Zga{W:Wd}{h:Heap}{f:V→Option PyData}(ih:∀v x d,VR W v x→f v=some d→∃as,Reads h x d as): ∀{vs:List V} {xs:List Value} {ds:List PyData},VRs W vs xs→ZdC f vs=some ds→∃as,ReadsAll h xs ds as
 | _,_,_,.nil,e=>by
  cases e
  exact⟨_,.nil⟩
 | _,_,_,.cons a r,e=>by
  obtain⟨d,e1,e⟩:=Zz0.mp e
  obtain⟨ds,e2,e3⟩:=Zz0.mp e
  cases e3
  obtain⟨as,h1⟩:=ih _ _ _ a e1
  obtain⟨bs,h2⟩:=Zga ih r e2
  exact⟨_,.cons h1 h2⟩
theorem ZcA{Γ:Cx}{W:Wd}{ρ:Lc}{H:Hp}{fr:List (Addr×Obj)}{h:Heap}(r:Rep Γ W ρ H fr h): ∀(n:Nat) (v:V) (x:Value) (d:PyData),VR W v x→toD H n v=some d→∃as,Reads h x d as:=by
 intro n
 induction n with
 | zero=>
  intro v x d hv e
  cases hv with
  | none=>cases e;exact⟨_,.none⟩
  | bool b=>cases e;exact⟨_,.bool b⟩
  | int i t=>cases e;exact⟨_,.int i t⟩
  | str y t=>cases e;exact⟨_,.str y t⟩
  | tup _ _ _=>cases e
  | ref _=>cases e
  | obj _ _ _ _=>cases e
 | succ n ih=>
  intro v x d hv e
  cases hv with
  | none=>cases e;exact⟨_,.none⟩
  | bool b=>cases e;exact⟨_,.bool b⟩
  | int i t=>cases e;exact⟨_,.int i t⟩
  | str y t=>cases e;exact⟨_,.str y t⟩
  | @tup vs a xs k hm hl hs=>
   obtain⟨ds,e1,e2⟩:=Zz1.mp e
   subst e2
   obtain⟨as,h1⟩:=Zga ih hs e1
   exact⟨_,.tuple (r.tupAt hm) rfl rfl (by simpa using h1)⟩
  | @ref i a ea=>
   obtain⟨vs,e0,e⟩:=Zz0.mp e
   obtain⟨ds,e1,e2⟩:=Zz1.mp e
   subst e2
   obtain⟨hl,xs,k,hg,hs⟩:=r.at e0 ea
   obtain⟨as,h1⟩:=Zga ih hs e1
   exact⟨_,.list hg rfl rfl (by simpa using h1)⟩
  | obj _ _ _ _=>cases e
noncomputable def ZaF: Nat:=40
noncomputable def Zb6(a b:V)(H:Hp): Option Bool:=(toD H ZaF a).bind fun d=>(toD H ZaF b).bind fun e=>if SeqAt.shaped d=true∧SeqAt.shaped e=true then some (PyData.eqv d e)else none
noncomputable def ZU(a b:V)(H:Hp): Option (V×Hp):=(Zb6 a b H).map fun c=>(.bool c,H)
noncomputable def oNe(a b:V)(H:Hp): Option (V×Hp):=(Zb6 a b H).map fun c=>(.bool (!c),H)
noncomputable def oIs: V→V→Hp→Option (V×Hp)
 | .none,.none,H=>some (.bool true,H)
 | .bool _,.none,H=>some (.bool false,H)
 | .int _,.none,H=>some (.bool false,H)
 | .str _,.none,H=>some (.bool false,H)
 | .tup _,.none,H=>some (.bool false,H)
 | .ref _,.none,H=>some (.bool false,H)
 | .obj _ _,.none,H=>some (.bool false,H)
 | _,_,_=>none
noncomputable def Zcb(a b:V)(H:Hp): Option (V×Hp):=(oIs a b H).bind fun p=>match p.1 with | .bool c=>some (.bool (!c),p.2) | _=>none
section
variable {prog:Program} {w:World}
theorem Zai: Op2 prog w (compareOp .Eq) ZU:=by
 intro Γ W ρ H fr s Q E a b x y v H' r hx hy ho post
 obtain⟨c,e1,e2⟩:=Zz1.mp ho
 cases e2
 obtain⟨d,h1,e1⟩:=Zz0.mp e1
 obtain⟨e,h2,e1⟩:=Zz0.mp e1
 by_cases hs:SeqAt.shaped d=true∧SeqAt.shaped e=true
 ·rw[if_pos hs]at e1
  cases e1
  obtain⟨as,R1⟩:=ZcA r ZaF a x d hx h1
  obtain⟨bs,R2⟩:=ZcA r ZaF b y e hy h2
  exact eq_dataH R1 R2 hs.1 hs.2 (by have:=Γ.hu;omega) (post W s.heap s.toks _ (.refl W) r (.bool _))
 ·rw[if_neg hs]at e1
  cases e1
theorem ZcX: Op2 prog w (compareOp .NotEq) oNe:=by
 intro Γ W ρ H fr s Q E a b x y v H' r hx hy ho post
 obtain⟨c,e1,e2⟩:=Zz1.mp ho
 cases e2
 obtain⟨d,h1,e1⟩:=Zz0.mp e1
 obtain⟨e,h2,e1⟩:=Zz0.mp e1
 by_cases hs:SeqAt.shaped d=true∧SeqAt.shaped e=true
 ·rw[if_pos hs]at e1
  cases e1
  obtain⟨as,R1⟩:=ZcA r ZaF a x d hx h1
  obtain⟨bs,R2⟩:=ZcA r ZaF b y e hy h2
  exact ne_dataH R1 R2 hs.1 hs.2 (by have:=Γ.hu;omega) (post W s.heap s.toks _ (.refl W) r (.bool _))
 ·rw[if_neg hs]at e1
  cases e1
theorem ZhU: Op2 prog w (compareOp .IsNot) Zcb:=by
 intro Γ W ρ H fr s Q E a b x y v H' r hx hy ho post
 cases hy <;> first | (cases hx <;> cases ho;done) | skip
 refine PySem.isNot_none ?_
 cases hx <;> (cases ho;exact post W s.heap s.toks _ (.refl W) r (.bool _))
end
end PM
end
section
namespace PM
open PySem PyProof.Rows PyProof
noncomputable def Zh: V→V→Hp→Option (V×Hp)
 | .ref a,.int k,H=>H[a]?.bind fun vs=>(seqIndex? k vs.length).bind fun j=>vs[j]?.map fun v=>(v,H)
 | .tup vs,.int k,H=>(seqIndex? k vs.length).bind fun j=>vs[j]?.map fun v=>(v,H)
 | _,_,_=>none
theorem Zhx{k:Int}{n j:Nat}(h:seqIndex? k n=some j): j<n∧(k:Int)<n∧-(n:Int)≤k∧(0≤k→k.toNat=j)∧(k<0→(k+n).toNat=j):=by
 unfold seqIndex? at h
 by_cases c:k<0
 ·simp only[c,if_true]at h
  split at h
  ·rename_i d
   simp at d h
   omega
  ·cases h
 ·simp only[c,if_false]at h
  split at h
  ·rename_i d
   simp at d h
   omega
  ·cases h
section
variable {prog:Program} {w:World} {Γ:Cx}
theorem Zt{e1 e2:Expr}{pos:Pos}{f g:Ex}(h1:J prog w Γ e1 f)(h2:J prog w Γ e2 g)(hs:∀a k u,subscripted e2 false (.ref a) (.int k u)=operate [.ref a,.int k u] (getItem (.ref a) (.int k u)):=by intros;with_unfolding_all rfl): J prog w Γ (.Subscript e1 e2 pos) (Za Zh f g):=by
 intro W ρ H fr s Q E v H' r hf post
 obtain⟨p,e1,hf⟩:=Zz0.mp hf
 obtain⟨q,e2,e3⟩:=Zz0.mp hf
 refine Subscript_ (h1 W ρ H fr s _ E _ _ r e1 fun W1 k1 t1 x l1 r1 x1=>?_)
 refine h2 W1 ρ _ fr _ _ E _ _ r1 e2 fun W2 k2 t2 y l2 r2 y2=>?_
 have x2:=x1.mono l2
 obtain⟨v1,H1⟩:=p
 obtain⟨v2,H2⟩:=q
 simp only at e3 r2 x2 y2
 cases y2 <;> first | (cases x2 <;> cases e3;done) | skip
 rename_i k u
 cases x2 <;> first | (cases e3;done) | skip
 ·rename_i vs a xs kk hm hl hv
  obtain⟨j,hj,e4⟩:=Zz0.mp e3
  obtain⟨z,hz,e5⟩:=Zz1.mp e4
  cases e5
  obtain⟨z',hz',rz⟩:=hv.at hz
  have hx:xs.length=vs.length:=hv.length
  have hb:=Zhx hj
  rw[Zav]at hl
  have it:IsTup k2 a xs.toArray:=⟨_,r2.tupAt hm,rfl,kk,rfl⟩
  exact item_tupleT it (by omega) (by omega) (by rw[hx];exact hj) hz' (post W2 k2 t2 z' (l1.trans l2) r2 rz) (hs _ _ _)
 ·rename_i i a ea
  obtain⟨vs,hvs,e3⟩:=Zz0.mp e3
  obtain⟨j,hj,e4⟩:=Zz0.mp e3
  obtain⟨z,hz,e5⟩:=Zz1.mp e4
  cases e5
  obtain⟨hl,xs,kk,hg,hv⟩:=r2.at hvs ea
  obtain⟨z',hz',rz⟩:=hv.at hz
  have hx:xs.length=vs.length:=hv.length
  have hb:=Zhx hj
  rw[Zav]at hl
  have isl:k2.IsList a xs.toArray:=⟨_,hg,rfl,kk,rfl⟩
  refine tail_any (s:={ s with heap:=k2,toks:=t2 }) isl.typeIs slot_list_getitem.lookup ?_ (hs _ _ _)
  by_cases hk:0≤k
  ·exact wpAny_getItem_list isl hk (by omega) (by rw[hb.2.2.2.1 hk];simpa using hz') (post W2 k2 t2 z' (l1.trans l2) r2 rz)
  ·refine wpAny_getItem_list_neg isl (by omega) (by simp;omega) (by omega) ?_ (post W2 k2 t2 z' (l1.trans l2) r2 rz)
   have:=hb.2.2.2.2 (by omega)
   rw[←hx]at this
   simpa [this]using hz'
end
noncomputable def Zbc{α:Type}(vs:List α)(lo hi:Option Int): List α:=(sliceRange (sliceBounds lo hi none vs.length).1 (sliceBounds lo hi none vs.length).2.1 (sliceBounds lo hi none vs.length).2.2).filterMap fun i=>vs[i]?
theorem VRs.pick{W:Wd}{vs:List V}{xs:List Value}(h:VRs W vs xs)(l:List Nat): VRs W (l.filterMap fun i=>vs[i]?) (l.filterMap fun i=>xs[i]?):=by
 induction l with
 | nil=>exact .nil
 | cons i l ih=>
  simp only[List.filterMap_cons]
  have hl:=h.length
  cases e:vs[i]? with
  | none=>
   have:xs[i]?=none:=by rw[List.getElem?_eq_none_iff]at e ⊢;omega
   rw[this]
   exact ih
  | some v=>
   obtain⟨x,hx,hr⟩:=h.at e
   rw[hx]
   exact .cons hr ih
theorem Zks{α:Type}(vs:List α)(lo hi:Option Int): (Zbc vs lo hi).length≤vs.length:=by
 unfold Zbc
 refine Nat.le_trans (List.length_filterMap_le _ _) ?_
 refine sliceRange_length_le _ _ _ _ (fun _=>?_) fun c=>?_
 ·unfold sliceBounds
  cases lo <;> cases hi <;> simp <;> omega
 ·exact absurd (by unfold sliceBounds;simp) c
theorem Zkt{α:Type}(vs:List α)(a:Nat): ∀m:Nat,a+m≤vs.length→((List.range m).map fun k=>a+k).filterMap (fun i=>vs[i]?)=(vs.drop a).take m:=by
 intro m
 induction m with
 | zero=>intro _;simp
 | succ m ih=>
  intro h
  rw[List.range_succ,List.map_append,List.filterMap_append,ih (by omega),List.take_add_one]
  congr 1
  simp only[List.map_cons,List.map_nil,List.filterMap_cons,List.filterMap_nil,List.getElem?_drop]
  cases e:vs[a+m]? with
  | none=>rw[List.getElem?_eq_none_iff]at e;omega
  | some v=>rfl
theorem ZeY{α:Type}(vs:List α)(lo hi:Option Int){a b:Nat}(ha:(sliceBounds lo hi none vs.length).1=(a:Int))(hb:(sliceBounds lo hi none vs.length).2.1=(b:Int))(h:b≤vs.length): Zbc vs lo hi=(vs.drop a).take (b-a):=by
 have hc:(sliceBounds lo hi none vs.length).2.2=1:=by unfold sliceBounds;rfl
 unfold Zbc
 rw[ha,hb,hc]
 have e:sliceRange (a:Int) (b:Int) 1=(List.range (b-a)).map fun k=>a+k:=by
  unfold sliceRange
  simp only[show(1:Int)>0 from by decide,if_true]
  by_cases c:(a:Int)<b
  ·rw[if_pos c]
   have:((b:Int)-a+1-1) / 1=((b-a:Nat):Int):=by omega
   rw[this]
   simp only[Int.toNat_natCast]
   refine List.map_congr_left fun k _=>?_
   omega
  ·rw[if_neg c]
   have:b-a=0:=by omega
   rw[this]
   rfl
 rw[e]
 by_cases c:a≤b
 ·exact Zkt vs a (b-a) (by omega)
 ·have:b-a=0:=by omega
  rw[this]
  simp
theorem Zj4{α:Type}(vs:List α){k:Int}{a:Nat}(e:k=(a:Int)): Zbc vs (some k) none=vs.drop a:=by
 by_cases h:a≤vs.length
 ·rw[ZeY vs (some k) none (a:=a) (b:=vs.length) (by unfold sliceBounds;simp;omega) (by unfold sliceBounds;simp) (Zz10 _)]
  rw[List.take_of_length_le (by simp)]
 ·rw[ZeY vs (some k) none (a:=vs.length) (b:=vs.length) (by unfold sliceBounds;simp;omega) (by unfold sliceBounds;simp) (Zz10 _)]
  simp
  omega
theorem Zia{α:Type}(vs:List α){k:Int}{a:Nat}(e:k=(a:Int)): Zbc vs none (some k)=vs.take a:=by
 by_cases h:a≤vs.length
 ·rw[ZeY vs none (some k) (a:=0) (b:=a) (by unfold sliceBounds;simp) (by unfold sliceBounds;simp;omega) h]
  simp
 ·rw[ZeY vs none (some k) (a:=0) (b:=vs.length) (by unfold sliceBounds;simp) (by unfold sliceBounds;simp;omega) (Zz10 _)]
  rw[List.drop_zero,Nat.sub_zero,List.take_of_length_le (Zz10 _),List.take_of_length_le (by omega)]
noncomputable def Zds: Option V→Option (Option Int)
 | none=>some none
 | some (.int k)=>some (some k)
 | _=>none
noncomputable abbrev Pt:=Lc→Hp→Option (Option V×Hp)
noncomputable def ZbI: Pt:=fun _ H=>some (none,H)
noncomputable def ZbJ(f:Ex): Pt:=fun ρ H=>(f ρ H).map fun p=>(some p.1,p.2)
noncomputable def Zby(f:Ex)(lo hi:Pt): Ex:=fun ρ H=>(f ρ H).bind fun p=>(lo ρ p.2).bind fun q=>(hi ρ q.2).bind fun u=>(Zds q.1).bind fun a=>(Zds u.1).bind fun b=>match p.1 with
 | .ref i=>u.2[i]?.bind fun vs=>some (.ref u.2.length,u.2++[Zbc vs a b])
 | _=>none
inductive VP(W:Wd): Option V→Value→Prop where
 | none:VP W none .none
 | some {v:V} {x:Value}:VR W v x→VP W (some v) x
theorem VP.mono{W W':Wd}{v:Option V}{x:Value}(l:W.Le W')(h:VP W v x): VP W' v x:=by
 cases h with
 | none=>exact .none
 | some h=>exact .some (h.mono l)
theorem VP.part{W:Wd}{v:Option V}{x:Value}{k:Option Int}(h:VP W v x)(e:Zds v=Option.some k): IsPart x k:=by
 cases h with
 | none=>cases e;exact .none
 | some h=>cases h <;> cases e;exact .int _ _
noncomputable def JP(prog:Program)(w:World)(Γ:Cx)(e:Option Expr)(f:Pt): Prop:=∀(W:Wd) (ρ:Lc) (H:Hp) (fr:List (Addr×Obj)) (s:Shared) (Q E:Value→Shared→Prop) (v:Option V) (H':Hp),
 Rep Γ W ρ H fr s.heap→f ρ H=some (v,H')→(∀(W':Wd) (h':Heap) (tk':Nat) (x:Value),W.Le W'→Rep Γ W' ρ H' fr h'→VP W' v x→Q x { s with heap:=h',toks:=tk' })→wpAny (model prog w) Γ.A (evalPart e Γ.env) Q E s
section
variable {prog:Program} {w:World} {Γ:Cx}
theorem JP.none: JP prog w Γ none ZbI:=fun W ρ H fr s Q E v H' r hf post=>by
 cases hf
 exact wpAny_evalPart_none (post W s.heap s.toks _ (.refl W) r .none)
theorem JP.some{e:Expr}{f:Ex}(h:J prog w Γ e f): JP prog w Γ (some e) (ZbJ f):=fun W ρ H fr s Q E v H' r hf post=>by
 obtain⟨p,e1,e2⟩:=Zz1.mp hf
 cases e2
 exact wpAny_evalPart_some (h W ρ H fr s _ E _ _ r e1 fun W1 k1 t1 x l1 r1 x1=>post W1 k1 t1 x l1 r1 (.some x1))
theorem ZeZ{e:Expr}{lo hi:Option Expr}{p pos:Pos}{f:Ex}{a b:Pt}(h:J prog w Γ e f)(hlo:JP prog w Γ lo a)(hhi:JP prog w Γ hi b)(ht:∀o r,letTemporaryGo e o r=pure ():=by intro _ _;rfl): J prog w Γ (.Subscript e (.Slice lo hi Option.none p) pos) (Zby f a b):=by
 intro W ρ H fr s Q E v H' r hf post
 obtain⟨p,e1,hf⟩:=Zz0.mp hf
 obtain⟨q,e2,hf⟩:=Zz0.mp hf
 obtain⟨u,e3,hf⟩:=Zz0.mp hf
 obtain⟨ka,e4,hf⟩:=Zz0.mp hf
 obtain⟨kb,e5,hf⟩:=Zz0.mp hf
 refine wpAny_Subscript_list_slice (h W ρ H fr s _ E _ _ r e1 fun W1 k1 t1 x l1 r1 x1=>?_) ht
 refine hlo W1 ρ _ fr _ _ E _ _ r1 e2 fun W2 k2 t2 y l2 r2 y2=>?_
 refine hhi W2 ρ _ fr _ _ E _ _ r2 e3 fun W3 k3 t3 z l3 r3 z3=>?_
 have x3:=x1.mono (l2.trans l3)
 obtain⟨v1,H1⟩:=p
 simp only at hf x3
 cases x3 with
 | none=>cases hf
 | bool _=>cases hf
 | int _ _=>cases hf
 | str _ _=>cases hf
 | tup _ _ _=>cases hf
 | obj _ _ _ _=>cases hf
 | @ref i a ea=>
  obtain⟨vs,hvs,e6⟩:=Zz0.mp hf
  cases e6
  obtain⟨hl,xs,kk,hg,hv⟩:=r3.at hvs ea
  have isl:k3.IsList a xs.toArray:=⟨_,hg,rfl,kk,rfl⟩
  refine⟨a,xs.toArray,ka,kb,rfl,isl,ZbS (by simp[hv.length];exact hl),(y2.mono l3).part e4,z3.part e5,?_⟩
  have hp:VRs W3 (Zbc vs ka kb) (Zbc xs ka kb):=by
   unfold Zbc
   rw[hv.length]
   exact hv.pick _
  have hx:slicePick xs.toArray ka kb Option.none=(Zbc xs ka kb).toArray:=by
   unfold slicePick Zbc
   simp
  obtain⟨W4,l4,r4,v4⟩:=(r3.push { cls:=.type "slice",data:=.fields #[y,z,.none] }).list (k:=0) hp (Nat.le_trans (Zks vs ka kb) hl)
  rw[hx]
  have:=post W4 _ t3 _ (((l1.trans l2).trans l3).trans l4) r4 v4
  rw[Heap.size_push]at this
  exact this
end
end PM
end
section
namespace PM
open PySem PyProof.Rows PyProof
noncomputable def Nm(prog:Program)(w:World)(Γ:Cx)(x:Str)(v:Value): Prop:=∀(pos:Pos) (m:Str→Option Value) (s:Shared) (Q E:Value→Shared→Prop),Fr Γ.h₀ Γ.L s.heap m→Q v s→wpAny (model prog w) Γ.A (eval (.Name x pos) Γ.env) Q E s
theorem Nm.use{prog:Program}{w:World}{Γ:Cx}{x:Str}{y:Value}(h:Nm prog w Γ x y){pos:Pos}{W:Wd}{ρ:Lc}{H:Hp}{fr:List (Addr×Obj)}{s:Shared}{Q E:Value→Shared→Prop}(r:Rep Γ W ρ H fr s.heap)(q:Q y s): wpAny (model prog w) Γ.A (eval (.Name x pos) Γ.env) Q E s:=by
 obtain⟨m,c,led,r⟩:=r
 exact h pos m s Q E r.F q
noncomputable def OpN(prog:Program)(w:World)(m:List Value→Sem Value)(o:List V→Hp→Option (V×Hp)): Prop:=∀(Γ:Cx) (W:Wd) (ρ:Lc) (H:Hp) (fr:List (Addr×Obj)) (s:Shared) (Q E:Value→Shared→Prop) (as:List V) (xs:List Value) (v:V) (H':Hp),
 Rep Γ W ρ H fr s.heap→VRs W as xs→o as H=some (v,H')→Zdz Γ W ρ H' fr s Q v→wpAny (model prog w) Γ.A (m xs) Q E s
noncomputable def Ze(o:List V→Hp→Option (V×Hp))(g:ZW): Ex:=fun ρ H=>(g ρ H).bind fun p=>o p.1 p.2
section
variable {prog:Program} {w:World} {Γ:Cx}
theorem Zaq{x:Str}{np pos:Pos}{id:String}{e:Expr}{es:List Expr}{g:ZW}{o:List V→Hp→Option (V×Hp)}(hn:Nm prog w Γ x (.builtin id))(h:Js prog w Γ (e::es) g)(ho:OpN prog w (fun xs=>call (.builtin id) xs) o)
  (he:starEach (e::es) Γ.env=(false,eval e Γ.env)::starEach es Γ.env:=by rfl) (hp:∀pos,(backTo pos (starEach es Γ.env)).any (·.1)=false:=by intro _;rfl):J prog w Γ (.Call (.Name x np) (e::es) [] pos) (Ze o g):=by
 intro W ρ H fr s Q E v H' r hf post
 obtain⟨p,e1,hf⟩:=Zz0.mp hf
 refine wpAny_Call_ofName (hn.use r ?_)
 refine callWith_builtin1 (h pos W ρ H fr s _ E _ _ r e1 fun W1 k1 t1 xs l1 r1 x1=>?_) he (hp pos)
 exact ho Γ W1 ρ _ fr _ Q E _ xs v H' r1 x1 hf fun W2 k2 t2 y l2 r2 y2=>post W2 k2 t2 y (l1.trans l2) r2 y2
theorem Zib{x:Str}{np pos:Pos}{T:String}{e:Expr}{es:List Expr}{g:ZW}{o:List V→Hp→Option (V×Hp)}(hn:Nm prog w Γ x (.type T))(h:Js prog w Γ (e::es) g)(ho:OpN prog w (fun xs=>call (.type T) xs) o)
  (he:starEach (e::es) Γ.env=(false,eval e Γ.env)::starEach es Γ.env:=by rfl) (hp:∀pos,(backTo pos (starEach es Γ.env)).any (·.1)=false:=by intro _;rfl):J prog w Γ (.Call (.Name x np) (e::es) [] pos) (Ze o g):=by
 intro W ρ H fr s Q E v H' r hf post
 obtain⟨p,e1,hf⟩:=Zz0.mp hf
 refine wpAny_Call_ofName (hn.use r ?_)
 refine PySem.Pv.callWith_type1 (h pos W ρ H fr s _ E _ _ r e1 fun W1 k1 t1 xs l1 r1 x1=>?_) he (hp pos)
 exact ho Γ W1 ρ _ fr _ Q E _ xs v H' r1 x1 hf fun W2 k2 t2 y l2 r2 y2=>post W2 k2 t2 y (l1.trans l2) r2 y2
end
noncomputable def ZgD: V→String
 | .none=>"NoneType"
 | .bool _=>"bool"
 | .int _=>"int"
 | .str _=>"str"
 | .tup _=>"tuple"
 | .ref _=>"list"
 | .obj _ _=>"object"
noncomputable def ZbG(T:String)(v:V): Bool:=ZgD v == T || (T == "int" && ZgD v == "bool")
noncomputable def Zeh: V→Bool
 | .obj _ _=>true
 | _=>false
noncomputable def eIs(T:String)(f:Ex): Ex:=fun ρ H=>(f ρ H).bind fun p=>if Zeh p.1 then none else some (.bool (ZbG T p.1),p.2)
section
variable {prog:Program} {w:World} {Γ:Cx}
theorem isinst{T:String}(hT:T="int"∨T="bool"∨T="list"∨T="tuple"){W:Wd}{ρ:Lc}{H:Hp}{fr:List (Addr×Obj)}{s:Shared}{Q E:Value→Shared→Prop}{a:V}{x:Value}(r:Rep Γ W ρ H fr s.heap)(hx:VR W a x)(hin:∀i,a=.ref i→i<H.length)(hob:Zeh a=false)
  (post:∀tk,Q (.bool (ZbG T a)) { s with toks:=tk }):wpAny (model prog w) Γ.A (call (.builtin "isinstance") [x,.type T]) Q E s:=by
 cases hx with
 | none=>
      rcases hT with e | e | e | e <;> subst e
      ·exact call_isinstance (isinstance_false_none (by decide +kernel) F.isi_meta_int (by rw[isSubtype_type];kernel_rfl)) (post _)
      ·exact call_isinstance (isinstance_false_none (by decide +kernel) F.isi_meta_bool (by rw[isSubtype_type];kernel_rfl)) (post _)
      ·exact call_isinstance (isinstance_false_none (by decide +kernel) F.isi_meta_list (by rw[isSubtype_type];kernel_rfl)) (post _)
      ·exact call_isinstance (isinstance_false_none (by decide +kernel) F.isi_meta_tuple (by rw[isSubtype_type];kernel_rfl)) (post _)
 | bool b=>
       rcases hT with e | e | e | e <;> subst e
       ·exact IsiPair.bool_int (post s.toks)
       ·exact IsiPair.bool_bool (post s.toks)
       ·exact IsiPair.bool_list (post _)
       ·exact IsiPair.bool_tuple (post _)
 | int i t=>
       rcases hT with e | e | e | e <;> subst e
       ·exact IsiPair.int_int (post s.toks)
       ·exact IsiPair.int_bool (post _)
       ·exact IsiPair.int_list (post _)
       ·exact IsiPair.int_tuple (post _)
 | str y t=>
       rcases hT with e | e | e | e <;> subst e
       ·exact IsiPair.str_int (post _)
       ·exact IsiPair.str_bool (post _)
       ·exact IsiPair.str_list (post _)
       ·exact IsiPair.str_tuple (post _)
 | tup hm hl hs=>
  have hg:=r.tupAt hm
  rcases hT with e | e | e | e <;> subst e
  ·exact IsiPair.tuple_int hg rfl (post _)
  ·exact IsiPair.tuple_bool hg rfl (post _)
  ·exact IsiPair.tuple_list hg rfl (post _)
  ·exact IsiPair.tuple_tuple hg rfl (post s.toks)
 | @ref i a ea=>
  obtain⟨hl,xs,k,hg,hv⟩:=r.at (Zy1 (hin i rfl)) ea
  rcases hT with e | e | e | e <;> subst e
  ·exact IsiPair.list_int hg rfl (post _)
  ·exact IsiPair.list_bool hg rfl (post _)
  ·exact IsiPair.list_list hg rfl (post s.toks)
  ·exact IsiPair.list_tuple hg rfl (post _)
 | obj _ _ _ _=>cases hob
end
theorem Rep.refIn{Γ:Cx}{W:Wd}{ρ:Lc}{H:Hp}{fr:List (Addr×Obj)}{h:Heap}{i:Nat}{x:Value}(r:Rep Γ W ρ H fr h)(hx:VR W (.ref i) x): i<H.length:=by
 obtain⟨m,c,led,r⟩:=r
 cases hx with
 | ref e=>rw[←r.R.len];exact(Zz6.mp e.1).1
section
variable {prog:Program} {w:World} {Γ:Cx}
theorem ZhV{np tp pos:Pos}{x y:Str}{T:String}{e:Expr}{f:Ex}(hn:Nm prog w Γ x (.builtin "isinstance"))(hy:Nm prog w Γ y (.type T))(hT:T="int"∨T="bool"∨T="list"∨T="tuple")(h:J prog w Γ e f)
  (he:starEach [e,.Name y tp] Γ.env=(false,eval e Γ.env)::starEach [.Name y tp] Γ.env:=by rfl) (hp:∀pos,(backTo pos (starEach [.Name y tp] Γ.env)).any (·.1)=false:=by intro _;rfl):J prog w Γ (.Call (.Name x np) [e,.Name y tp] [] pos) (eIs T f):=by
 intro W ρ H fr s Q E v H' r hf post
 obtain⟨p,e1,e2⟩:=Zz0.mp hf
 by_cases hob:Zeh p.1=true
 ·rw[if_pos hob]at e2;cases e2
 rw[if_neg hob]at e2
 cases e2
 refine wpAny_Call_ofName (hn.use r ?_)
 refine callWith_builtin1 (wpAny_items_cons (h W ρ H fr s _ E _ _ r e1 fun W1 k1 t1 z l1 r1 z1=>?_) he) he (hp pos)
 refine wpAny_items_cons (hy.use (s:={ s with heap:=k1,toks:=t1 }) r1 ?_)
 refine wpAny_items_nil ?_
 exact PM.isinst hT r1 z1 (fun i e=>by rw[e]at z1;exact r1.refIn z1) (by simpa using hob) fun tk=>post W1 k1 tk _ l1 r1 (.bool _)
end
noncomputable def Z2: List V→Hp→Option (V×Hp)
 | [.ref a],H=>H[a]?.map fun vs=>(.int vs.length,H)
 | [.tup vs],H=>some (.int vs.length,H)
 | _,_=>none
noncomputable def Zcr: List V→Hp→Option (V×Hp)
 | [.int a],H=>some (.int (if a<0 then -a else a),H)
 | _,_=>none
noncomputable def Zei: List V→Hp→Option (V×Hp)
 | [.int a,.int b],H=>some (.int (if b>a then b else a),H)
 | _,_=>none
noncomputable def Zcd: List V→Hp→Option (V×Hp)
 | [.int a,.int b],H=>some (.int (if b<a then b else a),H)
 | _,_=>none
noncomputable def Ziz: List V→Option (List Int)
 | []=>some []
 | .int k::vs=>(Ziz vs).map fun ks=>k::ks
 | _::_=>none
noncomputable def Zop: List V→Hp→Option (V×Hp)
 | [.ref a],H=>H[a]?.bind fun vs=>(Ziz vs).map fun ks=>(.int ks.sum,H)
 | _,_=>none
theorem VRs.one{W:Wd}{v:V}{xs:List Value}(h:VRs W [v] xs): ∃x,xs=[x]∧VR W v x:=by
 cases h with
 | cons a b=>cases b;exact⟨_,rfl,a⟩
theorem VRs.two{W:Wd}{v u:V}{xs:List Value}(h:VRs W [v,u] xs): ∃x y,xs=[x,y]∧VR W v x∧VR W u y:=by
 cases h with
 | cons a b=>obtain⟨y,e,r⟩:=b.one;subst e;exact⟨_,_,rfl,a,r⟩
noncomputable def ZO: V→V→Hp→Option (V×Hp)
 | .int a,.int b,H=>some (.int (a+b),H)
 | .ref a,.ref b,H=>H[a]?.bind fun vs=>H[b]?.bind fun us=>if(vs++us).length≤ZX then some (.ref H.length,H++[vs++us])else none
 | .tup vs,.tup us,H=>if(vs++us).length≤ZX then some (.tup (vs++us),H)else none
 | _,_,_=>none
noncomputable def Zc3(vs:List V): Nat→List V
 | 0=>[]
 | n+1=>Zc3 vs n++vs
noncomputable def ZbX: V→V→Hp→Option (V×Hp)
 | .int a,.int b,H=>if Zb4 a b=true then some (.int (a*b),H)else none
 | .ref a,.int k,H=>H[a]?.bind fun vs=>if vs.length*k.toNat≤ZX∧-(2 ^ 63:Int)≤k∧k<2 ^ 63 then some (.ref H.length,H++[Zc3 vs k.toNat])else none
 | _,_,_=>none
section
variable {prog:Program} {w:World}
theorem ZaB: OpN prog w (fun xs=>call (.builtin "len") xs) Z2:=by
 intro Γ W ρ H fr s Q E as xs v H' r hx ho post
 unfold Z2 at ho
 split at ho
 ·rename_i a
  obtain⟨vs,e1,e2⟩:=Zz1.mp ho
  cases e2
  obtain⟨x,ex,rx⟩:=hx.one
  subst ex
  cases rx with
  | ref ea=>
   obtain⟨hl,ys,k,hg,hv⟩:=r.at e1 ea
   have isl:s.heap.IsList _ ys.toArray:=⟨_,hg,rfl,k,rfl⟩
   have e3:(ys.toArray.size:Int)=vs.length:=by simp[hv.length]
   rw[Zav]at hl
   refine Calls.call_len_list isl (by rw[e3];omega) ?_
   rw[e3]
   exact post W s.heap _ _ (.refl W) r (.int _ _)
 ·rename_i vs
  cases ho
  obtain⟨x,ex,rx⟩:=hx.one
  subst ex
  cases rx with
  | @tup _ a ys k hm hl hs=>
   have it:IsTup s.heap a ys.toArray:=⟨_,r.tupAt hm,rfl,k,rfl⟩
   have e3:(ys.toArray.size:Int)=vs.length:=by simp[hs.length]
   rw[Zav]at hl
   refine len_tuple it (by rw[e3];omega) ?_
   rw[e3]
   exact post W s.heap _ _ (.refl W) r (.int _ _)
 ·cases ho
theorem ZiA: OpN prog w (fun xs=>call (.builtin "abs") xs) Zcr:=by
 intro Γ W ρ H fr s Q E as xs v H' r hx ho post
 unfold Zcr at ho
 split at ho
 ·cases ho
  obtain⟨x,ex,rx⟩:=hx.one
  subst ex
  cases rx with
  | int i t=>exact call_abs_int fun u tk=>post W s.heap tk _ (.refl W) r (.int _ _)
 ·cases ho
theorem ZkU: OpN prog w (fun xs=>call (.builtin "max") xs) Zei:=by
 intro Γ W ρ H fr s Q E as xs v H' r hx ho post
 unfold Zei at ho
 split at ho
 ·cases ho
  obtain⟨x,y,ex,rx,ry⟩:=hx.two
  subst ex
  cases rx with
  | int i t=>
   cases ry with
   | int j u=>
    refine max_two_ints Γ.hh fun h' tk up=>?_
    split
    ·rename_i c
     rw[if_pos c]at post
     exact post W h' tk _ (.refl W) (r.grown up) (.int _ _)
    ·rename_i c
     rw[if_neg c]at post
     exact post W h' tk _ (.refl W) (r.grown up) (.int _ _)
 ·cases ho
theorem Zic: OpN prog w (fun xs=>call (.builtin "min") xs) Zcd:=by
 intro Γ W ρ H fr s Q E as xs v H' r hx ho post
 unfold Zcd at ho
 split at ho
 ·cases ho
  obtain⟨x,y,ex,rx,ry⟩:=hx.two
  subst ex
  cases rx with
  | int i t=>
   cases ry with
   | int j u=>
    refine min_two_ints Γ.hh fun h' tk up=>?_
    split
    ·rename_i c
     rw[if_pos c]at post
     exact post W h' tk _ (.refl W) (r.grown up) (.int _ _)
    ·rename_i c
     rw[if_neg c]at post
     exact post W h' tk _ (.refl W) (r.grown up) (.int _ _)
 ·cases ho
theorem ZaK: Op2 prog w (binaryOp .Add) ZO:=by
 intro Γ W ρ H fr s Q E a b x y v H' r hx hy ho post
 unfold ZO at ho
 split at ho
 ·cases ho
  cases hx;cases hy
  exact PySem.P.add_int (post W s.heap _ _ (.refl W) r (.int _ _))
 ·obtain⟨vs,e1,ho⟩:=Zz0.mp ho
  obtain⟨us,e2,ho⟩:=Zz0.mp ho
  by_cases hl:(vs++us).length≤ZX
  ·rw[if_pos hl]at ho
   cases ho
   cases hx with
   | ref ea=>
   cases hy with
   | ref eb=>
   obtain⟨l1,ys,k,hg,hv⟩:=r.at e1 ea
   obtain⟨l2,zs,k2,hg2,hv2⟩:=r.at e2 eb
   obtain⟨m,c,led,r'⟩:=r
   have i1:s.heap.IsList _ ys.toArray:=⟨_,hg,rfl,k,rfl⟩
   have i2:s.heap.IsList _ zs.toArray:=⟨_,hg2,rfl,k2,rfl⟩
   refine add_lists (hsz:=ZbS (by rw[hv.length,hv2.length,←List.length_append];exact hl)) r'.F r'.N i1 i2 fun h' F' N'=>?_
   obtain⟨W2,le2,r2,v2⟩:=r'.newList F' N' r'.off (hv.append hv2) hl
   exact post W2 h' s.toks _ le2 r2 v2
  ·rw[if_neg hl]at ho
   cases ho
 ·rename_i vs us
  by_cases hl:(vs++us).length≤ZX
  ·rw[if_pos hl]at ho
   cases ho
   cases hx with
   | @tup _ a ys k hm h1 hv=>
   cases hy with
   | @tup _ b zs k2 hm2 h2 hv2=>
   have t1:IsTup s.heap a ys.toArray:=⟨_,r.tupAt hm,rfl,k,rfl⟩
   have t2:IsTup s.heap b zs.toArray:=⟨_,r.tupAt hm2,rfl,k2,rfl⟩
   have r0:=r
   obtain⟨m,c,led,r'⟩:=r
   refine add_tuples (hsz:=ZbS (by rw[hv.length,hv2.length,←List.length_append];exact hl)) r'.F r'.N t1 t2 (fun e=>?_) (fun _ e=>?_) fun _ _ h' F' N'=>?_
   ·have:vs=[]:=List.length_eq_zero_iff.mp (by rw[←hv.length,e];rfl)
    subst this
    exact post W s.heap s.toks _ (.refl W) r0 (.tup hm2 h2 hv2)
   ·have:us=[]:=List.length_eq_zero_iff.mp (by rw[←hv2.length,e];rfl)
    subst this
    rw[List.append_nil]at post
    exact post W s.heap s.toks _ (.refl W) r0 (.tup hm h1 hv)
   ·obtain⟨W2,le2,r2,v2⟩:=r'.newTup F' N' r'.off (hv.append hv2) hl
    exact post W2 h' s.toks _ le2 r2 v2
  ·rw[if_neg hl]at ho
   cases ho
 ·cases ho
theorem ZhW(vs:List V): ∀n,(Zc3 vs n).length=vs.length*n
 | 0=>rfl
 | n+1=>by rw[Zc3,List.length_append,ZhW vs n,Nat.mul_succ]
theorem Zj5(xs:List Value)(n:Nat): ∀acc:Array Value,(List.foldl (fun x1 x2=>x1++x2) acc (List.replicate n xs.toArray))=acc++(List.replicate n xs).flatten.toArray:=by
 induction n with
 | zero=>intro acc;simp
 | succ n ih=>
  intro acc
  rw[List.replicate_succ,List.foldl_cons,ih,List.replicate_succ,List.flatten_cons]
  simp[Array.append_assoc]
theorem Zid{W:Wd}{vs:List V}{xs:List Value}(h:VRs W vs xs): ∀n,VRs W (Zc3 vs n) (List.replicate n xs).flatten
 | 0=>.nil
 | n+1=>by
  rw[Zc3,List.replicate_succ',List.flatten_append]
  simp only[List.flatten_cons,List.flatten_nil,List.append_nil]
  exact(Zid h n).append h
theorem Zd8: Op2 prog w (binaryOp .Mult) ZbX:=by
 intro Γ W ρ H fr s Q E a b x y v H' r hx hy ho post
 unfold ZbX at ho
 split at ho
 ·rename_i i j
  by_cases hm:Zb4 i j=true
  ·rw[if_pos hm]at ho
   cases ho
   cases hx;cases hy
   exact PySem.P.mul_int (post W s.heap _ _ (.refl W) r (.int _ _)) (Zkr hm)
  ·rw[if_neg hm]at ho
   cases ho
 ·rename_i i k
  obtain⟨vs,e1,ho⟩:=Zz0.mp ho
  by_cases hc:vs.length*k.toNat≤ZX∧-(2 ^ 63:Int)≤k∧k<2 ^ 63
  ·rw[if_pos hc]at ho
   cases ho
   cases hx with
   | ref ea=>
   cases hy with
   | int _ u=>
   obtain⟨l1,ys,kk,hg,hv⟩:=r.at e1 ea
   obtain⟨m,c,led,r'⟩:=r
   have hl:=hc.1
   rw[Zav]at hl
   refine mul_list r'.F r'.N hg hc.2.1 hc.2.2 (by rw[List.size_toArray,hv.length];omega) fun h' F' N'=>?_
   have e2:(List.foldl (fun x1 x2=>x1++x2) #[] (List.replicate (if ys.toArray.isEmpty=true then 0 else k.toNat) ys.toArray))=(List.replicate k.toNat ys).flatten.toArray:=by
    cases ys with
    | nil=>
     simp
    | cons y0 ys0=>
     have:((y0::ys0).toArray.isEmpty=true)=False:=by simp
     simp only[this,if_false]
     rw[Zj5]
     simp
   rw[e2]at N'
   obtain⟨W2,le2,r2,v2⟩:=r'.newList F' N' r'.off (Zid hv k.toNat) (by rw[ZhW];exact hc.1)
   exact post W2 h' s.toks _ le2 r2 v2
  ·rw[if_neg hc]at ho
   cases ho
 ·cases ho
end
end PM
end
section
namespace PM
open PySem PyProof.Rows PyProof
noncomputable def upd(ρ:Lc)(i:Nat)(v:V): Lc:=fun j=>if j=i then some v else ρ j
noncomputable abbrev Sm:=Lc→Hp→Option (Option V×Lc×Hp)
noncomputable def ZN: Sm:=fun ρ H=>some (none,ρ,H)
noncomputable def Zs(a b:Sm): Sm:=fun ρ H=>(a ρ H).bind fun p=>match p.1 with
 | some _=>some p
 | none=>b p.2.1 p.2.2
noncomputable def ZQ(f:Ex): Sm:=fun ρ H=>(f ρ H).map fun p=>(some p.1,ρ,p.2)
noncomputable def Zy(i:Nat)(f:Ex): Sm:=fun ρ H=>(f ρ H).map fun p=>(none,upd ρ i p.1,p.2)
noncomputable def ZB(t:Ts)(a b:Sm): Sm:=fun ρ H=>(t ρ H).bind fun p=>if p.1 then a ρ p.2 else b ρ p.2
noncomputable def ZL(f:Ex): Sm:=fun ρ H=>(f ρ H).map fun p=>(none,ρ,p.2)
noncomputable def Zfq: V→V→V→Hp→Option Hp
 | .ref a,.int k,v,H=>H[a]?.bind fun vs=>if a≠0∧0≤k∧k<vs.length then some (H.set a (vs.set k.toNat v))else none
 | _,_,_,_=>none
noncomputable def ZcJ(f o i:Ex): Sm:=fun ρ H=>(f ρ H).bind fun p=>(o ρ p.2).bind fun q=>(i ρ q.2).bind fun u=>(Zfq q.1 u.1 p.1 u.2).map fun K=>(none,ρ,K)
noncomputable def PostS(Γ:Cx)(W:Wd)(fr:List (Addr×Obj))(s:Shared)(Q:Flow→Shared→Prop): Option V×Lc×Hp→Prop
 | (none,ρ',H')=>∀(W':Wd) (h':Heap) (tk':Nat),W.Le W'→Rep Γ W' ρ' H' fr h'→Q .next { s with heap:=h',toks:=tk' }
 | (some v,ρ',H')=>∀(W':Wd) (h':Heap) (tk':Nat) (x:Value),W.Le W'→Rep Γ W' ρ' H' fr h'→VR W' v x→Q (.ret x) { s with heap:=h',toks:=tk' }
theorem PostS.le{Γ:Cx}{W W':Wd}{fr:List (Addr×Obj)}{s:Shared}{h:Heap}{tk:Nat}{Q:Flow→Shared→Prop}{r:Option V×Lc×Hp}(l:W.Le W')(p:PostS Γ W fr s Q r): PostS Γ W' fr { s with heap:=h,toks:=tk } Q r:=by
 obtain⟨o,ρ',H'⟩:=r
 cases o with
 | none=>exact fun W2 h2 t2 l2 r2=>p W2 h2 t2 (l.trans l2) r2
 | some v=>exact fun W2 h2 t2 x l2 r2 x2=>p W2 h2 t2 x (l.trans l2) r2 x2
section
variable (prog:Program) (w:World)
noncomputable def S1(Γ:Cx)(st:Stmt)(g:Sm): Prop:=∀(W:Wd) (ρ:Lc) (H:Hp) (fr:List (Addr×Obj)) (s:Shared) (Q:Flow→Shared→Prop) (E:Value→Shared→Prop) (r:Option V×Lc×Hp),
 Rep Γ W ρ H fr s.heap→g ρ H=some r→PostS Γ W fr s Q r→wpAny (model prog w) Γ.A (exec st Γ.env) Q E s
noncomputable def Ss(Γ:Cx)(ss:List Stmt)(g:Sm): Prop:=∀(W:Wd) (ρ:Lc) (H:Hp) (fr:List (Addr×Obj)) (s:Shared) (Q:Flow→Shared→Prop) (E:Value→Shared→Prop) (r:Option V×Lc×Hp),
 Rep Γ W ρ H fr s.heap→g ρ H=some r→PostS Γ W fr s Q r→wpAny (model prog w) Γ.A (execs ss Γ.env) Q E s
noncomputable def Sto(Γ:Cx)(x:Str)(i:Nat): Prop:=∀(W:Wd) (ρ:Lc) (H:Hp) (fr:List (Addr×Obj)) (s:Shared) (Q:Unit→Shared→Prop) (E:Value→Shared→Prop) (v:V) (y:Value),
 Rep Γ W ρ H fr s.heap→VR W v y→(∀(h':Heap) (tk':Nat),Rep Γ W (upd ρ i v) H fr h'→Q () { s with heap:=h',toks:=tk' })→wpAny (model prog w) Γ.A (storeName Γ.env x y) Q E s
noncomputable def Rd(Γ:Cx)(x:Str)(i:Nat): Prop:=∀(W:Wd) (ρ:Lc) (H:Hp) (fr:List (Addr×Obj)) (s:Shared) (Q E:Value→Shared→Prop) (v:V) (pos:Pos),
 Rep Γ W ρ H fr s.heap→ρ i=some v→(∀y,VR W v y→Q y s)→wpAny (model prog w) Γ.A (eval (.Name x pos) Γ.env) Q E s
end
section
variable {prog:Program} {w:World} {Γ:Cx}
theorem Zf{x:Str}{i:Nat}{pos:Pos}(h:Rd prog w Γ x i): J prog w Γ (.Name x pos) (eVar i):=by
 intro W ρ H fr s Q E v H' r hf post
 obtain⟨u,e1,e2⟩:=Zz1.mp hf
 cases e2
 exact h W ρ H fr s Q E v pos r e1 fun y hy=>post W s.heap s.toks y (.refl W) r hy
theorem Z4: Ss prog w Γ [] ZN:=fun W ρ H fr s Q E r rp hf post=>by
 cases hf
 exact wpAny_execs_nil (post W s.heap s.toks (.refl W) rp)
theorem Zv{st:Stmt}{ss:List Stmt}{a b:Sm}(h1:S1 prog w Γ st a)(h2:Ss prog w Γ ss b): Ss prog w Γ (st::ss) (Zs a b):=by
 intro W ρ H fr s Q E r rp hf post
 obtain⟨p,e1,hf⟩:=Zz0.mp hf
 refine wpAny_execs_cons (h1 W ρ H fr s _ E p rp e1 ?_)
 obtain⟨o,ρ1,H1⟩:=p
 cases o with
 | some v=>
  cases hf
  exact fun W1 k1 t1 x l1 r1 x1=>post W1 k1 t1 x l1 r1 x1
 | none=>exact fun W1 k1 t1 l1 r1=>h2 W1 ρ1 H1 fr _ Q E r r1 hf (post.le l1)
theorem Zu{st:Stmt}{a:Sm}(h1:S1 prog w Γ st a): Ss prog w Γ [st] a:=by
 intro W ρ H fr s Q E r rp hf post
 refine wpAny_execs_cons (h1 W ρ H fr s _ E r rp hf ?_)
 obtain⟨o,ρ1,H1⟩:=r
 cases o with
 | some v=>exact fun W1 k1 t1 x l1 r1 x1=>post W1 k1 t1 x l1 r1 x1
 | none=>exact fun W1 k1 t1 l1 r1=>wpAny_execs_nil (post W1 k1 t1 l1 r1)
theorem Zaa{e:Expr}{pos:Pos}{f:Ex}(h:J prog w Γ e f): S1 prog w Γ (.Return (some e) pos) (ZQ f):=by
 intro W ρ H fr s Q E r rp hf post
 obtain⟨p,e1,e2⟩:=Zz1.mp hf
 cases e2
 exact wpAny_Return_some (h W ρ H fr s _ E _ _ rp e1 post)
theorem ZV{t:Expr}{a b:List Stmt}{pos:Pos}{u:Ts}{f g:Sm}(ht:JT prog w Γ t u)(h1:Ss prog w Γ a f)(h2:Ss prog w Γ b g): S1 prog w Γ (.If t a b pos) (ZB u f g):=by
 intro W ρ H fr s Q E r rp hf post
 obtain⟨p,e1,hf⟩:=Zz0.mp hf
 refine wpAny_If (ht W ρ H fr s _ E _ _ rp e1 fun W1 k1 t1 l1 r1=>?_)
 obtain⟨c,H1⟩:=p
 cases c with
 | true=>exact h1 W1 ρ H1 fr _ Q E r r1 hf (post.le l1)
 | false=>exact h2 W1 ρ H1 fr _ Q E r r1 hf (post.le l1)
theorem Zao{e:Expr}{pos:Pos}{f:Ex}(h:J prog w Γ e f)(hi:interactive Γ.env=false:=by rfl)(hs:swapsWith e none pos.line Γ.env=pure false:=by rfl): S1 prog w Γ (.Expr e pos) (ZL f):=by
 intro W ρ H fr s Q E r rp hf post
 obtain⟨p,e1,e2⟩:=Zz1.mp hf
 cases e2
 exact wpAny_Expr_any (h W ρ H fr s _ E _ _ rp e1 fun W1 k1 t1 x l1 r1 x1=>post W1 k1 t1 l1 r1) hi hs
theorem ZS{x:Str}{i:Nat}{e:Expr}{pos' pos:Pos}{f:Ex}(hx:Sto prog w Γ x i)(h:J prog w Γ e f)(hs:swapsWith e (some (.Name x pos')) pos.line Γ.env=pure false:=by rfl): S1 prog w Γ (.Assign [.Name x pos'] e pos) (Zy i f):=by
 intro W ρ H fr s Q E r rp hf post
 obtain⟨p,e1,e2⟩:=Zz1.mp hf
 cases e2
 refine wpAny_Assign_Name (h W ρ H fr s _ E _ _ rp e1 fun W1 k1 t1 y l1 r1 y1=>?_) hs
 exact hx W1 ρ _ fr _ _ E _ y r1 y1 fun h' tk' r2=>post W1 h' tk' l1 r2
end
noncomputable def ZcU: List V→Hp→Option (V×Hp)
 | [.ref a,v],H=>H[a]?.bind fun vs=>if a≠0∧vs.length<ZX then some (.none,H.set a (vs++[v]))else none
 | _,_=>none
section
variable {prog:Program} {w:World} {Γ:Cx}
theorem Zj6: OpN prog w (fun xs=>call (.builtin "list.append") xs) ZcU:=by
 intro Γ W ρ H fr s Q E as xs v H' r hx ho post
 unfold ZcU at ho
 split at ho
 ·obtain⟨vs,e1,e2⟩:=Zz0.mp ho
  obtain⟨x,y,ex,rx,ry⟩:=hx.two
  subst ex
  split at e2
  ·rename_i hl
   cases e2
   cases rx with
   | @ref _ a0 ea=>
    obtain⟨_,ys,k,hg,hv⟩:=r.at e1 ea
    refine append_at (hsz:=ZbS (by rw[List.size_toArray,hv.length];omega)) hg fun h' sb hg'=>?_
    have hg2:h'.get? a0=some (Za7 (ys++[y]) (k+1)):=by rw[hg'];simp
    exact post W h' s.toks _ (.refl W) (r.change hl.1 e1 ea sb hg2 (hv.snoc ry) (by simp;omega)) .none
  ·cases e2
 ·cases ho
end
end PM
end
section
namespace PM
open PySem PySem.W PyProof.Rows PyProof
theorem Zie: ∀{l:List Value} {k:Nat} {v:Value},k<l.length→ki_setL l k v=some (l.set k v)
 | [],_,_,h=>by simp at h
 | x::r,0,v,_=>by simp[ki_setL]
 | x::r,k+1,v,h=>by
  have:=Zie (l:=r) (k:=k) (v:=v) (by simpa using h)
  simp[ki_setL,this]
theorem Zj7{a k v:V}{H K:Hp}(h:Zfq a k v H=some K): ∃i j vs,a=.ref i∧k=.int j∧H[i]?=some vs∧(i≠0∧0≤j∧j<vs.length)∧K=H.set i (vs.set j.toNat v):=by
 cases a <;> first | (cases h;done) | skip
 cases k <;> first | (cases h;done) | skip
 obtain⟨vs,e1,e2⟩:=Zz0.mp h
 split at e2
 ·rename_i c
  cases e2
  exact⟨_,_,vs,rfl,rfl,e1,c,rfl⟩
 ·cases e2
theorem ZjH{a v x:V}{H K:Hp}(h:ZcU [a,v] H=some (x,K)): ∃i,a=.ref i:=by
 cases a <;> first | (cases h;done) | skip
 exact⟨_,rfl⟩
noncomputable def Zbm(o f:Ex): Ex:=fun ρ H=>(o ρ H).bind fun p=>(f ρ p.2).bind fun q=>ZcU [p.1,q.1] q.2
section
variable {prog:Program} {w:World} {Γ:Cx}
theorem S1.put{o i value:Expr}{pos' pos:Pos}{f g k:Ex}(hf:J prog w Γ value f)(ho:J prog w Γ o g)(hi:J prog w Γ i k)(hs:swapsWith value (some (.Subscript o i pos')) pos.line Γ.env=pure false:=by rfl): S1 prog w Γ (.Assign [.Subscript o i pos'] value pos) (ZcJ f g k):=by
 intro W ρ H fr s Q E r rp hx post
 obtain⟨p,e1,hx⟩:=Zz0.mp hx
 obtain⟨q,e2,hx⟩:=Zz0.mp hx
 obtain⟨u,e3,hx⟩:=Zz0.mp hx
 obtain⟨K,e4,e5⟩:=Zz1.mp hx
 cases e5
 refine wpAny_Assign_Subscript (hf W ρ H fr s _ E _ _ rp e1 fun W1 k1 t1 x l1 r1 x1=>?_) hs
 refine ho W1 ρ _ fr _ _ E _ _ r1 e2 fun W2 k2 t2 y l2 r2 y2=>?_
 refine hi W2 ρ _ fr _ _ E _ _ r2 e3 fun W3 k3 t3 z l3 r3 z3=>?_
 have x3:=x1.mono (l2.trans l3)
 have y3:=y2.mono l3
 obtain⟨b,kk,vs,eb,ek,hvs,hc,e6⟩:=Zj7 e4
 subst e6
 rw[eb]at y3
 rw[ek]at z3
 cases y3 with
 | @ref _ a ea=>
 cases z3 with
 | int _ tz=>
 obtain⟨hl,xs,n,hg,hv⟩:=r3.at hvs ea
 obtain⟨m,c,led,r'⟩:=r3
 have hll:=hl
 rw[Zav]at hll
 have hk:kk.toNat<xs.length:=by rw[hv.length];omega
 obtain⟨_,a',xs',n',h1,h2,h3⟩:=r'.R.lists b vs hvs ea.2
 rw[ea.1]at h1
 cases h1
 have h2:=r'.inLed hc.1 ea.1 h2
 have N2:News Γ.h₀ Γ.L k3 ((a,Za7 xs n)::led.filter (fun q=>decide (q.1≠a))):=by
  intro q hq
  rcases Zz7.mp hq with e | hq
  ·subst e
   exact⟨hg,(r'.N _ h2).2⟩
  ·exact r'.N q (List.mem_filter.mp hq).1
 refine ki_set (its:=xs.toArray) (n:=n) (q:=xs.set kk.toNat x) r'.F N2 hc.2.1 (by omega) (by simpa using Zie hk) (Upd.head fun q hq=>by simpa using (List.mem_filter.mp hq).2) fun h' F' N'=>?_
 exact post W3 h' t3 ((l1.trans l2).trans l3) (r'.changed hc.1 hvs ea F' N' (hv.set _ x3) (by simpa using hl))
theorem J.append{o e:Expr}{apos pos:Pos}{f g:Ex}(ho:J prog w Γ o f)(he:J prog w Γ e g)(hbase:attributeBase o "append" Γ.env (eval o Γ.env)=eval o Γ.env:=by rfl)
  (hfew:((backTo pos (starEach [e] Γ.env)).all (fun x=>!x.1) && (backToKw pos (keywordEach [] Γ.env)).all (fun x=>x.1.isSome) && decide (([e]:List Expr).length+([]:List Keyword).length+(if([]:List Keyword).isEmpty then 0 else 1)<30))=true:=by rfl)
  (hline:(apos.endLine == pos.line)=true:=by rfl) (htrees:backTo pos (starEach [e] Γ.env)=[(false,eval e Γ.env)]:=by rfl):J prog w Γ (.Call (.Attribute o "append" apos) [e] [] pos) (Zbm f g):=by
 intro W ρ H fr s Q E v H' r hx post
 obtain⟨p,e1,hx⟩:=Zz0.mp hx
 obtain⟨q,e2,e3⟩:=Zz0.mp hx
 refine wpAny_Call_append hbase hfew hline htrees (ho W ρ H fr s _ E _ _ r e1 fun W1 k1 t1 x l1 r1 x1=>?_)
 obtain⟨v1,H1⟩:=p
 obtain⟨b,hb⟩:=ZjH e3
 subst hb
 have hb:=r1.refIn x1
 cases x1 with
 | @ref _ a ea=>
 obtain⟨_,xs,n,hg,hv⟩:=r1.at (Zy1 hb) ea
 refine⟨a,xs.toArray,rfl,⟨_,n,hg,rfl,rfl,rfl⟩,?_⟩
 refine he W1 ρ _ fr _ _ E _ _ r1 e2 fun W2 k2 t2 y l2 r2 y2=>?_
 exact Zj6 Γ W2 ρ _ fr _ Q E _ [.ref a,y] v H' r2 (.cons (.ref (l2.at ea)) (.cons y2 .nil)) e3 fun W3 k3 t3 z l3 r3 z3=>post W3 k3 t3 z ((l1.trans l2).trans l3) r3 z3
end
end PM
end
section
namespace PM
open PySem PySem.W PyProof.Rows PyProof
noncomputable abbrev Nx:=Nat→Hp→Option (Option V)
noncomputable def ZmM(Γ:Cx)(W:Wd)(ρ:Lc)(H:Hp)(fr:List (Addr×Obj))(s:Shared)(It:Nat→List (Addr×Obj)→Prop)(i:Nat)(Q:Option Value→Shared→Prop): Option V→Prop
 | none=>∀(h':Heap) (tk':Nat),Rep Γ W ρ H fr h'→Q none { s with heap:=h',toks:=tk' }
 | some v=>∀(fs':List (Addr×Obj)) (h':Heap) (tk':Nat) (x:Value),It (i+1) fs'→Rep Γ W ρ H (fs'++fr) h'→VR W v x→Q (some x) { s with heap:=h',toks:=tk' }
structure Itr(prog:Program)(w:World)(Γ:Cx)(W0:Wd)(it:Value)(as:List Addr)(It:Nat→List (Addr×Obj)→Prop)(nx:Nx): Prop where
 adr:∀i fs,It i fs→fs.map (·.1)=as
 next:∀(i:Nat) (W:Wd) (ρ:Lc) (H:Hp) (fr fs:List (Addr×Obj)) (s:Shared) (Q:Option Value→Shared→Prop) (E:Value→Shared→Prop) (o:Option V),W0.Le W→Rep Γ W ρ H (fs++fr) s.heap→(∀a∈as,∀t∈fr,a≠t.1)→It i fs→nx i H=some o →
  ZmM Γ W ρ H fr s It i Q o→wpAny (model prog w) Γ.A (pyNext it) Q E s
 self:∀(i:Nat) (W:Wd) (ρ:Lc) (H:Hp) (fr fs:List (Addr×Obj)) (s:Shared) (Q E:Value→Shared→Prop),W0.Le W→Rep Γ W ρ H (fs++fr) s.heap→It i fs→Q it s→wpAny (model prog w) Γ.A (pyIter it) Q E s
noncomputable abbrev Src:=Lc→Hp→Option (Nx×Nat×Hp)
noncomputable def JI(prog:Program)(w:World)(Γ:Cx)(e:Expr)(g:Src): Prop:=∀(W:Wd) (ρ:Lc) (H:Hp) (fr:List (Addr×Obj)) (s:Shared) (Q E:Value→Shared→Prop) (nx:Nx) (n:Nat) (H':Hp),
 Rep Γ W ρ H fr s.heap→g ρ H=some (nx,n,H') →
 (∀(W':Wd) (h':Heap) (tk':Nat) (it:Value) (as:List Addr) (It:Nat→List (Addr×Obj)→Prop) (fs:List (Addr×Obj)),W.Le W'→It 0 fs→Rep Γ W' ρ H' (fs++fr) h'→(∀a∈as,∀t∈fr,a≠t.1)→Itr prog w Γ W' it as It nx→Q it { s with heap:=h',toks:=tk' }) →
 wpAny (model prog w) Γ.A (eval e Γ.env) (fun xv s₁=>wpAny (model prog w) Γ.A (pyIter xv) Q E s₁) E s
noncomputable def ZbV(a:Nat): Nx:=fun i H=>H[a]?.map fun vs=>vs[i]?
noncomputable def Zd9(vs:List V): Nx:=fun i _=>some vs[i]?
noncomputable def Zbe(a c:Int)(n:Nat): Nx:=fun i _=>some (if i<n then some (.int (a+i*c))else none)
noncomputable def Zal(f:Ex): Src:=fun ρ H=>(f ρ H).bind fun p=>match p.1 with
 | .ref a=>p.2[a]?.map fun vs=>(ZbV a,vs.length+1,p.2)
 | .tup vs=>some (Zd9 vs,vs.length+1,p.2)
 | _=>none
noncomputable def rngN(a b c:Int): Nat:=(Builtin.Range.rangeSize a b c).toNat
noncomputable def Zbn(a b c:Int)(H:Hp): Option (Nx×Nat×Hp):=if c≠0∧Builtin.Range.small a b c=true∧0≤Builtin.Range.rangeSize a b c∧rngN a b c≤ZX∧Builtin.divisionGoesByPylong (b-a) c=false then some (Zbe a c (rngN a b c),rngN a b c+1,H)else none
noncomputable def ZaN(g:ZW): Src:=fun ρ H=>(g ρ H).bind fun p=>match p.1 with
 | [.int b]=>Zbn 0 b 1 p.2
 | [.int a,.int b]=>Zbn a b 1 p.2
 | [.int a,.int b,.int c]=>Zbn a b c p.2
 | _=>none
section
variable {prog:Program} {w:World} {Γ:Cx}
theorem ZgL{W0:Wd}{I:Addr}{nx:Nx}(P:Nat→Obj→Prop)
  (next:∀(i:Nat) (W:Wd) (ρ:Lc) (H:Hp) (fr:List (Addr×Obj)) (ob:Obj) (s:Shared) (Q:Option Value→Shared→Prop) (E:Value→Shared→Prop) (o:Option V),W0.Le W→Rep Γ W ρ H ((I,ob)::fr) s.heap→P i ob→nx i H=some o →
   (match o with
    | none=>∀(h':Heap) (tk':Nat),(∀b o,b≠I→s.heap.get? b=some o→h'.get? b=some o)→Q none { s with heap:=h',toks:=tk' }
    | some v=>∀(ob':Obj) (h':Heap) (tk':Nat) (x:Value),P (i+1) ob'→h'.get? I=some ob'→(∀b o,b≠I→s.heap.get? b=some o→h'.get? b=some o)→VR W v x→Q (some x) { s with heap:=h',toks:=tk' })→wpAny (model prog w) Γ.A (pyNext (.ref I)) Q E s)
  (self:∀(i:Nat) (W:Wd) (ρ:Lc) (H:Hp) (fr:List (Addr×Obj)) (ob:Obj) (s:Shared) (Q E:Value→Shared→Prop),W0.Le W→Rep Γ W ρ H ((I,ob)::fr) s.heap→P i ob→Q (.ref I) s→wpAny (model prog w) Γ.A (pyIter (.ref I)) Q E s):
  Itr prog w Γ W0 (.ref I) [I] (fun i fs=>∃ob,fs=[(I,ob)]∧P i ob) nx:=by
 refine⟨?_,?_,?_⟩
 ·rintro i fs ⟨ob,e,_⟩
  rw[e]
  rfl
 ·rintro i W ρ H fr fs s Q E o le r ap ⟨ob,e,hp⟩ hn post
  subst e
  refine next i W ρ H fr ob s Q E o le r hp hn ?_
  have ap':∀q∈[(I,ob)],∀t∈fr,q.1≠t.1:=fun q hq t ht=>by rw[List.mem_singleton.mp hq];exact ap I Zz5 t ht
  cases o with
  | none=>
   intro h' tk' keep
   have:=Rep.swap (fs:=[(I,ob)]) (fs':=[]) r ap' (fun b o hb e=>keep b o (fun q=>hb (by simp[q])) e) (fun q hq=>nomatch hq)
   exact post h' tk' this
  | some v=>
   intro ob' h' tk' x hp' hg keep hx
   have:=Rep.swap (fs:=[(I,ob)]) (fs':=[(I,ob')]) r ap' (fun b o hb e=>keep b o (fun q=>hb (by simp[q])) e) (fun q hq=>by rw[List.mem_singleton.mp hq];exact⟨hg,by simp⟩)
   exact post [(I,ob')] h' tk' x ⟨ob',rfl,hp'⟩ this hx
 ·rintro i W ρ H fr fs s Q E le r ⟨ob,e,hp⟩ q
  subst e
  exact self i W ρ H fr ob s Q E le r hp q
theorem JI.seq{e:Expr}{f:Ex}(h:J prog w Γ e f): JI prog w Γ e (Zal f):=by
 intro W ρ H fr s Q E nx n H' r hf post
 obtain⟨p,e1,hf⟩:=Zz0.mp hf
 refine h W ρ H fr s _ E _ _ r e1 fun W1 k1 t1 x l1 r1 x1=>?_
 obtain⟨v,H1⟩:=p
 cases x1 with
 | none=>cases hf
 | bool _=>cases hf
 | int _ _=>cases hf
 | str _ _=>cases hf
 | obj _ _ _ _=>cases hf
 | @tup vs a xs k hm hl hs=>
  cases hf
  have it:k1.IsTuple a xs.toArray:=⟨_,r1.tupAt hm,rfl,k,rfl⟩
  refine wpAny_pyIter_tuple it ?_
  obtain⟨r2,ap⟩:=r1.more (fs:=[(k1.objs.size,{ cls:=.type "tuple_iterator",data:=.fields #[.ref a,.int 0 0] })]) (fun b o e=>Heap.get?_push_of_some { cls:=.type "tuple_iterator",data:=.fields #[.ref a,.int 0 0] } e) (fun q hq=>by rw[List.mem_singleton.mp hq];exact⟨Heap.get?_push_size _ rfl,Nat.le_refl _⟩)
  refine post W1 _ t1 _ [k1.objs.size] _ _ l1 ⟨_,rfl,?_⟩ r2 (fun b hb t ht=>by rw[List.mem_singleton.mp hb];exact ap _ Zz5 t ht)
   (ZgL (fun i ob=>ob.cls=.type "tuple_iterator"∧ob.data=.fields #[.ref a,.int i 0]) ?_ ?_)
  ·intro i W ρ H fr ob s Q E o le r hp hn post
   have g1:s.heap.IsTupleIter k1.objs.size a i:=⟨ob,r.frAt Zz5,hp.1,hp.2⟩
   have g2:s.heap.IsTuple a xs.toArray:=⟨_,r.tupAt (le.tups _ hm),rfl,k,rfl⟩
   have ne:a≠k1.objs.size:=Nat.ne_of_lt (Heap.lt_size (r1.tupAt hm))
   have Wk:=Walks.tuple (prog:=prog) (w:=w) Γ.hh k1.objs.size a ne xs.toArray
   cases hn
   cases ev:vs[i]? with
   | none=>
    rw[ev]at post
    have hi:xs.toArray[i]?=none:=by have:=List.getElem?_eq_none_iff.mp ev;rw[←hs.length]at this;simpa using this
    exact wpAny_pyNext_tuple_end Γ.hh g1 g2 hi fun h' he'=>post h' s.toks fun b o hb e=>he' b o hb e
   | some v=>
    rw[ev]at post
    obtain⟨y,hy,ry⟩:=hs.at ev
    refine wpAny_pyNext_tuple_item g1 g2 (x:=y) (by simpa using hy) fun h' hit' hs'=>?_
    obtain⟨ob',h1,h2,h3⟩:=hit'
    exact post ob' h' s.toks y ⟨h2,h3⟩ h1 (fun b o hb e=>hs'.extBut b o hb e) (ry.mono le)
  ·intro i W ρ H fr ob s Q E le r hp q
   exact wpAny_pyIter_tupleiter (⟨ob,r.frAt Zz5,hp.1,hp.2⟩:s.heap.IsTupleIter k1.objs.size a i) q
  ·exact⟨rfl,rfl⟩
 | @ref i0 a ea=>
  obtain⟨vs,e2,e3⟩:=Zz1.mp hf
  cases e3
  obtain⟨hl,xs,k,hg,hv⟩:=r1.at e2 ea
  have isl:k1.IsList a xs.toArray:=⟨_,hg,rfl,k,rfl⟩
  refine wpAny_pyIter_list isl ?_
  obtain⟨r2,ap⟩:=r1.more (fs:=[(k1.objs.size,{ cls:=.type "list_iterator",data:=.fields #[.ref a,.int 0 0] })]) (fun b o e=>Heap.get?_push_of_some { cls:=.type "list_iterator",data:=.fields #[.ref a,.int 0 0] } e) (fun q hq=>by rw[List.mem_singleton.mp hq];exact⟨Heap.get?_push_size _ rfl,Nat.le_refl _⟩)
  refine post W1 _ t1 _ [k1.objs.size] _ _ l1 ⟨_,rfl,?_⟩ r2 (fun b hb t ht=>by rw[List.mem_singleton.mp hb];exact ap _ Zz5 t ht)
   (ZgL (fun i ob=>ob.cls=.type "list_iterator"∧ob.data=.fields #[.ref a,.int i 0]) ?_ ?_)
  ·intro i W ρ H fr ob s Q E o le r hp hn post
   obtain⟨us,eu,e4⟩:=Zz1.mp hn
   subst e4
   obtain⟨hl2,ys,k2,hg2,hv2⟩:=r.at eu (le.at ea)
   have g1:s.heap.IsListIter k1.objs.size a i:=⟨ob,r.frAt Zz5,hp.1,hp.2⟩
   have g2:s.heap.IsList a ys.toArray:=⟨_,hg2,rfl,k2,rfl⟩
   cases ev:us[i]? with
   | none=>
    rw[ev]at post
    have hi:ys.toArray[i]?=none:=by have:=List.getElem?_eq_none_iff.mp ev;rw[←hv2.length]at this;simpa using this
    exact wpAny_pyNext_list_end Γ.hh g1 g2 hi fun h' he'=>post h' s.toks fun b o hb e=>he' b o hb e
   | some v=>
    rw[ev]at post
    obtain⟨y,hy,ry⟩:=hv2.at ev
    refine wpAny_pyNext_list_item g1 g2 (x:=y) (by simpa using hy) fun h' hit' hs'=>?_
    obtain⟨ob',h1,h2,h3⟩:=hit'
    exact post ob' h' s.toks y ⟨h2,h3⟩ h1 (fun b o hb e=>hs'.extBut b o hb e) ry
  ·intro i W ρ H fr ob s Q E le r hp q
   exact wpAny_pyIter_listiter (⟨ob,r.frAt Zz5,hp.1,hp.2⟩:s.heap.IsListIter k1.objs.size a i) q
  ·exact⟨rfl,rfl⟩
theorem ZjI{a b c:Int}{H:Hp}{z:Nx×Nat×Hp}(h:Zbn a b c H=some z): c≠0∧Builtin.divisionGoesByPylong (b-a) c=false:=by
 unfold Zbn at h
 split at h
 ·rename_i hc
  exact⟨hc.1,hc.2.2.2.2⟩
 ·cases h
theorem Zku{W0:Wd}{I:Addr}{a c:Int}{n:Nat}: Itr prog w Γ W0 (.ref I) [I] (fun i fs=>∃ob,fs=[(I,ob)]∧(i≤n∧ob = { cls:=.type "range_iterator",dict:=none,data:=.fields #[rawInt (a+(i:Nat)*c),rawInt ((n:Int)-(i:Nat)),rawInt c],slots:=#[] })) (Zbe a c n):=by
 have Wk:=Walks.range (prog:=prog) (w:=w) Γ.hh I a c n
 refine ZgL (fun i ob=>i≤n∧ob = { cls:=.type "range_iterator",dict:=none,data:=.fields #[rawInt (a+(i:Nat)*c),rawInt ((n:Int)-(i:Nat)),rawInt c],slots:=#[] }) ?_ ?_
 ·intro i W ρ H fr ob s Q E o le r hp hn post
  have g:IsRangeIter s.heap I (a+(i:Nat)*c) ((n:Int)-(i:Nat)) c:=(r.frAt Zz5).trans (congrArg some hp.2)
  cases hn
  by_cases hi:i<n
  ·rw[if_pos hi]at post
   refine Wk.item i s Q E hi g fun v h' tk hv st keep=>?_
   obtain⟨t,e⟩:=hv
   subst e
   exact post _ h' tk _ ⟨hi,rfl⟩ st (fun b o hb e=>keep b o (by simpa using hb) e) (.int _ _)
  ·rw[if_neg hi]at post
   have e:i=n:=by have:=hp.1;omega
   subst e
   exact Wk.done s Q E g fun h' tk keep=>post h' tk fun b o hb e=>keep b o (by simpa using hb) e
 ·intro i W ρ H fr ob s Q E le r hp q
  have g:IsRangeIter s.heap I (a+(i:Nat)*c) ((n:Int)-(i:Nat)) c:=(r.frAt Zz5).trans (congrArg some hp.2)
  exact Wk.self i s Q E g q
theorem Zgb{a b c:Int}{t u v:Tok}{W:Wd}{ρ:Lc}{H:Hp}{fr:List (Addr×Obj)}{s:Shared}{k:Heap}{tk:Nat}{Q E:Value→Shared→Prop}{nx:Nx}{n:Nat}{H':Hp}(r:Rep Γ W ρ H fr k)(hm:Zbn a b c H=some (nx,n,H'))
  (post:∀(W':Wd) (h':Heap) (tk':Nat) (it:Value) (as:List Addr) (It:Nat→List (Addr×Obj)→Prop) (fs:List (Addr×Obj)),W.Le W'→It 0 fs→Rep Γ W' ρ H' (fs++fr) h'→(∀a∈as,∀t∈fr,a≠t.1)→Itr prog w Γ W' it as It nx→Q it { s with heap:=h',toks:=tk' }):
  wpAny (model prog w) Γ.A (pyIter (.ref k.objs.size)) Q E { s with heap:=k.push { cls:=.type "range",data:=.fields #[.int a t,.int b u,.int c v] },toks:=tk }:=by
 unfold Zbn at hm
 split at hm
 ·rename_i hc
  cases hm
  have hr:IsRange (k.push { cls:=.type "range",data:=.fields #[.int a t,.int b u,.int c v] }) k.objs.size a b c t u v:=IsRange.new ..
  refine wpAny_pyIter_range hr hc.2.1 ?_
  have rp:=r.push { cls:=.type "range",data:=.fields #[.int a t,.int b u,.int c v] }
  have en:Builtin.Range.rangeSize a b c=((rngN a b c:Nat):Int):=(Int.toNat_of_nonneg hc.2.2.1).symm
  dsimp only
  generalize hk:k.push { cls:=.type "range",data:=.fields #[.int a t,.int b u,.int c v] } = k2 at rp ⊢
  obtain⟨r2,ap⟩:=rp.more (fs:=[(k2.objs.size,{ cls:=.type "range_iterator",data:=.fields #[rawInt a,rawInt (Builtin.Range.rangeSize a b c),rawInt c] })]) (fun b' o e=>Heap.get?_push_of_some { cls:=.type "range_iterator",data:=.fields #[rawInt a,rawInt (Builtin.Range.rangeSize a b c),rawInt c] } e) (fun q hq=>by rw[List.mem_singleton.mp hq];exact⟨Heap.get?_push_size _ rfl,Nat.le_refl _⟩)
  refine post W _ tk _ [k2.objs.size] _ _ (.refl W) ⟨_,rfl,Nat.zero_le _,?_⟩ r2 (fun b hb t ht=>by rw[List.mem_singleton.mp hb];exact ap _ Zz5 t ht) (Zku (a:=a) (c:=c) (n:=rngN a b c))
  rw[en]
  simp
 ·cases hm
theorem JI.range{x:Str}{np pos:Pos}{e:Expr}{es:List Expr}{g:ZW}(hn:Nm prog w Γ x (.type "range"))(h:Js prog w Γ (e::es) g)
  (he:starEach (e::es) Γ.env=(false,eval e Γ.env)::starEach es Γ.env:=by rfl) (hp:∀pos,(backTo pos (starEach es Γ.env)).any (·.1)=false:=by intro _;rfl):JI prog w Γ (.Call (.Name x np) (e::es) [] pos) (ZaN g):=by
 intro W ρ H fr s Q E nx n H' r hf post
 obtain⟨p,e1,hf⟩:=Zz0.mp hf
 refine wpAny_Call_ofName (hn.use r ?_)
 refine PySem.Pv.callWith_type1 (h pos W ρ H fr s _ E _ _ r e1 fun W1 k1 t1 xs l1 r1 x1=>?_) he (hp pos)
 obtain⟨vs,H1⟩:=p
 dsimp only at hf x1 r1
 have post1:=fun W' h' tk' it as It fs (l:W1.Le W')=>post W' h' tk' it as It fs (l1.trans l)
 split at hf
 ·obtain⟨y,ex,ry⟩:=x1.one
  subst ex
  cases ry
  exact call_range_1 (Zgb r1 hf post1)
 ·obtain⟨y,z,ex,ry,rz⟩:=x1.two
  subst ex
  cases ry
  cases rz
  exact call_range_2 (Zgb r1 hf post1)
 ·cases x1 with
  | cons ry x1=>
  obtain⟨y,z,ex,rz,ru⟩:=x1.two
  subst ex
  cases ry
  cases rz
  cases ru
  have hc:=ZjI hf
  exact call_range_3 hc.1 (Zgb r1 hf post1) (.inl hc.2)
 ·cases hf
end
noncomputable def ZaR(nx:Nx)(put:V→Lc→Option Lc)(b:Sm): Nat→Nat→Sm
 | 0,_=>fun _ _=>none
 | n+1,i=>fun ρ H=>(nx i H).bind fun o=>match o with
  | none=>some (none,ρ,H)
  | some v=>(put v ρ).bind fun ρ1=>(b ρ1 H).bind fun q=>match q.1 with
   | some _=>some q
   | none=>ZaR nx put b n (i+1) q.2.1 q.2.2
noncomputable def ZaA(g:Src)(put:V→Lc→Option Lc)(b:Sm): Sm:=fun ρ H=>(g ρ H).bind fun z=>ZaR z.1 put b z.2.1 0 ρ z.2.2
noncomputable def ZH(i:Nat): V→Lc→Option Lc:=fun v ρ=>some (upd ρ i v)
section
variable {prog:Program} {w:World} {Γ:Cx}
theorem Zco{x:Str}{i:Nat}{px pos:Pos}{it:Expr}{body:List Stmt}{g:Src}{b:Sm}(hx:Sto prog w Γ x i)(hg:JI prog w Γ it g)(hb:Ss prog w Γ body b)(hs:∀x,foldedSetIterable it Γ.env x=pure x:=by intro _;rfl): S1 prog w Γ (.For (.Name x px) it body [] pos) (ZaA g (ZH i) b):=by
 intro W ρ H fr s Q E r rp hf post
 obtain⟨z,e1,hf⟩:=Zz0.mp hf
 obtain⟨nx,n,H0⟩:=z
 refine wpAny_For (hg W ρ H fr s _ E nx n H0 rp e1 fun W1 k1 t1 itv as It fs l1 i1 r1 ap I1=>?_) hs
 refine codeAny_forLoop (fun k s'=>∃W' ρ' H' h' tk' j fs',s' = { s with heap:=h',toks:=tk' }∧W1.Le W'∧It j fs'∧Rep Γ W' ρ' H' (fs'++fr) h'∧ZaR nx (ZH i) b k j ρ' H'=some r) ?_ n ⟨W1,ρ,H0,k1,t1,0,fs,rfl,.refl _,i1,r1,hf⟩
 rintro k s' ⟨W2,ρ2,H2,k2,t2,j,fs2,rfl,l2,i2,r2,e⟩
 cases k with
 | zero=>cases e
 | succ k=>
  obtain⟨o,e2,e⟩:=Zz0.mp e
  refine I1.next j W2 ρ2 H2 fr fs2 _ _ _ o l2 r2 ap i2 e2 ?_
  cases o with
  | none=>
   cases e
   intro h' tk' r3
   exact wpAny_execs_nil (post W2 h' tk' (l1.trans l2) r3)
  | some v=>
   intro fs3 k3 t3 y i3 r3 y3
   obtain⟨ρ3,e3,e⟩:=Zz0.mp e
   cases e3
   obtain⟨q,e4,e⟩:=Zz0.mp e
   refine wpAny_assign_Name (hx W2 ρ2 H2 (fs3++fr) _ _ _ v y r3 y3 fun k4 t4 r4=>?_)
   refine hb W2 _ H2 (fs3++fr) _ _ _ q r4 e4 ?_
   obtain⟨u,ρ5,H5⟩:=q
   cases u with
   | some u=>
    cases e
    exact fun W5 k5 t5 x5 l5 r5 v5=>post W5 k5 t5 x5 ((l1.trans l2).trans l5) (r5.less fun q hq=>List.mem_append_right _ hq) v5
   | none=>exact fun W5 k5 t5 l5 r5=>⟨k,Nat.lt_succ_self k,W5,ρ5,H5,k5,t5,j+1,fs3,rfl,l2.trans l5,i3,r5,e⟩
end
end PM
end
section
namespace PM
open PySem PySem.W PySem.Calls PyProof.Rows PyProof
structure OwnF(names:List Str)(cs:Scope)(cl:List (Str×Addr))(W:Wd)(ρ:Lc)(m:Str→Option Value)(cells:List (Addr×Obj)): Prop where
 loc:∀(i:Nat) (x:Str) (v:V),names[i]?=some x→cs.names.lookup x=some .local→ρ i=some v→∃y,m x=some y∧VR W v y
 cel:∀(i:Nat) (x:Str) (v:V),names[i]?=some x→cs.names.lookup x=some .cell→ρ i=some v→∃c o y,cl.lookup x=some c∧(c,o)∈cells∧o.data=.cell (some y)∧VR W v y
 all:∀(x:Str) (c:Addr),cl.lookup x=some c→∃o v₀,(c,o)∈cells∧o.data=.cell v₀
 one:∀(x y:Str) (c:Addr),cl.lookup x=some c→cl.lookup y=some c→x=y
theorem OwnF.mono{names:List Str}{cs:Scope}{cl:List (Str×Addr)}{W W':Wd}{ρ:Lc}{m:Str→Option Value}{cells:List (Addr×Obj)}(l:W.Le W')(h:OwnF names cs cl W ρ m cells): OwnF names cs cl W' ρ m cells:=
 ⟨fun i x v a b c=>by
  obtain⟨y,h1,h2⟩:=h.loc i x v a b c
  exact⟨y,h1,h2.mono l⟩,fun i x v a b c=>by
  obtain⟨d,o,y,h1,h2,h3,h4⟩:=h.cel i x v a b c
  exact⟨d,o,y,h1,h2,h3,h4.mono l⟩,h.all,h.one⟩
noncomputable def Zam(dp un:Nat)(gd:Option (List Code))(cn:Str)(cs:Scope)(L a:Addr)(ccd:Value)(cl:List (Str×Addr))(outer:List Env)(h₀:Heap)(hu:un+200<cLine)(names:List Str): Cx where
 A:=ktrTop dp un gd cn cs L a ccd cl outer
 env:=envX cn cs L a ccd cl
 h₀:=h₀
 L:=L
 hh:=rfl
 hu:=hu
 Own:=OwnF names cs cl
 mono:=OwnF.mono
section
variable {prog:Program} {w:World} {dp un:Nat} {gd:Option (List Code)} {cn:Str} {cs:Scope} {L a:Addr} {ccd:Value} {cl:List (Str×Addr)} {outer:List Env} {h₀:Heap} {hu:un+200<cLine} {names:List Str}
theorem rd_loc{x:Str}{i:Nat}(hi:names[i]?=some x)(hx:cs.names.lookup x=some .local)(hk:cs.kind=.function)(hd:(x == ("__debug__":Str))=false): Rd prog w (Zam dp un gd cn cs L a ccd cl outer h₀ hu names) x i:=by
 intro W ρ H fr s Q E v pos r e q
 obtain⟨m,c,led,r⟩:=r
 obtain⟨y,h1,h2⟩:=r.own.loc i x v hi hx e
 exact nameX_L r.F h1 (q y h2) hk hx hd
theorem ZlJ{x:Str}{i:Nat}(hi:names[i]?=some x)(hx:cs.names.lookup x=some .cell)(hk:cs.kind=.function)(hd:(x == ("__debug__":Str))=false): Rd prog w (Zam dp un gd cn cs L a ccd cl outer h₀ hu names) x i:=by
 intro W ρ H fr s Q E v pos r e q
 obtain⟨m,c,led,r⟩:=r
 obtain⟨d,o,y,h1,h2,h3,h4⟩:=r.own.cel i x v hi hx e
 exact nameX_C r.N h1 (r.clIn _ h2) h3 (q y h4) hk hx hd
theorem Zaz{x:Str}{i:Nat}(nd:names.Nodup)(hi:names[i]?=some x)(hx:cs.names.lookup x=some .local)(hk:cs.kind=.function): Sto prog w (Zam dp un gd cn cs L a ccd cl outer h₀ hu names) x i:=by
 intro W ρ H fr s Q E v y r vy q
 obtain⟨m,c,led,r⟩:=r
 have hi':i<names.length:=(Zz6.mp hi).1
 refine storeX_L r.F r.N (fun h' F' N'=>q h' _ ⟨_,c,led,⟨F',N',r.R,r.sc,r.sc0,r.frIn,r.frOff,r.clIn,r.clOff,r.apart,r.frTup,r.clTup,⟨fun j z u hj hz hu=>?_,fun j z u hj hz hu=>?_,r.own.all,r.own.one⟩⟩⟩) hk hx
 ·by_cases e:j=i
  ·subst e
   rw[hi]at hj
   cases hj
   simp only[upd,if_true]at hu
   cases hu
   exact⟨y,by simp,vy⟩
  ·have hzx:z≠x:=fun e'=>by
    subst e'
    exact e ((List.getElem?_inj (Zz6.mp hj).1 nd).mp (hj.trans hi.symm))
   simp only[upd,if_neg e]at hu
   obtain⟨y',h1,h2⟩:=r.own.loc j z u hj hz hu
   exact⟨y',by simp[hzx,h1],h2⟩
 ·by_cases e:j=i
  ·subst e
   rw[hi]at hj
   cases hj
   rw[hx]at hz
   cases hz
  ·simp only[upd,if_neg e]at hu
   exact r.own.cel j z u hj hz hu
theorem ZkV{x:Str}{i:Nat}(nd:names.Nodup)(hi:names[i]?=some x)(hx:cs.names.lookup x=some .cell)(hk:cs.kind=.function)(hcl:(cl.lookup x).isSome=true): Sto prog w (Zam dp un gd cn cs L a ccd cl outer h₀ hu names) x i:=by
 intro W ρ H fr s Q E v y r vy q
 obtain⟨m,c,led,r⟩:=r
 obtain⟨d,hd⟩:=Option.isSome_iff_exists.mp hcl
 obtain⟨o,v₀,ho,hv₀⟩:=r.own.all x d hd
 have inl:=r.clIn _ ho
 have N2:News h₀ L s.heap ((d,o)::led.filter (fun q=>decide (q.1≠d))):=by
  intro q hq
  rcases Zz7.mp hq with e | hq
  ·subst e
   exact r.N _ inl
  ·exact r.N q (List.mem_filter.mp hq).1
 refine storeX_C r.F N2 hd (UpdF.head fun q hq=>by simpa using (List.mem_filter.mp hq).2) hv₀ (fun h' o' F' N' ho'=>?_) hk hx
 have keep:∀q∈led,q.1≠d→q∈(d,o')::led.filter (fun q=>decide (q.1≠d)):=fun q hq hn=>Zy3 _ (Zy9.mpr ⟨hq,by simpa using hn⟩)
 refine q h' s.toks ⟨m,(d,o')::c.filter (fun q=>decide (q.1≠d)),_,⟨F',N',⟨r.R.len,r.R.nd,fun j vs e ni=>?_,fun q hq=>Zbs (r.R.tups q hq) fun z=>keep q z (r.clTup _ ho q hq).symm,r.R.kind,fun j vs fs e hi=>?_,r.R.inlt,r.R.iuni⟩,r.sc,r.sc0,fun q hq=>keep q (r.frIn q hq) (r.apart _ ho q hq).symm,r.frOff,fun q hq=>?_,fun q hq=>?_,fun q hq t ht=>?_,r.frTup,fun q hq t ht=>?_,⟨fun j z u hj hz hu=>?_,fun j z u hj hz hu=>?_,fun z e hz=>?_,r.own.one⟩⟩⟩
 ·obtain⟨l,b,xs,k,h1,h2,h3⟩:=r.R.lists j vs e ni
  exact⟨l,b,xs,k,h1,Zbs h2 fun z=>keep _ z fun e=>r.clOff _ ho (e▸Zy4 h1),h3⟩
 ·obtain⟨l,b,od,xs,h1,h2,h3⟩:=r.R.objs j vs fs e hi
  exact⟨l,b,od,xs,h1,Zbs h2 fun z=>keep _ z fun e=>r.clOff _ ho (e▸Zy4 h1),h3⟩
 ·rcases Zz7.mp hq with e | hq
  ·exact e▸List.mem_cons_self
  ·obtain⟨h1,h2⟩:=List.mem_filter.mp hq
   exact keep q (r.clIn q h1) (by simpa using h2)
 ·rcases Zz7.mp hq with e | hq
  ·rw[e]
   exact(r.clOff _ ho:d∉W.pi)
  ·exact r.clOff q (List.mem_filter.mp hq).1
 ·rcases Zz7.mp hq with e | hq
  ·rw[e]
   exact(r.apart _ ho t ht:d≠t.1)
  ·exact r.apart q (List.mem_filter.mp hq).1 t ht
 ·rcases Zz7.mp hq with e | hq
  ·rw[e]
   exact(r.clTup _ ho t ht:d≠t.1)
  ·exact r.clTup q (List.mem_filter.mp hq).1 t ht
 ·by_cases e:j=i
  ·subst e
   rw[hi]at hj
   cases hj
   rw[hx]at hz
   cases hz
  ·simp only[upd,if_neg e]at hu
   exact r.own.loc j z u hj hz hu
 ·by_cases e:j=i
  ·subst e
   rw[hi]at hj
   cases hj
   simp only[upd,if_true]at hu
   cases hu
   exact⟨d,o',y,hd,List.mem_cons_self,ho',vy⟩
  ·have hzx:z≠x:=fun e'=>by
    subst e'
    exact e ((List.getElem?_inj (Zz6.mp hj).1 nd).mp (hj.trans hi.symm))
   simp only[upd,if_neg e]at hu
   obtain⟨b,ob,y',h1,h2,h3,h4⟩:=r.own.cel j z u hj hz hu
   have:b≠d:=fun e'=>by
    subst e'
    exact hzx (r.own.one z x b h1 hd)
   exact⟨b,ob,y',h1,Zy3 _ (Zy9.mpr ⟨h2,by simpa using this⟩),h3,h4⟩
 ·by_cases e':e=d
  ·subst e'
   exact⟨o',_,List.mem_cons_self,ho'⟩
  ·obtain⟨ob,v1,h1,h2⟩:=r.own.all z e hz
   exact⟨ob,v1,Zy3 _ (Zy9.mpr ⟨h1,by simpa using e'⟩),h2⟩
end
end PM
end
section
namespace PM
open PySem PySem.W PySem.Calls PyProof.Rows PyProof PyProof.Rows.LCg
theorem Zgi{Γ:Cx}{W:Wd}{ρ:Lc}{H:Hp}{fr:List (Addr×Obj)}{h:Heap}{D:Addr}{ys:List Value}{k:Nat}{vs:List V}(r:Rep Γ W ρ H ((D,Za7 ys k)::fr) h)(ap:∀t∈fr,D≠t.1)(hv:VRs W vs ys)(hl:vs.length≤ZX):
  ∃W',W.Le W'∧Rep Γ W' ρ (H++[vs]) fr h∧VR W' (.ref H.length) (.ref D):=by
 obtain⟨m,c,led,r⟩:=r
 have le:W.Le ⟨W.pi++[D],W.tups,W.sc,W.ins⟩:=⟨List.prefix_append _ _,fun q hq=>hq,rfl,fun _ h=>h,fun _ h=>.inl h⟩
 have nin:∀q∈W.ins,q.1≠H.length:=fun q hq e=>by have:=r.R.inlt q hq;omega
 have h0:0<W.pi.length:=(Zz6.mp r.sc0).1
 have at_n:(W.pi++[D])[H.length]?=some D:=by rw[←r.R.len];simp
 have off:=r.frOff _ Zz5
 refine⟨⟨W.pi++[D],W.tups,W.sc,W.ins⟩,le,⟨m,c,led,⟨r.F,r.N,⟨by simp[r.R.len],?_,fun i us e ni=>?_,r.R.tups,r.R.kind,fun i us fs e hi=>?_,fun q hq=>by have:=r.R.inlt q hq;simp;omega,r.R.iuni⟩,r.sc,(Zy0 h0).trans r.sc0,fun q hq=>r.frIn q (Zz2 _ hq),fun q hq=>?_,r.clIn,fun q hq=>?_,fun q hq t ht=>r.apart q hq t (Zz2 _ ht),fun q hq=>r.frTup q (Zz2 _ hq),r.clTup,Γ.mono le r.own⟩⟩,.ref ⟨at_n,nin⟩⟩
 ·show(W.pi++[D]).Nodup
  rw[List.nodup_append]
  refine⟨r.R.nd,by simp,fun a ha b hb=>?_⟩
  rw[List.mem_singleton.mp hb]
  exact fun e=>off (e▸ha)
 ·by_cases hi:i<H.length
  ·rw[Zy0 hi]at e
   obtain⟨l,a,zs,j,h1,h2,h3⟩:=r.R.lists i us e ni
   exact⟨l,a,zs,j,le.piAt h1,h2,h3.mono le⟩
  ·have:i=H.length:=by
    have:=(Zz6.mp e).1
    simp at this
    omega
   subst this
   simp at e
   subst e
   exact⟨hl,D,ys,k,at_n,Zy3 _ (r.frIn _ Zz5),hv.mono le⟩
 ·have hi':i<H.length:=r.R.inlt _ hi
  rw[Zy0 hi']at e
  obtain⟨l,a,od,zs,h1,h2,h3,h4⟩:=r.R.objs i us fs e hi
  exact⟨l,a,od,zs,le.piAt h1,h2,h3,h4.mono le⟩
 ·intro hm
  rcases Zz8.mp hm with hm | hm
  ·exact r.frOff q (Zz2 _ hq) hm
  ·exact ap q hq (Zz9.mp hm).symm
 ·intro hm
  rcases Zz8.mp hm with hm | hm
  ·exact r.clOff q hq hm
  ·exact r.apart q hq _ Zz5 (Zz9.mp hm)
noncomputable def Zm9(Γ:Cx)(C:Addr)(ts:List (Str×Nat))(ρ0:Lc)(W:Wd)(ρ:Lc)(m:Str→Option Value)(cells:List (Addr×Obj)): Prop:=
 ∃oC m₂ cs,cells=(C,oC)::cs∧(∀q∈cs,q.1≠C)∧NsObj oC m₂∧(∀p∈ts,∃v y,ρ p.2=some v∧m₂ p.1=some y∧VR W v y)∧(∀j,(∀p∈ts,p.2≠j)→ρ j=ρ0 j)∧Γ.Own W ρ0 m cs
noncomputable def ZaU(Γ:Cx)(scope:Scope)(cl:List (Str×Addr))(C:Addr)(ts:List (Str×Nat))(ρ0:Lc): Cx where
 A:=Γ.A
 env:=compEnvC scope cl C Γ.env
 h₀:=Γ.h₀
 L:=Γ.L
 hh:=Γ.hh
 hu:=Γ.hu
 Own:=Zm9 Γ C ts ρ0
 mono:=fun l h=>by
  obtain⟨oC,m₂,cs,e,h0,h1,h2,h3,h4⟩:=h
  exact⟨oC,m₂,cs,e,h0,h1,fun p hp=>by
   obtain⟨v,y,a,b,c⟩:=h2 p hp
   exact⟨v,y,a,b,c.mono l⟩,h3,Γ.mono l h4⟩
section
variable {Γ:Cx} {scope:Scope} {cl:List (Str×Addr)} {C:Addr} {ts:List (Str×Nat)} {ρ0:Lc} {W:Wd} {ρ:Lc} {H:Hp} {fr:List (Addr×Obj)} {h:Heap}
theorem ZkW{oC:Obj}{m₂:Str→Option Value}(r:Rep Γ W ρ0 H ((C,oC)::fr) h)(ap:∀t∈fr,C≠t.1)(hC:NsObj oC m₂)(ht:∀p∈ts,∃v y,ρ p.2=some v∧m₂ p.1=some y∧VR W v y)(hj:∀j,(∀p∈ts,p.2≠j)→ρ j=ρ0 j): Rep (ZaU Γ scope cl C ts ρ0) W ρ H fr h:=by
 obtain⟨m,c,led,r⟩:=r
 refine⟨m,(C,oC)::c,led,⟨r.F,r.N,r.R,r.sc,r.sc0,fun q hq=>r.frIn q (Zz2 _ hq),fun q hq=>r.frOff q (Zz2 _ hq),fun q hq=>?_,fun q hq=>?_,fun q hq t ht=>?_,fun q hq=>r.frTup q (Zz2 _ hq),fun q hq t ht=>?_,⟨oC,m₂,c,rfl,fun q hq=>r.apart q hq _ Zz5,hC,ht,hj,r.own⟩⟩⟩
 ·rcases Zz7.mp hq with e | hq
  ·exact e▸r.frIn _ Zz5
  ·exact r.clIn q hq
 ·rcases Zz7.mp hq with e | hq
  ·exact e▸r.frOff _ Zz5
  ·exact r.clOff q hq
 ·rcases Zz7.mp hq with e | hq
  ·exact e▸ap t ht
  ·exact r.apart q hq t (Zz2 _ ht)
 ·rcases Zz7.mp hq with e | hq
  ·exact e▸r.frTup _ Zz5 t ht
  ·exact r.clTup q hq t ht
theorem Rep.fromC(r:Rep (ZaU Γ scope cl C ts ρ0) W ρ H fr h): ∃oC m₂,NsObj oC m₂∧Rep Γ W ρ0 H ((C,oC)::fr) h:=by
 obtain⟨m,c,led,r⟩:=r
 obtain⟨oC,m₂,cs,e,h0,h1,h2,h3,h4⟩:=r.own
 subst e
 refine⟨oC,m₂,h1,m,cs,led,⟨r.F,r.N,r.R,r.sc,r.sc0,fun q hq=>?_,fun q hq=>?_,fun q hq=>r.clIn q (Zz2 _ hq),fun q hq=>r.clOff q (Zz2 _ hq),fun q hq t ht=>?_,fun q hq t ht=>?_,fun q hq=>r.clTup q (Zz2 _ hq),h4⟩⟩
 ·rcases Zz7.mp hq with e | hq
  ·exact e▸r.clIn _ Zz5
  ·exact r.frIn q hq
 ·rcases Zz7.mp hq with e | hq
  ·exact e▸r.clOff _ Zz5
  ·exact r.frOff q hq
 ·rcases Zz7.mp ht with e | ht
  ·rw[e]
   exact h0 q hq
  ·exact r.apart q (Zz2 _ hq) t ht
 ·rcases Zz7.mp hq with e | hq
  ·exact e▸r.clTup _ Zz5 t ht
  ·exact r.frTup q hq t ht
end
noncomputable def JF(prog:Program)(w:World)(Γ:Cx)(ifs:List Expr)(f:Ts): Prop:=∀(W:Wd) (ρ:Lc) (H:Hp) (fr:List (Addr×Obj)) (s:Shared) (Q:Bool→Shared→Prop) (E:Value→Shared→Prop) (b:Bool) (H':Hp),
 Rep Γ W ρ H fr s.heap→f ρ H=some (b,H')→Zfh Γ W ρ H' fr s Q b →
 wpAny (model prog w) Γ.A (forIn ifs true fun c r=>if r=true then do let ok ←isTrue c Γ.env (eval c Γ.env);pure (ForInStep.yield ok)else pure (ForInStep.yield r)) Q E s
section
variable {prog:Program} {w:World} {Γ:Cx}
theorem JF.nil: JF prog w Γ [] ZaH:=fun W ρ H fr s Q E b H' r hf post=>by
 cases hf
 exact wpAny_pure (post W s.heap s.toks (.refl W) r)
theorem JF.one{e:Expr}{t:Ts}(h:JT prog w Γ e t): JF prog w Γ [e] t:=fun W ρ H fr s Q E b H' r hf post=>by
 rw[List.forIn_cons]
 simp only[if_true,List.forIn_nil]
 refine wpAny_bind (wpAny_bind (h W ρ H fr s _ E b H' r hf fun W1 k1 t1 l1 r1=>wpAny_pure ?_))
 exact wpAny_pure (post W1 k1 t1 l1 r1)
end
end PM
end
section
namespace PM
open PySem PySem.W PySem.Calls PyProof.Rows PyProof PyProof.Rows.LCg
noncomputable def Za5(nx:Nx)(put:V→Lc→Option Lc)(c:Ts)(f:Ex)(ρ:Lc): Nat→Nat→List V→Hp→Option (List V×Hp)
 | 0,_,_,_=>none
 | n+1,i,acc,H=>(nx i H).bind fun o=>match o with
  | none=>some (acc,H)
  | some v=>(put v ρ).bind fun ρ1=>(c ρ1 H).bind fun b=>if b.1 then(f ρ1 b.2).bind fun p=>(if acc.length<ZX then Za5 nx put c f ρ n (i+1) (acc++[p.1]) p.2 else none)else Za5 nx put c f ρ n (i+1) acc b.2
noncomputable def ZaS(g:Src)(put:V→Lc→Option Lc)(c:Ts)(f:Ex): Ex:=fun ρ H=>(g ρ H).bind fun z=>(Za5 z.1 put c f ρ z.2.1 0 [] z.2.2).map fun q=>(.ref q.2.length,q.2++[q.1])
noncomputable def Zfr(Γ:Cx)(W0:Wd)(ρ:Lc)(fr:List (Addr×Obj))(C D:Addr)(It:Nat→List (Addr×Obj)→Prop)(nx:Nx)(put:V→Lc→Option Lc)(c:Ts)(f:Ex)(q:List V×Hp)(s:Shared)(k:Nat)(s':Shared): Prop:=
 ∃W' H' h' tk' j fs acc ys oC m₂,s' = { s with heap:=h',toks:=tk' }∧W0.Le W'∧It j fs∧NsObj oC m₂∧VRs W' acc ys∧acc.length≤ZX∧Rep Γ W' ρ H' ((C,oC)::(D,lst ys)::(fs++fr)) h'∧Za5 nx put c f ρ k j acc H'=some q
section
variable {prog:Program} {w:World} {Γ:Cx}
theorem Zj8{scope:Scope}{cl:List (Str×Addr)}{elt:Expr}{ts:List (Str×Nat)}{W0 W:Wd}{ρ ρ1:Lc}{H:Hp}{fr fs:List (Addr×Obj)}{C D:Addr}{It:Nat→List (Addr×Obj)→Prop}{nx:Nx}{put:V→Lc→Option Lc}{c:Ts}{f:Ex}{q:List V×Hp}{s:Shared}{h:Heap}{tk:Nat}{k j:Nat}{acc:List V}{ys:List Value}{E:Value→Shared→Prop}
  (hel:J prog w (ZaU Γ scope cl C ts ρ) elt f) (aD:∀t∈fs++fr,D≠t.1) (cd:C≠D) (l0:W0.Le W) (hit:It (j+1) fs) (hv:VRs W acc ys) (r:Rep (ZaU Γ scope cl C ts ρ) W ρ1 H ((D,lst ys)::(fs++fr)) h)
  (e:((f ρ1 H).bind fun p=>(if acc.length<ZX then Za5 nx put c f ρ k (j+1) (acc++[p.1]) p.2 else none))=some q):
  wpAny (model prog w) Γ.A (eval elt (compEnvC scope cl C Γ.env)) (fun x s₄=>wpAny (model prog w) Γ.A (call (.builtin "list.append") [.ref D,x]) (fun _ s₅=>∃m,m<k+1∧Zfr Γ W0 ρ fr C D It nx put c f q s m s₅) E s₄) E { s with heap:=h,toks:=tk }:=by
 obtain⟨p,e2,e⟩:=Zz0.mp e
 by_cases hlt:acc.length<ZX
 ·rw[if_pos hlt]at e
  refine hel W ρ1 H _ _ _ E _ _ r e2 fun W2 k2 t2 x l2 r2 x2=>?_
  obtain⟨oC',m₃,hC',r3⟩:=r2.fromC
  have hD:k2.get? D=some (lst ys):=r3.frAt (q:=(D,lst ys)) (Zz2 _ Zz5)
  refine append_at (hsz:=ZbS (by rw[List.size_toArray,hv.length];omega)) hD fun h' sb hg=>?_
  have hg':h'.get? D=some (lst (ys++[x])):=hg.trans (congrArg some (lst_snoc ys x))
  have r4:Rep Γ W2 ρ p.2 ([(D,lst ys)]++((C,oC')::(fs++fr))) k2:=r3.less fun q hq=>by
   rcases Zz8.mp hq with hq | hq
   ·rw[List.mem_singleton.mp hq]
    exact Zz2 _ Zz5
   ·rcases Zz7.mp hq with e | hq
    ·exact e▸List.mem_cons_self
    ·exact Zz2 _ (Zz2 _ hq)
  have r5:Rep Γ W2 ρ p.2 ([(D,lst (ys++[x]))]++((C,oC')::(fs++fr))) h':=by
   refine r4.swap (fun q hq t ht=>?_) (fun b o hb e=>sb.extBut b o (fun z=>hb (by simp[z])) e) fun q hq=>?_
   ·rw[List.mem_singleton.mp hq]
    rcases Zz7.mp ht with e | ht
    ·rw[e]
     exact cd.symm
    ·exact aD t ht
   ·rw[List.mem_singleton.mp hq]
    exact⟨hg',by simp⟩
  have r6:Rep Γ W2 ρ p.2 ((C,oC')::(D,lst (ys++[x]))::(fs++fr)) h':=r5.less fun q hq=>by
   rcases Zz7.mp hq with e | hq
   ·exact e▸List.mem_append_right _ Zz5
   ·rcases Zz7.mp hq with e | hq
    ·exact e▸Zy7 _ Zz5
    ·exact Zz3 _ (Zz2 _ hq)
  exact⟨k,Nat.lt_succ_self k,W2,p.2,h',t2,j+1,fs,acc++[p.1],ys++[x],oC',m₃,rfl,l0.trans l2,hit,hC',(hv.mono l2).snoc x2,by simp;omega,r6,e⟩
 ·rw[if_neg hlt]at e
  cases e
theorem Zkv{scope:Scope}{cl:List (Str×Addr)}{elt:Expr}{ifs:List Expr}{ts:List (Str×Nat)}{W0 W:Wd}{ρ ρ1:Lc}{H:Hp}{fr fs:List (Addr×Obj)}{C D:Addr}{It:Nat→List (Addr×Obj)→Prop}{nx:Nx}{put:V→Lc→Option Lc}{c:Ts}{f:Ex}{q:List V×Hp}{s s1:Shared}{k j:Nat}{acc:List V}{ys:List Value}{oC:Obj}{m₂:Str→Option Value}{E:Value→Shared→Prop}
  (hel:J prog w (ZaU Γ scope cl C ts ρ) elt f) (hif:JF prog w (ZaU Γ scope cl C ts ρ) ifs c) (hs:∃h tk,s1 = { s with heap:=h,toks:=tk })
  (aC:∀t∈(D,lst ys)::(fs++fr),C≠t.1) (aD:∀t∈fs++fr,D≠t.1) (l0:W0.Le W) (hit:It (j+1) fs) (hC:NsObj oC m₂) (hv:VRs W acc ys) (hl:acc.length≤ZX) (r:Rep Γ W ρ H ((C,oC)::(D,lst ys)::(fs++fr)) s1.heap)
  (ht:∀p∈ts,∃v y,ρ1 p.2=some v∧m₂ p.1=some y∧VR W v y) (hj:∀i,(∀p∈ts,p.2≠i)→ρ1 i=ρ i)
  (e:((c ρ1 H).bind fun b=>if b.1 then(f ρ1 b.2).bind fun p=>(if acc.length<ZX then Za5 nx put c f ρ k (j+1) (acc++[p.1]) p.2 else none)else Za5 nx put c f ρ k (j+1) acc b.2)=some q):
  wpAny (model prog w) Γ.A (forIn ifs true fun c r=>if r=true then do let ok ←isTrue c (compEnvC scope cl C Γ.env) (eval c (compEnvC scope cl C Γ.env));pure (ForInStep.yield ok)else pure (ForInStep.yield r)) (fun ok s₃=>
   if ok=true then wpAny (model prog w) Γ.A (eval elt (compEnvC scope cl C Γ.env)) (fun x s₄=>wpAny (model prog w) Γ.A (call (.builtin "list.append") [.ref D,x]) (fun _ s₅=>∃m,m<k+1∧Zfr Γ W0 ρ fr C D It nx put c f q s m s₅) E s₄) E s₃
   else ∃m,m<k+1∧Zfr Γ W0 ρ fr C D It nx put c f q s m s₃) E s1:=by
 obtain⟨h,tk,rfl⟩:=hs
 obtain⟨b,e1,e⟩:=Zz0.mp e
 obtain⟨b,H1⟩:=b
 have rc:=ZkW (scope:=scope) (cl:=cl) r aC hC ht hj
 refine hif W ρ1 H _ _ _ E b H1 rc e1 fun W1 k1 t1 l1 r1=>?_
 cases b with
 | false=>
  obtain⟨oC',m₃,hC',r2⟩:=r1.fromC
  exact⟨k,Nat.lt_succ_self k,W1,H1,k1,t1,j+1,fs,acc,ys,oC',m₃,rfl,l0.trans l1,hit,hC',hv.mono l1,hl,r2,e⟩
 | true=>exact Zj8 hel aD (aC (D,lst ys) Zz5) (l0.trans l1) hit (hv.mono l1) r1 e
theorem comp_core{elt iter:Expr}{x:Str}{px:Pos}{ifs:List Expr}{scope:Scope}{pos:Pos}{cl:List (Str×Addr)}{t:Nat}{g:Src}{c:Ts}{f:Ex}(hg:JI prog w Γ iter g)(hel:∀C ρ,J prog w (ZaU Γ scope cl C [(x,t)] ρ) elt f)(hif:∀C ρ,JF prog w (ZaU Γ scope cl C [(x,t)] ρ) ifs c)
  (hcell:∀y∈scope.names,y.2≠.cell) (hkind:scope.kind=.function) (hx:scope.names.lookup x=some .local)
  {W:Wd} {ρ:Lc} {H:Hp} {fr:List (Addr×Obj)} {s:Shared} {E:Value→Shared→Prop} {q:List V×Hp} {RR:Value→Addr→Result→Shared→Prop} (r:Rep Γ W ρ H fr s.heap) (hf:((g ρ H).bind fun z=>Za5 z.1 (ZH t) c f ρ z.2.1 0 [] z.2.2)=some q)
  (hR:∀(W':Wd) (h':Heap) (tk':Nat) (C D:Addr) (oC:Obj) (m₂:Str→Option Value) (ys:List Value),W.Le W'→NsObj oC m₂→VRs W' q.1 ys→q.1.length≤ZX→(∀t∈fr,D≠t.1)→(∀t∈fr,C≠t.1)→C≠D→Rep Γ W' ρ q.2 ((C,oC)::(D,lst ys)::fr) h'→RR (.ref D) C (.ok .next) { s with heap:=h',toks:=tk' }):
  wpAny (model prog w) Γ.A (eval iter Γ.env) (fun xv s₁=>wpAny (model prog w) Γ.A (pyIter xv) (fun it s₂=>wpAny (model prog w) Γ.A (newList []) (fun acc s₃=>wpAny (model prog w) Γ.A (newFunctionEnv scope Γ.env.globals cl [] Γ.env.qual none .none (some Γ.env)) (fun cenv s₄=>
   codeAny (model prog w) Γ.A (.compStart (.ListComp elt [⟨.Name x px,iter,ifs,0⟩] scope pos) 0 it acc { cenv with scope:=relabel scope Γ.env }) (RR acc cenv.locals) s₄) E s₃) E s₂) E s₁) E s:=by
 obtain⟨z,e1,e2⟩:=Zz0.mp hf
 obtain⟨nx,n,H0⟩:=z
 refine hg W ρ H fr s _ E nx n H0 r e1 fun W1 k1 t1 itv as It fs l1 i1 r1 ap I1=>?_
 refine wpAny_newObj_type (wpAny_newFunctionEnv hcell (fun y hy=>by simp at hy) (fun h₂ hns hsb=>?_) hkind)
 dsimp only at hns hsb ⊢
 obtain⟨rD,aD⟩:=r1.more (fs:=[(k1.objs.size,lst [])]) (fun b o e=>Heap.get?_push_of_some (lst []) e) (fun q hq=>by rw[List.mem_singleton.mp hq];exact⟨Heap.get?_push_size _ rfl,Nat.le_refl _⟩)
 generalize eH:k1.push { cls:=.type "list",dict:=none,data:=.seq ([]:List Value).toArray } = K at hns hsb ⊢
 have eK:k1.push (lst [])=K:=eH
 rw[eK]at rD
 obtain⟨oC,gC,nC⟩:=ns_obj hns
 have up:∀b o,K.get? b=some o→h₂.get? b=some o:=fun b o e=>hsb.extBut b o (Nat.ne_of_lt (Heap.lt_size e)) (Heap.get?_push_of_some _ e)
 obtain⟨rC,aC⟩:=rD.more (fs:=[(K.objs.size,oC)]) up (fun q hq=>by rw[List.mem_singleton.mp hq];exact⟨gC,Nat.le_refl _⟩)
 have adr0:=I1.adr 0 fs i1
 have offs:∀b∈as,b≠k1.objs.size∧b≠K.objs.size:=fun b hb=>by
  rw[←adr0]at hb
  obtain⟨q,hq,e⟩:=Zz11.mp hb
  exact⟨e▸(aD _ Zz5 q (Zz4 _ hq)).symm,e▸(aC _ Zz5 q (Zz3 _ (Zz4 _ hq))).symm⟩
 have cd:K.objs.size≠k1.objs.size:=aC _ Zz5 (k1.objs.size,lst []) (Zz4 _ Zz5)
 have cfr:∀t∈fr,K.objs.size≠t.1:=fun t ht=>aC _ Zz5 t (Zz3 _ (Zz3 _ ht))
 have dfr:∀t∈fr,k1.objs.size≠t.1:=fun t ht=>aD _ Zz5 t (Zz3 _ ht)
 generalize k1.objs.size=D at *
 generalize K.objs.size=C at *
 have loop:∀s₃:Shared,s₃ = { s with heap:=h₂,toks:=t1+([]:List (Str×Value)).length } →
   codeAny (model prog w) Γ.A (.compLoop (.ListComp elt [⟨.Name x px,iter,ifs,0⟩] scope pos) 0 itv (.ref D) (compEnvC scope cl C Γ.env)) (RR (.ref D) C) s₃:=by
  intro s₃ hs₃
  subst hs₃
  refine codeAny_compLoop_tests (Zfr Γ W1 ρ fr C D It nx (ZH t) c f q s) ?_ n ⟨W1,H0,h₂,_,0,fs,[],[],oC,_,rfl,.refl _,i1,nC,.nil,Nat.zero_le _,rC,e2⟩
  rintro k s' ⟨W2,H2,k2,t2,j,fs2,acc,ys,oC2,m₂,rfl,l2,i2,hC2,hv2,hl2,r2,e⟩
  cases k with
  | zero=>cases e
  | succ k=>
   obtain⟨o,e4,e⟩:=Zz0.mp e
   have r2':Rep Γ W2 ρ H2 (fs2++((C,oC2)::(D,lst ys)::fr)) k2:=r2.less fun q hq=>by
    rcases Zz8.mp hq with hq | hq
    ·exact Zz2 _ (Zz2 _ (Zz4 _ hq))
    ·rcases Zz7.mp hq with e | hq
     ·exact e▸List.mem_cons_self
     ·rcases Zz7.mp hq with e | hq
      ·exact e▸Zy3 _ Zz5
      ·exact Zz2 _ (Zz2 _ (Zz3 _ hq))
   have ap2:∀b∈as,∀t∈(C,oC2)::(D,lst ys)::fr,b≠t.1:=fun b hb t ht=>by
    rcases Zz7.mp ht with e | ht
    ·rw[e]
     exact(offs b hb).2
    ·rcases Zz7.mp ht with e | ht
     ·rw[e]
      exact(offs b hb).1
     ·exact ap b hb t ht
   refine I1.next j W2 ρ H2 _ fs2 _ _ _ o l2 r2' ap2 i2 e4 ?_
   cases o with
   | none=>
    cases e
    intro h' tk' r3
    exact hR W2 h' tk' C D oC2 m₂ ys (l1.trans l2) hC2 hv2 hl2 dfr cfr cd r3
   | some v=>
    intro fs3 k3 t3 y i3 r3 y3
    obtain⟨ρ3,e5,e⟩:=Zz0.mp e
    cases e5
    have a3:∀t∈fs3,t.1∈as:=fun t ht=>by
     rw[←I1.adr _ _ i3]
     exact List.mem_map_of_mem ht
    have gC3:k3.get? C=some oC2:=r3.frAt (q:=(C,oC2)) (Zz3 _ Zz5)
    have nC3:k3.Ns C m₂:=hC2.ns gC3
    refine wpAny_assign_Name (wpAny_storeName_local (lookup_relabel_local hx) nC3 (fun h4 hn4 sb4=>?_) (by simp[compEnvC,relabel,hkind]))
    obtain⟨oC4,gC4,nC4⟩:=ns_obj hn4
    have r3':Rep Γ W2 ρ H2 ([(C,oC2)]++((D,lst ys)::(fs3++fr))) k3:=r3.less fun q hq=>by
     rcases Zz8.mp hq with hq | hq
     ·rw[List.mem_singleton.mp hq]
      exact Zz3 _ Zz5
     ·rcases Zz7.mp hq with e | hq
      ·exact e▸List.mem_append_right _ (Zz2 _ Zz5)
      ·rcases Zz8.mp hq with hq | hq
       ·exact Zz4 _ hq
       ·exact Zz3 _ (Zz2 _ (Zz2 _ hq))
    have aC3:∀t∈(D,lst ys)::(fs3++fr),C≠t.1:=fun t ht=>by
     rcases Zz7.mp ht with e | ht
     ·rw[e]
      exact cd
     ·rcases Zz8.mp ht with ht | ht
      ·exact(offs _ (a3 t ht)).2.symm
      ·exact cfr t ht
    have aD3:∀t∈fs3++fr,D≠t.1:=fun t ht=>by
     rcases Zz8.mp ht with ht | ht
     ·exact(offs _ (a3 t ht)).1.symm
     ·exact dfr t ht
    have r4:Rep Γ W2 ρ H2 ([(C,oC4)]++((D,lst ys)::(fs3++fr))) h4:=by
     refine r3'.swap (fun q hq t ht=>?_) (fun b o hb e=>sb4.extBut b o (fun z=>hb (by simp[z,compEnvC])) e) fun q hq=>?_
     ·rw[List.mem_singleton.mp hq]
      exact aC3 t ht
     ·rw[List.mem_singleton.mp hq]
      exact⟨gC4,by simp⟩
    refine Zkv (hel C ρ) (hif C ρ) ⟨h4,_,rfl⟩ aC3 aD3 l2 i3 nC4 hv2 hl2 r4 (fun p hp=>?_) (fun i hi=>?_) e
    ·rw[List.mem_singleton.mp hp]
     exact⟨v,y,by simp[upd],by simp,y3⟩
    ·have:i≠t:=fun e=>hi (x,t) Zz5 e.symm
     simp[upd,this]
 refine codeAny_compStart_list (loop _ rfl) ?_
 exact I1.self 0 W1 ρ H0 (([(C,oC)]++[(D,lst [])])++fr) fs _ _ _ (.refl _) (rC.less fun q hq=>by
  rcases Zz8.mp hq with hq | hq
  ·exact Zz3 _ (Zz3 _ (Zz4 _ hq))
  ·rcases Zz8.mp hq with hq | hq
   ·rcases Zz8.mp hq with hq | hq
    ·exact Zz4 _ hq
    ·exact Zz3 _ (Zz4 _ hq)
   ·exact Zz3 _ (Zz3 _ (Zz3 _ hq))) i1 (loop _ rfl)
theorem Zkw{W:Wd}{ρ:Lc}{q:List V×Hp}{fr:List (Addr×Obj)}{C D:Addr}{oC:Obj}{ys:List Value}{h' h'':Heap}(hv:VRs W q.1 ys)(hl:q.1.length≤ZX)(aD:∀t∈fr,D≠t.1)(aC:∀t∈fr,C≠t.1)(cd:C≠D)(r:Rep Γ W ρ q.2 ((C,oC)::(D,lst ys)::fr) h')(sb:Heap.SameBut C h' h''):
  ∃W',W.Le W'∧Rep Γ W' ρ (q.2++[q.1]) fr h''∧VR W' (.ref q.2.length) (.ref D):=by
 have r4:Rep Γ W ρ q.2 ([]++((D,lst ys)::fr)) h'':=by
  refine Rep.swap (fs:=[(C,oC)]) (fs':=[]) r (fun q hq t ht=>?_) (fun b o hb e=>sb.extBut b o (fun z=>hb (by simp[z])) e) fun q hq=>nomatch hq
  rw[List.mem_singleton.mp hq]
  rcases Zz7.mp ht with e | ht
  ·rw[e]
   exact cd
  ·exact aC t ht
 exact Zgi r4 aD hv hl
theorem J.comp{elt iter:Expr}{x:Str}{px:Pos}{ifs:List Expr}{scope:Scope}{pos:Pos}{cl:List (Str×Addr)}{t:Nat}{g:Src}{c:Ts}{f:Ex}(hg:JI prog w Γ iter g)(hel:∀C ρ,J prog w (ZaU Γ scope cl C [(x,t)] ρ) elt f)(hif:∀C ρ,JF prog w (ZaU Γ scope cl C [(x,t)] ρ) ifs c)
  (hclos:closureFor scope Γ.env=pure cl) (hcell:∀y∈scope.names,y.2≠.cell) (hkind:scope.kind=.function) (hnames:∀y∈scope.names,y.2=.local→scope.names.lookup y.1=some .local) (hx:scope.names.lookup x=some .local) (hs:∀x,foldedSetIterable iter Γ.env x=pure x:=by intro _;rfl):
  J prog w Γ (.ListComp elt [⟨.Name x px,iter,ifs,0⟩] scope pos) (ZaS g (ZH t) c f):=by
 intro W ρ H fr s Q E v H' r hf post
 obtain⟨z,e1,hf⟩:=Zz0.mp hf
 obtain⟨q,e2,e3⟩:=Zz1.mp hf
 cases e3
 rw[eval_ListComp]
 refine wpAny_comprehension_free (use:=Option.none) rfl hs hclos hkind hnames ?_
 refine comp_core (RR:=fun acc C=>compPost (model prog w) Γ.A E Option.none Q acc C) hg hel hif hcell hkind hx r (q:=q) (by rw[e1];exact e2) fun W2 h' tk' C D oC m₂ ys l2 hC hv hl aD aC cd r3=>?_
 refine⟨m₂,hC.ns (r3.frAt (q:=(C,oC)) Zz5),fun h'' sb=>?_⟩
 obtain⟨W5,l5,r5,v5⟩:=Zkw hv hl aD aC cd r3 sb
 exact post W5 h'' tk' _ (l2.trans l5) r5 v5
theorem Zgc{elt iter:Expr}{x y:Str}{px py pos spos:Pos}{ifs:List Expr}{scope:Scope}{cl:List (Str×Addr)}{t i:Nat}{g:Src}{c:Ts}{f:Ex}(hy:Sto prog w Γ y i)(hg:JI prog w Γ iter g)(hel:∀C ρ,J prog w (ZaU Γ scope cl C [(x,t)] ρ) elt f)(hif:∀C ρ,JF prog w (ZaU Γ scope cl C [(x,t)] ρ) ifs c)
  (hsw:swapsWith (.ListComp elt [⟨.Name x px,iter,ifs,0⟩] scope pos) (some (.Name y py)) spos.line Γ.env=pure true)
  (hclos:closureFor scope Γ.env=pure cl) (hcell:∀y∈scope.names,y.2≠.cell) (hkind:scope.kind=.function) (hnames:∀y∈scope.names,y.2=.local→scope.names.lookup y.1=some .local) (hx:scope.names.lookup x=some .local) (hs:∀x,foldedSetIterable iter Γ.env x=pure x:=by intro _;rfl):
  S1 prog w Γ (.Assign [.Name y py] (.ListComp elt [⟨.Name x px,iter,ifs,0⟩] scope pos) spos) (Zy i (ZaS g (ZH t) c f)):=by
 intro W ρ H fr s Q E r rp hf post
 obtain⟨p,e0,e9⟩:=Zz1.mp hf
 cases e9
 obtain⟨z,e1,hf⟩:=Zz0.mp e0
 obtain⟨q,e2,e3⟩:=Zz1.mp hf
 cases e3
 rw[exec_Assign_Name_used _ _ _ _ hsw]
 refine wpAny_bind (wpAny_standAt (wpAny_bind ?_))
 show wpAny _ Γ.A (do let _ ←comprehension (.ListComp elt [⟨.Name x px,iter,ifs,0⟩] scope pos) scope Γ.env _ (newList []) false (eval iter Γ.env) (some (assign (.Name y py) Γ.env))) _ _ s
 refine wpAny_bind (wpAny_mono (wpAny_comprehension_free (use:=some (assign (.Name y py) Γ.env)) (Q:=fun _ s'=>Q .next s') rfl hs hclos hkind hnames ?_) (fun _ s' h'=>wpAny_pure (wpAny_pure h')) fun _ _ e=>e)
 refine comp_core (RR:=fun acc C=>compPost (model prog w) Γ.A E (some (assign (.Name y py) Γ.env)) (fun _ s'=>Q .next s') acc C) hg hel hif hcell hkind hx rp (q:=q) (by rw[e1];exact e2) fun W2 h' tk' C D oC m₂ ys l2 hC hv hl aD aC cd r3=>?_
 have r4:Rep Γ W2 ρ q.2 ((D,lst ys)::(C,oC)::fr) h':=r3.less fun t ht=>by
  rcases Zz7.mp ht with e | ht
  ·exact e▸Zy3 _ Zz5
  ·rcases Zz7.mp ht with e | ht
   ·exact e▸List.mem_cons_self
   ·exact Zz2 _ (Zz2 _ ht)
 obtain⟨W5,l5,r5,v5⟩:=Zgi r4 (fun t ht=>by
  rcases Zz7.mp ht with e | ht
  ·rw[e]
   exact cd.symm
  ·exact aD t ht) hv hl
 refine wpAny_assign_Name (hy W5 ρ _ _ _ _ _ _ _ r5 v5 fun h6 t6 r6=>?_)
 refine⟨m₂,hC.ns (r6.frAt (q:=(C,oC)) Zz5),fun h'' sb=>?_⟩
 have r7:Rep Γ W5 (upd ρ i (.ref q.2.length)) (q.2++[q.1]) ([]++fr) h'':=
  Rep.swap (fs:=[(C,oC)]) (fs':=[]) r6 (fun q hq t ht=>by rw[List.mem_singleton.mp hq];exact aC t ht) (fun b o hb e=>sb.extBut b o (fun z=>hb (by simp[z])) e) fun q hq=>nomatch hq
 exact post W5 h'' t6 (l2.trans l5) r7
end
end PM
end
section
namespace PM
open PySem PySem.W PySem.Calls PyProof.Rows PyProof PyProof.Rows.LCg PyProof.Rows.LCp
structure Itr2(prog:Program)(w:World)(Γ:Cx)(W0:Wd)(it:Value)(as:List Addr)(It:Nat→List (Addr×Obj)→Prop)(nx:Nx): Prop where
 adr:∀i fs,It i fs→fs.map (·.1)=as
 pair:∀i H v,nx i H=some (some v)→∃a b,v=.tup [a,b]
 item:∀(i:Nat) (W:Wd) (ρ:Lc) (H:Hp) (fr fs:List (Addr×Obj)) (s:Shared) (Q:Option Value→Shared→Prop) (E:Value→Shared→Prop) (a b:V),W0.Le W→Rep Γ W ρ H (fs++fr) s.heap→(∀a∈as,∀t∈fr,a≠t.1)→It i fs→nx i H=some (some (.tup [a,b])) →
  (∀(T:Addr) (h1:Heap) (t1:Nat),(∀(elts:List Expr) (k:Nat) (pos:Pos) (s1:Shared) (Q1:Unit→Shared→Prop) (E1:Value→Shared→Prop),s1 = { s with heap:=h1,toks:=t1 } →
    (∀(fs':List (Addr×Obj)) (h':Heap) (x y:Value),It (i+1) fs'→Rep Γ W ρ H (fs'++fr) h'→IsTup h' T #[x,y]→VR W a x→VR W b y→Q1 () { s with heap:=h',toks:=t1 })→wpAny (model prog w) Γ.A (letOwnedTupleGo (.Tuple elts k pos) it (.ref T)) Q1 E1 s1)→Q (some (.ref T)) { s with heap:=h1,toks:=t1 })→wpAny (model prog w) Γ.A (pyNext it) Q E s
 done:∀(i:Nat) (W:Wd) (ρ:Lc) (H:Hp) (fr fs:List (Addr×Obj)) (s:Shared) (Q:Option Value→Shared→Prop) (E:Value→Shared→Prop),W0.Le W→Rep Γ W ρ H (fs++fr) s.heap→(∀a∈as,∀t∈fr,a≠t.1)→It i fs→nx i H=some none →
  (∀(h':Heap) (tk':Nat),Rep Γ W ρ H fr h'→Q none { s with heap:=h',toks:=tk' })→wpAny (model prog w) Γ.A (pyNext it) Q E s
 self:∀(i:Nat) (W:Wd) (ρ:Lc) (H:Hp) (fr fs:List (Addr×Obj)) (s:Shared) (Q E:Value→Shared→Prop) (o:Option V),W0.Le W→Rep Γ W ρ H (fs++fr) s.heap→It i fs→nx i H=some o→Q it s→wpAny (model prog w) Γ.A (pyIter it) Q E s
noncomputable def JI2(prog:Program)(w:World)(Γ:Cx)(e:Expr)(g:Src): Prop:=∀(W:Wd) (ρ:Lc) (H:Hp) (fr:List (Addr×Obj)) (s:Shared) (Q E:Value→Shared→Prop) (nx:Nx) (n:Nat) (H':Hp),
 Rep Γ W ρ H fr s.heap→g ρ H=some (nx,n,H') →
 (∀(W':Wd) (h':Heap) (tk':Nat) (it:Value) (as:List Addr) (It:Nat→List (Addr×Obj)→Prop) (fs:List (Addr×Obj)),W.Le W'→It 0 fs→Rep Γ W' ρ H' (fs++fr) h'→(∀a∈as,∀t∈fr,a≠t.1)→Itr2 prog w Γ W' it as It nx→(∃o,nx 0 H'=some o)→Q it { s with heap:=h',toks:=tk' }) →
 wpAny (model prog w) Γ.A (eval e Γ.env) (fun xv s₁=>wpAny (model prog w) Γ.A (pyIter xv) Q E s₁) E s
noncomputable def Zna(i j:Nat): V→Lc→Option Lc
 | .tup [a,b],ρ=>some (upd (upd ρ i a) j b)
 | _,_=>none
section
variable {prog:Program} {w:World} {Γ:Cx}
end
end PM
end
section
namespace PM
open PySem PySem.W PySem.Calls PyProof.Rows PyProof PySem.Spec
theorem ZiB{prog:Program}{w:World}{A A₀:Around}{s:Shared}{base h₀:Heap}{L:Addr}{m:Str→Option Value}{lent:List (Addr×Obj)}{K:Frag}{p:Program}{loose:List Str}{mean:ExcName→Option Value}{mg mb:Str→Option Value}
  {env:Env} {outer:List Env} {R:Result→Shared→Prop} {name qual:Str} {params:Arguments} {body:List Stmt} {scope:Scope} {dV kV doc pm cdv ct oc:Value} {an od:Option Addr} {osl:Array (Option Value)} {f:Addr} {args:Args} {binds:List (Str×Value)}
  (B:Below A₀ base outer h₀) (F:Fr h₀ L s.heap m) (X₀:K.In h₀) (N:News h₀ L s.heap lent) (T:Top p loose mean mg mb h₀) (hA:A.frames=some (env::outer)) (hf:env.frame=some L) (hke:env.scope.kind=.function)
  (ho:K.lookup f=some ⟨oc,od,.func (fnOf name qual params body scope dV kV doc pm an cdv ct),osl⟩) (hcd:codeIn K cdv qual=true) (hroom:A.depth<recursionLimit)
  (hbind:BindsTo s (fnOf name qual params body scope dV kV doc pm an cdv ct) args binds) (hall:(binds.all fun y=>scope.names.lookup y.1 == some .local || scope.names.lookup y.1 == some .cell)=true) (hone:((cellsFrom 0 scope.names []).map (·.1)).Nodup)
  (h:∀g L' h₁ tk cells,(∀b o,s.heap.get? b=some o→b∉lent.map (·.1)→g.get? b=some o)→Fr g L' h₁ (bindL (envOfC qual scope L' f cdv).kindOf binds fun _=>none)→News g L' h₁ (cells++lent)→CellsAre (bindC (envOfC qual scope L' f cdv).kindOf binds fun _=>none) (cellsFrom (L'+1) scope.names []) cells →
   (cellsFrom (L'+1) scope.names []).Pairwise (fun x y=>x.2≠y.2)→(∀n c,(n,c)∈cellsFrom (L'+1) scope.names []→L'<c)→Below A base (env::outer) g→K.In g→Top p loose mean mg mb g→(∀q∈lent,q.1<L')→s.heap.objs.size≤L' →
   wpAny (model prog w) (A.deeper (envOfC qual scope L' f cdv)) (execs body (envOfC qual scope L' f cdv)) (fun fl s'=>LeaveK h₀ L m g R (match fl with | .ret v=>v | _=>.none) s')
    (fun e s'=>wpAny (model prog w) (A.deeper (envOfC qual scope L' f cdv)) (leaving (envOfC qual scope L' f cdv) e) (fun _ s''=>R (.error e) s'') (fun e' s''=>R (.error e') s'') s') { s with heap:=h₁,toks:=tk })
  (hco:scope.isCoroutine=false) (hgen:scope.isGenerator=false) (hk:scope.kind=.function):codeAny (model prog w) A (.call (.ref f) args) R s:=by
 obtain⟨FG,BG,st,lv⟩:=groundX (R:=R) B F N hA hf hke
 have X:=X₀.keeps F.keep
 refine codeAny_call_function (fd:=fnOf name qual params body scope dV kV doc pm an cdv ct) hroom (X _ _ ho) rfl hco hgen rfl (codeRec_of X hcd) (hbind _ _ _ _ ?_)
 refine wpAny_newFunctionEnv_cells hk (kindsX hall _) fun fresh hfr s' inC=>?_
 subst hfr
 have up:=inC.toInCall.keep
 refine⟨(T.nolimit.keeps F.keep).keeps up,codeAny_func ?_⟩
 obtain⟨h₁,tk,hs',_⟩:=inC.done
 subst hs'
 have nod:=cellsFrom_names scope.names 0 (s.heap.objs.size+1) [] [] rfl▸hone
 obtain⟨cells,NC,Y⟩:=Cl.news (h₀:=s.heap) (L:=s.heap.objs.size) (Zz10 _) fun n c hm=>⟨inC.cell n c (lookup_of_mem_nodup nod hm),inC.above n c hm⟩
 have old:∀q∈lent,q.1<s.heap.objs.size:=fun q hq=>Heap.lt_size (N q hq).1
 refine wpAny_mono (h _ s.heap.objs.size h₁ tk cells (fun b o e nb=>hideAll_get _ e nb) ⟨inC.toInCall.ns,fun b o e=>up b o (of_hideAll _ e),Nat.le_of_eq (hideAll_size _ _)⟩ (fun q hq=>?_) Y inC.apart inC.above BG (X₀.keeps st) (T.keeps st) old (Zz10 _)) (fun fl s' hl=>lv _ _ hl) fun _ _ y=>y
 rcases Zz8.mp hq with hq | hq
 ·obtain⟨c1,c2,c3⟩:=NC q hq
  refine⟨c1,c2,?_⟩
  cases e:(hideAll s.heap (lent.map (·.1))).get? q.1 with
  | none=>rfl
  | some o=>
   have z:=of_hideAll _ e
   rw[c3]at z
   cases z
 ·exact⟨up _ _ (N q hq).1,Nat.ne_of_lt (old q hq),hideAll_none _ (List.mem_map_of_mem hq)⟩
section
variable (prog:Program) (w:World) (K:Frag) (p:Program) (loose:List Str) (mean:ExcName→Option Value) (mg mb:Str→Option Value)
noncomputable def Clr(Γ:Cx)(dp un:Nat): Prop:=∃(gd:Option (List Code)) (cn:Str) (cs:Scope) (a:Addr) (ccd:Value) (cl:List (Str×Addr)) (outer:List Env) (A₀:Around) (base:Heap),
 Γ.A=ktrTop dp un gd cn cs Γ.L a ccd cl outer∧Below A₀ base outer Γ.h₀∧K.In Γ.h₀∧Top p loose mean mg mb Γ.h₀∧cs.kind=.function
noncomputable def Def(f:Addr)(room:Nat)(F:List V→Hp→Option (V×Hp)): Prop:=∀(Γ:Cx) (dp un:Nat),Clr K p loose mean mg mb Γ dp un→dp+room<recursionLimit→un+10*room+300<cLine →
 ∀(W:Wd) (ρ:Lc) (H:Hp) (fr:List (Addr×Obj)) (s:Shared) (Q E:Value→Shared→Prop) (as:List V) (xs:List Value) (v:V) (H':Hp),
  Rep Γ W ρ H fr s.heap→VRs W as xs→F as H=some (v,H')→Zdz Γ W ρ H' fr s Q v→codeAny (model prog w) Γ.A (.call (.ref f) ⟨xs,[]⟩) (fun r s'=>match r with | .ok (.ret v)=>Q v s' | .ok _=>False | .error e=>E e s') s
end
noncomputable def Z3(n:Nat)(g:Sm): List V→Hp→Option (V×Hp):=fun as H=>if as.length=n then(g (fun i=>as[i]?) H).map fun r=>((r.1.getD .none),r.2.2)else none
theorem ZhH{kindOf:Str→Option NameKind}: ∀{ps:List Str} {xs:List Value} {m:Str→Option Value} {x:Str} {i:Nat} {y:Value},ps.Nodup→ps[i]?=some x→xs[i]?=some y→kindOf x=some .local→bindL kindOf (ps.zip xs) m x=some y:=by
 have skip:∀{ps:List Str} {xs:List Value} {m:Str→Option Value} {x:Str},x∉ps→bindL kindOf (ps.zip xs) m x=m x:=by
  intro ps
  induction ps with
  | nil=>intro xs m x _;rfl
  | cons p ps ih=>
   intro xs m x hx
   cases xs with
   | nil=>rfl
   | cons z xs=>
    simp only[List.zip_cons_cons,bindL]
    rw[ih (fun h=>hx (Zz2 _ h))]
    have:x≠p:=fun e=>hx (e▸List.mem_cons_self)
    split <;> simp[this]
 intro ps
 induction ps with
 | nil=>intro xs m x i y _ h;simp at h
 | cons p ps ih=>
  intro xs m x i y nd hp hx hk
  cases xs with
  | nil=>simp at hx
  | cons z xs=>
   obtain⟨n1,n2⟩:=List.nodup_cons.mp nd
   cases i with
   | zero=>
    simp at hp hx
    subst hp hx
    simp only[List.zip_cons_cons,bindL]
    rw[skip n1,if_pos hk]
    simp
   | succ i=>
    simp at hp hx
    simp only[List.zip_cons_cons,bindL]
    exact ih n2 hp hx hk
theorem Zj9{kindOf:Str→Option NameKind}: ∀{ps:List Str} {xs:List Value} {m:Str→Option Value} {x:Str} {i:Nat} {y:Value},ps.Nodup→ps[i]?=some x→xs[i]?=some y→kindOf x=some .cell→bindC kindOf (ps.zip xs) m x=some y:=by
 have skip:∀{ps:List Str} {xs:List Value} {m:Str→Option Value} {x:Str},x∉ps→bindC kindOf (ps.zip xs) m x=m x:=by
  intro ps
  induction ps with
  | nil=>intro xs m x _;rfl
  | cons p ps ih=>
   intro xs m x hx
   cases xs with
   | nil=>rfl
   | cons z xs=>
    simp only[List.zip_cons_cons,bindC]
    rw[ih (fun h=>hx (Zz2 _ h))]
    have:x≠p:=fun e=>hx (e▸List.mem_cons_self)
    split <;> simp[this]
 intro ps
 induction ps with
 | nil=>intro xs m x i y _ h;simp at h
 | cons p ps ih=>
  intro xs m x i y nd hp hx hk
  cases xs with
  | nil=>simp at hx
  | cons z xs=>
   obtain⟨n1,n2⟩:=List.nodup_cons.mp nd
   cases i with
   | zero=>
    simp at hp hx
    subst hp hx
    simp only[List.zip_cons_cons,bindC]
    rw[skip n1,if_neg (by rw[hk];simp)]
    simp
   | succ i=>
    simp at hp hx
    simp only[List.zip_cons_cons,bindC]
    exact ih n2 hp hx hk
theorem Zd4{cm:Str→Option Value}: ∀{cs:List (Str×Addr)} {cells:List (Addr×Obj)} {x:Str} {c:Addr},CellsAre cm cs cells→(x,c)∈cs→∃o,(c,o)∈cells∧o.data=.cell (cm x)
 | _,_,_,_,.nil,h=>nomatch h
 | _,_,_,_,.cons hd r,h=>by
  rcases Zz7.mp h with e | h
  ·cases e
   exact⟨_,List.mem_cons_self,hd⟩
  ·obtain⟨o,h1,h2⟩:=Zd4 r h
   exact⟨o,Zy3 _ h1,h2⟩
theorem Zif{cm:Str→Option Value}: ∀{cs:List (Str×Addr)} {cells:List (Addr×Obj)} {q:Addr×Obj},CellsAre cm cs cells→q∈cells→∃x,(x,q.1)∈cs
 | _,_,_,.nil,h=>nomatch h
 | _,_,_,.cons hd r,h=>by
  rcases Zz7.mp h with e | h
  ·cases e
   exact⟨_,List.mem_cons_self⟩
  ·obtain⟨x,h1⟩:=Zif r h
   exact⟨x,Zy3 _ h1⟩
theorem ZbR{α β:Type}[BEq α][LawfulBEq α]: ∀{l:List (α×β)} {x:α} {y:β},l.lookup x=some y→(x,y)∈l
 | [],_,_,h=>by simp at h
 | (a,b)::r,x,y,h=>by
  rw[List.lookup_cons]at h
  split at h
  ·rename_i e
   cases h
   have:=eq_of_beq e
   subst this
   exact Zz5
  ·exact Zz2 _ (ZbR h)
end PM
end
section
namespace PM
open PySem PySem.W PySem.Calls PyProof.Rows PyProof PySem.Spec
section
variable {prog:Program} {w:World} {K:Frag} {p:Program} {loose:List Str} {mean:ExcName→Option Value} {mg mb:Str→Option Value}
theorem Def.of{name qual:Str}{params:Arguments}{body:List Stmt}{scope:Scope}{dV kV doc pm cdv ct oc:Value}{an od:Option Addr}{osl:Array (Option Value)}{f:Addr}{names:List Str}{n room:Nat}{g:Sm}
  (ho:K.lookup f=some ⟨oc,od,.func (fnOf name qual params body scope dV kV doc pm an cdv ct),osl⟩) (hcd:codeIn K cdv qual=true) (nd:names.Nodup) (hn:n≤names.length)
  (hbind:∀s xs,xs.length=n→BindsTo s (fnOf name qual params body scope dV kV doc pm an cdv ct) ⟨xs,[]⟩ ((names.take n).zip xs)) (hkinds:∀x∈names.take n,scope.names.lookup x=some .local∨scope.names.lookup x=some .cell) (hone:((cellsFrom 0 scope.names []).map (·.1)).Nodup)
  (hco:scope.isCoroutine=false) (hgen:scope.isGenerator=false) (hk:scope.kind=.function)
  (hbody:∀(dp un:Nat) (gd:Option (List Code)) (L:Addr) (outer:List Env) (h₀:Heap) (hu:un+200<cLine),Clr K p loose mean mg mb (Zam dp un gd qual scope L f cdv (cellsFrom (L+1) scope.names []) outer h₀ hu names) dp un→dp+room<recursionLimit→un+10*room+300<cLine →
   Ss prog w (Zam dp un gd qual scope L f cdv (cellsFrom (L+1) scope.names []) outer h₀ hu names) body g):
  Def prog w K p loose mean mg mb f (room+1) (Z3 n g):=by
 intro Γ dp un clr hd hu W ρ H fr s Q E as xs v H' r hx hF post
 obtain⟨gd,cn,cs,a,ccd,cl,outer,A₀,base,eA,B,X,T,hke⟩:=clr
 unfold Z3 at hF
 split at hF
 ·rename_i hlen
  obtain⟨res,e1,e2⟩:=Zz1.mp hF
  obtain⟨o,ρ',K'⟩:=res
  cases e2
  obtain⟨m,c,led,r⟩:=r
  have hxl:xs.length=n:=by rw[hx.length,hlen]
  have inn:∀q∈led,(q.1∈W.pi∨q.1∈W.tups.map (·.1))↔q∈led.filter (fun q=>decide (q.1∈W.pi∨q.1∈W.tups.map (·.1))):=fun q hq=>⟨fun h=>Zy9.mpr ⟨hq,by simpa using h⟩,fun h=>by simpa using (List.mem_filter.mp h).2⟩
  have isub:∀q∈led.filter (fun q=>decide (q.1∈W.pi∨q.1∈W.tups.map (·.1))),q∈led:=fun q hq=>(List.mem_filter.mp hq).1
  generalize hlent:led.filter (fun q=>decide (q.1∈W.pi∨q.1∈W.tups.map (·.1)))=lent at inn isub
  have notin:∀q∈led,q.1∉W.pi→(∀t∈W.tups,q.1≠t.1)→q.1∉lent.map (·.1):=fun q hq h1 h2 h3=>by
   obtain⟨t,ht,e⟩:=Zz11.mp h3
   rcases(inn t (isub t ht)).mpr ht with z | z
   ·exact h1 (e▸z)
   ·obtain⟨u,hu,e'⟩:=Zz11.mp z
    exact h2 u hu (e▸e'.symm)
  rw[eA]
  refine ZiB (env:=envX cn cs Γ.L a ccd cl) (lent:=lent) B r.F X (fun q hq=>r.N q (isub q hq)) T rfl rfl hke ho hcd (by show dp<recursionLimit;omega) (hbind s xs hxl) ?_ hone ?_ hco hgen hk
  ·refine List.all_eq_true.mpr fun y hy=>?_
   rcases hkinds y.1 (List.of_mem_zip hy).1 with h | h <;> simp[h]
  intro g0 L' h₁ tk cells stay F' N' Y ap ab B' X' T' old szL
  have hu':(un+3)+200<cLine:=by omega
  have clr':Clr K p loose mean mg mb (Zam (dp+1) (un+3) gd qual scope L' f cdv (cellsFrom (L'+1) scope.names []) (envX cn cs Γ.L a ccd cl::outer) g0 hu' names) (dp+1) (un+3):=
   ⟨gd,qual,scope,f,cdv,cellsFrom (L'+1) scope.names [],envX cn cs Γ.L a ccd cl::outer,_,base,rfl,B',X',T',hk⟩
  have below:∀q∈cells,L'<q.1:=fun q hq=>by
   obtain⟨x,hx⟩:=Zif Y hq
   exact ab x _ hx
  have piLt:∀b∈W.pi,b<L':=fun b hb=>by
   obtain⟨o,ho⟩:=r.piIn b hb
   exact Nat.lt_of_lt_of_le (Heap.lt_size (r.get ho)) szL
  have tuLt:∀t∈W.tups,t.1<L':=fun t ht=>Nat.lt_of_lt_of_le (Heap.lt_size (r.get (r.R.tups t ht))) szL
  have scN:W.sc.1∉lent.map (·.1):=fun z=>by
   obtain⟨t,ht,e⟩:=Zz11.mp z
   exact r.notSc t (isub t ht) e
  have tkn:∀{i:Nat} {x:Str} {u:V},names[i]?=some x→as[i]?=some u→(names.take n)[i]?=some x∧∃y,xs[i]?=some y∧VR W u y:=fun {i x u} h1 h2=>by
   have hi:i<n:=by rw[←hlen];exact(Zz6.mp h2).1
   exact⟨by rw[List.getElem?_take_of_lt hi];exact h1,hx.at h2⟩
  have ndt:(names.take n).Nodup:=nd.sublist (List.take_sublist _ _)
  have rep:Rep (Zam (dp+1) (un+3) gd qual scope L' f cdv (cellsFrom (L'+1) scope.names []) (envX cn cs Γ.L a ccd cl::outer) g0 hu' names) W (fun i=>as[i]?) H [] h₁:=by
   refine⟨_,cells,cells++lent,⟨F',N',⟨r.R.len,r.R.nd,fun i vs e ni=>?_,fun q hq=>?_,r.R.kind,fun i vs fs e hi=>?_,r.R.inlt,r.R.iuni⟩,stay _ _ (r.F.keep _ _ r.sc) scN,r.sc0,fun q hq=>(nomatch hq),fun q hq=>(nomatch hq),fun q hq=>Zy7 _ hq,fun q hq z=>?_,fun q _ t ht=>(nomatch ht),fun q hq=>(nomatch hq),fun q hq t ht=>?_,⟨fun i x u hi hk1 hu1=>?_,fun i x u hi hk1 hu1=>?_,fun x c1 hc=>?_,fun x y c1 h1 h2=>?_⟩⟩⟩
   ·obtain⟨l,b,ys,k,h1,h2,h3⟩:=r.R.lists i vs e ni
    exact⟨l,b,ys,k,h1,Zbs h2 fun z=>List.mem_append_right _ ((inn _ z).mp (.inl (Zy4 h1))),h3⟩
   ·exact Zbs (r.R.tups q hq) fun z=>List.mem_append_right _ ((inn _ z).mp (.inr (List.mem_map_of_mem hq)))
   ·obtain⟨l,b,od,ys,h1,h2,h3⟩:=r.R.objs i vs fs e hi
    exact⟨l,b,od,ys,h1,Zbs h2 fun z=>List.mem_append_right _ ((inn _ z).mp (.inl (Zy4 h1))),h3⟩
   ·exact absurd (Nat.lt_trans (piLt _ z) (below q hq)) (Nat.lt_irrefl _)
   ·exact Nat.ne_of_gt (Nat.lt_trans (tuLt t ht) (below q hq))
   ·obtain⟨h1,y,h2,h3⟩:=tkn hi hu1
    exact⟨y,ZhH ndt h1 h2 hk1,h3⟩
   ·obtain⟨h1,y,h2,h3⟩:=tkn hi hu1
    have hs:=cellsFrom_some scope.names (L'+1) [] (.inl hk1)
    obtain⟨c1,hc1⟩:=Option.isSome_iff_exists.mp hs
    obtain⟨o1,ho1,hd1⟩:=Zd4 Y (ZbR hc1)
    refine⟨c1,o1,y,hc1,ho1,?_,h3⟩
    rw[hd1,Zj9 ndt h1 h2 hk1]
   ·obtain⟨o1,ho1,hd1⟩:=Zd4 Y (ZbR hc)
    exact⟨o1,_,ho1,hd1⟩
   ·exact name_of_addr ap (ZbR h1) (ZbR h2)
  have hb:=hbody (dp+1) (un+3) gd L' (envX cn cs Γ.L a ccd cl::outer) g0 hu' clr' (by omega) (by omega)
  have back:∀(W':Wd) (h':Heap) (tk':Nat) (x:Value),W.Le W'→Rep (Zam (dp+1) (un+3) gd qual scope L' f cdv (cellsFrom (L'+1) scope.names []) (envX cn cs Γ.L a ccd cl::outer) g0 hu' names) W' ρ' K' [] h'→VR W' (o.getD .none) x →
    LeaveK Γ.h₀ Γ.L m g0 (fun r s'=>match r with | .ok (.ret v)=>Q v s' | .ok _=>False | .error e=>E e s') x { s with heap:=h',toks:=tk' }:=by
   intro W' h' tk' x l' r' x'
   obtain⟨m',c',led',r'⟩:=r'
   refine⟨L',m',led',r'.F,r'.N,fun FG NG=>post W' h' tk' x l' ?_ x'⟩
   have g0at:∀q∈led,q.1∉lent.map (·.1)→g0.get? q.1=some q.2:=fun q hq hn=>stay _ _ (r.N q hq).1 hn
   have frN:∀q∈fr,q.1∉lent.map (·.1):=fun q hq=>notin q (r.frIn q hq) (r.frOff q hq) (r.frTup q hq)
   have clN:∀q∈c,q.1∉lent.map (·.1):=fun q hq=>notin q (r.clIn q hq) (r.clOff q hq) (r.clTup q hq)
   have newN:∀t∈led',g0.get? t.1=none:=fun t ht=>(r'.N t ht).2.2
   have far:∀q∈led,q.1∉lent.map (·.1)→∀t∈W'.sc::led',q.1≠t.1:=fun q hq hn t ht e=>by
    rcases Zz7.mp ht with e2 | ht
    ·rw[e2,l'.sc]at e
     exact r.notSc q hq e
    ·have:=g0at q hq hn
     rw[e,newN t ht]at this
     cases this
   have farPi:∀q∈led,q.1∉lent.map (·.1)→q.1∉W'.pi:=fun q hq hn z=>by
    obtain⟨o2,h2⟩:=r'.piIn _ z
    exact far q hq hn _ h2 rfl
   have keep:∀q∈led,q.1∉lent.map (·.1)→q∈led'++led.filter (fun q=>decide (q.1∉lent.map (·.1))):=fun q hq hn=>List.mem_append_right _ (Zy9.mpr ⟨hq,by simpa using hn⟩)
   refine⟨m,c,led'++led.filter (fun q=>decide (q.1∉lent.map (·.1))),⟨FG,fun q hq=>?_,r'.R.mono fun q hq=>ZbW hq fun x hx=>Zy7 _ hx,l'.sc▸r.sc,r'.sc0,fun q hq=>keep q (r.frIn q hq) (frN q hq),fun q hq=>farPi q (r.frIn q hq) (frN q hq),fun q hq=>keep q (r.clIn q hq) (clN q hq),fun q hq=>farPi q (r.clIn q hq) (clN q hq),r.apart,fun q hq t ht=>far q (r.frIn q hq) (frN q hq) t (r'.R.tups t ht),fun q hq t ht=>far q (r.clIn q hq) (clN q hq) t (r'.R.tups t ht),Γ.mono l' r.own⟩⟩
   rcases Zz8.mp hq with hq | hq
   ·exact NG q hq
   ·obtain⟨h1,h2⟩:=List.mem_filter.mp hq
    exact⟨r'.F.keep _ _ (g0at q h1 (by simpa using h2)),(r.N q h1).2⟩
  refine hb W _ H [] _ _ _ (o,ρ',K') rep e1 ?_
  cases o with
  | none=>exact fun W' h' tk' l' r'=>back W' h' tk' .none l' r' .none
  | some v0=>exact fun W' h' tk' x l' r' x'=>back W' h' tk' x l' r' x'
 ·cases hF
theorem Zag{Γ:Cx}{dp un:Nat}{x:Str}{np pos:Pos}{f:Addr}{room:Nat}{e:Expr}{es:List Expr}{g:ZW}{o:List V→Hp→Option (V×Hp)}(clr:Clr K p loose mean mg mb Γ dp un)(hn:Nm prog w Γ x (.ref f))(hkeep:keepIn K (.ref f)=true)(D:Def prog w K p loose mean mg mb f room o)(hd:dp+room<recursionLimit)(hu:un+10*room+300<cLine)
  (h:Js prog w Γ (e::es) g) (he:starEach (e::es) Γ.env=(false,eval e Γ.env)::starEach es Γ.env:=by rfl) (hp:∀pos,(backTo pos (starEach es Γ.env)).any (·.1)=false:=by intro _;rfl):J prog w Γ (.Call (.Name x np) (e::es) [] pos) (Ze o g):=by
 intro W ρ H fr s Q E v H' r hf post
 obtain⟨q,e1,hf⟩:=Zz0.mp hf
 have X:K.In Γ.h₀:=by
  obtain⟨_,_,_,_,_,_,_,_,_,_,_,X,_⟩:=clr
  exact X
 refine wpAny_Call_ofName (hn.use r ?_)
 refine callWith_K (first:=[]) X hkeep (h pos W ρ H fr s _ E _ _ r e1 fun W1 k1 t1 xs l1 r1 x1=>⟨?_,?_⟩) he (hp pos)
 ·obtain⟨m,c,led,r1⟩:=r1
  exact X.keeps r1.F.keep
 ·exact wpAny_call (D Γ dp un clr hd hu W1 ρ _ fr _ Q E _ xs v H' r1 x1 hf fun W2 k2 t2 y l2 r2 y2=>post W2 k2 t2 y (l1.trans l2) r2 y2)
theorem Clr.comp{Γ:Cx}{dp un:Nat}{scope:Scope}{cl:List (Str×Addr)}{C:Addr}{ts:List (Str×Nat)}{ρ0:Lc}(h:Clr K p loose mean mg mb Γ dp un): Clr K p loose mean mg mb (ZaU Γ scope cl C ts ρ0) dp un:=h
end
end PM
end
section
namespace PM
open PySem PySem.W PySem.Calls PyProof.Rows PyProof PySem.Spec
theorem ZfV{lo:Nat}: ∀(names:List (Str×NameKind)) (n:Nat) (acc:List (Str×Addr)),acc.Pairwise (fun x y=>x.2≠y.2)→(∀q∈acc,lo<q.2∧q.2<n)→lo<n→(cellsFrom n names acc).Pairwise (fun x y=>x.2≠y.2)∧∀q∈cellsFrom n names acc,lo<q.2
 | [],n,acc,h1,h2,_=>⟨h1,fun q hq=>(h2 q hq).1⟩
 | (y,k)::r,n,acc,h1,h2,h3=>by
  unfold cellsFrom
  by_cases hk:(k == .cell)=true
  ·rw[if_pos hk]
   refine ZfV r (n+1) ((y,n)::acc) (List.pairwise_cons.mpr ⟨fun q hq=>Nat.ne_of_gt (h2 q hq).2,h1⟩) (fun q hq=>?_) (Nat.lt_succ_of_lt h3)
   rcases Zz7.mp hq with e | hq
   ·rw[e]
    exact⟨h3,Nat.lt_succ_self n⟩
   ·exact⟨(h2 q hq).1,Nat.lt_succ_of_lt (h2 q hq).2⟩
  ·rw[if_neg hk]
   exact ZfV r n acc h1 h2 h3
theorem Zka{P:Params}{h:Heap}{a:Addr}{ns:List Int}(w1:Well P h (.ref a) (ofPy (.list (ns.map PyData.int))))(W:Wd): ∃vs,h.get? a=some (Za7 vs 0)∧VRs W (ns.map V.int) vs:=by
 have key:∀{ns:List Int} {vs:List Value} {xs:List WData},xs=(ns.map PyData.int).map ofPy→WellAll P h vs xs→VRs W (ns.map V.int) vs:=by
  intro ns
  induction ns with
  | nil=>intro vs xs e h;subst e;cases h;exact .nil
  | cons n ns ih=>
   intro vs xs e h
   subst e
   cases h with
   | cons h1 h2=>
    cases h1 with
    | int i t=>exact .cons (.int _ _) (ih rfl h2)
 have e:ofPy (.list (ns.map PyData.int))=.list ((ns.map PyData.int).map ofPy):=by rw[ofPy,ofPys_eq]
 rw[e]at w1
 cases w1 with
 | list hg ha=>exact⟨_,hg,key rfl ha⟩
section
variable {prog:Program} {w:World} {K:Frag} {p:Program} {loose:List Str} {mean:ExcName→Option Value} {mg mb:Str→Option Value}
end
end PM
end
section
namespace PM
open PySem PySem.W PySem.Calls PyProof.Rows PyProof PyProof.Rows.LCg PyProof.Rows.LSm
theorem Rep.listAt{Γ:Cx}{W:Wd}{ρ:Lc}{H:Hp}{fr:List (Addr×Obj)}{h h':Heap}{vs:List V}{xs:List Value}{k:Nat}(r:Rep Γ W ρ H fr h)(up:∀b o,h.get? b=some o→h'.get? b=some o)(hg:h'.get? h.objs.size=some (Za7 xs k))(hv:VRs W vs xs)(hl:vs.length≤ZX):
  ∃W',W.Le W'∧Rep Γ W' ρ (H++[vs]) fr h'∧VR W' (.ref H.length) (.ref h.objs.size):=by
 obtain⟨r2,ap⟩:=r.more (fs:=[(h.objs.size,Za7 xs k)]) up (fun q hq=>by rw[List.mem_singleton.mp hq];exact⟨hg,Nat.le_refl _⟩)
 exact Zgi r2 (fun t ht=>ap _ Zz5 t ht) hv hl
noncomputable def Zdp: List V→Hp→Option (V×Hp)
 | [.ref a],H=>H[a]?.map fun vs=>(.ref H.length,H++[vs])
 | [.tup vs],H=>some (.ref H.length,H++[vs])
 | _,_=>none
noncomputable def Zdk: List V→Hp→Option (V×Hp)
 | [.ref a],H=>H[a]?.map fun vs=>(.tup vs,H)
 | [.tup vs],H=>some (.tup vs,H)
 | _,_=>none
section
variable {prog:Program} {w:World}
theorem Zkx: OpN prog w (fun xs=>call (.type "list") xs) Zdp:=by
 intro Γ W ρ H fr s Q E as xs v H' r hx ho post
 unfold Zdp at ho
 split at ho
 ·obtain⟨vs,e1,e2⟩:=Zz1.mp ho
  cases e2
  obtain⟨x,ex,rx⟩:=hx.one
  subst ex
  cases rx with
  | @ref _ a ea=>
   obtain⟨hl,ys,k,hg,hv⟩:=r.at e1 ea
   refine call_list_seq (hsz:=ZbS (by rw[List.size_toArray,hv.length];exact hl)) a (.inl rfl) hg rfl rfl fun h' c' up hg'=>?_
   obtain⟨W2,l2,r2,v2⟩:=r.listAt up hg' hv hl
   exact post W2 h' s.toks _ l2 r2 v2
 ·cases ho
  obtain⟨x,ex,rx⟩:=hx.one
  subst ex
  cases rx with
  | @tup _ a ys k hm hl hv=>
   refine call_list_seq (hsz:=ZbS (by rw[List.size_toArray,hv.length];exact hl)) a (.inr rfl) (r.tupAt hm) rfl rfl fun h' c' up hg'=>?_
   obtain⟨W2,l2,r2,v2⟩:=r.listAt up hg' hv hl
   exact post W2 h' s.toks _ l2 r2 v2
 ·cases ho
theorem Zkb: OpN prog w (fun xs=>call (.type "tuple") xs) Zdk:=by
 intro Γ W ρ H fr s Q E as xs v H' r hx ho post
 unfold Zdk at ho
 split at ho
 ·obtain⟨vs,e1,e2⟩:=Zz1.mp ho
  cases e2
  obtain⟨x,ex,rx⟩:=hx.one
  subst ex
  cases rx with
  | @ref _ a ea=>
   obtain⟨hl,ys,k,hg,hv⟩:=r.at e1 ea
   have isl:s.heap.IsList a ys.toArray:=⟨_,hg,rfl,k,rfl⟩
   refine call_tuple_list isl (fun h' up=>?_) (ZbS (by rw[List.size_toArray,hv.length];exact hl))
   obtain⟨W2,l2,r2,v2⟩:=(r.grown up).tuple (k:=0) hv hl
   exact post W2 _ s.toks _ l2 r2 v2
 ·cases ho
  obtain⟨x,ex,rx⟩:=hx.one
  subst ex
  cases rx with
  | @tup _ a ys k hm hl hv=>
   have it:IsTup s.heap a ys.toArray:=⟨_,r.tupAt hm,rfl,k,rfl⟩
   exact call_tuple_tup it (post W s.heap s.toks _ (.refl W) r (.tup hm hl hv))
 ·cases ho
end
section
variable {prog:Program} {w:World} {K:Frag} {p:Program} {loose:List Str} {mean:ExcName→Option Value} {mg mb:Str→Option Value} {Γ:Cx} {dp un:Nat}
theorem nm_def{x:Str}{v:Value}(clr:Clr K p loose mean mg mb Γ dp un)(e:nsIn K mainGlobals x=some (some v))(hg:Γ.env.globals=mainGlobals)(hk:Γ.env.scope.kind=.function)(hx:Γ.env.kindOf x=some .globalImplicit)(hd:(x == ("__debug__":Str))=false): Nm prog w Γ x v:=by
 obtain⟨_,_,_,_,_,_,_,_,_,_,_,X,T,_⟩:=clr
 intro pos m s Q E F q
 exact Name_function_global hk hx (loadGlobal_global (env:=Γ.env) (by rw[hg];exact T.g.keeps F.keep) (mg_of X T.g e) q) hd
theorem Za2{x:Str}{v:Value}(clr:Clr K p loose mean mg mb Γ dp un)(e:nsIn K mainGlobals x=some none)(hv:bootBuiltins x=some v)(hn:x≠"__name__")(hg:Γ.env.globals=mainGlobals)(hb:Γ.env.builtins=builtinsNs)(hk:Γ.env.scope.kind=.function)(hx:Γ.env.kindOf x=some .globalImplicit)(hd:(x == ("__debug__":Str))=false): Nm prog w Γ x v:=by
 obtain⟨_,_,_,_,_,_,_,_,_,_,_,X,T,_⟩:=clr
 intro pos m s Q E F q
 exact Name_function_global hk hx (loadGlobal_builtin (env:=Γ.env) (by rw[hg];exact T.g.keeps F.keep) (mg_none_of X T.g e) (by rw[hb];exact T.b.keeps F.keep) ((T.builtins x hn).trans hv) q) hd
end
section
variable {prog:Program} {w:World} {Γ:Cx} {scope:Scope} {cl:List (Str×Addr)} {C:Addr} {ts:List (Str×Nat)} {ρ0:Lc}
theorem rdc_own{x:Str}{t:Nat}(hm:(x,t)∈ts)(hk:scope.kind=.function)(hl:(compEnvC scope cl C Γ.env).kindOf x=some .local)(hd:(x == ("__debug__":Str))=false): Rd prog w (ZaU Γ scope cl C ts ρ0) x t:=by
 intro W ρ H fr s Q E v pos r e q
 obtain⟨m,c,led,r⟩:=r
 obtain⟨oC,m₂,cs,ec,h0,h1,h2,h3,h4⟩:=r.own
 obtain⟨v',y,e1,e2,e3⟩:=h2 _ hm
 rw[e]at e1
 cases e1
 exact LCgL.ld_own r.N (r.clIn _ (by rw[ec];exact Zz5)) h1 e2 (q y e3) hk hl hd
end
section
variable {prog:Program} {w:World} {dp un:Nat} {gd:Option (List Code)} {cn:Str} {cs:Scope} {L a:Addr} {ccd:Value} {clf:List (Str×Addr)} {outer:List Env} {h₀:Heap} {hu:un+200<cLine} {names:List Str} {scope:Scope} {cl:List (Str×Addr)} {C:Addr} {ts:List (Str×Nat)} {ρ0:Lc}
theorem ZkX{x:Str}{i:Nat}(hi:names[i]?=some x)(hx:cs.names.lookup x=some .cell)(hne:∀p∈ts,p.2≠i)(hcl:cl.lookup x=clf.lookup x)(hk:scope.kind=.function)(hl:(compEnvC scope cl C (envX cn cs L a ccd clf)).kindOf x=some .cell)(hd:(x == ("__debug__":Str))=false):
  Rd prog w (ZaU (Zam dp un gd cn cs L a ccd clf outer h₀ hu names) scope cl C ts ρ0) x i:=by
 intro W ρ H fr s Q E v pos r e q
 obtain⟨m,c,led,r⟩:=r
 obtain⟨oC,m₂,cs',ec,h0,h1,h2,h3,h4⟩:=r.own
 rw[h3 i hne]at e
 obtain⟨d,o,y,g1,g2,g3,g4⟩:=h4.cel i x v hi hx e
 exact kcf_cell r.N (hcl.trans g1) (r.clIn _ (by rw[ec];exact Zz2 _ g2)) g3 (q y g4) hk hl hd
end
end PM
end
section
namespace My
open PySem PySem.W PySem.Calls PyProof.Rows PySem.Spec
structure Cell(v:Int): Prop where
 bits:Builtin.Int.intBits v≤2 ^ 20
theorem bits_zero: Builtin.Int.intBits 0≤2 ^ 20:=by unfold Builtin.Int.intBits;simp
theorem cell_at{ns:List Int}(h:PyData.layable0 (.list (ns.map .int))=true)(i:Int): Cell (cellAt ns i 0):=by
 refine⟨?_⟩
 rw[cellAt_def,List.getD_eq_getElem?_getD]
 cases e:ns[i.toNat]? with
 | none=>exact bits_zero
 | some v=>exact PyData.bits_item_of_ints h (Zy4 e)
section
variable {prog:Program} {w:World} {A:Around} {E:Value→Shared→Prop} {s:Shared} {x y:Int} {t u:Tok} {Q:Value→Shared→Prop}
theorem bits_fdiv{v:Int}(h:Cell v): Builtin.Int.intBits (Int.fdiv v 5)≤2 ^ 20:=by
 have hb:=h.bits
 unfold Builtin.Int.intBits at hb ⊢
 rw[Int.fdiv_eq_ediv_of_nonneg v (by decide)]
 by_cases z:v / 5=0
 ·simp[z]
 ·have hv:v≠0:=by omega
  rw[if_neg (by simpa using hv)]at hb
  rw[if_neg (by simpa using z)]
  have hn:(v / 5).natAbs≤v.natAbs:=by omega
  have h1:v.natAbs.log2<2 ^ 20:=by omega
  have h2:v.natAbs<2 ^ (2 ^ 20):=(Nat.log2_lt (by omega)).mp h1
  have h3:(v / 5).natAbs.log2<2 ^ 20:=(Nat.log2_lt (by omega)).mpr (Nat.lt_of_le_of_lt hn h2)
  omega
@[irreducible] noncomputable def T60: Int:=10 ^ 60
@[irreducible] noncomputable def T9: Int:=10 ^ 9
end
end My
end
section
/-! Reckoning with the plain machine. -/
namespace PM
open PySem PySem.W PyProof.Rows
section
variable (ρ:Lc) (H:Hp)
@[simp] theorem ZnR(k:Int): Zb k ρ H=some (.int k,H):=rfl
@[simp] theorem Znq: Zba ρ H=some (.none,H):=rfl
@[simp] theorem Znr(b:Bool): ZbH b ρ H=some (.bool b,H):=rfl
@[simp] theorem ZnS(x:Str): Zo x ρ H=some (.str x,H):=rfl
@[simp] theorem ZnT(i:Nat): eVar i ρ H=(ρ i).map fun v=>(v,H):=rfl
@[simp] theorem ZnU(o:V→V→Hp→Option (V×Hp))(f g:Ex): Za o f g ρ H=(f ρ H).bind fun p=>(g ρ p.2).bind fun q=>o p.1 q.1 q.2:=rfl
@[simp] theorem Zoe(o:V→Hp→Option (V×Hp))(f:Ex): eUn o f ρ H=(f ρ H).bind fun p=>o p.1 p.2:=rfl
@[simp] theorem ZnV(t:Ts)(f g:Ex): eIf t f g ρ H=(t ρ H).bind fun p=>if p.1 then f ρ p.2 else g ρ p.2:=rfl
@[simp] theorem ZnW: eNil ρ H=some ([],H):=rfl
@[simp] theorem Zns(f:Ex)(g:ZW): eCons f g ρ H=(f ρ H).bind fun p=>(g ρ p.2).bind fun q=>some (p.1::q.1,q.2):=rfl
@[simp] theorem ZnX(g:ZW): ZY g ρ H=(g ρ H).bind fun p=>if p.1.length≤ZX then some (.tup p.1,p.2)else none:=rfl
@[simp] theorem Znt(g:ZW): ZM g ρ H=(g ρ H).bind fun p=>if p.1.length≤ZX then some (.ref p.2.length,p.2++[p.1])else none:=rfl
@[simp] theorem ZnY(f:Ex): Zp f ρ H=(f ρ H).bind fun p=>(Z9 p.1 p.2).map fun b=>(b,p.2):=rfl
@[simp] theorem Znu(t:Ts): ZdA t ρ H=(t ρ H).map fun p=>(!p.1,p.2):=rfl
@[simp] theorem Znv: ZaH ρ H=some (true,H):=rfl
@[simp] theorem Znp: ZaD ρ H=some (false,H):=rfl
@[simp] theorem Znw(t u:Ts): Za1 t u ρ H=(t ρ H).bind fun p=>if p.1 then u ρ p.2 else some (false,p.2):=rfl
@[simp] theorem ZnZ(t u:Ts): ZZ t u ρ H=(t ρ H).bind fun p=>if p.1 then some (true,p.2)else u ρ p.2:=rfl
@[simp] theorem Zn0(t u v:Ts): tIf t u v ρ H=(t ρ H).bind fun p=>if p.1 then u ρ p.2 else v ρ p.2:=rfl
@[simp] theorem Znx(f:Ex): Zm7 f ρ H=(f ρ H).bind fun p=>(Z9 p.1 p.2).map fun b=>(.bool (!b),p.2):=rfl
@[simp] theorem Zny(f g:Ex): ZcI f g ρ H=(f ρ H).bind fun p=>(Z9 p.1 p.2).bind fun b=>if b then g ρ p.2 else some p:=rfl
@[simp] theorem Zn1(f g:Ex): eOr f g ρ H=(f ρ H).bind fun p=>(Z9 p.1 p.2).bind fun b=>if b then some p else g ρ p.2:=rfl
@[simp] theorem Znz(o:List V→Hp→Option (V×Hp))(g:ZW): Ze o g ρ H=(g ρ H).bind fun p=>o p.1 p.2:=rfl
@[simp] theorem Zof(T:String)(f:Ex): eIs T f ρ H=(f ρ H).bind fun p=>if Zeh p.1 then none else some (.bool (ZbG T p.1),p.2):=rfl
@[simp] theorem Znk(o f:Ex): Zbm o f ρ H=(o ρ H).bind fun p=>(f ρ p.2).bind fun q=>ZcU [p.1,q.1] q.2:=rfl
@[simp] theorem Zky: ZbI ρ H=some (none,H):=rfl
@[simp] theorem Zkz(f:Ex): ZbJ f ρ H=(f ρ H).map fun p=>(some p.1,p.2):=rfl
@[simp] theorem ZnA: ZN ρ H=some (none,ρ,H):=rfl
@[simp] theorem Zn2(f:Ex): ZQ f ρ H=(f ρ H).map fun p=>(some p.1,ρ,p.2):=rfl
@[simp] theorem Zn3(i:Nat)(f:Ex): Zy i f ρ H=(f ρ H).map fun p=>(none,upd ρ i p.1,p.2):=rfl
@[simp] theorem Zn4(t:Ts)(a b:Sm): ZB t a b ρ H=(t ρ H).bind fun p=>if p.1 then a ρ p.2 else b ρ p.2:=rfl
@[simp] theorem Zn5(f:Ex): ZL f ρ H=(f ρ H).map fun p=>(none,ρ,p.2):=rfl
@[simp] theorem Zn6(f o i:Ex): ZcJ f o i ρ H=(f ρ H).bind fun p=>(o ρ p.2).bind fun q=>(i ρ q.2).bind fun u=>(Zfq q.1 u.1 p.1 u.2).map fun K=>(none,ρ,K):=rfl
@[simp] theorem Zn7(g:Src)(put:V→Lc→Option Lc)(b:Sm): ZaA g put b ρ H=(g ρ H).bind fun z=>ZaR z.1 put b z.2.1 0 ρ z.2.2:=rfl
@[simp] theorem ZnB(g:Src)(put:V→Lc→Option Lc)(c:Ts)(f:Ex): ZaS g put c f ρ H=(g ρ H).bind fun z=>(Za5 z.1 put c f ρ z.2.1 0 [] z.2.2).map fun q=>(.ref q.2.length,q.2++[q.1]):=rfl
end
@[simp] theorem Zn8(ρ:Lc)(i:Nat)(v:V)(j:Nat): upd ρ i v j=if j=i then some v else ρ j:=rfl
@[simp] theorem ZnC(i:Nat)(v:V)(ρ:Lc): ZH i v ρ=some (upd ρ i v):=rfl
@[simp] theorem ZnD(i j:Nat)(a b:V)(ρ:Lc): Zna i j (.tup [a,b]) ρ=some (upd (upd ρ i a) j b):=rfl
@[simp] theorem ZnE(b:Bool)(H:Hp): Z9 (.bool b) H=some b:=rfl
@[simp] theorem ZnF(i:Int)(H:Hp): Z9 (.int i) H=some (i != 0):=rfl
@[simp] theorem ZnG(H:Hp): Z9 .none H=some false:=rfl
section
variable (a b:Int) (H:Hp)
@[simp] theorem Zog: ZO (.int a) (.int b) H=some (.int (a+b),H):=rfl
@[simp] theorem Zoh: Zau (.int a) (.int b) H=some (.int (a-b),H):=rfl
@[simp] theorem Zoi: ZbN (.int a) H=some (.int (-a),H):=rfl
@[simp] theorem Zoq: oLt (.int a) (.int b) H=some (.bool (decide (a<b)),H):=rfl
@[simp] theorem Zor: oLe (.int a) (.int b) H=some (.bool (decide (a≤b)),H):=rfl
@[simp] theorem Zos: oGt (.int a) (.int b) H=some (.bool (decide (b<a)),H):=rfl
@[simp] theorem Zot: oGe (.int a) (.int b) H=some (.bool (decide (b≤a)),H):=rfl
@[simp] theorem Zoj: Zcr [.int a] H=some (.int (if a<0 then -a else a),H):=rfl
@[simp] theorem Zok: Zei [.int a,.int b] H=some (.int (if b>a then b else a),H):=rfl
@[simp] theorem Zol: Zcd [.int a,.int b] H=some (.int (if b<a then b else a),H):=rfl
@[simp] theorem Zn9: oIs .none .none H=some (.bool true,H):=rfl
@[simp] theorem Zoa: oIs (.int a) .none H=some (.bool false,H):=rfl
@[simp] theorem Zob(vs:List V): oIs (.tup vs) .none H=some (.bool false,H):=rfl
@[simp] theorem Zoc(i:Nat): oIs (.ref i) .none H=some (.bool false,H):=rfl
@[simp] theorem Znl: Zcb .none .none H=some (.bool false,H):=rfl
@[simp] theorem Znm: Zcb (.int a) .none H=some (.bool true,H):=rfl
@[simp] theorem Znn(vs:List V): Zcb (.tup vs) .none H=some (.bool true,H):=rfl
@[simp] theorem Zno(i:Nat): Zcb (.ref i) .none H=some (.bool true,H):=rfl
@[simp] theorem Zou: ZU (.int a) (.int b) H=some (.bool (a == b),H):=by
 simp[ZU,Zb6,toD,SeqAt.shaped,PyData.canLay0,PyData.depth,PyData.eqv]
@[simp] theorem Zov: oNe (.int a) (.int b) H=some (.bool (!(a == b)),H):=by
 simp[oNe,Zb6,toD,SeqAt.shaped,PyData.canLay0,PyData.depth,PyData.eqv]
@[simp] theorem Zom(c d:Bool): ZU (.bool c) (.bool d) H=some (.bool (c == d),H):=by
 simp[ZU,Zb6,toD,SeqAt.shaped,PyData.canLay0,PyData.depth,PyData.eqv]
@[simp] theorem Zon(c d:Bool): oNe (.bool c) (.bool d) H=some (.bool (!(c == d)),H):=by
 simp[oNe,Zb6,toD,SeqAt.shaped,PyData.canLay0,PyData.depth,PyData.eqv]
@[simp] theorem ZnH: ZbG "int" (.int a)=true:=rfl
@[simp] theorem ZnI: ZbG "bool" (.int a)=false:=rfl
@[simp] theorem ZnJ(i:Nat): ZbG "list" (.ref i)=true:=rfl
@[simp] theorem ZnK(vs:List V): ZbG "tuple" (.tup vs)=true:=rfl
@[simp] theorem ZnL(b:Bool): ZbG "bool" (.bool b)=true:=rfl
@[simp] theorem ZnM(b:Bool): ZbG "int" (.bool b)=true:=rfl
@[simp] theorem ZnN: ZbG "int" .none=false:=rfl
@[simp] theorem ZnO: ZbG "tuple" .none=false:=rfl
@[simp] theorem ZnP: ZbG "list" .none=false:=rfl
end
@[simp] theorem Zod(H:Hp)(vs:List V): (H++[vs])[H.length]?=some vs:=by simp
@[simp] theorem ZnQ(f:Ex)(ρ:Lc)(H:Hp): Zal f ρ H=(f ρ H).bind fun p=>match p.1 with
 | .ref a=>p.2[a]?.map fun vs=>(ZbV a,vs.length+1,p.2)
 | .tup vs=>some (Zd9 vs,vs.length+1,p.2)
 | _=>none:=rfl
@[simp] theorem Znj(a c:Int)(n i:Nat)(H:Hp): Zbe a c n i H=some (if i<n then some (.int (a+i*c))else none):=rfl
theorem Zi3{b:Int}(hb:0≤b): Builtin.Range.rangeSize 0 b 1=b:=by
 unfold Builtin.Range.rangeSize
 rw[if_pos (by decide)]
 by_cases h:(0:Int)<b
 ·rw[if_pos h]
  omega
 ·rw[if_neg h]
  omega
theorem ZiC{b:Int}{H:Hp}(hb:0≤b)(hb9:b≤1000): Zbn 0 b 1 H=some (Zbe 0 1 b.toNat,b.toNat+1,H):=by
 unfold Zbn rngN
 rw[Zi3 hb,if_pos]
 refine⟨by decide,?_,hb,by rw[Zav];omega,?_⟩
 ·unfold Builtin.Range.small
  rw[Zi3 hb]
  simp only[Builtin.Range.rangeFitsLong,Bool.and_eq_true,Bool.or_eq_true,decide_eq_true_eq,beq_iff_eq]
  rw[if_pos (by decide)]
  simp only[Bool.and_eq_true,decide_eq_true_eq]
  by_cases h:(0:Int)<b
  ·refine⟨⟨⟨⟨?_,?_⟩,?_⟩,?_⟩,Or.inr ?_⟩ <;> omega
  ·refine⟨⟨⟨⟨?_,?_⟩,?_⟩,?_⟩,?_⟩ <;> first | omega | (left;omega)
 ·exact PyProof.noPylong_small (by omega)
end PM
end
section
namespace PM
open PySem PySem.W PyProof.Rows My
theorem Zgv{a b:Int}(h:IntMulOk a b): Zb4 a b=true:=by
 unfold IntMulOk at h
 unfold Zb4
 cases e:(decide (Builtin.Int.intBits a>shortFactorBits) && decide (Builtin.Int.intBits b>shortFactorBits) && Builtin.Int.intTooBig (Builtin.Int.intBits a+Builtin.Int.intBits b))with
 | true=>exact absurd e h
 | false=>rfl
@[irreducible] noncomputable def M5: Int:=48271 ^ Int.toNat 14
theorem ZjU{v:Int}(hv:Cell v): Zb4 (v.fdiv 5) M5=true:=by
 unfold M5
 exact Zgv (IntMulOk.of_bits (bits_fdiv hv) (Nat.le_trans (PyProof.Rows.intBits_le (k:=256) (by decide +kernel)) (by decide)))
theorem Zi4{a b:Int}{H:Hp}(h:0≤b∧(Builtin.Int.intBits a:Int)*b≤2 ^ 27): oPow (.int a) (.int b) H=some (.int (a ^ b.toNat),H):=by simp only[oPow];rw[if_pos h]
theorem ZmN(H:Hp): oPow (.int 48271) (.int 14) H=some (.int M5,H):=by rw[Zi4 (by decide +kernel)];unfold M5;rfl
theorem ZlK(H:Hp): oPow (.int 10) (.int 60) H=some (.int T60,H):=by rw[Zi4 (by decide +kernel)];unfold T60;rfl
end PM
end
section
namespace PM
open PySem PySem.W PyProof.Rows My
section
variable {ρ ρ1 ρ2:Lc} {H H1 H2 H3:Hp}
theorem ZlL{k:Int}: Zb k ρ H=some (.int k,H):=rfl
theorem ZkY{f g:Ex}{a:Nat}{k:Int}{n:Nat}{vs:List V}(h1:f ρ H=some (.ref a,H1))(h2:g ρ H1=some (.int k,H2))(e:H2[a]?=some vs)(hk:k=(n:Int)): Zby f (ZbJ g) ZbI ρ H=some (.ref H2.length,H2++[vs.drop n]):=by
 simp only[Zby,h1,Zs0,Zkz,h2,Zs1,Zky,Zds,e]
 rw[Zj4 vs hk]
end
end PM
end
section
/-! Forward reckoning: what comes, told by a claim. -/
namespace PM
open PySem PySem.W PyProof.Rows My
section
variable {ρ:Lc} {H:Hp} {Q:V→Hp→Prop} {L:List V→Hp→Prop} {T:Bool→Hp→Prop} {R:V→Hp→Prop} {N:Lc→Hp→Prop}
variable {a b:Int}
theorem ZkA{i:Nat}{vs:List V}(e:H[i]?=some vs): i<H.length:=(Zz6.mp e).1
end
end PM
end
section
namespace PM
open PySem PySem.W PyProof.Rows PyProof
noncomputable def Zbi(f:Ex)(k:Nat): Ex:=fun ρ H=>(f ρ H).bind fun p=>match p.1 with
 | .ref i=>p.2[i]?.bind fun vs=>some (.ref p.2.length,p.2++[vs.drop k])
 | .tup vs=>if 1≤k∧k≤vs.length then some (.tup (vs.drop k),p.2)else none
 | _=>none
section
variable {prog:Program} {w:World} {Γ:Cx}
theorem Zea{e lo:Expr}{p pos:Pos}{f:Ex}{k:Nat}(h:J prog w Γ e f)(hlo:J prog w Γ lo (Zb k))(ht:∀o r,letTemporaryGo e o r=pure ():=by intro _ _;rfl): J prog w Γ (.Subscript e (.Slice (Option.some lo) Option.none Option.none p) pos) (Zbi f k):=by
 intro W ρ H fr s Q E v H' r hf post
 obtain⟨⟨v1,H1⟩,e1,hf⟩:=Zz0.mp hf
 cases v1 with
 | none=>cases hf
 | bool _=>cases hf
 | int _=>cases hf
 | str _=>cases hf
 | obj _ _=>cases hf
 | ref i=>
  obtain⟨vs,e2,e3⟩:=Zz0.mp hf
  refine ZeZ h (JP.some hlo) JP.none ht W ρ H fr s Q E v H' r ?_ post
  rw[ZkY (n:=k) e1 ZlL e2 rfl]
  exact e3
 | tup vs=>
  simp only at hf
  by_cases c:1≤k∧k≤vs.length
  ·rw[if_pos c]at hf
   cases hf
   refine wpAny_Subscript_Slice (T:="tuple") slot_tuple_getitem.lookup (h W ρ H fr s _ E _ _ r e1 fun W1 k1 t1 x l1 r1 x1=>?_) ht
   refine wpAny_Slice ?_
   refine wpAny_evalPart_some (hlo W1 ρ _ fr _ _ E _ _ r1 rfl fun W2 k2 t2 y l2 r2 y2=>?_)
   refine wpAny_evalPart_none ?_
   refine wpAny_evalPart_none ?_
   cases y2 with
   | int _ u=>
    have x2:=x1.mono l2
    cases x2 with
    | @tup _ a ys kk hm hl hs=>
     have it:IsTup k2 a ys.toArray:=⟨_,r2.tupAt hm,rfl,kk,rfl⟩
     have it':IsTup (k2.push { cls:=.type "slice",data:=.fields #[.int k u,.none,.none] }) a ys.toArray:=it.keeps fun _ _ e=>Heap.get?_push_of_some _ e
     have hlen:=hs.length
     rw[Zav]at hl
     refine⟨it'.typeIs,getItem_tuple_from it' (Heap.IsSliceOf.new ..) c.1 (by simp[hlen];exact c.2) ?_ (ZbS (by simp[hlen];rw[Zav];exact hl))⟩
     obtain⟨W4,l4,r4,v4⟩:=(r2.push { cls:=.type "slice",data:=.fields #[.int k u,.none,.none] }).tuple (k:=0) (hs.drop k) (by rw[Zav];simp;omega)
     have:=post W4 _ t2 _ ((l1.trans l2).trans l4) r4 v4
     simpa using this
  ·rw[if_neg c]at hf
   cases hf
end
section
variable {ρ:Lc} {H:Hp} {Q:V→Hp→Prop}
theorem Zi5{a b c:Int}(hc:0<c)(hb:a<b): Builtin.Range.rangeSize a b c=(b-a-1) / c+1:=by
 unfold Builtin.Range.rangeSize
 rw[if_pos hc,if_pos hb]
theorem ZlM{a b c:Int}{H:Hp}(ha:0≤a)(hb:a<b)(hb9:b≤1000)(hc:0<c)(hc9:c≤1000): Zbn a b c H=some (Zbe a c (rngN a b c),rngN a b c+1,H):=by
 have e:=Zi5 hc hb
 have h0:0≤(b-a-1) / c:=Int.ediv_nonneg (by omega) (by omega)
 have h2:(b-a-1) / c≤b-a-1:=Int.ediv_le_self _ (by omega)
 unfold Zbn
 rw[if_pos]
 refine⟨by omega,?_,by omega,by unfold rngN;rw[Zav];omega,PyProof.noPylong_small (by omega)⟩
 unfold Builtin.Range.small
 rw[e]
 simp only[Builtin.Range.rangeFitsLong,Bool.and_eq_true,Bool.or_eq_true,decide_eq_true_eq,beq_iff_eq]
 rw[if_pos hc]
 simp only[Bool.and_eq_true,decide_eq_true_eq]
 refine⟨⟨⟨⟨?_,?_⟩,?_⟩,?_⟩,?_⟩ <;> first | omega | (left;omega) | (right;omega)
end
end PM
end
section
namespace PM
open PySem PySem.W PyProof.Rows PyProof My
section
variable {ρ:Lc} {H:Hp} {Q:V→Hp→Prop} {L:List V→Hp→Prop}
end
noncomputable def od: Option Int→PyData
 | none=>.none
 | some k=>.int k
theorem Zkc{a b:Int}(h1:-(2 ^ 64)<b)(h2:b<2 ^ 64): Zb4 a b=true:=Zgv (IntMulOk.of_right (intBits_le_64 h1 h2))
theorem ZjV{a b:Int}(h1:-(2 ^ 64)<a)(h2:a<2 ^ 64): Zb4 a b=true:=Zgv (IntMulOk.of_left (intBits_le_64 h1 h2))
@[irreducible] noncomputable def M9: Int:=48271 ^ Int.toNat 9
section
variable {H:Hp} {Q:V→Hp→Prop} {a b:Int}
end
end PM
end
section
/-! The tree machine: values without places; lists that nobody else holds may be changed. -/
namespace TM
open PySem PM
inductive T where
 | none
 | bool (b:Bool)
 | int (i:Int)
 | str (s:Str)
 | tup (ts:List T)
 | lst (ts:List T)
 | ob (c:Nat×List Str) (ts:List T)
mutual
inductive RF(H:Hp): V→T→List Nat→Prop where
 | none:RF H .none .none []
 | bool (b:Bool):RF H (.bool b) (.bool b) []
 | int (i:Int):RF H (.int i) (.int i) []
 | str (s:Str):RF H (.str s) (.str s) []
 | tup {vs:List V} {ts:List T} {F:List Nat}:RFs H vs ts F→RF H (.tup vs) (.tup ts) F
 | ref {a:Nat} {vs:List V} {ts:List T} {F:List Nat}:H[a]?=some vs→RFs H vs ts F→RF H (.ref a) (.lst ts) (a::F)
 | obj {c:Nat×List Str} {a:Nat} {vs:List V} {ts:List T} {F:List Nat}:H[a]?=some vs→RFs H vs ts F→RF H (.obj c a) (.ob c ts) (a::F)
inductive RFs(H:Hp): List V→List T→List Nat→Prop where
 | nil:RFs H [] [] []
 | cons {v:V} {t:T} {F:List Nat} {vs:List V} {ts:List T} {G:List Nat}:RF H v t F→RFs H vs ts G→RFs H (v::vs) (t::ts) (F++G)
end
mutual
theorem RF.frame{H H':Hp}{v:V}{t:T}{F:List Nat}(r:RF H v t F)(h:∀a∈F,H'[a]?=H[a]?): RF H' v t F:=by
 cases r with
 | none=>exact .none
 | bool b=>exact .bool b
 | int i=>exact .int i
 | str s=>exact .str s
 | tup hs=>exact .tup (RFs.frame hs h)
 | ref e hs=>exact .ref ((h _ Zz5).trans e) (RFs.frame hs fun a m=>h a (Zz2 _ m))
 | obj e hs=>exact .obj ((h _ Zz5).trans e) (RFs.frame hs fun a m=>h a (Zz2 _ m))
theorem RFs.frame{H H':Hp}{vs:List V}{ts:List T}{F:List Nat}(r:RFs H vs ts F)(h:∀a∈F,H'[a]?=H[a]?): RFs H' vs ts F:=by
 cases r with
 | nil=>exact .nil
 | cons a b=>exact .cons (RF.frame a fun x m=>h x (Zz4 _ m)) (RFs.frame b fun x m=>h x (Zz3 _ m))
end
mutual
theorem RF.lt{H:Hp}{v:V}{t:T}{F:List Nat}(r:RF H v t F): ∀a∈F,a<H.length:=by
 cases r with
 | none=>intro a m;cases m
 | bool b=>intro a m;cases m
 | int i=>intro a m;cases m
 | str s=>intro a m;cases m
 | tup hs=>exact RFs.lt hs
 | ref e hs=>
  intro x m
  rcases Zz7.mp m with rfl | m
  ·exact(Zz6.mp e).1
  ·exact RFs.lt hs x m
 | obj e hs=>
  intro x m
  rcases Zz7.mp m with rfl | m
  ·exact(Zz6.mp e).1
  ·exact RFs.lt hs x m
theorem RFs.lt{H:Hp}{vs:List V}{ts:List T}{F:List Nat}(r:RFs H vs ts F): ∀a∈F,a<H.length:=by
 cases r with
 | nil=>intro a m;cases m
 | cons a b=>
  intro x m
  rcases Zz8.mp m with m | m
  ·exact RF.lt a x m
  ·exact RFs.lt b x m
end
theorem RF.ext{H:Hp}{v:V}{t:T}{F:List Nat}(r:RF H v t F)(X:Hp): RF (H++X) v t F:=r.frame fun a m=>Zy0 (r.lt a m)
theorem RFs.ext{H:Hp}{vs:List V}{ts:List T}{F:List Nat}(r:RFs H vs ts F)(X:Hp): RFs (H++X) vs ts F:=r.frame fun a m=>Zy0 (r.lt a m)
theorem RFs.length{H:Hp}: ∀{vs:List V} {ts:List T} {F:List Nat},RFs H vs ts F→vs.length=ts.length
 | _,_,_,.nil=>rfl
 | _,_,_,.cons _ r=>by rw[List.length_cons,List.length_cons,r.length]
theorem RFs.append{H:Hp}: ∀{vs us:List V} {ts ss:List T} {F G:List Nat},RFs H vs ts F→RFs H us ss G→RFs H (vs++us) (ts++ss) (F++G)
 | _,_,_,_,_,_,.nil,h=>h
 | _,_,_,_,_,_,.cons a r,h=>by rw[List.append_assoc];exact .cons a (r.append h)
theorem RFs.one{H:Hp}{v:V}{t:T}{F:List Nat}(r:RF H v t F): RFs H [v] [t] F:=by
 have:=RFs.cons r RFs.nil
 rwa [List.append_nil]at this
theorem RFs.snoc{H:Hp}{vs:List V}{ts:List T}{F G:List Nat}{v:V}{t:T}(r:RFs H vs ts F)(x:RF H v t G): RFs H (vs++[v]) (ts++[t]) (F++G):=r.append (.one x)
theorem RFs.at{H:Hp}: ∀{vs:List V} {ts:List T} {F:List Nat} {i:Nat} {t:T},RFs H vs ts F→ts[i]?=some t→∃v G,vs[i]?=some v∧RF H v t G∧G.Sublist F
 | _,_,_,_,_,.nil,e=>by simp at e
 | _,_,_,0,_,.cons a _,e=>by
  simp at e
  exact⟨_,_,by simp,e▸a,List.sublist_append_left _ _⟩
 | _,_,_,i+1,_,.cons _ r,e=>by
  simp at e
  obtain⟨x,G,hx,hr,hs⟩:=r.at e
  exact⟨x,G,by simpa using hx,hr,hs.trans (List.sublist_append_right _ _)⟩
theorem RFs.drop{H:Hp}: ∀{vs:List V} {ts:List T} {F:List Nat} (i:Nat),RFs H vs ts F→∃G,RFs H (vs.drop i) (ts.drop i) G∧G.Sublist F
 | _,_,_,0,h=>⟨_,h,List.Sublist.refl _⟩
 | _,_,_,_+1,.nil=>⟨_,.nil,List.Sublist.refl _⟩
 | _,_,_,i+1,.cons _ r=>by
  obtain⟨G,h1,h2⟩:=r.drop i
  exact⟨G,h1,h2.trans (List.sublist_append_right _ _)⟩
theorem RFs.split{H:Hp}: ∀{vs:List V} {ts:List T} {F:List Nat} {i:Nat} {t:T},RFs H vs ts F→ts[i]?=some t →
  ∃v G F1 F2,vs[i]?=some v∧RF H v t G∧F=F1++(G++F2)∧∀(H':Hp) (w:V) (t':T) (G':List Nat),RF H' w t' G'→(∀a∈F1,H'[a]?=H[a]?)→(∀a∈F2,H'[a]?=H[a]?)→RFs H' (vs.set i w) (ts.set i t') (F1++(G'++F2))
 | _,_,_,_,_,.nil,e=>by simp at e
 | _,_,_,0,_,.cons (G:=G1) a r,e=>by
  simp at e
  subst e
  exact⟨_,_,[],G1,by simp,a,by simp,fun H' w t' G' x _ h2=>by simpa using RFs.cons x (r.frame h2)⟩
 | _,_,_,i+1,_,.cons (F:=F0) a r,e=>by
  simp at e
  obtain⟨v,G,F1,F2,h1,h2,h3,h4⟩:=r.split e
  refine⟨v,G,F0++F1,F2,by simpa using h1,h2,by rw[h3];simp,fun H' w t' G' x k1 k2=>?_⟩
  have:=RFs.cons (a.frame fun b m=>k1 b (Zz4 _ m)) (h4 H' w t' G' x (fun b m=>k1 b (Zz3 _ m)) k2)
  simpa using this
theorem Zgw{α:Type}{xs:List α}{i:Nat}{x:α}(h:xs[i]?=some x): xs.set i x=xs:=by
 obtain⟨hi,e⟩:=Zz6.mp h
 rw[←e]
 exact List.set_getElem_self hi
theorem nd3{F1 G F2 G' Gn:List Nat}(nd:(F1++(G++F2)).Nodup)(n':G'.Nodup)(sub:∀a∈G',a∈G∨a∈Gn)(ds:∀a∈Gn,a∉F1++(G++F2)): (F1++(G'++F2)).Nodup:=by
 rw[List.nodup_append,List.nodup_append]at nd ⊢
 obtain⟨a1,⟨a2,a3,a4⟩,a5⟩:=nd
 refine⟨a1,⟨n',a3,fun x hx y hy e=>?_⟩,fun x hx y hy e=>?_⟩
 ·rcases sub x hx with m | m
  ·exact a4 x m y hy e
  ·exact ds x m (Zz3 _ (Zz3 _ (e▸hy)))
 ·rcases Zz8.mp hy with m | m
  ·rcases sub y m with q | q
   ·exact a5 x hx y (Zz4 _ q) e
   ·exact ds y q (Zz4 _ (e▸hx))
  ·exact a5 x hx y (Zz3 _ m) e
theorem in3{F1 G F2 G' Gn:List Nat}(sub:∀a∈G',a∈G∨a∈Gn): ∀a∈F1++(G'++F2),a∈F1++(G++F2)∨a∈Gn:=by
 intro a m
 rcases Zz8.mp m with m | m
 ·exact .inl (Zz4 _ m)
 ·rcases Zz8.mp m with m | m
  ·exact(sub a m).imp (fun q=>List.mem_append_right _ (Zz4 _ q)) id
  ·exact .inl (Zz3 _ (Zz3 _ m))
mutual
noncomputable def T.flat: T→Bool
 | .lst _=>false
 | .tup ts=>T.flats ts
 | .none=>true
 | .bool _=>true
 | .int _=>true
 | .str _=>true
 | .ob _ _=>false
noncomputable def T.flats: List T→Bool
 | []=>true
 | t::ts=>t.flat && T.flats ts
end
mutual
theorem RF.flat{H:Hp}{v:V}{t:T}{F:List Nat}(r:RF H v t F)(h:t.flat=true): F=[]:=by
 cases r with
 | none=>rfl
 | bool b=>rfl
 | int i=>rfl
 | str s=>rfl
 | tup hs=>exact RFs.flats hs (by simpa [T.flat]using h)
 | ref e hs=>simp[T.flat]at h
 | obj e hs=>simp[T.flat]at h
theorem RFs.flats{H:Hp}{vs:List V}{ts:List T}{F:List Nat}(r:RFs H vs ts F)(h:T.flats ts=true): F=[]:=by
 cases r with
 | nil=>rfl
 | cons a b=>
  simp only[T.flats,Bool.and_eq_true]at h
  rw[RF.flat a h.1,RFs.flats b h.2]
  rfl
end
noncomputable def T.flatIn: T→Bool
 | .lst ts=>T.flats ts
 | t=>t.flat
noncomputable def ZdD(f:List T→Option (List T)): List Int→T→Option T
 | [],.lst ts=>(f ts).map .lst
 | k::ks,.lst ts=>(seqIndex? k ts.length).bind fun j=>ts[j]?.bind fun t=>(ZdD f ks t).map fun u=>.lst (ts.set j u)
 | k::ks,.tup ts=>(seqIndex? k ts.length).bind fun j=>ts[j]?.bind fun t=>(ZdD f ks t).map fun u=>.tup (ts.set j u)
 | _,_=>none
inductive Lead(H:Hp): List Int→V→Nat→Prop where
 | nil {a:Nat}:Lead H [] (.ref a) a
 | ref {k:Int} {ks:List Int} {b:Nat} {vs:List V} {j:Nat} {v:V} {a:Nat}:H[b]?=some vs→seqIndex? k vs.length=some j→vs[j]?=some v→Lead H ks v a→Lead H (k::ks) (.ref b) a
 | tup {k:Int} {ks:List Int} {vs:List V} {j:Nat} {v:V} {a:Nat}:seqIndex? k vs.length=some j→vs[j]?=some v→Lead H ks v a→Lead H (k::ks) (.tup vs) a
theorem Ze5{H:Hp}{Gn:List Nat}{f:List T→Option (List T)}: ∀(ks:List Int) {v:V} {t t':T} {F:List Nat},RF H v t F→F.Nodup→(∀a∈Gn,a∉F)→ZdD f ks t=some t' →
  ∃a vs ts ts' G,Lead H ks v a∧a∈F∧H[a]?=some vs∧RFs H vs ts G∧f ts=some ts'∧G.Nodup∧a∉G∧(∀x∈G,x∈F) ∧
   ∀vs' G',RFs H vs' ts' G'→G'.Nodup→a∉G'→(∀x∈G',x∈G∨x∈Gn)→∃F',RF (H.set a vs') v t' F'∧F'.Nodup∧∀x∈F',x∈F∨x∈Gn
 | [],v,t,t',F,r,nd,ds,e=>by
  cases r with
  | @ref a vs ts G e1 hs=>
   obtain⟨ts',h1,h2⟩:=Zz1.mp e
   subst h2
   rw[List.nodup_cons]at nd
   refine⟨a,vs,ts,ts',G,.nil,List.mem_cons_self,e1,hs,h1,nd.2,nd.1,fun x m=>Zy3 _ m,fun vs' G' r' n' na sub=>⟨a::G',?_,?_,?_⟩⟩
   ·have ha:=(Zz6.mp e1).1
    refine .ref (Zy6 ha) (r'.frame fun b m=>List.getElem?_set_ne ?_)
    intro q
    subst q
    exact na m
   ·exact List.nodup_cons.mpr ⟨na,n'⟩
   ·intro x m
    rcases Zz7.mp m with rfl | m
    ·exact .inl Zz5
    ·exact(sub x m).imp (Zz2 _) id
  | none=>cases e
  | bool _=>cases e
  | int _=>cases e
  | str _=>cases e
  | tup _=>cases e
  | obj _ _=>cases e
 | k::ks,v,t,t',F,r,nd,ds,e=>by
  cases r with
  | none=>cases e
  | bool _=>cases e
  | int _=>cases e
  | str _=>cases e
  | obj _ _=>cases e
  | @tup vs ts _ hs=>
   obtain⟨j,e1,e⟩:=Zz0.mp e
   obtain⟨u,e2,e⟩:=Zz0.mp e
   obtain⟨u',e3,e⟩:=Zz1.mp e
   subst e
   obtain⟨w,G1,F1,F2,e4,g1,eF,rb⟩:=hs.split e2
   subst eF
   have nd1:G1.Nodup:=(List.nodup_append.mp (List.nodup_append.mp nd).2.1).1
   have hin:∀x∈G1,x∈F1++(G1++F2):=fun x m=>List.mem_append_right _ (Zz4 _ m)
   obtain⟨a,us,qs,qs',G,l,am,ea,hq,hf,gn,na,gs,go⟩:=Ze5 ks g1 nd1 (fun b m q=>ds b m (hin b q)) e3
   refine⟨a,us,qs,qs',G,.tup (by rw[hs.length];exact e1) e4 l,hin a am,ea,hq,hf,gn,na,fun x m=>hin x (gs x m),fun vs' G' r' n' na' sub=>?_⟩
   obtain⟨G2,f1,f2,f3⟩:=go vs' G' r' n' na' sub
   obtain⟨a1,a2,a5⟩:=List.nodup_append.mp nd
   obtain⟨_,a3,a4⟩:=List.nodup_append.mp a2
   have:=rb (H.set a vs') w u' G2 f1 (fun b m=>Zy2 fun q=>a5 b m a (Zz4 _ am) q.symm) (fun b m=>Zy2 fun q=>a4 a am b m q)
   rw[Zgw e4]at this
   exact⟨_,.tup this,nd3 nd f2 f3 ds,in3 f3⟩
  | @ref b vs ts F' e0 hs=>
   obtain⟨j,e1,e⟩:=Zz0.mp e
   obtain⟨u,e2,e⟩:=Zz0.mp e
   obtain⟨u',e3,e⟩:=Zz1.mp e
   subst e
   obtain⟨w,G1,F1,F2,e4,g1,eF,rb⟩:=hs.split e2
   subst eF
   rw[List.nodup_cons]at nd
   obtain⟨nb,nd⟩:=nd
   have nd1:G1.Nodup:=(List.nodup_append.mp (List.nodup_append.mp nd).2.1).1
   have hin:∀x∈G1,x∈F1++(G1++F2):=fun x m=>List.mem_append_right _ (Zz4 _ m)
   have ds':∀a∈Gn,a∉F1++(G1++F2):=fun a m q=>ds a m (Zz2 _ q)
   obtain⟨a,us,qs,qs',G,l,am,ea,hq,hf,gn,na,gs,go⟩:=Ze5 ks g1 nd1 (fun b m q=>ds' b m (hin b q)) e3
   refine⟨a,us,qs,qs',G,.ref e0 (by rw[hs.length];exact e1) e4 l,Zy3 _ (hin a am),ea,hq,hf,gn,na,fun x m=>Zy3 _ (hin x (gs x m)),fun vs' G' r' n' na' sub=>?_⟩
   obtain⟨G2,f1,f2,f3⟩:=go vs' G' r' n' na' sub
   obtain⟨a1,a2,a5⟩:=List.nodup_append.mp nd
   obtain⟨_,a3,a4⟩:=List.nodup_append.mp a2
   have:=rb (H.set a vs') w u' G2 f1 (fun b m=>Zy2 fun q=>a5 b m a (Zz4 _ am) q.symm) (fun b m=>Zy2 fun q=>a4 a am b m q)
   rw[Zgw e4]at this
   have hab:a≠b:=fun q=>nb (hin b (q▸am))
   refine⟨_,.ref ((Zy2 hab).trans e0) this,List.nodup_cons.mpr ⟨fun q=>?_,nd3 nd f2 f3 ds'⟩,fun x m=>?_⟩
   ·rcases in3 f3 b q with m | m
    ·exact nb m
    ·exact ds b m Zz5
   ·rcases Zz7.mp m with rfl | m
    ·exact .inl Zz5
    ·exact(in3 f3 x m).imp (Zz2 _) id
end TM
end
section
namespace TM
open PySem PM
noncomputable abbrev TL:=Nat→Option T
noncomputable abbrev PE:=TL→Option T
noncomputable abbrev PEs:=TL→Option (List T)
noncomputable abbrev PB:=TL→Option Bool
noncomputable abbrev PG:=TL→Option (List T)
noncomputable def Zw(σ:TL)(i:Nat)(t:T): TL:=fun j=>if j=i then some t else σ j
noncomputable def Z8(σ:TL)(i:Nat): TL:=fun j=>if j=i then none else σ j
structure Ctx where
 H0:Hp
 F0:List Nat
 P:Nat→Prop
structure St(c:Ctx)(O:List Nat)(ρ:Lc)(σ:TL)(H:Hp)(Φ:Nat→List Nat): Prop where
 slot:∀i t,σ i=some t→∃v,ρ i=some v∧RF H v t (Φ i)
 src:∀i t,σ i=some t→∀a∈Φ i,c.H0.length≤a∨c.P a
 own:∀i∈O,∀t,σ i=some t→(Φ i).Nodup∧(∀a∈Φ i,c.H0.length≤a∨a∈c.F0)∧∀j u,j≠i→σ j=some u→∀a∈Φ i,a∉Φ j
 len:c.H0.length≤H.length
 keep:∀a,a<c.H0.length→a∉c.F0→H[a]?=c.H0[a]?
 pos:0<c.H0.length
 f0:0∉c.F0
theorem St.ext{c:Ctx}{O:List Nat}{ρ:Lc}{σ:TL}{H:Hp}{Φ:Nat→List Nat}(s:St c O ρ σ H Φ)(X:Hp): St c O ρ σ (H++X) Φ:=
 ⟨fun i t e=>by obtain⟨v,h1,h2⟩:=s.slot i t e;exact⟨v,h1,h2.ext X⟩,s.src,s.own,by have:=s.len;rw[List.length_append];omega,fun a ha hn=>by
  rw[Zy0 (Nat.lt_of_lt_of_le ha s.len)];exact s.keep a ha hn,s.pos,s.f0⟩
theorem St.less{c:Ctx}{O O':List Nat}{ρ:Lc}{σ:TL}{H:Hp}{Φ:Nat→List Nat}(s:St c O ρ σ H Φ)(h:∀i∈O',i∈O): St c O' ρ σ H Φ:=⟨s.slot,s.src,fun i hi=>s.own i (h i hi),s.len,s.keep,s.pos,s.f0⟩
noncomputable def From(H:Hp)(N:List Nat)(σ:TL)(Φ:Nat→List Nat)(a:Nat): Prop:=H.length≤a∨∃i∈N,(∃t,σ i=some t)∧a∈Φ i
theorem From.mono{H:Hp}{N N':List Nat}{σ:TL}{Φ:Nat→List Nat}{a:Nat}(f:From H N σ Φ a)(h:∀i∈N,i∈N'): From H N' σ Φ a:=f.imp id fun⟨i,hi,q⟩=>⟨i,h i hi,q⟩
theorem From.back{H X:Hp}{N:List Nat}{σ:TL}{Φ:Nat→List Nat}{a:Nat}(f:From (H++X) N σ Φ a): From H N σ Φ a:=f.imp (fun h=>by rw[List.length_append]at h;omega) id
theorem From.nil{H:Hp}{σ:TL}{Φ:Nat→List Nat}{a:Nat}(f:From H [] σ Φ a): H.length≤a:=f.elim id fun⟨_,hi,_⟩=>by cases hi
noncomputable def E(O N:List Nat)(u:Bool)(e:Ex)(p:PE): Prop:=∀(c:Ctx) (ρ:Lc) (σ:TL) (H:Hp) (Φ:Nat→List Nat) (t:T),St c O ρ σ H Φ→p σ=some t →
 ∃v X F,e ρ H=some (v,H++X)∧RF (H++X) v t F∧(∀a∈F,From H N σ Φ a)∧(u=true→F.Nodup)
noncomputable def Es(O N:List Nat)(u:Bool)(n:Nat)(e:ZW)(p:PEs): Prop:=∀(c:Ctx) (ρ:Lc) (σ:TL) (H:Hp) (Φ:Nat→List Nat) (ts:List T),St c O ρ σ H Φ→p σ=some ts →
 ts.length=n∧∃vs X F,e ρ H=some (vs,H++X)∧RFs (H++X) vs ts F∧(∀a∈F,From H N σ Φ a)∧(u=true→F.Nodup)
noncomputable def Bt(O:List Nat)(e:Ts)(p:PB): Prop:=∀(c:Ctx) (ρ:Lc) (σ:TL) (H:Hp) (Φ:Nat→List Nat) (b:Bool),St c O ρ σ H Φ→p σ=some b→∃X,e ρ H=some (b,H++X)
section
variable {O N:List Nat} {u:Bool}
theorem Zej{O':List Nat}{e:Ex}{p:PE}(x:E O' N u e p)(h:∀i∈O',i∈O:=by decide): E O N u e p:=fun c ρ σ H Φ t s=>x c ρ σ H Φ t (s.less h)
theorem E.sh{e:Ex}{p:PE}(x:E O N u e p): E O N false e p:=fun c ρ σ H Φ t s q=>by
 obtain⟨v,X,F,a1,a2,a3,a4⟩:=x c ρ σ H Φ t s q
 exact⟨v,X,F,a1,a2,a3,by simp⟩
noncomputable def Zm(k:Int): PE:=fun _=>some (.int k)
noncomputable def Zfs: PE:=fun _=>some .none
noncomputable def Zdt(b:Bool): PE:=fun _=>some (.bool b)
noncomputable def ZR(x:Str): PE:=fun _=>some (.str x)
noncomputable def Zc(i:Nat): PE:=fun σ=>σ i
theorem Zn(k:Int): E O [] true (Zb k) (Zm k):=fun c ρ σ H Φ t s q=>by
 cases q;exact⟨_,[],[],by simp[Zb],.int k,by simp,by simp⟩
theorem ZiD: E O [] true Zba Zfs:=fun c ρ σ H Φ t s q=>by
 cases q;exact⟨_,[],[],by simp[Zba],.none,by simp,by simp⟩
theorem E.bool(k:Bool): E O [] true (ZbH k) (Zdt k):=fun c ρ σ H Φ t s q=>by
 cases q;exact⟨_,[],[],by simp[ZbH],.bool k,by simp,by simp⟩
theorem E.str(k:Str): E O [] true (Zo k) (ZR k):=fun c ρ σ H Φ t s q=>by
 cases q;exact⟨_,[],[],by simp[Zo],.str k,by simp,by simp⟩
theorem Zj(i:Nat): E O [i] false (eVar i) (Zc i):=fun c ρ σ H Φ t s q=>by
 obtain⟨v,h1,h2⟩:=s.slot i t q
 exact⟨v,[],Φ i,by simp[eVar,h1],by simpa using h2,fun a m=>.inr ⟨i,List.mem_cons_self,⟨t,q⟩,m⟩,by simp⟩
theorem E.own{i:Nat}(hi:i∈O:=by decide): E O [i] true (eVar i) (Zc i):=fun c ρ σ H Φ t s q=>by
 obtain⟨v,h1,h2⟩:=s.slot i t q
 exact⟨v,[],Φ i,by simp[eVar,h1],by simpa using h2,fun a m=>.inr ⟨i,List.mem_cons_self,⟨t,q⟩,m⟩,fun _=>(s.own i hi t q).1⟩
noncomputable def ZaZ(p:PE): PE:=fun σ=>(p σ).bind fun t=>if t.flat then some t else none
theorem E.flat{e:Ex}{p:PE}(x:E O N u e p): E O [] true e (ZaZ p):=fun c ρ σ H Φ t s q=>by
 obtain⟨t',e1,e2⟩:=Zz0.mp q
 by_cases h:t'.flat=true
 ·rw[if_pos h]at e2
  cases e2
  obtain⟨v,X,F,a1,a2,a3,a4⟩:=x c ρ σ H Φ t s e1
  have:=a2.flat h
  subst this
  exact⟨v,X,[],a1,a2,by simp,by simp⟩
 ·rw[if_neg h]at e2;cases e2
noncomputable def Zq: PEs:=fun _=>some []
noncomputable def Zd(p:PE)(q:PEs): PEs:=fun σ=>(p σ).bind fun t=>(q σ).bind fun ts=>some (t::ts)
theorem ZF: Es O [] true 0 eNil Zq:=fun c ρ σ H Φ ts s q=>by
 cases q;exact⟨rfl,[],[],[],by simp[eNil],.nil,by simp,by simp⟩
theorem ZA{M:List Nat}{u':Bool}{n:Nat}{e:Ex}{p:PE}{es:ZW}{ps:PEs}(x:E O N u e p)(y:Es O M u' n es ps): Es O (N++M) false (n+1) (eCons e es) (Zd p ps):=fun c ρ σ H Φ ts s q=>by
 obtain⟨t,e1,q⟩:=Zz0.mp q
 obtain⟨rs,e2,q⟩:=Zz0.mp q
 cases q
 obtain⟨v,X,F,a1,a2,a3,a4⟩:=x c ρ σ H Φ t s e1
 obtain⟨hl,vs,Y,G,b1,b2,b3,b4⟩:=y c ρ σ (H++X) Φ rs (s.ext X) e2
 refine⟨by simp[hl],v::vs,X++Y,F++G,by simp[eCons,a1,b1],?_,fun a m=>?_,by simp⟩
 ·rw[←List.append_assoc];exact .cons (a2.ext Y) b2
 ·rcases Zz8.mp m with m | m
  ·exact(a3 a m).mono fun i hi=>Zy7 _ hi
  ·exact(b3 a m).back.mono fun i hi=>List.mem_append_right _ hi
theorem ZI{M:List Nat}{n:Nat}{e:Ex}{p:PE}{es:ZW}{ps:PEs}(x:E O N true e p)(y:Es O M true n es ps)(hN:∀i∈N,i∈O)(hM:∀i∈N,i∉M): Es O (N++M) true (n+1) (eCons e es) (Zd p ps):=fun c ρ σ H Φ ts s q=>by
 obtain⟨t,e1,q⟩:=Zz0.mp q
 obtain⟨rs,e2,q⟩:=Zz0.mp q
 cases q
 obtain⟨v,X,F,a1,a2,a3,a4⟩:=x c ρ σ H Φ t s e1
 obtain⟨hl,vs,Y,G,b1,b2,b3,b4⟩:=y c ρ σ (H++X) Φ rs (s.ext X) e2
 refine⟨by simp[hl],v::vs,X++Y,F++G,by simp[eCons,a1,b1],?_,fun a m=>?_,fun _=>?_⟩
 ·rw[←List.append_assoc];exact .cons (a2.ext Y) b2
 ·rcases Zz8.mp m with m | m
  ·exact(a3 a m).mono fun i hi=>Zy7 _ hi
  ·exact(b3 a m).back.mono fun i hi=>List.mem_append_right _ hi
 ·rw[List.nodup_append]
  refine⟨a4 rfl,b4 rfl,fun a ha b hb e=>?_⟩
  subst e
  have hlt:=a2.lt a ha
  rcases b3 a hb with h | ⟨j,hj,⟨tj,ej⟩,mj⟩
  ·omega
  ·obtain⟨vj,_,rj⟩:=s.slot j tj ej
   have:=rj.lt a mj
   rcases a3 a ha with h | ⟨i,hi,⟨ti,ei⟩,mi⟩
   ·omega
   ·exact(s.own i (hN i hi) ti ei).2.2 j tj (fun q=>hM i hi (q▸hj)) ej a mi mj
noncomputable def Zbt(p:PEs): PE:=fun σ=>(p σ).map .tup
noncomputable def Zat(p:PEs): PE:=fun σ=>(p σ).map .lst
theorem E.tup{n:Nat}{e:ZW}{p:PEs}(x:Es O N u n e p)(hn:n≤ZX:=by decide): E O N u (ZY e) (Zbt p):=fun c ρ σ H Φ t s q=>by
 obtain⟨ts,e1,e2⟩:=Zz1.mp q
 subst e2
 obtain⟨hl,vs,Y,G,b1,b2,b3,b4⟩:=x c ρ σ H Φ ts s e1
 have:=b2.length
 refine⟨.tup vs,Y,G,?_,.tup b2,b3,b4⟩
 simp only[ZY,b1,Zs0]
 rw[if_pos (by omega)]
theorem E.list{n:Nat}{e:ZW}{p:PEs}(x:Es O N u n e p)(hn:n≤ZX:=by decide): E O N u (ZM e) (Zat p):=fun c ρ σ H Φ t s q=>by
 obtain⟨ts,e1,e2⟩:=Zz1.mp q
 subst e2
 obtain⟨hl,vs,Y,G,b1,b2,b3,b4⟩:=x c ρ σ H Φ ts s e1
 have:=b2.length
 refine⟨.ref (H++Y).length,Y++[vs],(H++Y).length::G,?_,?_,fun a m=>?_,fun hu=>?_⟩
 ·simp only[ZM,b1,Zs0]
  rw[if_pos (by omega),List.append_assoc]
 ·rw[←List.append_assoc];exact .ref (by simp) (b2.ext _)
 ·rcases Zz7.mp m with rfl | m
  ·exact .inl (by simp)
  ·exact b3 a m
 ·rw[List.nodup_cons]
  exact⟨fun m=>Nat.lt_irrefl _ (b2.lt _ m),b4 hu⟩
noncomputable def OA2(o:V→V→Hp→Option (V×Hp))(q:T→T→Option T): Prop:=∀(H:Hp) (v1 v2:V) (t1 t2 t:T) (F1 F2:List Nat),RF H v1 t1 F1→RF H v2 t2 F2→q t1 t2=some t→∃v,o v1 v2 H=some (v,H)∧RF H v t []
noncomputable def OI2(o:V→V→Hp→Option (V×Hp))(q:T→T→Option T): Prop:=∀(H:Hp) (v1 v2:V) (t1 t2 t:T) (F1 F2:List Nat),RF H v1 t1 F1→RF H v2 t2 F2→q t1 t2=some t→∃v F,o v1 v2 H=some (v,H)∧RF H v t F∧F.Sublist F1
noncomputable def OC2(o:V→V→Hp→Option (V×Hp))(q:T→T→Option T): Prop:=∀(H:Hp) (v1 v2:V) (t1 t2 t:T) (F1 F2:List Nat),RF H v1 t1 F1→RF H v2 t2 F2→q t1 t2=some t→∃v X F,o v1 v2 H=some (v,H++X)∧RF (H++X) v t F∧(∀a∈F,H.length≤a∨a∈F1∨a∈F2)∧(t.flatIn=true→F.Nodup∧∀a∈F,H.length≤a)
noncomputable def OA1(o:V→Hp→Option (V×Hp))(q:T→Option T): Prop:=∀(H:Hp) (v1:V) (t1 t:T) (F1:List Nat),RF H v1 t1 F1→q t1=some t→∃v,o v1 H=some (v,H)∧RF H v t []
noncomputable def OAn(o:List V→Hp→Option (V×Hp))(q:List T→Option T): Prop:=∀(H:Hp) (vs:List V) (ts:List T) (t:T) (F:List Nat),RFs H vs ts F→q ts=some t→∃v,o vs H=some (v,H)∧RF H v t []
noncomputable def Zl(q:T→T→Option T)(p1 p2:PE): PE:=fun σ=>(p1 σ).bind fun x=>(p2 σ).bind fun y=>q x y
noncomputable def pUn(q:T→Option T)(p1:PE): PE:=fun σ=>(p1 σ).bind fun x=>q x
noncomputable def Zak(q:List T→Option T)(ps:PEs): PE:=fun σ=>(ps σ).bind fun xs=>q xs
noncomputable def pFl(p:PE): PE:=fun σ=>(p σ).bind fun t=>if t.flatIn then some t else none
theorem ZeT{M:List Nat}{u':Bool}{e1 e2:Ex}{p1 p2:PE}{q:T→T→Option T}{o:V→V→Hp→Option (V×Hp)}{c:Ctx}{ρ:Lc}{σ:TL}{H:Hp}{Φ:Nat→List Nat}{t:T}(x:E O N u e1 p1)(y:E O M u' e2 p2)(s:St c O ρ σ H Φ)(h:Zl q p1 p2 σ=some t):
  ∃t1 t2 v1 v2 X F1 F2,q t1 t2=some t∧RF (H++X) v1 t1 F1∧RF (H++X) v2 t2 F2∧(∀a∈F1,From H N σ Φ a)∧(∀a∈F2,From H M σ Φ a)∧(u=true→F1.Nodup)∧Za o e1 e2 ρ H=o v1 v2 (H++X):=by
 obtain⟨t1,h1,h⟩:=Zz0.mp h
 obtain⟨t2,h2,h⟩:=Zz0.mp h
 obtain⟨v,X,F,a1,a2,a3,a4⟩:=x c ρ σ H Φ t1 s h1
 obtain⟨w,Y,G,b1,b2,b3,b4⟩:=y c ρ σ (H++X) Φ t2 (s.ext X) h2
 rw[List.append_assoc]at b1 b2
 refine⟨t1,t2,v,w,X++Y,F,G,h,?_,b2,a3,fun a m=>(b3 a m).back,a4,by simp only[Za,a1,b1,Zs0]⟩
 rw[←List.append_assoc];exact a2.ext Y
theorem ZE{M:List Nat}{u':Bool}{e1 e2:Ex}{p1 p2:PE}{q:T→T→Option T}{o:V→V→Hp→Option (V×Hp)}(k:OA2 o q)(x:E O N u e1 p1)(y:E O M u' e2 p2): E O [] true (Za o e1 e2) (Zl q p1 p2):=fun c ρ σ H Φ t s h=>by
 obtain⟨t1,t2,v1,v2,X,F1,F2,hq,r1,r2,_,_,_,e⟩:=ZeT (o:=o) x y s h
 obtain⟨v,h1,h2⟩:=k _ v1 v2 t1 t2 t F1 F2 r1 r2 hq
 exact⟨v,X,[],e.trans h1,h2,by simp,by simp⟩
theorem Z5{M:List Nat}{u':Bool}{e1 e2:Ex}{p1 p2:PE}{q:T→T→Option T}{o:V→V→Hp→Option (V×Hp)}(k:OI2 o q)(x:E O N u e1 p1)(y:E O M u' e2 p2): E O N u (Za o e1 e2) (Zl q p1 p2):=fun c ρ σ H Φ t s h=>by
 obtain⟨t1,t2,v1,v2,X,F1,F2,hq,r1,r2,h1,_,hu,e⟩:=ZeT (o:=o) x y s h
 obtain⟨v,F,k1,k2,k3⟩:=k _ v1 v2 t1 t2 t F1 F2 r1 r2 hq
 exact⟨v,X,F,e.trans k1,k2,fun a m=>h1 a (k3.subset m),fun h=>(hu h).sublist k3⟩
theorem Za4{M:List Nat}{u':Bool}{e1 e2:Ex}{p1 p2:PE}{q:T→T→Option T}{o:V→V→Hp→Option (V×Hp)}(k:OC2 o q)(x:E O N u e1 p1)(y:E O M u' e2 p2): E O (N++M) false (Za o e1 e2) (Zl q p1 p2):=fun c ρ σ H Φ t s h=>by
 obtain⟨t1,t2,v1,v2,X,F1,F2,hq,r1,r2,h1,h2,hu,e⟩:=ZeT (o:=o) x y s h
 obtain⟨v,Y,F,k1,k2,k3,k4⟩:=k _ v1 v2 t1 t2 t F1 F2 r1 r2 hq
 rw[List.append_assoc]at k1 k2
 refine⟨v,X++Y,F,e.trans k1,k2,fun a m=>?_,by simp⟩
 rcases k3 a m with h | h | h
 ·exact .inl (by rw[List.length_append]at h;omega)
 ·exact(h1 a h).mono fun i hi=>Zy7 _ hi
 ·exact(h2 a h).mono fun i hi=>List.mem_append_right _ hi
theorem Zdq{M:List Nat}{u':Bool}{e1 e2:Ex}{p1 p2:PE}{q:T→T→Option T}{o:V→V→Hp→Option (V×Hp)}(k:OC2 o q)(x:E O N u e1 p1)(y:E O M u' e2 p2): E O [] true (Za o e1 e2) (pFl (Zl q p1 p2)):=fun c ρ σ H Φ t s h=>by
 obtain⟨t',h,hf⟩:=Zz0.mp h
 by_cases fl:t'.flatIn=true
 ·rw[if_pos fl]at hf
  cases hf
  obtain⟨t1,t2,v1,v2,X,F1,F2,hq,r1,r2,h1,h2,hu,e⟩:=ZeT (o:=o) x y s h
  obtain⟨v,Y,F,k1,k2,k3,k4⟩:=k _ v1 v2 t1 t2 t F1 F2 r1 r2 hq
  rw[List.append_assoc]at k1 k2
  exact⟨v,X++Y,F,e.trans k1,k2,fun a m=>.inl (by have:=(k4 fl).2 a m;rw[List.length_append]at this;omega),fun _=>(k4 fl).1⟩
 ·rw[if_neg fl]at hf;cases hf
theorem Zdu{e1:Ex}{p1:PE}{q:T→Option T}{o:V→Hp→Option (V×Hp)}(k:OA1 o q)(x:E O N u e1 p1): E O [] true (eUn o e1) (pUn q p1):=fun c ρ σ H Φ t s h=>by
 obtain⟨t1,h1,h⟩:=Zz0.mp h
 obtain⟨v,X,F,a1,a2,a3,a4⟩:=x c ρ σ H Φ t1 s h1
 obtain⟨w,b1,b2⟩:=k _ v t1 t F a2 h
 exact⟨w,X,[],by simp only[eUn,a1,Zs0,b1],b2,by simp,by simp⟩
theorem Zbf{n:Nat}{es:ZW}{ps:PEs}{q:List T→Option T}{o:List V→Hp→Option (V×Hp)}(k:OAn o q)(x:Es O N u n es ps): E O [] true (Ze o es) (Zak q ps):=fun c ρ σ H Φ t s h=>by
 obtain⟨ts,h1,h⟩:=Zz0.mp h
 obtain⟨_,vs,X,F,a1,a2,a3,a4⟩:=x c ρ σ H Φ ts s h1
 obtain⟨w,b1,b2⟩:=k _ vs ts t F a2 h
 exact⟨w,X,[],by simp only[Ze,a1,Zs0,b1],b2,by simp,by simp⟩
noncomputable def SimF(fr:Bool)(f:List V→Hp→Option (V×Hp))(p:List T→Option T): Prop:=∀(H:Hp) (vs:List V) (ts:List T) (t:T) (F1:List Nat),0<H.length→RFs H vs ts F1→p ts=some t→∃v X F,f vs H=some (v,H++X)∧RF (H++X) v t F∧(∀a∈F,H.length≤a∨a∈F1)∧(fr=true→F.Nodup∧∀a∈F,H.length≤a)
theorem E.fn{fr:Bool}{n:Nat}{es:ZW}{ps:PEs}{q:List T→Option T}{o:List V→Hp→Option (V×Hp)}(k:SimF fr o q)(x:Es O N u n es ps): E O N false (Ze o es) (Zak q ps):=fun c ρ σ H Φ t s h=>by
 obtain⟨ts,h1,h⟩:=Zz0.mp h
 obtain⟨_,vs,X,F,a1,a2,a3,a4⟩:=x c ρ σ H Φ ts s h1
 have hp:0<(H++X).length:=by have:=s.pos;have:=s.len;rw[List.length_append];omega
 obtain⟨w,Y,G,b1,b2,b3,b4⟩:=k _ vs ts t F hp a2 h
 rw[List.append_assoc]at b1 b2
 refine⟨w,X++Y,G,by simp only[Ze,a1,Zs0,b1],b2,fun a m=>?_,by simp⟩
 rcases b3 a m with h | h
 ·exact .inl (by rw[List.length_append]at h;omega)
 ·exact a3 a h
theorem ZgU{n:Nat}{es:ZW}{ps:PEs}{q:List T→Option T}{o:List V→Hp→Option (V×Hp)}(k:SimF true o q)(x:Es O N u n es ps): E O [] true (Ze o es) (Zak q ps):=fun c ρ σ H Φ t s h=>by
 obtain⟨ts,h1,h⟩:=Zz0.mp h
 obtain⟨_,vs,X,F,a1,a2,a3,a4⟩:=x c ρ σ H Φ ts s h1
 have hp:0<(H++X).length:=by have:=s.pos;have:=s.len;rw[List.length_append];omega
 obtain⟨w,Y,G,b1,b2,b3,b4⟩:=k _ vs ts t F hp a2 h
 rw[List.append_assoc]at b1 b2
 exact⟨w,X++Y,G,by simp only[Ze,a1,Zs0,b1],b2,fun a m=>.inl (by have:=(b4 rfl).2 a m;rw[List.length_append]at this;omega),fun _=>(b4 rfl).1⟩
noncomputable def ZcE: T→Option Bool
 | .bool b=>some b
 | .none=>some false
 | .int i=>some (i != 0)
 | _=>none
theorem ZeW{H:Hp}{v:V}{t:T}{F:List Nat}{b:Bool}(r:RF H v t F)(h:ZcE t=some b): Z9 v H=some b:=by
 cases r <;> first | (cases h;rfl) | cases h
noncomputable def Zac(p:PE): PB:=fun σ=>(p σ).bind ZcE
noncomputable def Zet(p:PB): PB:=fun σ=>(p σ).map fun b=>!b
noncomputable def ZbK: PB:=fun _=>some true
noncomputable def Zeb: PB:=fun _=>some false
noncomputable def ZbD(p q:PB): PB:=fun σ=>(p σ).bind fun b=>if b then q σ else some false
noncomputable def bOr(p q:PB): PB:=fun σ=>(p σ).bind fun b=>if b then some true else q σ
theorem Zah{e:Ex}{p:PE}(x:E O N u e p): Bt O (Zp e) (Zac p):=fun c ρ σ H Φ b s h=>by
 obtain⟨t,h1,h⟩:=Zz0.mp h
 obtain⟨v,X,F,a1,a2,a3,a4⟩:=x c ρ σ H Φ t s h1
 exact⟨X,by simp only[Zp,a1,Zs0,ZeW a2 h,Zs1]⟩
theorem ZiE{e:Ts}{p:PB}(x:Bt O e p): Bt O (ZdA e) (Zet p):=fun c ρ σ H Φ b s h=>by
 obtain⟨t,h1,h⟩:=Zz1.mp h
 subst h
 obtain⟨X,a1⟩:=x c ρ σ H Φ t s h1
 exact⟨X,by simp only[ZdA,a1,Zs1]⟩
theorem ZcD: Bt O ZaH ZbK:=fun c ρ σ H Φ b s h=>by
 cases h;exact⟨[],by simp[ZaH]⟩
theorem Zgx: Bt O ZaD Zeb:=fun c ρ σ H Φ b s h=>by
 cases h;exact⟨[],by simp[ZaD]⟩
theorem Zcc{e f:Ts}{p q:PB}(x:Bt O e p)(y:Bt O f q): Bt O (Za1 e f) (ZbD p q):=fun c ρ σ H Φ b s h=>by
 obtain⟨t,h1,h⟩:=Zz0.mp h
 obtain⟨X,a1⟩:=x c ρ σ H Φ t s h1
 cases t with
 | true=>
  obtain⟨Y,b1⟩:=y c ρ σ (H++X) Φ b (s.ext X) (by simpa using h)
  exact⟨X++Y,by simp[Za1,a1,b1]⟩
 | false=>cases h;exact⟨X,by simp[Za1,a1]⟩
theorem Zek{e f:Ts}{p q:PB}(x:Bt O e p)(y:Bt O f q): Bt O (ZZ e f) (bOr p q):=fun c ρ σ H Φ b s h=>by
 obtain⟨t,h1,h⟩:=Zz0.mp h
 obtain⟨X,a1⟩:=x c ρ σ H Φ t s h1
 cases t with
 | false=>
  obtain⟨Y,b1⟩:=y c ρ σ (H++X) Φ b (s.ext X) (by simpa using h)
  exact⟨X++Y,by simp[ZZ,a1,b1]⟩
 | true=>cases h;exact⟨X,by simp[ZZ,a1]⟩
noncomputable def pOr(p q:PE): PE:=fun σ=>(p σ).bind fun t=>(ZcE t).bind fun b=>if b then some t else q σ
theorem Znb{M:List Nat}{e f:Ex}{p q:PE}(x:E O N u e p)(y:E O M u f q): E O (N++M) u (eOr e f) (pOr p q):=fun c ρ σ H Φ t s h=>by
 obtain⟨t1,h1,h⟩:=Zz0.mp h
 obtain⟨b,h2,h⟩:=Zz0.mp h
 obtain⟨v,X,F,a1,a2,a3,a4⟩:=x c ρ σ H Φ t1 s h1
 cases b with
 | false=>
  obtain⟨w,Y,F',b1,b2,b3,b4⟩:=y c ρ σ (H++X) Φ t (s.ext X) (by simpa using h)
  exact⟨w,X++Y,F',by simp[eOr,a1,ZeW a2 h2,b1],by rw[←List.append_assoc];exact b2,fun a m=>(b3 a m).back.mono fun i hi=>List.mem_append_right _ hi,b4⟩
 | true=>
  cases h
  exact⟨v,X,F,by simp[eOr,a1,ZeW a2 h2],a2,fun a m=>(a3 a m).mono fun i hi=>Zy7 _ hi,a4⟩
noncomputable def ZgE: T→String
 | .none=>"NoneType"
 | .bool _=>"bool"
 | .int _=>"int"
 | .str _=>"str"
 | .tup _=>"tuple"
 | .lst _=>"list"
 | .ob _ _=>"object"
end
end TM
end
section
namespace TM
open PySem PM
section
variable {O N:List Nat} {u:Bool}
noncomputable def Ze0(K:String)(t:T): Bool:=ZgE t == K || (K == "int" && ZgE t == "bool")
noncomputable def isObT: T→Bool
 | .ob _ _=>true
 | _=>false
theorem ZkB{H:Hp}{v:V}{t:T}{F:List Nat}(r:RF H v t F): Zeh v=isObT t:=by cases r <;> rfl
noncomputable def pIs(K:String)(p:PE): PE:=fun σ=>(p σ).bind fun t=>if isObT t then none else some (.bool (Ze0 K t))
theorem ZkZ{H:Hp}{v:V}{t:T}{F:List Nat}(r:RF H v t F): ZgD v=ZgE t:=by cases r <;> rfl
theorem Zjg{K:String}{e:Ex}{p:PE}(x:E O N u e p): E O [] true (eIs K e) (pIs K p):=fun c ρ σ H Φ t s h=>by
 obtain⟨t1,h1,h⟩:=Zz0.mp h
 by_cases ob:isObT t1=true
 ·rw[if_pos ob]at h;cases h
 rw[if_neg ob]at h
 cases h
 obtain⟨v,X,F,a1,a2,a3,a4⟩:=x c ρ σ H Φ t1 s h1
 refine⟨.bool (Ze0 K t1),X,[],?_,.bool _,by simp,by simp⟩
 simp only[eIs,a1,Zs0,ZbG,Ze0,ZkZ a2,ZkB a2]
 rw[if_neg ob]
noncomputable def Zbu: T→T→Option T
 | .int a,.int b=>some (.int (a-b))
 | _,_=>none
noncomputable def Zb7: T→T→Option T
 | .int a,.int b=>if b≠0∧Builtin.divisionGoesByPylong a b=false then some (.int (a.fdiv b))else none
 | _,_=>none
noncomputable def Zbd: T→T→Option T
 | .int a,.int b=>if b≠0 then some (.int (a.fmod b))else none
 | _,_=>none
noncomputable def ZbY: T→T→Option T
 | .int a,.int b=>if 0≤b∧(Builtin.Int.intBits a:Int)*b≤2 ^ 27 then some (.int (a ^ b.toNat))else none
 | _,_=>none
noncomputable def ZcK: T→Option T
 | .int a=>some (.int (-a))
 | _=>none
noncomputable def Zjh(p:Int→Int→Bool): T→T→Option T
 | .int a,.int b=>some (.bool (p a b))
 | _,_=>none
noncomputable def qGt:=Zjh fun a b=>decide (b<a)
theorem ZbL: OA2 Zau Zbu:=fun H v1 v2 t1 t2 t F1 F2 r1 r2 h=>by
 cases r1 <;> first | (cases h;done) | (cases r2 <;> first | (cases h;done) | (cases h;exact⟨_,rfl,.int _⟩))
theorem Zdv: OA2 oDiv Zb7:=fun H v1 v2 t1 t2 t F1 F2 r1 r2 h=>by
 cases r1 <;> first | (cases h;done) | skip
 cases r2 <;> first | (cases h;done) | skip
 simp only[Zb7]at h
 split at h
 ·rename_i hc;cases h;exact⟨_,by simp only[oDiv];rw[if_pos hc],.int _⟩
 ·cases h
theorem ZbM: OA2 oMod Zbd:=fun H v1 v2 t1 t2 t F1 F2 r1 r2 h=>by
 cases r1 <;> first | (cases h;done) | skip
 cases r2 <;> first | (cases h;done) | skip
 simp only[Zbd]at h
 split at h
 ·rename_i hc;cases h;exact⟨_,by simp only[oMod];rw[if_pos hc],.int _⟩
 ·cases h
theorem Zfi: OA2 oPow ZbY:=fun H v1 v2 t1 t2 t F1 F2 r1 r2 h=>by
 cases r1 <;> first | (cases h;done) | skip
 cases r2 <;> first | (cases h;done) | skip
 simp only[ZbY]at h
 split at h
 ·rename_i hc;cases h;exact⟨_,by simp only[oPow];rw[if_pos hc],.int _⟩
 ·cases h
theorem Zdw: OA1 ZbN ZcK:=fun H v1 t1 t F1 r1 h=>by
 cases r1 <;> first | (cases h;done) | (cases h;exact⟨_,rfl,.int _⟩)
theorem ZmO(p:Int→Int→Bool): OA2 (Zbb p) (Zjh p):=fun H v1 v2 t1 t2 t F1 F2 r1 r2 h=>by
 cases r1 <;> first | (cases h;done) | (cases r2 <;> first | (cases h;done) | (cases h;exact⟨_,rfl,.bool _⟩))
theorem Zc4: OA2 oGt qGt:=ZmO _
noncomputable def ZcY(f:T→Option PyData): List T→Option (List PyData)
 | []=>some []
 | v::vs=>(f v).bind fun d=>(ZcY f vs).bind fun ds=>some (d::ds)
noncomputable def Zbk: Nat→T→Option PyData
 | _,.none=>some .none
 | _,.bool b=>some (.bool b)
 | _,.int i=>some (.int i)
 | _,.str x=>some (.str x)
 | n+1,.tup vs=>(ZcY (Zbk n) vs).map .tuple
 | n+1,.lst vs=>(ZcY (Zbk n) vs).map .list
 | 0,.tup _=>none
 | 0,.lst _=>none
 | _,.ob _ _=>none
theorem ZgF{H:Hp}{f:V→Option PyData}{g:T→Option PyData}(h:∀v t F,RF H v t F→f v=g t): ∀{vs:List V} {ts:List T} {F:List Nat},RFs H vs ts F→ZdC f vs=ZcY g ts
 | _,_,_,.nil=>rfl
 | _,_,_,.cons a b=>by simp only[ZdC,ZcY,h _ _ _ a,ZgF h b]
theorem Ze6{H:Hp}: ∀(n:Nat) (v:V) (t:T) (F:List Nat),RF H v t F→toD H n v=Zbk n t:=by
 intro n
 induction n with
 | zero=>intro v t F r;cases r <;> rfl
 | succ n ih=>
  intro v t F r
  cases r with
  | none=>rfl
  | bool=>rfl
  | int=>rfl
  | str=>rfl
  | tup hs=>simp only[toD,Zbk,ZgF ih hs]
  | ref e hs=>simp only[toD,Zbk,e,Zs0,ZgF ih hs]
  | obj e hs=>rfl
noncomputable def Zcg(a b:T): Option Bool:=(Zbk ZaF a).bind fun d=>(Zbk ZaF b).bind fun e=>if SeqAt.shaped d=true∧SeqAt.shaped e=true then some (PyData.eqv d e)else none
noncomputable def qEq(a b:T): Option T:=(Zcg a b).map .bool
noncomputable def qNe(a b:T): Option T:=(Zcg a b).map fun c=>.bool !c
theorem ZiF{H:Hp}{v1 v2:V}{t1 t2:T}{F1 F2:List Nat}(r1:RF H v1 t1 F1)(r2:RF H v2 t2 F2): Zb6 v1 v2 H=Zcg t1 t2:=by
 simp only[Zb6,Zcg,Ze6 ZaF _ _ _ r1,Ze6 ZaF _ _ _ r2]
theorem ZaV: OA2 ZU qEq:=fun H v1 v2 t1 t2 t F1 F2 r1 r2 h=>by
 obtain⟨c,h1,h⟩:=Zz1.mp h
 subst h
 exact⟨_,by simp only[ZU,ZiF r1 r2,h1,Zs1],.bool _⟩
theorem Zji: OA2 oNe qNe:=fun H v1 v2 t1 t2 t F1 F2 r1 r2 h=>by
 obtain⟨c,h1,h⟩:=Zz1.mp h
 subst h
 exact⟨_,by simp only[oNe,ZiF r1 r2,h1,Zs1],.bool _⟩
noncomputable def ZT: T→T→Option T
 | .lst ts,.int k=>(seqIndex? k ts.length).bind fun j=>ts[j]?
 | .tup ts,.int k=>(seqIndex? k ts.length).bind fun j=>ts[j]?
 | _,_=>none
theorem Z6: OI2 Zh ZT:=fun H v1 v2 t1 t2 t F1 F2 r1 r2 h=>by
 cases r1 with
 | none=>cases h
 | bool=>cases h
 | int=>cases h
 | str=>cases h
 | obj=>cases h
 | tup hs=>
  cases r2 <;> first | (cases h;done) | skip
  obtain⟨j,h1,h2⟩:=Zz0.mp h
  obtain⟨v,G,e1,e2,e3⟩:=hs.at h2
  exact⟨v,G,by simp only[Zh,hs.length,h1,Zs0,e1,Zs1],e2,e3⟩
 | ref e hs=>
  cases r2 <;> first | (cases h;done) | skip
  obtain⟨j,h1,h2⟩:=Zz0.mp h
  obtain⟨v,G,e1,e2,e3⟩:=hs.at h2
  exact⟨v,G,by simp only[Zh,e,Zs0,hs.length,h1,e1,Zs1],e2,e3.trans (List.sublist_cons_self _ _)⟩
noncomputable def ZbE: List T→Option T
 | [.lst ts]=>some (.int ts.length)
 | [.tup ts]=>some (.int ts.length)
 | _=>none
theorem RFs.one_inv{H:Hp}{vs:List V}{t:T}{F:List Nat}(r:RFs H vs [t] F): ∃v,vs=[v]∧RF H v t F:=by
 cases r with
 | cons a b=>cases b;rw[List.append_nil];exact⟨_,rfl,a⟩
theorem RFs.two_inv{H:Hp}{vs:List V}{t t':T}{F:List Nat}(r:RFs H vs [t,t'] F): ∃v v' F1 F2,vs=[v,v']∧RF H v t F1∧RF H v' t' F2∧F=F1++F2:=by
 cases r with
 | cons a b=>obtain⟨v',h1,h2⟩:=b.one_inv;subst h1;exact⟨_,_,_,_,rfl,a,h2,rfl⟩
theorem Zb5: OAn Z2 ZbE:=fun H vs ts t F r h=>by
 unfold ZbE at h
 split at h
 ·obtain⟨v,rfl,r'⟩:=r.one_inv
  cases r' with
  | ref e hs=>cases h;exact⟨_,by simp only[Z2,e,Zs1,hs.length],.int _⟩
 ·obtain⟨v,rfl,r'⟩:=r.one_inv
  cases r' with
  | tup hs=>cases h;exact⟨_,by simp only[Z2,hs.length],.int _⟩
 ·cases h
noncomputable def Zeu: List T→Option T
 | [.int a]=>some (.int (if a<0 then -a else a))
 | _=>none
theorem Zi6: OAn Zcr Zeu:=fun H vs ts t F r h=>by
 unfold Zeu at h
 split at h
 ·obtain⟨v,rfl,r'⟩:=r.one_inv
  cases r';cases h;exact⟨_,rfl,.int _⟩
 ·cases h
noncomputable def Zfj: List T→Option T
 | [.int a,.int b]=>some (.int (if b>a then b else a))
 | _=>none
noncomputable def Zel: List T→Option T
 | [.int a,.int b]=>some (.int (if b<a then b else a))
 | _=>none
theorem ZlN: OAn Zei Zfj:=fun H vs ts t F r h=>by
 unfold Zfj at h
 split at h
 ·obtain⟨v,w,F1,F2,rfl,r1,r2,_⟩:=r.two_inv
  cases r1;cases r2;cases h;exact⟨_,rfl,.int _⟩
 ·cases h
theorem ZiG: OAn Zcd Zel:=fun H vs ts t F r h=>by
 unfold Zel at h
 split at h
 ·obtain⟨v,w,F1,F2,rfl,r1,r2,_⟩:=r.two_inv
  cases r1;cases r2;cases h;exact⟨_,rfl,.int _⟩
 ·cases h
noncomputable def Zem: List T→Option (List Int)
 | []=>some []
 | .int k::vs=>(Zem vs).map fun ks=>k::ks
 | _::_=>none
noncomputable def Zow: List T→Option T
 | [.lst ts]=>(Zem ts).map fun ks=>.int ks.sum
 | _=>none
theorem ZdE{H:Hp}{vs:List V}{ts:List T}{F:List Nat}(r:RFs H vs ts F): RF (H++[vs]) (.ref H.length) (.lst ts) (H.length::F):=.ref (by simp) (r.ext _)
theorem ZeU{H:Hp}{vs:List V}{ts:List T}{F:List Nat}(r:RFs H vs ts F)(h:T.flatIn (.lst ts)=true): (H.length::F).Nodup∧∀a∈H.length::F,H.length≤a:=by
 rw[r.flats (by simpa [T.flatIn]using h)]
 simp
theorem ZkC{H:Hp}{v:V}{t:T}{F:List Nat}(r:RF H v t F)(h:F=[]): F.Nodup∧∀a∈F,H.length≤a:=by subst h;simp
noncomputable def ZgZ(ts:List T): Nat→List T
 | 0=>[]
 | n+1=>ZgZ ts n++ts
noncomputable def Zay: T→T→Option T
 | .int a,.int b=>some (.int (a+b))
 | .lst a,.lst b=>if(a++b).length≤ZX then some (.lst (a++b))else none
 | .tup a,.tup b=>if(a++b).length≤ZX then some (.tup (a++b))else none
 | _,_=>none
noncomputable def ZbZ: T→T→Option T
 | .int a,.int b=>if Zb4 a b=true then some (.int (a*b))else none
 | .lst a,.int k=>if a.length*k.toNat≤ZX∧-(2 ^ 63:Int)≤k∧k<2 ^ 63 then some (.lst (ZgZ a k.toNat))else none
 | _,_=>none
theorem ZiH{H:Hp}{vs:List V}{ts:List T}{F:List Nat}(r:RFs H vs ts F): ∀n,∃G,RFs H (Zc3 vs n) (ZgZ ts n) G∧∀a∈G,a∈F
 | 0=>⟨_,.nil,by simp⟩
 | n+1=>by
  obtain⟨G,h1,h2⟩:=ZiH r n
  exact⟨_,h1.append r,fun a m=>(Zz8.mp m).elim (h2 a) id⟩
theorem Za0: OC2 ZO Zay:=fun H v1 v2 t1 t2 t F1 F2 r1 r2 h=>by
 cases r1 with
 | none=>cases h
 | bool=>cases h
 | str=>cases h
 | obj=>cases h
 | int a=>
  cases r2 <;> first | (cases h;done) | skip
  cases h;exact⟨_,[],[],by simp[ZO],.int _,by simp,by simp⟩
 | tup hs1=>
  cases r2 with
  | none=>cases h
  | bool=>cases h
  | str=>cases h
  | obj=>cases h
  | int=>cases h
  | ref=>cases h
  | tup hs2=>
   simp only[Zay]at h
   split at h
   ·rename_i hl
    cases h
    refine⟨_,[],_,?_,.tup (by simpa using hs1.append hs2),fun a m=>.inr (Zz8.mp m),fun hf=>ZkC (H:=H) (.tup (hs1.append hs2)) ((RF.tup (hs1.append hs2)).flat (by simpa [T.flatIn]using hf))⟩
    simp only[ZO,List.append_nil]
    rw[if_pos (by rw[List.length_append]at hl ⊢;rw[hs1.length,hs2.length];exact hl)]
   ·cases h
 | ref e1 hs1=>
  cases r2 with
  | none=>cases h
  | bool=>cases h
  | str=>cases h
  | obj=>cases h
  | int=>cases h
  | tup=>cases h
  | ref e2 hs2=>
   simp only[Zay]at h
   split at h
   ·rename_i hl
    cases h
    refine⟨_,_,_,?_,ZdE (hs1.append hs2),fun a m=>?_,ZeU (hs1.append hs2)⟩
    ·simp only[ZO,e1,e2,Zs0]
     rw[if_pos (by rw[List.length_append]at hl ⊢;rw[hs1.length,hs2.length];exact hl)]
    ·rcases Zz7.mp m with rfl | m
     ·exact .inl (Zz10 _)
     ·rcases Zz8.mp m with m | m
      ·exact .inr (.inl (Zz2 _ m))
      ·exact .inr (.inr (Zz2 _ m))
   ·cases h
theorem Zen: OC2 ZbX ZbZ:=fun H v1 v2 t1 t2 t F1 F2 r1 r2 h=>by
 cases r1 with
 | none=>cases h
 | bool=>cases h
 | str=>cases h
 | obj=>cases h
 | tup=>cases h
 | int a=>
  cases r2 <;> first | (cases h;done) | skip
  simp only[ZbZ]at h
  split at h
  ·rename_i hm
   cases h;exact⟨_,[],[],by simp only[ZbX];rw[if_pos hm];simp,.int _,by simp,by simp⟩
  ·cases h
 | ref e1 hs1=>
  cases r2 with
  | none=>cases h
  | bool=>cases h
  | str=>cases h
  | obj=>cases h
  | tup=>cases h
  | ref=>cases h
  | int k=>
   simp only[ZbZ]at h
   split at h
   ·rename_i hl
    cases h
    obtain⟨G,h1,h2⟩:=ZiH hs1 k.toNat
    refine⟨_,_,_,?_,ZdE h1,fun a m=>?_,ZeU h1⟩
    ·simp only[ZbX,e1,Zs0]
     rw[if_pos (by rw[hs1.length];exact hl)]
    ·rcases Zz7.mp m with rfl | m
     ·exact .inl (Zz10 _)
     ·exact .inr (.inl (Zz2 _ (h2 a m)))
   ·cases h
noncomputable def Ze1: List T→Option T
 | [.lst ts]=>some (.tup ts)
 | [.tup ts]=>some (.tup ts)
 | _=>none
end
end TM
end
section
namespace TM
open PySem PM
theorem St.from_src{c:Ctx}{O N:List Nat}{ρ:Lc}{σ:TL}{H:Hp}{Φ:Nat→List Nat}(s:St c O ρ σ H Φ){a:Nat}(f:From H N σ Φ a): c.H0.length≤a∨c.P a:=by
 rcases f with h | ⟨i,hi,⟨t,e⟩,m⟩
 ·exact .inl (Nat.le_trans s.len h)
 ·exact s.src i t e a m
theorem St.from_off{c:Ctx}{O N:List Nat}{ρ:Lc}{σ:TL}{H:Hp}{Φ:Nat→List Nat}(s:St c O ρ σ H Φ)(hN:∀i∈N,i∉O){a:Nat}(f:From H N σ Φ a){i:Nat}(hi:i∈O){t:T}(e:σ i=some t): a∉Φ i:=by
 intro m
 obtain⟨v,_,r⟩:=s.slot i t e
 have hl:=r.lt a m
 rcases f with h | ⟨j,hj,⟨t',e'⟩,m'⟩
 ·omega
 ·exact(s.own i hi t e).2.2 j t' (fun q=>hN j hj (q▸hi)) e' a m m'
noncomputable abbrev PPt:=TL→Option (Option Int)
noncomputable def Ze7: PPt:=fun _=>some none
noncomputable def Ze8(p:PE): PPt:=fun σ=>(p σ).bind fun t=>match t with
 | .int k=>some (some k)
 | _=>none
noncomputable def Pe(O:List Nat)(f:Pt)(p:PPt): Prop:=∀(c:Ctx) (ρ:Lc) (σ:TL) (H:Hp) (Φ:Nat→List Nat) (k:Option Int),St c O ρ σ H Φ→p σ=some k→∃o X,f ρ H=some (o,H++X)∧Zds o=some k
section
variable {O N:List Nat} {u:Bool}
theorem Pe.none: Pe O PM.ZbI Ze7:=fun c ρ σ H Φ k s h=>by
 cases h;exact⟨Option.none,[],by simp[PM.ZbI],rfl⟩
theorem Pe.some{e:Ex}{p:PE}(x:E O N u e p): Pe O (ZbJ e) (Ze8 p):=fun c ρ σ H Φ k s h=>by
 obtain⟨t,h1,h⟩:=Zz0.mp h
 obtain⟨v,X,F,a1,a2,a3,a4⟩:=x c ρ σ H Φ t s h1
 cases a2 <;> first | (cases h;done) | skip
 rename_i k'
 cases h
 exact⟨Option.some (.int k'),X,by simp only[ZbJ,a1,Zs1],rfl⟩
noncomputable def Zec(p:PE)(lo hi:PPt): PE:=fun σ=>(p σ).bind fun t=>(lo σ).bind fun a=>(hi σ).bind fun b=>match t with
 | .lst ts=>Option.some (.lst (Zbc ts a b))
 | _=>Option.none
theorem RFs.pick{H:Hp}{vs:List V}{ts:List T}{F:List Nat}(h:RFs H vs ts F)(l:List Nat): ∃G,RFs H (l.filterMap fun i=>vs[i]?) (l.filterMap fun i=>ts[i]?) G∧∀a∈G,a∈F:=by
 induction l with
 | nil=>exact⟨_,.nil,by simp⟩
 | cons i l ih=>
  obtain⟨G,h1,h2⟩:=ih
  simp only[List.filterMap_cons]
  have hl:=h.length
  cases e:ts[i]? with
  | none=>
   have:vs[i]?=none:=by rw[List.getElem?_eq_none_iff]at e ⊢;omega
   rw[this]
   exact⟨G,h1,h2⟩
  | some t=>
   obtain⟨x,G',hx,hr,hs⟩:=h.at e
   rw[hx]
   exact⟨_,.cons hr h1,fun a m=>(Zz8.mp m).elim (fun q=>hs.subset q) (h2 a)⟩
theorem ZjW{c:Ctx}{ρ:Lc}{σ:TL}{H:Hp}{Φ:Nat→List Nat}{t:T}{e:Ex}{p:PE}{lo hi:Pt}{plo phi:PPt}(x:E O N u e p)(y:Pe O lo plo)(z:Pe O hi phi)(s:St c O ρ σ H Φ)(h:Zec p plo phi σ=Option.some t):
  ∃v X F,Zby e lo hi ρ H=Option.some (v,H++X)∧RF (H++X) v t F∧(∀a∈F,From H N σ Φ a)∧(t.flatIn=true→F.Nodup∧∀a∈F,H.length≤a):=by
 obtain⟨t1,h1,h⟩:=Zz0.mp h
 obtain⟨a,h2,h⟩:=Zz0.mp h
 obtain⟨b,h3,h⟩:=Zz0.mp h
 obtain⟨v,X,F,a1,a2,a3,a4⟩:=x c ρ σ H Φ t1 s h1
 obtain⟨o1,Y,b1,b2⟩:=y c ρ σ (H++X) Φ a (s.ext X) h2
 obtain⟨o2,Z,c1,c2⟩:=z c ρ σ (H++X++Y) Φ b ((s.ext X).ext Y) h3
 cases a2 with
 | none=>cases h
 | bool=>cases h
 | int=>cases h
 | str=>cases h
 | obj=>cases h
 | tup=>cases h
 | @ref i vs ts F e1 hs=>
 cases h
 have e3:((H++X)++(Y++Z))[i]?=Option.some vs:=by rw[Zy0 (Zz6.mp e1).1];exact e1
 have hs':=hs.ext (Y++Z)
 have hlen:=hs.length
 obtain⟨G,g1,g2⟩:=hs'.pick (sliceRange (sliceBounds a b none vs.length).1 (sliceBounds a b none vs.length).2.1 (sliceBounds a b none vs.length).2.2)
 have g1':RFs (H++X++(Y++Z)) (Zbc vs a b) (Zbc ts a b) G:=by unfold Zbc;rw[←hlen];exact g1
 refine⟨.ref (H++X++(Y++Z)).length,X++(Y++Z)++[Zbc vs a b],(H++X++(Y++Z)).length::G,?_,?_,fun q m=>?_,fun hf=>?_⟩
 ·simp only[Zby,a1,Zs0,b1,c1,b2,c2]
  rw[Zy10 (H++X),e3]
  simp
 ·have:=ZdE g1'
  simpa using this
 ·rcases Zz7.mp m with rfl | m
  ·exact .inl (by simp)
  ·exact a3 q (Zz2 _ (g2 q m))
 ·have:=ZeU g1' hf
  exact⟨this.1,fun q m=>by have:=this.2 q m;simp at this;omega⟩
theorem Zk0{e:Ex}{p:PE}{lo hi:Pt}{plo phi:PPt}(x:E O N u e p)(y:Pe O lo plo)(z:Pe O hi phi): E O N false (Zby e lo hi) (Zec p plo phi):=fun c ρ σ H Φ t s h=>by
 obtain⟨v,X,F,a1,a2,a3,a4⟩:=ZjW x y z s h
 exact⟨v,X,F,a1,a2,a3,by simp⟩
noncomputable def Zdx(p:PE)(k:Nat): PE:=fun σ=>(p σ).bind fun t=>match t with
 | .lst ts=>Option.some (.lst (ts.drop k))
 | .tup ts=>if 1≤k∧k≤ts.length then Option.some (.tup (ts.drop k))else Option.none
 | _=>Option.none
theorem Zkd{c:Ctx}{ρ:Lc}{σ:TL}{H:Hp}{Φ:Nat→List Nat}{t:T}{e:Ex}{p:PE}{k:Nat}(x:E O N u e p)(s:St c O ρ σ H Φ)(h:Zdx p k σ=Option.some t):
  ∃v X F,Zbi e k ρ H=Option.some (v,H++X)∧RF (H++X) v t F∧(∀a∈F,From H N σ Φ a)∧(t.flatIn=true→F.Nodup∧∀a∈F,H.length≤a):=by
 obtain⟨t1,h1,h⟩:=Zz0.mp h
 obtain⟨v,X,F,a1,a2,a3,a4⟩:=x c ρ σ H Φ t1 s h1
 cases a2 with
 | none=>cases h
 | bool=>cases h
 | int=>cases h
 | str=>cases h
 | obj=>cases h
 | tup hs=>
  simp only at h
  split at h
  ·rename_i hc
   cases h
   obtain⟨G,g1,g2⟩:=hs.drop k
   refine⟨_,X,G,?_,.tup g1,fun a m=>a3 a (g2.subset m),fun hf=>?_⟩
   ·simp only[Zbi,a1,Zs0]
    rw[if_pos (by rw[hs.length];exact hc)]
   ·rw[g1.flats (by simpa [T.flatIn,T.flat]using hf)]
    simp
  ·cases h
 | @ref b vs1 ts1 F1 e1 hs=>
  cases h
  obtain⟨G,g1,g2⟩:=hs.drop k
  refine⟨.ref (H++X).length,X++[vs1.drop k],(H++X).length::G,?_,?_,fun a m=>?_,fun hf=>?_⟩
  ·simp only[Zbi,a1,Zs0,e1,List.append_assoc]
  ·rw[←List.append_assoc];exact ZdE g1
  ·rcases Zz7.mp m with rfl | m
   ·exact .inl (by simp)
   ·exact a3 a (Zz2 _ (g2.subset m))
  ·have:=ZeU g1 hf
   exact⟨this.1,fun q m=>by have:=this.2 q m;simp at this;omega⟩
theorem Zig{e:Ex}{p:PE}{k:Nat}(x:E O N u e p): E O [] true (Zbi e k) (pFl (Zdx p k)):=fun c ρ σ H Φ t s h=>by
 obtain⟨t',h,hf⟩:=Zz0.mp h
 by_cases fl:t'.flatIn=true
 ·rw[if_pos fl]at hf
  cases hf
  obtain⟨v,X,F,a1,a2,a3,a4⟩:=Zkd x s h
  exact⟨v,X,F,a1,a2,fun a m=>.inl ((a4 fl).2 a m),fun _=>(a4 fl).1⟩
 ·rw[if_neg fl]at hf;cases hf
end
noncomputable def Gs(O N:List Nat)(g:Src)(q:PG): Prop:=∀(c:Ctx) (ρ:Lc) (σ:TL) (H:Hp) (Φ:Nat→List Nat) (ts:List T),St c O ρ σ H Φ→q σ=some ts →
 ∃(nx:Nx) (X:Hp) (vs:List V) (F G:List Nat),g ρ H=some (nx,ts.length+1,H++X)∧RFs (H++X) vs ts F∧(∀a∈F,a∈G)∧(∀a∈G,a<(H++X).length∧From H N σ Φ a)∧∀K:Hp,(∀a∈G,K[a]?=(H++X)[a]?)→∀i,i≤vs.length→nx i K=some vs[i]?
section
variable {O N M:List Nat} {u u':Bool}
noncomputable def ZcL(p:PE): PG:=fun σ=>(p σ).bind fun t=>match t with
 | .lst ts=>some ts
 | .tup ts=>some ts
 | _=>none
theorem Gs.seq{e:Ex}{p:PE}(x:E O N u e p): Gs O N (Zal e) (ZcL p):=fun c ρ σ H Φ ts s h=>by
 obtain⟨t1,h1,h⟩:=Zz0.mp h
 obtain⟨v,X,F,a1,a2,a3,a4⟩:=x c ρ σ H Φ t1 s h1
 have hlt:=a2.lt
 cases a2 with
 | none=>cases h
 | bool=>cases h
 | int=>cases h
 | str=>cases h
 | obj=>cases h
 | @tup vs _ _ hs=>
  cases h
  exact⟨Zd9 vs,X,vs,F,F,by simp only[Zal,a1,Zs0,hs.length],hs,fun _ m=>m,fun a m=>⟨hlt a m,a3 a m⟩,fun K _ i hi=>rfl⟩
 | @ref b vs _ F' e1 hs=>
  cases h
  refine⟨ZbV b,X,vs,F',b::F',by simp only[Zal,a1,Zs0,e1,Zs1,hs.length],hs,fun _ m=>Zy3 _ m,fun a m=>⟨hlt a m,a3 a m⟩,fun K hK i hi=>?_⟩
  simp only[ZbV,hK b Zz5,e1,Zs1]
noncomputable def ZbO(a b c:Int): Option (List T):=if c≠0∧Builtin.Range.small a b c=true∧0≤Builtin.Range.rangeSize a b c∧rngN a b c≤ZX∧Builtin.divisionGoesByPylong (b-a) c=false then some ((List.range (rngN a b c)).map fun(i:Nat)=>.int (a+(i:Int)*c))else none
noncomputable def Zb3(p:PEs): PG:=fun σ=>(p σ).bind fun ts=>match ts with
 | [.int b]=>ZbO 0 b 1
 | [.int a,.int b]=>ZbO a b 1
 | [.int a,.int b,.int c]=>ZbO a b c
 | _=>none
theorem ZhX(H:Hp)(a c:Int): ∀(l:List Nat),RFs H (l.map fun(i:Nat)=>.int (a+(i:Int)*c)) (l.map fun(i:Nat)=>.int (a+(i:Int)*c)) []
 | []=>.nil
 | i::l=>by have:=RFs.cons (RF.int (H:=H) (a+i*c)) (ZhX H a c l);exact this
theorem Zgy{a b c:Int}{H:Hp}{ts:List T}(h:ZbO a b c=some ts): ∃(nx:Nx) (vs:List V),Zbn a b c H=some (nx,ts.length+1,H)∧RFs H vs ts []∧∀K:Hp,∀i,i≤vs.length→nx i K=some vs[i]?:=by
 unfold ZbO at h
 split at h
 ·rename_i hc
  cases h
  refine⟨Zbe a c (rngN a b c),(List.range (rngN a b c)).map fun(i:Nat)=>.int (a+(i:Int)*c),?_,ZhX H a c _,fun K i hi=>?_⟩
  ·unfold Zbn
   rw[if_pos hc]
   simp
  ·simp only[Zbe,List.getElem?_map]
   by_cases q:i<rngN a b c
   ·rw[if_pos q,List.getElem?_range q];rfl
   ·rw[if_neg q,Zy8 (by simpa using Nat.le_of_not_lt q)];rfl
 ·cases h
theorem RFs.three_inv{H:Hp}{vs:List V}{t t' t'':T}{F:List Nat}(r:RFs H vs [t,t',t''] F): ∃v v' v'' F1 F2 F3,vs=[v,v',v'']∧RF H v t F1∧RF H v' t' F2∧RF H v'' t'' F3:=by
 cases r with
 | cons a b=>obtain⟨v',v'',F2,F3,h1,h2,h3,_⟩:=b.two_inv;subst h1;exact⟨_,_,_,_,_,_,rfl,a,h2,h3⟩
theorem Gs.range{n:Nat}{e:ZW}{p:PEs}(x:Es O N u n e p): Gs O [] (ZaN e) (Zb3 p):=fun c ρ σ H Φ ts s h=>by
 obtain⟨t1,h1,h⟩:=Zz0.mp h
 obtain⟨_,vs,X,F,a1,a2,a3,a4⟩:=x c ρ σ H Φ t1 s h1
 split at h
 ·obtain⟨v,rfl,r⟩:=a2.one_inv
  cases r
  obtain⟨nx,us,q1,q2,q3⟩:=Zgy (H:=H++X) h
  exact⟨nx,X,us,[],[],by simp only[ZaN,a1,Zs0,q1],q2,by simp,by simp,fun K _=>q3 K⟩
 ·obtain⟨v,v',F1,F2,rfl,r,r',_⟩:=a2.two_inv
  cases r;cases r'
  obtain⟨nx,us,q1,q2,q3⟩:=Zgy (H:=H++X) h
  exact⟨nx,X,us,[],[],by simp only[ZaN,a1,Zs0,q1],q2,by simp,by simp,fun K _=>q3 K⟩
 ·obtain⟨v,v',v'',F1,F2,F3,rfl,r,r',r''⟩:=a2.three_inv
  cases r;cases r';cases r''
  obtain⟨nx,us,q1,q2,q3⟩:=Zgy (H:=H++X) h
  exact⟨nx,X,us,[],[],by simp only[ZaN,a1,Zs0,q1],q2,by simp,by simp,fun K _=>q3 K⟩
 ·cases h
end
noncomputable def PutOk(O J:List Nat)(put:V→Lc→Option Lc)(q:T→TL→Option TL): Prop:=∀(c:Ctx) (ρ:Lc) (σ:TL) (H:Hp) (Φ:Nat→List Nat) (v:V) (t:T) (F:List Nat) (σ1:TL),St c O ρ σ H Φ→RF H v t F→(∀a∈F,c.H0.length≤a∨c.P a)→(∀i∈O,∀t',σ i=some t'→∀a∈Φ i,a∉F)→q t σ=some σ1 →
 ∃ρ1 Φ1,put v ρ=some ρ1∧St c O ρ1 σ1 H Φ1∧(∀i,i∉J→σ1 i=σ i∧Φ1 i=Φ i)∧∀i∈J,∀a∈Φ1 i,a∈F
noncomputable def Zr(Φ:Nat→List Nat)(j:Nat)(F:List Nat): Nat→List Nat:=fun i=>if i=j then F else Φ i
theorem St.put{c:Ctx}{O:List Nat}{ρ:Lc}{σ:TL}{H:Hp}{Φ:Nat→List Nat}{v:V}{t:T}{F:List Nat}{j:Nat}(s:St c O ρ σ H Φ)(hj:j∉O)(r:RF H v t F)(hs:∀a∈F,c.H0.length≤a∨c.P a)(ho:∀i∈O,∀t',σ i=some t'→∀a∈Φ i,a∉F): St c O (upd ρ j v) (Zw σ j t) H (Zr Φ j F):=by
 refine⟨fun i u e=>?_,fun i u e=>?_,fun i hi u e=>?_,s.len,s.keep,s.pos,s.f0⟩
 ·by_cases q:i=j
  ·subst q
   simp[Zw]at e
   subst e
   exact⟨v,by simp[upd],by simpa [Zr]using r⟩
  ·simp[Zw,q]at e
   simpa [upd,Zr,q]using s.slot i u e
 ·by_cases q:i=j
  ·subst q;simpa [Zr]using hs
  ·simp[Zw,q]at e
   simpa [Zr,q]using s.src i u e
 ·have q:i≠j:=fun q=>hj (q▸hi)
  simp[Zw,q]at e
  obtain⟨h1,h2,h3⟩:=s.own i hi u e
  refine⟨by simpa [Zr,q]using h1,by simpa [Zr,q]using h2,fun k w hk ek=>?_⟩
  by_cases q2:k=j
  ·subst q2
   simpa [Zr,q]using ho i hi u e
  ·simp[Zw,q2]at ek
   simpa [Zr,q,q2]using h3 k w hk ek
noncomputable def ZaE(j:Nat): T→TL→Option TL:=fun t σ=>some (Zw σ j t)
theorem PutOk.one{O:List Nat}{j:Nat}(hj:j∉O:=by decide): PutOk O [j] (ZH j) (ZaE j):=fun c ρ σ H Φ v t F σ1 s r hs ho h=>by
 cases h
 refine⟨_,_,rfl,s.put hj r hs ho,fun i hi=>?_,fun i hi a m=>?_⟩
 ·have:i≠j:=fun q=>hi (by simp[q])
  simp[Zw,Zr,this]
 ·simp at hi;subst hi;simpa [Zr]using m
noncomputable def Zcp(put:T→TL→Option TL)(c:PB)(f:PE)(σ:TL): List T→Option (List T)
 | []=>some []
 | t::ts=>(put t σ).bind fun σ1=>(c σ1).bind fun b=>if b then(f σ1).bind fun x=>(Zcp put c f σ ts).map fun xs=>x::xs else Zcp put c f σ ts
noncomputable def Zce(g:PG)(put:T→TL→Option TL)(c:PB)(f:PE): PE:=fun σ=>(g σ).bind fun ts=>if ts.length≤ZX then(Zcp put c f σ ts).map .lst else none
section
variable {O Ns Ne J:List Nat} {u:Bool}
theorem comp_core{put:V→Lc→Option Lc}{pput:T→TL→Option TL}{tc:Ts}{pc:PB}{f:Ex}{pf:PE}(hj:PutOk O J put pput)(hN:∀i∈Ns,i∉O)(hc:Bt O tc pc)(hf:E O Ne u f pf)(hu:u=true→Ne=[])
  {c:Ctx} {ρ:Lc} {σ:TL} {Φ:Nat→List Nat} {H0 H1:Hp} {nx:Nx} {vs:List V} {G:List Nat} (h0:H0.length≤H1.length)
  (hG:∀a∈G,a<H1.length∧From H0 Ns σ Φ a) (hoff:∀a∈G,∀i∈O,∀t,σ i=some t→a∉Φ i) (hsrc:∀a∈G,c.H0.length≤a∨c.P a) (hnx:∀K:Hp,(∀a∈G,K[a]?=H1[a]?)→∀i,i≤vs.length→nx i K=some vs[i]?):
  ∀(rs:List T) (ws:List V) (i:Nat) (acc:List V) (K:Hp) (Fr:List Nat) (out:List T),(∀j,vs[i+j]?=ws[j]?)→i+ws.length=vs.length→St c O ρ σ K Φ→H1.length≤K.length→(∀a∈G,K[a]?=H1[a]?)→RFs K ws rs Fr→(∀a∈Fr,a∈G)→acc.length+rs.length≤ZX→Zcp pput pc pf σ rs=some out →
   ∃xs X F,Za5 nx put tc f ρ (rs.length+1) i acc K=some (acc++xs,K++X)∧RFs (K++X) xs out F∧(∀a∈F,(u=true→K.length≤a)∧From H0 (Ns++Ne) σ Φ a)∧(u=true→F.Nodup)
 | [],ws,i,acc,K,Fr,out,hat,hlen,s,hl,hk,r,hfr,hacc,h=>by
  cases r
  cases h
  have e:=hnx K hk i (by simp at hlen;omega)
  have e2:vs[i]?=none:=by have:=hat 0;simpa using this
  refine⟨[],[],[],?_,.nil,by simp,by simp⟩
  simp[Za5,e,e2]
 | t::rs,ws0,i,acc,K,Fr0,out,hat,hlen,s,hl,hk,r,hfr,hacc,h=>by
  cases r with
  | @cons v _ F1 ws _ F2 a b=>
  simp only[List.length_cons]at hlen hacc
  obtain⟨σ1,h1,h⟩:=Zz0.mp h
  obtain⟨bb,h2,h⟩:=Zz0.mp h
  have e:=hnx K hk i (by omega)
  have e2:vs[i]?=some v:=by have:=hat 0;simpa using this
  have hat':∀j,vs[i+1+j]?=ws[j]?:=fun j=>by have:=hat (j+1);rw[show i+1+j=i+(j+1)by omega,this];simp
  obtain⟨ρ1,Φ1,p1,s1,p3,p4⟩:=hj c ρ σ K Φ v t F1 σ1 s a (fun x m=>hsrc x (hfr x (Zz4 _ m))) (fun k hk t' e x m q=>hoff x (hfr x (Zz4 _ q)) k hk t' e m) h1
  obtain⟨X1,c1⟩:=hc c ρ1 σ1 K Φ1 bb s1 h2
  cases bb with
  | true=>
   obtain⟨y,h3,h⟩:=Zz0.mp h
   obtain⟨ys,h4,h⟩:=Zz1.mp h
   subst h
   obtain⟨w,X2,Fw,d1,d2,d3,d4⟩:=hf c ρ1 σ1 (K++X1) Φ1 y (s1.ext X1) h3
   have hext:∀a∈G,(K++X1++X2)[a]?=H1[a]?:=fun a m=>by
    have:=(hG a m).1
    rw[List.append_assoc,Zy0 (by omega)];exact hk a m
   obtain⟨xs,X3,F3,f1,f2,f3,f4⟩:=comp_core hj hN hc hf hu h0 hG hoff hsrc hnx rs ws (i+1) (acc++[w]) (K++X1++X2) F2 ys hat' (by omega) ((s.ext X1).ext X2) (by simp;omega) hext (by rw[List.append_assoc];exact b.ext _) (fun x m=>hfr x (Zz3 _ m)) (by simp;omega) h4
   refine⟨w::xs,X1++X2++X3,Fw++F3,?_,?_,fun x m=>?_,fun hu'=>?_⟩
   ·rw[List.length_cons,Za5,e,e2]
    simp only[Zs0,p1,c1,d1,if_true]
    rw[if_pos (by omega)]
    simpa using f1
   ·have:=RFs.cons (d2.ext X3) f2
    simpa using this
   ·rcases Zz8.mp m with m | m
    ·refine⟨fun hu'=>?_,?_⟩
     ·have hne:=hu hu'
      subst hne
      have:=(d3 x m).nil
      simp at this;omega
     ·rcases d3 x m with q | ⟨k,hk1,⟨tk,ek⟩,mk⟩
      ·exact .inl (by simp at q;omega)
      ·by_cases hkJ:k∈J
       ·exact(hG x (hfr x (Zz4 _ (p4 k hkJ x mk)))).2.mono fun i hi=>Zy7 _ hi
       ·obtain⟨q1,q2⟩:=p3 k hkJ
        exact .inr ⟨k,List.mem_append_right _ hk1,⟨tk,q1▸ek⟩,q2▸mk⟩
    ·obtain⟨g1,g2⟩:=f3 x m
     exact⟨fun hu'=>by have:=g1 hu';simp at this;omega,g2⟩
   ·rw[List.nodup_append]
    refine⟨d4 hu',f4 hu',fun x hx y hy e=>?_⟩
    have l1:=d2.lt x hx
    have l2:=(f3 y hy).1 hu'
    omega
  | false=>
   have hext:∀a∈G,(K++X1)[a]?=H1[a]?:=fun a m=>by
    have:=(hG a m).1
    rw[Zy0 (by omega)];exact hk a m
   obtain⟨xs,X3,F3,f1,f2,f3,f4⟩:=comp_core hj hN hc hf hu h0 hG hoff hsrc hnx rs ws (i+1) acc (K++X1) F2 out hat' (by omega) (s.ext X1) (by simp;omega) hext (b.ext _) (fun x m=>hfr x (Zz3 _ m)) (by omega) (by simpa using h)
   refine⟨xs,X1++X3,F3,?_,by simpa using f2,fun x m=>?_,f4⟩
   ·rw[List.length_cons,Za5,e,e2]
    simp only[Zs0,p1,c1]
    simpa using f1
   ·obtain⟨g1,g2⟩:=f3 x m
    exact⟨fun hu'=>by have:=g1 hu';simp at this;omega,g2⟩
theorem E.comp{g:Src}{q:PG}{put:V→Lc→Option Lc}{pput:T→TL→Option TL}{tc:Ts}{pc:PB}{f:Ex}{pf:PE}(hg:Gs O Ns g q)(hj:PutOk O J put pput)(hN:∀i∈Ns,i∉O)(hc:Bt O tc pc)(hf:E O Ne u f pf)(hu:u=true→Ne=[]): E O (if u then []else Ns++Ne) u (ZaS g put tc f) (Zce q pput pc pf):=fun c ρ σ H Φ t s h=>by
 obtain⟨ts,h1,h⟩:=Zz0.mp h
 split at h
 ·rename_i hl
  obtain⟨out,h2,h⟩:=Zz1.mp h
  subst h
  obtain⟨nx,X,vs,F,G,g1,g2,g3,g4,g5⟩:=hg c ρ σ H Φ ts s h1
  obtain⟨xs,Y,F',d1,d2,d3,d4⟩:=comp_core hj hN hc hf hu (H0:=H) (H1:=H++X) (by simp) g4 (fun a m i hi t e=>s.from_off hN (g4 a m).2 hi e) (fun a m=>s.from_src (g4 a m).2) g5 ts vs 0 [] (H++X) F out (by simp) (by simp) (s.ext X) (Zz10 _) (fun _ _=>rfl) g2 g3 (by simpa using hl) h2
  refine⟨.ref (H++X++Y).length,X++Y++[xs],(H++X++Y).length::F',?_,?_,fun a m=>?_,fun hu'=>?_⟩
  ·simp only[ZaS,g1,Zs0,d1,Zs1,List.nil_append,List.append_assoc]
  ·have:=ZdE d2
   simpa using this
  ·rcases Zz7.mp m with rfl | m
   ·exact .inl (by simp)
   ·obtain⟨q1,q2⟩:=d3 a m
    cases u with
    | true=>exact .inl (by have:=q1 rfl;simp at this;omega)
    | false=>exact q2
  ·rw[List.nodup_cons]
   exact⟨fun m=>Nat.lt_irrefl _ (d2.lt _ m),d4 hu'⟩
 ·cases h
end
end TM
end
section
namespace TM
open PySem PM
noncomputable abbrev PS:=TL→Option (Option T×TL)
noncomputable def Zbr(σ:TL)(N:List Nat): TL:=fun j=>if j∈N then none else σ j
noncomputable def Held(O:List Nat)(σ:TL)(Φ:Nat→List Nat)(a:Nat): Prop:=∃j∈O,(∃t,σ j=some t)∧a∈Φ j
noncomputable def Aft(c:Ctx)(O O' R:List Nat)(fr:Bool)(σ:TL)(H:Hp)(Φ:Nat→List Nat)(g:Option (Option V×Lc×Hp))(r:Option T×TL): Prop:=
 ∃ρ' H' Φ',H.length≤H'.length∧(∀a,a<H.length→¬Held O σ Φ a→H'[a]?=H[a]?) ∧
  ((r.1=none∧g=some (none,ρ',H')∧St c O' ρ' r.2 H' Φ'∧∀a,Held O' r.2 Φ' a→H.length≤a∨Held O σ Φ a) ∨
  ∃t v F,r.1=some t∧g=some (some v,ρ',H')∧RF H' v t F∧St c R ρ' r.2 H' Φ'∧(∀a∈F,c.H0.length≤a∨c.P a)∧(fr=true→F.Nodup∧∀a∈F,c.H0.length≤a∨a∈c.F0))
noncomputable def S(O O' R:List Nat)(fr:Bool)(g:Sm)(q:PS): Prop:=∀(c:Ctx) (ρ:Lc) (σ:TL) (H:Hp) (Φ:Nat→List Nat) (r:Option T×TL),St c O ρ σ H Φ→q σ=some r→Aft c O O' R fr σ H Φ (g ρ H) r
theorem Held.mono{O O':List Nat}{σ:TL}{Φ:Nat→List Nat}{a:Nat}(h:Held O σ Φ a)(s:∀i∈O,i∈O'): Held O' σ Φ a:=by
 obtain⟨j,hj,q⟩:=h;exact⟨j,s j hj,q⟩
theorem Held.lt{c:Ctx}{O O':List Nat}{ρ:Lc}{σ:TL}{H:Hp}{Φ:Nat→List Nat}{a:Nat}(s:St c O ρ σ H Φ)(h:Held O' σ Φ a): a<H.length:=by
 obtain⟨j,hj,⟨t,e⟩,m⟩:=h
 obtain⟨v,_,r⟩:=s.slot j t e
 exact r.lt a m
section
variable {O O' R:List Nat} {fr:Bool}
noncomputable def Zaj: PS:=fun σ=>some (none,σ)
theorem ZgM: S O O R fr ZN Zaj:=fun c ρ σ H Φ r s e=>by
 cases e
 exact⟨ρ,H,Φ,Nat.le_refl _,fun _ _ _=>rfl,.inl ⟨rfl,rfl,s,fun a m=>.inr m⟩⟩
noncomputable def Zx(a b:PS): PS:=fun σ=>(a σ).bind fun r=>match r.1 with
 | some _=>some r
 | none=>b r.2
theorem ZcZ{O1:List Nat}{a b:Sm}{p q:PS}(x:S O O1 R fr a p)(y:S O1 O' R fr b q): S O O' R fr (Zs a b) (Zx p q):=fun c ρ σ H Φ r s e=>by
 obtain⟨r1,e1,e⟩:=Zz0.mp e
 obtain⟨ρ1,H1,Φ1,h1,h2,h3⟩:=x c ρ σ H Φ r1 s e1
 rcases h3 with⟨k1,k2,k3,k4⟩ | ⟨t,v,F,k1,k2,k3⟩
 ·rw[k1]at e
  obtain⟨ρ2,H2,Φ2,g1,g2,g3⟩:=y c ρ1 r1.2 H1 Φ1 r k3 e
  refine⟨ρ2,H2,Φ2,Nat.le_trans h1 g1,fun a ha hn=>?_,?_⟩
  ·rw[g2 a (by omega) fun q=>(k4 a q).elim (fun q=>by omega) hn,h2 a ha hn]
  ·have eg:Zs a b ρ H=b ρ1 H1:=by simp only[Zs,k2,Zs0]
   rw[eg]
   rcases g3 with⟨l1,l2,l3,l4⟩ | l
   ·refine .inl ⟨l1,l2,l3,fun a m=>?_⟩
    rcases l4 a m with q | q
    ·exact .inl (by omega)
    ·exact k4 a q
   ·exact .inr l
 ·rw[k1]at e
  cases e
  exact⟨ρ1,H1,Φ1,h1,h2,.inr ⟨t,v,F,k1,by simp only[Zs,k2,Zs0],k3⟩⟩
noncomputable def ZcM(p:PE): PS:=fun σ=>(p σ).map fun t=>(some t,σ)
theorem Zoo{N:List Nat}{u:Bool}{e:Ex}{p:PE}(x:E O N u e p)(hR:∀i∈R,i∈O:=by decide): S O O' R false (ZQ e) (ZcM p):=fun c ρ σ H Φ r s q=>by
 obtain⟨t,h1,h⟩:=Zz1.mp q
 subst h
 obtain⟨v,X,F,a1,a2,a3,a4⟩:=x c ρ σ H Φ t s h1
 refine⟨ρ,H++X,Φ,by simp,fun a ha _=>Zy0 ha,.inr ⟨t,v,F,rfl,by simp only[ZQ,a1,Zs1],a2,(s.ext X).less hR,fun a m=>s.from_src (a3 a m),by simp⟩⟩
theorem Ze9{N:List Nat}{e:Ex}{p:PE}(x:E O N true e p)(hN:∀i∈N,i∈O:=by decide)(hR:∀i∈R,i∈O:=by decide): S O O' R fr (ZQ e) (ZcM p):=fun c ρ σ H Φ r s q=>by
 obtain⟨t,h1,h⟩:=Zz1.mp q
 subst h
 obtain⟨v,X,F,a1,a2,a3,a4⟩:=x c ρ σ H Φ t s h1
 refine⟨ρ,H++X,Φ,by simp,fun a ha _=>Zy0 ha,.inr ⟨t,v,F,rfl,by simp only[ZQ,a1,Zs1],a2,(s.ext X).less hR,fun a m=>s.from_src (a3 a m),fun _=>⟨a4 rfl,fun a m=>?_⟩⟩⟩
 rcases a3 a m with q | ⟨i,hi,⟨t',e'⟩,m'⟩
 ·exact .inl (Nat.le_trans s.len q)
 ·exact(s.own i (hN i hi) t' e').2.1 a m'
noncomputable def Zb0(i:Nat)(p:PE): PS:=fun σ=>(p σ).map fun t=>(none,Zw σ i t)
theorem ZgV{N:List Nat}{u:Bool}{i:Nat}{e:Ex}{p:PE}(x:E O N u e p)(hi:i∉O':=by decide)(hN:∀j∈N,j∉O':=by decide)(hO:∀j∈O',j∈O:=by decide): S O O' R fr (Zy i e) (Zb0 i p):=fun c ρ σ H Φ r s q=>by
 obtain⟨t,h1,h⟩:=Zz1.mp q
 subst h
 obtain⟨v,X,F,a1,a2,a3,a4⟩:=x c ρ σ H Φ t s h1
 have s':=s.less hO
 refine⟨upd ρ i v,H++X,Zr Φ i F,by simp,fun a ha _=>Zy0 ha,.inl ⟨rfl,by simp only[Zy,a1,Zs1],(s'.ext X).put hi a2 (fun a m=>s.from_src (a3 a m)) (fun k hk t' e' a m q=>?_),fun a m=>?_⟩⟩
 ·exact s'.from_off hN (a3 a q) hk e' m
 ·obtain⟨k,hk,⟨t',e'⟩,m⟩:=m
  have:k≠i:=fun q=>hi (q▸hk)
  simp[Zw,this]at e'
  simp[Zr,this]at m
  exact .inr ⟨k,hO k hk,⟨t',e'⟩,m⟩
theorem ZlO{i:Nat}{e:Ex}{p:PE}(x:E O [] true e p)(hO:∀j∈O',j∈O∨j=i:=by decide): S O O' R fr (Zy i e) (Zb0 i p):=fun c ρ σ H Φ r s q=>by
 obtain⟨t,h1,h⟩:=Zz1.mp q
 subst h
 obtain⟨v,X,F,a1,a2,a3,a4⟩:=x c ρ σ H Φ t s h1
 have hnew:∀a∈F,H.length≤a:=fun a m=>(a3 a m).nil
 have hold:∀k t',σ k=some t'→∀a∈Φ k,a<H.length:=fun k t' e a m=>by
  obtain⟨_,_,r⟩:=s.slot k t' e
  exact r.lt a m
 refine⟨upd ρ i v,H++X,Zr Φ i F,by simp,fun a ha _=>Zy0 ha,.inl ⟨rfl,by simp only[Zy,a1,Zs1],⟨fun k t' e'=>?_,fun k t' e'=>?_,fun k hk t' e'=>?_,(s.ext X).len,(s.ext X).keep,s.pos,s.f0⟩,fun a m=>?_⟩⟩
 ·by_cases q:k=i
  ·subst q
   simp[Zw]at e'
   subst e'
   exact⟨v,by simp[upd],by simpa [Zr]using a2⟩
  ·simp[Zw,q]at e'
   simpa [upd,Zr,q]using (s.ext X).slot k t' e'
 ·by_cases q:k=i
  ·subst q;simpa [Zr]using fun a m=>s.from_src (a3 a m)
  ·simp[Zw,q]at e'
   simpa [Zr,q]using s.src k t' e'
 ·by_cases q:k=i
  ·subst q
   simp only[Zr,if_true]
   refine⟨a4 rfl,fun a m=>.inl (Nat.le_trans s.len (hnew a m)),fun j w hj ej a m q=>?_⟩
   simp[Zw,hj]at ej
   rw[if_neg hj]at q
   have:=hold j w ej a q
   have:=hnew a m
   omega
  ·have hk':=(hO k hk).resolve_right q
   simp[Zw,q]at e'
   obtain⟨o1,o2,o3⟩:=s.own k hk' t' e'
   refine⟨by simpa [Zr,q]using o1,by simpa [Zr,q]using o2,fun j w hj ej a m=>?_⟩
   simp[Zr,q]at m
   by_cases q2:j=i
   ·subst q2
    simp only[Zr,if_true]
    intro m2
    have:=hold k t' e' a m
    have:=hnew a m2
    omega
   ·simp[Zw,q2]at ej
    simpa [Zr,q2]using o3 j w hj ej a m
 ·obtain⟨k,hk,⟨t',e'⟩,m⟩:=m
  by_cases q:k=i
  ·subst q
   simp[Zr]at m
   exact .inl (hnew a m)
  ·simp[Zw,q]at e'
   simp[Zr,q]at m
   exact .inr ⟨k,(hO k hk).resolve_right q,⟨t',e'⟩,m⟩
noncomputable def qIf(b:PB)(p q:PS): PS:=fun σ=>(b σ).bind fun x=>if x then p σ else q σ
theorem Aft.grow{c:Ctx}{σ:TL}{H X:Hp}{Φ:Nat→List Nat}{g:Option (Option V×Lc×Hp)}{r:Option T×TL}(h:Aft c O O' R fr σ (H++X) Φ g r): Aft c O O' R fr σ H Φ g r:=by
 obtain⟨ρ',H',Φ',h1,h2,h3⟩:=h
 rw[List.length_append]at h1
 refine⟨ρ',H',Φ',by omega,fun a ha hn=>?_,?_⟩
 ·rw[h2 a (by rw[List.length_append];omega) hn,Zy0 ha]
 ·rcases h3 with⟨k1,k2,k3,k4⟩ | k
  ·exact .inl ⟨k1,k2,k3,fun a m=>(k4 a m).imp (fun q=>by rw[List.length_append]at q;omega) id⟩
  ·exact .inr k
theorem ZgW{t:Ts}{pb:PB}{a b:Sm}{p q:PS}(z:Bt O t pb)(x:S O O' R fr a p)(y:S O O' R fr b q): S O O' R fr (ZB t a b) (qIf pb p q):=fun c ρ σ H Φ r s e=>by
 obtain⟨bb,e1,e⟩:=Zz0.mp e
 obtain⟨X,h1⟩:=z c ρ σ H Φ bb s e1
 cases bb with
 | true=>
  have:=x c ρ σ (H++X) Φ r (s.ext X) (by simpa using e)
  have eg:ZB t a b ρ H=a ρ (H++X):=by simp[ZB,h1]
  rw[eg]
  exact this.grow
 | false=>
  have:=y c ρ σ (H++X) Φ r (s.ext X) (by simpa using e)
  have eg:ZB t a b ρ H=b ρ (H++X):=by simp[ZB,h1]
  rw[eg]
  exact this.grow
noncomputable def sNo: Sm:=fun _ _=>none
noncomputable def follow(H:Hp): List Int→V→Option V
 | [],v=>some v
 | k::ks,v=>(Zh v (.int k) H).bind fun q=>follow H ks q.1
theorem Lead.follow{H:Hp}{ks:List Int}{v:V}{a:Nat}(l:Lead H ks v a): follow H ks v=some (.ref a):=by
 induction l with
 | nil=>rfl
 | ref h1 h2 h3 _ ih=>simp only[TM.follow,Zh,h1,Zs0,h2,h3,Zs1,ih]
 | tup h2 h3 _ ih=>simp only[TM.follow,Zh,Zs0,h2,h3,Zs1,ih]
theorem ZdX{H:Hp}{v w z:V}{K:Hp}(h:Zh v z H=some (w,K))(X:Hp): K=H∧Zh v z (H++X)=some (w,H++X):=by
 unfold Zh at h
 split at h
 ·obtain⟨vs,e1,h⟩:=Zz0.mp h
  obtain⟨j,e2,h⟩:=Zz0.mp h
  obtain⟨x,e3,h⟩:=Zz1.mp h
  cases h
  exact⟨rfl,by simp only[Zh,Zy0 (Zz6.mp e1).1,e1,Zs0,e2,e3,Zs1]⟩
 ·obtain⟨j,e2,h⟩:=Zz0.mp h
  obtain⟨x,e3,h⟩:=Zz1.mp h
  cases h
  exact⟨rfl,by simp only[Zh,Zs0,e2,e3,Zs1]⟩
 ·cases h
noncomputable abbrev PPa:=TL→Option (List Int)
noncomputable def ZaT: PPa:=fun _=>some []
noncomputable def Pa(O:List Nat)(x:Nat)(e:Ex)(p:PPa): Prop:=∀(c:Ctx) (ρ:Lc) (σ:TL) (H:Hp) (Φ:Nat→List Nat) (ks:List Int) (v w:V),St c O ρ σ H Φ→p σ=some ks→ρ x=some v→follow H ks v=some w→∃X,e ρ H=some (w,H++X)
theorem ZgN{x:Nat}: Pa O x (eVar x) ZaT:=fun c ρ σ H Φ ks v w s h e f=>by
 cases h;cases f
 exact⟨[],by simp[eVar,e]⟩
theorem ZlP{c:Ctx}{ρ:Lc}{σ:TL}{H:Hp}{Φ:Nat→List Nat}{N:List Nat}{x a b:Nat}{t t':T}{v:V}{Fw F':List Nat}{vs':List V}(s:St c O ρ σ H Φ)(hx:x∈O)(ex:σ x=some t)(ev:ρ x=some v)(hb:c.H0.length≤b)(hlow:∀k t,σ k=some t→∀a∈Φ k,a<b)
  (hFw:∀a∈Fw,b≤a∨∃j∈N,(∃t,σ j=some t)∧a∈Φ j) (hN:∀j∈N,j∈O∧j≠x) (ha:a∈Φ x) (r:RF (H.set a vs') v t' F') (nd:F'.Nodup) (sub:∀y∈F',y∈Φ x∨y∈Fw) (hO:∀j∈O',j∈O∧j∉N):
  St c O' ρ (Zbr (Zw σ x t') N) (H.set a vs') (Zr Φ x F')∧(∀y,Held O' (Zbr (Zw σ x t') N) (Zr Φ x F') y→b≤y∨Held O σ Φ y):=by
 obtain⟨o1,o2,o3⟩:=s.own x hx t ex
 have old:∀k u,k≠x→Zbr (Zw σ x t') N k=some u→σ k=some u∧k∉N:=fun k u hk e=>by
  unfold Zbr at e
  split at e
  ·cases e
  ·rename_i hn
   simp[Zw,hk]at e
   exact⟨e,hn⟩
 have self:∀u,Zbr (Zw σ x t') N x=some u→u=t':=fun u e=>by
  unfold Zbr at e
  split at e
  ·cases e
  ·simp[Zw]at e;exact e.symm
 have foff:∀y∈F',∀k u,k≠x→σ k=some u→k∉N→y∉Φ k:=fun y hy k u hk e hkn m=>by
  rcases sub y hy with q | q
  ·exact o3 k u hk e y q m
  ·rcases hFw y q with q | ⟨j,hj,⟨tj,ej⟩,mj⟩
   ·have:=hlow k u e y m;omega
   ·exact(s.own j (hN j hj).1 tj ej).2.2 k u (fun q=>hkn (q▸hj)) e y mj m
 refine⟨⟨fun k u e=>?_,fun k u e=>?_,fun k hk u e=>?_,by simpa using s.len,fun y hy hn=>?_,s.pos,s.f0⟩,fun y hy=>?_⟩
 ·by_cases q:k=x
  ·subst q
   have:=self u e
   subst this
   exact⟨v,ev,by simpa [Zr]using r⟩
  ·obtain⟨e1,e2⟩:=old k u q e
   obtain⟨w,h1,h2⟩:=s.slot k u e1
   refine⟨w,h1,?_⟩
   simp only[Zr,q,if_false]
   refine h2.frame fun y hy=>Zy2 fun q'=>?_
   exact o3 k u q e1 a ha (q'▸hy)
 ·by_cases q:k=x
  ·subst q
   simp only[Zr,if_true]
   intro y hy
   rcases sub y hy with q | q
   ·exact s.src k t ex y q
   ·rcases hFw y q with q | ⟨j,hj,⟨tj,ej⟩,mj⟩
    ·exact .inl (by omega)
    ·exact s.src j tj ej y mj
  ·obtain⟨e1,e2⟩:=old k u q e
   simpa [Zr,q]using s.src k u e1
 ·by_cases q:k=x
  ·subst q
   simp only[Zr,if_true]
   refine⟨nd,fun y hy=>?_,fun j w hj ej y hy=>?_⟩
   ·rcases sub y hy with q | q
    ·exact o2 y q
    ·rcases hFw y q with q | ⟨j,hj,⟨tj,ej⟩,mj⟩
     ·exact .inl (by omega)
     ·exact(s.own j (hN j hj).1 tj ej).2.1 y mj
   ·obtain⟨e1,e2⟩:=old j w hj ej
    simpa [hj]using foff y hy j w hj e1 e2
  ·obtain⟨e1,e2⟩:=old k u q e
   obtain⟨p1,p2,p3⟩:=s.own k (hO k hk).1 u e1
   simp only[Zr,q,if_false]
   refine⟨p1,p2,fun j w hj ej y hy=>?_⟩
   by_cases q2:j=x
   ·subst q2
    simp only[if_true]
    exact fun m=>foff y m k u q e1 e2 hy
   ·obtain⟨f1,f2⟩:=old j w q2 ej
    simpa [q2]using p3 j w hj f1 y hy
 ·have:a≠y:=fun q=>by
   subst q
   rcases o2 a ha with q | q
   ·omega
   ·exact hn q
  rw[Zy2 this]
  exact s.keep y hy hn
 ·obtain⟨k,hk,⟨u,e⟩,m⟩:=hy
  by_cases q:k=x
  ·subst q
   simp only[Zr,if_true]at m
   rcases sub y m with q | q
   ·exact .inr ⟨k,hx,⟨t,ex⟩,q⟩
   ·rcases hFw y q with q | ⟨j,hj,q⟩
    ·exact .inl q
    ·exact .inr ⟨j,(hN j hj).1,q⟩
  ·obtain⟨e1,e2⟩:=old k u q e
   simp only[Zr,q,if_false]at m
   exact .inr ⟨k,(hO k hk).1,⟨u,e1⟩,m⟩
theorem Zk1{c:Ctx}{ρ:Lc}{σ:TL}{H:Hp}{Φ:Nat→List Nat}{x a:Nat}{t:T}(s:St c O ρ σ H Φ)(hx:x∈O)(ex:σ x=some t)(ha:a∈Φ x): a≠0:=by
 have:=s.pos
 rcases(s.own x hx t ex).2.1 a ha with q | q
 ·omega
 ·exact fun e=>s.f0 (e▸q)
noncomputable def Zcs(w:T)(ts:List T): Option (List T):=if ts.length<ZX then some (ts++[w])else none
noncomputable def Zg0(k:Int)(w:T)(ts:List T): Option (List T):=if 0≤k∧k<ts.length then some (ts.set k.toNat w)else none
noncomputable def Zct(x:Nat)(N:List Nat)(po:PPa)(p:PE): PS:=fun σ=>(po σ).bind fun ks=>(p σ).bind fun w=>(σ x).bind fun t=>(ZdD (Zcs w) ks t).map fun t'=>(none,Zbr (Zw σ x t') N)
theorem Zgd{H:Hp}(X:Hp): ∀{ks:List Int} {v w:V},follow H ks v=some w→follow (H++X) ks v=some w
 | [],_,_,h=>h
 | k::ks,v,w,h=>by
  obtain⟨⟨w1,K⟩,h1,h2⟩:=Zz0.mp h
  simp only[follow,(ZdX h1 X).2,Zs0]
  exact Zgd X h2
theorem S.app{x:Nat}{N:List Nat}{o e:Ex}{po:PPa}{p:PE}(hx:x∈O)(y:Pa O x o po)(z:E O N true e p)(hN:∀j∈N,j∈O∧j≠x)(hO:∀j∈O',j∈O∧j∉N): S O O' R fr (ZL (Zbm o e)) (Zct x N po p):=fun c ρ σ H Φ r s q=>by
 obtain⟨ks,h1,q⟩:=Zz0.mp q
 obtain⟨w,h2,q⟩:=Zz0.mp q
 obtain⟨t,h3,q⟩:=Zz0.mp q
 obtain⟨t',h4,q⟩:=Zz1.mp q
 subst q
 obtain⟨v,ev,rv⟩:=s.slot x t h3
 have hlow:∀k t,σ k=some t→∀a∈Φ k,a<H.length:=fun k t e a m=>by
  obtain⟨_,_,r⟩:=s.slot k t e
  exact r.lt a m
 obtain⟨o1,o2,o3⟩:=s.own x hx t h3
 obtain⟨a,vs0,ts0,ts0',G0,l0,_⟩:=Ze5 (Gn:=[]) ks rv o1 (by simp) h4
 obtain⟨X,a1⟩:=y c ρ σ H Φ ks v (.ref a) s h1 ev l0.follow
 obtain⟨vw,Y,Fw,b1,b2,b3,b4⟩:=z c ρ σ (H++X) Φ w (s.ext X) h2
 have s2:=(s.ext X).ext Y
 have rv2:RF (H++X++Y) v t (Φ x):=(rv.ext X).ext Y
 have hFw:∀a∈Fw,H.length≤a∨∃j∈N,(∃t,σ j=some t)∧a∈Φ j:=fun a m=>(b3 a m).back
 have dsj:∀a∈Fw,a∉Φ x:=fun a m q=>by
  rcases hFw a m with h | ⟨j,hj,⟨tj,ej⟩,mj⟩
  ·have:=hlow x t h3 a q;omega
  ·exact o3 j tj (hN j hj).2 ej a q mj
 obtain⟨a',vs,ts,ts',G,l,am,ea,hs,hf,gn,na,gs,go⟩:=Ze5 (Gn:=Fw) ks rv2 o1 dsj h4
 have haa:a'=a:=by
  have f2:=Zgd Y (Zgd X l0.follow)
  rw[l.follow]at f2
  cases f2
  rfl
 subst haa
 unfold Zcs at hf
 split at hf
 ·rename_i hl
  cases hf
  obtain⟨F',r',n',sub'⟩:=go (vs++[vw]) (G++Fw) (hs.snoc b2) (by
   rw[List.nodup_append]
   exact⟨gn,b4 rfl,fun y hy z hz e=>dsj z hz (e▸gs y hy)⟩) (fun m=>(Zz8.mp m).elim na fun m=>dsj _ m am) (fun y m=>List.mem_append.mp m)
  obtain⟨st,com⟩:=ZlP (O':=O') (b:=H.length) s2 hx h3 ev s.len hlow hFw hN am r' n' sub' hO
  refine⟨ρ,(H++X++Y).set a' (vs++[vw]),Zr Φ x F',by simp,fun y hy hn=>?_,.inl ⟨rfl,?_,st,com⟩⟩
  ·have:a'≠y:=fun q=>hn ⟨x,hx,⟨t,h3⟩,q▸am⟩
   rw[Zy2 this,List.append_assoc,Zy0 hy]
  ·simp only[ZL,Zbm,a1,Zs0,b1,ZcU,ea]
   rw[if_pos ⟨Zk1 s hx h3 am,by rw[hs.length];exact hl⟩]
   rfl
 ·cases hf
noncomputable def ZbP(put:T→TL→Option TL)(b:PS): TL→List T→Option (Option T×TL)
 | σ,[]=>some (none,σ)
 | σ,t::ts=>(put t σ).bind fun σ1=>(b σ1).bind fun r=>match r.1 with
  | some _=>some r
  | none=>ZbP put b r.2 ts
noncomputable def Zch(g:PG)(put:T→TL→Option TL)(b:PS): PS:=fun σ=>(g σ).bind fun ts=>ZbP put b σ ts
theorem ZhY{J:List Nat}{put:V→Lc→Option Lc}{pput:T→TL→Option TL}{b:Sm}{qb:PS}(hj:PutOk O J put pput)(hJ:∀i∈J,i∉O)(hb:S O O R fr b qb){c:Ctx}{nx:Nx}{vs:List V}{G:List Nat}{H1:Hp}(hG:∀a∈G,a<H1.length)(hsrc:∀a∈G,c.H0.length≤a∨c.P a)(hnx:∀K:Hp,(∀a∈G,K[a]?=H1[a]?)→∀i,i≤vs.length→nx i K=some vs[i]?):
  ∀(rs:List T) (ws:List V) (i:Nat) (ρ:Lc) (σ:TL) (K:Hp) (Φ:Nat→List Nat) (Fr:List Nat) (r:Option T×TL),(∀j,vs[i+j]?=ws[j]?)→i+ws.length=vs.length→St c O ρ σ K Φ→H1.length≤K.length→(∀a∈G,K[a]?=H1[a]?)→(∀a∈G,¬Held O σ Φ a)→RFs K ws rs Fr→(∀a∈Fr,a∈G)→ZbP pput qb σ rs=some r →
   Aft c O O R fr σ K Φ (ZaR nx put b (rs.length+1) i ρ K) r
 | [],ws,i,ρ,σ,K,Φ,Fr,r,hat,hlen,s,hl,hk,hoff,rr,hfr,h=>by
  cases rr
  cases h
  have e:=hnx K hk i (by simp at hlen;omega)
  have e2:vs[i]?=none:=by have:=hat 0;simpa using this
  exact⟨ρ,K,Φ,Nat.le_refl _,fun _ _ _=>rfl,.inl ⟨rfl,by simp[ZaR,e,e2],s,fun a m=>.inr m⟩⟩
 | t::rs,ws0,i,ρ,σ,K,Φ,Fr0,r,hat,hlen,s,hl,hk,hoff,rr,hfr,h=>by
  cases rr with
  | @cons v _ F1 ws _ F2 a b'=>
  simp only[List.length_cons]at hlen
  obtain⟨σ1,h1,h⟩:=Zz0.mp h
  obtain⟨r1,h2,h⟩:=Zz0.mp h
  have e:=hnx K hk i (by omega)
  have e2:vs[i]?=some v:=by have:=hat 0;simpa using this
  have hat':∀j,vs[i+1+j]?=ws[j]?:=fun j=>by have:=hat (j+1);rw[show i+1+j=i+(j+1)by omega,this];simp
  obtain⟨ρ1,Φ1,p1,s1,p3,p4⟩:=hj c ρ σ K Φ v t F1 σ1 s a (fun x m=>hsrc x (hfr x (Zz4 _ m))) (fun k hk t' e x m q=>hoff x (hfr x (Zz4 _ q)) ⟨k,hk,⟨t',e⟩,m⟩) h1
  have hh:∀x,Held O σ1 Φ1 x→Held O σ Φ x:=fun x ⟨k,hk,⟨t',e⟩,m⟩=>by
   obtain⟨q1,q2⟩:=p3 k fun q=>hJ k q hk
   exact⟨k,hk,⟨t',q1▸e⟩,q2▸m⟩
  obtain⟨ρ2,K2,Φ2,g1,g2,g3⟩:=hb c ρ1 σ1 K Φ1 r1 s1 h2
  have estep:ZaR nx put b ((t::rs).length+1) i ρ K=(b ρ1 K).bind fun q=>match q.1 with
    | some _=>some q
    | none=>ZaR nx put b (rs.length+1) (i+1) q.2.1 q.2.2:=by
   rw[List.length_cons]
   show(nx i K).bind _=_
   rw[e,e2]
   first | (simp only[Zs0,p1];done) | (simp only[Zs0,p1];rfl)
  rcases g3 with⟨k1,k2,k3,k4⟩ | ⟨t',v',F',k1,k2,k3⟩
  ·rw[k1]at h
   have hG2:∀a∈G,K2[a]?=K[a]?:=fun x m=>g2 x (by have:=hG x m;omega) fun q=>hoff x m (hh x q)
   have hoff2:∀a∈G,¬Held O r1.2 Φ2 a:=fun x m q=>by
    rcases k4 x q with q | q
    ·have:=hG x m;omega
    ·exact hoff x m (hh x q)
   have ih:=ZhY hj hJ hb hG hsrc hnx rs ws (i+1) ρ2 r1.2 K2 Φ2 F2 r hat' (by omega) k3 (by omega) (fun x m=>(hG2 x m).trans (hk x m)) hoff2 (b'.frame fun x m=>hG2 x (hfr x (Zz3 _ m))) (fun x m=>hfr x (Zz3 _ m)) h
   rw[estep,k2]
   simp only[Zs0]
   obtain⟨ρ3,K3,Φ3,l1,l2,l3⟩:=ih
   refine⟨ρ3,K3,Φ3,by omega,fun x hx hn=>?_,?_⟩
   ·rw[l2 x (by omega) fun q=>(k4 x q).elim (fun q=>by omega) fun q=>hn (hh x q),g2 x hx fun q=>hn (hh x q)]
   ·rcases l3 with⟨m1,m2,m3,m4⟩ | l
    ·refine .inl ⟨m1,m2,m3,fun x q=>?_⟩
     rcases m4 x q with q | q
     ·exact .inl (by omega)
     ·exact(k4 x q).imp id (hh x)
    ·exact .inr l
  ·rw[k1]at h
   cases h
   refine⟨ρ2,K2,Φ2,g1,fun x hx hn=>g2 x hx fun q=>hn (hh x q),.inr ⟨t',v',F',k1,?_,k3⟩⟩
   rw[estep,k2]
   rfl
theorem ZmP{J Ns:List Nat}{g:Src}{q:PG}{put:V→Lc→Option Lc}{pput:T→TL→Option TL}{b:Sm}{qb:PS}(hg:Gs O Ns g q)(hj:PutOk O J put pput)(hJ:∀i∈J,i∉O)(hN:∀i∈Ns,i∉O)(hb:S O O R fr b qb): S O O R fr (ZaA g put b) (Zch q pput qb):=fun c ρ σ H Φ r s h=>by
 obtain⟨ts,h1,h⟩:=Zz0.mp h
 obtain⟨nx,X,vs,F,G,g1,g2,g3,g4,g5⟩:=hg c ρ σ H Φ ts s h1
 have:=ZhY hj hJ hb (H1:=H++X) (fun a m=>(g4 a m).1) (fun a m=>s.from_src (g4 a m).2) g5 ts vs 0 ρ σ (H++X) Φ F r (by simp) (by simp) (s.ext X) (Zz10 _) (fun _ _=>rfl) (fun a m ⟨k,hk,⟨t,e⟩,q⟩=>s.from_off hN (g4 a m).2 hk e q) g2 g3 h
 have eg:ZaA g put b ρ H=ZaR nx put b (ts.length+1) 0 ρ (H++X):=by simp only[ZaA,g1,Zs0]
 rw[eg]
 exact this.grow
noncomputable def ZlQ(t:PB)(b:PS): Nat→PS
 | 0=>fun _=>none
 | n+1=>fun σ=>(t σ).bind fun p=>if p then(b σ).bind fun q=>(match q.1 with
   | some _=>some q
   | none=>ZlQ t b n q.2)else some (none,σ)
end
noncomputable def Zcu(n:Nat)(q:PS): List T→Option T:=fun ts=>if ts.length=n then(q fun i=>ts[i]?).map fun r=>r.1.getD .none else none
theorem RFs.slots{H:Hp}: ∀{vs:List V} {ts:List T} {F:List Nat},RFs H vs ts F→∃Φ:Nat→List Nat,∀i t,ts[i]?=some t→∃v,vs[i]?=some v∧RF H v t (Φ i)∧∀a∈Φ i,a∈F
 | _,_,_,.nil=>⟨fun _=>[],fun i t e=>by simp at e⟩
 | _,_,_,.cons (F:=F1) a b=>by
  obtain⟨Φ,h⟩:=b.slots
  refine⟨fun i=>match i with | 0=>F1 | i+1=>Φ i,fun i t e=>?_⟩
  cases i with
  | zero=>simp at e;subst e;exact⟨_,by simp,a,fun x m=>Zy7 _ m⟩
  | succ i=>
   simp at e
   obtain⟨v,h1,h2,h3⟩:=h i t e
   exact⟨v,by simpa using h1,h2,fun x m=>List.mem_append_right _ (h3 x m)⟩
theorem Zge{H H':Hp}(hl:H.length≤H'.length)(h:∀a,a<H.length→H'[a]?=H[a]?): H'=H++H'.drop H.length:=by
 conv=>lhs;rw[←List.take_append_drop H.length H']
 congr 1
 refine List.ext_getElem? fun i=>?_
 by_cases q:i<H.length
 ·rw[List.getElem?_take_of_lt q,h i q]
 ·rw[Zy8 (by simp;omega),Zy8 (by omega)]
theorem SimF.of{O':List Nat}{fr:Bool}{n:Nat}{g:Sm}{q:PS}(h:S [] O' [] fr g q): SimF fr (Z3 n g) (Zcu n q):=fun H vs ts t F1 hp r e=>by
 unfold Zcu at e
 split at e
 ·rename_i hl
  obtain⟨r1,e1,e2⟩:=Zz1.mp e
  obtain⟨Φ,hΦ⟩:=r.slots
  have st:St ⟨H,[],fun a=>a∈F1⟩ [] (fun i=>vs[i]?) (fun i=>ts[i]?) H Φ:=
   ⟨(fun i t e=>by obtain⟨v,h1,h2,_⟩:=hΦ i t e;exact⟨v,h1,h2⟩),fun i t e a m=>(by obtain⟨v,h1,h2,h3⟩:=hΦ i t e;exact .inr (h3 a m)),(fun i hi=>nomatch hi),Nat.le_refl _,fun a _ _=>rfl,hp,by simp⟩
  obtain⟨ρ',H',Φ',h1,h2,h3⟩:=h _ _ _ _ _ _ st e1
  rcases h3 with⟨k1,k2,k3,k4⟩ | ⟨t',v',F',k1,k2,k3,k4,k5,k6⟩
  ·have eh:=Zge k3.len fun a ha=>k3.keep a ha (by simp)
   refine⟨.none,H'.drop H.length,[],?_,?_,by simp,by simp⟩
   ·have hv:vs.length=n:=r.length.trans hl
    simp only[Z3,hv,if_true,k2,Zs1,Option.getD_none]
    rw[←eh]
   ·rw[k1]at e2
    subst e2
    exact .none
  ·have eh:=Zge k4.len fun a ha=>k4.keep a ha (by simp)
   refine⟨v',H'.drop H.length,F',?_,?_,k5,fun hf=>⟨(k6 hf).1,fun a m=>((k6 hf).2 a m).elim id fun q=>by cases q⟩⟩
   ·have hv:vs.length=n:=r.length.trans hl
    simp only[Z3,hv,if_true,k2,Zs1,Option.getD_some]
    rw[←eh]
   ·rw[k1]at e2
    subst e2
    rw[←eh]
    exact k3
 ·cases e
theorem Zke{f:List V→Hp→Option (V×Hp)}{p:List T→Option T}{fr:Bool}(h:SimF fr f p)(ns:List Int)(e:p [.lst (ns.map T.int)]=some (.bool true)): ∃H',f [.ref 0] [ns.map V.int]=some (.bool true,H'):=by
 have intsAre:∀l:List Int,RFs [ns.map V.int] (l.map V.int) (l.map T.int) []:=fun l=>by
  induction l with
  | nil=>exact .nil
  | cons a l ih=>exact .cons (.int a) ih
 obtain⟨v,X,F,h1,h2,_⟩:=h [ns.map V.int] [.ref 0] [.lst (ns.map T.int)] _ _ (by simp) (.one (.ref rfl (intsAre ns))) e
 cases h2
 exact⟨_,h1⟩
end TM
end
section
namespace TM
open PySem PM
section
variable {O Ns Ne J:List Nat}
theorem Zk2{u:Bool}{g:Src}{q:PG}{put:V→Lc→Option Lc}{pput:T→TL→Option TL}{tc:Ts}{pc:PB}{f:Ex}{pf:PE}(hg:Gs O Ns g q)(hj:PutOk O J put pput)(hN:∀i∈Ns,i∉O)(hc:Bt O tc pc)(hf:E O Ne u f pf): E O (Ns++Ne) false (ZaS g put tc f) (Zce q pput pc pf):=
 E.comp hg hj hN hc hf.sh (by simp)
theorem Zih{g:Src}{q:PG}{put:V→Lc→Option Lc}{pput:T→TL→Option TL}{tc:Ts}{pc:PB}{f:Ex}{pf:PE}(hg:Gs O Ns g q)(hj:PutOk O J put pput)(hN:∀i∈Ns,i∉O)(hc:Bt O tc pc)(hf:E O [] true f pf): E O [] true (ZaS g put tc f) (Zce q pput pc pf):=
 E.comp hg hj hN hc hf (by simp)
end
end TM
end
section
/-! Forward reckoning over trees. -/
namespace TM
open PySem PM
noncomputable def dec(P:Prop): Bool:=@decide P (Classical.propDecidable P)
theorem dec_iff{P:Prop}: dec P=true↔P:=by unfold dec;exact @decide_eq_true_iff P (Classical.propDecidable P)
theorem Zi7{P:Prop}(h:P): dec P=true:=dec_iff.mpr h
theorem ZgX{P:Prop}(h:¬P): dec P=false:=by
 cases e:dec P with
 | true=>exact absurd (dec_iff.mp e) h
 | false=>rfl
theorem ZiI{P:Prop}{b:Bool}(h:b=true↔P): dec P=b:=by
 cases b with
 | true=>exact Zi7 (h.mp rfl)
 | false=>exact ZgX fun p=>by simpa using h.mpr p
noncomputable def tab{α:Type}(n:Nat)(f:Nat→α): List α:=(List.range n).map f
theorem Zcn{α:Type}{n:Nat}{f:Nat→α}: (tab n f).length=n:=by simp[tab]
theorem ZiJ{α:Type}{n:Nat}{f:Nat→α}{i:Nat}(h:i<n): (tab n f)[i]?=some (f i):=by simp[tab,h]
noncomputable def cn{α:Type}(a:α)(f:Nat→α): Nat→α
 | 0=>a
 | i+1=>f i
noncomputable def Pk(c:Option T)(Q:T→Prop): Prop:=∃t,c=some t∧Q t
noncomputable def Pl(c:Option (List T))(Q:List T→Prop): Prop:=∃t,c=some t∧Q t
noncomputable def Pb(c:Option Bool)(Q:Bool→Prop): Prop:=∃t,c=some t∧Q t
noncomputable def Psk(c:Option (Option T×TL))(R:T→Prop)(N:TL→Prop): Prop:=∃o σ,c=some (o,σ)∧(∀t,o=some t→R t)∧(o=none→N σ)
theorem Pk.eq{c:Option T}{t:T}(h:Pk c fun v=>v=t): c=some t:=by obtain⟨v,e,rfl⟩:=h;exact e
section
variable {σ:TL} {Q:T→Prop} {L:List T→Prop} {B:Bool→Prop} {R:T→Prop} {N:TL→Prop}
theorem ZlR{k:Int}(h:Q (.int k)): Pk (Zm k σ) Q:=⟨_,rfl,h⟩
theorem ZlS(h:Q .none): Pk (Zfs σ) Q:=⟨_,rfl,h⟩
theorem Zk3{k:Bool}(h:Q (.bool k)): Pk (Zdt k σ) Q:=⟨_,rfl,h⟩
theorem ZlT{k:Str}(h:Q (.str k)): Pk (ZR k σ) Q:=⟨_,rfl,h⟩
theorem ZiK{i:Nat}{t:T}(e:σ i=some t)(h:Q t): Pk (Zc i σ) Q:=⟨_,e,h⟩
theorem ZlU{q:T→T→Option T}{f g:PE}(h:Pk (f σ) fun x=>Pk (g σ) fun y=>Pk (q x y) Q): Pk (Zl q f g σ) Q:=by
 obtain⟨x,a,y,b,z,c,k⟩:=h
 exact⟨z,by simp only[Zl,a,b,Zs0,c],k⟩
theorem ZmQ{q:T→Option T}{f:PE}(h:Pk (f σ) fun x=>Pk (q x) Q): Pk (pUn q f σ) Q:=by
 obtain⟨x,a,z,c,k⟩:=h
 exact⟨z,by simp only[pUn,a,Zs0,c],k⟩
theorem Zk4{q:List T→Option T}{f:PEs}(h:Pl (f σ) fun x=>Pk (q x) Q): Pk (Zak q f σ) Q:=by
 obtain⟨x,a,z,c,k⟩:=h
 exact⟨z,by simp only[Zak,a,Zs0,c],k⟩
theorem ZlV(h:L []): Pl (Zq σ) L:=⟨_,rfl,h⟩
theorem Zk5{f:PE}{g:PEs}(h:Pk (f σ) fun x=>Pl (g σ) fun xs=>L (x::xs)): Pl (Zd f g σ) L:=by
 obtain⟨x,a,y,b,k⟩:=h
 exact⟨_,by simp only[Zd,a,b,Zs0],k⟩
theorem ZlW{g:PEs}(h:Pl (g σ) fun xs=>Q (.tup xs)): Pk (Zbt g σ) Q:=by
 obtain⟨x,a,k⟩:=h;exact⟨_,by simp only[Zbt,a,Zs1],k⟩
theorem Zk6{g:PEs}(h:Pl (g σ) fun xs=>Q (.lst xs)): Pk (Zat g σ) Q:=by
 obtain⟨x,a,k⟩:=h;exact⟨_,by simp only[Zat,a,Zs1],k⟩
theorem Zk7{f:PE}(h:Pk (f σ) fun t=>t.flat=true∧Q t): Pk (ZaZ f σ) Q:=by
 obtain⟨x,a,b,k⟩:=h;exact⟨_,by simp only[ZaZ,a,Zs0,b,if_true],k⟩
theorem ZmR{f:PE}(h:Pk (f σ) fun t=>t.flatIn=true∧Q t): Pk (pFl f σ) Q:=by
 obtain⟨x,a,b,k⟩:=h;exact⟨_,by simp only[pFl,a,Zs0,b,if_true],k⟩
theorem ZmS{f g:PE}(h:Pk (f σ) fun x=>Pb (ZcE x) fun b=>(b=true→Q x)∧(b=false→Pk (g σ) Q)): Pk (pOr f g σ) Q:=by
 obtain⟨x,a,b,e,h1,h2⟩:=h
 cases b with
 | false=>obtain⟨t,c,q⟩:=h2 rfl;exact⟨t,by simp[pOr,a,e,c],q⟩
 | true=>exact⟨x,by simp[pOr,a,e],h1 rfl⟩
theorem ZmT{K:String}{f:PE}(h:Pk (f σ) fun x=>isObT x=false∧Q (.bool (Ze0 K x))): Pk (pIs K f σ) Q:=by
 obtain⟨x,a,ob,q⟩:=h;exact⟨_,by simp[pIs,a,ob],q⟩
theorem ZlX{f:PE}(h:Pk (f σ) fun x=>Pb (ZcE x) B): Pb (Zac f σ) B:=by
 obtain⟨x,a,b,e,q⟩:=h;exact⟨_,by simp only[Zac,a,Zs0,e],q⟩
theorem Zk8{f:PB}(h:Pb (f σ) fun b=>B (!b)): Pb (Zet f σ) B:=by
 obtain⟨x,a,q⟩:=h;exact⟨_,by simp only[Zet,a,Zs1],q⟩
theorem Zk9(h:B true): Pb (ZbK σ) B:=⟨_,rfl,h⟩
theorem ZkD(h:B false): Pb (Zeb σ) B:=⟨_,rfl,h⟩
theorem Zla{f g:PB}(h:Pb (f σ) fun b=>(b=true→Pb (g σ) B)∧(b=false→B false)): Pb (ZbD f g σ) B:=by
 obtain⟨x,a,h1,h2⟩:=h
 cases x with
 | true=>obtain⟨t,c,q⟩:=h1 rfl;exact⟨t,by simp[ZbD,a,c],q⟩
 | false=>exact⟨_,by simp[ZbD,a],h2 rfl⟩
theorem ZlY{f g:PB}(h:Pb (f σ) fun b=>(b=true→B true)∧(b=false→Pb (g σ) B)): Pb (bOr f g σ) B:=by
 obtain⟨x,a,h1,h2⟩:=h
 cases x with
 | false=>obtain⟨t,c,q⟩:=h2 rfl;exact⟨t,by simp[bOr,a,c],q⟩
 | true=>exact⟨_,by simp[bOr,a],h1 rfl⟩
theorem ZjX{b:Bool}(h:B b): Pb (ZcE (.bool b)) B:=⟨_,rfl,h⟩
theorem Zlb(h:N σ): Psk (Zaj σ) R N:=⟨_,_,rfl,by simp,fun _=>h⟩
theorem ZlZ{f:PE}(h:Pk (f σ) R): Psk (ZcM f σ) R N:=by
 obtain⟨x,a,q⟩:=h;exact⟨some x,σ,by simp only[ZcM,a,Zs1],fun t e=>by cases e;exact q,by simp⟩
theorem Zl0{i:Nat}{f:PE}(h:Pk (f σ) fun t=>N (Zw σ i t)): Psk (Zb0 i f σ) R N:=by
 obtain⟨x,a,q⟩:=h;exact⟨none,Zw σ i x,by simp only[Zb0,a,Zs1],by simp,fun _=>q⟩
theorem Zl1{a b:PS}(h:Psk (a σ) R fun σ1=>Psk (b σ1) R N): Psk (Zx a b σ) R N:=by
 obtain⟨o,σ1,e,h1,h2⟩:=h
 cases o with
 | some t=>exact⟨some t,σ1,by simp only[Zx,e,Zs0],h1,by simp⟩
 | none=>
  obtain⟨o2,σ2,e2,k1,k2⟩:=h2 rfl
  exact⟨o2,σ2,by simp only[Zx,e,Zs0,e2],k1,k2⟩
theorem Zl2{b:PB}{f g:PS}(h:Pb (b σ) fun x=>(x=true→Psk (f σ) R N)∧(x=false→Psk (g σ) R N)): Psk (qIf b f g σ) R N:=by
 obtain⟨x,a,h1,h2⟩:=h
 cases x with
 | true=>obtain⟨o,s,c,q⟩:=h1 rfl;exact⟨o,s,by simp[qIf,a,c],q⟩
 | false=>obtain⟨o,s,c,q⟩:=h2 rfl;exact⟨o,s,by simp[qIf,a,c],q⟩
theorem Zl3{n:Nat}{q:PS}{ts:List T}(hn:ts.length=n)(h:Psk (q fun i=>ts[i]?) Q fun _=>Q .none): Pk (Zcu n q ts) Q:=by
 obtain⟨o,s,e,h1,h2⟩:=h
 cases o with
 | some t=>exact⟨t,by simp only[Zcu,hn,if_true,e,Zs1,Option.getD_some],h1 t rfl⟩
 | none=>exact⟨.none,by simp only[Zcu,hn,if_true,e,Zs1,Option.getD_none],h2 rfl⟩
theorem Zl4{b:Bool}{A C:Prop}(h:b=true)(k:A): (b=true→A)∧(b=false→C):=⟨fun _=>k,fun e=>(by rw[h]at e;cases e)⟩
theorem Zl5{b:Bool}{A C:Prop}(h:b=false)(k:C): (b=true→A)∧(b=false→C):=⟨fun e=>(by rw[h]at e;cases e),fun _=>k⟩
theorem Zl6{a b:Int}(h:Q (.int (a+b))): Pk (Zay (.int a) (.int b)) Q:=⟨_,rfl,h⟩
theorem Zl7{a b:Int}(h:Q (.int (a-b))): Pk (Zbu (.int a) (.int b)) Q:=⟨_,rfl,h⟩
theorem Zl8{a:Int}(h:Q (.int (-a))): Pk (ZcK (.int a)) Q:=⟨_,rfl,h⟩
theorem ZmU{a b:Int}(h:Q (.bool (decide (b<a)))): Pk (qGt (.int a) (.int b)) Q:=⟨_,rfl,h⟩
theorem Zl9{a b:Int}(hb:b≠0)(h:Q (.int (a.fmod b))): Pk (Zbd (.int a) (.int b)) Q:=⟨_,by simp only[Zbd];rw[if_pos hb],h⟩
theorem Zma{a b:Int}(hb:b≠0)(hd:Builtin.divisionGoesByPylong a b=false)(h:Q (.int (a.fdiv b))): Pk (Zb7 (.int a) (.int b)) Q:=⟨_,by simp only[Zb7];rw[if_pos ⟨hb,hd⟩],h⟩
theorem ZgO{a b:Int}(hm:Zb4 a b=true)(h:Q (.int (a*b))): Pk (ZbZ (.int a) (.int b)) Q:=⟨_,by simp only[ZbZ];rw[if_pos hm],h⟩
theorem Zmb{a:Int}(h:Q (.int (if a<0 then -a else a))): Pk (Zeu [.int a]) Q:=⟨_,rfl,h⟩
theorem Zmc{a b:Int}(h:Q (.int (if b>a then b else a))): Pk (Zfj [.int a,.int b]) Q:=⟨_,rfl,h⟩
theorem Zmd{a b:Int}(h:Q (.int (if b<a then b else a))): Pk (Zel [.int a,.int b]) Q:=⟨_,rfl,h⟩
theorem Zlc(a b:Int): Zcg (.int a) (.int b)=some (decide (a=b)):=by
 simp[Zcg,Zbk,SeqAt.shaped,PyData.canLay0,PyData.depth,PyData.eqv]
 by_cases h:a=b <;> simp[h]
theorem ZmV{a b:Int}(h:Q (.bool (decide (a=b)))): Pk (qEq (.int a) (.int b)) Q:=⟨_,by simp only[qEq,Zlc,Zs1],h⟩
theorem Zme{ts:List T}(h:Q (.int ts.length)): Pk (ZbE [.lst ts]) Q:=⟨_,rfl,h⟩
theorem Zi8{k:Int}{n:Nat}(h0:0≤k)(h1:k<n): seqIndex? k n=some k.toNat:=by
 unfold seqIndex?
 have:¬k<0:=by omega
 simp[this]
 omega
theorem Zar{ts:List T}{k:Int}{t:T}(h0:0≤k)(e:ts[k.toNat]?=some t)(h:Q t): Pk (ZT (.lst ts) (.int k)) Q:=⟨_,by
 simp only[ZT]
 rw[Zi8 h0 (by have:=(Zz6.mp e).1;omega)]
 exact e,h⟩
theorem Zld{ts:List T}{k:Int}{t:T}(h0:0≤k)(e:ts[k.toNat]?=some t)(h:Q t): Pk (ZT (.tup ts) (.int k)) Q:=⟨_,by
 simp only[ZT]
 rw[Zi8 h0 (by have:=(Zz6.mp e).1;omega)]
 exact e,h⟩
theorem Zle{ts:List T}(h:Q (.tup ts)): Pk (Ze1 [.lst ts]) Q:=⟨_,rfl,h⟩
noncomputable def SqP(x:T)(L:List T→Prop): Prop:=∃ts,(x=.lst ts∨x=.tup ts)∧L ts
theorem Zlf{f:PE}(h:Pk (f σ) fun t=>SqP t L): Pl (ZcL f σ) L:=by
 obtain⟨t,a,ts,rfl | rfl,q⟩:=h <;> exact⟨_,by simp only[ZcL,a,Zs0],q⟩
theorem Sq.tup{ts:List T}(h:L ts): SqP (.tup ts) L:=⟨ts,.inr rfl,h⟩
theorem ZiL{a b c:Int}{H:Hp}{z:Nx×Nat×Hp}(h:Zbn a b c H=some z): ZbO a b c=some ((List.range (rngN a b c)).map fun(i:Nat)=>.int (a+(i:Int)*c)):=by
 unfold Zbn at h
 split at h
 ·rename_i hc
  unfold ZbO
  rw[if_pos hc]
 ·cases h
theorem ZhZ{n:Nat}(hn:n≤1000): ZbO 0 n 1=some (tab n fun i=>.int i):=by
 rw[ZiL (ZiC (H:=[]) (b:=n) (by omega) (by omega))]
 have e:rngN 0 n 1=n:=by
  unfold rngN Builtin.Range.rangeSize
  by_cases q:(0:Int)<n
  ·rw[if_pos (by decide),if_pos (by omega)];omega
  ·rw[if_pos (by decide),if_neg (by omega)];omega
 rw[e]
 simp[tab]
theorem Zlg{a n:Nat}(ha:0<n)(hn:a+n≤1000): ZbO a (a+n) 1=some (tab n fun i=>.int (a+i)):=by
 rw[ZiL (ZlM (H:=[]) (a:=a) (b:=a+n) (c:=1) (by omega) (by omega) (by omega) (by omega) (by omega))]
 have e:rngN a (a+n) 1=n:=by
  unfold rngN
  rw[Zi5 (by omega) (by omega)]
  omega
 rw[e]
 simp[tab]
theorem Zii{g:PEs}{b:Int}{o:Option (List T)}(e:g σ=some [.int b])(h:ZbO 0 b 1=o): Zb3 g σ=o:=by
 subst h;unfold Zb3;rw[e];rfl
theorem Zlh{g:PEs}{a b:Int}{o:Option (List T)}(e:g σ=some [.int a,.int b])(h:ZbO a b 1=o): Zb3 g σ=o:=by
 subst h;unfold Zb3;rw[e];rfl
noncomputable def RnP(xs:List T)(L:List T→Prop): Prop:=(∃n:Nat,xs=[.int n]∧n≤1000∧L (tab n fun i=>.int i))∨∃(a:Nat) (n:Nat),xs=[.int a,.int (a+n)]∧0<n∧a+n≤1000∧L (tab n fun i=>.int (a+i))
theorem ZkE{g:PEs}(h:Pl (g σ) fun xs=>RnP xs L): Pl (Zb3 g σ) L:=by
 obtain⟨xs,e,h⟩:=h
 rcases h with⟨n,h0,h1,q⟩ | ⟨a,n,h0,h1,h2,q⟩
 ·subst h0;exact⟨_,Zii e (ZhZ h1),q⟩
 ·subst h0;exact⟨_,Zlh e (Zlg h1 h2),q⟩
theorem Rn.one{n:Nat}(hn:n≤1000)(h:L (tab n fun i=>.int i)): RnP [.int n] L:=.inl ⟨n,rfl,hn,h⟩
theorem ZhI{j:Nat}{f:PE}{h:T→T}: ∀{ts:List T},(∀t∈ts,f (Zw σ j t)=some (h t))→Zcp (ZaE j) ZbK f σ ts=some (ts.map h)
 | [],_=>rfl
 | t::ts,k=>by
  simp only[Zcp,ZaE,ZbK,Zs0,if_true,k t Zz5,ZhI fun t m=>k t (Zz2 _ m),Zs1,List.map_cons]
theorem ZiM{put:T→TL→Option TL}{b:PS}: ∀{ts:List T} (P:Nat→TL→Prop) {σ:TL},P 0 σ→(∀(i:Nat) t σ,ts[i]?=some t→P i σ→∃σ1,put t σ=some σ1∧Psk (b σ1) R (P (i+1)))→(∀σ,P ts.length σ→N σ)→Psk (ZbP put b σ ts) R N
 | [],P,σ,h0,_,h2=>⟨_,_,rfl,by simp,fun _=>h2 _ h0⟩
 | t::ts,P,σ,h0,h1,h2=>by
  obtain⟨σ1,e1,o,σ2,e2,k1,k2⟩:=h1 0 t σ (by simp) h0
  cases o with
  | some v=>exact⟨some v,σ2,by simp only[ZbP,e1,Zs0,e2],k1,by simp⟩
  | none=>
   obtain⟨o3,σ3,e3,l1,l2⟩:=ZiM (ts:=ts) (fun i=>P (i+1)) (k2 rfl) (fun i t' σ' h3 h4=>h1 (i+1) t' σ' (by simpa using h3) h4) (fun σ' h=>h2 σ' (by simpa using h))
   exact⟨o3,σ3,by simp only[ZbP,e1,Zs0,e2,e3],l1,l2⟩
theorem Zli{g:PG}{j:Nat}{ts:List T}{b:PS}(hg:Pl (g σ) fun us=>us=ts)(P:Nat→TL→Prop)(h0:P 0 σ)(h1:∀(i:Nat) t σ,ts[i]?=some t→P i σ→Psk (b (Zw σ j t)) R (P (i+1)))(h2:∀σ,P ts.length σ→N σ): Psk (Zch g (ZaE j) b σ) R N:=by
 obtain⟨us,e,rfl⟩:=hg
 obtain⟨o,s,e2,q⟩:=ZiM (R:=R) (N:=N) (put:=ZaE j) (b:=b) (ts:=us) P h0 (fun i t σ' h3 h4=>⟨_,rfl,h1 i t σ' h3 h4⟩) h2
 exact⟨o,s,by simp only[Zch,e,Zs0,e2],q⟩
theorem Zkf: Zbr σ []=σ:=by funext i;simp[Zbr]
noncomputable def AppP(σ:TL)(x:Nat)(w:T)(N:TL→Prop): Prop:=∃ts,σ x=some (.lst ts)∧ts.length<10000∧N (Zw σ x (.lst (ts++[w])))
theorem Zmf{x:Nat}{f:PE}(h:Pk (f σ) fun w=>AppP σ x w N): Psk (Zct x [] ZaT f σ) R N:=by
 obtain⟨w,e,ts,h1,h2,q⟩:=h
 refine⟨none,_,?_,by simp,fun _=>q⟩
 simp only[Zct,ZaT,Zs0,e,h1,ZdD,Zcs]
 rw[if_pos (by rw[Zav];omega)]
 simp only[Zs1,Zkf]
theorem Zij{i j:Nat}{t:T}{o:Option T}(h:j≠i)(e:σ j=o): Zw σ i t j=o:=by simp[Zw,h,e]
theorem Zh0{j:Nat}{J:List Nat}{o:Option T}(h:j∉J)(e:σ j=o): Zbr σ J j=o:=by simp[Zbr,h,e]
end
end TM
end
section
namespace TM
open PySem PM
inductive Pln: Nat→T→Prop where
 | none {n:Nat}:Pln n .none
 | int {n:Nat} {i:Int}:Pln n (.int i)
 | str {n:Nat} {x:Str}:PyData.strOk x=true→Pln n (.str x)
 | tup {n:Nat} {ts:List T}:(∀t∈ts,Pln n t)→Pln (n+1) (.tup ts)
 | lst {n:Nat} {ts:List T}:(∀t∈ts,Pln n t)→Pln (n+1) (.lst ts)
mutual
noncomputable def dd: T→PyData
 | .none=>.none
 | .bool b=>.bool b
 | .int i=>.int i
 | .str x=>.str x
 | .tup ts=>.tuple (dds ts)
 | .lst ts=>.list (dds ts)
 | .ob _ _=>.none
noncomputable def dds: List T→List PyData
 | []=>[]
 | t::ts=>dd t::dds ts
end
theorem Zd1{f:T→Option PyData}: ∀{ts:List T},(∀t∈ts,f t=some (dd t))→ZcY f ts=some (dds ts)
 | [],_=>rfl
 | t::ts,h=>by simp only[ZcY,h t Zz5,Zd1 fun t m=>h t (Zz2 _ m),Zs0,dds]
theorem Zd5: ∀{ts:List T},(∀t∈ts,PyData.canLay0 (dd t)=true)→PyData.canLayAll0 (dds ts)=true
 | [],_=>rfl
 | t::ts,h=>by simp only[dds,PyData.canLayAll0,h t Zz5,Zd5 fun t m=>h t (Zz2 _ m),Bool.and_self]
theorem Zd6{n:Nat}: ∀{ts:List T},(∀t∈ts,PyData.depth (dd t)≤n)→PyData.depthAll (dds ts)≤n
 | [],_=>by simp[dds,PyData.depthAll]
 | t::ts,h=>by
  have h1:=h t Zz5
  have h2:=Zd6 fun t m=>h t (Zz2 _ m)
  simp only[dds,PyData.depthAll]
  omega
theorem Pln.dat{n:Nat}{t:T}(h:Pln n t): Zbk n t=some (dd t)∧PyData.canLay0 (dd t)=true∧PyData.depth (dd t)≤n:=by
 induction h with
 | @none n=>cases n <;> exact⟨rfl,rfl,by simp[dd,PyData.depth]⟩
 | @int n i=>cases n <;> exact⟨rfl,rfl,by simp[dd,PyData.depth]⟩
 | @str n x h=>cases n <;> exact⟨rfl,by simpa [dd,PyData.canLay0]using h,by simp[dd,PyData.depth]⟩
 | @tup n ts _ ih=>
  refine⟨?_,?_,?_⟩
  ·simp only[Zbk,Zd1 fun t m=>(ih t m).1,Zs1,dd]
  ·simp only[dd,PyData.canLay0];exact Zd5 fun t m=>(ih t m).2.1
  ·simp only[dd,PyData.depth]
   have:=Zd6 fun t m=>(ih t m).2.2
   omega
 | @lst n ts _ ih=>
  refine⟨?_,?_,?_⟩
  ·simp only[Zbk,Zd1 fun t m=>(ih t m).1,Zs1,dd]
  ·simp only[dd,PyData.canLay0];exact Zd5 fun t m=>(ih t m).2.1
  ·simp only[dd,PyData.depth]
   have:=Zd6 fun t m=>(ih t m).2.2
   omega
theorem ZgG: ∀{ts us:List T},(∀t∈ts,∀u∈us,(PyData.eqv (dd t) (dd u)=true↔t=u))→(PyData.eqvAll (dds ts) (dds us)=true↔ts=us)
 | [],[],_=>by simp[dds,PyData.eqvAll]
 | [],_::_,_=>by simp[dds,PyData.eqvAll]
 | _::_,[],_=>by simp[dds,PyData.eqvAll]
 | t::ts,u::us,h=>by
  simp only[dds,PyData.eqvAll,Bool.and_eq_true,h t Zz5 u Zz5,ZgG fun t m u n=>h t (Zz2 _ m) u (Zz2 _ n),List.cons.injEq]
theorem Pln.eqv{n:Nat}{t:T}(h:Pln n t): ∀{m:Nat} {u:T},Pln m u→(PyData.eqv (dd t) (dd u)=true↔t=u):=by
 induction h with
 | none=>intro m u h;cases h <;> simp[dd,PyData.eqv]
 | int=>intro m u h;cases h <;> simp[dd,PyData.eqv]
 | str _=>intro m u h;cases h <;> simp[dd,PyData.eqv]
 | tup hs ih=>
  intro m u h
  cases h with
  | tup hu=>simp only[dd,PyData.eqv,T.tup.injEq];exact ZgG fun t a u b=>ih t a (hu u b)
  | none=>simp[dd,PyData.eqv]
  | int=>simp[dd,PyData.eqv]
  | str=>simp[dd,PyData.eqv]
  | lst=>simp[dd,PyData.eqv]
 | lst hs ih=>
  intro m u h
  cases h with
  | lst hu=>simp only[dd,PyData.eqv,T.lst.injEq];exact ZgG fun t a u b=>ih t a (hu u b)
  | none=>simp[dd,PyData.eqv]
  | int=>simp[dd,PyData.eqv]
  | str=>simp[dd,PyData.eqv]
  | tup=>simp[dd,PyData.eqv]
theorem Pln.mono{n:Nat}{t:T}(h:Pln n t): ∀{m:Nat},n≤m→Pln m t:=by
 induction h with
 | none=>intro m _;exact .none
 | int=>intro m _;exact .int
 | str h=>intro m _;exact .str h
 | tup hs ih=>
  intro m hm
  cases m with
  | zero=>omega
  | succ m=>exact .tup fun t a=>ih t a (by omega)
 | lst hs ih=>
  intro m hm
  cases m with
  | zero=>omega
  | succ m=>exact .lst fun t a=>ih t a (by omega)
theorem Zlj{n m:Nat}{a b:T}(ha:Pln n a)(hb:Pln m b)(hn:n≤40:=by decide)(hm:m≤40:=by decide): Zcg a b=some (dec (a=b)):=by
 have ha:=ha.mono hn
 have hb:=hb.mono hm
 obtain⟨a1,a2,a3⟩:=ha.dat
 obtain⟨b1,b2,b3⟩:=hb.dat
 unfold Zcg ZaF
 rw[a1,b1]
 simp only[Zs0]
 rw[if_pos ⟨by simp only[SeqAt.shaped,a2,Bool.true_and,decide_eq_true_eq];omega,by simp only[SeqAt.shaped,b2,Bool.true_and,decide_eq_true_eq];omega⟩,ZiI (ha.eqv hb)]
section
variable {Q:T→Prop}
theorem ZiN{n m:Nat}{a b:T}(ha:Pln n a)(hb:Pln m b)(h:Q (.bool (dec (a=b))))(hn:n≤40:=by decide)(hm:m≤40:=by decide): Pk (qEq a b) Q:=⟨_,by simp only[qEq,Zlj ha hb hn hm,Zs1],h⟩
end
noncomputable def oT: Option Int→T
 | none=>.none
 | some x=>.int x
theorem Zik{b:Option Int}: (oT b).flat=true:=by cases b <;> rfl
theorem Zgj{σ:TL}{i:Nat}{t:T}: Zw σ i t i=some t:=by simp[Zw]
end TM
end
section
namespace PM
open PySem PySem.W PySem.Calls PyProof.Rows PyProof PyProof.Rows.LCg PyProof.Rows.LCp
noncomputable def sNo: Sm:=fun _ _=>none
noncomputable def inD(d:PyData): PyData→Option Bool
 | .list xs=>if PyData.canLayAll0 xs=true∧d.canLay0=true∧d.depth≤64 then some (xs.any fun y=>PyData.eqv y d)else none
 | .tuple xs=>if PyData.canLayAll0 xs=true∧d.canLay0=true∧d.depth≤64 then some (xs.any fun y=>PyData.eqv y d)else none
 | _=>none
noncomputable def Zev(a b:V)(H:Hp): Option Bool:=(toD H ZaF a).bind fun d=>(toD H ZaF b).bind fun e=>inD d e
noncomputable def oIn(a b:V)(H:Hp): Option (V×Hp):=(Zev a b H).map fun c=>(.bool c,H)
noncomputable def Zfa(a b:V)(H:Hp): Option (V×Hp):=(Zev a b H).map fun c=>(.bool (!c),H)
section
variable {prog:Program} {w:World} {Γ:Cx}
theorem S1.no{st:Stmt}: S1 prog w Γ st sNo:=fun W ρ H fr s Q E r rp hf post=>by cases hf
theorem Zeo: Op2 prog w (compareOp .In) oIn:=by
 intro Γ W ρ H fr s Q E a b x y v H' r hx hy ho post
 obtain⟨c,e1,e2⟩:=Zz1.mp ho
 cases e2
 obtain⟨d,h1,e1⟩:=Zz0.mp e1
 obtain⟨e,h2,e1⟩:=Zz0.mp e1
 obtain⟨as,R1⟩:=ZcA r ZaF a x d hx h1
 obtain⟨bs,R2⟩:=ZcA r ZaF b y e hy h2
 have hu:=Γ.hu
 unfold inD at e1
 split at e1
 ·split at e1
  ·rename_i hs
   cases e1
   exact SeqAt.in_list_reads R2 R1 hs.1 hs.2.1 (by omega) (post W s.heap s.toks _ (.refl W) r (.bool _))
  ·cases e1
 ·split at e1
  ·rename_i hs
   cases e1
   exact SeqAt.in_tuple_reads R2 R1 hs.1 hs.2.1 (by omega) (post W s.heap s.toks _ (.refl W) r (.bool _))
  ·cases e1
 ·cases e1
theorem ZkF: Op2 prog w (compareOp .NotIn) Zfa:=by
 intro Γ W ρ H fr s Q E a b x y v H' r hx hy ho post
 obtain⟨c,e1,e2⟩:=Zz1.mp ho
 cases e2
 obtain⟨d,h1,e1⟩:=Zz0.mp e1
 obtain⟨e,h2,e1⟩:=Zz0.mp e1
 obtain⟨as,R1⟩:=ZcA r ZaF a x d hx h1
 obtain⟨bs,R2⟩:=ZcA r ZaF b y e hy h2
 have hu:=Γ.hu
 unfold inD at e1
 split at e1
 ·split at e1
  ·rename_i hs
   cases e1
   exact SeqAt.notIn_list_reads R2 R1 hs.1 hs.2.1 (by omega) (post W s.heap s.toks _ (.refl W) r (.bool _))
  ·cases e1
 ·split at e1
  ·rename_i hs
   cases e1
   exact SeqAt.notIn_tuple_reads R2 R1 hs.1 hs.2.1 (by omega) (post W s.heap s.toks _ (.refl W) r (.bool _))
  ·cases e1
 ·cases e1
theorem Zmg{e1 e2 e3:Expr}{es:List Expr}{pos:Pos}{f g:Ex}(h1:J prog w Γ e1 f)(h2:J prog w Γ (.BoolOp .And (e2::e3::es) pos) g) (he:eval (.BoolOp .And (e1::e2::e3::es) pos) Γ.env=(do
  let v ←eval e1 Γ.env
  standAt pos
  let t ←holding [v] (truthy v)
  match BoolOp.And,t with
  | .And,false | .Or,true=>pure v
  | _,_=>eval (.BoolOp .And (e2::e3::es) pos) Γ.env):=by rfl):J prog w Γ (.BoolOp .And (e1::e2::e3::es) pos) (ZcI f g):=by
 intro W ρ H fr s Q E v H' r hf post
 obtain⟨p,a1,hf⟩:=Zz0.mp hf
 obtain⟨b,a2,a3⟩:=Zz0.mp hf
 rw[he]
 refine wpAny_bind (wpAny_mono (h1 W ρ H fr s (fun x s₁=>wpAny (model prog w) Γ.A (truthy x) (fun t s₂=>if t then wpAny (model prog w) Γ.A (eval (.BoolOp .And (e2::e3::es) pos) Γ.env) Q E s₂ else Q x s₂) E s₁) E _ _ r a1 fun W1 k1 t1 x l1 r1 x1=>?_) (fun v s₁ h₁=>wpAny_bind (wpAny_standAt (wpAny_bind (wpAny_holding (wpAny_mono h₁ (fun t s₂ h₂=>?_) fun _ _ x=>x))))) fun _ _ x=>x)
 ·refine Zeg Γ W1 ρ _ fr _ _ E _ x b r1 x1 a2 fun W2 k2 t2 l2 r2=>?_
  cases b with
  | true=>exact h2 W2 ρ _ fr _ Q E _ H' r2 a3 fun W3 k3 t3 z l3 r3 z3=>post W3 k3 t3 z ((l1.trans l2).trans l3) r3 z3
  | false=>
   cases a3
   exact post W2 k2 t2 x (l1.trans l2) r2 (x1.mono l2)
 ·cases t with
  | false=>exact wpAny_pure h₂
  | true=>exact h₂
end
end PM
end
section
namespace TM
open PySem PM
noncomputable def Zew(a b:T): Option Bool:=(Zbk ZaF a).bind fun d=>(Zbk ZaF b).bind fun e=>inD d e
noncomputable def Zfb(a b:T): Option T:=(Zew a b).map fun c=>.bool !c
theorem Zmh{H:Hp}{v1 v2:V}{t1 t2:T}{F1 F2:List Nat}(r1:RF H v1 t1 F1)(r2:RF H v2 t2 F2): Zev v1 v2 H=Zew t1 t2:=by
 simp only[Zev,Zew,Ze6 ZaF _ _ _ r1,Ze6 ZaF _ _ _ r2]
theorem Zlk: OA2 Zfa Zfb:=fun H v1 v2 t1 t2 t F1 F2 r1 r2 h=>by
 obtain⟨c,h1,h⟩:=Zz1.mp h
 subst h
 exact⟨_,by simp only[Zfa,Zmh r1 r2,h1,Zs1],.bool _⟩
theorem ZiO{d:T}: ∀{ts:List T},(∀t∈ts,(PyData.eqv (dd t) (dd d)=true↔t=d))→((dds ts).any fun y=>PyData.eqv y (dd d))=dec (d∈ts)
 | [],_=>by simp[dds,ZgX]
 | t::ts,h=>by
  have ih:=ZiO (d:=d) (ts:=ts) fun t m=>h t (Zz2 _ m)
  simp only[dds,List.any_cons,ih]
  symm
  apply ZiI
  rw[Bool.or_eq_true,h t Zz5,dec_iff]
  simp[eq_comm]
theorem Zmi{n m:Nat}{a:T}{ts:List T}(ha:Pln n a)(hb:Pln m (.lst ts))(hn:n≤40:=by decide)(hm:m≤40:=by decide): Zew a (.lst ts)=some (dec (a∈ts)):=by
 have ha:=ha.mono hn
 have hb:=hb.mono hm
 obtain⟨a1,a2,a3⟩:=ha.dat
 obtain⟨b1,b2,b3⟩:=hb.dat
 unfold Zew ZaF
 rw[a1,b1]
 simp only[Zs0,dd,inD]
 simp only[dd,PyData.canLay0]at b2
 rw[if_pos ⟨b2,a2,by omega⟩,ZiO]
 intro t m
 cases hb with
 | lst hs=>exact(hs t m).eqv ha
section
variable {Q:T→Prop}
end
section
variable {σ:TL} {L:List T→Prop}
end
end TM
end
section
namespace TM
open PySem PM
section
variable {O N M K:List Nat} {u u' u'':Bool}
noncomputable def OIn(o:List V→Hp→Option (V×Hp))(q:List T→Option T): Prop:=∀(H:Hp) (vs:List V) (ts:List T) (t:T) (F1:List Nat),RFs H vs ts F1→q ts=some t→∃v F,o vs H=some (v,H)∧RF H v t F∧F.Sublist F1
theorem Zll{n:Nat}{es:ZW}{ps:PEs}{q:List T→Option T}{o:List V→Hp→Option (V×Hp)}(k:OIn o q)(x:Es O N u n es ps): E O N u (Ze o es) (Zak q ps):=fun c ρ σ H Φ t s h=>by
 obtain⟨ts,h1,h⟩:=Zz0.mp h
 obtain⟨_,vs,X,F,a1,a2,a3,a4⟩:=x c ρ σ H Φ ts s h1
 obtain⟨w,G,b1,b2,b3⟩:=k _ vs ts t F a2 h
 exact⟨w,X,G,by simp only[Ze,a1,Zs0,b1],b2,fun a m=>a3 a (b3.subset m),fun hu=>(a4 hu).sublist b3⟩
theorem ZkG: OIn Zdk Ze1:=fun H vs ts t F r h=>by
 unfold Ze1 at h
 split at h
 ·obtain⟨v,rfl,r'⟩:=r.one_inv
  cases r' with
  | @ref a vs1 _ F1 e hs=>cases h;exact⟨.tup vs1,F1,by simp only[Zdk,e,Zs1],.tup hs,List.sublist_cons_self _ _⟩
 ·obtain⟨v,rfl,r'⟩:=r.one_inv
  cases r' with
  | @tup vs1 _ _ hs=>cases h;exact⟨.tup vs1,_,by simp only[Zdk],.tup hs,List.Sublist.refl _⟩
 ·cases h
end
section
variable {σ:TL} {Q:T→Prop} {B:Bool→Prop} {R:T→Prop} {N:TL→Prop}
end
end TM
end
section
namespace TM
open PySem PM
theorem SimF.zero{fr:Bool}: SimF fr (fun _ _=>none) (fun _=>none):=by
 intro H vs ts t F1 hp r h
 cases h
end TM
end
section
namespace TM
open PySem PM
noncomputable def Keep0(g:Sm): Prop:=∀ρ H r,g ρ H=some r→r.2.1 0=ρ 0
theorem Keep0.ret{e:Ex}: Keep0 (ZQ e):=fun ρ H r h=>by
 obtain⟨_,_,q⟩:=Zz1.mp h
 subst q;rfl
section
variable {O O' R N:List Nat} {fr u:Bool}
end
section
variable {σ:TL} {R:T→Prop} {N:TL→Prop}
end
end TM
end
section
/-! Lists of which only the upper part is own: down to a depth the lists are own, what lies below is lent. -/
namespace TM
open PySem PM
noncomputable def plc: V→Bool
 | .ref _=>true
 | .obj _ _=>true
 | _=>false
mutual
inductive RD(H:Hp): Nat→V→T→List Nat→List Nat→Prop where
 | leaf {d:Nat} {v:V} {t:T} {R:List Nat}:RF H v t R→(d=0∨(plc v=false∧d≠999))→RD H d v t [] R
 | ref {d a:Nat} {vs:List V} {ts:List T} {F R:List Nat}:d≠998→H[a]?=some vs→RDs H d vs ts F R→RD H (d+1) (.ref a) (.lst ts) (a::F) R
 | obj {d a:Nat} {c:Nat×List Str} {vs:List V} {ts:List T} {F R:List Nat}:d≠998→H[a]?=some vs→RDs H d vs ts F R→RD H (d+1) (.obj c a) (.ob c ts) (a::F) R
 | all {v:V} {t:T} {F:List Nat}:RF H v t F→RD H 999 v t F []
inductive RDs(H:Hp): Nat→List V→List T→List Nat→List Nat→Prop where
 | nil {d:Nat}:RDs H d [] [] [] []
 | cons {d:Nat} {v:V} {t:T} {F R:List Nat} {vs:List V} {ts:List T} {G Q:List Nat}:RD H d v t F R→RDs H d vs ts G Q→RDs H d (v::vs) (t::ts) (F++G) (R++Q)
end
theorem Zi9{A B C D X Y:List Nat}(h:(A++B).Perm X)(k:(C++D).Perm Y): ((A++C)++(B++D)).Perm (X++Y):=by
 rw[List.perm_iff_count]at *
 intro a
 have h1:=h a
 have h2:=k a
 simp only[List.count_append]at *
 omega
mutual
theorem RD.rf{H:Hp}{d:Nat}{v:V}{t:T}{F R:List Nat}(r:RD H d v t F R): ∃G,RF H v t G∧(F++R).Perm G:=by
 cases r with
 | leaf h _=>exact⟨R,h,List.Perm.refl _⟩
 | ref _ e hs=>
  obtain⟨G,h1,h2⟩:=RDs.rf hs
  exact⟨_,.ref e h1,List.Perm.cons _ h2⟩
 | obj _ e hs=>
  obtain⟨G,h1,h2⟩:=RDs.rf hs
  exact⟨_,.obj e h1,List.Perm.cons _ h2⟩
 | all h=>exact⟨F,h,by rw[List.append_nil]⟩
theorem RDs.rf{H:Hp}{d:Nat}{vs:List V}{ts:List T}{F R:List Nat}(r:RDs H d vs ts F R): ∃G,RFs H vs ts G∧(F++R).Perm G:=by
 cases r with
 | nil=>exact⟨_,.nil,List.Perm.refl _⟩
 | cons a b=>
  obtain⟨G,h1,h2⟩:=RD.rf a
  obtain⟨Q,k1,k2⟩:=RDs.rf b
  exact⟨_,.cons h1 k1,Zi9 h2 k2⟩
end
mutual
theorem RF.det{H:Hp}{v:V}{t t':T}{F F':List Nat}(r:RF H v t F)(r':RF H v t' F'): t=t'∧F=F':=by
 cases r with
 | none=>cases r';exact⟨rfl,rfl⟩
 | bool b=>cases r';exact⟨rfl,rfl⟩
 | int i=>cases r';exact⟨rfl,rfl⟩
 | str s=>cases r';exact⟨rfl,rfl⟩
 | tup hs=>
  cases r' with
  | tup hs'=>obtain⟨h1,h2⟩:=RFs.det hs hs';exact⟨by rw[h1],h2⟩
 | ref e hs=>
  cases r' with
  | ref e' hs'=>
   rw[e]at e'
   cases e'
   obtain⟨h1,h2⟩:=RFs.det hs hs';exact⟨by rw[h1],by rw[h2]⟩
 | obj e hs=>
  cases r' with
  | obj e' hs'=>
   rw[e]at e'
   cases e'
   obtain⟨h1,h2⟩:=RFs.det hs hs';exact⟨by rw[h1],by rw[h2]⟩
theorem RFs.det{H:Hp}{vs:List V}{ts ts':List T}{F F':List Nat}(r:RFs H vs ts F)(r':RFs H vs ts' F'): ts=ts'∧F=F':=by
 cases r with
 | nil=>cases r';exact⟨rfl,rfl⟩
 | cons a b=>
  cases r' with
  | cons a' b'=>
   obtain⟨h1,h2⟩:=RF.det a a'
   obtain⟨k1,k2⟩:=RFs.det b b'
   exact⟨by rw[h1,k1],by rw[h2,k2]⟩
end
mutual
theorem RD.frame{H H':Hp}{d:Nat}{v:V}{t:T}{F R:List Nat}(r:RD H d v t F R)(h:∀a∈F,H'[a]?=H[a]?)(k:∀a∈R,H'[a]?=H[a]?): RD H' d v t F R:=by
 cases r with
 | leaf q z=>exact .leaf (q.frame k) z
 | ref n e hs=>exact .ref n ((h _ Zz5).trans e) (RDs.frame hs (fun a m=>h a (Zz2 _ m)) k)
 | obj n e hs=>exact .obj n ((h _ Zz5).trans e) (RDs.frame hs (fun a m=>h a (Zz2 _ m)) k)
 | all q=>exact .all (q.frame h)
theorem RDs.frame{H H':Hp}{d:Nat}{vs:List V}{ts:List T}{F R:List Nat}(r:RDs H d vs ts F R)(h:∀a∈F,H'[a]?=H[a]?)(k:∀a∈R,H'[a]?=H[a]?): RDs H' d vs ts F R:=by
 cases r with
 | nil=>exact .nil
 | cons a b=>exact .cons (RD.frame a (fun x m=>h x (Zz4 _ m)) (fun x m=>k x (Zz4 _ m))) (RDs.frame b (fun x m=>h x (Zz3 _ m)) (fun x m=>k x (Zz3 _ m)))
end
mutual
theorem RF.rd{H:Hp}{v:V}{t:T}{G:List Nat}(d:Nat)(r:RF H v t G): ∃F R,RD H d v t F R∧(F++R).Perm G:=by
 by_cases q:d=999
 ·subst q;exact⟨G,[],.all r,by rw[List.append_nil]⟩
 cases r with
 | none=>exact⟨[],[],.leaf .none (.inr ⟨rfl,q⟩),List.Perm.refl _⟩
 | bool b=>exact⟨[],[],.leaf (.bool b) (.inr ⟨rfl,q⟩),List.Perm.refl _⟩
 | int i=>exact⟨[],[],.leaf (.int i) (.inr ⟨rfl,q⟩),List.Perm.refl _⟩
 | str s=>exact⟨[],[],.leaf (.str s) (.inr ⟨rfl,q⟩),List.Perm.refl _⟩
 | tup hs=>exact⟨[],G,.leaf (.tup hs) (.inr ⟨rfl,q⟩),List.Perm.refl _⟩
 | ref e hs=>
  cases d with
  | zero=>exact⟨[],_,.leaf (.ref e hs) (.inl rfl),List.Perm.refl _⟩
  | succ d=>
   obtain⟨F,R,h1,h2⟩:=RFs.rd d hs
   exact⟨_,R,.ref (by omega) e h1,List.Perm.cons _ h2⟩
 | obj e hs=>
  cases d with
  | zero=>exact⟨[],_,.leaf (.obj e hs) (.inl rfl),List.Perm.refl _⟩
  | succ d=>
   obtain⟨F,R,h1,h2⟩:=RFs.rd d hs
   exact⟨_,R,.obj (by omega) e h1,List.Perm.cons _ h2⟩
theorem RFs.rd{H:Hp}{vs:List V}{ts:List T}{G:List Nat}(d:Nat)(r:RFs H vs ts G): ∃F R,RDs H d vs ts F R∧(F++R).Perm G:=by
 cases r with
 | nil=>exact⟨[],[],.nil,List.Perm.refl _⟩
 | cons a b=>
  obtain⟨F,R,h1,h2⟩:=RF.rd d a
  obtain⟨F',R',k1,k2⟩:=RFs.rd d b
  exact⟨_,_,.cons h1 k1,Zi9 h2 k2⟩
end
theorem Zil{H:Hp}: ∀{vs:List V} {ts:List T} {G:List Nat},RFs H vs ts G→RDs H 0 vs ts [] G
 | _,_,_,.nil=>.nil
 | _,_,_,.cons a b=>by
  have:=RDs.cons (RD.leaf (d:=0) a (.inl rfl)) (Zil b)
  simpa using this
theorem RDs.length{H:Hp}{d:Nat}: ∀{vs:List V} {ts:List T} {F R:List Nat},RDs H d vs ts F R→vs.length=ts.length
 | _,_,_,_,.nil=>rfl
 | _,_,_,_,.cons _ r=>by rw[List.length_cons,List.length_cons,r.length]
theorem RDs.append{H:Hp}{d:Nat}: ∀{vs us:List V} {ts ss:List T} {F R G Q:List Nat},RDs H d vs ts F R→RDs H d us ss G Q→RDs H d (vs++us) (ts++ss) (F++G) (R++Q)
 | _,_,_,_,_,_,_,_,.nil,h=>h
 | _,_,_,_,_,_,_,_,.cons a r,h=>by rw[List.append_assoc,List.append_assoc];exact .cons a (r.append h)
theorem RDs.one{H:Hp}{d:Nat}{v:V}{t:T}{F R:List Nat}(r:RD H d v t F R): RDs H d [v] [t] F R:=by
 have:=RDs.cons r RDs.nil
 rwa [List.append_nil,List.append_nil]at this
theorem RDs.split{H:Hp}{d:Nat}: ∀{vs:List V} {ts:List T} {F R:List Nat} {i:Nat} {t:T},RDs H d vs ts F R→ts[i]?=some t →
  ∃v G Q F1 F2 R1 R2,vs[i]?=some v∧RD H d v t G Q∧F=F1++(G++F2)∧R=R1++(Q++R2)∧∀(H':Hp) (w:V) (t':T) (G' Q':List Nat),RD H' d w t' G' Q'→(∀a∈F1++F2,H'[a]?=H[a]?)→(∀a∈R1++R2,H'[a]?=H[a]?)→RDs H' d (vs.set i w) (ts.set i t') (F1++(G'++F2)) (R1++(Q'++R2))
 | _,_,_,_,_,_,.nil,e=>by simp at e
 | _,_,_,_,0,_,.cons (G:=G1) (Q:=Q1) a r,e=>by
  simp at e
  subst e
  exact⟨_,_,_,[],G1,[],Q1,by simp,a,by simp,by simp,fun H' w t' G' Q' x h1 h2=>by simpa using RDs.cons x (r.frame (fun b m=>h1 b (by simpa using m)) (fun b m=>h2 b (by simpa using m)))⟩
 | _,_,_,_,i+1,_,.cons (F:=F0) (R:=R0) a r,e=>by
  simp at e
  obtain⟨v,G,Q,F1,F2,R1,R2,h1,h2,h3,h3',h4⟩:=r.split e
  refine⟨v,G,Q,F0++F1,F2,R0++R1,R2,by simpa using h1,h2,by rw[h3];simp,by rw[h3'];simp,fun H' w t' G' Q' x k1 k2=>?_⟩
  have:=RDs.cons (a.frame (fun b m=>k1 b (by simp[m])) (fun b m=>k2 b (by simp[m]))) (h4 H' w t' G' Q' x (fun b m=>k1 b (by rcases Zz8.mp m with m | m <;> simp[m])) (fun b m=>k2 b (by rcases Zz8.mp m with m | m <;> simp[m])))
  simpa using this
theorem Zgz{H:Hp}: ∀{vs:List V} {ts:List T} {F:List Nat},RFs H vs ts F→RDs H 999 vs ts F []
 | _,_,_,.nil=>.nil
 | _,_,_,.cons a b=>by have:=RDs.cons (RD.all a) (Zgz b);simpa using this
theorem RDs.unall{H:Hp}: ∀{vs:List V} {ts:List T} {F R:List Nat},RDs H 999 vs ts F R→RFs H vs ts F∧R=[]
 | _,_,_,_,.nil=>⟨.nil,rfl⟩
 | _,_,_,_,.cons a b=>by
  obtain⟨h1,h2⟩:=b.unall
  cases a with
  | leaf _ q=>exact absurd q (by simp)
  | ref q _ _=>exact absurd rfl q
  | obj q _ _=>exact absurd rfl q
  | all h=>exact⟨.cons h h1,by simp[h2]⟩
noncomputable def dn(d:Nat): Nat:=if d=999 then 999 else d-1
theorem RD.inR{H:Hp}{d a:Nat}{t:T}{F R:List Nat}(r:RD H d (.ref a) t F R)(hd:0<d): ∃vs ts F',t=.lst ts∧F=a::F'∧H[a]?=some vs∧RDs H (dn d) vs ts F' R∧∀(H':Hp) (vs':List V) (ts':List T) (G Q:List Nat),H'[a]?=some vs'→RDs H' (dn d) vs' ts' G Q→RD H' d (.ref a) (.lst ts') (a::G) Q:=by
 cases r with
 | leaf h q=>rcases q with q | q;omega;exact absurd q.1 (by simp[plc])
 | @ref d _ vs ts F' _ n e hs=>
  have:dn (d+1)=d:=by unfold dn;rw[if_neg (by omega)];omega
  rw[this]
  exact⟨vs,ts,F',rfl,rfl,e,hs,fun H' vs' ts' G Q e' hs'=>.ref n e' hs'⟩
 | all h=>
  cases h with
  | @ref _ vs ts F' e hs=>
   refine⟨vs,ts,F',rfl,rfl,e,Zgz hs,fun H' vs' ts' G Q e' hs'=>?_⟩
   obtain⟨h1,h2⟩:=hs'.unall
   subst h2
   exact .all (.ref e' h1)
theorem RD.inO{H:Hp}{d a:Nat}{c:Nat×List Str}{t:T}{F R:List Nat}(r:RD H d (.obj c a) t F R)(hd:0<d): ∃vs ts F',t=.ob c ts∧F=a::F'∧H[a]?=some vs∧RDs H (dn d) vs ts F' R∧∀(H':Hp) (vs':List V) (ts':List T) (G Q:List Nat),H'[a]?=some vs'→RDs H' (dn d) vs' ts' G Q→RD H' d (.obj c a) (.ob c ts') (a::G) Q:=by
 cases r with
 | leaf h q=>rcases q with q | q;omega;exact absurd q.1 (by simp[plc])
 | @obj d _ _ vs ts F' _ n e hs=>
  have:dn (d+1)=d:=by unfold dn;rw[if_neg (by omega)];omega
  rw[this]
  exact⟨vs,ts,F',rfl,rfl,e,hs,fun H' vs' ts' G Q e' hs'=>.obj n e' hs'⟩
 | all h=>
  cases h with
  | @obj _ _ vs ts F' e hs=>
   refine⟨vs,ts,F',rfl,rfl,e,Zgz hs,fun H' vs' ts' G Q e' hs'=>?_⟩
   obtain⟨h1,h2⟩:=hs'.unall
   subst h2
   exact .all (.obj e' h1)
noncomputable def Zfk(k:Int): Option Nat:=if k≤-1000000 then some (-1000000-k).toNat else none
noncomputable def Zep(k:Int)(n:Nat): Option Nat:=if k≤-1000000 then none else seqIndex? k n
noncomputable def Zcf(f:List T→Option (List T)): List Int→T→Option T
 | [],.lst ts=>(f ts).map .lst
 | k::ks,.lst ts=>(Zep k ts.length).bind fun j=>ts[j]?.bind fun t=>(Zcf f ks t).map fun u=>.lst (ts.set j u)
 | k::ks,.ob c ts=>(Zfk k).bind fun j=>ts[j]?.bind fun t=>(Zcf f ks t).map fun u=>.ob c (ts.set j u)
 | _,_=>none
inductive LeadU(H:Hp): List Int→V→Nat→Prop where
 | nil {a:Nat}:LeadU H [] (.ref a) a
 | ref {k:Int} {ks:List Int} {b:Nat} {vs:List V} {j:Nat} {v:V} {a:Nat}:H[b]?=some vs→Zep k vs.length=some j→vs[j]?=some v→LeadU H ks v a→LeadU H (k::ks) (.ref b) a
 | obj {k:Int} {ks:List Int} {c:Nat×List Str} {b:Nat} {vs:List V} {j:Nat} {v:V} {a:Nat}:H[b]?=some vs→Zfk k=some j→vs[j]?=some v→LeadU H ks v a→LeadU H (k::ks) (.obj c b) a
noncomputable def dnn(d m:Nat): Nat:=if d=999 then 999 else d-m-1
theorem Znc{d:Nat}: dnn d 0=dn d:=by unfold dnn dn;split <;> simp
theorem Znd{d m:Nat}(h9:d≤999): dnn (dn d) m=dnn d (m+1):=by
 unfold dnn dn
 by_cases h:d=999
 ·simp[h]
 ·rw[if_neg h,if_neg h]
  split
  ·omega
  ·omega
theorem Zed{H:Hp}{Fn Rn:List Nat}{f:List T→Option (List T)}: ∀(ks:List Int) {d:Nat} {v:V} {t t':T} {F R:List Nat},RD H d v t F R→F.Nodup→(∀a∈F,a∉R)→(∀a∈Fn,a∉F)→ks.length<d→d≤999→Zcf f ks t=some t' →
  ∃a vs ts ts' Fa Ra,LeadU H ks v a∧a∈F∧H[a]?=some vs∧RDs H (dnn d ks.length) vs ts Fa Ra∧f ts=some ts'∧Fa.Nodup∧a∉Fa∧(∀x∈Fa,x∈F)∧(∀x∈Ra,x∈R) ∧
   ∀vs' F' R',RDs H (dnn d ks.length) vs' ts' F' R'→F'.Nodup→a∉F'→a∉R'→(∀x∈F',x∈Fa∨x∈Fn)→(∀x∈R',x∈Ra∨x∈Rn)→∃F2 R2,RD (H.set a vs') d v t' F2 R2∧F2.Nodup∧(∀x∈F2,x∈F∨x∈Fn)∧∀x∈R2,x∈R∨x∈Rn
 | [],d,v,t,t',F,R,r,nd,ds,dnw,hd,h9,e=>by
  cases t with
  | none=>cases e
  | bool=>cases e
  | int=>cases e
  | str=>cases e
  | tup=>cases e
  | ob=>cases e
  | lst ts0=>
  obtain⟨ts',h1,h2⟩:=Zz1.mp e
  subst h2
  have hv:∃a,v=.ref a:=by
   obtain⟨G,rg,_⟩:=r.rf
   cases rg with
   | ref _ _=>exact⟨_,rfl⟩
  obtain⟨a,rfl⟩:=hv
  obtain⟨vs,ts,G,et,eF,e1,hs,back⟩:=r.inR (by simpa using hd)
  cases et
  subst eF
  rw[List.nodup_cons]at nd
  rw[List.length_nil,Znc]
  refine⟨a,vs,ts0,ts',G,R,.nil,List.mem_cons_self,e1,hs,h1,nd.2,nd.1,fun x m=>Zy3 _ m,fun x m=>m,fun vs' F' R' r' n' na nr sub subR=>⟨a::F',R',?_,?_,?_,subR⟩⟩
  ·have ha:=(Zz6.mp e1).1
   refine back _ _ _ _ _ (Zy6 ha) (r'.frame (fun b m=>List.getElem?_set_ne ?_) (fun b m=>List.getElem?_set_ne ?_))
   ·intro q;subst q;exact na m
   ·intro q;subst q;exact nr m
  ·exact List.nodup_cons.mpr ⟨na,n'⟩
  ·intro x m
   rcases Zz7.mp m with rfl | m
   ·exact .inl Zz5
   ·exact(sub x m).imp (Zz2 _) id
 | k::ks,d,v,t,t',F,R,r,nd,ds,dnw,hd,h9,e=>by
  have hlen:ks.length<dn d:=by
   simp only[List.length_cons]at hd
   unfold dn;split <;> omega
  have h9':dn d≤999:=by unfold dn;split <;> omega
  have main:∀(b j:Nat) (vs:List V) (ts:List T) (F':List Nat) (u u':T) (mk:List T→T),F=b::F'→t'=mk (ts.set j u')→H[b]?=some vs→RDs H (dn d) vs ts F' R→ts[j]?=some u→Zcf f ks u=some u'→(∀w a,vs[j]?=some w→LeadU H ks w a→LeadU H (k::ks) v a)→(∀(H':Hp) (vs':List V) (ts':List T) (G Q:List Nat),H'[b]?=some vs'→RDs H' (dn d) vs' ts' G Q→RD H' d v (mk ts') (b::G) Q) →
   ∃a vs ts ts' Fa Ra,LeadU H (k::ks) v a∧a∈F∧H[a]?=some vs∧RDs H (dnn d (k::ks).length) vs ts Fa Ra∧f ts=some ts'∧Fa.Nodup∧a∉Fa∧(∀x∈Fa,x∈F)∧(∀x∈Ra,x∈R) ∧
    ∀vs' F' R',RDs H (dnn d (k::ks).length) vs' ts' F' R'→F'.Nodup→a∉F'→a∉R'→(∀x∈F',x∈Fa∨x∈Fn)→(∀x∈R',x∈Ra∨x∈Rn)→∃F2 R2,RD (H.set a vs') d v t' F2 R2∧F2.Nodup∧(∀x∈F2,x∈F∨x∈Fn)∧∀x∈R2,x∈R∨x∈Rn:=by
   intro b j vs ts F' u u' mk eF et' e0 hs e2 e3 lead back
   subst eF
   subst et'
   obtain⟨w,G1,Q1,F1,F2,R1,R2,e4,g1,eF,eR,rb⟩:=hs.split e2
   subst eF
   subst eR
   rw[List.nodup_cons]at nd
   obtain⟨nb,nd⟩:=nd
   obtain⟨a1,a2,a5⟩:=List.nodup_append.mp nd
   obtain⟨nd1,a3,a4⟩:=List.nodup_append.mp a2
   have hin:∀x∈G1,x∈F1++(G1++F2):=fun x m=>List.mem_append_right _ (Zz4 _ m)
   have hinR:∀x∈Q1,x∈R1++(Q1++R2):=fun x m=>List.mem_append_right _ (Zz4 _ m)
   obtain⟨a,us,qs,qs',Fa,Ra,l,am,ea,hq,hf,gn,na,gs,gr,go⟩:=Zed ks g1 nd1 (fun x m q=>ds x (Zz2 _ (hin x m)) (hinR x q)) (fun x m q=>dnw x m (Zz2 _ (hin x q))) hlen h9' e3
   have ed:dnn d (k::ks).length=dnn (dn d) ks.length:=by rw[List.length_cons,Znd h9]
   rw[ed]
   refine⟨a,us,qs,qs',Fa,Ra,lead w a e4 l,Zy3 _ (hin a am),ea,hq,hf,gn,na,fun x m=>Zy3 _ (hin x (gs x m)),fun x m=>hinR x (gr x m),fun vs' Fx Rx r' n' na' nr' sub subR=>?_⟩
   obtain⟨G2,Q2,f1,f2,f3,f4⟩:=go vs' Fx Rx r' n' na' nr' sub subR
   have aF:a∈b::(F1++(G1++F2)):=Zz2 _ (hin a am)
   have:=rb (H.set a vs') w u' G2 Q2 f1 (fun x m=>Zy2 fun q=>by
    subst q
    rcases Zz8.mp m with m | m
    ·exact a5 a m a (Zz4 _ am) rfl
    ·exact a4 a am a m rfl) (fun x m=>Zy2 fun q=>by
    subst q
    exact ds a aF (by rcases Zz8.mp m with m | m <;> simp[m]))
   rw[Zgw e4]at this
   have hab:a≠b:=fun q=>nb (hin b (q▸am))
   refine⟨_,_,back _ _ _ _ _ ((Zy2 hab).trans e0) this,List.nodup_cons.mpr ⟨fun q=>?_,nd3 nd f2 f3 (fun x m q=>dnw x m (Zz2 _ q))⟩,fun x m=>?_,in3 f4⟩
   ·rcases in3 f3 b q with m | m
    ·exact nb m
    ·exact dnw b m Zz5
   ·rcases Zz7.mp m with rfl | m
    ·exact .inl Zz5
    ·exact(in3 f3 x m).imp (Zz2 _) id
  have d0:0<d:=by omega
  cases t with
  | none=>cases e
  | bool=>cases e
  | int=>cases e
  | str=>cases e
  | tup=>cases e
  | lst ts0=>
   obtain⟨j,e1,e⟩:=Zz0.mp e
   obtain⟨u,e2,e⟩:=Zz0.mp e
   obtain⟨u',e3,e⟩:=Zz1.mp e
   have hv:∃a,v=.ref a:=by
    obtain⟨G,rg,_⟩:=r.rf
    cases rg with
    | ref _ _=>exact⟨_,rfl⟩
   obtain⟨b,rfl⟩:=hv
   obtain⟨vs,ts,G,et,eF,e0,hs,back⟩:=r.inR d0
   cases et
   exact main b j vs ts0 G u u' .lst eF e.symm e0 hs e2 e3 (fun w a ew l=>.ref e0 (by rw[hs.length];exact e1) ew l) back
  | ob c ts0=>
   obtain⟨j,e1,e⟩:=Zz0.mp e
   obtain⟨u,e2,e⟩:=Zz0.mp e
   obtain⟨u',e3,e⟩:=Zz1.mp e
   have hv:∃a,v=.obj c a:=by
    obtain⟨G,rg,_⟩:=r.rf
    cases rg with
    | obj _ _=>exact⟨_,rfl⟩
   obtain⟨b,rfl⟩:=hv
   obtain⟨vs,ts,G,et,eF,e0,hs,back⟩:=r.inO d0
   cases et
   exact main b j vs ts0 G u u' (.ob c) eF e.symm e0 hs e2 e3 (fun w a ew l=>.obj e0 e1 ew l) back
noncomputable def ZaO: V→Int→Hp→Option V
 | .obj c a,k,H=>(Zfk k).bind fun j=>H[a]?.bind fun vs=>vs[j]?
 | v,k,H=>if k≤-1000000 then none else(Zh v (.int k) H).map (·.1)
noncomputable def ZbU(H:Hp): List Int→V→Option V
 | [],v=>some v
 | k::ks,v=>(ZaO v k H).bind fun q=>ZbU H ks q
theorem Zmj{k:Int}{n j:Nat}(h:Zep k n=some j): ¬k≤-1000000∧seqIndex? k n=some j:=by
 unfold Zep at h
 split at h
 ·cases h
 ·rename_i q;exact⟨q,h⟩
theorem LeadU.follow{H:Hp}{ks:List Int}{v:V}{a:Nat}(l:LeadU H ks v a): ZbU H ks v=some (.ref a):=by
 induction l with
 | nil=>rfl
 | ref h1 h2 h3 _ ih=>
  obtain⟨q1,q2⟩:=Zmj h2
  simp only[ZbU,ZaO,if_neg q1,Zh,h1,Zs0,q2,h3,Zs1,ih]
 | obj h1 h2 h3 _ ih=>simp only[ZbU,ZaO,h1,h2,Zs0,h3,ih]
theorem Zh1{H:Hp}(X:Hp){v w:V}{k:Int}(h:ZaO v k H=some w): ZaO v k (H++X)=some w:=by
 cases v with
 | obj c a=>
  simp only[ZaO]at h ⊢
  obtain⟨j,h1,h⟩:=Zz0.mp h
  obtain⟨vs,h2,h⟩:=Zz0.mp h
  rw[h1,Zs0,Zy0 (Zz6.mp h2).1,h2,Zs0,h]
 | none=>simp only[ZaO]at h ⊢;split at h;cases h;rename_i q;rw[if_neg q];cases h
 | bool=>simp only[ZaO]at h ⊢;split at h;cases h;rename_i q;rw[if_neg q];cases h
 | int=>simp only[ZaO]at h ⊢;split at h;cases h;rename_i q;rw[if_neg q];cases h
 | str=>simp only[ZaO]at h ⊢;split at h;cases h;rename_i q;rw[if_neg q];cases h
 | tup vs=>
  simp only[ZaO]at h ⊢
  split at h
  ·cases h
  ·rename_i q
   rw[if_neg q]
   obtain⟨⟨w',K⟩,h1,h2⟩:=Zz1.mp h
   rw[(ZdX h1 X).2]
   exact congrArg some h2
 | ref a=>
  simp only[ZaO]at h ⊢
  split at h
  ·cases h
  ·rename_i q
   rw[if_neg q]
   obtain⟨⟨w',K⟩,h1,h2⟩:=Zz1.mp h
   rw[(ZdX h1 X).2]
   exact congrArg some h2
theorem ZdR{H:Hp}(X:Hp): ∀{ks:List Int} {v w:V},ZbU H ks v=some w→ZbU (H++X) ks v=some w
 | [],_,_,h=>h
 | k::ks,v,w,h=>by
  obtain⟨w1,h1,h2⟩:=Zz0.mp h
  simp only[ZbU,Zh1 X h1,Zs0]
  exact ZdR X h2
theorem Zhl{H:Hp}{k:Int}: ∀{ks:List Int} {v:V},ZbU H (ks++[k]) v=(ZbU H ks v).bind fun w=>ZaO w k H
 | [],v=>by
  simp only[List.nil_append,ZbU,Zs0]
  cases ZaO v k H <;> rfl
 | j::ks,v=>by
  simp only[List.cons_append,ZbU]
  cases ZaO v j H with
  | none=>rfl
  | some q=>simp only[Zs0];exact Zhl
noncomputable def PaU(O:List Nat)(x:Nat)(e:Ex)(p:PPa): Prop:=∀(c:Ctx) (ρ:Lc) (σ:TL) (H:Hp) (Φ:Nat→List Nat) (ks:List Int) (v w:V),St c O ρ σ H Φ→p σ=some ks→ρ x=some v→ZbU H ks v=some w→∃X,e ρ H=some (w,H++X)
section
variable {O:List Nat}
theorem Zdl{x:Nat}: PaU O x (eVar x) ZaT:=fun c ρ σ H Φ ks v w s h e f=>by
 cases h;cases f
 exact⟨[],by simp[eVar,e]⟩
noncomputable def Zfl(p:PPa)(i:PE): PPa:=fun σ=>(p σ).bind fun ks=>(i σ).bind fun t=>match t with
 | .int k=>if k≤-1000000 then none else some (ks++[k])
 | _=>none
theorem Zlm{x:Nat}{N:List Nat}{u:Bool}{e i:Ex}{p:PPa}{pi:PE}(y:PaU O x e p)(z:E O N u i pi): PaU O x (Za Zh e i) (Zfl p pi):=fun c ρ σ H Φ ks v w s h ev f=>by
 obtain⟨ks0,h1,h⟩:=Zz0.mp h
 obtain⟨t,h2,h⟩:=Zz0.mp h
 cases t <;> first | (cases h;done) | skip
 rename_i k
 simp only at h
 split at h
 ·cases h
 rename_i hk
 cases h
 rw[Zhl]at f
 obtain⟨w0,f1,f2⟩:=Zz0.mp f
 obtain⟨X,a1⟩:=y c ρ σ H Φ ks0 v w0 s h1 ev f1
 obtain⟨vi,Y,F,b1,b2,b3,b4⟩:=z c ρ σ (H++X) Φ _ (s.ext X) h2
 cases b2
 refine⟨X++Y,?_⟩
 simp only[Za,a1,Zs0,b1]
 have f3:=Zh1 (X++Y) f2
 rw[List.append_assoc]
 cases w0 with
 | obj c' a'=>
  simp only[ZaO]at f3
  obtain⟨j,g1,_⟩:=Zz0.mp f3
  unfold Zfk at g1
  rw[if_neg hk]at g1
  cases g1
 | none=>simp only[ZaO,if_neg hk]at f3;cases f3
 | bool=>simp only[ZaO,if_neg hk]at f3;cases f3
 | int=>simp only[ZaO,if_neg hk]at f3;cases f3
 | str=>simp only[ZaO,if_neg hk]at f3;cases f3
 | tup vs=>
  simp only[ZaO,if_neg hk]at f3
  obtain⟨⟨w',K⟩,g1,g2⟩:=Zz1.mp f3
  subst g2
  have:=(ZdX g1 []).1
  rw[g1,this]
 | ref a=>
  simp only[ZaO,if_neg hk]at f3
  obtain⟨⟨w',K⟩,g1,g2⟩:=Zz1.mp f3
  subst g2
  have:=(ZdX g1 []).1
  rw[g1,this]
end
noncomputable def Sp(H:Hp)(d:Nat)(v:V)(t:T)(F:List Nat): Prop:=∃R,RD H d v t F R∧F.Nodup∧∀a∈F,a∉R
theorem Sp.sub{H:Hp}{d:Nat}{v:V}{t:T}{F G:List Nat}(s:Sp H d v t F)(r:RF H v t G): ∀a∈F,a∈G:=fun a m=>by
 obtain⟨R,h1,_⟩:=s
 obtain⟨G',h2,h3⟩:=h1.rf
 obtain⟨_,e⟩:=r.det h2
 rw[e]
 exact h3.subset (Zz4 _ m)
theorem Sp.frame{H H':Hp}{d:Nat}{v:V}{t:T}{F G:List Nat}(s:Sp H d v t F)(r:RF H v t G)(h:∀a∈G,H'[a]?=H[a]?): Sp H' d v t F:=by
 obtain⟨R,h1,h4⟩:=s
 obtain⟨G',h2,h3⟩:=h1.rf
 obtain⟨_,e⟩:=r.det h2
 subst e
 exact⟨R,h1.frame (fun a m=>h a (h3.subset (Zz4 _ m))) (fun a m=>h a (h3.subset (Zz3 _ m))),h4⟩
theorem RF.sp{H:Hp}{v:V}{t:T}{G:List Nat}(d:Nat)(r:RF H v t G)(nd:G.Nodup): ∃F,Sp H d v t F∧∀a∈F,a∈G:=by
 obtain⟨F,R,h1,h2⟩:=r.rd d
 have:=h2.nodup_iff.mpr nd
 obtain⟨n1,n2,n3⟩:=List.nodup_append.mp this
 exact⟨F,⟨R,h1,n1,fun a m q=>n3 a m a q rfl⟩,fun a m=>h2.subset (Zz4 _ m)⟩
end TM
end
section
namespace TM
open PySem PM
noncomputable abbrev PX:=TL→Option (T×TL)
noncomputable abbrev PBX:=TL→Option (Bool×TL)
noncomputable abbrev Sps:=List (Nat×Nat)
structure Cu extends Ctx where
 Fs:Nat→List Nat
 fs:∀i,∀a∈Fs i,a∈F0
structure Su(c:Cu)(O:List Nat)(S:Sps)(ρ:Lc)(σ:TL)(H:Hp)(Φ Ψ:Nat→List Nat): Prop where
 st:St c.toCtx O ρ σ H Φ
 sp:∀i d,(i,d)∈S→∀t,σ i=some t→∃v,ρ i=some v∧Sp H d v t (Ψ i)∧(∀a∈Ψ i,c.H0.length≤a∨a∈c.Fs i)∧∀j u,j≠i→σ j=some u→∀a∈Ψ i,a∉Φ j
 ap:∀i∈O,∀d,(i,d)∉S
 nw:∀i∈O,∀t,σ i=some t→∀a∈Φ i,c.H0.length≤a
noncomputable def SH(S:Sps)(σ:TL)(Ψ:Nat→List Nat)(a:Nat): Prop:=∃i d,(i,d)∈S∧(∃t,σ i=some t)∧a∈Ψ i
section
variable {c:Cu} {O:List Nat} {S:Sps} {ρ:Lc} {σ:TL} {H:Hp} {Φ Ψ:Nat→List Nat}
theorem Su.low(s:Su c O S ρ σ H Φ Ψ){k:Nat}{t:T}(e:σ k=some t): ∀a∈Φ k,a<H.length:=fun a m=>by
 obtain⟨_,_,r⟩:=s.st.slot k t e
 exact r.lt a m
theorem Su.up(s:Su c O S ρ σ H Φ Ψ){i d:Nat}(hi:(i,d)∈S){t:T}(e:σ i=some t): ∀a∈Ψ i,a∈Φ i:=fun a m=>by
 obtain⟨v,h1,h2,_⟩:=s.sp i d hi t e
 obtain⟨v',k1,k2⟩:=s.st.slot i t e
 rw[h1]at k1
 cases k1
 exact h2.sub k2 a m
theorem Su.shlow(s:Su c O S ρ σ H Φ Ψ){a:Nat}(h:SH S σ Ψ a): a<H.length:=by
 obtain⟨i,d,hi,⟨t,e⟩,m⟩:=h
 exact s.low e a (s.up hi e a m)
theorem Su.shoff(s:Su c O S ρ σ H Φ Ψ){a n:Nat}{t:T}(h:SH S σ Ψ a)(hn:∀d,(n,d)∉S)(e:σ n=some t): a∉Φ n:=by
 obtain⟨i,d,hi,⟨t',e'⟩,m⟩:=h
 obtain⟨_,_,_,_,k⟩:=s.sp i d hi t' e'
 exact k n t (fun q=>hn d (q▸hi)) e a m
theorem Su.ext(s:Su c O S ρ σ H Φ Ψ)(X:Hp): Su c O S ρ σ (H++X) Φ Ψ:=⟨s.st.ext X,fun i d hi t e=>by
 obtain⟨v,h1,h2,h3⟩:=s.sp i d hi t e
 obtain⟨v',k1,k2⟩:=s.st.slot i t e
 rw[h1]at k1
 cases k1
 exact⟨v,h1,h2.frame k2 fun a m=>Zy0 (k2.lt a m),h3⟩,s.ap,s.nw⟩
theorem Su.less{O':List Nat}{S':Sps}(s:Su c O S ρ σ H Φ Ψ)(h:∀i∈O',i∈O)(k:∀q∈S',q∈S): Su c O' S' ρ σ H Φ Ψ:=⟨s.st.less h,fun i d hi=>s.sp i d (k _ hi),fun i hi d m=>s.ap i (h i hi) d (k _ m),fun i hi=>s.nw i (h i hi)⟩
theorem ZaL{k j:Nat}{t:T}(e:Z8 σ k j=some t): j≠k∧σ j=some t:=by
 unfold Z8 at e
 split at e
 ·cases e
 ·rename_i h;exact⟨h,e⟩
theorem ZjY{N:List Nat}{j:Nat}{t:T}(e:Zbr σ N j=some t): j∉N∧σ j=some t:=by
 unfold Zbr at e
 split at e
 ·cases e
 ·rename_i h;exact⟨h,e⟩
theorem Su.fewer{τ:TL}(s:Su c O S ρ σ H Φ Ψ)(h:∀j t,τ j=some t→σ j=some t): Su c O S ρ τ H Φ Ψ:=
 ⟨⟨fun i t e=>s.st.slot i t (h _ _ e),fun i t e=>s.st.src i t (h _ _ e),fun i hi t e=>by
  obtain⟨h1,h2,h3⟩:=s.st.own i hi t (h _ _ e)
  exact⟨h1,h2,fun j u hj ej=>h3 j u hj (h _ _ ej)⟩,s.st.len,s.st.keep,s.st.pos,s.st.f0⟩,fun i d hi t e=>by
  obtain⟨v,h1,h2,h3,h4⟩:=s.sp i d hi t (h _ _ e)
  exact⟨v,h1,h2,h3,fun j u hj ej=>h4 j u hj (h _ _ ej)⟩,s.ap,fun i hi t e=>s.nw i hi t (h _ _ e)⟩
theorem Su.del(s:Su c O S ρ σ H Φ Ψ)(k:Nat): Su c O S ρ (Z8 σ k) H Φ Ψ:=s.fewer fun j t e=>(ZaL e).2
theorem SH.fewer{τ:TL}{a:Nat}(h:∀j t,τ j=some t→σ j=some t)(x:SH S τ Ψ a): SH S σ Ψ a:=by
 obtain⟨i,d,hi,⟨t,e⟩,m⟩:=x
 exact⟨i,d,hi,⟨t,h _ _ e⟩,m⟩
theorem SH.del{k a:Nat}(hS:∀d,(k,d)∉S): SH S (Z8 σ k) Ψ a↔SH S σ Ψ a:=by
 constructor
 ·exact SH.fewer fun j t e=>(ZaL e).2
 ·rintro⟨i,d,hi,⟨t,e⟩,m⟩
  exact⟨i,d,hi,⟨t,by unfold Z8;rw[if_neg (fun q:i=k=>hS d (q▸hi))];exact e⟩,m⟩
theorem ZdT{k j:Nat}{t u:T}(e:Zw σ k t j=some u): (j=k∧u=t)∨(j≠k∧σ j=some u):=by
 unfold Zw at e
 split at e
 ·rename_i h;cases e;exact .inl ⟨h,rfl⟩
 ·rename_i h;exact .inr ⟨h,e⟩
theorem Zaf{k j:Nat}{t u:T}(e:Zw σ k t j=some u)(h:j≠k): σ j=some u:=by
 rcases ZdT e with⟨q,_⟩ | ⟨_,e⟩
 ·exact absurd q h
 ·exact e
theorem SH.upd{k a:Nat}{t1:T}(hS:∀d,(k,d)∉S): SH S (Zw σ k t1) Ψ a↔SH S σ Ψ a:=by
 constructor
 ·rintro⟨i,d,hi,⟨t,e⟩,m⟩
  exact⟨i,d,hi,⟨t,Zaf e fun q=>hS d (q▸hi)⟩,m⟩
 ·rintro⟨i,d,hi,⟨t,e⟩,m⟩
  exact⟨i,d,hi,⟨t,by unfold Zw;rw[if_neg (fun q:i=k=>hS d (q▸hi))];exact e⟩,m⟩
theorem Su.putL{k:Nat}{v:V}{t:T}{F:List Nat}(s:Su c O S ρ σ H Φ Ψ)(hk:k∉O)(hS:∀d,(k,d)∉S)(r:RF H v t F)(hs:∀a∈F,c.H0.length≤a∨c.P a)(ho:∀i∈O,∀t',σ i=some t'→∀a∈Φ i,a∉F)(hp:∀a,SH S σ Ψ a→a∉F): Su c O S (upd ρ k v) (Zw σ k t) H (Zr Φ k F) Ψ:=
 ⟨s.st.put hk r hs ho,fun i d hi u e=>by
  have ne:i≠k:=fun q=>hS d (q▸hi)
  have e0:=Zaf e ne
  obtain⟨w,h1,h2,h3,h4⟩:=s.sp i d hi u e0
  refine⟨w,by simp[PM.upd,ne,h1],h2,h3,fun j u' hj ej a m=>?_⟩
  by_cases q:j=k
  ·rw[q];simpa [Zr]using hp a ⟨i,d,hi,⟨u,e0⟩,m⟩
  ·simpa [Zr,q]using h4 j u' hj (Zaf ej q) a m,s.ap,fun i hi t e=>by
  have q:i≠k:=fun q=>hk (q▸hi)
  simpa [Zr,q]using s.nw i hi t (Zaf e q)⟩
theorem Su.putO{k:Nat}{v:V}{t:T}{F:List Nat}{O':List Nat}(s:Su c O S ρ σ H Φ Ψ)(hO:∀j∈O',j∈O∨j=k)(hS:∀d,(k,d)∉S)(r:RF H v t F)(nd:F.Nodup)(hn:∀a∈F,c.H0.length≤a)(hd:∀j u,j≠k→σ j=some u→∀a∈F,a∉Φ j): Su c O' S (upd ρ k v) (Zw σ k t) H (Zr Φ k F) Ψ:=by
 refine⟨⟨fun i u e=>?_,fun i u e=>?_,fun i hi u e=>?_,s.st.len,s.st.keep,s.st.pos,s.st.f0⟩,fun i d hi u e=>?_,fun i hi d m=>?_,fun i hi u e=>?_⟩
 ·by_cases q:i=k
  ·subst q
   rcases ZdT e with⟨_,q'⟩ | ⟨q',_⟩
   ·subst q';exact⟨v,by simp[PM.upd],by simpa [Zr]using r⟩
   ·exact absurd rfl q'
  ·simpa [PM.upd,Zr,q]using s.st.slot i u (Zaf e q)
 ·by_cases q:i=k
  ·subst q;simpa [Zr]using fun a m=>Or.inl (hn a m)
  ·simpa [Zr,q]using s.st.src i u (Zaf e q)
 ·by_cases q:i=k
  ·subst q
   simp only[Zr,if_true]
   refine⟨nd,fun a m=>.inl (hn a m),fun j w hj ej a m=>?_⟩
   simpa [hj]using hd j w hj (Zaf ej hj) a m
  ·have hi':=(hO i hi).resolve_right q
   have e0:=Zaf e q
   obtain⟨h1,h2,h3⟩:=s.st.own i hi' u e0
   simp only[Zr,q,if_false]
   refine⟨h1,h2,fun j w hj ej a m=>?_⟩
   by_cases q2:j=k
   ·simp only[q2,if_true]
    exact fun m2=>hd i u q e0 a m2 m
   ·simpa [q2]using h3 j w hj (Zaf ej q2) a m
 ·have ne:i≠k:=fun q=>hS d (q▸hi)
  have e0:=Zaf e ne
  obtain⟨w,h1,h2,h3,h4⟩:=s.sp i d hi u e0
  refine⟨w,by simp[PM.upd,ne,h1],h2,h3,fun j u' hj ej a m=>?_⟩
  by_cases q:j=k
  ·simp only[Zr,q,if_true]
   exact fun m2=>hd i u ne e0 a m2 (s.up hi e0 a m)
  ·simpa [Zr,q]using h4 j u' hj (Zaf ej q) a m
 ·rcases hO i hi with q | q
  ·exact s.ap i q d m
  ·exact hS d (q▸m)
 ·by_cases q:i=k
  ·subst q;simpa [Zr]using hn
  ·simpa [Zr,q]using s.nw i ((hO i hi).resolve_right q) u (Zaf e q)
theorem Su.drop{O1:List Nat}{k:Nat}{v:V}(s:Su c O1 S (upd ρ k v) σ H Φ Ψ)(hO:∀i∈O,i∈O1): Su c O S ρ (Z8 σ k) H Φ Ψ:=by
 have s:=(s.del k).less hO (fun q h=>h)
 refine⟨⟨fun i t e=>?_,s.st.src,s.st.own,s.st.len,s.st.keep,s.st.pos,s.st.f0⟩,fun i d hi t e=>?_,s.ap,s.nw⟩
 ·obtain⟨w,h1,h2⟩:=s.st.slot i t e
  exact⟨w,by simpa [PM.upd,(ZaL e).1]using h1,h2⟩
 ·obtain⟨w,h1,h2⟩:=s.sp i d hi t e
  exact⟨w,by simpa [PM.upd,(ZaL e).1]using h1,h2⟩
end
noncomputable def EX(O:List Nat)(S:Sps)(N:List Nat)(u:Bool)(e:Ex)(p:PX): Prop:=∀(c:Cu) (ρ:Lc) (σ:TL) (H:Hp) (Φ Ψ:Nat→List Nat) (t:T) (σ':TL),Su c O S ρ σ H Φ Ψ→p σ=some (t,σ') →
 ∃v H' Φ' Ψ' F,e ρ H=some (v,H')∧H.length≤H'.length∧(∀a,a<H.length→¬SH S σ Ψ a→H'[a]?=H[a]?)∧Su c O S ρ σ' H' Φ' Ψ'∧(∀j t,(∀d,(j,d)∉S)→σ' j=some t→σ j=some t∧Φ' j=Φ j)∧(∀a,SH S σ' Ψ' a→H.length≤a∨SH S σ Ψ a)∧(∀s d,(s,d)∈S→(∃t,σ' s=some t)→∀a∈Φ' s,H.length≤a∨∃j,(∃t,σ j=some t)∧a∈Φ j)∧RF H' v t F∧(∀a∈F,From H N σ Φ a)∧(∀a,SH S σ' Ψ' a→a∉F) ∧
  (u=true→F.Nodup∧((∀n∈N,n∈O∧∀d,(n,d)∉S)→∀s d,(s,d)∈S→(∃t,σ' s=some t)→∀a∈Φ' s,a∉F))
noncomputable def BX(O:List Nat)(S:Sps)(e:Ts)(p:PBX): Prop:=∀(c:Cu) (ρ:Lc) (σ:TL) (H:Hp) (Φ Ψ:Nat→List Nat) (b:Bool) (σ':TL),Su c O S ρ σ H Φ Ψ→p σ=some (b,σ') →
 ∃H' Φ' Ψ',e ρ H=some (b,H')∧H.length≤H'.length∧(∀a,a<H.length→¬SH S σ Ψ a→H'[a]?=H[a]?)∧Su c O S ρ σ' H' Φ' Ψ'∧(∀j t,(∀d,(j,d)∉S)→σ' j=some t→σ j=some t∧Φ' j=Φ j)∧(∀a,SH S σ' Ψ' a→H.length≤a∨SH S σ Ψ a)
noncomputable def xP(p:PE): PX:=fun σ=>(p σ).map fun t=>(t,σ)
noncomputable def xB(p:PB): PBX:=fun σ=>(p σ).map fun t=>(t,σ)
section
variable {O N:List Nat} {S:Sps} {u:Bool}
theorem ZD{e:Ex}{p:PE}(x:E O N u e p)(hN:∀n∈N,∀q∈S,q.1≠n): EX O S N u e (xP p):=fun c ρ σ H Φ Ψ t σ' s h=>by
 have hN:∀n∈N,∀d,(n,d)∉S:=fun n hn d m=>hN n hn _ m rfl
 obtain⟨t',h1,h⟩:=Zz1.mp h
 cases h
 obtain⟨v,X,F,a1,a2,a3,a4⟩:=x c.toCtx ρ σ H Φ t s.st h1
 refine⟨v,H++X,Φ,Ψ,F,a1,by simp,fun a ha _=>Zy0 ha,s.ext X,fun j t _ e=>⟨e,rfl⟩,fun a h=>.inr h,fun s' d _ ⟨t,e⟩ a m=>.inr ⟨s',⟨t,e⟩,m⟩,a2,a3,fun a h q=>?_,fun hu=>⟨a4 hu,fun hN' s' d hs ⟨t',e⟩ a m q=>?_⟩⟩
 ·rcases a3 a q with h' | ⟨n,hn,⟨tn,en⟩,mn⟩
  ·have:=s.shlow h;omega
  ·exact s.shoff h (hN n hn) en mn
 ·rcases a3 a q with h' | ⟨n,hn,⟨tn,en⟩,mn⟩
  ·have:=s.low e a m;omega
  ·exact(s.st.own n (hN' n hn).1 tn en).2.2 s' t' (fun q=>hN n hn d (q▸hs)) e a mn m
theorem ZaC{e:Ts}{p:PB}(x:Bt O e p): BX O S e (xB p):=fun c ρ σ H Φ Ψ t σ' s h=>by
 obtain⟨t',h1,h⟩:=Zz1.mp h
 cases h
 obtain⟨X,a1⟩:=x c.toCtx ρ σ H Φ t s.st h1
 exact⟨H++X,Φ,Ψ,a1,by simp,fun a ha _=>Zy0 ha,s.ext X,fun j t _ e=>⟨e,rfl⟩,fun a h=>.inr h⟩
noncomputable def Zci(p:PX): PBX:=fun σ=>(p σ).bind fun r=>(ZcE r.1).map fun b=>(b,r.2)
theorem ZcV{e:Ex}{p:PX}(x:EX O S N u e p): BX O S (Zp e) (Zci p):=fun c ρ σ H Φ Ψ b σ' s h=>by
 obtain⟨⟨t,σ1⟩,h1,h⟩:=Zz0.mp h
 obtain⟨b',h2,h⟩:=Zz1.mp h
 cases h
 obtain⟨v,H',Φ',Ψ',F,a1,a2,a3,a4,a5,a6,_,a7,_⟩:=x c ρ σ H Φ Ψ t σ1 s h1
 exact⟨H',Φ',Ψ',by simp only[Zp,a1,Zs0,ZeW a7 h2,Zs1],a2,a3,a4,a5,a6⟩
theorem ZeS{σ σ1:TL}{H H1 H2:Hp}{Ψ Ψ1:Nat→List Nat}(l:H.length≤H1.length)(a3:∀a,a<H.length→¬SH S σ Ψ a→H1[a]?=H[a]?)(a6:∀a,SH S σ1 Ψ1 a→H.length≤a∨SH S σ Ψ a)(b3:∀a,a<H1.length→¬SH S σ1 Ψ1 a→H2[a]?=H1[a]?): ∀a,a<H.length→¬SH S σ Ψ a→H2[a]?=H[a]?:=fun a ha hn=>by
 rw[b3 a (by omega) fun q=>(a6 a q).elim (fun q=>by omega) hn,a3 a ha hn]
theorem ZeV{σ σ1 σ2:TL}{H H1:Hp}{Ψ Ψ1 Ψ2:Nat→List Nat}(l:H.length≤H1.length)(a6:∀a,SH S σ1 Ψ1 a→H.length≤a∨SH S σ Ψ a)(b6:∀a,SH S σ2 Ψ2 a→H1.length≤a∨SH S σ1 Ψ1 a): ∀a,SH S σ2 Ψ2 a→H.length≤a∨SH S σ Ψ a:=fun a h=>by
 rcases b6 a h with q | q
 ·exact .inl (by omega)
 ·exact a6 a q
noncomputable def ZdF(p q:PBX): PBX:=fun σ=>(p σ).bind fun r=>if r.1 then q r.2 else some r
theorem ZiP{e f:Ts}{p q:PBX}(x:BX O S e p)(y:BX O S f q): BX O S (Za1 e f) (ZdF p q):=fun c ρ σ H Φ Ψ b σ' s h=>by
 obtain⟨⟨t,σ1⟩,h1,h⟩:=Zz0.mp h
 obtain⟨H1,Φ1,Ψ1,a1,a2,a3,a4,a5,a6⟩:=x c ρ σ H Φ Ψ t σ1 s h1
 cases t with
 | true=>
  obtain⟨H2,Φ2,Ψ2,b1,b2,b3,b4,b5,b6⟩:=y c ρ σ1 H1 Φ1 Ψ1 b σ' a4 (by simpa using h)
  refine⟨H2,Φ2,Ψ2,by simp[Za1,a1,b1],by omega,ZeS a2 a3 a6 b3,b4,fun j t hj e=>?_,ZeV a2 a6 b6⟩
  obtain⟨e1,e2⟩:=b5 j t hj e
  obtain⟨e3,e4⟩:=a5 j t hj e1
  exact⟨e3,e2.trans e4⟩
 | false=>
  cases h
  exact⟨H1,Φ1,Ψ1,by simp[Za1,a1],a2,a3,a4,a5,a6⟩
noncomputable def xOr(p q:PBX): PBX:=fun σ=>(p σ).bind fun r=>if r.1 then some r else q r.2
theorem Zja{e f:Ts}{p q:PBX}(x:BX O S e p)(y:BX O S f q): BX O S (ZZ e f) (xOr p q):=fun c ρ σ H Φ Ψ b σ' s h=>by
 obtain⟨⟨t,σ1⟩,h1,h⟩:=Zz0.mp h
 obtain⟨H1,Φ1,Ψ1,a1,a2,a3,a4,a5,a6⟩:=x c ρ σ H Φ Ψ t σ1 s h1
 cases t with
 | false=>
  obtain⟨H2,Φ2,Ψ2,b1,b2,b3,b4,b5,b6⟩:=y c ρ σ1 H1 Φ1 Ψ1 b σ' a4 (by simpa using h)
  refine⟨H2,Φ2,Ψ2,by simp[ZZ,a1,b1],by omega,ZeS a2 a3 a6 b3,b4,fun j t hj e=>?_,ZeV a2 a6 b6⟩
  obtain⟨e1,e2⟩:=b5 j t hj e
  obtain⟨e3,e4⟩:=a5 j t hj e1
  exact⟨e3,e2.trans e4⟩
 | true=>
  cases h
  exact⟨H1,Φ1,Ψ1,by simp[ZZ,a1],a2,a3,a4,a5,a6⟩
end
noncomputable def Ct(k:Nat)(C:Ex→Ex): Prop:=∀e ρ H,C e ρ H=(e ρ H).bind fun p=>C (eVar k) (upd ρ k p.1) p.2
noncomputable def Vl(k:Nat)(f:Ex): Prop:=∃g:Lc→Option V,(∀ρ H,f ρ H=(g ρ).map fun v=>(v,H))∧∀ρ v,g (upd ρ k v)=g ρ
noncomputable def Of(k:Nat)(f:Ex): Prop:=∀ρ v H,f (upd ρ k v) H=f ρ H
noncomputable def Ofs(k:Nat)(f:ZW): Prop:=∀ρ v H,f (upd ρ k v) H=f ρ H
noncomputable def Cts(k:Nat)(C:Ex→ZW): Prop:=∀e ρ H,C e ρ H=(e ρ H).bind fun p=>C (eVar k) (upd ρ k p.1) p.2
section
variable {k:Nat}
theorem Z7: Ct k fun e=>e:=fun e ρ H=>by
 show e ρ H=(e ρ H).bind fun p=>eVar k (upd ρ k p.1) p.2
 cases e ρ H with
 | none=>rfl
 | some p=>simp[eVar,upd]
theorem Za9{o:V→V→Hp→Option (V×Hp)}{C:Ex→Ex}{g:Ex}(h:Ct k C)(hg:Of k g): Ct k fun e=>Za o (C e) g:=fun e ρ H=>by
 simp only[Za]
 rw[h e ρ H]
 cases e ρ H with
 | none=>rfl
 | some p=>simp only[Zs0,hg ρ p.1]
theorem ZaM{o:V→V→Hp→Option (V×Hp)}{C:Ex→Ex}{f:Ex}(h:Ct k C)(hf:Vl k f): Ct k fun e=>Za o f (C e):=fun e ρ H=>by
 obtain⟨g,h1,h2⟩:=hf
 simp only[Za,h1,h2]
 cases g ρ with
 | none=>cases e ρ H <;> rfl
 | some v=>
  simp only[Zs1,Zs0]
  rw[h e ρ H]
  cases e ρ H with
  | none=>rfl
  | some p=>rfl
theorem Cts.head{C:Ex→Ex}{g:ZW}(h:Ct k C)(hg:Ofs k g): Cts k fun e=>eCons (C e) g:=fun e ρ H=>by
 simp only[eCons]
 rw[h e ρ H]
 cases e ρ H with
 | none=>rfl
 | some p=>simp only[Zs0,hg ρ p.1]
theorem Cts.tail{C:Ex→ZW}{f:Ex}(h:Cts k C)(hf:Vl k f): Cts k fun e=>eCons f (C e):=fun e ρ H=>by
 obtain⟨g,h1,h2⟩:=hf
 simp only[eCons,h1,h2]
 cases g ρ with
 | none=>cases e ρ H <;> rfl
 | some v=>
  simp only[Zs1,Zs0]
  rw[h e ρ H]
  cases e ρ H with
  | none=>rfl
  | some p=>rfl
theorem Ct.tup{C:Ex→ZW}(h:Cts k C): Ct k fun e=>ZY (C e):=fun e ρ H=>by
 simp only[ZY]
 rw[h e ρ H]
 cases e ρ H with
 | none=>rfl
 | some p=>rfl
theorem Ct.list{C:Ex→ZW}(h:Cts k C): Ct k fun e=>ZM (C e):=fun e ρ H=>by
 simp only[ZM]
 rw[h e ρ H]
 cases e ρ H with
 | none=>rfl
 | some p=>rfl
theorem Ct.call{f:List V→Hp→Option (V×Hp)}{C:Ex→ZW}(h:Cts k C): Ct k fun e=>Ze f (C e):=fun e ρ H=>by
 simp only[Ze]
 rw[h e ρ H]
 cases e ρ H with
 | none=>rfl
 | some p=>rfl
theorem Zab{i:Nat}(h:i≠k): Vl k (eVar i):=⟨fun ρ=>ρ i,fun ρ H=>rfl,fun ρ v=>by simp[upd,h]⟩
theorem Vl.int{i:Int}: Vl k (Zb i):=⟨fun _=>some (.int i),fun ρ H=>rfl,fun ρ v=>rfl⟩
theorem Vl.none: Vl k Zba:=⟨fun _=>some .none,fun ρ H=>rfl,fun ρ v=>rfl⟩
theorem Vl.bool{i:Bool}: Vl k (ZbH i):=⟨fun _=>some (.bool i),fun ρ H=>rfl,fun ρ v=>rfl⟩
theorem Vl.str{i:Str}: Vl k (Zo i):=⟨fun _=>some (.str i),fun ρ H=>rfl,fun ρ v=>rfl⟩
end
noncomputable def Z0(k:Nat)(p1 p2:PX): PX:=fun σ=>(p1 (Z8 σ k)).bind fun r=>(p2 (Zw r.2 k r.1)).map fun r2=>(r2.1,Z8 r2.2 k)
section
variable {O N:List Nat} {S:Sps} {u:Bool}
theorem Zgk{O1 N1:List Nat}{u1:Bool}{k:Nat}{C:Ex→Ex}{e:Ex}{p1 p2:PX}(hC:Ct k C)(x:EX O S N1 u1 e p1)(y:EX O1 S N u (C (eVar k)) p2)(hO1:∀i∈O,i∈O1)(hS:∀d,(k,d)∉S)(hN:∀n∈N,∀d,(n,d)∉S)
  (go:∀(c:Cu) (ρ:Lc) (σ σ1:TL) (H H1:Hp) (Φ Ψ Φ1 Ψ1:Nat→List Nat) (v:V) (t:T) (F:List Nat),Su c O S ρ σ H Φ Ψ→H.length≤H1.length→Su c O S ρ σ1 H1 Φ1 Ψ1→(∀j t,(∀d,(j,d)∉S)→σ1 j=some t→σ j=some t∧Φ1 j=Φ j)→RF H1 v t F→(∀a∈F,From H N1 σ Φ a)→(∀a,SH S σ1 Ψ1 a→a∉F)→(u1=true→F.Nodup∧((∀n∈N1,n∈O∧∀d,(n,d)∉S)→∀s d,(s,d)∈S→(∃t,σ1 s=some t)→∀a∈Φ1 s,a∉F))→Su c O1 S (upd ρ k v) (Zw σ1 k t) H1 (Zr Φ1 k F) Ψ1)
  (c:Cu) (ρ:Lc) (σ:TL) (H:Hp) (Φ Ψ:Nat→List Nat) (t:T) (σ':TL) (s:Su c O S ρ σ H Φ Ψ) (h:Z0 k p1 p2 σ=some (t,σ')):
  ∃v H' Φ' Ψ' F,C e ρ H=some (v,H')∧H.length≤H'.length∧(∀a,a<H.length→¬SH S σ Ψ a→H'[a]?=H[a]?)∧Su c O S ρ σ' H' Φ' Ψ'∧(∀j t,(∀d,(j,d)∉S)→σ' j=some t→σ j=some t∧Φ' j=Φ j)∧(∀a,SH S σ' Ψ' a→H.length≤a∨SH S σ Ψ a)∧(∀s d,(s,d)∈S→(∃t,σ' s=some t)→∀a∈Φ' s,H.length≤a∨∃j,(∃t,σ j=some t)∧a∈Φ j)∧RF H' v t F∧(∀a∈F,H.length≤a∨∃n∈N.filter (fun n=>n != k)++(if k∈N then N1 else []),(∃t,σ n=some t)∧a∈Φ n)∧(∀a,SH S σ' Ψ' a→a∉F) ∧
   (u=true→F.Nodup∧((∀n∈N,n∈O1∧∀d,(n,d)∉S)→∀s d,(s,d)∈S→(∃t,σ' s=some t)→∀a∈Φ' s,a∉F)):=by
 obtain⟨⟨t1,σ1⟩,h1,h⟩:=Zz0.mp h
 obtain⟨⟨t2,σ2⟩,h2,h⟩:=Zz1.mp h
 cases h
 have sd:=s.del k
 obtain⟨v1,H1,Φ1,Ψ1,F1,a1,a2,a3,a4,a5,a6,a11,a7,a8,a9,a10⟩:=x c ρ (Z8 σ k) H Φ Ψ t1 σ1 sd h1
 have s1:=go c ρ (Z8 σ k) σ1 H H1 Φ Ψ Φ1 Ψ1 v1 t1 F1 sd a2 a4 a5 a7 a8 a9 a10
 simp only[SH.del hS]at a3 a6
 obtain⟨v2,H2,Φ2,Ψ2,F2,b1,b2,b3,b4,b5,b6,b11,b7,b8,b9,b10⟩:=y c (upd ρ k v1) (Zw σ1 k t1) H1 (Zr Φ1 k F1) Ψ1 t2 σ2 s1 h2
 simp only[SH.upd hS]at b3 b6
 have shd2:∀a,SH S (Z8 σ2 k) Ψ2 a→SH S σ2 Ψ2 a:=fun a=>(SH.del hS).mp
 refine⟨v2,H2,Φ2,Ψ2,F2,by rw[hC e ρ H,a1];exact b1,by omega,ZeS a2 a3 a6 b3,b4.drop hO1,fun j w hj ej=>?_,fun a h=>ZeV a2 a6 b6 a (shd2 a h),fun s' d hs ⟨w,ew⟩ a m=>?_,b7,fun a m=>?_,fun a h=>b9 a (shd2 a h),fun hu=>⟨(b10 hu).1,fun hn s' d hs hw=>?_⟩⟩
 ·obtain⟨q,ej⟩:=ZaL ej
  obtain⟨e1,e2⟩:=b5 j w hj ej
  obtain⟨e3,e4⟩:=a5 j w hj (Zaf e1 q)
  exact⟨(ZaL e3).2,by rw[e2];simpa [Zr,q]using e4⟩
 ·rcases b11 s' d hs ⟨w,(ZaL ew).2⟩ a m with q | ⟨j,⟨w',e'⟩,mj⟩
  ·exact .inl (by omega)
  ·by_cases q:j=k
   ·subst q
    simp only[Zr,if_true]at mj
    rcases a8 a mj with q | ⟨n',_,⟨w',e'⟩,mn'⟩
    ·exact .inl q
    ·exact .inr ⟨n',⟨w',(ZaL e').2⟩,mn'⟩
   ·simp only[Zr,q,if_false]at mj
    have e1:=Zaf e' q
    by_cases hjs:∀d,(j,d)∉S
    ·obtain⟨e3,e4⟩:=a5 j w' hjs e1
     exact .inr ⟨j,⟨w',(ZaL e3).2⟩,e4▸mj⟩
    ·obtain⟨d',hd⟩:=Classical.not_forall.mp hjs
     rcases a11 j d' (Classical.not_not.mp hd) ⟨w',e1⟩ a mj with q | ⟨j',⟨w2,e2⟩,m2⟩
     ·exact .inl q
     ·exact .inr ⟨j',⟨w2,(ZaL e2).2⟩,m2⟩
 ·rcases b8 a m with q | ⟨n,hn,⟨w,e⟩,mn⟩
  ·exact .inl (by omega)
  ·by_cases q:n=k
   ·subst q
    simp only[Zr,if_true]at mn
    rcases a8 a mn with q | ⟨n',hn',⟨w',e'⟩,mn'⟩
    ·exact .inl q
    ·refine .inr ⟨n',List.mem_append_right _ ?_,⟨w',(ZaL e').2⟩,mn'⟩
     rw[if_pos hn];exact hn'
   ·simp only[Zr,q,if_false]at mn
    obtain⟨e3,e4⟩:=a5 n w (hN n hn) (Zaf e q)
    exact .inr ⟨n,Zy7 _ (Zy9.mpr ⟨hn,by simpa using q⟩),⟨w,(ZaL e3).2⟩,e4▸mn⟩
 ·obtain⟨w,ew⟩:=hw
  exact(b10 hu).2 hn s' d hs ⟨w,(ZaL ew).2⟩
theorem Zan{k:Nat}{C:Ex→Ex}{e:Ex}{p1 p2:PX}(hC:Ct k C)(x:EX O S [] true e p1)(y:EX (k::O) S N u (C (eVar k)) p2)(hS:∀q∈S,q.1≠k)(hN:∀n∈N,∀q∈S,q.1≠n): EX O S (N.filter (fun n=>n != k)) u (C e) (Z0 k p1 p2):=fun c ρ σ H Φ Ψ t σ' s h=>by
 have hS:∀d,(k,d)∉S:=fun d m=>hS _ m rfl
 have hN:∀n∈N,∀d,(n,d)∉S:=fun n hn d m=>hN n hn _ m rfl
 obtain⟨v,H',Φ',Ψ',F,a1,a2,a3,a4,a5,a6,a11,a7,a8,a9,a10⟩:=Zgk hC x y (fun i hi=>Zy3 _ hi) hS hN (fun c ρ σ σ1 H H1 Φ Ψ Φ1 Ψ1 v t F s l s1 old r fr sh un=>by
  have new1:∀a∈F,H.length≤a:=fun a m=>(fr a m).nil
  obtain⟨nd1,of1⟩:=un rfl
  refine s1.putO (fun j hj=>by rcases Zz7.mp hj with h | h;exact .inr h;exact .inl h) hS r nd1 (fun a m=>Nat.le_trans s.st.len (new1 a m)) (fun j w hj ej a m q=>?_)
  by_cases hjs:∀d,(j,d)∉S
  ·obtain⟨e1,e2⟩:=old j w hjs ej
   have:=s.low e1 a (e2▸q)
   have:=new1 a m
   omega
  ·obtain⟨d,hd⟩:=Classical.not_forall.mp hjs
   exact of1 (by simp) j d (Classical.not_not.mp hd) ⟨w,ej⟩ a q m) c ρ σ H Φ Ψ t σ' s h
 refine⟨v,H',Φ',Ψ',F,a1,a2,a3,a4,a5,a6,a11,a7,fun a m=>?_,a9,fun hu=>⟨(a10 hu).1,fun hn=>(a10 hu).2 fun n hn'=>?_⟩⟩
 ·have:=a8 a m
  have e0:(if k∈N then([]:List Nat)else [])=[]:=by split <;> rfl
  rw[e0,List.append_nil]at this
  exact this
 ·by_cases q:n=k
  ·subst q;exact⟨Zz5,hS⟩
  ·obtain⟨k1,k2⟩:=hn n (Zy9.mpr ⟨hn',by simpa using q⟩)
   exact⟨Zz2 _ k1,k2⟩
theorem Zcm{k:Nat}{N1:List Nat}{u1:Bool}{C:Ex→Ex}{e:Ex}{p1 p2:PX}(hC:Ct k C)(x:EX O S N1 u1 e p1)(y:EX O S N u (C (eVar k)) p2)(hk:k∉O)(hS:∀q∈S,q.1≠k)(hN1:∀n∈N1,n∉O∧∀q∈S,q.1≠n)(hN:∀n∈N,∀q∈S,q.1≠n): EX O S (N.filter (fun n=>n != k)++(if k∈N then N1 else [])) (u && !(N.contains k)) (C e) (Z0 k p1 p2):=fun c ρ σ H Φ Ψ t σ' s h=>by
 have hS:∀d,(k,d)∉S:=fun d m=>hS _ m rfl
 have hN:∀n∈N,∀d,(n,d)∉S:=fun n hn d m=>hN n hn _ m rfl
 have hN1':∀n∈N1,∀d,(n,d)∉S:=fun n hn d m=>(hN1 n hn).2 _ m rfl
 obtain⟨v,H',Φ',Ψ',F,a1,a2,a3,a4,a5,a6,a11,a7,a8,a9,a10⟩:=Zgk hC x y (fun i hi=>hi) hS hN (fun c ρ σ σ1 H H1 Φ Ψ Φ1 Ψ1 v t F s l s1 old r fr sh un=>by
  refine s1.putL hk hS r (fun a m=>s.st.from_src (fr a m)) (fun i hi w e a m q=>?_) sh
  obtain⟨e1,e2⟩:=old i w (s.ap i hi) e
  rw[e2]at m
  rcases fr a q with q | ⟨n,hn,⟨w',e'⟩,mn⟩
  ·have:=s.low e1 a m;omega
  ·exact(s.st.own i hi w e1).2.2 n w' (fun q=>(hN1 n hn).1 (q▸hi)) e' a m mn) c ρ σ H Φ Ψ t σ' s h
 refine⟨v,H',Φ',Ψ',F,a1,a2,a3,a4,a5,a6,a11,a7,a8,a9,fun hu=>?_⟩
 simp only[Bool.and_eq_true,Bool.not_eq_true',List.contains_eq_mem,decide_eq_false_iff_not]at hu
 refine⟨(a10 hu.1).1,fun hn=>(a10 hu.1).2 fun n hn'=>hn n ?_⟩
 exact Zz4 _ (Zy9.mpr ⟨hn',by simpa using fun q:n=k=>hu.2 (q▸hn')⟩)
end
end TM
end
section
namespace TM
open PySem PM
noncomputable def SimX(n:Nat)(sd:Sps)(fr:Bool)(f:List V→Hp→Option (V×Hp))(p:List T→Option (T×List T)): Prop:=
 ∀(H:Hp) (vs:List V) (ts:List T) (t:T) (us:List T) (Φ Ψ:Nat→List Nat),0<H.length→vs.length=n→ts.length=n →
 (∀(i:Nat) (t:T),ts[i]?=some t→∃v,vs[i]?=some v∧RF H v t (Φ i)) →
 (∀(i d:Nat),(i,d)∈sd→∀(v:V) (t:T),vs[i]?=some v→ts[i]?=some t→Sp H d v t (Ψ i)∧0∉Ψ i∧∀(j:Nat) (u:T),j≠i→ts[j]?=some u→∀a∈Ψ i,a∉Φ j) →
 p ts=some (t,us) →
 ∃(v:V) (H':Hp) (Φ' Ψ':Nat→List Nat) (F:List Nat),f vs H=some (v,H')∧H.length≤H'.length∧(∀a,a<H.length→(∀i d,(i,d)∈sd→a∉Ψ i)→H'[a]?=H[a]?)∧us.length=sd.length ∧
 (∀(k i d:Nat) (v:V) (u:T),sd[k]?=some (i,d)→vs[i]?=some v→us[k]?=some u→RF H' v u (Φ' i)∧Sp H' d v u (Ψ' i)∧(∀a∈Ψ' i,H.length≤a∨a∈Ψ i)∧(∀a∈Φ' i,H.length≤a∨∃j,j<n∧a∈Φ j)∧(∀a∈Ψ' i,a∉F)∧(∀j d',j≠i→(j,d')∈sd→∀a∈Ψ' i,a∉Φ' j)∧(fr=true→∀a∈Φ' i,a∉F)) ∧
 RF H' v t F∧(∀a∈F,H.length≤a∨∃j,j<n∧a∈Φ j)∧(fr=true→F.Nodup∧∀a∈F,H.length≤a)
noncomputable def XAs(O M:List Nat)(as:List (Option Nat))(es:ZW)(ps:PEs): Prop:=∀(c:Ctx) (ρ:Lc) (σ:TL) (H:Hp) (Φ:Nat→List Nat) (ts:List T),St c O ρ σ H Φ→ps σ=some ts→ts.length=as.length∧∃(vs:List V) (X:Hp),es ρ H=some (vs,H++X)∧vs.length=as.length∧(∀(i x:Nat),as[i]?=some (some x)→vs[i]?=ρ x∧ts[i]?=σ x)∧∀(i:Nat) (t:T),as[i]?=some none→ts[i]?=some t→∃v F,vs[i]?=some v∧RF (H++X) v t F∧∀a∈F,From H M σ Φ a
section
variable {O M:List Nat}
theorem XAs.nil: XAs O M [] eNil Zq:=fun c ρ σ H Φ ts s h=>by
 cases h
 exact⟨rfl,[],[],by simp[eNil],rfl,by simp,by simp⟩
theorem XAs.slot{x:Nat}{as:List (Option Nat)}{es:ZW}{ps:PEs}(y:XAs O M as es ps): XAs O M (some x::as) (eCons (eVar x) es) (Zd (Zc x) ps):=fun c ρ σ H Φ ts s h=>by
 obtain⟨t,h1,h⟩:=Zz0.mp h
 obtain⟨rs,h2,h⟩:=Zz0.mp h
 cases h
 obtain⟨v,e1,_⟩:=s.slot x t h1
 obtain⟨l,vs,X,a1,a2,a3,a4⟩:=y c ρ σ H Φ rs s h2
 refine⟨by simp[l],v::vs,X,by simp[eCons,eVar,e1,a1],by simp[a2],fun i z e=>?_,fun i t' e e'=>?_⟩
 ·cases i with
  | zero=>simp at e;subst e;exact⟨by simp[e1],by rw[List.getElem?_cons_zero];exact h1.symm⟩
  | succ i=>simpa using a3 i z (by simpa using e)
 ·cases i with
  | zero=>simp at e
  | succ i=>simpa using a4 i t' (by simpa using e) (by simpa using e')
theorem ZC{N:List Nat}{u:Bool}{e:Ex}{p:PE}{as:List (Option Nat)}{es:ZW}{ps:PEs}(x:E O N u e p)(hN:∀n∈N,n∈M)(y:XAs O M as es ps): XAs O M (none::as) (eCons e es) (Zd p ps):=fun c ρ σ H Φ ts s h=>by
 obtain⟨t,h1,h⟩:=Zz0.mp h
 obtain⟨rs,h2,h⟩:=Zz0.mp h
 cases h
 obtain⟨v,X,F,e1,e2,e3,_⟩:=x c ρ σ H Φ t s h1
 obtain⟨l,vs,Y,a1,a2,a3,a4⟩:=y c ρ σ (H++X) Φ rs (s.ext X) h2
 refine⟨by simp[l],v::vs,X++Y,by simp[eCons,e1,a1],by simp[a2],fun i z e=>?_,fun i t' e e'=>?_⟩
 ·cases i with
  | zero=>simp at e
  | succ i=>simpa using a3 i z (by simpa using e)
 ·cases i with
  | zero=>
   simp at e'
   subst e'
   exact⟨v,F,by simp,by rw[←List.append_assoc];exact e2.ext Y,fun a m=>(e3 a m).mono hN⟩
  | succ i=>
   obtain⟨w,G,k1,k2,k3⟩:=a4 i t' (by simpa using e) (by simpa using e')
   exact⟨w,G,by simpa using k1,by rw[←List.append_assoc];exact k2,fun a m=>(k3 a m).back⟩
end
noncomputable def pick{α:Type}: List Nat→List α→(Nat→α)→Nat→α
 | x::xs,u::us,g=>fun j=>if j=x then u else pick xs us g j
 | _,_,g=>g
theorem ZdU{α:Type}{g:Nat→α}: ∀{xs:List Nat} {us:List α},xs.length=us.length→∀j,(∃(k:Nat) (u:α),xs[k]?=some j∧us[k]?=some u∧pick xs us g j=u)∨(j∉xs∧pick xs us g j=g j)
 | [],[],_,j=>.inr ⟨by simp,rfl⟩
 | x::xs,u::us,h,j=>by
  by_cases q:j=x
  ·exact .inl ⟨0,u,by simp[q],by simp,by simp[pick,q]⟩
  ·rcases ZdU (g:=g) (xs:=xs) (us:=us) (by simpa using h) j with⟨k,w,h1,h2,h3⟩ | ⟨h1,h2⟩
   ·exact .inl ⟨k+1,w,by simpa using h1,by simpa using h2,by simpa [pick,q]using h3⟩
   ·exact .inr ⟨by simp[q,h1],by simpa [pick,q]using h2⟩
theorem ZgH{α:Type}{g:Nat→α}: ∀{xs:List Nat} {us:List α} {k j:Nat} {u:α},xs.Nodup→xs[k]?=some j→us[k]?=some u→pick xs us g j=u
 | [],_,_,_,_,_,h,_=>by simp at h
 | x::xs,[],_,_,_,_,_,h=>by simp at h
 | x::xs,w::us,0,j,u,nd,h1,h2=>by
  simp at h1 h2
  simp[pick,h1,h2]
 | x::xs,w::us,k+1,j,u,nd,h1,h2=>by
  simp at h1 h2
  have:j≠x:=fun q=>(List.nodup_cons.mp nd).1 (q▸Zy4 h1)
  simp only[pick,this,if_false]
  exact ZgH (List.nodup_cons.mp nd).2 h1 h2
noncomputable def ZJ(b:Bool)(xs:List Nat)(p:List T→Option (T×List T))(ps:PEs): PX:=fun σ=>(ps σ).bind fun ts=>(p ts).bind fun r=>if b=true→r.1.flat=true then some (r.1,pick xs (r.2.map some) σ)else none
section
variable {O M:List Nat} {S:Sps}
theorem EX.call{n:Nat}{sd:Sps}{fr b:Bool}{f:List V→Hp→Option (V×Hp)}{p:List T→Option (T×List T)}{as:List (Option Nat)}{es:ZW}{ps:PEs}{xs:List Nat}(k:SimX n sd fr f p)(y:XAs O M as es ps)(hb:fr=true∨b=true:=by decide)(hn:as.length=n:=by decide)
  (hx:xs.length=sd.length:=by decide) (nd:xs.Nodup:=by decide) (hS:∀k,k<sd.length→(xs.getD k 0,(sd.getD k (0,0)).2)∈S∧as[(sd.getD k (0,0)).1]?=some (some (xs.getD k 0)):=by decide) (ha:∀i,i<as.length→(as.getD i none=none∨i∈sd.map (·.1)):=by decide) (nds:(sd.map (·.1)).Nodup:=by decide)
  (uq:∀q∈S,∀r∈S,q.1=r.1→q.2=r.2:=by decide) (hM:∀m∈M,m∉O∧∀q∈S,q.1≠m:=by decide):EX O S [] true (Ze f es) (ZJ b xs p ps):=fun c ρ σ H Φ Ψ t σ' s h=>by
 have hM':∀m∈M,∀d,(m,d)∉S:=fun m hm d q=>(hM m hm).2 _ q rfl
 have at_k:∀(k i d:Nat),sd[k]?=some (i,d)→∃x,xs[k]?=some x∧(x,d)∈S∧as[i]?=some (some x):=fun k i d e=>by
  have hk:=(Zz6.mp e).1
  obtain⟨h1,h2⟩:=hS k hk
  have e1:sd.getD k (0,0)=(i,d):=by simp[List.getD,e]
  rw[e1]at h1 h2
  have:k<xs.length:=by omega
  refine⟨xs[k],Zy1 this,?_,?_⟩
  ·simpa [List.getD,Zy1 this]using h1
  ·simpa [List.getD,Zy1 this]using h2
 have slotS:∀(i x:Nat),as[i]?=some (some x)→∃(k d:Nat),sd[k]?=some (i,d)∧xs[k]?=some x∧(x,d)∈S:=fun i x e=>by
  have hi:=(Zz6.mp e).1
  rcases ha i hi with q | q
  ·simp[List.getD,e]at q
  ·obtain⟨k,hk,q⟩:=List.getElem_of_mem q
   rw[List.length_map]at hk
   have q:(sd.getD k (0,0)).1=i:=by simpa [List.getD,Zy1 hk]using q
   have e1:sd[k]?=some (i,(sd.getD k (0,0)).2):=by
    rw[Zy1 hk]
    have:sd.getD k (0,0)=sd[k]:=by simp[List.getD,Zy1 hk]
    rw[this]at q ⊢
    rw[←q]
   obtain⟨x',h1,h2,h3⟩:=at_k k i _ e1
   rw[e]at h3
   cases h3
   exact⟨k,_,e1,h1,h2⟩
 obtain⟨ts,h1,h⟩:=Zz0.mp h
 obtain⟨⟨t0,us⟩,h2,h⟩:=Zz0.mp h
 split at h
 case isFalse=>cases h
 rename_i hfl
 cases h
 obtain⟨l,vs,X,a1,a2,a3,a4⟩:=y c.toCtx ρ σ H Φ ts s.st h1
 have sX:=s.ext X
 have len:(H++X).length=H.length+X.length:=List.length_append
 have ex:∀i:Nat,∃G:List Nat,∀t:T,ts[i]?=some t→∃v,vs[i]?=some v∧RF (H++X) v t G∧(as[i]?=some none→∀a∈G,From H M σ Φ a)∧∀x,as[i]?=some (some x)→G=Φ x:=fun i=>by
  cases e:as[i]? with
  | none=>exact⟨[],fun t et=>by
    have:=(Zz6.mp et).1
    have:=List.getElem?_eq_none_iff.mp e
    omega⟩
  | some o=>
   cases o with
   | none=>
    cases et:ts[i]? with
    | none=>exact⟨[],fun t q=>by cases q⟩
    | some t=>
     obtain⟨v,F,k1,k2,k3⟩:=a4 i t e et
     exact⟨F,fun t' q=>by cases q;exact⟨v,k1,k2,(fun _=>k3),(fun x q=>by cases q)⟩⟩
   | some x=>
    obtain⟨k1,k2⟩:=a3 i x e
    refine⟨Φ x,fun t q=>?_⟩
    rw[k2]at q
    obtain⟨v,e1,e2⟩:=sX.st.slot x t q
    exact⟨v,k1.trans e1,e2,(fun q=>by cases q),(fun x' q=>by cases q;rfl)⟩
 let Φc:Nat→List Nat:=fun i=>Classical.choose (ex i)
 have hΦ:∀(i:Nat) (t:T),ts[i]?=some t→∃v,vs[i]?=some v∧RF (H++X) v t (Φc i)∧(as[i]?=some none→∀a∈Φc i,From H M σ Φ a)∧∀x,as[i]?=some (some x)→Φc i=Φ x:=fun i=>Classical.choose_spec (ex i)
 let Ψc:Nat→List Nat:=fun i=>match as[i]? with
  | some (some x)=>Ψ x
  | _=>[]
 have hΨ:∀(i x:Nat),as[i]?=some (some x)→Ψc i=Ψ x:=fun i x e=>by simp only[Ψc,e]
 have hp:0<(H++X).length:=by have:=s.st.pos;have:=s.st.len;omega
 have argsrc:∀j,j<n→∀a∈Φc j,H.length≤a∨(∃x d,(x,d)∈S∧x∈xs∧(∃t,σ x=some t)∧a∈Φ x)∨∃m∈M,(∃t,σ m=some t)∧a∈Φ m:=fun j hj a m=>by
  have hjt:j<ts.length:=by omega
  obtain⟨v,k1,k2,k3,k4⟩:=hΦ j ts[j] (Zy1 hjt)
  have hja:j<as.length:=by omega
  cases e:as[j]? with
  | none=>have:=List.getElem?_eq_none_iff.mp e;omega
  | some o=>
   cases o with
   | none=>
    rcases k3 e a m with q | q
    ·exact .inl q
    ·exact .inr (.inr q)
   | some x=>
    obtain⟨k,d,q1,q2,q3⟩:=slotS j x e
    have:=k4 x e
    rw[this]at m
    obtain⟨_,et⟩:=a3 j x e
    exact .inr (.inl ⟨x,d,q3,Zy4 q2,⟨ts[j],by rw[←et];exact Zy1 hjt⟩,m⟩)
 obtain⟨v,H',Φ',Ψ',F,b1,b2,b3,b4,b5,b6,b7,b8⟩:=k (H++X) vs ts t0 us Φc Ψc hp (by omega) (by omega) (fun i t e=>by
   obtain⟨v,k1,k2,_⟩:=hΦ i t e
   exact⟨v,k1,k2⟩) (fun i d hi v t ev et=>by
   obtain⟨k,hk,ek⟩:=List.getElem_of_mem hi
   obtain⟨x,x1,x2,x3⟩:=at_k k i d (by rw[Zy1 hk,ek])
   obtain⟨e1,e2⟩:=a3 i x x3
   rw[e1]at ev
   rw[e2]at et
   obtain⟨v',q1,q2,q3,q4⟩:=sX.sp x d x2 t et
   rw[ev]at q1
   cases q1
   rw[hΨ i x x3]
   refine⟨q2,fun m=>?_,fun j u hj ej a m q=>?_⟩
   ·have:=s.st.pos
    rcases q3 0 m with q | q
    ·omega
    ·exact s.st.f0 (c.fs _ _ q)
   ·obtain⟨v',k1,k2,k3,k4⟩:=hΦ j u ej
    have hjn:j<as.length:=by have:=(Zz6.mp ej).1;omega
    cases e:as[j]? with
    | none=>have:=List.getElem?_eq_none_iff.mp e;omega
    | some o=>
     cases o with
     | none=>
      rcases k3 e a q with q | ⟨m',hm',⟨tm,em⟩,mm⟩
      ·have:=s.low et a (s.up x2 et a m);omega
      ·exact q4 m' tm (fun q=>hM' m' hm' d (q▸x2)) em a m mm
     | some z=>
      rw[k4 z e]at q
      obtain⟨_,ez⟩:=a3 j z e
      obtain⟨k',d',z1,z2,z3⟩:=slotS j z e
      have:z≠x:=fun q=>by
       subst q
       have hk1:=(Zz6.mp z2).1
       have:k'=k:=(List.getElem?_inj hk1 nd).mp (z2.trans x1.symm)
       subst this
       rw[Zy1 hk,ek]at z1
       cases z1
       exact hj rfl
      exact q4 z u this (by rw[←ez];exact ej) a m q) h2
 have same:∀a,a<H.length→(∀x∈xs,a∉Ψ x)→H'[a]?=H[a]?:=fun a ha hn=>by
  rw[b3 a (by omega) fun i d hi m=>?_,Zy0 ha]
  obtain⟨k,hk,ek⟩:=List.getElem_of_mem hi
  obtain⟨x,x1,x2,x3⟩:=at_k k i d (by rw[Zy1 hk,ek])
  rw[hΨ i x x3]at m
  exact hn x (Zy4 x1) m
 have lus:xs.length=(us.map some).length:=by simp[b4,hx]
 have lsd1:xs.length=(sd.map fun q=>Φ' q.1).length:=by simp[hx]
 have lsd2:xs.length=(sd.map fun q=>Ψ' q.1).length:=by simp[hx]
 have chg:∀(kk x:Nat) (w:T),xs[kk]?=some x→us[kk]?=some w→∃(i d:Nat) (v0:V) (t0:T),sd[kk]?=some (i,d)∧(x,d)∈S∧as[i]?=some (some x)∧ρ x=some v0∧σ x=some t0∧vs[i]?=some v0∧pick xs (sd.map fun q=>Φ' q.1) Φ x=Φ' i∧pick xs (sd.map fun q=>Ψ' q.1) Ψ x=Ψ' i:=fun kk x w ex' ew=>by
  have hk:kk<sd.length:=by have:=(Zz6.mp ex').1;omega
  obtain⟨x',x1,x2,x3⟩:=at_k kk sd[kk].1 sd[kk].2 (Zy1 hk)
  rw[ex']at x1
  cases x1
  obtain⟨e1,e2⟩:=a3 _ x x3
  have hi:sd[kk].1<as.length:=(Zz6.mp x3).1
  have et:σ x=some ts[sd[kk].1]:=by rw[←e2];exact Zy1 (by omega)
  obtain⟨v0,ev0,_⟩:=s.st.slot x _ et
  refine⟨sd[kk].1,sd[kk].2,v0,_,Zy1 hk,x2,x3,ev0,et,e1.trans ev0,ZgH nd ex' (by simp[Zy1 hk]),ZgH nd ex' (by simp[Zy1 hk])⟩
 have unch:∀j,j∉xs→pick xs (us.map some) σ j=σ j∧pick xs (sd.map fun q=>Φ' q.1) Φ j=Φ j∧pick xs (sd.map fun q=>Ψ' q.1) Ψ j=Ψ j:=fun j hj=>by
  refine⟨?_,?_,?_⟩
  ·rcases ZdU (g:=σ) lus j with⟨k,u,q,_⟩ | ⟨_,q⟩
   ·exact absurd (Zy4 q) hj
   ·exact q
  ·rcases ZdU (g:=Φ) lsd1 j with⟨k,u,q,_⟩ | ⟨_,q⟩
   ·exact absurd (Zy4 q) hj
   ·exact q
  ·rcases ZdU (g:=Ψ) lsd2 j with⟨k,u,q,_⟩ | ⟨_,q⟩
   ·exact absurd (Zy4 q) hj
   ·exact q
 have slot_cases:∀(j:Nat) (w:T),pick xs (us.map some) σ j=some w→(∃kk:Nat,xs[kk]?=some j∧us[kk]?=some w)∨(j∉xs∧σ j=some w):=fun j w e=>by
  rcases ZdU (g:=σ) lus j with⟨k,u,q1,q2,q3⟩ | ⟨q1,q2⟩
  ·rw[q3]at e
   subst e
   rw[List.getElem?_map]at q2
   obtain⟨z,z1,z2⟩:=Zz1.mp q2
   cases z2
   exact .inl ⟨k,q1,z1⟩
  ·exact .inr ⟨q1,by rw[←q2];exact e⟩
 have xsS:∀x∈xs,∃d,(x,d)∈S:=fun x hx'=>by
  obtain⟨k,hk,e⟩:=List.getElem_of_mem hx'
  obtain⟨x',x1,x2,x3⟩:=at_k k sd[k].1 sd[k].2 (Zy1 (by omega))
  rw[Zy1 hk,e]at x1
  cases x1
  exact⟨_,x2⟩
 have xsσ:∀x∈xs,∃t,σ x=some t:=fun x hx'=>by
  obtain⟨k,hk,e⟩:=List.getElem_of_mem hx'
  have hu:k<us.length:=by omega
  obtain⟨_,_,_,t',_,_,_,_,q,_⟩:=chg k x us[k] (by rw[Zy1 hk,e]) (Zy1 hu)
  exact⟨t',q⟩
 have xsΨ:∀x∈xs,∀j u,j≠x→σ j=some u→∀a∈Ψ x,a∉Φ j:=fun x hx' j u hj ej a m=>by
  obtain⟨d,hd⟩:=xsS x hx'
  obtain⟨t',et⟩:=xsσ x hx'
  exact(s.sp x d hd t' et).choose_spec.2.2.2 j u hj ej a m
 have spsrc:∀i' d',(i',d')∈sd→∀a∈Ψc i',∃x∈xs,a∈Ψ x:=fun i' d' hi a m=>by
  obtain⟨k,hk,ek⟩:=List.getElem_of_mem hi
  obtain⟨x,x1,x2,x3⟩:=at_k k i' d' (by rw[Zy1 hk,ek])
  rw[hΨ i' x x3]at m
  exact⟨x,Zy4 x1,m⟩
 have fnew:∀a∈F,H.length≤a:=fun a m=>by
  rcases hb with q | q
  ·have:=(b8 q).2 a m;omega
  ·have:=b6.flat (hfl q);rw[this]at m;cases m
 have keepsl:∀j w,j∉xs→σ j=some w→∀a∈Φ j,H'[a]?=H[a]?:=fun j w hj ej a m=>same a (s.low ej a m) fun x hx' q=>xsΨ x hx' j w (fun e=>hj (e▸hx')) ej a q m
 have foff:∀x∈xs,∀(kk:Nat) (w:T),xs[kk]?=some x→us[kk]?=some w→∀a∈pick xs (sd.map fun q=>Φ' q.1) Φ x,H.length≤a∨(∃x d,(x,d)∈S∧x∈xs∧(∃t,σ x=some t)∧a∈Φ x)∨∃m∈M,(∃t,σ m=some t)∧a∈Φ m:=fun x hx' kk w ex' ew a m=>by
  obtain⟨i,d,v0,t1,q1,q2,q3,q4,q5,q6,q7,q8⟩:=chg kk x w ex' ew
  rw[q7]at m
  rcases(b5 kk i d v0 w q1 q6 ew).2.2.2.1 a m with q | ⟨j,hj,q⟩
  ·exact .inl (by omega)
  ·exact argsrc j hj a q
 refine⟨v,H',pick xs (sd.map fun q=>Φ' q.1) Φ,pick xs (sd.map fun q=>Ψ' q.1) Ψ,F,by simp only[Ze,a1,Zs0,b1],by omega,fun a ha hn=>same a ha fun x hx' m=>?_,?_,fun j w hj ej=>?_,fun a hh=>?_,fun s' d hs ⟨w,ew⟩ a m=>?_,b6,fun a m=>.inl (fnew a m),fun a hh m=>?_,fun _=>⟨?_,fun _ s' d hs ⟨w,ew⟩ a m q=>?_⟩⟩
 ·obtain⟨d,hd⟩:=xsS x hx'
  exact hn ⟨x,d,hd,xsσ x hx',m⟩
 ·refine⟨⟨fun j w ej=>?_,fun j w ej a m=>?_,fun i hi w ei=>?_,by have:=s.st.len;omega,fun a ha hn=>?_,s.st.pos,s.st.f0⟩,fun i d hi w ei=>?_,s.ap,fun i hi w ei=>?_⟩
  ·rcases slot_cases j w ej with⟨kk,e1,e2⟩ | ⟨e1,e2⟩
   ·obtain⟨i,d,v0,t1,q1,q2,q3,q4,q5,q6,q7,q8⟩:=chg kk j w e1 e2
    rw[q7]
    exact⟨v0,q4,(b5 kk i d v0 w q1 q6 e2).1⟩
   ·obtain⟨v0,r1,r2⟩:=s.st.slot j w e2
    rw[(unch j e1).2.1]
    exact⟨v0,r1,r2.frame (keepsl j w e1 e2)⟩
  ·rcases slot_cases j w ej with⟨kk,e1,e2⟩ | ⟨e1,e2⟩
   ·rcases foff j (Zy4 e1) kk w e1 e2 a m with q | ⟨x,d,_,_,⟨t1,et⟩,mx⟩ | ⟨m',_,⟨tm,em⟩,mm⟩
    ·exact .inl (by have:=s.st.len;omega)
    ·exact s.st.src x t1 et a mx
    ·exact s.st.src m' tm em a mm
   ·rw[(unch j e1).2.1]at m
    exact s.st.src j w e2 a m
  ·have hix:i∉xs:=fun q=>by obtain⟨d,hd⟩:=xsS i q;exact s.ap i hi d hd
   obtain⟨u1,u2,_⟩:=unch i hix
   rw[u1]at ei
   rw[u2]
   obtain⟨o1,o2,o3⟩:=s.st.own i hi w ei
   refine⟨o1,o2,fun j z hj ej a m q=>?_⟩
   rcases slot_cases j z ej with⟨kk,e1,e2⟩ | ⟨e1,e2⟩
   ·rcases foff j (Zy4 e1) kk z e1 e2 a q with q | ⟨x,d,_,hxx,⟨t1,et⟩,mx⟩ | ⟨m',hm',⟨tm,em⟩,mm⟩
    ·have:=s.low ei a m;omega
    ·exact o3 x t1 (fun q=>hix (q▸hxx)) et a m mx
    ·exact o3 m' tm (fun q=>(hM m' hm').1 (q▸hi)) em a m mm
   ·rw[(unch j e1).2.1]at q
    exact o3 j z hj e2 a m q
  ·rw[same a (by have:=s.st.len;omega) fun x hx' m=>?_]
   ·exact s.st.keep a ha hn
   ·obtain⟨d,hd⟩:=xsS x hx'
    obtain⟨t',et⟩:=xsσ x hx'
    rcases(s.sp x d hd t' et).choose_spec.2.2.1 a m with q | q
    ·omega
    ·exact hn (c.fs _ _ q)
  ·rcases slot_cases i w ei with⟨kk,e1,e2⟩ | ⟨e1,e2⟩
   ·obtain⟨i',d',v0,t1,q1,q2,q3,q4,q5,q6,q7,q8⟩:=chg kk i w e1 e2
    have:d=d':=uq _ hi _ q2 rfl
    subst this
    obtain⟨c1,c2,c3,c4,c5,c6,c7⟩:=b5 kk i' d v0 w q1 q6 e2
    rw[q8]
    refine⟨v0,q4,c2,fun a m=>?_,fun j z hj ej a m q=>?_⟩
    ·rcases c3 a m with q | q
     ·exact .inl (by have:=s.st.len;omega)
     ·rw[hΨ i' i q3]at q
      exact(s.sp i d hi t1 q5).choose_spec.2.2.1 a q
    ·rcases slot_cases j z ej with⟨kj,f1,f2⟩ | ⟨f1,f2⟩
     ·obtain⟨ij,dj,vj,tj,r1,r2,r3,r4,r5,r6,r7,r8⟩:=chg kj j z f1 f2
      rw[r7]at q
      have hne:ij≠i':=fun e=>by
       subst e
       have hk1:kj<(sd.map (·.1)).length:=by simp;exact(Zz6.mp r1).1
       have:kj=kk:=(List.getElem?_inj hk1 nds).mp (by simp[List.getElem?_map,r1,q1])
       subst this
       rw[e1]at f1
       cases f1
       exact hj rfl
      exact c6 ij dj hne (Zy4 r1) a m q
     ·rw[(unch j f1).2.1]at q
      rcases c3 a m with q' | q'
      ·have:=s.low f2 a q;omega
      ·rw[hΨ i' i q3]at q'
       exact xsΨ i (Zy4 e1) j z hj f2 a q' q
   ·obtain⟨u1,u2,u3⟩:=unch i e1
    rw[u3]
    obtain⟨v0,p1,p2,p3,p4⟩:=s.sp i d hi w e2
    obtain⟨v0',r1,r2⟩:=s.st.slot i w e2
    rw[p1]at r1
    cases r1
    refine⟨v0,p1,p2.frame r2 (keepsl i w e1 e2),p3,fun j z hj ej a m q=>?_⟩
    rcases slot_cases j z ej with⟨kj,f1,f2⟩ | ⟨f1,f2⟩
    ·rcases foff j (Zy4 f1) kj z f1 f2 a q with q | ⟨x,dx,_,hxx,⟨t1,et⟩,mx⟩ | ⟨m',hm',⟨tm,em⟩,mm⟩
     ·have:=s.low e2 a (s.up hi e2 a m);omega
     ·exact p4 x t1 (fun q=>e1 (q▸hxx)) et a m mx
     ·exact p4 m' tm (fun q=>hM' m' hm' d (q▸hi)) em a m mm
    ·rw[(unch j f1).2.1]at q
     exact p4 j z hj f2 a m q
  ·have hix:i∉xs:=fun q=>by obtain⟨d,hd⟩:=xsS i q;exact s.ap i hi d hd
   obtain⟨u1,u2,_⟩:=unch i hix
   rw[u1]at ei
   rw[u2]
   exact s.nw i hi w ei
 ·have hjx:j∉xs:=fun q=>by obtain⟨d,hd⟩:=xsS j q;exact hj d hd
  obtain⟨u1,u2,u3⟩:=unch j hjx
  exact⟨by rw[←u1];exact ej,u2⟩
 ·obtain⟨i,d,hi,⟨w,ei⟩,m⟩:=hh
  rcases slot_cases i w ei with⟨kk,e1,e2⟩ | ⟨e1,e2⟩
  ·obtain⟨i',d',v0,t1,q1,q2,q3,q4,q5,q6,q7,q8⟩:=chg kk i w e1 e2
   rw[q8]at m
   rcases(b5 kk i' d' v0 w q1 q6 e2).2.2.1 a m with q | q
   ·exact .inl (by omega)
   ·rw[hΨ i' i q3]at q
    exact .inr ⟨i,d',q2,⟨t1,q5⟩,q⟩
  ·rw[(unch i e1).2.2]at m
   exact .inr ⟨i,d,hi,⟨w,e2⟩,m⟩
 ·rcases slot_cases s' w ew with⟨kk,e1,e2⟩ | ⟨e1,e2⟩
  ·rcases foff s' (Zy4 e1) kk w e1 e2 a m with q | ⟨x,d,_,_,ht,mx⟩ | ⟨m',_,ht,mm⟩
   ·exact .inl q
   ·exact .inr ⟨x,ht,mx⟩
   ·exact .inr ⟨m',ht,mm⟩
  ·rw[(unch s' e1).2.1]at m
   exact .inr ⟨s',⟨w,e2⟩,m⟩
 ·obtain⟨i,d,hi,⟨w,ei⟩,m'⟩:=hh
  rcases slot_cases i w ei with⟨kk,e1,e2⟩ | ⟨e1,e2⟩
  ·obtain⟨i',d',v0,t1,q1,q2,q3,q4,q5,q6,q7,q8⟩:=chg kk i w e1 e2
   rw[q8]at m'
   exact(b5 kk i' d' v0 w q1 q6 e2).2.2.2.2.1 a m' m
  ·rw[(unch i e1).2.2]at m'
   have:=s.low e2 a (s.up hi e2 a m')
   have:=fnew a m
   omega
 ·rcases hb with q | q
  ·exact(b8 q).1
  ·have:=b6.flat (hfl q);rw[this];exact List.nodup_nil
 ·rcases slot_cases s' w ew with⟨kk,e1,e2⟩ | ⟨e1,e2⟩
  ·obtain⟨i',d',v0,t1,q1,q2,q3,q4,q5,q6,q7,q8⟩:=chg kk s' w e1 e2
   rw[q7]at m
   rcases hb with qb | qb
   ·exact(b5 kk i' d' v0 w q1 q6 e2).2.2.2.2.2.2 qb a m q
   ·have:=b6.flat (hfl qb);rw[this]at q;cases q
  ·rw[(unch s' e1).2.1]at m
   have:=s.low e2 a m
   have:=fnew a q
   omega
end
end TM
end
section
namespace TM
open PySem PM
noncomputable def HU(O:List Nat)(S:Sps)(σ:TL)(Φ Ψ:Nat→List Nat)(a:Nat): Prop:=Held O σ Φ a∨SH S σ Ψ a
noncomputable def AftU(c:Cu)(O:List Nat)(S:Sps)(O':List Nat)(S' SR:Sps)(fr:Bool)(ρ:Lc)(σ:TL)(H:Hp)(Φ Ψ:Nat→List Nat)(g:Option (Option V×Lc×Hp))(r:Option T×TL): Prop:=
 ∃(ρ':Lc) (H':Hp) (Φ' Ψ':Nat→List Nat),H.length≤H'.length∧(∀a,a<H.length→¬HU O S σ Φ Ψ a→H'[a]?=H[a]?)∧(∀q∈SR,ρ' q.1=ρ q.1) ∧
  ((r.1=none∧g=some (none,ρ',H')∧Su c O' S' ρ' r.2 H' Φ' Ψ'∧∀a,HU O' S' r.2 Φ' Ψ' a→H.length≤a∨HU O S σ Φ Ψ a) ∨
  ∃t v F,r.1=some t∧g=some (some v,ρ',H')∧RF H' v t F∧Su c [] SR ρ' r.2 H' Φ' Ψ'∧(∀a∈F,c.H0.length≤a∨c.P a)∧(∀a,SH SR r.2 Ψ' a→a∉F)∧(fr=true→F.Nodup∧(∀a∈F,c.H0.length≤a)∧∀s d,(s,d)∈SR→(∃t,r.2 s=some t)→∀a∈Φ' s,a∉F))
noncomputable def SU(O:List Nat)(S:Sps)(O':List Nat)(S' SR:Sps)(fr:Bool)(g:Sm)(q:PS): Prop:=∀(c:Cu) (ρ:Lc) (σ:TL) (H:Hp) (Φ Ψ:Nat→List Nat) (r:Option T×TL),(∀i,(∀q∈SR,q.1≠i)→c.Fs i=[])→Su c O S ρ σ H Φ Ψ→q σ=some r→AftU c O S O' S' SR fr ρ σ H Φ Ψ (g ρ H) r
section
variable {O O':List Nat} {S S' SR:Sps} {fr:Bool}
theorem HU.mono{O1:List Nat}{S1:Sps}{σ:TL}{Φ Ψ:Nat→List Nat}{a:Nat}(h:HU O S σ Φ Ψ a)(ho:∀i∈O,i∈O1)(hs:∀q∈S,q∈S1): HU O1 S1 σ Φ Ψ a:=by
 rcases h with h | ⟨i,d,hi,h⟩
 ·exact .inl (h.mono ho)
 ·exact .inr ⟨i,d,hs _ hi,h⟩
theorem HU.lt{c:Cu}{ρ:Lc}{σ:TL}{H:Hp}{Φ Ψ:Nat→List Nat}{a:Nat}(s:Su c O S ρ σ H Φ Ψ)(h:HU O S σ Φ Ψ a): a<H.length:=by
 rcases h with h | h
 ·exact h.lt s.st
 ·exact s.shlow h
theorem Zmk{O0:List Nat}{S0:Sps}{g:Sm}{q:PS}(x:SU O0 S0 O' S' SR fr g q)(h:∀i∈O0,i∈O)(k:∀q∈S0,q∈S): SU O S O' S' SR fr g q:=fun c ρ σ H Φ Ψ r hc s e=>by
 obtain⟨ρ',H',Φ',Ψ',h1,h2,hr,h3⟩:=x c ρ σ H Φ Ψ r hc (s.less h k) e
 refine⟨ρ',H',Φ',Ψ',h1,fun a ha hn=>h2 a ha fun q=>hn (q.mono h k),hr,?_⟩
 rcases h3 with⟨k1,k2,k3,k4⟩ | k'
 ·exact .inl ⟨k1,k2,k3,fun a m=>(k4 a m).imp id fun q=>q.mono h k⟩
 ·exact .inr k'
theorem SU.next: SU O S O S SR fr ZN Zaj:=fun c ρ σ H Φ Ψ r hc s e=>by
 cases e
 exact⟨ρ,H,Φ,Ψ,Nat.le_refl _,fun _ _ _=>rfl,fun _ _=>rfl,.inl ⟨rfl,rfl,s,fun a m=>.inr m⟩⟩
theorem SU.seq{O1:List Nat}{S1:Sps}{a b:Sm}{p q:PS}(x:SU O S O1 S1 SR fr a p)(y:SU O1 S1 O' S' SR fr b q): SU O S O' S' SR fr (Zs a b) (Zx p q):=fun c ρ σ H Φ Ψ r hc s e=>by
 obtain⟨r1,e1,e⟩:=Zz0.mp e
 obtain⟨ρ1,H1,Φ1,Ψ1,h1,h2,hr,h3⟩:=x c ρ σ H Φ Ψ r1 hc s e1
 rcases h3 with⟨k1,k2,k3,k4⟩ | ⟨t,v,F,k1,k2,k3⟩
 ·rw[k1]at e
  obtain⟨ρ2,H2,Φ2,Ψ2,g1,g2,gr,g3⟩:=y c ρ1 r1.2 H1 Φ1 Ψ1 r hc k3 e
  refine⟨ρ2,H2,Φ2,Ψ2,Nat.le_trans h1 g1,fun a ha hn=>?_,fun q hq=>(gr q hq).trans (hr q hq),?_⟩
  ·rw[g2 a (by omega) fun q=>(k4 a q).elim (fun q=>by omega) hn,h2 a ha hn]
  ·have eg:Zs a b ρ H=b ρ1 H1:=by simp only[Zs,k2,Zs0]
   rw[eg]
   rcases g3 with⟨l1,l2,l3,l4⟩ | l
   ·refine .inl ⟨l1,l2,l3,fun a m=>?_⟩
    rcases l4 a m with q | q
    ·exact .inl (by omega)
    ·exact k4 a q
   ·exact .inr l
 ·rw[k1]at e
  cases e
  exact⟨ρ1,H1,Φ1,Ψ1,h1,h2,hr,.inr ⟨t,v,F,k1,by simp only[Zs,k2,Zs0],k3⟩⟩
noncomputable def Zad(p:PX): PS:=fun σ=>(p σ).map fun r=>(some r.1,r.2)
theorem Zh2{N:List Nat}{u:Bool}{e:Ex}{p:PX}(x:EX O S N u e p)(hR:∀q∈SR,q∈S)(hf:fr=true→u=true∧∀n∈N,n∈O∧∀d,(n,d)∉S): SU O S O' S' SR fr (ZQ e) (Zad p):=fun c ρ σ H Φ Ψ r hc s q=>by
 obtain⟨⟨t,σ1⟩,h1,h⟩:=Zz1.mp q
 subst h
 obtain⟨v,H1,Φ1,Ψ1,F,a1,a2,a3,a4,a5,a6,a11,a7,a8,a9,a10⟩:=x c ρ σ H Φ Ψ t σ1 s h1
 refine⟨ρ,H1,Φ1,Ψ1,a2,fun a ha hn=>a3 a ha fun q=>hn (.inr q),fun _ _=>rfl,.inr ⟨t,v,F,rfl,by simp only[ZQ,a1,Zs1],a7,a4.less (by simp) hR,fun a m=>s.st.from_src (a8 a m),fun a h=>a9 a ?_,fun hfr=>?_⟩⟩
 ·obtain⟨i,d,hi,h⟩:=h
  exact⟨i,d,hR _ hi,h⟩
 ·obtain⟨hu,hN⟩:=hf hfr
  refine⟨(a10 hu).1,fun a m=>?_,fun s' d hs=>(a10 hu).2 hN s' d (hR _ hs)⟩
  rcases a8 a m with q | ⟨n,hn,⟨w,e⟩,mn⟩
  ·exact Nat.le_trans s.st.len q
  ·exact s.nw n (hN n hn).1 w e a mn
theorem SU.ret{N:List Nat}{u:Bool}{e:Ex}{p:PX}(x:EX O S N u e p)(hR:∀q∈SR,q∈S): SU O S O' S' SR false (ZQ e) (Zad p):=Zh2 x hR (by simp)
theorem Zas{N:List Nat}{e:Ex}{p:PX}(x:EX O S N true e p)(hR:∀q∈SR,q∈S)(hN:∀n∈N,n∈O∧∀q∈S,q.1≠n): SU O S O' S' SR fr (ZQ e) (Zad p):=Zh2 x hR fun _=>⟨rfl,fun n hn=>⟨(hN n hn).1,fun d m=>(hN n hn).2 _ m rfl⟩⟩
noncomputable def Z1(i:Nat)(p:PX): PS:=fun σ=>(p σ).map fun r=>(none,Zw r.2 i r.1)
theorem SU.set{N:List Nat}{u:Bool}{i:Nat}{e:Ex}{p:PX}(x:EX O S N u e p)(hi:i∉O'∧(∀q∈S',q.1≠i)∧∀q∈SR,q.1≠i:=by decide)(hN:∀n∈N,n∉O'∧∀q∈S',q.1≠n:=by decide)(hO:(∀j∈O',j∈O)∧∀q∈S',q∈S:=by decide): SU O S O' S' SR fr (Zy i e) (Z1 i p):=fun c ρ σ H Φ Ψ r hc s q=>by
 obtain⟨⟨t,σ1⟩,h1,h⟩:=Zz1.mp q
 subst h
 obtain⟨v,H1,Φ1,Ψ1,F,a1,a2,a3,a4,a5,a6,a11,a7,a8,a9,a10⟩:=x c ρ σ H Φ Ψ t σ1 s h1
 have s1:=a4.less hO.1 hO.2
 have hS':∀d,(i,d)∉S':=fun d m=>hi.2.1 _ m rfl
 refine⟨upd ρ i v,H1,Zr Φ1 i F,Ψ1,a2,fun a ha hn=>a3 a ha fun q=>hn (.inr q),fun q hq=>by simp[upd,hi.2.2 q hq],.inl ⟨rfl,by simp only[Zy,a1,Zs1],s1.putL hi.1 hS' a7 (fun a m=>s.st.from_src (a8 a m)) (fun k hk w ek a m q=>?_) (fun a h=>?_),fun a h=>?_⟩⟩
 ·obtain⟨e1,e2⟩:=a5 k w (s.ap k (hO.1 k hk)) ek
  rw[e2]at m
  rcases a8 a q with q | ⟨n,hn,⟨w',e'⟩,mn⟩
  ·have:=s.low e1 a m;omega
  ·exact(s.st.own k (hO.1 k hk) w e1).2.2 n w' (fun q=>(hN n hn).1 (q▸hk)) e' a m mn
 ·obtain⟨k,d,hk,h⟩:=h
  exact a9 a ⟨k,d,hO.2 _ hk,h⟩
 ·rcases h with⟨k,hk,⟨w,ek⟩,m⟩ | h
  ·have ne:k≠i:=fun q=>hi.1 (q▸hk)
   have ek:=Zaf ek ne
   simp only[Zr,ne,if_false]at m
   obtain⟨e1,e2⟩:=a5 k w (s.ap k (hO.1 k hk)) ek
   exact .inr (.inl ⟨k,hO.1 k hk,⟨w,e1⟩,e2▸m⟩)
  ·obtain⟨k,d,hk,h⟩:=(SH.upd hS').mp h
   exact(a6 a ⟨k,d,hO.2 _ hk,h⟩).imp id .inr
theorem Zd7{c:Cu}{ρ:Lc}{σ σ1:TL}{H:Hp}{Φ Ψ Φ1:Nat→List Nat}{F:List Nat}(s:Su c O S ρ σ H Φ Ψ)(a5:∀j t,(∀d,(j,d)∉S)→σ1 j=some t→σ j=some t∧Φ1 j=Φ j)(new1:∀a∈F,H.length≤a)(of1:∀s d,(s,d)∈S→(∃t,σ1 s=some t)→∀a∈Φ1 s,a∉F)(j:Nat)(w:T)(ej:σ1 j=some w): ∀a∈F,a∉Φ1 j:=fun a m q=>by
 by_cases hjs:∀d,(j,d)∉S
 ·obtain⟨e1,e2⟩:=a5 j w hjs ej
  have:=s.low e1 a (e2▸q)
  have:=new1 a m
  omega
 ·obtain⟨d,hd⟩:=Classical.not_forall.mp hjs
  exact of1 j d (Classical.not_not.mp hd) ⟨w,ej⟩ a q m
theorem Zbg{i:Nat}{e:Ex}{p:PX}(x:EX O S [] true e p)(hi:(∀q∈S',q.1≠i)∧∀q∈SR,q.1≠i)(hO:(∀j∈O',j∈O∨j=i)∧∀q∈S',q∈S): SU O S O' S' SR fr (Zy i e) (Z1 i p):=fun c ρ σ H Φ Ψ r hc s q=>by
 obtain⟨⟨t,σ1⟩,h1,h⟩:=Zz1.mp q
 subst h
 obtain⟨v,H1,Φ1,Ψ1,F,a1,a2,a3,a4,a5,a6,a11,a7,a8,a9,a10⟩:=x c ρ σ H Φ Ψ t σ1 s h1
 have hS':∀d,(i,d)∉S':=fun d m=>hi.1 _ m rfl
 have new1:∀a∈F,H.length≤a:=fun a m=>(a8 a m).nil
 have s1:=a4.less (O':=O) (S':=S') (fun _ h=>h) hO.2
 refine⟨upd ρ i v,H1,Zr Φ1 i F,Ψ1,a2,fun a ha hn=>a3 a ha fun q=>hn (.inr q),fun q hq=>by simp[upd,hi.2 q hq],.inl ⟨rfl,by simp only[Zy,a1,Zs1],s1.putO hO.1 hS' a7 (a10 rfl).1 (fun a m=>Nat.le_trans s.st.len (new1 a m)) (fun j w _ ej=>Zd7 s a5 new1 ((a10 rfl).2 (by simp)) j w ej),fun a h=>?_⟩⟩
 rcases h with⟨k,hk,⟨w,ek⟩,m⟩ | h
 ·by_cases q:k=i
  ·subst q
   simp only[Zr,if_true]at m
   exact .inl (new1 a m)
  ·have ek:=Zaf ek q
   simp only[Zr,q,if_false]at m
   have hk:=(hO.1 k hk).resolve_right q
   obtain⟨e1,e2⟩:=a5 k w (s.ap k hk) ek
   exact .inr (.inl ⟨k,hk,⟨w,e1⟩,e2▸m⟩)
 ·obtain⟨k,d,hk,h⟩:=(SH.upd hS').mp h
  exact(a6 a ⟨k,d,hO.2 _ hk,h⟩).imp id .inr
theorem Su.putS{c:Cu}{ρ:Lc}{σ:TL}{H:Hp}{Φ Ψ:Nat→List Nat}{k d:Nat}{v:V}{t:T}{F F1:List Nat}(s:Su c O S ρ σ H Φ Ψ)(hk:k∉O)(kS:∀d,(k,d)∉S)(r:RF H v t F)(p:Sp H d v t F1)(new:∀a∈F1,c.H0.length≤a)(dis:∀j u,j≠k→σ j=some u→∀a∈F1,a∉Φ j)(hs:∀a∈F,c.H0.length≤a∨c.P a)(ho:∀i∈O,∀t',σ i=some t'→∀a∈Φ i,a∉F)(hp:∀a,SH S σ Ψ a→a∉F): Su c O ((k,d)::S) (upd ρ k v) (Zw σ k t) H (Zr Φ k F) (Zr Ψ k F1):=by
 have s1:=s.putL (v:=v) (t:=t) hk kS r hs ho hp
 refine⟨s1.st,fun i d' hi u e=>?_,fun i hi d' m=>?_,s1.nw⟩
 ·by_cases q:i=k
  ·subst q
   have:d'=d:=by
    rcases Zz7.mp hi with h | h
    ·exact(Prod.mk.inj h).2
    ·exact absurd h (kS d')
   subst this
   rcases ZdT e with⟨_,q'⟩ | ⟨q',_⟩
   ·subst q'
    refine⟨v,by simp[upd],by simpa [Zr]using p,by simpa [Zr]using fun a m=>Or.inl (new a m),fun j w hj ej a m=>?_⟩
    simp only[Zr,if_true]at m
    simpa [Zr,hj]using dis j w hj (Zaf ej hj) a m
   ·exact absurd rfl q'
  ·have hi':(i,d')∈S:=(Zz7.mp hi).resolve_left fun h=>q (Prod.mk.inj h).1
   obtain⟨w,h1,h2,h3,h4⟩:=s1.sp i d' hi' u e
   exact⟨w,h1,by simpa [Zr,q]using h2,by simpa [Zr,q]using h3,by simpa [Zr,q]using h4⟩
 ·rcases Zz7.mp m with h | h
  ·exact hk ((Prod.mk.inj h).1▸hi)
  ·exact s.ap i hi d' h
theorem Zim{i d:Nat}{e:Ex}{p:PX}(x:EX O S [] true e p)(hi:i∉O'∧(∀q∈S',q.1≠i)∧∀q∈SR,q.1≠i)(hO:(∀j∈O',j∈O)∧∀q∈S',q∈S): SU O S O' ((i,d)::S') SR fr (Zy i e) (Z1 i p):=fun c ρ σ H Φ Ψ r hc s q=>by
 obtain⟨⟨t,σ1⟩,h1,h⟩:=Zz1.mp q
 subst h
 obtain⟨v,H1,Φ1,Ψ1,F,a1,a2,a3,a4,a5,a6,a11,a7,a8,a9,a10⟩:=x c ρ σ H Φ Ψ t σ1 s h1
 have hS':∀d,(i,d)∉S':=fun d m=>hi.2.1 _ m rfl
 have new1:∀a∈F,H.length≤a:=fun a m=>(a8 a m).nil
 have s1:=a4.less hO.1 hO.2
 obtain⟨F1,p1,p2⟩:=a7.sp d (a10 rfl).1
 have off:=Zd7 s a5 new1 ((a10 rfl).2 (by simp))
 refine⟨upd ρ i v,H1,Zr Φ1 i F,Zr Ψ1 i F1,a2,fun a ha hn=>a3 a ha fun q=>hn (.inr q),fun q hq=>by simp[upd,hi.2.2 q hq],.inl ⟨rfl,by simp only[Zy,a1,Zs1],s1.putS hi.1 hS' a7 p1 (fun a m=>Nat.le_trans s.st.len (new1 a (p2 a m))) (fun j w _ ej a m=>off j w ej a (p2 a m)) (fun a m=>.inl (Nat.le_trans s.st.len (new1 a m))) (fun k hk w ek a m q=>off k w ek a q m) (fun a h q=>?_),fun a h=>?_⟩⟩
 ·obtain⟨k,d',hk,h⟩:=h
  exact a9 a ⟨k,d',hO.2 _ hk,h⟩ q
 ·rcases h with⟨k,hk,⟨w,ek⟩,m⟩ | ⟨k,d',hk,⟨w,ek⟩,m⟩
  ·have q:k≠i:=fun q=>hi.1 (q▸hk)
   have ek:=Zaf ek q
   simp only[Zr,q,if_false]at m
   obtain⟨e1,e2⟩:=a5 k w (s.ap k (hO.1 k hk)) ek
   exact .inr (.inl ⟨k,hO.1 k hk,⟨w,e1⟩,e2▸m⟩)
  ·by_cases q:k=i
   ·subst q
    simp only[Zr,if_true]at m
    exact .inl (new1 a (p2 a m))
   ·simp only[Zr,q,if_false]at m
    have hk':(k,d')∈S':=(Zz7.mp hk).resolve_left fun h=>q (Prod.mk.inj h).1
    exact(a6 a ⟨k,d',hO.2 _ hk',⟨w,Zaf ek q⟩,m⟩).imp id .inr
theorem Zln{N:List Nat}{u:Bool}{n i:Nat}{es:ZW}{ps:PEs}(x:Es O N u n es ps)(hn:n≤ZX)(hi:i∉O'∧(∀q∈S',q.1≠i)∧∀q∈SR,q.1≠i)(hN:∀n∈N,n∉O'∧∀q∈S',q.1≠n)(hO:(∀j∈O',j∈O)∧∀q∈S',q∈S): SU O S O' ((i,1)::S') SR fr (Zy i (ZM es)) (Zb0 i (Zat ps)):=fun c ρ σ H Φ Ψ r hc s q=>by
 obtain⟨t,h1,h⟩:=Zz1.mp q
 subst h
 obtain⟨ts,h1',h2⟩:=Zz1.mp h1
 subst h2
 obtain⟨hl,vs,X,G,b1,b2,b3,b4⟩:=x c.toCtx ρ σ H Φ ts s.st h1'
 have hS':∀d,(i,d)∉S':=fun d m=>hi.2.1 _ m rfl
 have lvs:=b2.length
 have e1:ZM es ρ H=some (.ref (H++X).length,(H++X)++[vs]):=by
  simp only[ZM,b1,Zs0]
  rw[if_pos (by omega)]
 have s1:=((s.ext X).ext [vs]).less hO.1 hO.2
 have hb:((H++X)++[vs])[(H++X).length]?=some vs:=by simp
 have rf:=RF.ref hb (b2.ext [vs])
 have g1:∀a∈G,a<(H++X).length:=b2.lt
 have p1:Sp ((H++X)++[vs]) 1 (.ref (H++X).length) (.lst ts) [(H++X).length]:=⟨G,RD.ref (by decide) hb (Zil (b2.ext [vs])),by simp,fun a m q=>by
  have:=g1 a q
  rw[List.mem_singleton.mp m]at this
  omega⟩
 have ll:(H++X).length=H.length+X.length:=List.length_append
 have s1:=s1.putS (k:=i) (d:=1) hi.1 hS' rf p1 (fun a m=>by have:=s.st.len;rw[List.mem_singleton.mp m];omega) (fun j w _ ej a m q=>by
   have:=s.low ej a q
   rw[List.mem_singleton.mp m]at this
   omega) (fun a m=>by
   rcases Zz7.mp m with q | q
   ·exact .inl (by have:=s.st.len;omega)
   ·exact s.st.from_src (b3 a q)) (fun k hk w ek a m q=>by
   have lo:=s.low ek a m
   rcases Zz7.mp q with q | q
   ·omega
   ·rcases b3 a q with q | ⟨n',hn',⟨w',e'⟩,mn⟩
    ·omega
    ·exact(s.st.own k (hO.1 k hk) w ek).2.2 n' w' (fun q=>(hN n' hn').1 (q▸hk)) e' a m mn) (fun a h q=>by
   obtain⟨k,d',hk,⟨w,ek⟩,m⟩:=h
   have lo:=s.low ek a (s.up (hO.2 _ hk) ek a m)
   rcases Zz7.mp q with q | q
   ·omega
   ·rcases b3 a q with q | ⟨n',hn',⟨w',e'⟩,mn⟩
    ·omega
    ·exact(s.sp k d' (hO.2 _ hk) w ek).choose_spec.2.2.2 n' w' (fun q=>(hN n' hn').2 _ hk q.symm) e' a m mn)
 refine⟨upd ρ i (.ref (H++X).length),(H++X)++[vs],_,_,by simp,fun a ha hn=>by rw[List.append_assoc,Zy0 ha],fun q hq=>by simp[upd,hi.2.2 q hq],.inl ⟨rfl,by simp only[Zy,e1,Zs1],s1,fun a h=>?_⟩⟩
 rcases h with⟨k,hk,⟨w,ek⟩,m⟩ | ⟨k,d',hk,⟨w,ek⟩,m⟩
 ·have q:k≠i:=fun q=>hi.1 (q▸hk)
  simp only[Zr,q,if_false]at m
  exact .inr (.inl ⟨k,hO.1 k hk,⟨w,Zaf ek q⟩,m⟩)
 ·by_cases q:k=i
  ·subst q
   simp only[Zr,if_true]at m
   exact .inl (by rw[List.mem_singleton.mp m];omega)
  ·simp only[Zr,q,if_false]at m
   have hk':(k,d')∈S':=(Zz7.mp hk).resolve_left fun h=>q (Prod.mk.inj h).1
   exact .inr (.inr ⟨k,d',hO.2 _ hk',⟨w,Zaf ek q⟩,m⟩)
noncomputable def Zap(b:PBX)(p q:PS): PS:=fun σ=>(b σ).bind fun x=>if x.1 then p x.2 else q x.2
theorem AftU.step{c:Cu}{ρ:Lc}{σ σ1:TL}{H H1:Hp}{Φ Ψ Φ1 Ψ1:Nat→List Nat}{g:Option (Option V×Lc×Hp)}{r:Option T×TL}(s:Su c O S ρ σ H Φ Ψ)(l:H.length≤H1.length)(a3:∀a,a<H.length→¬SH S σ Ψ a→H1[a]?=H[a]?)(a5:∀j t,(∀d,(j,d)∉S)→σ1 j=some t→σ j=some t∧Φ1 j=Φ j)(a6:∀a,SH S σ1 Ψ1 a→H.length≤a∨SH S σ Ψ a)(x:AftU c O S O' S' SR fr ρ σ1 H1 Φ1 Ψ1 g r): AftU c O S O' S' SR fr ρ σ H Φ Ψ g r:=by
 obtain⟨ρ',H',Φ',Ψ',h1,h2,hr,h3⟩:=x
 have up:∀a,HU O S σ1 Φ1 Ψ1 a→H.length≤a∨HU O S σ Φ Ψ a:=fun a h=>by
  rcases h with⟨j,hj,⟨t,e⟩,m⟩ | h
  ·obtain⟨e1,e2⟩:=a5 j t (s.ap j hj) e
   exact .inr (.inl ⟨j,hj,⟨t,e1⟩,e2▸m⟩)
  ·exact(a6 a h).imp id .inr
 refine⟨ρ',H',Φ',Ψ',by omega,fun a ha hn=>?_,hr,?_⟩
 ·rw[h2 a (by omega) fun q=>(up a q).elim (fun q=>by omega) hn,a3 a ha fun q=>hn (.inr q)]
 ·rcases h3 with⟨k1,k2,k3,k4⟩ | k
  ·refine .inl ⟨k1,k2,k3,fun a m=>?_⟩
   rcases k4 a m with q | q
   ·exact .inl (by omega)
   ·exact up a q
  ·exact .inr k
theorem Zax{t:Ts}{pb:PBX}{a b:Sm}{p q:PS}(z:BX O S t pb)(x:SU O S O' S' SR fr a p)(y:SU O S O' S' SR fr b q): SU O S O' S' SR fr (ZB t a b) (Zap pb p q):=fun c ρ σ H Φ Ψ r hc s e=>by
 obtain⟨⟨bb,σ1⟩,e1,e⟩:=Zz0.mp e
 obtain⟨H1,Φ1,Ψ1,a1,a2,a3,a4,a5,a6⟩:=z c ρ σ H Φ Ψ bb σ1 s e1
 cases bb with
 | true=>
  have:=x c ρ σ1 H1 Φ1 Ψ1 r hc a4 (by simpa using e)
  have eg:ZB t a b ρ H=a ρ H1:=by simp[ZB,a1]
  rw[eg]
  exact this.step s a2 a3 a5 a6
 | false=>
  have:=y c ρ σ1 H1 Φ1 Ψ1 r hc a4 (by simpa using e)
  have eg:ZB t a b ρ H=b ρ H1:=by simp[ZB,a1]
  rw[eg]
  exact this.step s a2 a3 a5 a6
noncomputable def Zfm(p:PX): PS:=fun σ=>(p σ).map fun r=>(none,r.2)
noncomputable def Cs(k:Nat)(K:Ex→Sm): Prop:=∀e ρ H,K e ρ H=(e ρ H).bind fun p=>(K (eVar k) (upd ρ k p.1) p.2).map fun r=>(r.1,ρ,r.2.2)
noncomputable def Kp(g:Sm): Prop:=∀ρ H r,g ρ H=some r→r.1=none∧r.2.1=ρ
noncomputable def Zfn(k:Nat)(p:PX)(q:PS): PS:=fun σ=>(p (Z8 σ k)).bind fun r=>(q (Zw r.2 k r.1)).map fun r2=>(r2.1,Z8 r2.2 k)
theorem Zlo{k:Nat}{K:Ex→Sm}{e:Ex}{p:PX}{q:PS}(hC:Cs k K)(hK:Kp (K (eVar k)))(x:EX O S [] true e p)(y:SU (k::O) S O' S' SR fr (K (eVar k)) q)(hk:(∀q∈S,q.1≠k)∧(∀q∈S',q.1≠k)∧k∉O∧k∉O')(hR:∀q∈SR,q.1≠k): SU O S O' S' SR fr (K e) (Zfn k p q):=fun c ρ σ H Φ Ψ r hc s h=>by
 have hS:∀d,(k,d)∉S:=fun d m=>hk.1 _ m rfl
 have hS':∀d,(k,d)∉S':=fun d m=>hk.2.1 _ m rfl
 obtain⟨⟨t1,σ1⟩,h1,h⟩:=Zz0.mp h
 obtain⟨⟨o,σ2⟩,h2,h⟩:=Zz1.mp h
 subst h
 have sd:=s.del k
 obtain⟨v1,H1,Φ1,Ψ1,F1,a1,a2,a3,a4,a5,a6,a11,a7,a8,a9,a10⟩:=x c ρ (Z8 σ k) H Φ Ψ t1 σ1 sd h1
 have new1:∀a∈F1,H.length≤a:=fun a m=>(a8 a m).nil
 have s1:Su c (k::O) S (upd ρ k v1) (Zw σ1 k t1) H1 (Zr Φ1 k F1) Ψ1:=a4.putO (fun j hj=>by rcases Zz7.mp hj with h | h;exact .inr h;exact .inl h) hS a7 (a10 rfl).1 (fun a m=>Nat.le_trans s.st.len (new1 a m)) (fun j w _ ej=>Zd7 sd a5 new1 ((a10 rfl).2 (by simp)) j w ej)
 obtain⟨ρ',H',Φ',Ψ',g1,g2,gr,g3⟩:=y c (upd ρ k v1) (Zw σ1 k t1) H1 (Zr Φ1 k F1) Ψ1 (o,σ2) hc s1 h2
 have up:∀a,HU (k::O) S (Zw σ1 k t1) (Zr Φ1 k F1) Ψ1 a→H.length≤a∨HU O S σ Φ Ψ a:=fun a h=>by
  rcases h with⟨j,hj,⟨t,e⟩,m⟩ | h
  ·by_cases q:j=k
   ·subst q
    simp only[Zr,if_true]at m
    exact .inl (new1 a m)
   ·simp only[Zr,q,if_false]at m
    have hj:=(Zz7.mp hj).resolve_left q
    obtain⟨e1,e2⟩:=a5 j t (s.ap j hj) (Zaf e q)
    exact .inr (.inl ⟨j,hj,⟨t,(ZaL e1).2⟩,e2▸m⟩)
  ·rcases a6 a ((SH.upd hS).mp h)with q | q
   ·exact .inl q
   ·exact .inr (.inr ((SH.del hS).mp q))
 rcases g3 with⟨k1,k2,k3,k4⟩ | ⟨t,v,F,k1,k2,_⟩
 ·have hρ:ρ'=upd ρ k v1:=(hK _ _ _ k2).2
  rw[hρ]at k2 k3
  refine⟨ρ,H',Φ',Ψ',by omega,fun a ha hn=>?_,fun _ _=>rfl,.inl ⟨k1,?_,k3.drop fun _ h=>h,fun a h=>?_⟩⟩
  ·rw[g2 a (by omega) fun q=>(up a q).elim (fun q=>by omega) hn,a3 a ha fun q=>hn (.inr ((SH.del hS).mp q))]
  ·rw[hC e ρ H,a1]
   simp only[Zs0,k2,Zs1]
  ·have h':HU O' S' σ2 Φ' Ψ' a:=by
    rcases h with⟨j,hj,⟨t,e⟩,m⟩ | h
    ·exact .inl ⟨j,hj,⟨t,(ZaL e).2⟩,m⟩
    ·exact .inr ((SH.del hS').mp h)
   rcases k4 a h' with q | q
   ·exact .inl (by omega)
   ·exact up a q
 ·have:=(hK _ _ _ k2).1
  cases this
theorem Zml{k:Nat}{C:Ex→Ex}(h:Ct k C): Cs k fun e=>ZL (C e):=fun e ρ H=>by
 simp only[ZL]
 rw[h e ρ H]
 cases e ρ H with
 | none=>rfl
 | some p=>
  simp only[Zs0]
  cases C (eVar k) (upd ρ k p.1) p.2 <;> rfl
theorem ZiQ{f:Ex}: Kp (ZL f):=fun ρ H r h=>by
 obtain⟨_,_,q⟩:=Zz1.mp h
 subst q;exact⟨rfl,rfl⟩
theorem Ct.append{k:Nat}{C:Ex→Ex}{f:Ex}(h:Ct k C)(hf:Vl k f): Ct k fun e=>Zbm f (C e):=fun e ρ H=>by
 obtain⟨g,h1,h2⟩:=hf
 simp only[Zbm,h1,h2]
 cases g ρ with
 | none=>cases e ρ H <;> rfl
 | some v=>
  simp only[Zs1,Zs0]
  rw[h e ρ H]
  cases e ρ H with
  | none=>rfl
  | some p=>rfl
theorem Zmm{N R:List Nat}{x:Nat}{g:Sm}{q:PS}(y:TM.S O O' R fr g q)(hK:Kp g)(hq:∀σ r,q σ=some r→∃t',r.2=Zbr (Zw σ x t') N)(hx:x∈O∧x∈O')(hO:∀j∈O,j∈O'∨j∈N)(hO':∀j∈O',j∈O): SU O S O' S SR fr g q:=fun c ρ σ H Φ Ψ r hc s h=>by
 obtain⟨ρ',H',Φ',h1,h2,h3⟩:=y c.toCtx ρ σ H Φ r s.st h
 obtain⟨t',er⟩:=hq σ r h
 have xS:∀d,(x,d)∉S:=s.ap x hx.1
 have old:∀j u,j≠x→r.2 j=some u→σ j=some u∧j∉N:=fun j u hj e=>by
  rw[er]at e
  obtain⟨k1,k2⟩:=ZjY e
  exact⟨Zaf k2 hj,k1⟩
 rcases h3 with⟨k1,k2,k3,k4⟩ | ⟨t,v,F,k1,k2,_⟩
 ·have hρ:ρ'=ρ:=(hK _ _ _ k2).2
  subst hρ
  have frameL:∀j u,j∉O→σ j=some u→∀a∈Φ j,H'[a]?=H[a]?:=fun j u hj ej a m=>h2 a (s.low ej a m) fun⟨i,hi,⟨w,ei⟩,mi⟩=>(s.st.own i hi w ei).2.2 j u (fun q=>hj (q▸hi)) ej a mi m
  refine⟨ρ',H',Φ',Ψ,h1,fun a ha hn=>h2 a ha fun q=>hn (.inl q),fun _ _=>rfl,.inl ⟨k1,k2,⟨k3,fun i d hi t e=>?_,fun i hi d=>s.ap i (hO' i hi) d,fun i hi t e a m=>?_⟩,fun a h=>?_⟩⟩
  ·have ix:i≠x:=fun q=>xS d (q▸hi)
   have iO:i∉O:=fun q=>s.ap i q d hi
   obtain⟨e1,_⟩:=old i t ix e
   obtain⟨v,q1,q2,q3,q4⟩:=s.sp i d hi t e1
   obtain⟨v',w1,w2⟩:=s.st.slot i t e1
   rw[q1]at w1
   cases w1
   refine⟨v,q1,q2.frame w2 (frameL i t iO e1),q3,fun j u hj ej a m q=>?_⟩
   have lo:=s.low e1 a (s.up hi e1 a m)
   have inO:∀w,r.2 j=some w→j∈O'→False:=fun w ew hjO=>by
    rcases k4 a ⟨j,hjO,⟨w,ew⟩,q⟩with q | ⟨z,hz,⟨tz,ez⟩,mz⟩
    ·omega
    ·exact q4 z tz (fun q=>iO (q▸hz)) ez a m mz
   by_cases jx:j=x
   ·exact inO u ej (jx▸hx.2)
   ·obtain⟨e2,jN⟩:=old j u jx ej
    by_cases jO:j∈O
    ·rcases hO j jO with z | z
     ·exact inO u ej z
     ·exact jN z
    ·obtain⟨vj,w1,w2⟩:=s.st.slot j u e2
     obtain⟨vj',w3,w4⟩:=k3.slot j u ej
     rw[w1]at w3
     cases w3
     obtain⟨_,ef⟩:=w4.det (w2.frame (frameL j u jO e2))
     rw[ef]at q
     exact q4 j u hj e2 a m q
  ·rcases k4 a ⟨i,hi,⟨t,e⟩,m⟩with q | ⟨j,hj,⟨w,ej⟩,mj⟩
   ·exact Nat.le_trans s.st.len q
   ·exact s.nw j hj w ej a mj
  ·rcases h with h | ⟨i,d,hi,⟨t,e⟩,m⟩
   ·exact(k4 a h).imp id .inl
   ·have ix:i≠x:=fun q=>xS d (q▸hi)
    exact .inr (.inr ⟨i,d,hi,⟨t,(old i t ix e).1⟩,m⟩)
 ·have:=(hK _ _ _ k2).1
  cases this
theorem Zin{x:Nat}{N:List Nat}{o e:Ex}{po:PPa}{p:PE}(hx:x∈O∧x∈O')(y:Pa O x o po)(z:E O N true e p)(hN:∀j∈N,j∈O∧j≠x)(hO:∀j∈O',j∈O∧j∉N)(hO2:∀j∈O,j∈O'∨j∈N): SU O S O' S SR fr (ZL (Zbm o e)) (Zct x N po p):=
 Zmm (R:=[]) (TM.S.app hx.1 y z hN hO) ZiQ (fun σ r h=>by
  obtain⟨ks,_,h⟩:=Zz0.mp h
  obtain⟨w,_,h⟩:=Zz0.mp h
  obtain⟨t,_,h⟩:=Zz0.mp h
  obtain⟨t',_,h⟩:=Zz1.mp h
  subst h
  exact⟨t',rfl⟩) hx hO2 (fun j hj=>(hO j hj).1)
end
end TM
end
section
namespace TM
open PySem PM
section
variable {O O':List Nat} {S S' SR:Sps} {fr:Bool}
theorem Zio{c:Cu}{ρ:Lc}{σ:TL}{H:Hp}{Φ Ψ:Nat→List Nat}{x d a b:Nat}{t t':T}{v:V}{vs':List V}{F2 R2 Fn Rn N:List Nat}(s:Su c O S ρ σ H Φ Ψ)(hx:(x,d)∈S)(uq:∀q∈S,∀r∈S,q.1=r.1→q.2=r.2)(ex:σ x=some t)(ev:ρ x=some v)(hb:c.H0.length≤b)(hlow:∀k t,σ k=some t→∀a∈Φ k,a<b)
  (ha:a∈Ψ x) (r:RD (H.set a vs') d v t' F2 R2) (nd:F2.Nodup) (dj:∀y∈F2,y∉R2) (f2:∀y∈F2,y∈Ψ x∨y∈Fn) (r2:∀y∈R2,y∈Φ x∨y∈Rn) (hFn:∀y∈Fn,b≤y) (hRn:∀y∈Rn,b≤y∨∃j∈N,(∃t,σ j=some t)∧y∈Φ j) (hN:∀n∈N,n∉O'∧∀d,(n,d)∉S') (hO:∀j∈O',j∈O) (hS:∀q∈S',q∈S):
  ∃G,Su c O' S' ρ (Zw σ x t') (H.set a vs') (Zr Φ x G) (Zr Ψ x F2)∧(∀y,HU O' S' (Zw σ x t') (Zr Φ x G) (Zr Ψ x F2) y→b≤y∨HU O S σ Φ Ψ y):=by
 obtain⟨G,rf,perm⟩:=r.rf
 obtain⟨v',q1,q2,q3,q4⟩:=s.sp x d hx t ex
 have xO:x∉O:=fun q=>s.ap x q d hx
 have gsub:∀y∈G,y∈Φ x∨b≤y∨∃j∈N,(∃t,σ j=some t)∧y∈Φ j:=fun y m=>by
  rcases Zz8.mp (perm.symm.subset m)with m | m
  ·rcases f2 y m with q | q
   ·exact .inl (s.up hx ex y q)
   ·exact .inr (.inl (hFn y q))
  ·rcases r2 y m with q | q
   ·exact .inl q
   ·exact .inr (hRn y q)
 have aoff:∀k u,k≠x→σ k=some u→a∉Φ k:=fun k u hk e=>q4 k u hk e a ha
 have fr:∀k u,k≠x→σ k=some u→∀y∈Φ k,(H.set a vs')[y]?=H[y]?:=fun k u hk e y m=>Zy2 fun q:a=y=>aoff k u hk e (q▸m)
 refine⟨G,⟨⟨fun k u e=>?_,fun k u e y m=>?_,fun k hk u e=>?_,by simpa using s.st.len,fun y hy hn=>?_,s.st.pos,s.st.f0⟩,fun k d' hk u e=>?_,fun k hk d' m=>s.ap k (hO k hk) d' (hS _ m),fun k hk u e=>?_⟩,fun y h=>?_⟩
 ·by_cases q:k=x
  ·subst q
   rcases ZdT e with⟨_,q'⟩ | ⟨q',_⟩
   ·subst q';exact⟨v,ev,by simpa [Zr]using rf⟩
   ·exact absurd rfl q'
  ·have e0:=Zaf e q
   obtain⟨w,h1,h2⟩:=s.st.slot k u e0
   exact⟨w,h1,by simpa [Zr,q]using h2.frame (fr k u q e0)⟩
 ·by_cases q:k=x
  ·subst q
   simp only[Zr,if_true]at m
   rcases gsub y m with q | q | ⟨j,_,⟨tj,ej⟩,mj⟩
   ·exact s.st.src k t ex y q
   ·exact .inl (by omega)
   ·exact s.st.src j tj ej y mj
  ·simp only[Zr,q,if_false]at m
   exact s.st.src k u (Zaf e q) y m
 ·have q:k≠x:=fun q=>xO (q▸hO k hk)
  have e0:=Zaf e q
  obtain⟨o1,o2,o3⟩:=s.st.own k (hO k hk) u e0
  simp only[Zr,q,if_false]
  refine⟨o1,o2,fun j w hj ej y m=>?_⟩
  by_cases q2:j=x
  ·simp only[q2,if_true]
   intro m2
   rcases gsub y m2 with z | z | ⟨j',hj',⟨tj,ej'⟩,mj⟩
   ·exact o3 x t (Ne.symm q) ex y m z
   ·have:=hlow k u e0 y m;omega
   ·exact o3 j' tj (fun z=>(hN j' hj').1 (z▸hk)) ej' y m mj
  ·simpa [q2]using o3 j w hj (Zaf ej q2) y m
 ·rw[Zy2 fun q=>?_]
  ·exact s.st.keep y hy hn
  ·subst q
   rcases q3 a ha with z | z
   ·omega
   ·exact hn (c.fs _ _ z)
 ·by_cases q:k=x
  ·subst q
   have:d'=d:=uq _ (hS _ hk) _ hx rfl
   subst this
   rcases ZdT e with⟨_,q'⟩ | ⟨q',_⟩
   ·subst q'
    refine⟨v,ev,by simpa [Zr]using ⟨R2,r,nd,dj⟩,fun y m=>?_,fun j w hj ej y m=>?_⟩
    ·simp only[Zr,if_true]at m
     rcases f2 y m with z | z
     ·exact q3 y z
     ·exact .inl (by have:=hFn y z;omega)
    ·simp only[Zr,if_true]at m
     simp only[Zr,hj,if_false]
     have ej:=Zaf ej hj
     rcases f2 y m with z | z
     ·exact q4 j w hj ej y z
     ·intro m2
      have:=hlow j w ej y m2
      have:=hFn y z
      omega
   ·exact absurd rfl q'
  ·have e0:=Zaf e q
   obtain⟨w,h1,h2,h3,h4⟩:=s.sp k d' (hS _ hk) u e0
   obtain⟨w',k1,k2⟩:=s.st.slot k u e0
   rw[h1]at k1
   cases k1
   simp only[Zr,q,if_false]
   refine⟨w,h1,h2.frame k2 (fr k u q e0),h3,fun j z hj ej y m=>?_⟩
   by_cases q2:j=x
   ·simp only[q2,if_true]
    intro m2
    rcases gsub y m2 with z | z | ⟨j',hj',⟨tj,ej'⟩,mj⟩
    ·exact h4 x t (Ne.symm q) ex y m z
    ·have:=hlow k u e0 y (s.up (hS _ hk) e0 y m);omega
    ·exact h4 j' tj (fun z=>(hN j' hj').2 d' (z▸hk)) ej' y m mj
   ·simpa [q2]using h4 j z hj (Zaf ej q2) y m
 ·have q:k≠x:=fun q=>xO (q▸hO k hk)
  simpa [Zr,q]using s.nw k (hO k hk) u (Zaf e q)
 ·rcases h with⟨k,hk,⟨w,ek⟩,m⟩ | ⟨k,d',hk,⟨w,ek⟩,m⟩
  ·have q:k≠x:=fun q=>xO (q▸hO k hk)
   simp only[Zr,q,if_false]at m
   exact .inr (.inl ⟨k,hO k hk,⟨w,Zaf ek q⟩,m⟩)
  ·by_cases q:k=x
   ·subst q
    simp only[Zr,if_true]at m
    rcases f2 y m with z | z
    ·exact .inr (.inr ⟨k,d,hx,⟨t,ex⟩,z⟩)
    ·exact .inl (hFn y z)
   ·simp only[Zr,q,if_false]at m
    exact .inr (.inr ⟨k,d',hS _ hk,⟨w,Zaf ek q⟩,m⟩)
theorem ZiR{c:Cu}{ρ:Lc}{σ:TL}{H H3:Hp}{Φ Ψ:Nat→List Nat}{N Fw:List Nat}{u own:Bool}{d:Nat}{vw:V}{w:T}(r:RF H3 vw w Fw)(b3:∀a∈Fw,From H N σ Φ a)(b4:u=true→Fw.Nodup)(hm:own=true→u=true∧N=[])(hd:own=true∨d=0):
  ∃Fn Rn,RD H3 d vw w Fn Rn∧(∀y∈Fn,H.length≤y)∧Fn.Nodup∧(∀y∈Fn,y∉Rn)∧∀y∈Rn,From H N σ Φ y:=by
 cases own with
 | false=>
  have:d=0:=hd.resolve_left (by simp)
  subst this
  exact⟨[],Fw,.leaf r (.inl rfl),by simp,by simp,by simp,b3⟩
 | true=>
  obtain⟨hu,hN⟩:=hm rfl
  subst hN
  obtain⟨F,R,h1,h2⟩:=r.rd d
  have:=h2.nodup_iff.mpr (b4 hu)
  obtain⟨n1,n2,n3⟩:=List.nodup_append.mp this
  exact⟨F,R,h1,fun y m=>(b3 y (h2.subset (Zz4 _ m))).nil,n1,fun y m q=>n3 y m y q rfl,fun y m=>b3 y (h2.subset (Zz3 _ m))⟩
noncomputable def Zc0(x d:Nat)(own:Bool)(po:PPa)(p:PE): PS:=fun σ=>(po σ).bind fun ks=>(p σ).bind fun w=>(σ x).bind fun t=>if ks.length<d∧d≤999∧(own=true∨dnn d ks.length=0)then(Zcf (Zcs w) ks t).map fun t'=>(none,Zw σ x t')else none
noncomputable def Zc1(x d:Nat)(own:Bool)(p:PE)(po:PPa)(pi:PE): PS:=fun σ=>(p σ).bind fun w=>(po σ).bind fun ks=>(pi σ).bind fun k=>match k with
 | .int k=>(σ x).bind fun t=>if ks.length<d∧d≤999∧(own=true∨dnn d ks.length=0)then(Zcf (Zg0 k w) ks t).map fun t'=>(none,Zw σ x t')else none
 | _=>none
theorem ZhJ{c:Cu}{ρ:Lc}{σ:TL}{H:Hp}{Φ Ψ:Nat→List Nat}{x d a:Nat}{t:T}(s:Su c O S ρ σ H Φ Ψ)(hx:(x,d)∈S)(ex:σ x=some t)(ha:a∈Ψ x): a≠0:=by
 have:=s.st.pos
 obtain⟨_,_,_,q,_⟩:=s.sp x d hx t ex
 rcases q a ha with q | q
 ·omega
 ·exact fun e=>s.st.f0 (e▸c.fs _ _ q)
theorem Zip{x d:Nat}{N:List Nat}{u own:Bool}{o e:Ex}{po:PPa}{p:PE}(hx:(x,d)∈S∧(x,d)∈S')(uq:∀q∈S,∀r∈S,q.1=r.1→q.2=r.2)(y:PaU O x o po)(z:E O N u e p)(hm:own=true→u=true∧N=[])(hN:∀n∈N,n∉O'∧∀q∈S',q.1≠n)(hO:(∀j∈O',j∈O)∧∀q∈S',q∈S): SU O S O' S' SR fr (ZL (Zbm o e)) (Zc0 x d own po p):=fun c ρ σ H Φ Ψ r hc s q=>by
 have hN':∀n∈N,n∉O'∧∀d,(n,d)∉S':=fun n hn=>⟨(hN n hn).1,fun d m=>(hN n hn).2 _ m rfl⟩
 obtain⟨ks,h1,q⟩:=Zz0.mp q
 obtain⟨w,h2,q⟩:=Zz0.mp q
 obtain⟨t,h3,q⟩:=Zz0.mp q
 split at q
 case isFalse=>cases q
 rename_i hc
 obtain⟨t',h4,q⟩:=Zz1.mp q
 subst q
 obtain⟨v,ev,⟨R,rd,nd,dj⟩,p3,p4⟩:=s.sp x d hx.1 t h3
 obtain⟨v',ev',rv⟩:=s.st.slot x t h3
 rw[ev]at ev'
 cases ev'
 obtain⟨Gx,rg,pg⟩:=rd.rf
 obtain⟨_,eG⟩:=rv.det rg
 have hlow:∀k t,σ k=some t→∀a∈Φ k,a<H.length:=fun k t e=>s.low e
 have inF:∀a∈Ψ x,a∈Φ x:=fun a m=>by rw[eG];exact pg.subset (Zz4 _ m)
 have inR:∀a∈R,a∈Φ x:=fun a m=>by rw[eG];exact pg.subset (Zz3 _ m)
 obtain⟨a,_,_,_,_,_,l0,_⟩:=Zed (Fn:=[]) (Rn:=[]) ks rd nd dj (by simp) hc.1 hc.2.1 h4
 obtain⟨X,a1⟩:=y c.toCtx ρ σ H Φ ks v (.ref a) s.st h1 ev l0.follow
 obtain⟨vw,Y,Fw,b1,b2,b3,b4⟩:=z c.toCtx ρ σ (H++X) Φ w (s.st.ext X) h2
 have s2:=(s.ext X).ext Y
 have grow:∀b,b<H.length→(H++X++Y)[b]?=H[b]?:=fun b hb=>by rw[List.append_assoc,Zy0 hb]
 have rd2:RD (H++X++Y) d v t (Ψ x) R:=rd.frame (fun b m=>grow b (hlow x t h3 b (inF b m))) (fun b m=>grow b (hlow x t h3 b (inR b m)))
 obtain⟨Fn,Rn,w1,w2,w3,w4,w5⟩:=ZiR (d:=dnn d ks.length) (c:=c) (ρ:=ρ) (Ψ:=Ψ) b2 (fun a m=>(b3 a m).back) b4 hm hc.2.2
 have xN:∀n∈N,n≠x:=fun n hn q=>(hN' n hn).2 d (q▸hx.2)
 have psR:∀b∈Ψ x,b∉Rn:=fun b m q=>by
  rcases w5 b q with h | ⟨n,hn,⟨tn,en⟩,mn⟩
  ·have:=hlow x t h3 b (inF b m);omega
  ·exact p4 n tn (xN n hn) en b m mn
 obtain⟨a',vs,ts,ts',Fa,Ra,l,am,ea,hs,hf,gn,na,gs,gr,go⟩:=Zed (Fn:=Fn) (Rn:=Rn) ks rd2 nd dj (fun b m q=>by have:=w2 b m;have:=hlow x t h3 b (inF b q);omega) hc.1 hc.2.1 h4
 have haa:a'=a:=by
  have f2:=ZdR Y (ZdR X l0.follow)
  rw[l.follow]at f2
  cases f2
  rfl
 subst haa
 unfold Zcs at hf
 split at hf
 ·rename_i hl
  cases hf
  have lowF:∀b∈Ψ x,b<H.length:=fun b m=>hlow x t h3 b (inF b m)
  obtain⟨F2,R2,r',n',sub',subR'⟩:=go (vs++[vw]) (Fa++Fn) (Ra++Rn) (hs.append (.one w1)) (by
   rw[List.nodup_append]
   exact⟨gn,w3,fun y hy z hz e=>by have:=lowF y (gs y hy);have:=w2 z hz;omega⟩) (fun m=>(Zz8.mp m).elim na fun m=>by have:=lowF _ am;have:=w2 _ m;omega) (fun m=>(Zz8.mp m).elim (fun m=>dj _ am (gr _ m)) (psR _ am)) (fun y m=>List.mem_append.mp m) (fun y m=>List.mem_append.mp m)
  obtain⟨G,st,com⟩:=Zio (O':=O') (S':=S') (b:=H.length) (N:=N) s2 hx.1 uq h3 ev s.st.len hlow am r' n' (fun y m q=>by
   rcases sub' y m with m | m
   ·rcases subR' y q with q | q
    ·exact dj y m q
    ·exact psR y m q
   ·rcases subR' y q with q | q
    ·have:=w2 y m;have:=hlow x t h3 y (inR y q);omega
    ·exact w4 y m q) sub' (fun y m=>(subR' y m).imp (inR y) id) w2 (fun y m=>w5 y m) hN' hO.1 hO.2
  refine⟨ρ,(H++X++Y).set a' (vs++[vw]),Zr Φ x G,Zr Ψ x F2,by simp,fun y hy hn=>?_,fun _ _=>rfl,.inl ⟨rfl,?_,st,com⟩⟩
  ·have:a'≠y:=fun q=>hn (.inr ⟨x,d,hx.1,⟨t,h3⟩,q▸am⟩)
   rw[Zy2 this,grow y hy]
  ·simp only[ZL,Zbm,a1,Zs0,b1,ZcU,ea]
   rw[if_pos ⟨ZhJ s hx.1 h3 am,by rw[hs.length];exact hl⟩]
   rfl
 ·cases hf
theorem SU.putS{x d:Nat}{N M:List Nat}{u u' own:Bool}{o e i:Ex}{po:PPa}{p pi:PE}(hx:(x,d)∈S∧(x,d)∈S')(uq:∀q∈S,∀r∈S,q.1=r.1→q.2=r.2)(z:E O N u e p)(y:PaU O x o po)(zi:E O M u' i pi)(hm:own=true→u=true∧N=[])(hN:∀n∈N,n∉O'∧∀q∈S',q.1≠n)(hO:(∀j∈O',j∈O)∧∀q∈S',q∈S): SU O S O' S' SR fr (ZcJ e o i) (Zc1 x d own p po pi):=fun c ρ σ H Φ Ψ r hc s q=>by
 have hN':∀n∈N,n∉O'∧∀d,(n,d)∉S':=fun n hn=>⟨(hN n hn).1,fun d m=>(hN n hn).2 _ m rfl⟩
 obtain⟨w,h2,q⟩:=Zz0.mp q
 obtain⟨ks,h1,q⟩:=Zz0.mp q
 obtain⟨tk,h5,q⟩:=Zz0.mp q
 cases tk <;> first | (cases q;done) | skip
 rename_i k
 obtain⟨t,h3,q⟩:=Zz0.mp q
 split at q
 case isFalse=>cases q
 rename_i hc
 obtain⟨t',h4,q⟩:=Zz1.mp q
 subst q
 obtain⟨v,ev,⟨R,rd,nd,dj⟩,p3,p4⟩:=s.sp x d hx.1 t h3
 obtain⟨v',ev',rv⟩:=s.st.slot x t h3
 rw[ev]at ev'
 cases ev'
 obtain⟨Gx,rg,pg⟩:=rd.rf
 obtain⟨_,eG⟩:=rv.det rg
 have hlow:∀k t,σ k=some t→∀a∈Φ k,a<H.length:=fun k t e=>s.low e
 have inF:∀a∈Ψ x,a∈Φ x:=fun a m=>by rw[eG];exact pg.subset (Zz4 _ m)
 have inR:∀a∈R,a∈Φ x:=fun a m=>by rw[eG];exact pg.subset (Zz3 _ m)
 obtain⟨vw,X,Fw,b1,b2,b3,b4⟩:=z c.toCtx ρ σ H Φ w s.st h2
 have growX:∀b,b<H.length→(H++X)[b]?=H[b]?:=fun b hb=>Zy0 hb
 have rdX:RD (H++X) d v t (Ψ x) R:=rd.frame (fun b m=>growX b (hlow x t h3 b (inF b m))) (fun b m=>growX b (hlow x t h3 b (inR b m)))
 obtain⟨a,_,_,_,_,_,l0,_⟩:=Zed (Fn:=[]) (Rn:=[]) ks rdX nd dj (by simp) hc.1 hc.2.1 h4
 obtain⟨Y,a1⟩:=y c.toCtx ρ σ (H++X) Φ ks v (.ref a) (s.st.ext X) h1 ev l0.follow
 obtain⟨vk,Z,Fk,d1,d2,d3,d4⟩:=zi c.toCtx ρ σ (H++X++Y) Φ _ ((s.st.ext X).ext Y) h5
 cases d2
 have s2:=((s.ext X).ext Y).ext Z
 have grow:∀b,b<H.length→(H++X++Y++Z)[b]?=H[b]?:=fun b hb=>by rw[List.append_assoc,List.append_assoc,Zy0 hb]
 have rd2:RD (H++X++Y++Z) d v t (Ψ x) R:=rd.frame (fun b m=>grow b (hlow x t h3 b (inF b m))) (fun b m=>grow b (hlow x t h3 b (inR b m)))
 obtain⟨Fn,Rn,w1,w2,w3,w4,w5⟩:=ZiR (d:=dnn d ks.length) (c:=c) (ρ:=ρ) (Ψ:=Ψ) ((b2.ext Y).ext Z) b3 b4 hm hc.2.2
 have xN:∀n∈N,n≠x:=fun n hn q=>(hN' n hn).2 d (q▸hx.2)
 have psR:∀b∈Ψ x,b∉Rn:=fun b m q=>by
  rcases w5 b q with h | ⟨n,hn,⟨tn,en⟩,mn⟩
  ·have:=hlow x t h3 b (inF b m);omega
  ·exact p4 n tn (xN n hn) en b m mn
 have lowF:∀b∈Ψ x,b<H.length:=fun b m=>hlow x t h3 b (inF b m)
 obtain⟨a',vs,ts,ts',Fa,Ra,l,am,ea,hs,hf,gn,na,gs,gr,go⟩:=Zed (Fn:=Fn) (Rn:=Rn) ks rd2 nd dj (fun b m q=>by have:=w2 b m;have:=lowF b q;omega) hc.1 hc.2.1 h4
 have haa:a'=a:=by
  have f2:=ZdR Z (ZdR Y l0.follow)
  rw[l.follow]at f2
  cases f2
  rfl
 subst haa
 unfold Zg0 at hf
 split at hf
 ·rename_i hl
  cases hf
  have hk:k.toNat<ts.length:=by omega
  obtain⟨v0,Gk,Qk,F1,F2,R1,R2,e0,r0,eG',eR',rb⟩:=hs.split (Zy1 hk)
  have rs:=rb (H++X++Y++Z) vw w Fn Rn w1 (fun _ _=>rfl) (fun _ _=>rfl)
  have sub0:∀a∈Fn,a∈Gk∨a∈Fn:=fun a m=>.inr m
  have subR0:∀a∈Rn,a∈Qk∨a∈Rn:=fun a m=>.inr m
  subst eG'
  subst eR'
  obtain⟨F2',R2',r',n',sub',subR'⟩:=go _ _ _ rs (nd3 gn w3 sub0 fun a m q=>by have:=w2 a m;have:=lowF a (gs a q);omega) (fun m=>by
   rcases in3 (G:=Gk) sub0 _ m with m | m
   ·exact na m
   ·have:=w2 _ m;have:=lowF _ am;omega) (fun m=>by
   rcases in3 (G:=Qk) subR0 _ m with m | m
   ·exact dj _ am (gr _ m)
   ·exact psR _ am m) (in3 sub0) (in3 subR0)
  obtain⟨G,st,com⟩:=Zio (O':=O') (S':=S') (b:=H.length) (N:=N) s2 hx.1 uq h3 ev s.st.len hlow am r' n' (fun y m q=>by
   rcases sub' y m with m | m
   ·rcases subR' y q with q | q
    ·exact dj y m q
    ·exact psR y m q
   ·rcases subR' y q with q | q
    ·have:=w2 y m;have:=hlow x t h3 y (inR y q);omega
    ·exact w4 y m q) sub' (fun y m=>(subR' y m).imp (inR y) id) w2 (fun y m=>w5 y m) hN' hO.1 hO.2
  refine⟨ρ,(H++X++Y++Z).set a' (vs.set k.toNat vw),Zr Φ x G,Zr Ψ x F2',by simp,fun y hy hn=>?_,fun _ _=>rfl,.inl ⟨rfl,?_,st,com⟩⟩
  ·have:a'≠y:=fun q=>hn (.inr ⟨x,d,hx.1,⟨t,h3⟩,q▸am⟩)
   rw[Zy2 this,grow y hy]
  ·simp only[ZcJ,b1,Zs0,a1,d1,Zfq,ea]
   rw[if_pos ⟨ZhJ s hx.1 h3 am,by rw[hs.length];exact hl⟩]
   rfl
 ·cases hf
noncomputable def PutK(J:List Nat)(put:V→Lc→Option Lc): Prop:=∀v ρ ρ1,put v ρ=some ρ1→∀i,i∉J→ρ1 i=ρ i
theorem PutK.one{j:Nat}: PutK [j] (ZH j):=fun v ρ ρ1 h i hi=>by
 cases h
 have:i≠j:=fun q=>hi (by simp[q])
 simp[upd,this]
theorem Zlp{J:List Nat}{put:V→Lc→Option Lc}{pput:T→TL→Option TL}(hj:PutOk O J put pput)(hk:PutK J put)(hJ:∀i∈J,i∉O∧∀d,(i,d)∉S){c:Cu}{ρ:Lc}{σ σ1:TL}{K:Hp}{Φ Ψ:Nat→List Nat}{v:V}{t:T}{F:List Nat}(s:Su c O S ρ σ K Φ Ψ)(r:RF K v t F)(hs:∀a∈F,c.H0.length≤a∨c.P a)(ho:∀i∈O,∀t',σ i=some t'→∀a∈Φ i,a∉F)(hp:∀a,SH S σ Ψ a→a∉F)(h:pput t σ=some σ1):
  ∃ρ1 Φ1,put v ρ=some ρ1∧Su c O S ρ1 σ1 K Φ1 Ψ∧(∀i,i∉J→σ1 i=σ i∧Φ1 i=Φ i)∧∀i∈J,∀a∈Φ1 i,a∈F:=by
 obtain⟨ρ1,Φ1,p1,s1,p3,p4⟩:=hj c.toCtx ρ σ K Φ v t F σ1 s.st r hs ho h
 refine⟨ρ1,Φ1,p1,⟨s1,fun i d hi u e=>?_,s.ap,fun i hi u e=>?_⟩,p3,p4⟩
 ·have iJ:i∉J:=fun q=>(hJ i q).2 d hi
  obtain⟨e1,e2⟩:=p3 i iJ
  rw[e1]at e
  obtain⟨w,h1,h2,h3,h4⟩:=s.sp i d hi u e
  refine⟨w,by rw[hk v ρ ρ1 p1 i iJ];exact h1,h2,h3,fun j z hj' ej a m q=>?_⟩
  by_cases jJ:j∈J
  ·exact hp a ⟨i,d,hi,⟨u,e⟩,m⟩ (p4 j jJ a q)
  ·obtain⟨f1,f2⟩:=p3 j jJ
   rw[f1]at ej
   rw[f2]at q
   exact h4 j z hj' ej a m q
 ·have iJ:i∉J:=fun q=>(hJ i q).1 hi
  obtain⟨e1,e2⟩:=p3 i iJ
  rw[e1]at e
  rw[e2]
  exact s.nw i hi u e
theorem Zgl{J:List Nat}{put:V→Lc→Option Lc}{pput:T→TL→Option TL}{b:Sm}{qb:PS}(hj:PutOk O J put pput)(hkp:PutK J put)(hJ:∀i∈J,i∉O∧∀d,(i,d)∉S)(hJR:∀q∈SR,q.1∉J)(hb:SU O S O S SR fr b qb){c:Cu}(hc:∀i,(∀q∈SR,q.1≠i)→c.Fs i=[]){nx:Nx}{vs:List V}{G:List Nat}{H1:Hp}(hG:∀a∈G,a<H1.length)(hsrc:∀a∈G,c.H0.length≤a∨c.P a)(hnx:∀K:Hp,(∀a∈G,K[a]?=H1[a]?)→∀i,i≤vs.length→nx i K=some vs[i]?):
  ∀(rs:List T) (ws:List V) (i:Nat) (ρ:Lc) (σ:TL) (K:Hp) (Φ Ψ:Nat→List Nat) (Fr:List Nat) (r:Option T×TL),(∀j,vs[i+j]?=ws[j]?)→i+ws.length=vs.length→Su c O S ρ σ K Φ Ψ→H1.length≤K.length→(∀a∈G,K[a]?=H1[a]?)→(∀a∈G,¬HU O S σ Φ Ψ a)→RFs K ws rs Fr→(∀a∈Fr,a∈G)→ZbP pput qb σ rs=some r →
   AftU c O S O S SR fr ρ σ K Φ Ψ (ZaR nx put b (rs.length+1) i ρ K) r
 | [],ws,i,ρ,σ,K,Φ,Ψ,Fr,r,hat,hlen,s,hl,hk,hoff,rr,hfr,h=>by
  cases rr
  cases h
  have e:=hnx K hk i (by simp at hlen;omega)
  have e2:vs[i]?=none:=by have:=hat 0;simpa using this
  exact⟨ρ,K,Φ,Ψ,Nat.le_refl _,fun _ _ _=>rfl,fun _ _=>rfl,.inl ⟨rfl,by simp[ZaR,e,e2],s,fun a m=>.inr m⟩⟩
 | t::rs,ws0,i,ρ,σ,K,Φ,Ψ,Fr0,r,hat,hlen,s,hl,hk,hoff,rr,hfr,h=>by
  cases rr with
  | @cons v _ F1 ws _ F2 a b'=>
  simp only[List.length_cons]at hlen
  obtain⟨σ1,h1,h⟩:=Zz0.mp h
  obtain⟨r1,h2,h⟩:=Zz0.mp h
  have e:=hnx K hk i (by omega)
  have e2:vs[i]?=some v:=by have:=hat 0;simpa using this
  have hat':∀j,vs[i+1+j]?=ws[j]?:=fun j=>by have:=hat (j+1);rw[show i+1+j=i+(j+1)by omega,this];simp
  obtain⟨ρ1,Φ1,p1,s1,p3,p4⟩:=Zlp hj hkp hJ s a (fun x m=>hsrc x (hfr x (Zz4 _ m))) (fun k hk t' e x m q=>hoff x (hfr x (Zz4 _ q)) (.inl ⟨k,hk,⟨t',e⟩,m⟩)) (fun x h q=>hoff x (hfr x (Zz4 _ q)) (.inr h)) h1
  have hh:∀x,HU O S σ1 Φ1 Ψ x→HU O S σ Φ Ψ x:=fun x h=>by
   rcases h with⟨k,hk,⟨t',e⟩,m⟩ | ⟨k,d,hk,⟨t',e⟩,m⟩
   ·obtain⟨q1,q2⟩:=p3 k fun q=>(hJ k q).1 hk
    exact .inl ⟨k,hk,⟨t',q1▸e⟩,q2▸m⟩
   ·obtain⟨q1,q2⟩:=p3 k fun q=>(hJ k q).2 d hk
    exact .inr ⟨k,d,hk,⟨t',q1▸e⟩,m⟩
  obtain⟨ρ2,K2,Φ2,Ψ2,g1,g2,gr,g3⟩:=hb c ρ1 σ1 K Φ1 Ψ r1 hc s1 h2
  have gr':∀q∈SR,ρ2 q.1=ρ q.1:=fun q hq=>(gr q hq).trans (hkp v ρ ρ1 p1 q.1 (hJR q hq))
  have estep:ZaR nx put b ((t::rs).length+1) i ρ K=(b ρ1 K).bind fun q=>match q.1 with
    | some _=>some q
    | none=>ZaR nx put b (rs.length+1) (i+1) q.2.1 q.2.2:=by
   rw[List.length_cons]
   show(nx i K).bind _=_
   rw[e,e2]
   first | (simp only[Zs0,p1];done) | (simp only[Zs0,p1];rfl)
  rcases g3 with⟨k1,k2,k3,k4⟩ | ⟨t',v',F',k1,k2,k3⟩
  ·rw[k1]at h
   have hG2:∀a∈G,K2[a]?=K[a]?:=fun x m=>g2 x (by have:=hG x m;omega) fun q=>hoff x m (hh x q)
   have hoff2:∀a∈G,¬HU O S r1.2 Φ2 Ψ2 a:=fun x m q=>by
    rcases k4 x q with q | q
    ·have:=hG x m;omega
    ·exact hoff x m (hh x q)
   have ih:=Zgl hj hkp hJ hJR hb hc hG hsrc hnx rs ws (i+1) ρ2 r1.2 K2 Φ2 Ψ2 F2 r hat' (by omega) k3 (by omega) (fun x m=>(hG2 x m).trans (hk x m)) hoff2 (b'.frame fun x m=>hG2 x (hfr x (Zz3 _ m))) (fun x m=>hfr x (Zz3 _ m)) h
   rw[estep,k2]
   simp only[Zs0]
   obtain⟨ρ3,K3,Φ3,Ψ3,l1,l2,lr,l3⟩:=ih
   refine⟨ρ3,K3,Φ3,Ψ3,by omega,fun x hx hn=>?_,fun q hq=>(lr q hq).trans (gr' q hq),?_⟩
   ·rw[l2 x (by omega) fun q=>(k4 x q).elim (fun q=>by omega) fun q=>hn (hh x q),g2 x hx fun q=>hn (hh x q)]
   ·rcases l3 with⟨m1,m2,m3,m4⟩ | l
    ·refine .inl ⟨m1,m2,m3,fun x q=>?_⟩
     rcases m4 x q with q | q
     ·exact .inl (by omega)
     ·exact(k4 x q).imp id (hh x)
    ·exact .inr l
  ·rw[k1]at h
   cases h
   refine⟨ρ2,K2,Φ2,Ψ2,g1,fun x hx hn=>g2 x hx fun q=>hn (hh x q),gr',.inr ⟨t',v',F',k1,?_,k3⟩⟩
   rw[estep,k2]
   rfl
theorem ZiS{J Ns:List Nat}{g:Src}{q:PG}{put:V→Lc→Option Lc}{pput:T→TL→Option TL}{b:Sm}{qb:PS}(hg:Gs O Ns g q)(hj:PutOk O J put pput)(hkp:PutK J put)(hJ:∀i∈J,i∉O∧(∀q∈S,q.1≠i)∧∀q∈SR,q.1≠i)(hN:∀i∈Ns,i∉O∧∀q∈S,q.1≠i)(hb:SU O S O S SR fr b qb): SU O S O S SR fr (ZaA g put b) (Zch q pput qb):=fun c ρ σ H Φ Ψ r hc s h=>by
 obtain⟨ts,h1,h⟩:=Zz0.mp h
 obtain⟨nx,X,vs,F,G,g1,g2,g3,g4,g5⟩:=hg c.toCtx ρ σ H Φ ts s.st h1
 have:=Zgl hj hkp (fun i hi=>⟨(hJ i hi).1,fun d m=>(hJ i hi).2.1 _ m rfl⟩) (fun q hq m=>(hJ q.1 m).2.2 q hq rfl) hb hc (H1:=H++X) (fun a m=>(g4 a m).1) (fun a m=>s.st.from_src (g4 a m).2) g5 ts vs 0 ρ σ (H++X) Φ Ψ F r (by simp) (by simp) (s.ext X) (Zz10 _) (fun _ _=>rfl) (fun a m q=>by
  rcases q with⟨k,hk,⟨t,e⟩,q⟩ | q
  ·exact s.st.from_off (fun i hi=>(hN i hi).1) (g4 a m).2 hk e q
  ·rcases(g4 a m).2 with z | ⟨n,hn,⟨tn,en⟩,mn⟩
   ·have:=s.shlow q;omega
   ·exact s.shoff q (fun d m=>(hN n hn).2 _ m rfl) en mn) g2 g3 h
 have eg:ZaA g put b ρ H=ZaR nx put b (ts.length+1) 0 ρ (H++X):=by simp only[ZaA,g1,Zs0]
 rw[eg]
 exact this.step s (by simp) (fun a ha _=>Zy0 ha) (fun j t _ e=>⟨e,rfl⟩) (fun a h=>.inr h)
end
end TM
end
section
namespace TM
open PySem PM
noncomputable def Zcv(σ:TL): Sps→Option (List T)
 | []=>some []
 | q::sd=>(σ q.1).bind fun t=>(Zcv σ sd).map fun us=>t::us
theorem Ziq{σ:TL}: ∀{sd:Sps} {us:List T},Zcv σ sd=some us→us.length=sd.length∧(∀(k i d:Nat) (u:T),sd[k]?=some (i,d)→us[k]?=some u→σ i=some u)∧∀q∈sd,∃t,σ q.1=some t
 | [],us,h=>by cases h;exact⟨rfl,by simp,by simp⟩
 | q::sd,us,h=>by
  obtain⟨t,h1,h⟩:=Zz0.mp h
  obtain⟨ts,h2,h⟩:=Zz1.mp h
  subst h
  obtain⟨k1,k2,k3⟩:=Ziq h2
  refine⟨by simp[k1],fun k i d u e1 e2=>?_,fun r hr=>?_⟩
  ·cases k with
   | zero=>simp at e1 e2;subst e2;rw[e1]at h1;exact h1
   | succ k=>exact k2 k i d u (by simpa using e1) (by simpa using e2)
  ·rcases Zz7.mp hr with z | z
   ·subst z;exact⟨t,h1⟩
   ·exact k3 r z
noncomputable def ZaW(n:Nat)(sd:Sps)(q:PS): List T→Option (T×List T):=fun ts=>if ts.length=n then(q fun i=>ts[i]?).bind fun r=>(Zcv r.2 sd).map fun us=>(r.1.getD .none,us)else none
theorem SimX.of{n:Nat}{sd:Sps}{fr:Bool}{g:Sm}{q:PS}{O':List Nat}{S':Sps}(h:SU [] sd O' S' sd fr g q)(hn:∀q∈sd,q.1<n)(hS':∀q∈sd,q∈S'): SimX n sd fr (Z3 n g) (ZaW n sd q):=fun H vs ts t us Φ Ψ hp hv ht hargs hsp e=>by
 unfold ZaW at e
 rw[if_pos ht]at e
 obtain⟨r,e1,e⟩:=Zz0.mp e
 obtain⟨us',e2,e⟩:=Zz1.mp e
 cases e
 obtain⟨lk1,lk2,lk3⟩:=Ziq e2
 have at_:∀i d,(i,d)∈sd→∃v t,vs[i]?=some v∧ts[i]?=some t:=fun i d hi=>by
  have:i<n:=hn _ hi
  exact⟨vs[i],ts[i],Zy1 (by omega),Zy1 (by omega)⟩
 let Fs:Nat→List Nat:=fun i=>if i∈sd.map (·.1)then Ψ i else []
 have fsm:∀i d,(i,d)∈sd→Fs i=Ψ i:=fun i d hi=>by simp only[Fs];rw[if_pos (List.mem_map_of_mem hi)]
 let c:Cu:=⟨⟨H,sd.flatMap fun q=>Ψ q.1,fun a=>∃j,j<n∧a∈Φ j⟩,Fs,fun i a m=>by
  simp only[Fs]at m
  split at m
  ·rename_i hi
   obtain⟨q,hq,e⟩:=Zz11.mp hi
   exact List.mem_flatMap.mpr ⟨q,hq,e▸m⟩
  ·cases m⟩
 have hc:∀i,(∀q∈sd,q.1≠i)→c.Fs i=[]:=fun i hi=>by
  show(if i∈sd.map (·.1)then Ψ i else [])=[]
  rw[if_neg fun m=>by obtain⟨q,hq,e⟩:=Zz11.mp m;exact hi q hq e]
 have memF0:∀a,a∈c.F0↔∃i d,(i,d)∈sd∧a∈Ψ i:=fun a=>by
  simp only[c,List.mem_flatMap]
  constructor
  ·rintro⟨⟨i,d⟩,h1,h2⟩;exact⟨i,d,h1,h2⟩
  ·rintro⟨i,d,h1,h2⟩;exact⟨(i,d),h1,h2⟩
 have st:Su c [] sd (fun i=>vs[i]?) (fun i=>ts[i]?) H Φ Ψ:=by
  refine⟨⟨fun i t e=>?_,fun i t e a m=>.inr ⟨i,?_,m⟩,(fun i hi=>nomatch hi),Nat.le_refl _,fun a _ _=>rfl,hp,fun m=>?_⟩,fun i d hi t e=>?_,(fun i hi=>nomatch hi),(fun i hi=>nomatch hi)⟩
  ·exact hargs i t e
  ·have:=(Zz6.mp e).1;omega
  ·obtain⟨i,d,hi,m⟩:=(memF0 0).mp m
   obtain⟨v,t,h1,h2⟩:=at_ i d hi
   exact(hsp i d hi v t h1 h2).2.1 m
  ·obtain⟨v,t',h1,h2⟩:=at_ i d hi
   obtain⟨p1,p2,p3⟩:=hsp i d hi v t h1 e
   exact⟨v,h1,p1,fun a m=>.inr (by show a∈Fs i;rw[fsm i d hi];exact m),p3⟩
 obtain⟨ρ',H',Φ',Ψ',h1,h2,hr,h3⟩:=h c _ _ H Φ Ψ r hc st e1
 have frm:∀a,a<H.length→(∀i d,(i,d)∈sd→a∉Ψ i)→H'[a]?=H[a]?:=fun a ha hn=>h2 a ha fun q=>by
  rcases q with⟨j,hj,_⟩ | ⟨i,d,hi,_,m⟩
  ·cases hj
  ·exact hn i d hi m
 have go:∀(O2:List Nat) (S2:Sps) (F:List Nat),(∀q∈sd,q∈S2)→Su c O2 S2 ρ' r.2 H' Φ' Ψ'→(∀a,SH sd r.2 Ψ' a→a∉F)→(fr=true→∀s d,(s,d)∈sd→(∃t,r.2 s=some t)→∀a∈Φ' s,a∉F) →
   ∀(k i d:Nat) (v:V) (u:T),sd[k]?=some (i,d)→vs[i]?=some v→us[k]?=some u→RF H' v u (Φ' i)∧Sp H' d v u (Ψ' i)∧(∀a∈Ψ' i,H.length≤a∨a∈Ψ i)∧(∀a∈Φ' i,H.length≤a∨∃j,j<n∧a∈Φ j)∧(∀a∈Ψ' i,a∉F)∧(∀j d',j≠i→(j,d')∈sd→∀a∈Ψ' i,a∉Φ' j)∧(fr=true→∀a∈Φ' i,a∉F):=by
  intro O2 S2 F hsub s2 shF frF k i d v u ek ev eu
  have hi:=Zy4 ek
  have eσ:=lk2 k i d u ek eu
  obtain⟨v',w1,w2⟩:=s2.st.slot i u eσ
  have:ρ' i=some v:=(hr _ hi).trans ev
  rw[w1]at this
  cases this
  obtain⟨v2,q1,q2,q3,q4⟩:=s2.sp i d (hsub _ hi) u eσ
  rw[w1]at q1
  cases q1
  refine⟨w2,q2,fun a m=>?_,fun a m=>s2.st.src i u eσ a m,fun a m=>shF a ⟨i,d,hi,⟨u,eσ⟩,m⟩,fun j d' hj hjs a m=>?_,fun hf a m=>frF hf i d hi ⟨u,eσ⟩ a m⟩
  ·rcases q3 a m with z | z
   ·exact .inl z
   ·exact .inr (fsm i d hi▸z)
  ·obtain⟨tj,ej⟩:=lk3 _ hjs
   exact q4 j tj hj ej a m
 rcases h3 with⟨k1,k2,k3,k4⟩ | ⟨t',v',F',k1,k2,k3,k4,k5,k6,k7⟩
 ·refine⟨.none,H',Φ',Ψ',[],by simp only[Z3,hv,if_true,k2,Zs1,Option.getD_none],h1,frm,lk1,go O' S' [] hS' k3 (by simp) (by simp),by rw[k1];exact .none,by simp,by simp⟩
 ·refine⟨v',H',Φ',Ψ',F',by simp only[Z3,hv,if_true,k2,Zs1,Option.getD_some],h1,frm,lk1,go [] sd F' (fun _ h=>h) k4 k6 (fun hf=>(k7 hf).2.2),by rw[k1];exact k3,k5,fun hf=>⟨(k7 hf).1,(k7 hf).2.1⟩⟩
theorem SimX.sim{n:Nat}{fr:Bool}{f:List V→Hp→Option (V×Hp)}{p:List T→Option (T×List T)}(h:SimX n [] fr f p): SimF fr f (fun ts=>if ts.length=n then(p ts).map (·.1)else none):=fun H vs ts t F1 hp r e=>by
 simp only at e
 split at e
 case isFalse=>cases e
 rename_i hl
 obtain⟨⟨t1,us⟩,e1,e2⟩:=Zz1.mp e
 cases e2
 obtain⟨Φ,hΦ⟩:=r.slots
 obtain⟨v,H',Φ',Ψ',F,b1,b2,b3,b4,b5,b6,b7,b8⟩:=h H vs ts t1 us (fun i=>if i<n then Φ i else []) (fun _=>[]) hp (by rw[r.length,hl]) hl (fun i t e=>by
  obtain⟨v,h1,h2,_⟩:=hΦ i t e
  have:=(Zz6.mp e).1
  exact⟨v,h1,by simpa [show i<n by omega]using h2⟩) (fun i d hi=>nomatch hi) e1
 have eh:=Zge b2 fun a ha=>b3 a ha fun i d hi=>nomatch hi
 refine⟨v,H'.drop H.length,F,by rw[←eh];exact b1,by rw[←eh];exact b6,fun a m=>?_,b8⟩
 rcases b7 a m with q | ⟨j,hj,q⟩
 ·exact .inl q
 ·simp only[hj,if_true]at q
  have:j<ts.length:=by omega
  obtain⟨_,_,_,h3⟩:=hΦ j ts[j] (Zy1 this)
  exact .inr (h3 a q)
theorem ZjZ{f:List V→Hp→Option (V×Hp)}{p:List T→Option (T×List T)}{fr:Bool}(h:SimX 1 [] fr f p)(ns:List Int)(e:∃us,p [.lst (ns.map T.int)]=some (.bool true,us)): ∃H',f [.ref 0] [ns.map V.int]=some (.bool true,H'):=
 Zke h.sim ns (by obtain⟨us,e⟩:=e;simp[e])
noncomputable def Zeq(j:Nat)(f:PX): TL→List T→Option (List T×TL)
 | σ,[]=>some ([],σ)
 | σ,t::ts=>(f (Zw σ j t)).bind fun r=>(Zeq j f (Z8 r.2 j) ts).map fun q=>(r.1::q.1,q.2)
noncomputable def Zfo(g:PG)(j:Nat)(f:PX): PX:=fun σ=>(g (Z8 σ j)).bind fun ts=>if ts.length≤ZX then(Zeq j f (Z8 σ j) ts).map fun r=>(.lst r.1,r.2)else none
section
variable {O Ns:List Nat} {S:Sps}
theorem ZhD{j:Nat}{f:Ex}{pf:PX}(hj:j∉O)(hS:∀d,(j,d)∉S)(hf:EX O S [] true f pf){c:Cu}{ρ:Lc}{nx:Nx}{vs:List V}{G:List Nat}{H1:Hp}(hG:∀a∈G,a<H1.length)(hsrc:∀a∈G,c.H0.length≤a∨c.P a)(hnx:∀K:Hp,(∀a∈G,K[a]?=H1[a]?)→∀i,i≤vs.length→nx i K=some vs[i]?):
  ∀(rs:List T) (ws:List V) (i:Nat) (acc:List V) (σ:TL) (K:Hp) (Φ Ψ:Nat→List Nat) (Fr:List Nat) (out:List T) (σ':TL),(∀k,vs[i+k]?=ws[k]?)→i+ws.length=vs.length→Su c O S ρ σ K Φ Ψ→H1.length≤K.length→(∀a∈G,K[a]?=H1[a]?)→(∀a∈G,¬HU O S σ Φ Ψ a)→RFs K ws rs Fr→(∀a∈Fr,a∈G)→acc.length+rs.length≤ZX→Zeq j pf σ rs=some (out,σ') →
   ∃xs K' Φ' Ψ' F,Za5 nx (ZH j) ZaH f ρ (rs.length+1) i acc K=some (acc++xs,K')∧K.length≤K'.length∧(∀a,a<K.length→¬SH S σ Ψ a→K'[a]?=K[a]?)∧Su c O S ρ σ' K' Φ' Ψ'∧(∀j t,(∀d,(j,d)∉S)→σ' j=some t→σ j=some t∧Φ' j=Φ j)∧(∀a,SH S σ' Ψ' a→K.length≤a∨SH S σ Ψ a)∧(∀s d,(s,d)∈S→(∃t,σ' s=some t)→∀a∈Φ' s,K.length≤a∨(∃j,(∃t,σ j=some t)∧a∈Φ j)∨a∈G)∧RFs K' xs out F∧(∀a∈F,K.length≤a)∧F.Nodup∧(∀a,SH S σ' Ψ' a→a∉F)∧(∀s d,(s,d)∈S→(∃t,σ' s=some t)→∀a∈Φ' s,a∉F)
 | [],ws,i,acc,σ,K,Φ,Ψ,Fr,out,σ',hat,hlen,s,hl,hk,hoff,rr,hfr,hacc,h=>by
  cases rr
  cases h
  have e:=hnx K hk i (by simp at hlen;omega)
  have e2:vs[i]?=none:=by have:=hat 0;simpa using this
  exact⟨[],K,Φ,Ψ,[],by simp[Za5,e,e2],Nat.le_refl _,fun _ _ _=>rfl,s,fun j t _ e=>⟨e,rfl⟩,fun a h=>.inr h,fun s' d _ ht a m=>.inr (.inl ⟨s',ht,m⟩),.nil,by simp,by simp,by simp,by simp⟩
 | t::rs,ws0,i,acc,σ,K,Φ,Ψ,Fr0,out,σ',hat,hlen,s,hl,hk,hoff,rr,hfr,hacc,h=>by
  cases rr with
  | @cons v _ F1 ws _ F2 a b'=>
  simp only[List.length_cons]at hlen hacc
  obtain⟨⟨w,σ1⟩,h1,h⟩:=Zz0.mp h
  obtain⟨⟨ys,σ2⟩,h2,h⟩:=Zz1.mp h
  cases h
  have e:=hnx K hk i (by omega)
  have e2:vs[i]?=some v:=by have:=hat 0;simpa using this
  have hat':∀k,vs[i+1+k]?=ws[k]?:=fun k=>by have:=hat (k+1);rw[show i+1+k=i+(k+1)by omega,this];simp
  have s1:Su c O S (upd ρ j v) (Zw σ j t) K (Zr Φ j F1) Ψ:=s.putL hj hS a (fun x m=>hsrc x (hfr x (Zz4 _ m))) (fun k hk t' e x m q=>hoff x (hfr x (Zz4 _ q)) (.inl ⟨k,hk,⟨t',e⟩,m⟩)) (fun x h q=>hoff x (hfr x (Zz4 _ q)) (.inr h))
  obtain⟨vw,K1,Φ1,Ψ1,Fw,a1,a2,a3,a4,a5,a6,a11,a7,a8,a9,a10⟩:=hf c (upd ρ j v) (Zw σ j t) K (Zr Φ j F1) Ψ w σ1 s1 h1
  have new1:∀a∈Fw,K.length≤a:=fun a m=>(a8 a m).nil
  have off1:=Zd7 s1 a5 new1 ((a10 rfl).2 (by simp))
  simp only[SH.upd hS]at a3 a6
  have s2:Su c O S ρ (Z8 σ1 j) K1 Φ1 Ψ1:=a4.drop fun _ h=>h
  have old1:∀k u,(∀d,(k,d)∉S)→Z8 σ1 j k=some u→σ k=some u∧Φ1 k=Φ k:=fun k u hk e=>by
   obtain⟨q,e⟩:=ZaL e
   obtain⟨e1,e2⟩:=a5 k u hk e
   exact⟨Zaf e1 q,by rw[e2];simp[Zr,q]⟩
  have held1:∀a,SH S (Z8 σ1 j) Ψ1 a→K.length≤a∨SH S σ Ψ a:=fun a h=>a6 a ((SH.del hS).mp h)
  have hG2:∀a∈G,K1[a]?=K[a]?:=fun x m=>a3 x (by have:=hG x m;omega) fun q=>hoff x m (.inr q)
  have hoff2:∀a∈G,¬HU O S (Z8 σ1 j) Φ1 Ψ1 a:=fun x m q=>by
   rcases q with⟨k,hk,⟨u,e⟩,q⟩ | q
   ·obtain⟨e1,e2⟩:=old1 k u (s.ap k hk) e
    exact hoff x m (.inl ⟨k,hk,⟨u,e1⟩,e2▸q⟩)
   ·rcases held1 x q with q | q
    ·have:=hG x m;omega
    ·exact hoff x m (.inr q)
  obtain⟨xs,K2,Φ2,Ψ2,F3,f1,f2,f3,f4,f5,f6,f7,f8,f9,f10,f11,f12⟩:=ZhD hj hS hf hG hsrc hnx rs ws (i+1) (acc++[vw]) (Z8 σ1 j) K1 Φ1 Ψ1 F2 ys σ2 hat' (by omega) s2 (by omega) (fun x m=>(hG2 x m).trans (hk x m)) hoff2 (b'.frame fun x m=>hG2 x (hfr x (Zz3 _ m))) (fun x m=>hfr x (Zz3 _ m)) (by simp;omega) h2
  have offw:∀a∈Fw,¬SH S (Z8 σ1 j) Ψ1 a:=fun a m q=>a9 a ((SH.del hS).mp q) m
  refine⟨vw::xs,K2,Φ2,Ψ2,Fw++F3,?_,by omega,ZeS a2 a3 held1 f3,f4,fun k u hk e=>?_,ZeV a2 held1 f6,fun s' d hs ht x m=>?_,.cons (a7.frame fun x m=>f3 x (a7.lt x m) (offw x m)) f8,fun x m=>?_,?_,fun x h q=>?_,fun s' d hs ht x m q=>?_⟩
  ·rw[List.length_cons,Za5,e,e2]
   simp only[Zs0,ZH,ZaH,a1,if_true]
   rw[if_pos (by omega)]
   simpa using f1
  ·obtain⟨e1,e2⟩:=f5 k u hk e
   obtain⟨e3,e4⟩:=old1 k u hk e1
   exact⟨e3,e2.trans e4⟩
  ·rcases f7 s' d hs ht x m with q | ⟨k,⟨u,eu⟩,mk⟩ | q
   ·exact .inl (by omega)
   ·by_cases hks:∀d,(k,d)∉S
    ·obtain⟨e1,e2⟩:=old1 k u hks eu
     exact .inr (.inl ⟨k,⟨u,e1⟩,e2▸mk⟩)
    ·obtain⟨d',hd⟩:=Classical.not_forall.mp hks
     rcases a11 k d' (Classical.not_not.mp hd) ⟨u,(ZaL eu).2⟩ x mk with q | ⟨k',⟨u',e'⟩,mk'⟩
     ·exact .inl q
     ·by_cases q:k'=j
      ·subst q
       simp only[Zr,if_true]at mk'
       exact .inr (.inr (hfr x (Zz4 _ mk')))
      ·simp only[Zr,q,if_false]at mk'
       exact .inr (.inl ⟨k',⟨u',Zaf e' q⟩,mk'⟩)
   ·exact .inr (.inr q)
  ·rcases Zz8.mp m with m | m
   ·exact new1 x m
   ·have:=f9 x m;omega
  ·rw[List.nodup_append]
   refine⟨(a10 rfl).1,f10,fun x hx y hy e=>?_⟩
   have:=a7.lt x hx
   have:=f9 y hy
   omega
  ·rcases Zz8.mp q with q | q
   ·rcases f6 x h with z | z
    ·have:=a7.lt x q;omega
    ·exact offw x q z
   ·exact f11 x h q
  ·rcases Zz8.mp q with q | q
   ·rcases f7 s' d hs ht x m with z | ⟨k,⟨u,eu⟩,mk⟩ | z
    ·have:=a7.lt x q;omega
    ·exact off1 k u (ZaL eu).2 x q mk
    ·have:=hG x z;have:=new1 x q;omega
   ·exact f12 s' d hs ht x m q
theorem EX.comp{g:Src}{q:PG}{j:Nat}{f:Ex}{pf:PX}(hg:Gs O Ns g q)(hj:j∉O∧∀q∈S,q.1≠j)(hN:∀i∈Ns,i∉O∧∀q∈S,q.1≠i)(hf:EX O S [] true f pf): EX O S [] true (ZaS g (ZH j) ZaH f) (Zfo q j pf):=fun c ρ σ H Φ Ψ t σ' s h=>by
 have hS:∀d,(j,d)∉S:=fun d m=>hj.2 _ m rfl
 obtain⟨ts,h1,h⟩:=Zz0.mp h
 split at h
 ·rename_i hl
  obtain⟨⟨out,σ2⟩,h2,h⟩:=Zz1.mp h
  cases h
  have sd:=s.del j
  obtain⟨nx,X,vs,F,G,g1,g2,g3,g4,g5⟩:=hg c.toCtx ρ (Z8 σ j) H Φ ts sd.st h1
  obtain⟨xs,K,Φ',Ψ',F',d1,d2,d3,d4,d5,d6,d7,d8,d9,d10,d11,d12⟩:=ZhD hj.1 hS hf (c:=c) (ρ:=ρ) (H1:=H++X) (fun a m=>(g4 a m).1) (fun a m=>sd.st.from_src (g4 a m).2) g5 ts vs 0 [] (Z8 σ j) (H++X) Φ Ψ F out σ2 (by simp) (by simp) (sd.ext X) (Zz10 _) (fun _ _=>rfl) (fun a m q=>by
   rcases q with⟨k,hk,⟨t,e⟩,q⟩ | q
   ·exact sd.st.from_off (fun i hi=>(hN i hi).1) (g4 a m).2 hk e q
   ·rcases(g4 a m).2 with z | ⟨n,hn,⟨tn,en⟩,mn⟩
    ·have:=sd.shlow q;omega
    ·exact sd.shoff q (fun d m=>(hN n hn).2 _ m rfl) en mn) g2 g3 (by simpa using hl) h2
  have lx:(H++X).length=H.length+X.length:=List.length_append
  simp only[SH.del hS]at d3 d6
  refine⟨.ref K.length,K++[xs],Φ',Ψ',K.length::F',?_,by simp;omega,fun a ha hn=>?_,d4.ext [xs],fun k u hk e=>?_,fun a h=>?_,fun s' d hs ht a m=>?_,ZdE d8,fun a m=>.inl ?_,fun a h m=>?_,fun _=>⟨?_,fun _ s' d hs ht a m q=>?_⟩⟩
  ·simp only[ZaS,g1,Zs0,d1,Zs1,List.nil_append]
  ·rw[Zy0 (by omega),d3 a (by omega) hn,Zy0 ha]
  ·obtain⟨e1,e2⟩:=d5 k u hk e
   exact⟨(ZaL e1).2,e2⟩
  ·rcases d6 a h with z | z
   ·exact .inl (by omega)
   ·exact .inr z
  ·rcases d7 s' d hs ht a m with z | ⟨k,⟨u,eu⟩,mk⟩ | z
   ·exact .inl (by omega)
   ·exact .inr ⟨k,⟨u,(ZaL eu).2⟩,mk⟩
   ·rcases(g4 a z).2 with z | ⟨n,_,⟨tn,en⟩,mn⟩
    ·exact .inl z
    ·exact .inr ⟨n,⟨tn,(ZaL en).2⟩,mn⟩
  ·rcases Zz7.mp m with z | z
   ·omega
   ·have:=d9 a z;omega
  ·rcases Zz7.mp m with z | z
   ·have:=d4.shlow h;omega
   ·exact d11 a h z
  ·rw[List.nodup_cons]
   exact⟨fun m=>Nat.lt_irrefl _ (d8.lt _ m),d10⟩
  ·rcases Zz7.mp q with z | z
   ·obtain⟨u,eu⟩:=ht
    have:=d4.low eu a m
    omega
   ·exact d12 s' d hs ht a m z
 ·cases h
end
end TM
end
section
namespace TM
open PySem PM
noncomputable def Zfp(k:Nat)(p:PX)(g:PG)(put:T→TL→Option TL)(b:PS): PS:=fun σ=>(p (Z8 σ k)).bind fun r=>(g (Zw r.2 k r.1)).bind fun ts=>ZbP put b r.2 ts
noncomputable def Cg(k:Nat)(g:Ex→Src): Prop:=∀e ρ H,g e ρ H=(e ρ H).bind fun r=>g (eVar k) (upd ρ k r.1) r.2
theorem Cg.range{k:Nat}{C:Ex→ZW}(h:Cts k C): Cg k fun e=>ZaN (C e):=fun e ρ H=>by
 simp only[ZaN]
 rw[h e ρ H]
 cases e ρ H with
 | none=>rfl
 | some p=>rfl
section
variable {O:List Nat} {S SR:Sps} {fr:Bool}
theorem Zlq{k:Nat}{J:List Nat}{g:Ex→Src}{e:Ex}{p:PX}{q:PG}{put:V→Lc→Option Lc}{pput:T→TL→Option TL}{b:Sm}{qb:PS}(hC:Cg k g)(x:EX O S [] true e p)(hg:Gs (k::O) [] (g (eVar k)) q)(hk:∀q∈S,q.1≠k)(hj:PutOk O J put pput)(hkp:PutK J put)(hJ:∀i∈J,i∉O∧(∀q∈S,q.1≠i)∧∀q∈SR,q.1≠i)(hb:SU O S O S SR fr b qb): SU O S O S SR fr (ZaA (g e) put b) (Zfp k p q pput qb):=fun c ρ σ H Φ Ψ r hc s h=>by
 have hS:∀d,(k,d)∉S:=fun d m=>hk _ m rfl
 obtain⟨⟨t1,σ1⟩,h1,h⟩:=Zz0.mp h
 obtain⟨ts,h2,h⟩:=Zz0.mp h
 have sd:=s.del k
 obtain⟨v1,H1,Φ1,Ψ1,F1,a1,a2,a3,a4,a5,a6,a11,a7,a8,a9,a10⟩:=x c ρ (Z8 σ k) H Φ Ψ t1 σ1 sd h1
 have new1:∀a∈F1,H.length≤a:=fun a m=>(a8 a m).nil
 have s1:Su c (k::O) S (upd ρ k v1) (Zw σ1 k t1) H1 (Zr Φ1 k F1) Ψ1:=a4.putO (fun j hj=>by rcases Zz7.mp hj with h | h;exact .inr h;exact .inl h) hS a7 (a10 rfl).1 (fun a m=>Nat.le_trans s.st.len (new1 a m)) (fun j w _ ej=>Zd7 sd a5 new1 ((a10 rfl).2 (by simp)) j w ej)
 obtain⟨nx,X,vs,F,G,g1,g2,g3,g4,g5⟩:=hg c.toCtx (upd ρ k v1) (Zw σ1 k t1) H1 (Zr Φ1 k F1) ts s1.st h2
 have gnew:∀a∈G,H1.length≤a:=fun a m=>(g4 a m).2.nil
 have:=Zgl hj hkp (fun i hi=>⟨(hJ i hi).1,fun d m=>(hJ i hi).2.1 _ m rfl⟩) (fun q hq m=>(hJ q.1 m).2.2 q hq rfl) hb hc (H1:=H1++X) (fun a m=>(g4 a m).1) (fun a m=>.inl (by have:=gnew a m;have:=s.st.len;omega)) g5 ts vs 0 ρ σ1 (H1++X) Φ1 Ψ1 F r (by simp) (by simp) (a4.ext X) (Zz10 _) (fun _ _=>rfl) (fun a m q=>by have:=HU.lt a4 q;have:=gnew a m;omega) g2 g3 h
 have eg:ZaA (g e) put b ρ H=ZaR nx put b (ts.length+1) 0 ρ (H1++X):=by
  simp only[ZaA]
  rw[hC e ρ H,a1]
  simp only[Zs0,g1]
 rw[eg]
 have:=this.step a4 (by simp) (fun a ha _=>Zy0 ha) (fun j t _ e=>⟨e,rfl⟩) (fun a h=>.inr h)
 refine this.step s a2 (fun a ha hn=>a3 a ha fun q=>hn ((SH.del hS).mp q)) (fun j t hj e=>?_) (fun a h=>(a6 a h).imp id (SH.del hS).mp)
 obtain⟨e1,e2⟩:=a5 j t hj e
 exact⟨(ZaL e1).2,e2⟩
end
noncomputable def Px(c:Option (T×TL))(Q:T→TL→Prop): Prop:=∃t σ,c=some (t,σ)∧Q t σ
noncomputable def Pbx(c:Option (Bool×TL))(Q:Bool→TL→Prop): Prop:=∃t σ,c=some (t,σ)∧Q t σ
noncomputable def Pr(c:Option (T×List T))(Q:T→List T→Prop): Prop:=∃t us,c=some (t,us)∧Q t us
noncomputable def Psx(c:Option (Option T×TL))(R:T→TL→Prop)(N:TL→Prop): Prop:=∃o σ,c=some (o,σ)∧(∀t,o=some t→R t σ)∧(o=none→N σ)
section
variable {σ:TL} {Q:T→TL→Prop} {B:Bool→TL→Prop} {R:T→TL→Prop} {N:TL→Prop}
theorem Zne{p:PE}(h:Pk (p σ) fun t=>Q t σ): Px (xP p σ) Q:=by
 obtain⟨t,e,q⟩:=h;exact⟨t,σ,by simp[xP,e],q⟩
theorem Znf{p:PB}(h:Pb (p σ) fun t=>B t σ): Pbx (xB p σ) B:=by
 obtain⟨t,e,q⟩:=h;exact⟨t,σ,by simp[xB,e],q⟩
theorem Zmn{p:PX}(h:Px (p σ) fun t σ1=>Pb (ZcE t) fun b=>B b σ1): Pbx (Zci p σ) B:=by
 obtain⟨t,σ1,e,b,e2,q⟩:=h;exact⟨b,σ1,by simp[Zci,e,e2],q⟩
theorem Zmo{p q:PBX}(h:Pbx (p σ) fun b σ1=>(b=true→Pbx (q σ1) B)∧(b=false→B false σ1)): Pbx (ZdF p q σ) B:=by
 obtain⟨t,σ1,e,h1,h2⟩:=h
 cases t with
 | true=>obtain⟨b,σ2,e2,q2⟩:=h1 rfl;exact⟨b,σ2,by simp[ZdF,e,e2],q2⟩
 | false=>exact⟨false,σ1,by simp[ZdF,e],h2 rfl⟩
theorem ZmW{p q:PBX}(h:Pbx (p σ) fun b σ1=>(b=true→B true σ1)∧(b=false→Pbx (q σ1) B)): Pbx (xOr p q σ) B:=by
 obtain⟨t,σ1,e,h1,h2⟩:=h
 cases t with
 | false=>obtain⟨b,σ2,e2,q2⟩:=h2 rfl;exact⟨b,σ2,by simp[xOr,e,e2],q2⟩
 | true=>exact⟨true,σ1,by simp[xOr,e],h1 rfl⟩
theorem Zlr{k:Nat}{p1 p2:PX}(h:Px (p1 (Z8 σ k)) fun t σ1=>Px (p2 (Zw σ1 k t)) fun u σ2=>Q u (Z8 σ2 k)): Px (Z0 k p1 p2 σ) Q:=by
 obtain⟨t,σ1,e,u,σ2,e2,q⟩:=h
 exact⟨u,Z8 σ2 k,by simp[Z0,e,e2],q⟩
theorem ZkH{xs:List Nat}{p:List T→Option (T×List T)}{ps:PEs}(h:Pl (ps σ) fun ts=>Pr (p ts) fun t us=>Q t (pick xs (us.map some) σ)): Px (ZJ false xs p ps σ) Q:=by
 obtain⟨ts,e,t,us,e2,q⟩:=h
 exact⟨t,_,by simp[ZJ,e,e2],q⟩
theorem Zls(h:N σ): Psx (Zaj σ) R N:=⟨none,σ,rfl,by simp,fun _=>h⟩
theorem ZaG{a b:PS}(h:Psx (a σ) R fun σ1=>Psx (b σ1) R N): Psx (Zx a b σ) R N:=by
 obtain⟨o,σ1,e,h1,h2⟩:=h
 cases o with
 | none=>
  obtain⟨o2,σ2,e2,k1,k2⟩:=h2 rfl
  exact⟨o2,σ2,by simp[Zx,e,e2],k1,k2⟩
 | some t=>exact⟨some t,σ1,by simp[Zx,e],h1,by simp⟩
theorem Zmp{p:PX}(h:Px (p σ) R): Psx (Zad p σ) R N:=by
 obtain⟨t,σ1,e,q⟩:=h
 exact⟨some t,σ1,by simp[Zad,e],fun _ h=>by cases h;exact q,by simp⟩
theorem Zmq{i:Nat}{p:PX}(h:Px (p σ) fun t σ1=>N (Zw σ1 i t)): Psx (Z1 i p σ) R N:=by
 obtain⟨t,σ1,e,q⟩:=h
 exact⟨none,_,by simp[Z1,e],by simp,fun _=>q⟩
theorem Zlt{i:Nat}{p:PE}(h:Pk (p σ) fun t=>N (Zw σ i t)): Psx (Zb0 i p σ) R N:=by
 obtain⟨t,e,q⟩:=h
 exact⟨none,_,by simp[Zb0,e],by simp,fun _=>q⟩
theorem ZmX{b:PBX}{p q:PS}(h:Pbx (b σ) fun x σ1=>(x=true→Psx (p σ1) R N)∧(x=false→Psx (q σ1) R N)): Psx (Zap b p q σ) R N:=by
 obtain⟨x,σ1,e,h1,h2⟩:=h
 cases x with
 | true=>obtain⟨o,σ2,e2,k⟩:=h1 rfl;exact⟨o,σ2,by simp[Zap,e,e2],k⟩
 | false=>obtain⟨o,σ2,e2,k⟩:=h2 rfl;exact⟨o,σ2,by simp[Zap,e,e2],k⟩
theorem Zmr{p:PX}(h:Px (p σ) fun _ σ1=>N σ1): Psx (Zfm p σ) R N:=by
 obtain⟨t,σ1,e,q⟩:=h
 exact⟨none,σ1,by simp[Zfm,e],by simp,fun _=>q⟩
theorem ZkI{k:Nat}{p:PX}{q:PS}(h:Px (p (Z8 σ k)) fun t σ1=>Psx (q (Zw σ1 k t)) (fun t σ2=>R t (Z8 σ2 k)) fun σ2=>N (Z8 σ2 k)): Psx (Zfn k p q σ) R N:=by
 obtain⟨t,σ1,e,o,σ2,e2,k1,k2⟩:=h
 exact⟨o,Z8 σ2 k,by simp[Zfn,e,e2],k1,k2⟩
theorem Zms{x:Nat}{M:List Nat}{f:PE}(h:Pk (f σ) fun w=>∃ts,σ x=some (.lst ts)∧ts.length<10000∧N (Zbr (Zw σ x (.lst (ts++[w]))) M)): Psx (Zct x M ZaT f σ) R N:=by
 obtain⟨w,e,ts,e2,hl,q⟩:=h
 refine⟨none,_,?_,by simp,fun _=>q⟩
 simp only[Zct,ZaT,e,e2,Zs0,ZdD,Zcs]
 rw[if_pos (by rw[Zav];omega)]
 rfl
theorem Zlu{x d:Nat}{own:Bool}{f:PE}(hd:0<d∧d≤999∧(own=true∨dnn d 0=0))(h:Pk (f σ) fun w=>∃ts,σ x=some (.lst ts)∧ts.length<10000∧N (Zw σ x (.lst (ts++[w])))): Psx (Zc0 x d own ZaT f σ) R N:=by
 obtain⟨w,e,ts,e2,hl,q⟩:=h
 refine⟨none,_,?_,by simp,fun _=>q⟩
 simp only[Zc0,ZaT,e,e2,Zs0,Zcf,Zcs,List.length_nil]
 rw[if_pos hd,if_pos (by rw[Zav];omega)]
 rfl
theorem Zlv{x d:Nat}{own:Bool}{f i:PE}(hd:0<d∧d≤999∧(own=true∨dnn d 0=0))(h:Pk (f σ) fun w=>Pk (i σ) fun k=>∃ts m,k=.int m∧σ x=some (.lst ts)∧0≤m∧m<ts.length∧N (Zw σ x (.lst (ts.set m.toNat w)))): Psx (Zc1 x d own f ZaT i σ) R N:=by
 obtain⟨w,e,k,e3,ts,m,ek,e2,h0,h1,q⟩:=h
 subst ek
 refine⟨none,_,?_,by simp,fun _=>q⟩
 simp only[Zc1,ZaT,e,e2,e3,Zs0,Zcf,Zg0,List.length_nil]
 rw[if_pos hd,if_pos ⟨h0,h1⟩]
 rfl
theorem ZkJ{x d:Nat}{own:Bool}{f i:PE}(hd:1<d∧d≤999∧(own=true∨dnn d 1=0))(h:Pk (i σ) fun k=>Pk (f σ) fun w=>∃ts us j,∃m:Int,k=.int m∧¬m≤-1000000∧σ x=some (.lst ts)∧seqIndex? m ts.length=some j∧ts[j]?=some (.lst us)∧us.length<10000∧N (Zw σ x (.lst (ts.set j (.lst (us++[w])))))): Psx (Zc0 x d own (Zfl ZaT i) f σ) R N:=by
 obtain⟨k,e0,w,e,ts,us,j,m,rfl,hm,e2,e3,e4,hl,q⟩:=h
 refine⟨none,_,?_,by simp,fun _=>q⟩
 simp only[Zc0,Zfl,ZaT,e0,e,e2,Zs0,Zcf,Zcs,List.nil_append,List.length_cons,List.length_nil,if_neg hm]
 rw[if_pos hd]
 unfold Zep
 rw[if_neg hm,e3]
 simp only[Zs0,e4,Zcf,Zcs]
 rw[if_pos (by rw[Zav];omega)]
 rfl
theorem ZgI{j:Nat}{b:PS}(P:Nat→TL→Prop): ∀(ts:List T) (k:Nat) {σ:TL},P k σ→(∀i t τ,ts[i]?=some t→P (k+i) τ→Psx (b (Zw τ j t)) R (P (k+i+1)))→(∀τ,P (k+ts.length) τ→N τ)→Psx (ZbP (ZaE j) b σ ts) R N
 | [],k,σ,h0,_,h2=>⟨none,σ,rfl,by simp,fun _=>h2 σ (by simpa using h0)⟩
 | t::ts,k,σ,h0,h1,h2=>by
  obtain⟨o,σ1,e,k1,k2⟩:=h1 0 t σ (by simp) (by simpa using h0)
  cases o with
  | some u=>exact⟨some u,σ1,by simp[ZbP,ZaE,e],k1,by simp⟩
  | none=>
   obtain⟨o2,σ2,e2,l⟩:=ZgI P ts (k+1) (k2 rfl) (fun i u τ eu p=>by
    have:=h1 (i+1) u τ (by simpa using eu) (by rw[show k+(i+1)=k+1+i by omega];exact p)
    rw[show k+(i+1)+1=k+1+i+1 by omega]at this
    exact this) (fun τ p=>h2 τ (by rw[List.length_cons,show k+(ts.length+1)=k+1+ts.length by omega];exact p))
   exact⟨o2,σ2,by simp[ZbP,ZaE,e,e2],l⟩
theorem Zmt{g:PG}{j:Nat}{b:PS}{ts:List T}(P:Nat→TL→Prop)(hg:Pl (g σ) fun us=>us=ts)(h0:P 0 σ)(h1:∀i t τ,ts[i]?=some t→P i τ→Psx (b (Zw τ j t)) R (P (i+1)))(h2:∀τ,P ts.length τ→N τ): Psx (Zch g (ZaE j) b σ) R N:=by
 obtain⟨us,e,rfl⟩:=hg
 obtain⟨o,σ1,e2,l⟩:=ZgI (R:=R) (N:=N) (j:=j) (b:=b) P us 0 h0 (fun i t τ ei p=>by simpa using h1 i t τ ei (by simpa using p)) (fun τ p=>h2 τ (by simpa using p))
 exact⟨o,σ1,by simp only[Zch,e,Zs0,e2],l⟩
theorem Zir{g:PG}{j n:Nat}{a:Nat→T}{b:PS}(P:Nat→TL→Prop)(hg:Pl (g σ) fun us=>us=tab n a)(h0:P 0 σ)(h1:∀i τ,i<n→P i τ→Psx (b (Zw τ j (a i))) R (P (i+1)))(h2:∀τ,P n τ→N τ): Psx (Zch g (ZaE j) b σ) R N:=
 Zmt P hg h0 (fun i t τ e p=>by
  have hi:i<n:=by have:=(Zz6.mp e).1;rwa [Zcn]at this
  rw[ZiJ hi]at e
  cases e
  exact h1 i τ hi p) (fun τ p=>h2 τ (by rwa [Zcn]at p))
theorem Zlw{k:Nat}{p:PX}{g:PG}{j:Nat}{b:PS}(h:Px (p (Z8 σ k)) fun t σ1=>Pl (g (Zw σ1 k t)) fun ts=>Psx (ZbP (ZaE j) b σ1 ts) R N): Psx (Zfp k p g (ZaE j) b σ) R N:=by
 obtain⟨t,σ1,e,ts,e2,o,σ2,e3,l⟩:=h
 exact⟨o,σ2,by simp only[Zfp,e,Zs0,e2,e3],l⟩
theorem ZkK{j n:Nat}{a:Nat→T}{b:PS}(P:Nat→TL→Prop)(h0:P 0 σ)(h1:∀i τ,i<n→P i τ→Psx (b (Zw τ j (a i))) R (P (i+1)))(h2:∀τ,P n τ→N τ): Psx (ZbP (ZaE j) b σ (tab n a)) R N:=
 ZgI P (tab n a) 0 h0 (fun i t τ e p=>by
  have hi:i<n:=by have:=(Zz6.mp e).1;rwa [Zcn]at this
  rw[ZiJ hi]at e
  cases e
  simpa using h1 i τ hi (by simpa using p)) (fun τ p=>h2 τ (by simpa [Zcn]using p))
theorem Zee{n:Nat}{sd:Sps}{q:PS}{ts:List T}{Q:T→List T→Prop}(hn:ts.length=n)(h:Psx (q fun i=>ts[i]?) (fun t σ=>Pl (Zcv σ sd) fun us=>Q t us) fun σ=>Pl (Zcv σ sd) fun us=>Q .none us): Pr (ZaW n sd q ts) Q:=by
 obtain⟨o,σ,e,h1,h2⟩:=h
 cases o with
 | none=>obtain⟨us,e2,q⟩:=h2 rfl;exact⟨.none,us,by simp[ZaW,hn,e,e2],q⟩
 | some t=>obtain⟨us,e2,q⟩:=h1 t rfl;exact⟨t,us,by simp[ZaW,hn,e,e2],q⟩
theorem ZkL{L:List T→Prop}(h:L []): Pl (Zcv σ []) L:=⟨[],rfl,h⟩
theorem Zlx{L:List T→Prop}{i d:Nat}{sd:Sps}{t:T}(e:σ i=some t)(h:Pl (Zcv σ sd) fun us=>L (t::us)): Pl (Zcv σ ((i,d)::sd)) L:=by
 obtain⟨us,e2,q⟩:=h
 exact⟨t::us,by simp[Zcv,e,e2],q⟩
theorem Zly{j k:Nat}{o:Option T}(h:j≠k)(e:σ j=o): Z8 σ k j=o:=by simp[Z8,h,e]
theorem Zkg{x:Nat}{xs:List Nat}{u:T}{us:List T}: pick (x::xs) (List.map some (u::us)) σ x=some u:=by simp[pick]
theorem Zj0{j x:Nat}{xs:List Nat}{u:T}{us:List T}{o:Option T}(h:j≠x)(e:pick xs (List.map some us) σ j=o): pick (x::xs) (List.map some (u::us)) σ j=o:=by simp[pick,h,e]
theorem ZkM{j:Nat}{us:List T}{o:Option T}(e:σ j=o): pick [] (List.map some us) σ j=o:=by simp[pick,e]
end
end TM
end
section
namespace TM
open PySem PM
theorem SimX.zero{n:Nat}{sd:Sps}{fr:Bool}: SimX n sd fr (fun _ _=>none) (fun _=>none):=fun H vs ts t us Φ Ψ _ _ _ _ _ e=>by cases e
end TM
end
section
namespace TM
open PySem PM
section
variable {O N M:List Nat}
theorem Zmu{e1 e2:Ex}{p1 p2:PE}(x:E O N true e1 p1)(y:E O M true e2 p2)(hN:∀i∈N,i∈O)(hM:∀i∈N,i∉M): E O (N++M) true (Za ZO e1 e2) (Zl Zay p1 p2):=fun c ρ σ H Φ t s h=>by
 obtain⟨t1,h1,h⟩:=Zz0.mp h
 obtain⟨t2,h2,h⟩:=Zz0.mp h
 obtain⟨v1,X,F1,a1,a2,a3,a4⟩:=x c ρ σ H Φ t1 s h1
 obtain⟨v2,Y,F2,b1,b2,b3,b4⟩:=y c ρ σ (H++X) Φ t2 (s.ext X) h2
 have a2':=a2.ext Y
 have dj:∀a∈F1,a∉F2:=fun a ha hb=>by
  have hlt:=a2.lt a ha
  rcases b3 a hb with h | ⟨j,hj,⟨tj,ej⟩,mj⟩
  ·omega
  ·obtain⟨vj,_,rj⟩:=s.slot j tj ej
   have:=rj.lt a mj
   rcases a3 a ha with h | ⟨i,hi,⟨ti,ei⟩,mi⟩
   ·omega
   ·exact(s.own i (hN i hi) ti ei).2.2 j tj (fun q=>hM i hi (q▸hj)) ej a mi mj
 have nd1:=a4 rfl
 have nd2:=b4 rfl
 have f1:∀a∈F1,From H (N++M) σ Φ a:=fun a m=>(a3 a m).mono fun i hi=>Zy7 _ hi
 have f2:∀a∈F2,From H (N++M) σ Φ a:=fun a m=>(b3 a m).back.mono fun i hi=>List.mem_append_right _ hi
 have ev:∀r,ZO v1 v2 (H++X++Y)=some r→Za ZO e1 e2 ρ H=some r:=fun r hr=>by simp only[Za,a1,b1,Zs0,hr]
 have ndA:∀{A B:List Nat},A.Nodup→B.Nodup→(∀a∈A,a∉B)→(A++B).Nodup:=fun ha hb hd=>by
  rw[List.nodup_append]
  exact⟨ha,hb,fun a m b m' e=>hd a m (e▸m')⟩
 cases a2' with
 | none=>cases h
 | bool=>cases h
 | str=>cases h
 | obj=>cases h
 | int a=>
  cases b2 <;> first | (cases h;done) | skip
  cases h
  exact⟨_,X++Y,[],ev _ (by simp[ZO]),.int _,by simp,by simp⟩
 | tup hs1=>
  cases b2 with
  | none=>cases h
  | bool=>cases h
  | str=>cases h
  | obj=>cases h
  | int=>cases h
  | ref=>cases h
  | tup hs2=>
   simp only[Zay]at h
   split at h
   ·rename_i hl
    cases h
    refine⟨_,X++Y,_,ev _ ?_,.tup (by rw[←List.append_assoc];exact hs1.append hs2),fun a m=>?_,fun _=>ndA nd1 nd2 dj⟩
    ·simp only[ZO]
     rw[if_pos (by rw[List.length_append]at hl ⊢;rw[hs1.length,hs2.length];exact hl),List.append_assoc]
    ·rcases Zz8.mp m with m | m
     ·exact f1 a m
     ·exact f2 a m
   ·cases h
 | @ref r1 vs1 _ G1 e1' hs1=>
  cases b2 with
  | none=>cases h
  | bool=>cases h
  | str=>cases h
  | obj=>cases h
  | int=>cases h
  | tup=>cases h
  | @ref r2 vs2 _ G2 e2' hs2=>
   simp only[Zay]at h
   split at h
   ·rename_i hl
    cases h
    have hR:=hs1.append hs2
    refine⟨.ref (H++X++Y).length,X++Y++[vs1++vs2],(H++X++Y).length::(G1++G2),ev _ ?_,?_,fun a m=>?_,fun _=>?_⟩
    ·simp only[ZO,e1',e2',Zs0]
     rw[if_pos (by rw[List.length_append]at hl ⊢;rw[hs1.length,hs2.length];exact hl)]
     simp
    ·rw[show H++(X++Y++[vs1++vs2])=H++X++Y++[vs1++vs2]by simp]
     exact .ref (by simp) (hR.ext _)
    ·rcases Zz7.mp m with rfl | m
     ·exact .inl (by simp)
     ·rcases Zz8.mp m with m | m
      ·exact f1 a (Zz2 _ m)
      ·exact f2 a (Zz2 _ m)
    ·refine List.nodup_cons.mpr ⟨fun m=>?_,ndA (List.nodup_cons.mp nd1).2 (List.nodup_cons.mp nd2).2 fun a m m'=>dj a (Zz2 _ m) (Zz2 _ m')⟩
     have:=hR.lt _ m
     omega
   ·cases h
end
end TM
end
section
namespace PM
open PySem PySem.W PySem.Calls PyProof.Rows PyProof
noncomputable def KIn{α:Type}(n:Nat)(P:α→Prop): KasT α→Prop
 | .ret a=>P a
 | .ask i j k=>i<n∧j<n∧∀b,KIn n P (k b)
theorem KIn.bind{α β:Type}{n:Nat}{P:α→Prop}{P':β→Prop}{f:α→KasT β}(h:∀a,P a→KIn n P' (f a)): ∀{t:KasT α},KIn n P t→KIn n P' (t.bind f)
 | .ret a,z=>h a z
 | .ask i j k,z=>⟨z.1,z.2.1,fun b=>KIn.bind h (z.2.2 b)⟩
section
variable {n:Nat}
end
section
variable {prog:Program} {w:World} {A:Around} {E:Value→Shared→Prop} {s:Shared}
end
end PM
namespace PM
open PySem PySem.W PySem.Calls PyProof.Rows PyProof
section
variable {prog:Program} {w:World}
end
end PM
end
section
namespace PM
open PySem PySem.W PySem.Calls PyProof.Rows PyProof
noncomputable def Zng(t:SetTable): Prop:=t.place.toList.Pairwise (· < ·)∧t.dummies = #[]
end PM
end
section
namespace PM
open PySem PySem.W PySem.Calls PyProof.Rows PyProof
noncomputable def Mk(m:Nat): Prop:=m=7∨m=31∨m=127
end PM
end
section
namespace PM
open PySem PySem.W PySem.Calls PyProof.Rows PyProof
structure Held(prog:Program)(w:World)(es:Array (Int×Value))(t:SetTable)(ks:List Int): Prop where
 kind:ElemsOf (intKind prog w) es.toList
 few:es.size<scanBound
 fit:t.fits es.size=true
 rise:Zng t
 led:t.led = !(w.params.followText "set-order")
 same:∃vs,(es.toList.map (·.2)).Perm vs∧IntsAre vs ks
section
variable {prog:Program} {w:World} {es:Array (Int×Value)} {t:SetTable} {ks:List Int}
end
noncomputable def Nice(t:SetTable): Prop:=t.plain=true∧Mk t.mask∧t.place.size*5<t.mask*3
section
variable {prog:Program} {w:World} {A:Around} {E:Value→Shared→Prop} {s:Shared} {a:Addr} {ks:List Int}
end
end PM
end
section
namespace TM
open PySem PM
noncomputable def ZiT: List T→Option T
 | [.lst ts]=>some (.lst ts)
 | _=>none
theorem RDs.zero{H:Hp}: ∀{vs:List V} {ts:List T} {F R:List Nat},RDs H 0 vs ts F R→RFs H vs ts R∧F=[]
 | _,_,_,_,.nil=>⟨.nil,rfl⟩
 | _,_,_,_,.cons a b=>by
  obtain⟨h1,h2⟩:=b.zero
  cases a with
  | leaf h _=>exact⟨.cons h h1,by simp[h2]⟩
section
variable {O N:List Nat} {S:Sps} {u:Bool}
theorem ZkN{x:Nat}(hx:(x,1)∈S): EX O S [x] false (Ze Zdp (eCons (eVar x) eNil)) (xP (Zak ZiT (Zd (Zc x) Zq))):=fun c ρ σ H Φ Ψ t σ' s h=>by
 obtain⟨t',h1,h⟩:=Zz1.mp h
 cases h
 obtain⟨ts,e1,e2⟩:=Zz0.mp h1
 obtain⟨tx,e3,e4⟩:=Zz0.mp e1
 cases e4
 have e3:σ x=some tx:=e3
 cases tx with
 | lst us=>
  cases e2
  obtain⟨v,r1,⟨R,q1,q2,q3⟩,q4,q5⟩:=s.sp x 1 hx _ e3
  obtain⟨v',r1',r2⟩:=s.st.slot x _ e3
  rw[r1]at r1'
  cases r1'
  have hv:∃a,v=.ref a:=by have r3:=r2;generalize Φ x=G at r3;cases r3;exact⟨_,rfl⟩
  obtain⟨a0,rfl⟩:=hv
  obtain⟨vs,ts',F',et,eF,e0,hs,_⟩:=q1.inR (by decide)
  cases et
  have hd:dn 1=0:=rfl
  rw[hd]at hs
  obtain⟨rs,rfl⟩:=hs.zero
  have sub:∀a∈R,a∈Φ x:=fun a m=>by
   obtain⟨_,e⟩:=r2.det (.ref e0 rs)
   rw[e]
   exact Zz2 _ m
  refine⟨.ref H.length,H++[vs],Φ,Ψ,H.length::R,?_,by simp,fun a ha _=>Zy0 ha,s.ext [vs],fun j t _ e=>⟨e,rfl⟩,fun a h=>.inr h,fun s' d _ ⟨t,e⟩ a m=>.inr ⟨s',⟨t,e⟩,m⟩,.ref (by simp) (rs.ext _),fun a m=>?_,fun a h q=>?_,by simp⟩
  ·simp[Ze,eCons,eNil,eVar,r1,Zdp,e0]
  ·rcases Zz7.mp m with rfl | m
   ·exact .inl (Zz10 _)
   ·exact .inr ⟨x,List.mem_singleton.mpr rfl,⟨_,e3⟩,sub a m⟩
  ·rcases Zz7.mp q with rfl | q
   ·have:=s.shlow h;omega
   ·obtain⟨i,d,hi,⟨ti,ei⟩,mi⟩:=h
    by_cases c:i=x
    ·subst c;exact q3 a mi q
    ·obtain⟨_,_,_,_,k⟩:=s.sp i d hi ti ei
     exact k x _ (Ne.symm c) e3 a mi (sub a q)
 | none=>cases e2
 | bool _=>cases e2
 | int _=>cases e2
 | str _=>cases e2
 | tup _=>cases e2
 | ob _ _=>cases e2
theorem Zkh{k:Nat}{N1:List Nat}{u1:Bool}{C:Ex→Ex}{e:Ex}{p1 p2:PX}(hC:Ct k C)(x:EX O S N1 u1 e p1)(y:EX O S [] true (C (eVar k)) p2)(hk:k∉O)(hS:∀q∈S,q.1≠k)(hN1:∀n∈N1,n∉O): EX O S [] true (C e) (Z0 k p1 p2):=fun c ρ σ H Φ Ψ t σ' s h=>by
 have hS:∀d,(k,d)∉S:=fun d m=>hS _ m rfl
 obtain⟨v,H',Φ',Ψ',F,a1,a2,a3,a4,a5,a6,a11,a7,a8,a9,a10⟩:=Zgk hC x y (fun i hi=>hi) hS (fun n hn=>(List.not_mem_nil hn).elim) (fun c ρ σ σ1 H H1 Φ Ψ Φ1 Ψ1 v t F s l s1 old r fr sh un=>by
  refine s1.putL hk hS r (fun a m=>s.st.from_src (fr a m)) (fun i hi w e a m q=>?_) sh
  obtain⟨e1,e2⟩:=old i w (s.ap i hi) e
  rw[e2]at m
  rcases fr a q with q | ⟨n,hn,⟨w',e'⟩,mn⟩
  ·have:=s.low e1 a m;omega
  ·exact(s.st.own i hi w e1).2.2 n w' (fun q=>hN1 n hn (q▸hi)) e' a m mn) c ρ σ H Φ Ψ t σ' s h
 refine⟨v,H',Φ',Ψ',F,a1,a2,a3,a4,a5,a6,a11,a7,fun a m=>?_,a9,fun hu=>⟨(a10 hu).1,fun _=>(a10 hu).2 fun n hn=>(List.not_mem_nil hn).elim⟩⟩
 rcases a8 a m with q | ⟨n,hn,_⟩
 ·exact .inl q
 ·simp at hn
end
end TM
end
section
namespace TM
open PySem PM
theorem Zlz{fr:Bool}{f:List V→Hp→Option (V×Hp)}{p:List T→Option (T×List T)}{x d i:Nat}(k:SimX 1 [(0,d)] false f p)(hi:i≠x): SU [] [(x,d)] [] [(x,d)] [] fr (Zy i (Ze f (eCons (eVar x) eNil))) (Z1 i (ZJ false [x] p (Zd (Zc x) Zq))):=fun c ρ σ H Φ Ψ r hc s e=>by
 obtain⟨⟨t,σ1⟩,h1,h⟩:=Zz1.mp e
 subst h
 obtain⟨ts,h2,h1⟩:=Zz0.mp h1
 obtain⟨⟨t'0,us⟩,h3,h1⟩:=Zz0.mp h1
 rw[if_pos (by simp)]at h1
 cases h1
 obtain⟨tx,e3,e4⟩:=Zz0.mp h2
 cases e4
 have e3:σ x=some tx:=e3
 obtain⟨v0,r1,sp,q4,q5⟩:=s.sp x d (Zz9.mpr rfl) _ e3
 obtain⟨v',r1',r2⟩:=s.st.slot x _ e3
 rw[r1]at r1'
 cases r1'
 have hpos:0<H.length:=Nat.lt_of_lt_of_le s.st.pos s.st.len
 have n0:0∉Ψ x:=fun q=>by
  rcases q4 0 q with z | z
  ·have:=s.st.pos;omega
  ·exact s.st.f0 (c.fs x 0 z)
 obtain⟨v,H',Φ',Ψ',F,a1,a2,a3,a4,a5,a6,a7,a8⟩:=k H [v0] [tx] t'0 us (fun _=>Φ x) (fun _=>Ψ x) hpos rfl rfl (fun i t e=>by
  match i,e with
  | 0,e=>cases e;exact⟨v0,rfl,r2⟩) (fun i d' hm v t hv ht=>by
  simp only[List.mem_singleton,Prod.mk.injEq]at hm
  obtain⟨rfl,rfl⟩:=hm
  cases hv
  cases ht
  refine⟨sp,n0,fun j u hj hu=>?_⟩
  match j,hj,hu with
  | 0,hj,_=>exact absurd rfl hj
  | j+1,_,hu=>simp at hu) h3
 match us,a4 with
 | [u],_=>
 obtain⟨b1,b2,b3,b4,b5,b6,b7⟩:=a5 0 0 d v0 u rfl rfl rfl
 have fr1:∀j t,j≠x→σ j=some t→∀a∈Φ j,H'[a]?=H[a]?:=fun j t hj ej a m=>by
  have lt:=s.low ej a m
  refine a3 a lt fun i d' hm q=>?_
  exact q5 j t hj ej a q m
 refine⟨upd ρ i v,H',Zr (fun j=>if j=x then Φ' 0 else Φ j) i F,(fun j=>if j=x then Ψ' 0 else Ψ j),a2,fun a ha hn=>?_,fun q hq=>(List.not_mem_nil hq).elim,.inl ⟨rfl,?_,?_,fun a h=>?_⟩⟩
 ·refine a3 a ha fun i' d' hm q=>hn (.inr ⟨x,d,List.mem_singleton.mpr rfl,⟨_,e3⟩,?_⟩)
  exact q
 ·simp[Zy,Ze,eCons,eNil,eVar,r1,a1]
 ·have slot:∀j t,Zw (pick [x] ([u].map some) σ) i t'0 j=some t→∃w,upd ρ i v j=some w∧RF H' w t (Zr (fun j=>if j=x then Φ' 0 else Φ j) i F j)∧∀a∈Zr (fun j=>if j=x then Φ' 0 else Φ j) i F j,c.H0.length≤a∨c.P a:=fun j t ej=>by
   have from0:∀a,(H.length≤a∨∃j,j<1∧a∈Φ x)→c.H0.length≤a∨c.P a:=fun a h=>by
    rcases h with h | ⟨_,_,h⟩
    ·exact .inl (Nat.le_trans s.st.len h)
    ·exact s.st.src x _ e3 a h
   by_cases cj:j=i
   ·subst cj
    simp only[Zw,if_true,Option.some.injEq]at ej
    subst ej
    refine⟨v,by simp[PM.upd],by simpa [Zr]using a6,fun a m=>?_⟩
    simp only[Zr,if_true]at m
    exact from0 a (a7 a m)
   ·simp only[Zw,cj,if_false]at ej
    by_cases cx:j=x
    ·subst cx
     simp only[pick,List.map_cons,if_true,Option.some.injEq]at ej
     subst ej
     refine⟨v0,by simp[PM.upd,cj,r1],by simpa [Zr,cj]using b1,fun a m=>?_⟩
     simp only[Zr,cj,if_false,if_true]at m
     exact from0 a (b4 a m)
    ·simp only[pick,List.map_cons,List.map_nil,cx,if_false]at ej
     obtain⟨w,w1,w2⟩:=s.st.slot j t ej
     refine⟨w,by simp[PM.upd,cj,w1],?_,fun a m=>?_⟩
     ·simp only[Zr,cj,if_false,cx]
      exact w2.frame (fr1 j t cx ej)
     ·simp only[Zr,cj,if_false,cx]at m
      exact s.st.src j t ej a m
  refine⟨⟨fun j t ej=>?_,fun j t ej=>?_,fun j hj=>(List.not_mem_nil hj).elim,Nat.le_trans s.st.len a2,fun a la hf=>?_,s.st.pos,s.st.f0⟩,fun j d' hj t' ej=>?_,fun j hj=>(List.not_mem_nil hj).elim,fun j hj=>(List.not_mem_nil hj).elim⟩
  ·obtain⟨w,w1,w2,_⟩:=slot j t ej;exact⟨w,w1,w2⟩
  ·obtain⟨w,w1,w2,w3⟩:=slot j t ej;exact w3
  ·rw[a3 a (Nat.lt_of_lt_of_le la s.st.len) fun i' d' hm q=>?_,s.st.keep a la hf]
   rcases q4 a q with z | z
   ·omega
   ·exact hf (c.fs x a z)
  ·simp only[List.mem_singleton,Prod.mk.injEq]at hj
   obtain⟨rfl,rfl⟩:=hj
   have ex:Zw (pick [j] ([u].map some) σ) i t'0 j=some u:=by simp[Zw,Ne.symm hi,pick]
   have ej:Zw (pick [j] ([u].map some) σ) i t'0 j=some t':=ej
   rw[ex]at ej
   cases ej
   refine⟨v0,by simp[PM.upd,Ne.symm hi,r1],by simpa using b2,fun a m=>?_,fun z w hz ez a m q=>?_⟩
   ·simp only[if_true]at m
    rcases b3 a m with y | y
    ·exact .inl (Nat.le_trans s.st.len y)
    ·exact q4 a y
   ·simp only[if_true]at m
    by_cases cz:z=i
    ·subst cz
     simp only[Zr,if_true]at q
     exact b5 a m q
    ·simp only[Zr,cz,if_false,hz]at q
     have ez:Zw (pick [j] ([u].map some) σ) i t'0 z=some w:=ez
     simp only[Zw,cz,if_false,pick,List.map_cons,List.map_nil,hz]at ez
     rcases b3 a m with y | y
     ·have:=s.low ez a q;omega
     ·exact q5 z w hz ez a y q
 ·rcases h with⟨j,hj,_⟩ | ⟨j,d',hj,_,m⟩
  ·exact(List.not_mem_nil hj).elim
  ·simp only[List.mem_singleton,Prod.mk.injEq]at hj
   obtain⟨rfl,rfl⟩:=hj
   simp only[if_true]at m
   rcases b3 a m with y | y
   ·exact .inl y
   ·exact .inr (.inr ⟨j,d',List.mem_singleton.mpr rfl,⟨_,e3⟩,y⟩)
theorem ZlA{fr:Bool}{f:List V→Hp→Option (V×Hp)}{p:List T→Option (T×List T)}{x d:Nat}(k:SimX 1 [(0,d)] false f p): SU [] [(x,d)] [] [(x,d)] [] fr (ZL (Ze f (eCons (eVar x) eNil))) (Zfm (ZJ false [x] p (Zd (Zc x) Zq))):=fun c ρ σ H Φ Ψ r hc s e=>by
 obtain⟨⟨t,σ1⟩,h1,h⟩:=Zz1.mp e
 subst h
 obtain⟨ts,h2,h1⟩:=Zz0.mp h1
 obtain⟨⟨t'0,us⟩,h3,h1⟩:=Zz0.mp h1
 rw[if_pos (by simp)]at h1
 cases h1
 obtain⟨tx,e3,e4⟩:=Zz0.mp h2
 cases e4
 have e3:σ x=some tx:=e3
 obtain⟨v0,r1,sp,q4,q5⟩:=s.sp x d (Zz9.mpr rfl) _ e3
 obtain⟨v',r1',r2⟩:=s.st.slot x _ e3
 rw[r1]at r1'
 cases r1'
 have hpos:0<H.length:=Nat.lt_of_lt_of_le s.st.pos s.st.len
 have n0:0∉Ψ x:=fun q=>by
  rcases q4 0 q with z | z
  ·have:=s.st.pos;omega
  ·exact s.st.f0 (c.fs x 0 z)
 obtain⟨v,H',Φ',Ψ',F,a1,a2,a3,a4,a5,a6,a7,a8⟩:=k H [v0] [tx] t'0 us (fun _=>Φ x) (fun _=>Ψ x) hpos rfl rfl (fun i t e=>by
  match i,e with
  | 0,e=>cases e;exact⟨v0,rfl,r2⟩) (fun i d' hm v t hv ht=>by
  simp only[List.mem_singleton,Prod.mk.injEq]at hm
  obtain⟨rfl,rfl⟩:=hm
  cases hv
  cases ht
  refine⟨sp,n0,fun j u hj hu=>?_⟩
  match j,hj,hu with
  | 0,hj,_=>exact absurd rfl hj
  | j+1,_,hu=>simp at hu) h3
 match us,a4 with
 | [u],_=>
 obtain⟨b1,b2,b3,b4,b5,b6,b7⟩:=a5 0 0 d v0 u rfl rfl rfl
 have fr1:∀j t,j≠x→σ j=some t→∀a∈Φ j,H'[a]?=H[a]?:=fun j t hj ej a m=>by
  have lt:=s.low ej a m
  refine a3 a lt fun i d' hm q=>?_
  exact q5 j t hj ej a q m
 refine⟨ρ,H',(fun j=>if j=x then Φ' 0 else Φ j),(fun j=>if j=x then Ψ' 0 else Ψ j),a2,fun a ha hn=>?_,fun q hq=>(List.not_mem_nil hq).elim,.inl ⟨rfl,?_,?_,fun a h=>?_⟩⟩
 ·refine a3 a ha fun i' d' hm q=>hn (.inr ⟨x,d,List.mem_singleton.mpr rfl,⟨_,e3⟩,?_⟩)
  exact q
 ·simp[ZL,Ze,eCons,eNil,eVar,r1,a1]
 ·have slot:∀j t,pick [x] ([u].map some) σ j=some t→∃w,ρ j=some w∧RF H' w t (if j=x then Φ' 0 else Φ j)∧∀a∈(if j=x then Φ' 0 else Φ j),c.H0.length≤a∨c.P a:=fun j t ej=>by
   have from0:∀a,(H.length≤a∨∃j,j<1∧a∈Φ x)→c.H0.length≤a∨c.P a:=fun a h=>by
    rcases h with h | ⟨_,_,h⟩
    ·exact .inl (Nat.le_trans s.st.len h)
    ·exact s.st.src x _ e3 a h
   by_cases cx:j=x
   ·subst cx
    simp only[pick,List.map_cons,if_true,Option.some.injEq]at ej
    subst ej
    refine⟨v0,r1,by simpa using b1,fun a m=>?_⟩
    simp only[if_true]at m
    exact from0 a (b4 a m)
   ·simp only[pick,List.map_cons,List.map_nil,cx,if_false]at ej
    obtain⟨w,w1,w2⟩:=s.st.slot j t ej
    refine⟨w,w1,?_,fun a m=>?_⟩
    ·simp only[cx,if_false]
     exact w2.frame (fr1 j t cx ej)
    ·simp only[cx,if_false]at m
     exact s.st.src j t ej a m
  refine⟨⟨fun j t ej=>?_,fun j t ej=>?_,fun j hj=>(List.not_mem_nil hj).elim,Nat.le_trans s.st.len a2,fun a la hf=>?_,s.st.pos,s.st.f0⟩,fun j d' hj t' ej=>?_,fun j hj=>(List.not_mem_nil hj).elim,fun j hj=>(List.not_mem_nil hj).elim⟩
  ·obtain⟨w,w1,w2,_⟩:=slot j t ej;exact⟨w,w1,w2⟩
  ·obtain⟨w,w1,w2,w3⟩:=slot j t ej;exact w3
  ·rw[a3 a (Nat.lt_of_lt_of_le la s.st.len) fun i' d' hm q=>?_,s.st.keep a la hf]
   rcases q4 a q with z | z
   ·omega
   ·exact hf (c.fs x a z)
  ·simp only[List.mem_singleton,Prod.mk.injEq]at hj
   obtain⟨rfl,rfl⟩:=hj
   have ex:pick [j] ([u].map some) σ j=some u:=by simp[pick]
   have ej:pick [j] ([u].map some) σ j=some t':=ej
   rw[ex]at ej
   cases ej
   refine⟨v0,r1,by simpa using b2,fun a m=>?_,fun z w hz ez a m q=>?_⟩
   ·simp only[if_true]at m
    rcases b3 a m with y | y
    ·exact .inl (Nat.le_trans s.st.len y)
    ·exact q4 a y
   ·simp only[if_true]at m
    simp only[hz,if_false]at q
    have ez:pick [j] ([u].map some) σ z=some w:=ez
    simp only[pick,List.map_cons,List.map_nil,hz,if_false]at ez
    rcases b3 a m with y | y
    ·have:=s.low ez a q;omega
    ·exact q5 z w hz ez a y q
 ·rcases h with⟨j,hj,_⟩ | ⟨j,d',hj,_,m⟩
  ·exact(List.not_mem_nil hj).elim
  ·simp only[List.mem_singleton,Prod.mk.injEq]at hj
   obtain⟨rfl,rfl⟩:=hj
   simp only[if_true]at m
   rcases b3 a m with y | y
   ·exact .inl y
   ·exact .inr (.inr ⟨j,d',List.mem_singleton.mpr rfl,⟨_,e3⟩,y⟩)
end TM
end
section
namespace PM
open PySem PySem.W PySem.Calls PyProof.Rows PyProof PySem.Spec
noncomputable def Zfc: Expr→Bool
 | .Starred _ _=>true
 | _=>false
theorem ZgY{e:Expr}{es:List Expr}{env:Env}(h:Zfc e=false): starEach (e::es) env=(false,eval e env)::starEach es env:=by
 cases e <;> first | rfl | cases h
noncomputable def Zfd: List Expr→Bool
 | []=>true
 | e::es=>!Zfc e && Zfd es
theorem Zjb{env:Env}: ∀{es:List Expr} (pos:Pos),Zfd es=true→(backTo pos (starEach es env)).any (·.1)=false
 | [],pos,_=>by rfl
 | e::es,pos,h=>by
  simp only[Zfd,Bool.and_eq_true,Bool.not_eq_true']at h
  have ih:=Zjb (env:=env) (es:=es) pos h.2
  rw[ZgY h.1]
  unfold backTo at ih ⊢
  simp only[List.map_cons,List.any_cons,Bool.false_or]
  exact ih
section
variable {prog:Program} {w:World} {Γ:Cx}
theorem jc{e:Expr}{es:List Expr}{f:Ex}{g:ZW}(h1:J prog w Γ e f)(h2:Js prog w Γ es g)(hs:Zfc e=false:=by exact rfl): Js prog w Γ (e::es) (eCons f g):=Zk h1 h2 (ZgY hs)
end
section
variable {prog:Program} {w:World} {K:Frag} {p:Program} {loose:List Str} {mean:ExcName→Option Value} {mg mb:Str→Option Value}
theorem Def.zero{f:Addr}{room:Nat}: Def prog w K p loose mean mg mb f room (fun _ _=>none):=by
 intro Γ dp un clr hd hu W ρ H fr s Q E as xs v H' r hx hF post
 cases hF
end
end PM
end
section
namespace PM
open PySem PySem.W PySem.Calls PyProof.Rows PyProof PySem.Spec
section
variable {prog:Program} {w:World} {Γ:Cx}
theorem ln1{α:Type _}: ∀{xs:List α},xs.length=1→∃x0,xs=[x0]
 | [x0],_=>⟨x0,rfl⟩
theorem ln2{α:Type _}: ∀{xs:List α},xs.length=2→∃x0 x1,xs=[x0,x1]
 | [x0,x1],_=>⟨x0,x1,rfl⟩
theorem ln3{α:Type _}: ∀{xs:List α},xs.length=3→∃x0 x1 x2,xs=[x0,x1,x2]
 | [x0,x1,x2],_=>⟨x0,x1,x2,rfl⟩
theorem ln4{α:Type _}: ∀{xs:List α},xs.length=4→∃x0 x1 x2 x3,xs=[x0,x1,x2,x3]
 | [x0,x1,x2,x3],_=>⟨x0,x1,x2,x3,rfl⟩
theorem ln5{α:Type _}: ∀{xs:List α},xs.length=5→∃x0 x1 x2 x3 x4,xs=[x0,x1,x2,x3,x4]
 | [x0,x1,x2,x3,x4],_=>⟨x0,x1,x2,x3,x4,rfl⟩
theorem ln6{α:Type _}: ∀{xs:List α},xs.length=6→∃x0 x1 x2 x3 x4 x5,xs=[x0,x1,x2,x3,x4,x5]
 | [x0,x1,x2,x3,x4,x5],_=>⟨x0,x1,x2,x3,x4,x5,rfl⟩
theorem ln7{α:Type _}: ∀{xs:List α},xs.length=7→∃x0 x1 x2 x3 x4 x5 x6,xs=[x0,x1,x2,x3,x4,x5,x6]
 | [x0,x1,x2,x3,x4,x5,x6],_=>⟨x0,x1,x2,x3,x4,x5,x6,rfl⟩
theorem jI{k:Int}{n:Nat}{pos:Pos}: J prog w Γ (.Constant (.int k) n pos) (Zb k):=J.int _ _ _
theorem jN{n:Nat}{pos:Pos}: J prog w Γ (.Constant .none n pos) Zba:=J.none _ _
theorem jB{b:Bool}{n:Nat}{pos:Pos}: J prog w Γ (.Constant (.bool b) n pos) (ZbH b):=J.bool _ _ _
theorem jS{x:Str}{n:Nat}{pos:Pos}: J prog w Γ (.Constant (.str x) n pos) (Zo x):=J.str _ _ _
theorem cO{elt iter:Expr}{x:Str}{px:Pos}{ifs:List Expr}{scope:Scope}{pos:Pos}{cl:List (Str×Addr)}{t:Nat}{g:Src}{c:Ts}{f:Ex}(hg:JI prog w Γ iter g)(hel:∀C ρ,J prog w (ZaU Γ scope cl C [(x,t)] ρ) elt f)(hif:∀C ρ,JF prog w (ZaU Γ scope cl C [(x,t)] ρ) ifs c)
  (hclos:closureFor scope Γ.env=pure cl:=by with_unfolding_all rfl) (hcell:∀y∈scope.names,y.2≠.cell:=by decide) (hkind:scope.kind=.function:=by exact rfl) (hnames:∀y∈scope.names,y.2=.local→scope.names.lookup y.1=some .local:=by decide) (hx:scope.names.lookup x=some .local:=by exact rfl) (hs:∀x,foldedSetIterable iter Γ.env x=pure x:=by intro _;rfl):
  J prog w Γ (.ListComp elt [⟨.Name x px,iter,ifs,0⟩] scope pos) (ZaS g (ZH t) c f):=J.comp hg hel hif hclos hcell hkind hnames hx hs
theorem sO{elt iter:Expr}{x y:Str}{px py pos spos:Pos}{ifs:List Expr}{scope:Scope}{cl:List (Str×Addr)}{t i:Nat}{g:Src}{c:Ts}{f:Ex}(hy:Sto prog w Γ y i)(hg:JI prog w Γ iter g)(hel:∀C ρ,J prog w (ZaU Γ scope cl C [(x,t)] ρ) elt f)(hif:∀C ρ,JF prog w (ZaU Γ scope cl C [(x,t)] ρ) ifs c)
  (hsw:swapsWith (.ListComp elt [⟨.Name x px,iter,ifs,0⟩] scope pos) (some (.Name y py)) spos.line Γ.env=pure true:=by rfl)
  (hclos:closureFor scope Γ.env=pure cl:=by with_unfolding_all rfl) (hcell:∀y∈scope.names,y.2≠.cell:=by decide) (hkind:scope.kind=.function:=by exact rfl) (hnames:∀y∈scope.names,y.2=.local→scope.names.lookup y.1=some .local:=by decide) (hx:scope.names.lookup x=some .local:=by exact rfl) (hs:∀x,foldedSetIterable iter Γ.env x=pure x:=by intro _;rfl):
  S1 prog w Γ (.Assign [.Name y py] (.ListComp elt [⟨.Name x px,iter,ifs,0⟩] scope pos) spos) (Zy i (ZaS g (ZH t) c f)):=Zgc hy hg hel hif hsw hclos hcell hkind hnames hx hs
end
section
variable {prog:Program} {w:World} {dp un:Nat} {gd:Option (List Code)} {cn:Str} {cs:Scope} {L a:Addr} {ccd:Value} {cl:List (Str×Addr)} {outer:List Env} {h₀:Heap} {hu:un+200<cLine} {names:List Str}
theorem vL{x:Str}{i:Nat}{pos:Pos}(hi:names[i]?=some x:=by rfl)(hx:cs.names.lookup x=some .local:=by exact rfl)(hk:cs.kind=.function:=by exact rfl)(hd:(x == ("__debug__":Str))=false:=by exact rfl): J prog w (Zam dp un gd cn cs L a ccd cl outer h₀ hu names) (.Name x pos) (eVar i):=Zf (rd_loc hi hx hk hd)
theorem vC{x:Str}{i:Nat}{pos:Pos}(hi:names[i]?=some x:=by rfl)(hx:cs.names.lookup x=some .cell:=by exact rfl)(hk:cs.kind=.function:=by exact rfl)(hd:(x == ("__debug__":Str))=false:=by exact rfl): J prog w (Zam dp un gd cn cs L a ccd cl outer h₀ hu names) (.Name x pos) (eVar i):=Zf (ZlJ hi hx hk hd)
theorem sL{x:Str}{i:Nat}(nd:names.Nodup:=by decide)(hi:names[i]?=some x:=by rfl)(hx:cs.names.lookup x=some .local:=by exact rfl)(hk:cs.kind=.function:=by exact rfl): Sto prog w (Zam dp un gd cn cs L a ccd cl outer h₀ hu names) x i:=Zaz nd hi hx hk
theorem sC{x:Str}{i:Nat}(nd:names.Nodup:=by decide)(hi:names[i]?=some x:=by rfl)(hx:cs.names.lookup x=some .cell:=by exact rfl)(hk:cs.kind=.function:=by exact rfl)(hcl:(cl.lookup x).isSome=true:=by exact rfl): Sto prog w (Zam dp un gd cn cs L a ccd cl outer h₀ hu names) x i:=ZkV nd hi hx hk hcl
end
section
variable {prog:Program} {w:World} {K:Frag} {p:Program} {loose:List Str} {mean:ExcName→Option Value} {mg mb:Str→Option Value} {Γ:Cx} {dp un:Nat}
theorem nB{x:Str}{v:Value}(clr:Clr K p loose mean mg mb Γ dp un)(e:nsIn K mainGlobals x=some Option.none:=by k_is)(hv:bootBuiltins x=some v:=by boot_by_name)(hn:x≠"__name__":=by decide)(hg:Γ.env.globals=mainGlobals:=by exact rfl)(hb:Γ.env.builtins=builtinsNs:=by exact rfl)(hk:Γ.env.scope.kind=.function:=by exact rfl)(hx:Γ.env.kindOf x=some .globalImplicit:=by exact rfl)(hd:(x == ("__debug__":Str))=false:=by exact rfl): Nm prog w Γ x v:=Za2 clr e hv hn hg hb hk hx hd
theorem cF{x:Str}{np pos:Pos}{f:Addr}{room:Nat}{e:Expr}{es:List Expr}{g:ZW}{o:List V→Hp→Option (V×Hp)}(clr:Clr K p loose mean mg mb Γ dp un)(D:Def prog w K p loose mean mg mb f room o)(h:Js prog w Γ (e::es) g)
  (en:nsIn K mainGlobals x=some (some (.ref f)):=by k_is) (hg:Γ.env.globals=mainGlobals:=by exact rfl) (hk:Γ.env.scope.kind=.function:=by exact rfl) (hx:Γ.env.kindOf x=some .globalImplicit:=by exact rfl) (hd0:(x == ("__debug__":Str))=false:=by exact rfl)
  (hkeep:keepIn K (.ref f)=true:=by k_is) (hd:dp+room<recursionLimit:=by omega) (hu:un+10*room+300<cLine:=by omega)
  (he:Zfc e=false:=by exact rfl) (hp:Zfd es=true:=by exact rfl):J prog w Γ (.Call (.Name x np) (e::es) [] pos) (Ze o g):=Zag clr (nm_def clr en hg hk hx hd0) hkeep D hd hu h (ZgY he) (fun pos=>Zjb pos hp)
theorem Dof{name qual:Str}{params:Arguments}{body:List Stmt}{scope:Scope}{dV kV doc pm cdv ct oc:Value}{an od:Option Addr}{osl:Array (Option Value)}{f:Addr}{names:List Str}{n room:Nat}{g:Sm}
  (hbody:∀(dp un:Nat) (gd:Option (List Code)) (L:Addr) (outer:List Env) (h₀:Heap) (hu:un+200<cLine),Clr K p loose mean mg mb (Zam dp un gd qual scope L f cdv (cellsFrom (L+1) scope.names []) outer h₀ hu names) dp un→dp+room<recursionLimit→un+10*room+300<cLine →
   Ss prog w (Zam dp un gd qual scope L f cdv (cellsFrom (L+1) scope.names []) outer h₀ hu names) body g)
  (ho:K.lookup f=some ⟨oc,od,.func (fnOf name qual params body scope dV kV doc pm an cdv ct),osl⟩:=by k_is) (hcd:codeIn K cdv qual=true:=by k_is) (nd:names.Nodup:=by decide) (hn:n≤names.length:=by decide)
  (hbind:∀s xs,xs.length=n→BindsTo s (fnOf name qual params body scope dV kV doc pm an cdv ct) ⟨xs,[]⟩ ((names.take n).zip xs):=by
   intro s xs hx
   first
   | (obtain⟨x0,rfl⟩:=ln1 hx;exact BindsTo.of_eq rfl)
   | (obtain⟨x0,x1,rfl⟩:=ln2 hx;exact BindsTo.of_eq rfl)
   | (obtain⟨x0,x1,x2,rfl⟩:=ln3 hx;exact BindsTo.of_eq rfl)
   | (obtain⟨x0,x1,x2,x3,rfl⟩:=ln4 hx;exact BindsTo.of_eq rfl)
   | (obtain⟨x0,x1,x2,x3,x4,rfl⟩:=ln5 hx;exact BindsTo.of_eq rfl)
   | (obtain⟨x0,x1,x2,x3,x4,x5,rfl⟩:=ln6 hx;exact BindsTo.of_eq rfl)
   | (obtain⟨x0,x1,x2,x3,x4,x5,x6,rfl⟩:=ln7 hx;exact BindsTo.of_eq rfl)) (hkinds:∀x∈names.take n,scope.names.lookup x=some .local∨scope.names.lookup x=some .cell:=by decide) (hone:((cellsFrom 0 scope.names []).map (·.1)).Nodup:=by decide +kernel)
  (hco:scope.isCoroutine=false:=by exact rfl) (hgen:scope.isGenerator=false:=by exact rfl) (hk:scope.kind=.function:=by exact rfl):
  Def prog w K p loose mean mg mb f (room+1) (Z3 n g):=Def.of ho hcd nd hn hbind hkinds hone hco hgen hk hbody
end
section
variable {prog:Program} {w:World} {Γ:Cx} {scope:Scope} {cl:List (Str×Addr)} {C:Addr} {ts:List (Str×Nat)} {ρ0:Lc}
theorem vO{x:Str}{t:Nat}{pos:Pos}(hm:(x,t)∈ts:=by first | exact Zz5 | exact Zz2 _ Zz5)(hk:scope.kind=.function:=by exact rfl)(hl:(compEnvC scope cl C Γ.env).kindOf x=some .local:=by exact rfl)(hd:(x == ("__debug__":Str))=false:=by exact rfl): J prog w (ZaU Γ scope cl C ts ρ0) (.Name x pos) (eVar t):=Zf (rdc_own hm hk hl hd)
end
section
variable {prog:Program} {w:World} {dp un:Nat} {gd:Option (List Code)} {cn:Str} {cs:Scope} {L a:Addr} {ccd:Value} {clf:List (Str×Addr)} {outer:List Env} {h₀:Heap} {hu:un+200<cLine} {names:List Str} {scope:Scope} {cl:List (Str×Addr)} {C:Addr} {ts:List (Str×Nat)} {ρ0:Lc}
theorem vD{x:Str}{i:Nat}{pos:Pos}(hi:names[i]?=some x:=by rfl)(hx:cs.names.lookup x=some .cell:=by exact rfl)(hne:∀p∈ts,p.2≠i:=by decide)(hcl:cl.lookup x=clf.lookup x:=by exact rfl)(hk:scope.kind=.function:=by exact rfl)(hl:(compEnvC scope cl C (envX cn cs L a ccd clf)).kindOf x=some .cell:=by exact rfl)(hd:(x == ("__debug__":Str))=false:=by exact rfl):
  J prog w (ZaU (Zam dp un gd cn cs L a ccd clf outer h₀ hu names) scope cl C ts ρ0) (.Name x pos) (eVar i):=Zf (ZkX hi hx hne hcl hk hl hd)
end
end PM
end
section
namespace PM
open PySem PySem.W PySem.Calls PyProof.Rows PyProof PySem.Spec
theorem Zis(W:Wd)(led:List (Addr×Obj)): ∃lent:List (Addr×Obj),(∀q∈led,(q.1∈W.pi∨q.1∈W.tups.map (·.1))↔q∈lent)∧∀q∈lent,q∈led:=
 ⟨led.filter (fun q=>decide (q.1∈W.pi∨q.1∈W.tups.map (·.1))),fun q hq=>⟨fun h=>Zy9.mpr ⟨hq,by simpa using h⟩,fun h=>by simpa using (List.mem_filter.mp h).2⟩,fun q hq=>(List.mem_filter.mp hq).1⟩
theorem ZiU{Γ:Cx}{W:Wd}{ρ:Lc}{H:Hp}{fr:List (Addr×Obj)}{h:Heap}{m:Str→Option Value}{c led lent:List (Addr×Obj)}{as:List V}{xs:List Value}{n dp un:Nat}{gd:Option (List Code)}{qual:Str}{scope:Scope}{f L':Addr}{cdv:Value}{outer:List Env}{g0 h₁:Heap}{hu:un+200<cLine}{names:List Str}
  (r:Rep' Γ W ρ H fr h m c led) (hx:VRs W as xs) (hlen:as.length=n) (nd:names.Nodup) (inn:∀q∈led,(q.1∈W.pi∨q.1∈W.tups.map (·.1))↔q∈lent) (isub:∀q∈lent,q∈led)
  (stay:∀b o,h.get? b=some o→b∉lent.map (·.1)→g0.get? b=some o) (F':Fr g0 L' h₁ (bindL (envX qual scope L' f cdv []).kindOf ((names.take n).zip xs) fun _=>none)) (N':News g0 L' h₁ lent) (hnc:∀y∈scope.names,y.2≠.cell):
  Rep (Zam dp un gd qual scope L' f cdv [] outer g0 hu names) W (fun i=>as[i]?) H [] h₁:=by
 have scN:W.sc.1∉lent.map (·.1):=fun z=>by
  obtain⟨t,ht,e⟩:=Zz11.mp z
  exact r.notSc t (isub t ht) e
 have ndt:(names.take n).Nodup:=nd.sublist (List.take_sublist _ _)
 refine⟨_,[],lent,⟨F',N',⟨r.R.len,r.R.nd,fun i vs e ni=>?_,fun q hq=>?_,r.R.kind,fun i vs fs e hi=>?_,r.R.inlt,r.R.iuni⟩,stay _ _ (r.F.keep _ _ r.sc) scN,r.sc0,fun q hq=>(nomatch hq),fun q hq=>(nomatch hq),fun q hq=>(nomatch hq),fun q hq=>(nomatch hq),fun q hq=>(nomatch hq),fun q hq=>(nomatch hq),fun q hq=>(nomatch hq),⟨fun i x u hi hk1 hu1=>?_,fun i x u hi hk1 hu1=>?_,fun x c1 hc=>(nomatch hc),fun x y c1 h1 h2=>(nomatch h1)⟩⟩⟩
 ·obtain⟨l,b,ys,k,h1,h2,h3⟩:=r.R.lists i vs e ni
  exact⟨l,b,ys,k,h1,Zbs h2 fun z=>(inn _ z).mp (.inl (Zy4 h1)),h3⟩
 ·exact Zbs (r.R.tups q hq) fun z=>(inn _ z).mp (.inr (List.mem_map_of_mem hq))
 ·obtain⟨l,b,od,ys,h1,h2,h3⟩:=r.R.objs i vs fs e hi
  exact⟨l,b,od,ys,h1,Zbs h2 fun z=>(inn _ z).mp (.inl (Zy4 h1)),h3⟩
 ·have hi':i<n:=by rw[←hlen];exact(Zz6.mp hu1).1
  obtain⟨y,h2,h3⟩:=hx.at hu1
  exact⟨y,ZhH ndt (by rw[List.getElem?_take_of_lt hi'];exact hi) h2 hk1,h3⟩
 ·exact absurd rfl (hnc _ (ZbR hk1))
noncomputable def Passed(Γ:Cx)(base:Heap)(outer:List Env)(W:Wd)(H':Hp)(C e:Addr)(hh:Heap): Prop:=
 ∃W',W.Le W'∧∃G m t vs news,Fr Γ.h₀ Γ.L G m∧RaisedS base G (Γ.env::outer) e (.ref C) t vs news hh∧G.UpToSlots hh∧HR W' H' (W'.sc::news)
noncomputable def Thrown(Γ:Cx)(base:Heap)(outer:List Env)(W:Wd)(H':Hp)(C e:Addr)(hh:Heap): Prop:=
 (∃W',W.Le W'∧∃ρ' fr' h' vs,Rep Γ W' ρ' H' fr' h'∧Heap.MadeExcOf h' hh e (.ref C) vs)∨Passed Γ base outer W H' C e hh
theorem Passed.le{Γ:Cx}{base:Heap}{outer:List Env}{W W1:Wd}{H':Hp}{C e:Addr}{hh:Heap}(l:W.Le W1)(t:Passed Γ base outer W1 H' C e hh): Passed Γ base outer W H' C e hh:=by
 obtain⟨W',l',t⟩:=t
 exact⟨W',l.trans l',t⟩
theorem Thrown.le{Γ:Cx}{base:Heap}{outer:List Env}{W W1:Wd}{H':Hp}{C e:Addr}{hh:Heap}(l:W.Le W1)(t:Thrown Γ base outer W1 H' C e hh): Thrown Γ base outer W H' C e hh:=by
 rcases t with⟨W',l',t⟩ | t
 ·exact .inl ⟨W',l.trans l',t⟩
 ·exact .inr (t.le l)
noncomputable abbrev SmR:=Lc→Hp→Option (Addr×Hp)
section
variable (prog:Program) (w:World) (base:Heap) (outer:List Env)
noncomputable def Th1(Γ:Cx)(st:Stmt)(g:SmR): Prop:=∀(W:Wd) (ρ:Lc) (H:Hp) (fr:List (Addr×Obj)) (s:Shared) (Q:Flow→Shared→Prop) (E:Value→Shared→Prop) (C:Addr) (H':Hp),
 Rep Γ W ρ H fr s.heap→g ρ H=some (C,H')→PassesOwn (model prog w) Γ.A Γ.env E→(∀e hh tk',Thrown Γ base outer W H' C e hh→E (.ref e) { s with heap:=hh,toks:=tk' })→wpAny (model prog w) Γ.A (exec st Γ.env) Q E s
noncomputable def ThS(Γ:Cx)(ss:List Stmt)(g:SmR): Prop:=∀(W:Wd) (ρ:Lc) (H:Hp) (fr:List (Addr×Obj)) (s:Shared) (Q:Flow→Shared→Prop) (E:Value→Shared→Prop) (C:Addr) (H':Hp),
 Rep Γ W ρ H fr s.heap→g ρ H=some (C,H')→PassesOwn (model prog w) Γ.A Γ.env E→(∀e hh tk',Thrown Γ base outer W H' C e hh→E (.ref e) { s with heap:=hh,toks:=tk' })→wpAny (model prog w) Γ.A (execs ss Γ.env) Q E s
variable (K:Frag) (p:Program) (loose:List Str) (mean:ExcName→Option Value) (mg mb:Str→Option Value)
noncomputable def ClrB(Γ:Cx)(dp un:Nat): Prop:=∃(gd:Option (List Code)) (cn:Str) (cs:Scope) (a:Addr) (ccd:Value) (cl:List (Str×Addr)) (A₀:Around),
 Γ.A=ktrTop dp un gd cn cs Γ.L a ccd cl outer∧Γ.env=envX cn cs Γ.L a ccd cl∧Below A₀ base outer Γ.h₀∧K.In Γ.h₀∧Top p loose mean mg mb Γ.h₀∧cs.kind=.function
end
noncomputable def DefR(prog:Program)(w:World)(K:Frag)(p:Program)(loose:List Str)(mean:ExcName→Option Value)(mg mb:Str→Option Value)(f:Addr)(room:Nat)(F:List V→Hp→Option (Addr×Hp)): Prop:=
 ∀(base:Heap) (outer:List Env) (Γ:Cx) (dp un:Nat),ClrB base outer K p loose mean mg mb Γ dp un→dp+room<recursionLimit→un+10*room+300<cLine →
 ∀(W:Wd) (ρ:Lc) (H:Hp) (fr:List (Addr×Obj)) (s:Shared) (R:Result→Shared→Prop) (as:List V) (xs:List Value) (C:Addr) (H':Hp),
  Rep Γ W ρ H fr s.heap→VRs W as xs→F as H=some (C,H')→(∀e hh tk',Passed Γ base outer W H' C e hh→R (.error (.ref e)) { s with heap:=hh,toks:=tk' })→codeAny (model prog w) Γ.A (.call (.ref f) ⟨xs,[]⟩) R s
noncomputable def ZaQ(n:Nat)(g:SmR): List V→Hp→Option (Addr×Hp):=fun as H=>if as.length=n then g (fun i=>as[i]?) H else none
section
variable {prog:Program} {w:World} {K:Frag} {p:Program} {loose:List Str} {mean:ExcName→Option Value} {mg mb:Str→Option Value} {base:Heap} {outer:List Env} {Γ:Cx} {dp un:Nat}
theorem ClrB.clr(h:ClrB base outer K p loose mean mg mb Γ dp un): Clr K p loose mean mg mb Γ dp un:=by
 obtain⟨gd,cn,cs,a,ccd,cl,A₀,h1,h2,h3⟩:=h
 exact⟨gd,cn,cs,a,ccd,cl,outer,A₀,base,h1,h3⟩
theorem Rep'.ground{W:Wd}{ρ:Lc}{H:Hp}{fr:List (Addr×Obj)}{h g0:Heap}{m:Str→Option Value}{c led lent:List (Addr×Obj)}(r:Rep' Γ W ρ H fr h m c led)(isub:∀q∈lent,q∈led)(stay:∀b o,h.get? b=some o→b∉lent.map (·.1)→g0.get? b=some o): Fr Γ.h₀ Γ.L g0 m:=by
 have off:∀b,(∃q∈lent,q.1=b)→b≠Γ.L∧Γ.h₀.get? b=none:=fun b ⟨q,hq,e⟩=>e▸(r.N q (isub q hq)).2
 obtain⟨o,es,ep,h1,h2⟩:=r.F.ns
 refine⟨⟨o,es,ep,stay _ _ h1 fun z=>(off _ (by simpa using z)).1 rfl,h2⟩,fun b o e=>stay b o (r.F.keep b o e) fun z=>?_,r.F.above⟩
 have:=(off b (by simpa using z)).2
 rw[e]at this
 cases this
theorem DefR.of{name qual:Str}{params:Arguments}{body:List Stmt}{scope:Scope}{dV kV doc pm cdv ct oc:Value}{an od:Option Addr}{osl:Array (Option Value)}{f:Addr}{names:List Str}{n room:Nat}{g:SmR}
  (ho:K.lookup f=some ⟨oc,od,.func (fnOf name qual params body scope dV kV doc pm an cdv ct),osl⟩) (hcd:codeIn K cdv qual=true) (nd:names.Nodup)
  (hbind:∀s xs,xs.length=n→BindsTo s (fnOf name qual params body scope dV kV doc pm an cdv ct) ⟨xs,[]⟩ ((names.take n).zip xs)) (hkinds:∀x∈names.take n,scope.names.lookup x=some .local) (hnc:∀y∈scope.names,y.2≠.cell) (hc:∀n,cellsFrom n scope.names []=[])
  (hco:scope.isCoroutine=false) (hgen:scope.isGenerator=false) (hk:scope.kind=.function)
  (hbody:∀(base:Heap) (dp un:Nat) (gd:Option (List Code)) (L:Addr) (outer:List Env) (h₀:Heap) (hu:un+200<cLine),ClrB base outer K p loose mean mg mb (Zam dp un gd qual scope L f cdv [] outer h₀ hu names) dp un→dp+room<recursionLimit→un+10*room+300<cLine →
   ThS prog w base outer (Zam dp un gd qual scope L f cdv [] outer h₀ hu names) body g):
  DefR prog w K p loose mean mg mb f (room+1) (ZaQ n g):=by
 intro base outer Γ dp un clr hd hu W ρ H fr s R as xs C H' r hx hF post
 obtain⟨gd,cn,cs,a,ccd,cl,A₀,eA,eE,B,X,T,hke⟩:=clr
 unfold ZaQ at hF
 split at hF
 case isFalse=>cases hF
 rename_i hlen
 obtain⟨m,c,led,r⟩:=r
 have hxl:xs.length=n:=by rw[hx.length,hlen]
 obtain⟨lent,inn,isub⟩:=Zis W led
 rw[eA]
 refine ZiB (env:=envX cn cs Γ.L a ccd cl) (lent:=lent) B r.F X (fun q hq=>r.N q (isub q hq)) T rfl rfl hke ho hcd (by show dp<recursionLimit;omega) (hbind s xs hxl) ?_ (by rw[hc];exact List.nodup_nil) ?_ hco hgen hk
 ·refine List.all_eq_true.mpr fun y hy=>?_
  simp[hkinds y.1 (List.of_mem_zip hy).1]
 intro g0 L' h₁ tk cells stay F' N' Y ap ab B' X' T' old szL
 have hu':(un+3)+200<cLine:=by omega
 have ee:envOfC qual scope L' f cdv=envX qual scope L' f cdv []:=by rw[show envOfC qual scope L' f cdv=envX qual scope L' f cdv (cellsFrom (L'+1) scope.names [])from rfl,hc]
 rw[ee]at F' ⊢
 have rep:=ZiU (dp:=dp+1) (un:=un+3) (gd:=gd) (outer:=envX cn cs Γ.L a ccd cl::outer) (hu:=hu') r hx hlen nd inn isub stay F' (fun q hq=>N' q (Zz3 _ hq)) hnc
 have clr':ClrB base (envX cn cs Γ.L a ccd cl::outer) K p loose mean mg mb (Zam (dp+1) (un+3) gd qual scope L' f cdv [] (envX cn cs Γ.L a ccd cl::outer) g0 hu' names) (dp+1) (un+3):=⟨gd,qual,scope,f,cdv,[],_,rfl,rfl,B',X',T',hk⟩
 refine hbody base (dp+1) (un+3) gd L' (envX cn cs Γ.L a ccd cl::outer) g0 hu' clr' (by omega) (by omega) W _ H [] _ _ _ C H' rep hF PassesOwn.leaving fun e hh tk' th=>?_
 have FG:=r.ground isub stay
 rcases th with⟨W',l',ρ',fr',h',vs,r2,mx⟩ | ⟨W',l',G,m2,t,vs,news,F2,R2,U2,hr⟩
 ·obtain⟨m2,c2,led2,r2⟩:=r2
  refine leave_raiseS (name:=qual) (scope:=scope) (L:=L') (a:=f) (cd:=cdv) B' mx r2.F r2.N (fun h3 t3 S3 _ U3=>post _ _ _ ⟨W',l',g0,m,t3,vs,led2,FG,?_,U3,r2.R⟩) hk
  rw[eE]
  exact S3
 ·refine leave_onS (name:=qual) (scope:=scope) (L:=L') (a:=f) (cd:=cdv) B' F2 R2 U2 fun h3 S3 _ U3=>post _ _ _ ⟨W',l',g0,m,t,vs,news,FG,?_,U3,hr⟩
  rw[eE]
  exact S3
end
end PM
end
section
namespace PM
open PySem PySem.W PySem.Calls PyProof.Rows PyProof PySem.Spec
noncomputable def Zbq(C:Addr)(as:ZW): SmR:=fun ρ H=>(as ρ H).bind fun q=>if q.1.length≤ZX then some (C,q.2)else none
noncomputable def rIf(u:Ts)(a b:SmR): SmR:=fun ρ H=>(u ρ H).bind fun q=>if q.1 then a ρ q.2 else b ρ q.2
noncomputable def rNo: SmR:=fun _ _=>none
noncomputable def rCall(o:List V→Hp→Option (Addr×Hp))(as:ZW): SmR:=fun ρ H=>(as ρ H).bind fun q=>o q.1 q.2
noncomputable def Zae(ar:SmR)(a:Sm)(b:SmR): SmR:=fun ρ H=>match ar ρ H with
 | some x=>some x
 | none=>(a ρ H).bind fun r=>match r with
  | (none,ρ',H')=>b ρ' H'
  | _=>none
section
variable {prog:Program} {w:World} {K:Frag} {p:Program} {loose:List Str} {mean:ExcName→Option Value} {mg mb:Str→Option Value} {base:Heap} {outer:List Env} {Γ:Cx} {dp un:Nat}
theorem ThS.no{ss:List Stmt}: ThS prog w base outer Γ ss rNo:=fun W ρ H fr s Q E C H' r e hE post=>by cases e
theorem Th1.no{st:Stmt}: Th1 prog w base outer Γ st rNo:=fun W ρ H fr s Q E C H' r e hE post=>by cases e
theorem ThS.cons{st:Stmt}{ss:List Stmt}{ar b:SmR}{a:Sm}(h0:Th1 prog w base outer Γ st ar)(h1:S1 prog w Γ st a)(h2:ThS prog w base outer Γ ss b): ThS prog w base outer Γ (st::ss) (Zae ar a b):=by
 intro W ρ H fr s Q E C H' r e hE post
 unfold Zae at e
 cases ea:ar ρ H with
 | some x=>
  rw[ea]at e
  cases e
  exact wpAny_execs_cons (h0 W ρ H fr s _ E C H' r ea hE post)
 | none=>
  rw[ea]at e
  obtain⟨q,e1,e2⟩:=Zz0.mp e
  obtain⟨o,ρ1,H1⟩:=q
  cases o with
  | some v=>cases e2
  | none=>exact wpAny_execs_cons (h1 W ρ H fr s _ E _ r e1 fun W1 k1 t1 l1 r1=>h2 W1 ρ1 H1 fr _ Q E C H' r1 e2 hE fun e hh tk' th=>post e hh tk' (th.le l1))
theorem ThS.head{st:Stmt}{ss:List Stmt}{ar:SmR}(h0:Th1 prog w base outer Γ st ar): ThS prog w base outer Γ (st::ss) ar:=fun W ρ H fr s Q E C H' r e hE post=>wpAny_execs_cons (h0 W ρ H fr s _ E C H' r e hE post)
theorem Zbo{t:Expr}{a b:List Stmt}{pos:Pos}{u:Ts}{f g:SmR}(ht:JT prog w Γ t u)(h1:ThS prog w base outer Γ a f)(h2:ThS prog w base outer Γ b g): Th1 prog w base outer Γ (.If t a b pos) (rIf u f g):=by
 intro W ρ H fr s Q E C H' r e hE post
 obtain⟨q,e1,e2⟩:=Zz0.mp e
 refine wpAny_If (ht W ρ H fr s _ E _ _ r e1 fun W1 k1 t1 l1 r1=>?_)
 obtain⟨c,H1⟩:=q
 cases c with
 | true=>exact h1 W1 ρ H1 fr _ Q E C H' r1 e2 hE fun e hh tk' th=>post e hh tk' (th.le l1)
 | false=>exact h2 W1 ρ H1 fr _ Q E C H' r1 e2 hE fun e hh tk' th=>post e hh tk' (th.le l1)
theorem Zhy{x:Str}{np pos spos:Pos}{f:Addr}{room:Nat}{e:Expr}{es:List Expr}{g:ZW}{o:List V→Hp→Option (Addr×Hp)}(clr:ClrB base outer K p loose mean mg mb Γ dp un)(hn:Nm prog w Γ x (.ref f))(hkeep:keepIn K (.ref f)=true)(D:DefR prog w K p loose mean mg mb f room o)(hd:dp+room<recursionLimit)(hu:un+10*room+300<cLine)
  (h:Js prog w Γ (e::es) g) (he:starEach (e::es) Γ.env=(false,eval e Γ.env)::starEach es Γ.env:=by rfl) (hp:∀pos,(backTo pos (starEach es Γ.env)).any (·.1)=false:=by intro _;rfl) (hi:interactive Γ.env=false:=by rfl) (hs:swapsWith (.Call (.Name x np) (e::es) [] pos) none spos.line Γ.env=pure false:=by rfl):
  ∀(W:Wd) (ρ:Lc) (H:Hp) (fr:List (Addr×Obj)) (s:Shared) (Q:Flow→Shared→Prop) (E:Value→Shared→Prop) (C:Addr) (H':Hp),Rep Γ W ρ H fr s.heap→rCall o g ρ H=some (C,H')→(∀e hh tk',Passed Γ base outer W H' C e hh→E (.ref e) { s with heap:=hh,toks:=tk' })→wpAny (model prog w) Γ.A (exec (.Expr (.Call (.Name x np) (e::es) [] pos) spos) Γ.env) Q E s:=by
 intro W ρ H fr s Q E C H' r hf post
 obtain⟨q,e1,hf⟩:=Zz0.mp hf
 have X:K.In Γ.h₀:=by
  obtain⟨_,_,_,_,_,_,_,_,_,_,X,_⟩:=clr
  exact X
 refine wpAny_Expr_any ?_ hi hs
 refine wpAny_Call_ofName (hn.use r ?_)
 refine callWith_K (first:=[]) X hkeep (h pos W ρ H fr s _ E _ _ r e1 fun W1 k1 t1 xs l1 r1 x1=>⟨?_,?_⟩) he (hp pos)
 ·obtain⟨m,c,led,r1⟩:=r1
  exact X.keeps r1.F.keep
 ·exact wpAny_call (D base outer Γ dp un clr hd hu W1 ρ _ fr _ _ _ xs C H' r1 x1 hf fun e hh tk' th=>post e hh tk' (th.le l1))
theorem Th1.call{x:Str}{np pos spos:Pos}{f:Addr}{room:Nat}{e:Expr}{es:List Expr}{g:ZW}{o:List V→Hp→Option (Addr×Hp)}(clr:ClrB base outer K p loose mean mg mb Γ dp un)(hn:Nm prog w Γ x (.ref f))(hkeep:keepIn K (.ref f)=true)(D:DefR prog w K p loose mean mg mb f room o)(hd:dp+room<recursionLimit)(hu:un+10*room+300<cLine)
  (h:Js prog w Γ (e::es) g) (he:starEach (e::es) Γ.env=(false,eval e Γ.env)::starEach es Γ.env:=by rfl) (hp:∀pos,(backTo pos (starEach es Γ.env)).any (·.1)=false:=by intro _;rfl) (hi:interactive Γ.env=false:=by rfl) (hs:swapsWith (.Call (.Name x np) (e::es) [] pos) none spos.line Γ.env=pure false:=by rfl):
  Th1 prog w base outer Γ (.Expr (.Call (.Name x np) (e::es) [] pos) spos) (rCall o g):=fun W ρ H fr s Q E C H' r hf _ post=>Zhy clr hn hkeep D hd hu h he hp hi hs W ρ H fr s Q E C H' r hf fun e hh tk' th=>post e hh tk' (.inr th)
end
section
variable {prog:Program} {w:World} {K:Frag} {p:Program} {loose:List Str} {mean:ExcName→Option Value} {mg mb:Str→Option Value} {base:Heap} {outer:List Env} {dp un:Nat} {gd:Option (List Code)} {cn:Str} {cs:Scope} {L a:Addr} {ccd:Value} {h₀:Heap} {hu:un+200<cLine} {names:List Str}
theorem Th1.raise{x:Str}{C:Addr}{bm:List Value}{newId B initId:String}{np cpos pos:Pos}{e₀:Expr}{g:ZW}(clr:ClrB base outer K p loose mean mg mb (Zam dp un gd cn cs L a ccd [] outer h₀ hu names) dp un)(ex:nsIn K mainGlobals x=some (some (.ref C)))(q:excIn K C bm newId=true)(FB:ExcBaseFacts B newId initId bm)
  (h:Js prog w (Zam dp un gd cn cs L a ccd [] outer h₀ hu names) [e₀] g)
  (he:starEach [e₀] (envOf cn cs L a ccd)=(false,eval e₀ (envOf cn cs L a ccd))::starEach [] (envOf cn cs L a ccd):=by rfl) (hk:cs.kind=.function:=by rfl) (hx:(envOf cn cs L a ccd).kindOf x=some .globalImplicit:=by rfl) (hd:(x == ("__debug__":Str))=false:=by decide):
  Th1 prog w base outer (Zam dp un gd cn cs L a ccd [] outer h₀ hu names) (.Raise (some (.Call (.Name x np) [e₀] [] cpos)) none pos) (Zbq C g):=by
 intro W ρ H fr s Q E C' H' r hf hE post
 obtain⟨_,_,_,_,_,_,A₀,_,_,_,X,T,_⟩:=clr
 obtain⟨z,e1,hf⟩:=Zz0.mp hf
 split at hf
 case isFalse=>cases hf
 rename_i hl
 cases hf
 have r0:=r
 obtain⟨m,c,led,r⟩:=r
 refine Raise_own (name:=cn) (scope:=cs) (L:=L) (a:=a) (cd:=ccd) r.F (topRead_of T).g (own_of_in X (topRead_of T) ex q) FB rfl ?_ he rfl hk hx hd
 refine h cpos W ρ H fr s _ E _ _ r0 e1 fun W1 k1 t1 xs l1 r1 x1=>⟨ZbS (by rw[x1.length];exact hl),?_,fun h' e mx=>post e h' t1 (.inl ⟨W1,l1,ρ,fr,k1,xs,r1,mx⟩)⟩
 obtain⟨m,c,led,r1⟩:=r1
 exact r1.F.keep
end
end PM
end
section
namespace PM
open PySem PySem.W PySem.Calls PyProof.Rows PyProof PySem.Spec
theorem Zmv{prog:Program}{w:World}{A A₀:Around}{s:Shared}{base h₀:Heap}{L:Addr}{m:Str→Option Value}{lent:List (Addr×Obj)}{K:Frag}{p:Program}{loose:List Str}{mean:ExcName→Option Value}{mg mb:Str→Option Value}
  {env:Env} {R:Result→Shared→Prop} {name qual:Str} {params:Arguments} {body:List Stmt} {scope:Scope} {dV kV doc pm cdv ct oc:Value} {an od:Option Addr} {osl:Array (Option Value)} {f:Addr} {args:Args} {binds:List (Str×Value)}
  (B:Below A₀ base [] h₀) (F:Fr h₀ L s.heap m) (X₀:K.In h₀) (N:News h₀ L s.heap lent) (T:Top p loose mean mg mb h₀) (hA:A.frames=some [env]) (hf:env.frame=some L) (hke:env.scope.kind=.function)
  (ho:K.lookup f=some ⟨oc,od,.func (fnOf name qual params body scope dV kV doc pm an cdv ct),osl⟩) (hcd:codeIn K cdv qual=true) (hroom:A.depth<recursionLimit)
  (hbind:BindsTo s (fnOf name qual params body scope dV kV doc pm an cdv ct) args binds) (hall:∀y∈binds,scope.names.lookup y.1=some .local) (hc:∀n,cellsFrom n scope.names []=[])
  (h:∀g L' h₁ tk,(∀b o,s.heap.get? b=some o→b∉lent.map (·.1)→g.get? b=some o)→Fr g L' h₁ (bindL (envX qual scope L' f cdv []).kindOf binds fun _=>none)→News g L' h₁ lent→Below A base [env] g→K.In g→Top p loose mean mg mb g→KtsDicts [L] g →
   wpAny (model prog w) (A.deeper (envX qual scope L' f cdv [])) (execs body (envX qual scope L' f cdv [])) (fun fl s'=>LeaveS0 [L] h₀ L m g R (match fl with | .ret v=>v | _=>.none) s')
    (fun e s'=>wpAny (model prog w) (A.deeper (envX qual scope L' f cdv [])) (leaving (envX qual scope L' f cdv []) e) (fun _ s''=>R (.error e) s'') (fun e' s''=>R (.error e') s'') s') { s with heap:=h₁,toks:=tk })
  (hco:scope.isCoroutine=false) (hgen:scope.isGenerator=false) (hk:scope.kind=.function):codeAny (model prog w) A (.call (.ref f) args) R s:=by
 obtain⟨FG,BG,st,_⟩:=groundX (R:=R) B F N hA hf hke
 have X:=X₀.keeps F.keep
 refine codeAny_call_function (fd:=fnOf name qual params body scope dV kV doc pm an cdv ct) hroom (X _ _ ho) rfl hco hgen rfl (codeRec_of X hcd) (hbind _ _ _ _ ?_)
 refine wpAny_newFunctionEnv_cells hk (kindsX (List.all_eq_true.mpr fun y hy=>by simp[hall y hy]) _) fun fresh hfr s' inC=>?_
 subst hfr
 have up:=inC.toInCall.keep
 refine⟨(T.nolimit.keeps F.keep).keeps up,codeAny_func ?_⟩
 obtain⟨h₁,tk,hs',_⟩:=inC.done
 subst hs'
 have ee:envOfC qual scope s.heap.objs.size f cdv=envX qual scope s.heap.objs.size f cdv []:=by rw[show envOfC qual scope s.heap.objs.size f cdv=envX qual scope s.heap.objs.size f cdv (cellsFrom (s.heap.objs.size+1) scope.names [])from rfl,hc]
 obtain⟨oL,es,ep,hL,hLd,hLk⟩:=FG.ns
 have old:∀q∈lent,q.1<s.heap.objs.size:=fun q hq=>Heap.lt_size (N q hq).1
 have key:=h _ s.heap.objs.size h₁ tk (fun b o e nb=>hideAll_get _ e nb) ⟨ee▸inC.toInCall.ns,fun b o e=>up b o (of_hideAll _ e),Nat.le_of_eq (hideAll_size _ _)⟩ (fun q hq=>⟨up _ _ (N q hq).1,Nat.ne_of_lt (old q hq),hideAll_none _ (List.mem_map_of_mem hq)⟩) BG (X₀.keeps st) (T.keeps st) (fun b hb=>by rw[List.mem_singleton.mp hb];exact⟨oL,es,ep,hL,hLd⟩)
 rw[←ee]at key
 refine wpAny_mono key (fun fl s' hl=>?_) fun _ _ y=>y
 obtain⟨g',L',m',news',T',F',N',k⟩:=hl
 have none₀:h₀.get? L=none:=kts_self F
 obtain⟨sl,hs⟩:=T'.up hL
 refine k ⟨⟨_,es,ep,F'.keep _ _ hs,hLd,hLk⟩,fun b o e=>F'.keep b o (T'.other b o (st b o e) fun z=>?_),F.above⟩ fun q hq=>⟨(N' q hq).1,fun z=>?_,?_⟩
 ·rw[List.mem_singleton.mp z,none₀]at e
  cases e
 ·have:=(N' q hq).2.2
  rw[z,hs]at this
  cases this
 ·cases e:h₀.get? q.1 with
  | none=>rfl
  | some o=>
   obtain⟨sl',hs'⟩:=T'.up (st _ _ e)
   have:=(N' q hq).2.2
   rw[hs']at this
   cases this
noncomputable def DefT(prog:Program)(w:World)(K:Frag)(p:Program)(loose:List Str)(mean:ExcName→Option Value)(mg mb:Str→Option Value)(f:Addr)(room:Nat)(F:List V→Hp→Option (V×Hp)): Prop:=
 ∀(base:Heap) (Γ:Cx) (dp un:Nat),ClrB base [] K p loose mean mg mb Γ dp un→K.In base→Top p loose mean mg mb base→dp+room<recursionLimit→un+10*room+300<cLine →
 ∀(W:Wd) (ρ:Lc) (H:Hp) (fr:List (Addr×Obj)) (s:Shared) (Q E:Value→Shared→Prop) (as:List V) (xs:List Value) (v:V) (H':Hp),
  Rep Γ W ρ H fr s.heap→VRs W as xs→F as H=some (v,H')→Zdz Γ W ρ H' fr s Q v→codeAny (model prog w) Γ.A (.call (.ref f) ⟨xs,[]⟩) (fun r s'=>match r with | .ok (.ret v)=>Q v s' | .ok _=>False | .error e=>E e s') s
noncomputable def TS(prog:Program)(w:World)(fs:List Addr)(Γ:Cx)(ss:List Stmt)(g:Lc→Hp→Option (V×Hp)): Prop:=
 ∀(W:Wd) (ρ:Lc) (H:Hp) (s:Shared) (Q:Flow→Shared→Prop) (E:Value→Shared→Prop) (v:V) (H':Hp),Rep Γ W ρ H [] s.heap→g ρ H=some (v,H') →
  (∀(W':Wd) (x:Value) (g' h':Heap) (tk':Nat) (m':Str→Option Value) (news':List (Addr×Obj)),W.Le W'→KtsTurn fs Γ.h₀ g'→Fr g' Γ.L h' m'→News g' Γ.L h' news'→HR W' H' (W'.sc::news')→VR W' v x→Q (.ret x) { s with heap:=h',toks:=tk' }) →
  wpAny (model prog w) Γ.A (execs ss Γ.env) Q E s
noncomputable def Zc5(n:Nat)(g:Lc→Hp→Option (V×Hp)): List V→Hp→Option (V×Hp):=fun as H=>if as.length=n then g (fun i=>as[i]?) H else none
section
variable {prog:Program} {w:World} {K:Frag} {p:Program} {loose:List Str} {mean:ExcName→Option Value} {mg mb:Str→Option Value} {base:Heap} {Γ:Cx} {dp un:Nat}
theorem DefT.of{name qual:Str}{params:Arguments}{body:List Stmt}{scope:Scope}{dV kV doc pm cdv ct oc:Value}{an od:Option Addr}{osl:Array (Option Value)}{f:Addr}{names:List Str}{n room:Nat}{g:Lc→Hp→Option (V×Hp)}
  (ho:K.lookup f=some ⟨oc,od,.func (fnOf name qual params body scope dV kV doc pm an cdv ct),osl⟩) (hcd:codeIn K cdv qual=true) (nd:names.Nodup)
  (hbind:∀s xs,xs.length=n→BindsTo s (fnOf name qual params body scope dV kV doc pm an cdv ct) ⟨xs,[]⟩ ((names.take n).zip xs)) (hkinds:∀x∈names.take n,scope.names.lookup x=some .local) (hnc:∀y∈scope.names,y.2≠.cell) (hc:∀n,cellsFrom n scope.names []=[])
  (hco:scope.isCoroutine=false) (hgen:scope.isGenerator=false) (hk:scope.kind=.function)
  (hbody:∀(base:Heap) (dp un:Nat) (gd:Option (List Code)) (L:Addr) (env:Env) (L₀:Addr) (h₀:Heap) (hu:un+3+200<cLine),env.frame=some L₀→K.In base→Top p loose mean mg mb base→KtsDicts [L₀] h₀→ClrB base [env] K p loose mean mg mb (Zam (dp+1) (un+3) gd qual scope L f cdv [] [env] h₀ hu names) (dp+1) (un+3)→dp+1+room<recursionLimit→un+3+10*room+300<cLine →
   TS prog w [L₀] (Zam (dp+1) (un+3) gd qual scope L f cdv [] [env] h₀ hu names) body g):
  DefT prog w K p loose mean mg mb f (room+1) (Zc5 n g):=by
 intro base Γ dp un clr XB TB hd hu W ρ H fr s Q E as xs v H' r hx hF post
 obtain⟨gd,cn,cs,a,ccd,cl,A₀,eA,eE,B,X,T,hke⟩:=clr
 unfold Zc5 at hF
 split at hF
 case isFalse=>cases hF
 rename_i hlen
 obtain⟨m,c,led,r⟩:=r
 have hxl:xs.length=n:=by rw[hx.length,hlen]
 obtain⟨lent,inn,isub⟩:=Zis W led
 have notin:∀q∈led,q.1∉W.pi→(∀t∈W.tups,q.1≠t.1)→q.1∉lent.map (·.1):=fun q hq h1 h2 h3=>by
  obtain⟨t,ht,e⟩:=Zz11.mp h3
  rcases(inn t (isub t ht)).mpr ht with z | z
  ·exact h1 (e▸z)
  ·obtain⟨u,hu,e'⟩:=Zz11.mp z
   exact h2 u hu (e▸e'.symm)
 rw[eA]
 refine Zmv (env:=envX cn cs Γ.L a ccd cl) (lent:=lent) B r.F X (fun q hq=>r.N q (isub q hq)) T rfl rfl hke ho hcd (by show dp<recursionLimit;omega) (hbind s xs hxl) (fun y hy=>hkinds y.1 (List.of_mem_zip hy).1) hc ?_ hco hgen hk
 intro g0 L' h₁ tk stay F' N' B' X' T' D'
 have hu':(un+3)+200<cLine:=by omega
 have rep:=ZiU (dp:=dp+1) (un:=un+3) (gd:=gd) (outer:=[envX cn cs Γ.L a ccd cl]) (hu:=hu') r hx hlen nd inn isub stay F' N' hnc
 have clr':ClrB base [envX cn cs Γ.L a ccd cl] K p loose mean mg mb (Zam (dp+1) (un+3) gd qual scope L' f cdv [] [envX cn cs Γ.L a ccd cl] g0 hu' names) (dp+1) (un+3):=⟨gd,qual,scope,f,cdv,[],_,rfl,rfl,B',X',T',hk⟩
 refine hbody base dp un gd L' (envX cn cs Γ.L a ccd cl) Γ.L g0 hu' rfl XB TB D' clr' (by omega) (by omega) W _ H _ _ _ v H' rep hF fun W' x g' h' tk' m' news' l' T1 F1 N1 hr hv=>?_
 refine leaveS0_ F1 N1 T1 fun FG NG=>post W' h' tk' x l' ?_ hv
 have g0at:∀q∈led,q.1∉lent.map (·.1)→g'.get? q.1=some q.2:=fun q hq hn=>T1.other _ _ (stay _ _ (r.N q hq).1 hn) fun z=>(r.N q hq).2.1 (Zz9.mp z)
 have frN:∀q∈fr,q.1∉lent.map (·.1):=fun q hq=>notin q (r.frIn q hq) (r.frOff q hq) (r.frTup q hq)
 have clN:∀q∈c,q.1∉lent.map (·.1):=fun q hq=>notin q (r.clIn q hq) (r.clOff q hq) (r.clTup q hq)
 have far:∀q∈led,q.1∉lent.map (·.1)→∀t∈W'.sc::news',q.1≠t.1:=fun q hq hn t ht e=>by
  rcases Zz7.mp ht with e2 | ht
  ·rw[e2,l'.sc]at e
   exact r.notSc q hq e
  ·have:=g0at q hq hn
   rw[e,(N1 t ht).2.2]at this
   cases this
 have sc0:W'.pi[0]?=some W'.sc.1:=by rw[l'.sc];exact l'.piAt r.sc0
 have piIn:∀a∈W'.pi,∃o,(a,o)∈W'.sc::news':=fun a ha=>by
  obtain⟨i,hi,e⟩:=List.getElem_of_mem ha
  have hi':i<H'.length:=hr.len▸hi
  obtain⟨b,o,h1,h2,_⟩:=hr.any (Zy1 hi')
  have:b=a:=by rw[Zy1 hi,e]at h1;exact(Option.some.inj h1).symm
  exact⟨_,this▸h2⟩
 have farPi:∀q∈led,q.1∉lent.map (·.1)→q.1∉W'.pi:=fun q hq hn z=>by
  obtain⟨o2,h2⟩:=piIn _ z
  exact far q hq hn _ h2 rfl
 have keep:∀q∈led,q.1∉lent.map (·.1)→q∈news'++led.filter (fun q=>decide (q.1∉lent.map (·.1))):=fun q hq hn=>List.mem_append_right _ (Zy9.mpr ⟨hq,by simpa using hn⟩)
 refine⟨m,c,news'++led.filter (fun q=>decide (q.1∉lent.map (·.1))),⟨FG,fun q hq=>?_,hr.mono fun q hq=>ZbW hq fun x hx=>Zy7 _ hx,l'.sc▸r.sc,sc0,fun q hq=>keep q (r.frIn q hq) (frN q hq),fun q hq=>farPi q (r.frIn q hq) (frN q hq),fun q hq=>keep q (r.clIn q hq) (clN q hq),fun q hq=>farPi q (r.clIn q hq) (clN q hq),r.apart,fun q hq t ht=>far q (r.frIn q hq) (frN q hq) t (hr.tups t ht),fun q hq t ht=>far q (r.clIn q hq) (clN q hq) t (hr.tups t ht),Γ.mono l' r.own⟩⟩
 rcases Zz8.mp hq with hq | hq
 ·exact NG q hq
 ·obtain⟨h1,h2⟩:=List.mem_filter.mp hq
  exact⟨F1.keep _ _ (g0at q h1 (by simpa using h2)),(r.N q h1).2⟩
theorem ZhK{x:Str}{np pos:Pos}{f:Addr}{room:Nat}{e:Expr}{es:List Expr}{g:ZW}{o:List V→Hp→Option (V×Hp)}(clr:ClrB base [] K p loose mean mg mb Γ dp un)(XB:K.In base)(TB:Top p loose mean mg mb base)(hn:Nm prog w Γ x (.ref f))(hkeep:keepIn K (.ref f)=true)(D:DefT prog w K p loose mean mg mb f room o)(hd:dp+room<recursionLimit)(hu:un+10*room+300<cLine)
  (h:Js prog w Γ (e::es) g) (he:starEach (e::es) Γ.env=(false,eval e Γ.env)::starEach es Γ.env:=by rfl) (hp:∀pos,(backTo pos (starEach es Γ.env)).any (·.1)=false:=by intro _;rfl):J prog w Γ (.Call (.Name x np) (e::es) [] pos) (Ze o g):=by
 intro W ρ H fr s Q E v H' r hf post
 obtain⟨q,e1,hf⟩:=Zz0.mp hf
 have X:K.In Γ.h₀:=by
  obtain⟨_,_,_,_,_,_,_,_,_,_,X,_⟩:=clr
  exact X
 refine wpAny_Call_ofName (hn.use r ?_)
 refine callWith_K (first:=[]) X hkeep (h pos W ρ H fr s _ E _ _ r e1 fun W1 k1 t1 xs l1 r1 x1=>⟨?_,?_⟩) he (hp pos)
 ·obtain⟨m,c,led,r1⟩:=r1
  exact X.keeps r1.F.keep
 ·exact wpAny_call (D base Γ dp un clr XB TB hd hu W1 ρ _ fr _ Q E _ xs v H' r1 x1 hf fun W2 k2 t2 y l2 r2 y2=>post W2 k2 t2 y (l1.trans l2) r2 y2)
end
end PM
end
section
namespace PM
open PySem PySem.W PySem.Calls PyProof.Rows PyProof PySem.Spec
section
variable {prog:Program} {w:World} {K:Frag} {p:Program} {loose:List Str} {mean:ExcName→Option Value} {mg mb:Str→Option Value}
theorem ZkO{P:Params}{h₀:Heap}{s:Shared}{sa fa:Addr}{cd:Value}{ns:List Int}{qual pname:Str}{scope:Scope}{body:List Stmt}{names:List Str}{g:Sm}{cells:List (Addr×Obj)}{Q:Flow→Shared→Prop}{E:Value→Shared→Prop}{room:Nat}{H':Hp}
  (hbody:∀(dp un:Nat) (gd:Option (List Code)) (L a:Addr) (ccd:Value) (h₀:Heap) (hu:un+200<cLine),ClrB h₀ [] K p loose mean mg mb (Zam dp un gd qual scope L a ccd (cellsFrom (L+1) scope.names []) [] h₀ hu names) dp un→K.In h₀→Top p loose mean mg mb h₀→dp+room<recursionLimit→un+10*room+300<cLine →
   Ss prog w (Zam dp un gd qual scope L a ccd (cellsFrom (L+1) scope.names []) [] h₀ hu names) body g)
  (hd:callerA.depth+1+room<recursionLimit) (hun:callerA.units+3+10*room+300<cLine) (hk:scope.kind=.function) (h0:names[0]?=some pname)
  (KX:K.In h₀) (T:Top p loose mean mg mb h₀) (w1:Well P h₀ (.ref sa) (ofPy (.list (ns.map PyData.int)))) (hlen:ns.length≤ZX)
  (F:Fr h₀ h₀.objs.size s.heap (bindL (envOfC qual scope h₀.objs.size fa cd).kindOf [(pname,.ref sa)] fun _=>none)) (N:News h₀ h₀.objs.size s.heap cells) (X0:CellsAre (bindC (envOfC qual scope h₀.objs.size fa cd).kindOf [(pname,.ref sa)] fun _=>none) (cellsFrom (h₀.objs.size+1) scope.names []) cells)
  (hg:Z3 1 g [.ref 0] [ns.map V.int]=some (.bool true,H')) (post:∀h' tk' m',Fr h₀ h₀.objs.size h' m'→Q (.ret (.bool true)) { s with heap:=h',toks:=tk' }):
  wpAny (model prog w) (callerA.deeper (envOfC qual scope h₀.objs.size fa cd)) (execs body (envOfC qual scope h₀.objs.size fa cd)) Q E s:=by
 have hu':(callerA.units+3)+200<cLine:=by omega
 have clr:ClrB h₀ [] K p loose mean mg mb (Zam (callerA.depth+1) (callerA.units+3) callerA.guards qual scope h₀.objs.size fa cd (cellsFrom (h₀.objs.size+1) scope.names []) [] h₀ hu' names) (callerA.depth+1) (callerA.units+3):=
  ⟨callerA.guards,qual,scope,fa,cd,cellsFrom (h₀.objs.size+1) scope.names [],_,rfl,rfl,below_caller h₀,KX,T,hk⟩
 have hb:=hbody (callerA.depth+1) (callerA.units+3) callerA.guards h₀.objs.size fa cd h₀ hu' clr KX T hd hun
 obtain⟨vs,hsc,hv⟩:=Zka w1 ⟨[sa],[],(sa,Za7 [] 0),[]⟩
 have hv':VRs ⟨[sa],[],(sa,Za7 vs 0),[]⟩ (ns.map V.int) vs:=by
  clear hg post w1 hlen hsc
  generalize ns.map V.int=us at hv
  have key:∀{us:List V} {xs:List Value},VRs ⟨[sa],[],(sa,Za7 [] 0),[]⟩ us xs→VRs ⟨[sa],[],(sa,Za7 vs 0),[]⟩ us xs:=by
   intro us
   induction us with
   | nil=>intro xs h;cases h;exact .nil
   | cons u us ih=>
    intro xs h
    cases h with
    | cons a b=>
     refine .cons ?_ (ih b)
     cases a with
     | none=>exact .none
     | bool b=>exact .bool b
     | int i t=>exact .int i t
     | str s t=>exact .str s t
     | tup hm _ _=>exact nomatch hm
     | ref e=>exact .ref e
     | obj _ h2 _ _=>exact nomatch h2
  exact key hv
 have far:=ZfV (lo:=h₀.objs.size) scope.names (h₀.objs.size+1) [] .nil (fun q hq=>nomatch hq) (Nat.lt_succ_self _)
 unfold Z3 at hg
 rw[if_pos (show([V.ref 0]:List V).length=1 from rfl)]at hg
 obtain⟨res,e1,e2⟩:=Zz1.mp hg
 obtain⟨o,ρ',K'⟩:=res
 have eo:o=some (.bool true):=by
  cases o with
  | none=>simp at e2
  | some v=>simp at e2;rw[e2.1]
 subst eo
 have pick:∀{i:Nat} {x:Str} {u:V},names[i]?=some x→([V.ref 0]:List V)[i]?=some u→x=pname∧u=.ref 0:=fun {i x u} h1 h2=>by
  have hi:i<1:=(Zz6.mp h2).1
  have:i=0:=by omega
  subst this
  rw[h0]at h1
  simp at h1 h2
  exact⟨h1.symm,h2.symm⟩
 have rep:Rep (Zam (callerA.depth+1) (callerA.units+3) callerA.guards qual scope h₀.objs.size fa cd (cellsFrom (h₀.objs.size+1) scope.names []) [] h₀ hu' names) ⟨[sa],[],(sa,Za7 vs 0),[]⟩ (fun i=>[V.ref 0][i]?) [ns.map V.int] [] s.heap:=by
  refine⟨_,cells,cells,⟨F,N,⟨rfl,by simp,fun i us e _=>?_,fun q hq=>(nomatch hq),fun q hq=>(nomatch hq),fun i us fs e hi=>(nomatch hi),fun q hq=>(nomatch hq),fun q hq=>(nomatch hq)⟩,hsc,rfl,fun q hq=>(nomatch hq),fun q hq=>(nomatch hq),fun q hq=>hq,fun q hq z=>?_,fun q _ t ht=>(nomatch ht),fun q hq=>(nomatch hq),fun q hq t ht=>(nomatch ht),⟨fun i x u hi hk1 hu1=>?_,fun i x u hi hk1 hu1=>?_,fun x c1 hc=>?_,fun x y c1 h1 h2=>?_⟩⟩⟩
  ·have hi:i<1:=(Zz6.mp e).1
   have:i=0:=by omega
   subst this
   simp at e
   subst e
   exact⟨by simpa using hlen,sa,vs,0,rfl,List.mem_cons_self,hv'⟩
  ·have:=(N q hq).2.2
   rw[List.mem_singleton.mp z,hsc]at this
   cases this
  ·obtain⟨e3,e4⟩:=pick hi hu1
   subst e3 e4
   refine⟨.ref sa,?_,.ref ⟨rfl,fun q hq=>nomatch hq⟩⟩
   show bindL _ _ _ _=_
   unfold bindL bindL
   rw[if_pos (show(envOfC qual scope h₀.objs.size fa cd).kindOf x=some .local from hk1)]
   simp
  ·obtain⟨e3,e4⟩:=pick hi hu1
   subst e3 e4
   have hs:=cellsFrom_some scope.names (h₀.objs.size+1) [] (.inl hk1)
   obtain⟨c1,hc1⟩:=Option.isSome_iff_exists.mp hs
   obtain⟨o1,ho1,hd1⟩:=Zd4 X0 (ZbR hc1)
   refine⟨c1,o1,.ref sa,hc1,ho1,?_,.ref ⟨rfl,fun q hq=>nomatch hq⟩⟩
   rw[hd1]
   unfold bindC bindC
   rw[if_neg (show ¬(envOfC qual scope h₀.objs.size fa cd).kindOf x=some .local by show ¬scope.names.lookup x=some .local;rw[hk1];simp)]
   simp
  ·obtain⟨o1,ho1,hd1⟩:=Zd4 X0 (ZbR hc)
   exact⟨o1,_,ho1,hd1⟩
  ·exact name_of_addr far.1 (ZbR h1) (ZbR h2)
 refine hb _ _ _ [] s Q E _ rep e1 ?_
 intro W' h' tk' x l' r' x'
 cases x' with
 | bool _=>
  obtain⟨m',c',led',r'⟩:=r'
  exact post h' tk' m' r'.F
end
end PM
end
section
namespace PM
open PySem PySem.W PySem.Calls PyProof.Rows PyProof PySem.Spec
noncomputable def ZbB(nx:Nx)(put:V→Lc→Option Lc)(br:SmR)(b:Sm): Nat→Nat→SmR
 | 0,_=>fun _ _=>none
 | n+1,i=>fun ρ H=>(nx i H).bind fun o=>match o with
  | none=>none
  | some v=>(put v ρ).bind fun ρ1=>Zae br b (ZbB nx put br b n (i+1)) ρ1 H
noncomputable def Zbv(g:Src)(put:V→Lc→Option Lc)(br:SmR)(b:Sm): SmR:=fun ρ H=>(g ρ H).bind fun z=>ZbB z.1 put br b z.2.1 0 ρ z.2.2
section
variable {prog:Program} {w:World} {base:Heap} {outer:List Env} {Γ:Cx}
theorem Ze2{x:Str}{i:Nat}{px pos:Pos}{it:Expr}{body:List Stmt}{g:Src}{br:SmR}{b:Sm}(hx:Sto prog w Γ x i)(hg:JI prog w Γ it g)(hr:ThS prog w base outer Γ body br)(hb:Ss prog w Γ body b)(hs:∀x,foldedSetIterable it Γ.env x=pure x:=by intro _;rfl): Th1 prog w base outer Γ (.For (.Name x px) it body [] pos) (Zbv g (ZH i) br b):=by
 intro W ρ H fr s Q E C H' rp hf hE post
 obtain⟨z,e1,hf⟩:=Zz0.mp hf
 obtain⟨nx,n,H0⟩:=z
 refine wpAny_For (hg W ρ H fr s _ E nx n H0 rp e1 fun W1 k1 t1 itv as It fs l1 i1 r1 ap I1=>?_) hs
 refine codeAny_forLoop (fun k s'=>∃W' ρ' H2 h' tk' j fs',s' = { s with heap:=h',toks:=tk' }∧W1.Le W'∧It j fs'∧Rep Γ W' ρ' H2 (fs'++fr) h'∧ZbB nx (ZH i) br b k j ρ' H2=some (C,H')) ?_ n ⟨W1,ρ,H0,k1,t1,0,fs,rfl,.refl _,i1,r1,hf⟩
 rintro k s' ⟨W2,ρ2,H2,k2,t2,j,fs2,rfl,l2,i2,r2,e⟩
 cases k with
 | zero=>cases e
 | succ k=>
  obtain⟨o,e2,e⟩:=Zz0.mp e
  refine I1.next j W2 ρ2 H2 fr fs2 _ _ _ o l2 r2 ap i2 e2 ?_
  cases o with
  | none=>cases e
  | some v=>
   intro fs3 k3 t3 y i3 r3 y3
   obtain⟨ρ3,e3,e⟩:=Zz0.mp e
   cases e3
   refine wpAny_assign_Name (hx W2 ρ2 H2 (fs3++fr) _ _ _ v y r3 y3 fun k4 t4 r4=>?_)
   unfold Zae at e
   cases ea:br (upd ρ2 i v) H2 with
   | some q=>
    rw[ea]at e
    cases e
    exact wpAny_mono (hr W2 _ H2 (fs3++fr) _ _ E C H' r4 ea hE fun e hh tk' th=>post e hh tk' (th.le (l1.trans l2))) (fun _ _ x=>x) fun e s' h=>hE e s' h
   | none=>
    rw[ea]at e
    obtain⟨q,e4,e⟩:=Zz0.mp e
    obtain⟨u,ρ5,H5⟩:=q
    refine hb W2 _ H2 (fs3++fr) _ _ _ (u,ρ5,H5) r4 e4 ?_
    cases u with
    | some u=>cases e
    | none=>exact fun W5 k5 t5 l5 r5=>⟨k,Nat.lt_succ_self k,W5,ρ5,H5,k5,t5,j+1,fs3,rfl,l2.trans l5,i3,r5,e⟩
end
theorem DefR.zero{prog:Program}{w:World}{K:Frag}{p:Program}{loose:List Str}{mean:ExcName→Option Value}{mg mb:Str→Option Value}{f:Addr}{room:Nat}: DefR prog w K p loose mean mg mb f room (fun _ _=>none):=fun _ _ _ _ _ _ _ _ _ _ _ _ _ _ _ _ _ _ _ _ e=>by cases e
end PM
end
section
namespace PM
open PySem PyProof.Rows PyProof
noncomputable def ZgJ: V→V→Hp→Option (V×Hp)
 | .bool a,.bool b,H=>some (.bool (!(a == b)),H)
 | _,_,_=>none
section
variable {prog:Program} {w:World}
theorem Zki: Op2 prog w (compareOp .IsNot) ZgJ:=by
 intro Γ W ρ H fr s Q E a b x y v H' r hx hy ho post
 cases hx <;> first | (cases ho;done) | skip
 cases hy <;> first | (cases ho;done) | skip
 rename_i a b
 cases ho
 have:Q (.bool (!(Value.bool a == Value.bool b))) s:=by
  have e:(Value.bool a == Value.bool b)=(a == b):=by cases a <;> cases b <;> rfl
  rw[e]
  exact post W s.heap s.toks _ (.refl W) r (.bool _)
 exact wpAny_isNot_plain rfl this
end
end PM
namespace TM
open PySem PM
noncomputable def Zit: T→T→Option T
 | .bool a,.bool b=>some (.bool (!(a == b)))
 | _,_=>none
theorem ZkP: OA2 ZgJ Zit:=fun H v1 v2 t1 t2 t F1 F2 r1 r2 h=>by
 cases r1 <;> first | (cases h;done) | skip
 cases r2 <;> first | (cases h;done) | skip
 cases h
 exact⟨_,rfl,.bool _⟩
end TM
end
section
namespace PM
open PySem PySem.W PySem.Spec PySem.Calls PyProof.Rows
section
variable {M:Model} {A:Around} {E:Value→Shared→Prop} {s:Shared}
theorem ZhL{nm nm' q q':Str}{C D N N' e:Addr}{bs bs' bm bm':List Value}{hdct hdct':Bool}{sn sn':List Str}{sub sub':List Value}{ab ab':Bool}{col col':Option Bool}{dd dd':Option Addr}{k0 k1 k2 k3 k5 j0 j1 j2 j3 j5:Option Value}{nid nid':String}{oe:Obj}{b:Bool}{Q:Bool→Shared→Prop}
  (hC:s.heap.get? C=some (excClassObj nm q C N bs bm hdct sn sub ab col dd k0 k1 k2 k3 k5 nid)) (hD:s.heap.get? D=some (excClassObj nm' q' D N' bs' bm' hdct' sn' sub' ab' col' dd' j0 j1 j2 j3 j5 nid'))
  (he:s.heap.get? e=some oe) (hcls:oe.cls=.ref C) (hB:bm'.contains (.type "BaseException")=true) (hb:(Value.ref C::bm).contains (.ref D)=b) (hq:Q b s):wpAny M A (excMatches (.ref e) (.ref D)) Q E s:=by
 obtain⟨h,g,d,t,os⟩:=s
 have hB':(Value.ref D::bm').contains (.type "BaseException")=true:=by rw[List.contains_cons,hB,Bool.or_true]
 have f:=tc_notTuple
 unfold excMatches
 repeat (first | (with_reducible refine wpAny_loadPart_at he ?_;rw[hcls]) | with_reducible refine wpAny_loadPart_at hD ?_ | (with_reducible refine wpAny_isSubtype_exc hD ?_;rw[hB']) | (with_reducible refine wpAny_isSubtype_exc hC ?_;rw[hb]) | wp_step)
 cases b <;> (wp_walk;exact hq)
end
structure Lying(A₀:Around)(base g G B:Heap)(outer:List Env)(name:Str)(scope:Scope)(L a:Addr)(cd:Value)(m:Str→Option Value)(e C t:Addr)(vs:List Value)(news:List (Addr×Obj))(h:Heap): Prop where
 K:Below A₀ base outer g
 F:Fr g L G m
 sB:base.StaysIn B
 sG:∀b o,G.get? b=some o→b∉(envOf name scope L a cd::outer).filterMap (·.frame)→B.get? b=some o
 nw:∀q∈news,B.get? q.1=some q.2∧G.get? q.1=none∧base.get? q.1=none
 ft:B.get? t=none
 fl:Heap.FlyingW B (envOf name scope L a cd::outer) e (.ref C) (.ref t) h
 up:G.UpToSlots h
 tp:h.TupAt t vs
section
variable {prog:Program} {w:World} {A₀:Around} {E:Value→Shared→Prop} {s:Shared} {base g g₀ G B:Heap} {outer:List Env} {L a e t C D:Addr} {m:Str→Option Value} {name:Str} {scope:Scope} {cd:Value} {vs:List Value} {news:List (Addr×Obj)} {n:Str} {b₀:Stmt} {suite:List Stmt} {pos np:Pos} {rest:List ExceptHandler} {Q:Flow→Shared→Prop} {KF:Frag} {p:Program} {loose:List Str} {mean:ExcName→Option Value} {mg mb:Str→Option Value} {x:Str}
theorem ZiV{h:Heap}{nm q:Str}{N:Addr}{bs bm:List Value}{hdct:Bool}{sn:List Str}{sub:List Value}{ab:Bool}{col:Option Bool}{dd:Option Addr}{k0 k1 k2 k3 k5:Option Value}{nid:String}{v:Value}{b:Bool}(X:KF.In h)(hC:h.get? C=some (excClassObj nm q C N bs bm hdct sn sub ab col dd k0 k1 k2 k3 k5 nid))(hb:mroIn KF C v=some b): (Value.ref C::bm).contains v=b:=by
 obtain⟨c,ha,hb⟩:=Zz0.mp hb
 unfold clsIn at ha
 split at ha
 ·rename_i ho
  cases ha
  have z:=X _ _ ho
  rw[hC]at z
  cases z
  simpa using hb
 ·cases ha
theorem Zhz{hs:List ExceptHandler}(R:RaisedS base G (envOf name scope L a cd::outer) e (.ref C) t vs news s.heap)(F:Fr g L G m)(K:Below A₀ base outer g)(up:G.UpToSlots s.heap)
  (k:∀B h',Lying A₀ base g G B outer name scope L a cd m e C t vs news h'→wpAny (model prog w) (A₀.deeper (envOf name scope L a cd)) (handleBy (.ref e) (envOf name scope L a cd) hs) Q E { s with heap:=h' }):
  wpAny (model prog w) (A₀.deeper (envOf name scope L a cd)) (noteFrame (.ref e) (envOf name scope L a cd)) (fun _ s₂=>wpAny (model prog w) (A₀.deeper (envOf name scope L a cd)) (setFlight (.ref e) none) (fun _ s₃=>wpAny (model prog w) (A₀.deeper (envOf name scope L a cd)) (handleBy (.ref e) (envOf name scope L a cd) hs) Q E s₃) E s₂) E s:=by
 obtain⟨⟨B,r1,r2,r3,r4,r5⟩,tp⟩:=R
 refine wpAny_looks_onW (Around.frames_deeper K.stack) rfl r4 fun h1 held u1=>?_
 exact wpAny_landsW held fun h2 fl u2=>k B h2 ⟨K,F,r1,r2,r3,r5,fl,up.trans (u1.trans u2),tp.of_slots (u1.trans u2)⟩
theorem Lying.ground{h:Heap}(y:Lying A₀ base g G B outer name scope L a cd m e C t vs news h): ∃g',KtsTurn (outer.filterMap (·.frame)) g g'∧Fr g' L h m∧Below A₀ base outer g':=kts_ground y.K y.F y.sG y.fl.1 y.up
theorem Zj1(y:Lying A₀ base g G B outer name scope L a cd m e C t vs news s.heap)(XB:KF.In base)(TB:Top p loose mean mg mb base)(ex:nsIn KF mainGlobals x=some (some (.ref D)))(qC:ktsIn KF C "BaseException"=true)(qD:ktsIn KF D "BaseException"=true)(hb:mroIn KF C (.ref D)=some false)
  (k:wpAny (model prog w) (A₀.deeper (envOf name scope L a cd)) (handleBy (.ref e) (envOf name scope L a cd) rest) Q E s)
  (hk:scope.kind=.function:=by rfl) (hx:(envOf name scope L a cd).kindOf x=some .globalImplicit:=by rfl) (hd:(x == ("__debug__":Str))=false:=by decide):
  wpAny (model prog w) (A₀.deeper (envOf name scope L a cd)) (handleBy (.ref e) (envOf name scope L a cd) (.ExceptHandler (some (.Name x np)) (some n) (b₀::suite) pos::rest)) Q E s:=by
 obtain⟨g',T',F',K'⟩:=y.ground
 have X':KF.In g':=XB.keeps K'.stays
 have P':TopRead p loose mg mb g':=topRead_of (TB.keeps K'.stays)
 obtain⟨_,_,_,_,bm,_,_,_,_,_,_,_,_,_,_,_,_,hC,_,_⟩:=kts_cls X' qC
 obtain⟨_,_,_,_,bm',_,_,_,_,_,_,_,_,_,_,_,_,hD,hBD,_⟩:=kts_cls X' qD
 obtain⟨oe,ws,hoe,hoec,_,_⟩:=y.fl.first
 refine wpAny_handleBy_cons (codeAny_handlers_test (name_K F' X' P' ex ?_ hk hx hd)) (by intro q;cases q)
 exact ZhL (F'.keep _ _ hC) (F'.keep _ _ hD) hoe hoec hBD (b:=false) (ZiV X' hC hb) k
theorem Lying.take(y:Lying A₀ base g G B outer name scope L a cd m e C t vs news s.heap)(XB:KF.In base)(TB:Top p loose mean mg mb base)(Dk:KtsDicts (outer.filterMap (·.frame)) g)(ex:nsIn KF mainGlobals x=some (some (.ref D)))(qC:ktsIn KF C "BaseException"=true)(qD:ktsIn KF D "BaseException"=true)(hb:mroIn KF C (.ref D)=some true)
  (k:∀h' g' news₂ tk,KtsTurn (outer.filterMap (·.frame)) g g'→Fr g' L h' (fun y=>if y=n then some (.ref e)else m y)→News g' L h' news₂→Got news₂ e t (.ref C) vs→News g' L h' news→Below A₀ base outer g'→KF.In g'→Top p loose mean mg mb g'→KtsDicts (outer.filterMap (·.frame)) g' →
   wpAny (model prog w) ((A₀.deeper (envOf name scope L a cd)).mark (some (.ref e))) (execs (b₀::suite) (envOf name scope L a cd))
    (fun f s₄=>wpAny (model prog w) (A₀.deeper (envOf name scope L a cd)) (do bindName (envOf name scope L a cd) n .none;unbindBehindTheSuite (envOf name scope L a cd) n pos) (fun _ s₅=>Q f s₅) E s₄)
    (AsSuiteRaised (model prog w) ((A₀.deeper (envOf name scope L a cd)).mark (some (.ref e))) (envOf name scope L a cd) n pos (notedBy (model prog w) ((A₀.deeper (envOf name scope L a cd)).mark (some (.ref e))) (envOf name scope L a cd) (cameBackBy (model prog w) (A₀.deeper (envOf name scope L a cd)) (envOf name scope L a cd) E)))
    { s with heap:=h',toks:=tk })
  (hk:scope.kind=.function:=by rfl) (hlo:(envOf name scope L a cd).kindOf n=some .local:=by rfl) (hx:(envOf name scope L a cd).kindOf x=some .globalImplicit:=by rfl) (hd:(x == ("__debug__":Str))=false:=by decide):
  wpAny (model prog w) (A₀.deeper (envOf name scope L a cd)) (handleBy (.ref e) (envOf name scope L a cd) (.ExceptHandler (some (.Name x np)) (some n) (b₀::suite) pos::rest)) Q E s:=by
 obtain⟨g',T',F',K'⟩:=y.ground
 have X':KF.In g':=XB.keeps K'.stays
 have P':TopRead p loose mg mb g':=topRead_of (TB.keeps K'.stays)
 obtain⟨_,_,_,_,bm,_,_,_,_,_,_,_,_,_,_,_,_,hC,_,_⟩:=kts_cls X' qC
 obtain⟨_,_,_,_,bm',_,_,_,_,_,_,_,_,_,_,_,_,hD,hBD,_⟩:=kts_cls X' qD
 obtain⟨o1,ws1,ho1,hc1,_,_⟩:=y.fl.first
 refine wpAny_handleBy_cons (codeAny_handlers_test (name_K F' X' P' ex ?_ hk hx hd)) (by intro q;cases q)
 refine ZhL (F'.keep _ _ hC) (F'.keep _ _ hD) ho1 hc1 hBD (b:=true) (ZiV X' hC hb) (codeAny_handlers_suite_as ?_)
 refine lands_againW y.fl fun h2 fl2 u2=>?_
 have y2:Lying A₀ base g G B outer name scope L a cd m e C t vs news h2:=⟨y.K,y.F,y.sB,y.sG,y.nw,y.ft,fl2,y.up.trans u2,y.tp.of_slots u2⟩
 obtain⟨g2,T2,F2,K2⟩:=y2.ground
 obtain⟨oe,we,hoe,cle,dte,ze⟩:=fl2.first
 obtain⟨ot,nt,hot,clt,dtt⟩:=y2.tp
 have LB:B.get? L=none:=by
  obtain⟨_,⟨L',_,hf,hn,_⟩,_⟩:=fl2.2.2.1
  have:L=L':=Option.some.inj hf
  exact this▸hn
 have fresh_e:g2.get? e=none:=T2.none_ _ (kts_fresh y.F y.sG fl2.2.1 fun o ho mem=>by
  obtain⟨_,o',ho',nf⟩:=y.K.frames.mem mem
  rw[ho]at ho'
  cases ho'
  obtain⟨sl,hs⟩:=y2.up _ _ (y.F.keep _ _ ho) nf
  rw[hoe]at hs
  cases hs
  exact nf _ dte)
 have fresh_t:g2.get? t=none:=T2.none_ _ (kts_fresh y.F y.sG y.ft fun o ho mem=>by
  obtain⟨o',es,n',ho',dd'⟩:=Dk _ mem
  rw[ho]at ho'
  cases ho'
  obtain⟨sl,hs⟩:=y2.up _ _ (y.F.keep _ _ ho) (fun vs q=>by rw[dd']at q;cases q)
  rw[hot]at hs
  cases hs
  have z:=dd'.symm.trans dtt
  cases z)
 have Ne:=News.more F2 (News.more F2 News.nil hot (fun es n z=>by rw[dtt]at z;cases z) fresh_t) hoe (fun es n z=>by rw[dte]at z;cases z) fresh_e
 have Nl:News g2 L h2 news:=fun r hr=>⟨fl2.1 _ _ (y.nw r hr).1,(fun z=>by have:=(y.nw r hr).1;rw[z,LB]at this;cases this),T2.none_ _ (kts_none y.F.keep (y.nw r hr).2.1)⟩
 refine stN F2 (news:=_++news) (fun r hr=>(Zz8.mp hr).elim (Ne r) (Nl r)) (fun h3 F3 N3=>?_) hk hlo
 exact k h3 g2 _ _ T2 F3 (fun r hr=>N3 r (Zz4 _ hr)) ⟨oe,ot,we,nt,.head _,.tail _ (.head _),cle,dte,ze,clt,dtt⟩ (fun r hr=>N3 r (Zz3 _ hr)) K2 (XB.keeps K2.stays) (TB.keeps K2.stays) (Dk.turn T2)
end
end PM
end
section
namespace PM
open PySem PySem.W PySem.Spec PySem.Calls PyProof.Rows PyProof
theorem Zj2{W:Wd}{H:Hp}{news:List (Addr×Obj)}{vs:List V}{xs:List Value}{n:Addr}{k:Nat}(R:HR W H (W.sc::news))(hv:VRs W vs xs)(hl:vs.length≤ZX): ∃W',W.Le W'∧HR W' H (W'.sc::(n,ZbC xs k)::news)∧VR W' (.tup vs) (.ref n):=by
 have le:W.Le ⟨W.pi,(n,ZbC xs k)::W.tups,W.sc,W.ins⟩:=⟨List.prefix_refl _,fun q hq=>Zy3 _ hq,rfl,fun _ h=>h,fun _ h=>.inl h⟩
 refine⟨⟨W.pi,(n,ZbC xs k)::W.tups,W.sc,W.ins⟩,le,⟨R.len,R.nd,fun i us e ni=>?_,fun q hq=>?_,fun q hq=>?_,fun i us fs e hi=>?_,R.inlt,R.iuni⟩,.tup Zz5 hl (hv.mono le)⟩
 ·obtain⟨l,a,ys,j,h1,h2,h3⟩:=R.lists i us e ni
  exact⟨l,a,ys,j,h1,ZbW h2 fun x hx=>Zy3 _ hx,h3.mono le⟩
 ·rcases Zz7.mp hq with e | hq
  ·exact e▸Zy3 _ Zz5
  ·exact ZbW (R.tups q hq) fun x hx=>Zy3 _ hx
 ·rcases Zz7.mp hq with e | hq
  ·exact .inl ⟨xs,k,by rw[e]⟩
  ·exact R.kind q hq
 ·obtain⟨l,a,od,ys,h1,h2,h3,h4⟩:=R.objs i us fs e hi
  exact⟨l,a,od,ys,h1,ZbW h2 fun x hx=>Zy3 _ hx,h3,h4.mono le⟩
theorem ZlB{W:Wd}{H:Hp}{g h:Heap}{L n:Addr}{news rest:List (Addr×Obj)}{o:Obj}{x:Str}{tk:Tok}{P:Prop}(N:News g L h ((n,o)::rest))(ho:o=ZbC [.str x tk,.bool true] 0)(hs:∀q∈news,q∈rest)(hr:HR W H (W.sc::news))
  (k:∀W',W.Le W'→News g L h ((n,ZbC [.str x tk,.bool true] 0)::news)→HR W' H (W'.sc::(n,ZbC [.str x tk,.bool true] 0)::news)→VR W' (.tup [.str x,.bool true]) (.ref n)→P):P:=by
 subst ho
 obtain⟨W',l,r,v⟩:=Zj2 (n:=n) (k:=0) hr (.cons (.str x tk) (.cons (.bool true) .nil)) (by rw[Zav];simp)
 refine k W' l (fun q hq=>?_) r v
 rcases Zz7.mp hq with e | hq
 ·exact N q (e▸List.mem_cons_self)
 ·exact N q (Zz2 _ (hs q hq))
section
variable {prog:Program} {w:World} {K:Frag} {p:Program} {loose:List Str} {mean:ExcName→Option Value} {mg mb:Str→Option Value} {base:Heap} {outer:List Env} {Γ:Cx} {dp un:Nat}
theorem ZjJ{x:Str}{np pos:Pos}{f:Addr}{room:Nat}{e:Expr}{es:List Expr}{g:ZW}{o:List V→Hp→Option (Addr×Hp)}(clr:ClrB base outer K p loose mean mg mb Γ dp un)(hn:Nm prog w Γ x (.ref f))(hkeep:keepIn K (.ref f)=true)(D:DefR prog w K p loose mean mg mb f room o)(hd:dp+room<recursionLimit)(hu:un+10*room+300<cLine)
  (h:Js prog w Γ (e::es) g) (he:starEach (e::es) Γ.env=(false,eval e Γ.env)::starEach es Γ.env:=by rfl) (hp:∀pos,(backTo pos (starEach es Γ.env)).any (·.1)=false:=by intro _;rfl):
  ∀(W:Wd) (ρ:Lc) (H:Hp) (fr:List (Addr×Obj)) (s:Shared) (Q:Value→Shared→Prop) (E:Value→Shared→Prop) (C:Addr) (H':Hp),Rep Γ W ρ H fr s.heap→rCall o g ρ H=some (C,H')→(∀e hh tk',Passed Γ base outer W H' C e hh→E (.ref e) { s with heap:=hh,toks:=tk' })→wpAny (model prog w) Γ.A (eval (.Call (.Name x np) (e::es) [] pos) Γ.env) Q E s:=by
 intro W ρ H fr s Q E C H' r hf post
 obtain⟨q,e1,hf⟩:=Zz0.mp hf
 have X:K.In Γ.h₀:=by
  obtain⟨_,_,_,_,_,_,_,_,_,_,X,_⟩:=clr
  exact X
 refine wpAny_Call_ofName (hn.use r ?_)
 refine callWith_K (first:=[]) X hkeep (h pos W ρ H fr s _ E _ _ r e1 fun W1 k1 t1 xs l1 r1 x1=>⟨?_,?_⟩) he (hp pos)
 ·obtain⟨m,c,led,r1⟩:=r1
  exact X.keeps r1.F.keep
 ·exact wpAny_call (D base outer Γ dp un clr hd hu W1 ρ _ fr _ _ _ xs C H' r1 x1 hf fun e hh tk' th=>post e hh tk' (th.le l1))
end
end PM
end
section
namespace My
open PySem PySem.W PySem.Spec PySem.Calls PyProof.Rows PySem.Builtin.ObjectAttr PySem.Builtin.Getset_descriptor
noncomputable def Of(x D:Addr)(h:Heap): Prop:=∃o:Obj,h.get? x=some o∧o.cls=.ref D
theorem Of.ty{x D:Addr}{M:Model}{h:Heap}(I:Of x D h): Looks M h (typeOf (.ref x)) (.ref D):=by
 obtain⟨o,ho,hc⟩:=I
 exact hc▸(Looks.ld ho).andThen .now
structure OeCls(o:Obj)(D:Addr): Prop where
 c:o.cls=.ref D
theorem got_more{h₀ h:Heap}{L e t D:Addr}{n news:List (Addr×Obj)}{vs:List Value}(G:Got n e t (.ref D) vs)(N₂:News h₀ L h n)(N:News h₀ L h news): ∃oe,OeCls oe D∧News h₀ L h ((e,oe)::news):=by
 obtain⟨oe,_,_,_,hm,_,hc,_⟩:=G
 refine⟨oe,⟨hc⟩,fun p hp=>?_⟩
 rcases Zz7.mp hp with q | q
 ·exact q▸N₂ _ hm
 ·exact N p q
theorem of_news{h₀ h:Heap}{L e D:Addr}{oe:Obj}{news:List (Addr×Obj)}(N:News h₀ L h news)(hm:(e,oe)∈news)(hc:OeCls oe D): Of e D h:=⟨oe,(N _ hm).1,hc.c⟩
theorem find_data{K:Frag}{M:Model}{h:Heap}(X:K.In h){x C:Addr}{name:Str}{a g:Value}(ha:findIn K (.ref C) name=some (some a))(hg:specialIn K a "__get__"=some (some g))(hd:takesIn K a=some true):
  Looks M h (find (.ref x) (.ref C) name) (.bind g a):=by
 have l2:Looks M h (getOf (some a)) (some g):=looks_specialIn X hg
 have l3:=looks_takesIn (M:=M) X hd
 refine(looks_findIn (M:=M) X ha).andThen (l2.andThen ?_)
 have l4:Looks M h (dataDescriptor? (some a) (some g)) (some (g,a)):=l3.andThen .now
 exact l4.andThen (Looks.tag .now)
section
variable {prog:Program} {w:World} {A:Around} {E:Value→Shared→Prop} {s:Shared} {K:Frag} {x D:Addr} {name:Str}
theorem exc_class{R:Result→Shared→Prop}{tp:Value}(X:K.In s.heap)(I:Of x D s.heap)(hm:mroIn K D (.type "object")=some true)
  (h:R (.ok (.ret (.ref D))) s):codeAny (model prog w) A (.call (.builtin "getset_descriptor.__get__") ⟨[.builtin "object.__class__",.ref x,tp],[]⟩) R s:=by
 obtain⟨hh,g,dr,t,os⟩:=s
 have L0:=I.ty (M:=model prog w)
 have L1:=looks_mroIn (M:=model prog w) X hm
 refine codeAny_call_builtin KF.slot_gs.plain KF.entry_gs (KF.slot_gs.check _ _ _ _ _ _ _ _ KF.type_class (KF.args_gs _ _ _) ?_)
 unfold Builtin.«getset_descriptor.__get__» descrGet
 rw[dga_obj]
 refine wpAny_bind (wpAny_pure ?_)
 unfold descrGetter descrCheckInstance descrNameAndClass isInstance
 simp only[KF.owner_class]
 repeat lk
 refine⟨Code.quiet_builtin _ (by decide +kernel),codeAny_builtin KF.entry_class ?_⟩
 unfold Builtin.«object.__class__» shownTypeOf
 repeat lk
 exact h
theorem ga_bind(v:Value): bindSpecial (.builtin "BaseException.__getattribute__") v=pure (.builtin "BaseException.__getattribute__",[v]):=by kernel_rfl
theorem exc_attr{Q:Option Value→Shared→Prop}(X:K.In s.heap)(I:Of x D s.heap)(hga:findIn K (.ref D) "__getattribute__"=some (some (.builtin "BaseException.__getattribute__")))(hk:findIn K (.ref D) "__getattr__"=some none)
  (ha:findIn K (.ref D) "__class__"=some (some (.builtin "object.__class__"))) (hn:specialIn K (.builtin "object.__class__") "__get__"=some (some (.builtin "getset_descriptor.__get__"))) (htk:takesIn K (.builtin "object.__class__")=some true)
  (hm:mroIn K D (.type "object")=some true) (hmB:mroIn K D (.type "BaseException")=some true) (h:Q (some (.ref D)) { s with toks:=s.toks+1 }):
  wpAny (model prog w) A (getAttr? (.ref x) "__class__") Q E s:=by
 obtain⟨hh,g,d,t,os⟩:=s
 have l0:=I.ty (M:=model prog w)
 have l1:=looks_findIn (M:=model prog w) X hga
 have l2:=looks_findIn (M:=model prog w) X hk
 unfold getAttr? getAttrBy? getAttrBy
 refine wpAny_bind (wpAny_mkText (wpAny_bind (wpAny_attempt (wpAny_holding (wpAny_bind (l0.at (wpAny_bind (l1.at ?_))))))))
 have hx2:(Value.builtin "BaseException.__getattribute__" == Value.builtin "object.__getattribute__")=false:=by decide +kernel
 simp only[hx2,Bool.and_false,Bool.false_eq_true,if_false]
 unfold getAttrByItsOwn hookBefore callGetattribute boundAndCalled
 have hon:onTheHeap (Value.ref D)=true:=rfl
 simp only[hon,if_true,Bool.false_and,Bool.false_eq_true,if_false]
 refine wpAny_bind (l2.at (wpAny_bind (wpAny_attempt (wpAny_holding ?_))))
 refine wpAny_bind (wpAny_of_eq (ga_bind (.ref x)) ?_)
 dsimp only[List.cons_append,List.nil_append]
 refine wpAny_call (codeAny_call_builtin (by decide +kernel) F.entry_bexc_ga ?_)
 have hk':builtinKind "BaseException.__getattribute__"=some .slot:=by decide +kernel
 have hsp:splitId "BaseException.__getattribute__"=some ("BaseException","__getattribute__"):=by decide +kernel
 have hag:=F.args_bexc_ga (.ref x) (.str (Str.ofString "__class__") t)
 have lB:=looks_mroIn (M:=model prog w) X hmB
 have l3:=find_data (M:=model prog w) (x:=x) X ha hn htk
 simp only[checkBuiltinCall,hk',hsp]
 unfold isInstance
 refine wpAny_bind (wpAny_bind (l0.at (lB.at ?_)))
 simp only[Bool.not_true,Bool.false_eq_true,if_false]
 refine wpAny_of_eq hag ?_
 unfold Builtin.«object.__getattribute__»
 refine wpAny_bind (wpAny_of_eq (show slotArgs "__getattribute__" 1 ⟨[Value.ref x,Value.str (Str.ofString "__class__") t],[]⟩=pure (Value.ref x,[Value.str (Str.ofString "__class__") t])from rfl) ?_)
 refine wpAny_bind (wpAny_of_eq (show attrName (Value.str (Str.ofString "__class__") t)=pure (Str.ofString "__class__")from rfl) ?_)
 refine wpAny_bind (l0.at (wpAny_bind (l3.at ?_)))
 dsimp only
 unfold bindTo
 dsimp only
 refine wpAny_bind (wpAny_holding (wpAny_call (exc_class X I hm ?_)))
 show wpAny _ _ (ret _) _ _ _
 refine wpAny_pure ?_
 dsimp only
 exact handed_on rfl (wpAny_pure h)
end
theorem kitx_of{K:Frag}{x D:Addr}(hga:findIn K (.ref D) "__getattribute__"=some (some (.builtin "BaseException.__getattribute__")))(hk:findIn K (.ref D) "__getattr__"=some none)(hmB:mroIn K D (.type "BaseException")=some true)(hdct:hasDictIn K D=true)(ha:findIn K (.ref D) "__class__"=some (some (.builtin "object.__class__")))
  (hn:specialIn K (.builtin "object.__class__") "__get__"=some (some (.builtin "getset_descriptor.__get__"))) (htk:takesIn K (.builtin "object.__class__")=some true) (hm:mroIn K D (.type "object")=some true):
  KitX K (.ref x) (.ref D) (Of x D) where
 ty:=fun _ _ _ I=>I.ty
 it:=fun _ _ X _=>by
  obtain⟨_,hcD,_⟩:=any_some hdct
  unfold clsIn at hcD
  split at hcD
  ·rename_i ho
   intro _ _ _ _ k q
   unfold isType loadHead
   exact wpAny_bind (wpAny_loadPart (k _ _ (X _ _ ho)) (wpAny_pure q))
  ·cases hcD
 ne:=fun h tp dd its n sl X htp=>by
  obtain⟨_,hcD,_⟩:=any_some hdct
  refine Bool.eq_false_iff.mpr fun q=>?_
  have e:D=tp:=Value.ref.inj (beq_iff_eq.mp q)
  subst e
  unfold clsIn at hcD
  split at hcD
  ·rename_i ho
   cases (X _ _ ho).symm.trans htp
  ·cases hcD
 ca:=fun X I k=>exc_attr X I hga hk ha hn htk hm hmB k
end My
end
section
namespace PM
open PySem PySem.W PySem.Calls PyProof.Rows PyProof PySem.Spec
section
variable {prog:Program} {w:World} {K:Frag} {p:Program} {loose:List Str} {mean:ExcName→Option Value} {mg mb:Str→Option Value}
theorem Zkj{P:Params}{h₀:Heap}{s:Shared}{sa fa:Addr}{cd:Value}{ns:List Int}{qual pname:Str}{scope:Scope}{body:List Stmt}{names:List Str}{g:Sm}{Q:Flow→Shared→Prop}{E:Value→Shared→Prop}{room:Nat}{H':Hp}
  (hbody:∀(dp un:Nat) (gd:Option (List Code)) (L a:Addr) (ccd:Value) (h₀:Heap) (hu:un+200<cLine),ClrB h₀ [] K p loose mean mg mb (Zam dp un gd qual scope L a ccd (cellsFrom (L+1) scope.names []) [] h₀ hu names) dp un→K.In h₀→Top p loose mean mg mb h₀→dp+room<recursionLimit→un+10*room+300<cLine →
   Ss prog w (Zam dp un gd qual scope L a ccd (cellsFrom (L+1) scope.names []) [] h₀ hu names) body g)
  (hd:callerA.depth+1+room<recursionLimit) (hun:callerA.units+3+10*room+300<cLine) (hk:scope.kind=.function) (h0:names[0]?=some pname) (hc:∀n,cellsFrom n scope.names []=[]) (hl:(envOfC qual scope h₀.objs.size fa cd).kindOf pname=some .local)
  (KX:K.In h₀) (T:Top p loose mean mg mb h₀) (w1:Well P h₀ (.ref sa) (ofPy (.list (ns.map PyData.int)))) (hlen:ns.length≤ZX)
  (F:Fr h₀ h₀.objs.size s.heap (fun x=>List.lookup x [(pname,Value.ref sa)].reverse)) (N:News h₀ h₀.objs.size s.heap [])
  (hg:Z3 1 g [.ref 0] [ns.map V.int]=some (.bool true,H')) (post:∀h' tk' m',Fr h₀ h₀.objs.size h' m'→Q (.ret (.bool true)) { s with heap:=h',toks:=tk' }):
  wpAny (model prog w) (callerA.deeper (envOf qual scope h₀.objs.size fa cd)) (execs body (envOf qual scope h₀.objs.size fa cd)) Q E s:=by
 have e:envOf qual scope h₀.objs.size fa cd=envOfC qual scope h₀.objs.size fa cd:=by unfold envOf envOfC;rw[hc]
 have eb:(fun x=>List.lookup x [(pname,Value.ref sa)].reverse)=bindL (envOfC qual scope h₀.objs.size fa cd).kindOf [(pname,.ref sa)] fun _=>none:=by
  funext x
  simp only[bindL,hl,if_true,List.reverse_cons,List.reverse_nil,List.nil_append,List.lookup]
  by_cases q:x=pname
  ·subst q;simp
  ·rw[if_neg q]
   have:(x == pname)=false:=by simpa using q
   rw[this]
 rw[e]
 exact ZkO hbody hd hun hk h0 KX T w1 hlen (eb▸F) N (by rw[hc];exact CellsAre.nil) hg post
end
end PM
end
noncomputable section
open PySem PM TM
namespace L
noncomputable def Zgf: Sm:=Zs (ZcJ (Za ZO (Za Zh (eVar 0) (Zb 1)) (Zb 1)) (eVar 0) (Zb 1)) (Zs (ZB (Zp (Za oGt (Za Zh (eVar 0) (Zb 1)) (Ze Z2 (eCons (Za Zh (eVar 0) (Zb 0)) eNil)))) (ZQ (Zb 0)) ZN) (ZQ (Za Zh (Za Zh (eVar 0) (Zb 0)) (Za Zau (Za Zh (eVar 0) (Zb 1)) (Zb 1)))))
noncomputable def ZdV:=Z3 1 Zgf
noncomputable def Zgg: PS:=(Zx (Zc1 0 2 true (pFl (Zl Zay (Zl ZT (Zc 0) (Zm 1)) (Zm 1))) ZaT (Zm 1)) (Zx (Zap (xB (Zac (Zl qGt (Zl ZT (Zc 0) (Zm 1)) (Zak ZbE (Zd (Zl ZT (Zc 0) (Zm 0)) Zq))))) (Zad (xP (Zm 0))) Zaj) (Zad (xP (ZaZ (Zl ZT (Zl ZT (Zc 0) (Zm 0)) (Zl Zbu (Zl ZT (Zc 0) (Zm 1)) (Zm 1))))))))
noncomputable def ZdW: List T→Option (T×List T):=ZaW 1 [(0,2)] Zgg
theorem ZhE: SimX 1 [(0,2)] true ZdV ZdW:=SimX.of (show SU [] [(0,2)] [] [(0,2)] [(0,2)] true Zgf Zgg from(SU.seq (SU.putS (x:=0) (d:=2) (own:=true) (O':=[]) (S':=[(0,2)]) (by decide) (by decide) (Zdq Za0 (Z5 Z6 (Zj 0) (Zn _)) (Zn _)) Zdl (Zn _) (by decide) (by decide) (by decide)) (SU.seq (Zax (ZaC (Zah (ZE Zc4 (Z5 Z6 (Zj 0) (Zn _)) (Zbf Zb5 (ZA (Z5 Z6 (Zj 0) (Zn _)) ZF))))) (Zas (O':=[]) (S':=[(0,2)]) (ZD (Zn _) (by decide)) (by decide) (by decide)) SU.next) (Zas (O':=[]) (S':=[(0,2)]) (ZD (E.flat (Z5 Z6 (Z5 Z6 (Zj 0) (Zn _)) (ZE ZbL (Z5 Z6 (Zj 0) (Zn _)) (Zn _)))) (by decide)) (by decide) (by decide))))) (by decide) (by decide)
noncomputable def ZfJ: Sm:=ZQ (Za oMod (Za oMod (Za ZbX (Ze ZdV (eCons (eVar 0) eNil)) (Zb 48271)) (Zb 1000003)) (eVar 1))
noncomputable def ZP:=Z3 2 ZfJ
noncomputable def ZfK: PS:=(Zad (Z0 1000 (ZJ false [0] ZdW (Zd (Zc 0) Zq)) (xP (Zl Zbd (Zl Zbd (Zl ZbZ (Zc 1000) (Zm 48271)) (Zm 1000003)) (Zc 1)))))
noncomputable def ZaI: List T→Option (T×List T):=ZaW 2 [(0,2)] ZfK
theorem ZaX: SimX 2 [(0,2)] true ZP ZaI:=SimX.of (show SU [] [(0,2)] [] [(0,2)] [(0,2)] true ZfJ ZfK from(Zas (O':=[]) (S':=[(0,2)]) (Zan (k:=1000) (C:=fun e=>(Za oMod (Za oMod (Za ZbX (e) (Zb 48271)) (Zb 1000003)) (eVar 1))) (e:=(Ze ZdV (eCons (eVar 0) eNil))) (Za9 (Za9 (Za9 (Z7) (fun ρ v H=>rfl)) (fun ρ v H=>rfl)) (fun ρ v H=>rfl)) (EX.call (b:=false) (xs:=[0]) (as:=[some 0]) (M:=[]) ZhE (XAs.slot XAs.nil)) (ZD (ZE ZbM (ZE ZbM (Za4 Zen (Zj 1000) (Zn _)) (Zn _)) (Zj 1)) (by decide)) (by decide) (by decide)) (by decide) (by decide))) (by decide) (by decide)
noncomputable def Zgm: Sm:=Zs (ZL (Zbm (Za Zh (eVar 0) (Zb 3)) (eVar 1))) (Zs (ZB (Zp (Za Zfa (Ze Z2 (eCons (Za Zh (eVar 0) (Zb 3)) eNil)) (Za Zh (eVar 0) (Zb 4)))) (ZQ (ZbH false)) ZN) (Zs (ZB (Zp (Za ZU (Za Zh (eVar 0) (Zb 5)) (Zo (Str.ofString "")))) (ZcJ (eVar 1) (eVar 0) (Zb 5)) ZN) (ZQ (ZbH true))))
noncomputable def Zca:=Z3 2 Zgm
noncomputable def Zgn: PS:=(Zx (Zc0 0 2 false (Zfl ZaT (Zm 3)) (Zc 1)) (Zx (Zap (xB (Zac (Zl Zfb (Zak ZbE (Zd (Zl ZT (Zc 0) (Zm 3)) Zq)) (Zl ZT (Zc 0) (Zm 4))))) (Zad (xP (Zdt false))) Zaj) (Zx (Zap (xB (Zac (Zl qEq (Zl ZT (Zc 0) (Zm 5)) (ZR (Str.ofString ""))))) (Zc1 0 2 true (ZaZ (Zc 1)) ZaT (Zm 5)) Zaj) (Zad (xP (Zdt true))))))
noncomputable def Zb2: List T→Option (T×List T):=ZaW 2 [(0,2)] Zgn
theorem ZcB: SimX 2 [(0,2)] true Zca Zb2:=SimX.of (show SU [] [(0,2)] [] [(0,2)] [(0,2)] true Zgm Zgn from(SU.seq (Zip (x:=0) (d:=2) (own:=false) (O':=[]) (S':=[(0,2)]) (by decide) (by decide) (Zlm Zdl (Zn _)) (Zj 1) (by decide) (by decide) (by decide)) (SU.seq (Zax (ZaC (Zah (ZE Zlk (Zbf Zb5 (ZA (Z5 Z6 (Zj 0) (Zn _)) ZF)) (Z5 Z6 (Zj 0) (Zn _))))) (Zas (O':=[]) (S':=[(0,2)]) (ZD (E.bool _) (by decide)) (by decide) (by decide)) SU.next) (SU.seq (Zax (ZaC (Zah (ZE ZaV (Z5 Z6 (Zj 0) (Zn _)) (E.str _)))) (SU.putS (x:=0) (d:=2) (own:=true) (O':=[]) (S':=[(0,2)]) (by decide) (by decide) (E.flat (Zj 1)) Zdl (Zn _) (by decide) (by decide) (by decide)) SU.next) (Zas (O':=[]) (S':=[(0,2)]) (ZD (E.bool _) (by decide)) (by decide) (by decide)))))) (by decide) (by decide)
noncomputable def Zgo: Sm:=Zs (ZB (Zp (Ze Zca (eCons (eVar 0) (eCons (Zo (Str.ofString "NoBox")) eNil)))) (ZQ (Za Zh (ZM (eCons (Zb 0) (eCons (Za ZO (Za Zh (eVar 1) (Zb 1)) (Zb 1)) (eCons (eUn ZbN (Zb 1)) (eCons (Za ZO (Za Zh (eVar 1) (Zb 1)) (Zb 7)) eNil))))) (Ze ZP (eCons (eVar 0) (eCons (Zb 4) eNil))))) ZN) (Zs (Zy 3 (Zb 1)) (Zs (ZB (ZdA (Zp (eVar 2))) (Zs (Zy 3 (Za ZO (Za Zh (eVar 1) (Zb 0)) (Zb 1))) (ZB (Za1 (Zp (Za oGt (Za Zh (eVar 1) (Zb 0)) (Zb 0))) (Za1 (Zp (Ze Zca (eCons (eVar 0) (eCons (Zo (Str.ofString "FixedBox")) eNil)))) ZaH)) (ZQ (Za ZO (Zb 1) (Ze ZP (eCons (eVar 0) (eCons (Za Zh (eVar 1) (Zb 0)) eNil))))) ZN)) ZN) (ZQ (Za ZO (eVar 3) (Ze ZP (eCons (eVar 0) (eCons (Za ZO (Za Zau (Za Zh (eVar 1) (Zb 1)) (eVar 3)) (Zb 1)) eNil)))))))
noncomputable def ZdY:=Z3 3 Zgo
noncomputable def Zgp: PS:=(Zx (Zap (Zci (ZJ false [0] Zb2 (Zd (Zc 0) (Zd (ZR (Str.ofString "NoBox")) Zq)))) (Zad (Z0 1000 (xP (Zat (Zd (Zm 0) (Zd (Zl Zay (Zl ZT (Zc 1) (Zm 1)) (Zm 1)) (Zd (pUn ZcK (Zm 1)) (Zd (Zl Zay (Zl ZT (Zc 1) (Zm 1)) (Zm 7)) Zq)))))) (Z0 1001 (ZJ false [0] ZaI (Zd (Zc 0) (Zd (Zm 4) Zq))) (xP (ZaZ (Zl ZT (Zc 1000) (Zc 1001))))))) Zaj) (Zx (Z1 3 (xP (Zm 1))) (Zx (Zap (xB (Zet (Zac (Zc 2)))) (Zx (Z1 3 (xP (pFl (Zl Zay (Zl ZT (Zc 1) (Zm 0)) (Zm 1))))) (Zap (ZdF (xB (Zac (Zl qGt (Zl ZT (Zc 1) (Zm 0)) (Zm 0)))) (ZdF (Zci (ZJ false [0] Zb2 (Zd (Zc 0) (Zd (ZR (Str.ofString "FixedBox")) Zq)))) (xB ZbK))) (Zad (Z0 1002 (ZJ false [0] ZaI (Zd (Zc 0) (Zd (Zl ZT (Zc 1) (Zm 0)) Zq))) (xP (pFl (Zl Zay (Zm 1) (Zc 1002)))))) Zaj)) Zaj) (Zad (Z0 1003 (ZJ false [0] ZaI (Zd (Zc 0) (Zd (Zl Zay (Zl Zbu (Zl ZT (Zc 1) (Zm 1)) (Zc 3)) (Zm 1)) Zq))) (xP (Zl Zay (Zc 3) (Zc 1003))))))))
noncomputable def Zdi: List T→Option (T×List T):=ZaW 3 [(0,2)] Zgp
theorem Zgq: SimX 3 [(0,2)] true ZdY Zdi:=SimX.of (show SU [] [(0,2)] [3] [(0,2)] [(0,2)] true Zgo Zgp from(SU.seq (Zax (ZcV (EX.call (b:=false) (xs:=[0]) (as:=[some 0,none]) (M:=[]) ZcB (XAs.slot (ZC (E.str _) (by decide) XAs.nil)))) (Zas (O':=[]) (S':=[(0,2)]) (Zcm (k:=1000) (C:=fun e=>(Za Zh (e) (Ze ZP (eCons (eVar 0) (eCons (Zb 4) eNil))))) (e:=(ZM (eCons (Zb 0) (eCons (Za ZO (Za Zh (eVar 1) (Zb 1)) (Zb 1)) (eCons (eUn ZbN (Zb 1)) (eCons (Za ZO (Za Zh (eVar 1) (Zb 1)) (Zb 7)) eNil)))))) (Za9 (Z7) (fun ρ v H=>rfl)) (ZD (E.list (ZA (Zn _) (ZA (Za4 Za0 (Z5 Z6 (Zj 1) (Zn _)) (Zn _)) (ZA (Zdu Zdw (Zn _)) (ZA (Za4 Za0 (Z5 Z6 (Zj 1) (Zn _)) (Zn _)) ZF))))) (by decide)) (Zan (k:=1001) (C:=fun e=>(Za Zh (eVar 1000) (e))) (e:=(Ze ZP (eCons (eVar 0) (eCons (Zb 4) eNil)))) (ZaM (Z7) (Zab (by decide))) (EX.call (b:=false) (xs:=[0]) (as:=[some 0,none]) (M:=[]) ZaX (XAs.slot (ZC (Zn _) (by decide) XAs.nil))) (ZD (E.flat (Z5 Z6 (Zj 1000) (Zj 1001))) (by decide)) (by decide) (by decide)) (by decide) (by decide) (by decide) (by decide)) (by decide) (by decide)) SU.next) (SU.seq (Zbg (i:=3) (O':=[3]) (S':=[(0,2)]) (ZD (Zn _) (by decide)) (by decide) (by decide)) (SU.seq (Zax (ZaC (ZiE (Zah (Zj 2)))) (SU.seq (Zbg (i:=3) (O':=[3]) (S':=[(0,2)]) (ZD (Zej (O':=[]) (Zdq Za0 (Z5 Z6 (Zj 1) (Zn _)) (Zn _))) (by decide)) (by decide) (by decide)) (Zax (ZiP (ZaC (Zah (ZE Zc4 (Z5 Z6 (Zj 1) (Zn _)) (Zn _)))) (ZiP (ZcV (EX.call (b:=false) (xs:=[0]) (as:=[some 0,none]) (M:=[]) ZcB (XAs.slot (ZC (E.str _) (by decide) XAs.nil)))) (ZaC ZcD))) (Zas (O':=[3]) (S':=[(0,2)]) (Zan (k:=1002) (C:=fun e=>(Za ZO (Zb 1) (e))) (e:=(Ze ZP (eCons (eVar 0) (eCons (Za Zh (eVar 1) (Zb 0)) eNil)))) (ZaM (Z7) Vl.int) (EX.call (b:=false) (xs:=[0]) (as:=[some 0,none]) (M:=[1]) ZaX (XAs.slot (ZC (Z5 Z6 (Zj 1) (Zn _)) (by decide) XAs.nil))) (ZD (Zdq Za0 (Zn _) (Zj 1002)) (by decide)) (by decide) (by decide)) (by decide) (by decide)) SU.next)) SU.next) (Zas (O':=[3]) (S':=[(0,2)]) (Zan (k:=1003) (C:=fun e=>(Za ZO (eVar 3) (e))) (e:=(Ze ZP (eCons (eVar 0) (eCons (Za ZO (Za Zau (Za Zh (eVar 1) (Zb 1)) (eVar 3)) (Zb 1)) eNil)))) (ZaM (Z7) (Zab (by decide))) (EX.call (b:=false) (xs:=[0]) (as:=[some 0,none]) (M:=[]) ZaX (XAs.slot (ZC (Za4 Za0 (ZE ZbL (Z5 Z6 (Zj 1) (Zn _)) (Zj 3)) (Zn _)) (by decide) XAs.nil))) (ZD (Zmu (E.own) (E.own) (by decide) (by decide)) (by decide)) (by decide) (by decide)) (by decide) (by decide)))))) (by decide) (by decide)
noncomputable def Zfx: Sm:=Zs (Zy 1 (Ze ZdV (eCons (eVar 0) eNil))) (Zs (Zy 2 (Za ZbX (Za oDiv (eVar 1) (Zb 5)) (Za oPow (Zb 48271) (Zb 14)))) (Zs (ZB (Zp (Za ZU (Za oMod (eVar 1) (Zb 5)) (Zb 2))) (ZQ (Za Zau (Za oMod (eVar 2) (Za Zau (Za ZbX (Zb 2) (Za oPow (Zb 10) (Zb 60))) (Zb 1))) (Za Zau (Za oPow (Zb 10) (Zb 60)) (Zb 1)))) ZN) (Zs (ZB (Zp (Za ZU (Za oMod (eVar 1) (Zb 5)) (Zb 3))) (ZQ (Za Zau (Za oMod (eVar 2) (Zb 2001)) (Zb 1000))) ZN) (ZQ (Za Zau (Za oMod (eVar 2) (Zb 13)) (Zb 6))))))
noncomputable def Zb8:=Z3 1 Zfx
noncomputable def Zfy: PS:=(Zx (Z1 1 (ZJ false [0] ZdW (Zd (Zc 0) Zq))) (Zx (Z1 2 (xP (Zl ZbZ (Zl Zb7 (Zc 1) (Zm 5)) (Zl ZbY (Zm 48271) (Zm 14))))) (Zx (Zap (xB (Zac (Zl qEq (Zl Zbd (Zc 1) (Zm 5)) (Zm 2)))) (Zad (xP (Zl Zbu (Zl Zbd (Zc 2) (Zl Zbu (Zl ZbZ (Zm 2) (Zl ZbY (Zm 10) (Zm 60))) (Zm 1))) (Zl Zbu (Zl ZbY (Zm 10) (Zm 60)) (Zm 1))))) Zaj) (Zx (Zap (xB (Zac (Zl qEq (Zl Zbd (Zc 1) (Zm 5)) (Zm 3)))) (Zad (xP (Zl Zbu (Zl Zbd (Zc 2) (Zm 2001)) (Zm 1000)))) Zaj) (Zad (xP (Zl Zbu (Zl Zbd (Zc 2) (Zm 13)) (Zm 6))))))))
noncomputable def Zcx: List T→Option (T×List T):=ZaW 1 [(0,2)] Zfy
theorem ZdJ: SimX 1 [(0,2)] true Zb8 Zcx:=SimX.of (show SU [] [(0,2)] [] [(0,2)] [(0,2)] true Zfx Zfy from(SU.seq (SU.set (i:=1) (O':=[]) (S':=[(0,2)]) (EX.call (b:=false) (xs:=[0]) (as:=[some 0]) (M:=[]) ZhE (XAs.slot XAs.nil))) (SU.seq (SU.set (i:=2) (O':=[]) (S':=[(0,2)]) (ZD (Za4 Zen (ZE Zdv (Zj 1) (Zn _)) (ZE Zfi (Zn _) (Zn _))) (by decide))) (SU.seq (Zax (ZaC (Zah (ZE ZaV (ZE ZbM (Zj 1) (Zn _)) (Zn _)))) (Zas (O':=[]) (S':=[(0,2)]) (ZD (ZE ZbL (ZE ZbM (Zj 2) (ZE ZbL (Za4 Zen (Zn _) (ZE Zfi (Zn _) (Zn _))) (Zn _))) (ZE ZbL (ZE Zfi (Zn _) (Zn _)) (Zn _))) (by decide)) (by decide) (by decide)) SU.next) (SU.seq (Zax (ZaC (Zah (ZE ZaV (ZE ZbM (Zj 1) (Zn _)) (Zn _)))) (Zas (O':=[]) (S':=[(0,2)]) (ZD (ZE ZbL (ZE ZbM (Zj 2) (Zn _)) (Zn _)) (by decide)) (by decide) (by decide)) SU.next) (Zas (O':=[]) (S':=[(0,2)]) (ZD (ZE ZbL (ZE ZbM (Zj 2) (Zn _)) (Zn _)) (by decide)) (by decide) (by decide))))))) (by decide) (by decide)
noncomputable def ZfW: Sm:=Zs (Zy 2 (Za Zh (eVar 1) (Zb 1))) (Zs (ZB (Zp (Ze Zca (eCons (eVar 0) (eCons (Zo (Str.ofString "NoSum")) eNil)))) (Zy 2 (Za Zau (Za ZO (eVar 2) (Za ZbX (Zb 2) (Ze ZP (eCons (eVar 0) (eCons (Zb 2) eNil))))) (Zb 1))) ZN) (Zs (Zy 3 (ZM (eCons (Ze Zb8 (eCons (eVar 0) eNil)) eNil))) (Zs (Zy 4 (Ze ZP (eCons (eVar 0) (eCons (Zb 1000000) eNil)))) (Zs (ZaA (ZaN (eCons (eVar 2) eNil)) (ZH 5) (Zs (ZL (Zbm (eVar 3) (Za Zh (ZM (eCons (Zb 0) (eCons (Zb 1) (eCons (eUn ZbN (Zb 1)) (eCons (Zb 2) (eCons (Zb 0) (eCons (eUn ZbN (Zb 3)) (eCons (Zb 1) (eCons (Za oPow (Zb 10) (Zb 9)) eNil))))))))) (Za oMod (eVar 4) (Zb 8))))) (Zy 4 (Za oDiv (eVar 4) (Zb 8))))) (ZQ (eVar 3))))))
noncomputable def Zdb:=Z3 2 ZfW
noncomputable def ZfX: PS:=(Zx (Z1 2 (xP (Zl ZT (Zc 1) (Zm 1)))) (Zx (Zap (Zci (ZJ false [0] Zb2 (Zd (Zc 0) (Zd (ZR (Str.ofString "NoSum")) Zq)))) (Z1 2 (Z0 1000 (ZJ false [0] ZaI (Zd (Zc 0) (Zd (Zm 2) Zq))) (xP (Zl Zbu (Zl Zay (Zc 2) (Zl ZbZ (Zm 2) (Zc 1000))) (Zm 1))))) Zaj) (Zx (Z1 3 (Z0 1001 (ZJ false [0] Zcx (Zd (Zc 0) Zq)) (xP (Zat (Zd (Zc 1001) Zq))))) (Zx (Z1 4 (ZJ false [0] ZaI (Zd (Zc 0) (Zd (Zm 1000000) Zq)))) (Zx (Zch (Zb3 (Zd (Zc 2) Zq)) (ZaE 5) (Zx (Zct 3 [] ZaT (ZaZ (Zl ZT (Zat (Zd (Zm 0) (Zd (Zm 1) (Zd (pUn ZcK (Zm 1)) (Zd (Zm 2) (Zd (Zm 0) (Zd (pUn ZcK (Zm 3)) (Zd (Zm 1) (Zd (Zl ZbY (Zm 10) (Zm 9)) Zq))))))))) (Zl Zbd (Zc 4) (Zm 8))))) (Z1 4 (xP (Zl Zb7 (Zc 4) (Zm 8)))))) (Zad (xP (Zc 3))))))))
noncomputable def Zdc: List T→Option (T×List T):=ZaW 2 [(0,2)] ZfX
theorem ZfY: SimX 2 [(0,2)] true Zdb Zdc:=SimX.of (show SU [] [(0,2)] [3] [(0,2)] [(0,2)] true ZfW ZfX from(SU.seq (SU.set (i:=2) (O':=[]) (S':=[(0,2)]) (ZD (Z5 Z6 (Zj 1) (Zn _)) (by decide))) (SU.seq (Zax (ZcV (EX.call (b:=false) (xs:=[0]) (as:=[some 0,none]) (M:=[]) ZcB (XAs.slot (ZC (E.str _) (by decide) XAs.nil)))) (SU.set (i:=2) (O':=[]) (S':=[(0,2)]) (Zan (k:=1000) (C:=fun e=>(Za Zau (Za ZO (eVar 2) (Za ZbX (Zb 2) (e))) (Zb 1))) (e:=(Ze ZP (eCons (eVar 0) (eCons (Zb 2) eNil)))) (Za9 (ZaM (ZaM (Z7) Vl.int) (Zab (by decide))) (fun ρ v H=>rfl)) (EX.call (b:=false) (xs:=[0]) (as:=[some 0,none]) (M:=[]) ZaX (XAs.slot (ZC (Zn _) (by decide) XAs.nil))) (ZD (ZE ZbL (Za4 Za0 (Zj 2) (Za4 Zen (Zn _) (Zj 1000))) (Zn _)) (by decide)) (by decide) (by decide))) SU.next) (SU.seq (Zbg (i:=3) (O':=[3]) (S':=[(0,2)]) (Zan (k:=1001) (C:=fun e=>(ZM (eCons (e) eNil))) (e:=(Ze Zb8 (eCons (eVar 0) eNil))) (Ct.list (Cts.head (Z7) (fun ρ v H=>rfl))) (EX.call (b:=false) (xs:=[0]) (as:=[some 0]) (M:=[]) ZdJ (XAs.slot XAs.nil)) (ZD (E.list (ZI (E.own) ZF (by decide) (by decide))) (by decide)) (by decide) (by decide)) (by decide) (by decide)) (SU.seq (SU.set (i:=4) (O':=[3]) (S':=[(0,2)]) (EX.call (b:=false) (xs:=[0]) (as:=[some 0,none]) (M:=[]) ZaX (XAs.slot (ZC (Zn _) (by decide) XAs.nil)))) (SU.seq (ZiS (Gs.range (ZA (Zj 2) ZF)) (PutOk.one (j:=5)) PutK.one (by decide) (by decide) (SU.seq (Zin (x:=3) (N:=[]) (O':=[3]) (by decide) ZgN (Zej (O':=[]) (E.flat (Z5 Z6 (E.list (ZA (Zn _) (ZA (Zn _) (ZA (Zdu Zdw (Zn _)) (ZA (Zn _) (ZA (Zn _) (ZA (Zdu Zdw (Zn _)) (ZA (Zn _) (ZA (ZE Zfi (Zn _) (Zn _)) ZF))))))))) (ZE ZbM (Zj 4) (Zn _))))) (by decide) (by decide) (by decide)) (SU.set (i:=4) (O':=[3]) (S':=[(0,2)]) (ZD (ZE Zdv (Zj 4) (Zn _)) (by decide))))) (Zas (O':=[3]) (S':=[(0,2)]) (ZD (E.own) (by decide)) (by decide) (by decide)))))))) (by decide) (by decide)
noncomputable def ZfZ: Sm:=Zs (Zy 3 (Ze ZdY (eCons (eVar 0) (eCons (eVar 1) (eCons (eVar 2) eNil))))) (Zs (Zy 4 (Ze Zb8 (eCons (eVar 0) eNil))) (Zs (Zy 5 (Ze Zb8 (eCons (eVar 0) eNil))) (Zs (ZB (Zp (Za oGt (eVar 4) (eVar 5))) (Zs (Zy 6 (eVar 4)) (Zs (Zy 4 (eVar 5)) (Zy 5 (eVar 6)))) ZN) (Zs (ZB (Zp (Ze Zca (eCons (eVar 0) (eCons (Zo (Str.ofString "NoStretch")) eNil)))) (ZQ (ZY (eCons (Zo (Str.ofString "any")) (eCons (eVar 3) (eCons (Za ZO (eVar 5) (Zb 1)) (eCons (Za Zau (eVar 5) (Ze ZP (eCons (eVar 0) (eCons (Zb 2) eNil)))) eNil)))))) ZN) (ZQ (ZY (eCons (Zo (Str.ofString "any")) (eCons (eVar 3) (eCons (Za Zh (ZM (eCons (eVar 4) (eCons (Zba) eNil))) (Za oDiv (Ze ZP (eCons (eVar 0) (eCons (Zb 4) eNil))) (Zb 3))) (eCons (Za Zh (ZM (eCons (eVar 5) (eCons (Zba) eNil))) (Za oDiv (Ze ZP (eCons (eVar 0) (eCons (Zb 4) eNil))) (Zb 3))) eNil))))))))))
noncomputable def Zf0:=Z3 3 ZfZ
noncomputable def Zf1: PS:=(Zx (Z1 3 (ZJ false [0] Zdi (Zd (Zc 0) (Zd (Zc 1) (Zd (Zc 2) Zq))))) (Zx (Z1 4 (ZJ false [0] Zcx (Zd (Zc 0) Zq))) (Zx (Z1 5 (ZJ false [0] Zcx (Zd (Zc 0) Zq))) (Zx (Zap (xB (Zac (Zl qGt (Zc 4) (Zc 5)))) (Zx (Z1 6 (xP (Zc 4))) (Zx (Z1 4 (xP (Zc 5))) (Z1 5 (xP (ZaZ (Zc 6)))))) Zaj) (Zx (Zap (Zci (ZJ false [0] Zb2 (Zd (Zc 0) (Zd (ZR (Str.ofString "NoStretch")) Zq)))) (Zad (Z0 1000 (xP (pFl (Zl Zay (Zc 5) (Zm 1)))) (Z0 1001 (ZJ false [0] ZaI (Zd (Zc 0) (Zd (Zm 2) Zq))) (xP (Zbt (Zd (ZR (Str.ofString "any")) (Zd (Zc 3) (Zd (Zc 1000) (Zd (Zl Zbu (Zc 5) (Zc 1001)) Zq))))))))) Zaj) (Zad (Z0 1002 (xP (Zat (Zd (Zc 4) (Zd (Zfs) Zq)))) (Z0 1003 (ZJ false [0] ZaI (Zd (Zc 0) (Zd (Zm 4) Zq))) (Z0 1004 (xP (Zl ZT (Zc 1002) (Zl Zb7 (Zc 1003) (Zm 3)))) (Z0 1005 (xP ((Zat (Zd (ZaZ (Zc 5)) (Zd (Zfs) Zq))))) (Z0 1006 (ZJ false [0] ZaI (Zd (Zc 0) (Zd (Zm 4) Zq))) (xP (Zbt (Zd (ZR (Str.ofString "any")) (Zd (Zc 3) (Zd (ZaZ (Zc 1004)) (Zd (ZaZ (Zl ZT (Zc 1005) (Zl Zb7 (Zc 1006) (Zm 3)))) Zq)))))))))))))))))
noncomputable def ZeH: List T→Option (T×List T):=ZaW 3 [(0,2)] Zf1
theorem ZjA: SimX 3 [(0,2)] true Zf0 ZeH:=SimX.of (show SU [] [(0,2)] [3,5] [(0,2)] [(0,2)] true ZfZ Zf1 from(SU.seq (Zbg (i:=3) (O':=[3]) (S':=[(0,2)]) (EX.call (b:=false) (xs:=[0]) (as:=[some 0,none,none]) (M:=[1,2]) Zgq (XAs.slot (ZC (Zj 1) (by decide) (ZC (Zj 2) (by decide) XAs.nil)))) (by decide) (by decide)) (SU.seq (SU.set (i:=4) (O':=[3]) (S':=[(0,2)]) (EX.call (b:=false) (xs:=[0]) (as:=[some 0]) (M:=[]) ZdJ (XAs.slot XAs.nil))) (SU.seq (Zbg (i:=5) (O':=[3,5]) (S':=[(0,2)]) (EX.call (b:=false) (xs:=[0]) (as:=[some 0]) (M:=[]) ZdJ (XAs.slot XAs.nil)) (by decide) (by decide)) (SU.seq (Zax (ZaC (Zah (ZE Zc4 (Zj 4) (Zj 5)))) (SU.seq (SU.set (i:=6) (O':=[3,5]) (S':=[(0,2)]) (ZD (Zj 4) (by decide))) (SU.seq (SU.set (i:=4) (O':=[3]) (S':=[(0,2)]) (ZD (Zj 5) (by decide))) (Zbg (i:=5) (O':=[3,5]) (S':=[(0,2)]) (ZD (Zej (O':=[]) (E.flat (Zj 6))) (by decide)) (by decide) (by decide)))) SU.next) (SU.seq (Zax (ZcV (EX.call (b:=false) (xs:=[0]) (as:=[some 0,none]) (M:=[]) ZcB (XAs.slot (ZC (E.str _) (by decide) XAs.nil)))) (Zas (O':=[3,5]) (S':=[(0,2)]) (Zan (k:=1000) (C:=fun e=>(ZY (eCons (Zo (Str.ofString "any")) (eCons (eVar 3) (eCons (e) (eCons (Za Zau (eVar 5) (Ze ZP (eCons (eVar 0) (eCons (Zb 2) eNil)))) eNil)))))) (e:=(Za ZO (eVar 5) (Zb 1))) (Ct.tup (Cts.tail (Cts.tail (Cts.head (Z7) (fun ρ v H=>rfl)) (Zab (by decide))) Vl.str)) (ZD (Zdq Za0 (Zj 5) (Zn _)) (by decide)) (Zan (k:=1001) (C:=fun e=>(ZY (eCons (Zo (Str.ofString "any")) (eCons (eVar 3) (eCons (eVar 1000) (eCons (Za Zau (eVar 5) (e)) eNil)))))) (e:=(Ze ZP (eCons (eVar 0) (eCons (Zb 2) eNil)))) (Ct.tup (Cts.tail (Cts.tail (Cts.tail (Cts.head (ZaM (Z7) (Zab (by decide))) (fun ρ v H=>rfl)) (Zab (by decide))) (Zab (by decide))) Vl.str)) (EX.call (b:=false) (xs:=[0]) (as:=[some 0,none]) (M:=[]) ZaX (XAs.slot (ZC (Zn _) (by decide) XAs.nil))) (ZD (E.tup (ZI (E.str _) (ZI (E.own) (ZI (E.own) (ZI (ZE ZbL (Zj 5) (Zj 1001)) ZF (by decide) (by decide)) (by decide) (by decide)) (by decide) (by decide)) (by decide) (by decide))) (by decide)) (by decide) (by decide)) (by decide) (by decide)) (by decide) (by decide)) SU.next) (Zas (O':=[3,5]) (S':=[(0,2)]) (Zcm (k:=1002) (C:=fun e=>(ZY (eCons (Zo (Str.ofString "any")) (eCons (eVar 3) (eCons (Za Zh (e) (Za oDiv (Ze ZP (eCons (eVar 0) (eCons (Zb 4) eNil))) (Zb 3))) (eCons (Za Zh (ZM (eCons (eVar 5) (eCons (Zba) eNil))) (Za oDiv (Ze ZP (eCons (eVar 0) (eCons (Zb 4) eNil))) (Zb 3))) eNil)))))) (e:=(ZM (eCons (eVar 4) (eCons (Zba) eNil)))) (Ct.tup (Cts.tail (Cts.tail (Cts.head (Za9 (Z7) (fun ρ v H=>rfl)) (fun ρ v H=>rfl)) (Zab (by decide))) Vl.str)) (ZD (E.list (ZA (Zj 4) (ZA (ZiD) ZF))) (by decide)) (Zan (k:=1003) (C:=fun e=>(ZY (eCons (Zo (Str.ofString "any")) (eCons (eVar 3) (eCons (Za Zh (eVar 1002) (Za oDiv (e) (Zb 3))) (eCons (Za Zh (ZM (eCons (eVar 5) (eCons (Zba) eNil))) (Za oDiv (Ze ZP (eCons (eVar 0) (eCons (Zb 4) eNil))) (Zb 3))) eNil)))))) (e:=(Ze ZP (eCons (eVar 0) (eCons (Zb 4) eNil)))) (Ct.tup (Cts.tail (Cts.tail (Cts.head (ZaM (Za9 (Z7) (fun ρ v H=>rfl)) (Zab (by decide))) (fun ρ v H=>rfl)) (Zab (by decide))) Vl.str)) (EX.call (b:=false) (xs:=[0]) (as:=[some 0,none]) (M:=[]) ZaX (XAs.slot (ZC (Zn _) (by decide) XAs.nil))) (Zcm (k:=1004) (C:=fun e=>(ZY (eCons (Zo (Str.ofString "any")) (eCons (eVar 3) (eCons (e) (eCons (Za Zh (ZM (eCons (eVar 5) (eCons (Zba) eNil))) (Za oDiv (Ze ZP (eCons (eVar 0) (eCons (Zb 4) eNil))) (Zb 3))) eNil)))))) (e:=(Za Zh (eVar 1002) (Za oDiv (eVar 1003) (Zb 3)))) (Ct.tup (Cts.tail (Cts.tail (Cts.head (Z7) (fun ρ v H=>rfl)) (Zab (by decide))) Vl.str)) (ZD (Z5 Z6 (Zj 1002) (ZE Zdv (Zj 1003) (Zn _))) (by decide)) (Zan (k:=1005) (C:=fun e=>(ZY (eCons (Zo (Str.ofString "any")) (eCons (eVar 3) (eCons (eVar 1004) (eCons (Za Zh (e) (Za oDiv (Ze ZP (eCons (eVar 0) (eCons (Zb 4) eNil))) (Zb 3))) eNil)))))) (e:=(ZM (eCons (eVar 5) (eCons (Zba) eNil)))) (Ct.tup (Cts.tail (Cts.tail (Cts.tail (Cts.head (Za9 (Z7) (fun ρ v H=>rfl)) (fun ρ v H=>rfl)) (Zab (by decide))) (Zab (by decide))) Vl.str)) (ZD ((E.list (ZI (E.flat (Zj 5)) (ZI (ZiD) ZF (by decide) (by decide)) (by decide) (by decide)))) (by decide)) (Zan (k:=1006) (C:=fun e=>(ZY (eCons (Zo (Str.ofString "any")) (eCons (eVar 3) (eCons (eVar 1004) (eCons (Za Zh (eVar 1005) (Za oDiv (e) (Zb 3))) eNil)))))) (e:=(Ze ZP (eCons (eVar 0) (eCons (Zb 4) eNil)))) (Ct.tup (Cts.tail (Cts.tail (Cts.tail (Cts.head (ZaM (Za9 (Z7) (fun ρ v H=>rfl)) (Zab (by decide))) (fun ρ v H=>rfl)) (Zab (by decide))) (Zab (by decide))) Vl.str)) (EX.call (b:=false) (xs:=[0]) (as:=[some 0,none]) (M:=[]) ZaX (XAs.slot (ZC (Zn _) (by decide) XAs.nil))) (ZD (E.tup (ZI (E.str _) (ZI (E.own) (ZI (E.flat (Zj 1004)) (ZI (E.flat (Z5 Z6 (Zj 1005) (ZE Zdv (Zj 1006) (Zn _)))) ZF (by decide) (by decide)) (by decide) (by decide)) (by decide) (by decide)) (by decide) (by decide))) (by decide)) (by decide) (by decide)) (by decide) (by decide)) (by decide) (by decide) (by decide) (by decide)) (by decide) (by decide)) (by decide) (by decide) (by decide) (by decide)) (by decide) (by decide)))))))) (by decide) (by decide)
noncomputable def ZfL: Sm:=Zs (Zy 4 (Ze ZdY (eCons (eVar 0) (eCons (eVar 2) (eCons (eVar 3) eNil))))) (Zs (Zy 5 (Ze ZP (eCons (eVar 0) (eCons (Ze Zei (eCons (Zb 1) (eCons (Ze Z2 (eCons (eVar 1) eNil)) eNil))) eNil)))) (Zs (ZB (ZZ (Zp (Za ZU (Ze Z2 (eCons (eVar 1) eNil)) (Zb 0))) (ZZ (Zp (Ze Zca (eCons (eVar 0) (eCons (Zo (Str.ofString "NoCall")) eNil)))) ZaD)) (ZQ (ZY (eCons (Zo (Str.ofString "call")) (eCons (eVar 4) (eCons (Za Zh (ZM (eCons (Ze Z2 (eCons (eVar 1) eNil)) (eCons (eUn ZbN (Zb 1)) (eCons (Za ZO (Ze Z2 (eCons (eVar 1) eNil)) (Zb 1)) eNil)))) (Ze ZP (eCons (eVar 0) (eCons (Zb 3) eNil)))) (eCons (ZM eNil) eNil)))))) ZN) (Zs (Zy 6 (Za Zh (Za Zh (eVar 1) (eVar 5)) (Zb 0))) (Zs (ZB (Zp (Ze Zca (eCons (eVar 0) (eCons (Zo (Str.ofString "NoCall")) eNil)))) (Zy 6 (Za ZO (eVar 6) (Za Zh (ZM (eCons (Zb 1) (eCons (eUn ZbN (Zb 1)) eNil))) (Ze Zcd (eCons (eVar 6) (eCons (Ze ZP (eCons (eVar 0) (eCons (Zb 2) eNil))) eNil)))))) ZN) (ZQ (ZY (eCons (Zo (Str.ofString "call")) (eCons (eVar 4) (eCons (eVar 5) (eCons (ZaS (ZaN (eCons (eVar 6) eNil)) (ZH 100) ZaH (Ze Zdb (eCons (eVar 0) (eCons (eVar 2) eNil)))) eNil))))))))))
noncomputable def ZfM:=Z3 4 ZfL
noncomputable def ZfN: PS:=(Zx (Z1 4 (ZJ false [0] Zdi (Zd (Zc 0) (Zd (Zc 2) (Zd (Zc 3) Zq))))) (Zx (Z1 5 (ZJ false [0] ZaI (Zd (Zc 0) (Zd (Zak Zfj (Zd (Zm 1) (Zd (Zak ZbE (Zd (Zc 1) Zq)) Zq))) Zq)))) (Zx (Zap (xOr (xB (Zac (Zl qEq (Zak ZbE (Zd (Zc 1) Zq)) (Zm 0)))) (xOr (Zci (ZJ false [0] Zb2 (Zd (Zc 0) (Zd (ZR (Str.ofString "NoCall")) Zq)))) (xB Zeb))) (Zad (Z0 1000 (xP (Zat (Zd (Zak ZbE (Zd (Zc 1) Zq)) (Zd (pUn ZcK (Zm 1)) (Zd (Zl Zay (Zak ZbE (Zd (Zc 1) Zq)) (Zm 1)) Zq))))) (Z0 1001 (ZJ false [0] ZaI (Zd (Zc 0) (Zd (Zm 3) Zq))) (xP (Zbt (Zd (ZR (Str.ofString "call")) (Zd (Zc 4) (Zd (ZaZ (Zl ZT (Zc 1000) (Zc 1001))) (Zd (Zat Zq) Zq))))))))) Zaj) (Zx (Z1 6 (xP (Zl ZT (Zl ZT (Zc 1) (Zc 5)) (Zm 0)))) (Zx (Zap (Zci (ZJ false [0] Zb2 (Zd (Zc 0) (Zd (ZR (Str.ofString "NoCall")) Zq)))) (Z1 6 (Z0 1002 (xP (Zat (Zd (Zm 1) (Zd (pUn ZcK (Zm 1)) Zq)))) (Z0 1003 (ZJ false [0] ZaI (Zd (Zc 0) (Zd (Zm 2) Zq))) (xP (Zl Zay (Zc 6) (Zl ZT (Zc 1002) (Zak Zel (Zd (Zc 6) (Zd (Zc 1003) Zq))))))))) Zaj) (Zad (Z0 1004 (Zfo (Zb3 (Zd (Zc 6) Zq)) 100 (ZJ false [0] Zdc (Zd (Zc 0) (Zd (Zc 2) Zq)))) (xP (Zbt (Zd (ZR (Str.ofString "call")) (Zd (Zc 4) (Zd (Zc 5) (Zd (Zc 1004) Zq)))))))))))))
noncomputable def ZeE: List T→Option (T×List T):=ZaW 4 [(0,2)] ZfN
theorem Zjs: SimX 4 [(0,2)] true ZfM ZeE:=SimX.of (show SU [] [(0,2)] [4,5] [(0,2)] [(0,2)] true ZfL ZfN from(SU.seq (Zbg (i:=4) (O':=[4]) (S':=[(0,2)]) (EX.call (b:=false) (xs:=[0]) (as:=[some 0,none,none]) (M:=[2,3]) Zgq (XAs.slot (ZC (Zj 2) (by decide) (ZC (Zj 3) (by decide) XAs.nil)))) (by decide) (by decide)) (SU.seq (Zbg (i:=5) (O':=[4,5]) (S':=[(0,2)]) (EX.call (b:=false) (xs:=[0]) (as:=[some 0,none]) (M:=[]) ZaX (XAs.slot (ZC (Zbf ZlN (ZA (Zn _) (ZA (Zbf Zb5 (ZA (Zj 1) ZF)) ZF))) (by decide) XAs.nil))) (by decide) (by decide)) (SU.seq (Zax (Zja (ZaC (Zah (ZE ZaV (Zbf Zb5 (ZA (Zj 1) ZF)) (Zn _)))) (Zja (ZcV (EX.call (b:=false) (xs:=[0]) (as:=[some 0,none]) (M:=[]) ZcB (XAs.slot (ZC (E.str _) (by decide) XAs.nil)))) (ZaC Zgx))) (Zas (O':=[4,5]) (S':=[(0,2)]) (Zcm (k:=1000) (C:=fun e=>(ZY (eCons (Zo (Str.ofString "call")) (eCons (eVar 4) (eCons (Za Zh (e) (Ze ZP (eCons (eVar 0) (eCons (Zb 3) eNil)))) (eCons (ZM eNil) eNil)))))) (e:=(ZM (eCons (Ze Z2 (eCons (eVar 1) eNil)) (eCons (eUn ZbN (Zb 1)) (eCons (Za ZO (Ze Z2 (eCons (eVar 1) eNil)) (Zb 1)) eNil))))) (Ct.tup (Cts.tail (Cts.tail (Cts.head (Za9 (Z7) (fun ρ v H=>rfl)) (fun ρ v H=>rfl)) (Zab (by decide))) Vl.str)) (ZD (E.list (ZA (Zbf Zb5 (ZA (Zj 1) ZF)) (ZA (Zdu Zdw (Zn _)) (ZA (Za4 Za0 (Zbf Zb5 (ZA (Zj 1) ZF)) (Zn _)) ZF)))) (by decide)) (Zan (k:=1001) (C:=fun e=>(ZY (eCons (Zo (Str.ofString "call")) (eCons (eVar 4) (eCons (Za Zh (eVar 1000) (e)) (eCons (ZM eNil) eNil)))))) (e:=(Ze ZP (eCons (eVar 0) (eCons (Zb 3) eNil)))) (Ct.tup (Cts.tail (Cts.tail (Cts.head (ZaM (Z7) (Zab (by decide))) (fun ρ v H=>rfl)) (Zab (by decide))) Vl.str)) (EX.call (b:=false) (xs:=[0]) (as:=[some 0,none]) (M:=[]) ZaX (XAs.slot (ZC (Zn _) (by decide) XAs.nil))) (ZD (E.tup (ZI (E.str _) (ZI (E.own) (ZI (E.flat (Z5 Z6 (Zj 1000) (Zj 1001))) (ZI (E.list ZF) ZF (by decide) (by decide)) (by decide) (by decide)) (by decide) (by decide)) (by decide) (by decide))) (by decide)) (by decide) (by decide)) (by decide) (by decide) (by decide) (by decide)) (by decide) (by decide)) SU.next) (SU.seq (SU.set (i:=6) (O':=[4,5]) (S':=[(0,2)]) (ZD (Z5 Z6 (Z5 Z6 (Zj 1) (Zj 5)) (Zn _)) (by decide))) (SU.seq (Zax (ZcV (EX.call (b:=false) (xs:=[0]) (as:=[some 0,none]) (M:=[]) ZcB (XAs.slot (ZC (E.str _) (by decide) XAs.nil)))) (SU.set (i:=6) (O':=[4,5]) (S':=[(0,2)]) (Zcm (k:=1002) (C:=fun e=>(Za ZO (eVar 6) (Za Zh (e) (Ze Zcd (eCons (eVar 6) (eCons (Ze ZP (eCons (eVar 0) (eCons (Zb 2) eNil))) eNil)))))) (e:=(ZM (eCons (Zb 1) (eCons (eUn ZbN (Zb 1)) eNil)))) (ZaM (Za9 (Z7) (fun ρ v H=>rfl)) (Zab (by decide))) (ZD (E.list (ZA (Zn _) (ZA (Zdu Zdw (Zn _)) ZF))) (by decide)) (Zan (k:=1003) (C:=fun e=>(Za ZO (eVar 6) (Za Zh (eVar 1002) (Ze Zcd (eCons (eVar 6) (eCons (e) eNil)))))) (e:=(Ze ZP (eCons (eVar 0) (eCons (Zb 2) eNil)))) (ZaM (ZaM (Ct.call (Cts.tail (Cts.head (Z7) (fun ρ v H=>rfl)) (Zab (by decide)))) (Zab (by decide))) (Zab (by decide))) (EX.call (b:=false) (xs:=[0]) (as:=[some 0,none]) (M:=[]) ZaX (XAs.slot (ZC (Zn _) (by decide) XAs.nil))) (ZD (Za4 Za0 (Zj 6) (Z5 Z6 (Zj 1002) (Zbf ZiG (ZA (Zj 6) (ZA (Zj 1003) ZF))))) (by decide)) (by decide) (by decide)) (by decide) (by decide) (by decide) (by decide))) SU.next) (Zas (O':=[4,5]) (S':=[(0,2)]) (Zan (k:=1004) (C:=fun e=>(ZY (eCons (Zo (Str.ofString "call")) (eCons (eVar 4) (eCons (eVar 5) (eCons (e) eNil)))))) (e:=(ZaS (ZaN (eCons (eVar 6) eNil)) (ZH 100) ZaH (Ze Zdb (eCons (eVar 0) (eCons (eVar 2) eNil))))) (Ct.tup (Cts.tail (Cts.tail (Cts.tail (Cts.head (Z7) (fun ρ v H=>rfl)) (Zab (by decide))) (Zab (by decide))) Vl.str)) (EX.comp (Gs.range (ZA (Zj 6) ZF)) (by decide) (by decide) (EX.call (b:=false) (xs:=[0]) (as:=[some 0,none]) (M:=[2]) ZfY (XAs.slot (ZC (Zj 2) (by decide) XAs.nil)))) (ZD (E.tup (ZI (E.str _) (ZI (E.own) (ZI (E.own) (ZI (E.own) ZF (by decide) (by decide)) (by decide) (by decide)) (by decide) (by decide)) (by decide) (by decide))) (by decide)) (by decide) (by decide)) (by decide) (by decide)))))))) (by decide) (by decide)
noncomputable def ZfO: Sm:=Zs (ZB (Zp (Ze Zca (eCons (eVar 0) (eCons (Zo (Str.ofString "NoStep")) eNil)))) (ZQ (Za Zh (ZM (eCons (Zb 0) (eCons (Za Zau (Zb 0) (Ze Zcr (eCons (Ze Zb8 (eCons (eVar 0) eNil)) eNil))) eNil))) (Ze ZP (eCons (eVar 0) (eCons (Zb 2) eNil))))) ZN) (ZQ (Za ZO (Zb 1) (Ze Zcr (eCons (Ze Zb8 (eCons (eVar 0) eNil)) eNil))))
noncomputable def Zc9:=Z3 1 ZfO
noncomputable def ZfP: PS:=(Zx (Zap (Zci (ZJ false [0] Zb2 (Zd (Zc 0) (Zd (ZR (Str.ofString "NoStep")) Zq)))) (Zad (Z0 1000 (ZJ false [0] Zcx (Zd (Zc 0) Zq)) (Z0 1001 (xP (Zat (Zd (Zm 0) (Zd (Zl Zbu (Zm 0) (Zak Zeu (Zd (Zc 1000) Zq))) Zq)))) (Z0 1002 (ZJ false [0] ZaI (Zd (Zc 0) (Zd (Zm 2) Zq))) (xP (ZaZ (Zl ZT (Zc 1001) (Zc 1002)))))))) Zaj) (Zad (Z0 1003 (ZJ false [0] Zcx (Zd (Zc 0) Zq)) (xP (pFl (Zl Zay (Zm 1) (Zak Zeu (Zd (Zc 1003) Zq))))))))
noncomputable def ZdN: List T→Option (T×List T):=ZaW 1 [(0,2)] ZfP
theorem Zg8: SimX 1 [(0,2)] true Zc9 ZdN:=SimX.of (show SU [] [(0,2)] [] [(0,2)] [(0,2)] true ZfO ZfP from(SU.seq (Zax (ZcV (EX.call (b:=false) (xs:=[0]) (as:=[some 0,none]) (M:=[]) ZcB (XAs.slot (ZC (E.str _) (by decide) XAs.nil)))) (Zas (O':=[]) (S':=[(0,2)]) (Zan (k:=1000) (C:=fun e=>(Za Zh (ZM (eCons (Zb 0) (eCons (Za Zau (Zb 0) (Ze Zcr (eCons (e) eNil))) eNil))) (Ze ZP (eCons (eVar 0) (eCons (Zb 2) eNil))))) (e:=(Ze Zb8 (eCons (eVar 0) eNil))) (Za9 (Ct.list (Cts.tail (Cts.head (ZaM (Ct.call (Cts.head (Z7) (fun ρ v H=>rfl))) Vl.int) (fun ρ v H=>rfl)) Vl.int)) (fun ρ v H=>rfl)) (EX.call (b:=false) (xs:=[0]) (as:=[some 0]) (M:=[]) ZdJ (XAs.slot XAs.nil)) (Zcm (k:=1001) (C:=fun e=>(Za Zh (e) (Ze ZP (eCons (eVar 0) (eCons (Zb 2) eNil))))) (e:=(ZM (eCons (Zb 0) (eCons (Za Zau (Zb 0) (Ze Zcr (eCons (eVar 1000) eNil))) eNil)))) (Za9 (Z7) (fun ρ v H=>rfl)) (ZD (E.list (ZA (Zn _) (ZA (ZE ZbL (Zn _) (Zbf Zi6 (ZA (Zj 1000) ZF))) ZF))) (by decide)) (Zan (k:=1002) (C:=fun e=>(Za Zh (eVar 1001) (e))) (e:=(Ze ZP (eCons (eVar 0) (eCons (Zb 2) eNil)))) (ZaM (Z7) (Zab (by decide))) (EX.call (b:=false) (xs:=[0]) (as:=[some 0,none]) (M:=[]) ZaX (XAs.slot (ZC (Zn _) (by decide) XAs.nil))) (ZD (E.flat (Z5 Z6 (Zj 1001) (Zj 1002))) (by decide)) (by decide) (by decide)) (by decide) (by decide) (by decide) (by decide)) (by decide) (by decide)) (by decide) (by decide)) SU.next) (Zas (O':=[]) (S':=[(0,2)]) (Zan (k:=1003) (C:=fun e=>(Za ZO (Zb 1) (Ze Zcr (eCons (e) eNil)))) (e:=(Ze Zb8 (eCons (eVar 0) eNil))) (ZaM (Ct.call (Cts.head (Z7) (fun ρ v H=>rfl))) Vl.int) (EX.call (b:=false) (xs:=[0]) (as:=[some 0]) (M:=[]) ZdJ (XAs.slot XAs.nil)) (ZD (Zdq Za0 (Zn _) (Zbf Zi6 (ZA (Zj 1003) ZF))) (by decide)) (by decide) (by decide)) (by decide) (by decide)))) (by decide) (by decide)
noncomputable def ZfA: Sm:=Zs (ZB (Zp (Za ZU (eVar 4) (Zo (Str.ofString "any")))) (ZQ (Ze Zf0 (eCons (eVar 0) (eCons (eVar 2) (eCons (eVar 3) eNil))))) ZN) (Zs (ZB (Zp (Za ZU (eVar 4) (Zo (Str.ofString "call")))) (ZQ (Ze ZfM (eCons (eVar 0) (eCons (eVar 1) (eCons (eVar 2) (eCons (eVar 3) eNil)))))) ZN) (Zs (Zy 5 (Ze ZdY (eCons (eVar 0) (eCons (eVar 2) (eCons (eVar 3) eNil))))) (Zs (Zy 6 (Ze Zdb (eCons (eVar 0) (eCons (eVar 2) eNil)))) (Zs (ZB (Zp (Za ZU (eVar 4) (Zo (Str.ofString "set")))) (ZQ (ZY (eCons (Zo (Str.ofString "set")) (eCons (eVar 5) (eCons (eVar 6) eNil))))) ZN) (ZQ (ZY (eCons (eVar 4) (eCons (eVar 5) (eCons (eVar 6) (eCons (Ze Zc9 (eCons (eVar 0) eNil)) eNil))))))))))
noncomputable def ZfB:=Z3 5 ZfA
noncomputable def ZfC: PS:=(Zx (Zap (xB (Zac (Zl qEq (Zc 4) (ZR (Str.ofString "any"))))) (Zad (ZJ false [0] ZeH (Zd (Zc 0) (Zd (Zc 2) (Zd (Zc 3) Zq))))) Zaj) (Zx (Zap (xB (Zac (Zl qEq (Zc 4) (ZR (Str.ofString "call"))))) (Zad (ZJ false [0] ZeE (Zd (Zc 0) (Zd (Zc 1) (Zd (Zc 2) (Zd (Zc 3) Zq)))))) Zaj) (Zx (Z1 5 (ZJ false [0] Zdi (Zd (Zc 0) (Zd (Zc 2) (Zd (Zc 3) Zq))))) (Zx (Z1 6 (ZJ false [0] Zdc (Zd (Zc 0) (Zd (Zc 2) Zq)))) (Zx (Zap (xB (Zac (Zl qEq (Zc 4) (ZR (Str.ofString "set"))))) (Zad (xP (Zbt (Zd (ZR (Str.ofString "set")) (Zd (Zc 5) (Zd (Zc 6) Zq)))))) Zaj) (Zad (Z0 1000 (ZJ false [0] ZdN (Zd (Zc 0) Zq)) (xP (Zbt (Zd (ZaZ (Zc 4)) (Zd (Zc 5) (Zd (Zc 6) (Zd (Zc 1000) Zq)))))))))))))
noncomputable def ZeD: List T→Option (T×List T):=ZaW 5 [(0,2)] ZfC
theorem Zjq: SimX 5 [(0,2)] true ZfB ZeD:=SimX.of (show SU [] [(0,2)] [5,6] [(0,2)] [(0,2)] true ZfA ZfC from(SU.seq (Zax (ZaC (Zah (ZE ZaV (Zj 4) (E.str _)))) (Zas (O':=[]) (S':=[(0,2)]) (EX.call (b:=false) (xs:=[0]) (as:=[some 0,none,none]) (M:=[2,3]) ZjA (XAs.slot (ZC (Zj 2) (by decide) (ZC (Zj 3) (by decide) XAs.nil)))) (by decide) (by decide)) SU.next) (SU.seq (Zax (ZaC (Zah (ZE ZaV (Zj 4) (E.str _)))) (Zas (O':=[]) (S':=[(0,2)]) (EX.call (b:=false) (xs:=[0]) (as:=[some 0,none,none,none]) (M:=[1,2,3]) Zjs (XAs.slot (ZC (Zj 1) (by decide) (ZC (Zj 2) (by decide) (ZC (Zj 3) (by decide) XAs.nil))))) (by decide) (by decide)) SU.next) (SU.seq (Zbg (i:=5) (O':=[5]) (S':=[(0,2)]) (EX.call (b:=false) (xs:=[0]) (as:=[some 0,none,none]) (M:=[2,3]) Zgq (XAs.slot (ZC (Zj 2) (by decide) (ZC (Zj 3) (by decide) XAs.nil)))) (by decide) (by decide)) (SU.seq (Zbg (i:=6) (O':=[5,6]) (S':=[(0,2)]) (EX.call (b:=false) (xs:=[0]) (as:=[some 0,none]) (M:=[2]) ZfY (XAs.slot (ZC (Zj 2) (by decide) XAs.nil))) (by decide) (by decide)) (SU.seq (Zax (ZaC (Zah (ZE ZaV (Zj 4) (E.str _)))) (Zas (O':=[5,6]) (S':=[(0,2)]) (ZD (E.tup (ZI (E.str _) (ZI (E.own) (ZI (E.own) ZF (by decide) (by decide)) (by decide) (by decide)) (by decide) (by decide))) (by decide)) (by decide) (by decide)) SU.next) (Zas (O':=[5,6]) (S':=[(0,2)]) (Zan (k:=1000) (C:=fun e=>(ZY (eCons (eVar 4) (eCons (eVar 5) (eCons (eVar 6) (eCons (e) eNil)))))) (e:=(Ze Zc9 (eCons (eVar 0) eNil))) (Ct.tup (Cts.tail (Cts.tail (Cts.tail (Cts.head (Z7) (fun ρ v H=>rfl)) (Zab (by decide))) (Zab (by decide))) (Zab (by decide)))) (EX.call (b:=false) (xs:=[0]) (as:=[some 0]) (M:=[]) Zg8 (XAs.slot XAs.nil)) (ZD (E.tup (ZI (E.flat (Zj 4)) (ZI (E.own) (ZI (E.own) (ZI (E.own) ZF (by decide) (by decide)) (by decide) (by decide)) (by decide) (by decide)) (by decide) (by decide))) (by decide)) (by decide) (by decide)) (by decide) (by decide)))))))) (by decide) (by decide)
noncomputable def ZfD: Sm:=Zs (Zy 2 (Za Zh (ZM (eCons (Zo (Str.ofString "under")) (eCons (Zo (Str.ofString "same")) (eCons (Zo (Str.ofString "even")) eNil)))) (Ze ZP (eCons (eVar 0) (eCons (Zb 3) eNil))))) (Zs (Zy 3 (Ze Zdb (eCons (eVar 0) (eCons (eVar 1) eNil)))) (Zs (ZB (Zp (Za ZU (eVar 2) (Zo (Str.ofString "even")))) (ZQ (ZY (eCons (eVar 2) (eCons (eVar 3) (eCons (Ze Zc9 (eCons (eVar 0) eNil)) eNil))))) ZN) (ZQ (ZY (eCons (eVar 2) (eCons (eVar 3) eNil))))))
noncomputable def ZcO:=Z3 2 ZfD
noncomputable def ZfE: PS:=(Zx (Z1 2 (Z0 1000 (xP (Zat (Zd (ZR (Str.ofString "under")) (Zd (ZR (Str.ofString "same")) (Zd (ZR (Str.ofString "even")) Zq))))) (Z0 1001 (ZJ false [0] ZaI (Zd (Zc 0) (Zd (Zm 3) Zq))) (xP (ZaZ (Zl ZT (Zc 1000) (Zc 1001))))))) (Zx (Z1 3 (ZJ false [0] Zdc (Zd (Zc 0) (Zd (Zc 1) Zq)))) (Zx (Zap (xB (Zac (Zl qEq (Zc 2) (ZR (Str.ofString "even"))))) (Zad (Z0 1002 (ZJ false [0] ZdN (Zd (Zc 0) Zq)) (xP (Zbt (Zd (Zc 2) (Zd (Zc 3) (Zd (Zc 1002) Zq))))))) Zaj) (Zad (xP (Zbt (Zd (Zc 2) (Zd (Zc 3) Zq))))))))
noncomputable def Zc7: List T→Option (T×List T):=ZaW 2 [(0,2)] ZfE
theorem ZfF: SimX 2 [(0,2)] true ZcO Zc7:=SimX.of (show SU [] [(0,2)] [2,3] [(0,2)] [(0,2)] true ZfD ZfE from(SU.seq (Zbg (i:=2) (O':=[2]) (S':=[(0,2)]) (Zcm (k:=1000) (C:=fun e=>(Za Zh (e) (Ze ZP (eCons (eVar 0) (eCons (Zb 3) eNil))))) (e:=(ZM (eCons (Zo (Str.ofString "under")) (eCons (Zo (Str.ofString "same")) (eCons (Zo (Str.ofString "even")) eNil))))) (Za9 (Z7) (fun ρ v H=>rfl)) (ZD (E.list (ZA (E.str _) (ZA (E.str _) (ZA (E.str _) ZF)))) (by decide)) (Zan (k:=1001) (C:=fun e=>(Za Zh (eVar 1000) (e))) (e:=(Ze ZP (eCons (eVar 0) (eCons (Zb 3) eNil)))) (ZaM (Z7) (Zab (by decide))) (EX.call (b:=false) (xs:=[0]) (as:=[some 0,none]) (M:=[]) ZaX (XAs.slot (ZC (Zn _) (by decide) XAs.nil))) (ZD (E.flat (Z5 Z6 (Zj 1000) (Zj 1001))) (by decide)) (by decide) (by decide)) (by decide) (by decide) (by decide) (by decide)) (by decide) (by decide)) (SU.seq (Zbg (i:=3) (O':=[2,3]) (S':=[(0,2)]) (EX.call (b:=false) (xs:=[0]) (as:=[some 0,none]) (M:=[1]) ZfY (XAs.slot (ZC (Zj 1) (by decide) XAs.nil))) (by decide) (by decide)) (SU.seq (Zax (ZaC (Zah (ZE ZaV (Zj 2) (E.str _)))) (Zas (O':=[2,3]) (S':=[(0,2)]) (Zan (k:=1002) (C:=fun e=>(ZY (eCons (eVar 2) (eCons (eVar 3) (eCons (e) eNil))))) (e:=(Ze Zc9 (eCons (eVar 0) eNil))) (Ct.tup (Cts.tail (Cts.tail (Cts.head (Z7) (fun ρ v H=>rfl)) (Zab (by decide))) (Zab (by decide)))) (EX.call (b:=false) (xs:=[0]) (as:=[some 0]) (M:=[]) Zg8 (XAs.slot XAs.nil)) (ZD (E.tup (ZI (E.own) (ZI (E.own) (ZI (E.own) ZF (by decide) (by decide)) (by decide) (by decide)) (by decide) (by decide))) (by decide)) (by decide) (by decide)) (by decide) (by decide)) SU.next) (Zas (O':=[2,3]) (S':=[(0,2)]) (ZD (E.tup (ZI (E.own) (ZI (E.own) ZF (by decide) (by decide)) (by decide) (by decide))) (by decide)) (by decide) (by decide)))))) (by decide) (by decide)
noncomputable def Zft(F:List V→Hp→Option (V×Hp)): Sm:=Zs (ZcJ (Za Zau (Za Zh (eVar 0) (Zb 2)) (Zb 1)) (eVar 0) (Zb 2)) (Zs (Zy 5 (Za Zh (ZM (eCons (Zo (Str.ofString "set")) (eCons (Zo (Str.ofString "part")) (eCons (Zo (Str.ofString "rest")) (eCons (Zo (Str.ofString "any")) (eCons (Zo (Str.ofString "call")) (eCons (Zo (Str.ofString "say")) (eCons (Zo (Str.ofString "if")) (eCons (Zo (Str.ofString "while")) eNil))))))))) (Ze ZP (eCons (eVar 0) (eCons (Zb 8) eNil))))) (Zs (ZB (Za1 (Zp (Za ZU (Za Zh (eVar 2) (Zb 0)) (Za Zh (eVar 2) (Zb 1)))) (Za1 (ZdA (Zp (eVar 3))) ZaH)) (Zy 5 (Za Zh (ZM (eCons (Zo (Str.ofString "say")) (eCons (Zo (Str.ofString "if")) (eCons (Zo (Str.ofString "while")) eNil)))) (Ze ZP (eCons (eVar 0) (eCons (Zb 3) eNil))))) ZN) (Zs (ZB (Za1 (Zp (Za ZU (eVar 5) (Zo (Str.ofString "call")))) (Za1 (Zp (Za ZU (Ze Z2 (eCons (eVar 1) eNil)) (Zb 0))) ZaH)) (Zy 5 (Zo (Str.ofString "set"))) ZN) (Zs (ZB (Za1 (Zp (Za ZU (eVar 4) (Zb 4))) (Za1 (ZZ (Zp (Za ZU (eVar 5) (Zo (Str.ofString "if")))) (ZZ (Zp (Za ZU (eVar 5) (Zo (Str.ofString "while")))) ZaD)) ZaH)) (Zy 5 (Zo (Str.ofString "say"))) ZN) (Zs (ZB (Zp (Za ZU (eVar 5) (Zo (Str.ofString "say")))) (ZQ (ZY (eCons (Zo (Str.ofString "say")) (eCons (Ze ZcO (eCons (eVar 0) (eCons (eVar 2) eNil))) eNil)))) ZN) (Zs (ZB (Zp (Za ZU (eVar 5) (Zo (Str.ofString "while")))) (ZQ (ZY (eCons (Zo (Str.ofString "while")) (eCons (Ze ZcO (eCons (eVar 0) (eCons (eVar 2) eNil))) (eCons (Ze F (eCons (eVar 0) (eCons (eVar 1) (eCons (eVar 2) (eCons (eVar 3) (eCons (Za ZO (eVar 4) (Zb 1)) eNil)))))) eNil))))) ZN) (Zs (ZB (Zp (Za ZU (eVar 5) (Zo (Str.ofString "if")))) (Zs (Zy 6 (Ze ZcO (eCons (eVar 0) (eCons (eVar 2) eNil)))) (Zs (Zy 7 (Ze F (eCons (eVar 0) (eCons (eVar 1) (eCons (eVar 2) (eCons (eVar 3) (eCons (Za ZO (eVar 4) (Zb 1)) eNil))))))) (ZQ (ZY (eCons (Zo (Str.ofString "if")) (eCons (eVar 6) (eCons (eVar 7) (eCons (Ze F (eCons (eVar 0) (eCons (eVar 1) (eCons (eVar 2) (eCons (eVar 3) (eCons (Za ZO (eVar 4) (Zb 1)) eNil)))))) eNil)))))))) ZN) (ZQ (Ze ZfB (eCons (eVar 0) (eCons (eVar 1) (eCons (eVar 2) (eCons (eVar 3) (eCons (eVar 5) eNil))))))))))))))
noncomputable def Zey(F:List V→Hp→Option (V×Hp)): List V→Hp→Option (V×Hp):=Z3 5 (Zft F)
noncomputable def Zfu(P:List T→Option (T×List T)): PS:=(Zx (Zc1 0 2 true (Zl Zbu (Zl ZT (Zc 0) (Zm 2)) (Zm 1)) ZaT (Zm 2)) (Zx (Z1 5 (Z0 1000 (xP (Zat (Zd (ZR (Str.ofString "set")) (Zd (ZR (Str.ofString "part")) (Zd (ZR (Str.ofString "rest")) (Zd (ZR (Str.ofString "any")) (Zd (ZR (Str.ofString "call")) (Zd (ZR (Str.ofString "say")) (Zd (ZR (Str.ofString "if")) (Zd (ZR (Str.ofString "while")) Zq)))))))))) (Z0 1001 (ZJ false [0] ZaI (Zd (Zc 0) (Zd (Zm 8) Zq))) (xP (Zl ZT (Zc 1000) (Zc 1001)))))) (Zx (Zap (xB (ZbD (Zac (Zl qEq (Zl ZT (Zc 2) (Zm 0)) (Zl ZT (Zc 2) (Zm 1)))) (ZbD (Zet (Zac (Zc 3))) ZbK))) (Z1 5 (Z0 1002 (xP (Zat (Zd (ZR (Str.ofString "say")) (Zd (ZR (Str.ofString "if")) (Zd (ZR (Str.ofString "while")) Zq))))) (Z0 1003 (ZJ false [0] ZaI (Zd (Zc 0) (Zd (Zm 3) Zq))) (xP (Zl ZT (Zc 1002) (Zc 1003)))))) Zaj) (Zx (Zap (xB (ZbD (Zac (Zl qEq (Zc 5) (ZR (Str.ofString "call")))) (ZbD (Zac (Zl qEq (Zak ZbE (Zd (Zc 1) Zq)) (Zm 0))) ZbK))) (Z1 5 (xP (ZR (Str.ofString "set")))) Zaj) (Zx (Zap (xB (ZbD (Zac (Zl qEq (Zc 4) (Zm 4))) (ZbD (bOr (Zac (Zl qEq (Zc 5) (ZR (Str.ofString "if")))) (bOr (Zac (Zl qEq (Zc 5) (ZR (Str.ofString "while")))) Zeb)) ZbK))) (Z1 5 (xP (ZR (Str.ofString "say")))) Zaj) (Zx (Zap (xB (Zac (Zl qEq (Zc 5) (ZR (Str.ofString "say"))))) (Zad (Z0 1004 (ZJ false [0] Zc7 (Zd (Zc 0) (Zd (Zc 2) Zq))) (xP (Zbt (Zd (ZR (Str.ofString "say")) (Zd (Zc 1004) Zq)))))) Zaj) (Zx (Zap (xB (Zac (Zl qEq (Zc 5) (ZR (Str.ofString "while"))))) (Zad (Z0 1005 (ZJ false [0] Zc7 (Zd (Zc 0) (Zd (Zc 2) Zq))) (Z0 1006 (ZJ false [0] P (Zd (Zc 0) (Zd (Zc 1) (Zd (Zc 2) (Zd (Zc 3) (Zd (Zl Zay (Zc 4) (Zm 1)) Zq)))))) (xP (Zbt (Zd (ZR (Str.ofString "while")) (Zd (Zc 1005) (Zd (Zc 1006) Zq)))))))) Zaj) (Zx (Zap (xB (Zac (Zl qEq (Zc 5) (ZR (Str.ofString "if"))))) (Zx (Z1 6 (ZJ false [0] Zc7 (Zd (Zc 0) (Zd (Zc 2) Zq)))) (Zx (Z1 7 (ZJ false [0] P (Zd (Zc 0) (Zd (Zc 1) (Zd (Zc 2) (Zd (Zc 3) (Zd (Zl Zay (Zc 4) (Zm 1)) Zq))))))) (Zad (Z0 1007 (ZJ false [0] P (Zd (Zc 0) (Zd (Zc 1) (Zd (Zc 2) (Zd (Zc 3) (Zd (Zl Zay (Zc 4) (Zm 1)) Zq)))))) (xP (Zbt (Zd (ZR (Str.ofString "if")) (Zd (Zc 6) (Zd (Zc 7) (Zd (Zc 1007) Zq)))))))))) Zaj) (Zad (ZJ false [0] ZeD (Zd (Zc 0) (Zd (Zc 1) (Zd (Zc 2) (Zd (Zc 3) (Zd (Zc 5) Zq)))))))))))))))
noncomputable def Zez(P:List T→Option (T×List T)): List T→Option (T×List T):=ZaW 5 [(0,2)] (Zfu P)
theorem Zjl{F:List V→Hp→Option (V×Hp)}{P:List T→Option (T×List T)}(ih:SimX 5 [(0,2)] true F P): SimX 5 [(0,2)] true (Zey F) (Zez P):=SimX.of (show SU [] [(0,2)] [] [(0,2)] [(0,2)] true (Zft F) (Zfu P)from(SU.seq (SU.putS (x:=0) (d:=2) (own:=true) (O':=[]) (S':=[(0,2)]) (by decide) (by decide) (ZE ZbL (Z5 Z6 (Zj 0) (Zn _)) (Zn _)) Zdl (Zn _) (by decide) (by decide) (by decide)) (SU.seq (SU.set (i:=5) (O':=[]) (S':=[(0,2)]) (Zcm (k:=1000) (C:=fun e=>(Za Zh (e) (Ze ZP (eCons (eVar 0) (eCons (Zb 8) eNil))))) (e:=(ZM (eCons (Zo (Str.ofString "set")) (eCons (Zo (Str.ofString "part")) (eCons (Zo (Str.ofString "rest")) (eCons (Zo (Str.ofString "any")) (eCons (Zo (Str.ofString "call")) (eCons (Zo (Str.ofString "say")) (eCons (Zo (Str.ofString "if")) (eCons (Zo (Str.ofString "while")) eNil)))))))))) (Za9 (Z7) (fun ρ v H=>rfl)) (ZD (E.list (ZA (E.str _) (ZA (E.str _) (ZA (E.str _) (ZA (E.str _) (ZA (E.str _) (ZA (E.str _) (ZA (E.str _) (ZA (E.str _) ZF))))))))) (by decide)) (Zan (k:=1001) (C:=fun e=>(Za Zh (eVar 1000) (e))) (e:=(Ze ZP (eCons (eVar 0) (eCons (Zb 8) eNil)))) (ZaM (Z7) (Zab (by decide))) (EX.call (b:=false) (xs:=[0]) (as:=[some 0,none]) (M:=[]) ZaX (XAs.slot (ZC (Zn _) (by decide) XAs.nil))) (ZD (Z5 Z6 (Zj 1000) (Zj 1001)) (by decide)) (by decide) (by decide)) (by decide) (by decide) (by decide) (by decide))) (SU.seq (Zax (ZaC (Zcc (Zah (ZE ZaV (Z5 Z6 (Zj 2) (Zn _)) (Z5 Z6 (Zj 2) (Zn _)))) (Zcc (ZiE (Zah (Zj 3))) ZcD))) (SU.set (i:=5) (O':=[]) (S':=[(0,2)]) (Zcm (k:=1002) (C:=fun e=>(Za Zh (e) (Ze ZP (eCons (eVar 0) (eCons (Zb 3) eNil))))) (e:=(ZM (eCons (Zo (Str.ofString "say")) (eCons (Zo (Str.ofString "if")) (eCons (Zo (Str.ofString "while")) eNil))))) (Za9 (Z7) (fun ρ v H=>rfl)) (ZD (E.list (ZA (E.str _) (ZA (E.str _) (ZA (E.str _) ZF)))) (by decide)) (Zan (k:=1003) (C:=fun e=>(Za Zh (eVar 1002) (e))) (e:=(Ze ZP (eCons (eVar 0) (eCons (Zb 3) eNil)))) (ZaM (Z7) (Zab (by decide))) (EX.call (b:=false) (xs:=[0]) (as:=[some 0,none]) (M:=[]) ZaX (XAs.slot (ZC (Zn _) (by decide) XAs.nil))) (ZD (Z5 Z6 (Zj 1002) (Zj 1003)) (by decide)) (by decide) (by decide)) (by decide) (by decide) (by decide) (by decide))) SU.next) (SU.seq (Zax (ZaC (Zcc (Zah (ZE ZaV (Zj 5) (E.str _))) (Zcc (Zah (ZE ZaV (Zbf Zb5 (ZA (Zj 1) ZF)) (Zn _))) ZcD))) (SU.set (i:=5) (O':=[]) (S':=[(0,2)]) (ZD (E.str _) (by decide))) SU.next) (SU.seq (Zax (ZaC (Zcc (Zah (ZE ZaV (Zj 4) (Zn _))) (Zcc (Zek (Zah (ZE ZaV (Zj 5) (E.str _))) (Zek (Zah (ZE ZaV (Zj 5) (E.str _))) Zgx)) ZcD))) (SU.set (i:=5) (O':=[]) (S':=[(0,2)]) (ZD (E.str _) (by decide))) SU.next) (SU.seq (Zax (ZaC (Zah (ZE ZaV (Zj 5) (E.str _)))) (Zas (O':=[]) (S':=[(0,2)]) (Zan (k:=1004) (C:=fun e=>(ZY (eCons (Zo (Str.ofString "say")) (eCons (e) eNil)))) (e:=(Ze ZcO (eCons (eVar 0) (eCons (eVar 2) eNil)))) (Ct.tup (Cts.tail (Cts.head (Z7) (fun ρ v H=>rfl)) Vl.str)) (EX.call (b:=false) (xs:=[0]) (as:=[some 0,none]) (M:=[2]) ZfF (XAs.slot (ZC (Zj 2) (by decide) XAs.nil))) (ZD (E.tup (ZI (E.str _) (ZI (E.own) ZF (by decide) (by decide)) (by decide) (by decide))) (by decide)) (by decide) (by decide)) (by decide) (by decide)) SU.next) (SU.seq (Zax (ZaC (Zah (ZE ZaV (Zj 5) (E.str _)))) (Zas (O':=[]) (S':=[(0,2)]) (Zan (k:=1005) (C:=fun e=>(ZY (eCons (Zo (Str.ofString "while")) (eCons (e) (eCons (Ze F (eCons (eVar 0) (eCons (eVar 1) (eCons (eVar 2) (eCons (eVar 3) (eCons (Za ZO (eVar 4) (Zb 1)) eNil)))))) eNil))))) (e:=(Ze ZcO (eCons (eVar 0) (eCons (eVar 2) eNil)))) (Ct.tup (Cts.tail (Cts.head (Z7) (fun ρ v H=>rfl)) Vl.str)) (EX.call (b:=false) (xs:=[0]) (as:=[some 0,none]) (M:=[2]) ZfF (XAs.slot (ZC (Zj 2) (by decide) XAs.nil))) (Zan (k:=1006) (C:=fun e=>(ZY (eCons (Zo (Str.ofString "while")) (eCons (eVar 1005) (eCons (e) eNil))))) (e:=(Ze F (eCons (eVar 0) (eCons (eVar 1) (eCons (eVar 2) (eCons (eVar 3) (eCons (Za ZO (eVar 4) (Zb 1)) eNil))))))) (Ct.tup (Cts.tail (Cts.tail (Cts.head (Z7) (fun ρ v H=>rfl)) (Zab (by decide))) Vl.str)) (EX.call (b:=false) (xs:=[0]) (as:=[some 0,none,none,none,none]) (M:=[1,2,3,4]) ih (XAs.slot (ZC (Zj 1) (by decide) (ZC (Zj 2) (by decide) (ZC (Zj 3) (by decide) (ZC (Za4 Za0 (Zj 4) (Zn _)) (by decide) XAs.nil)))))) (ZD (E.tup (ZI (E.str _) (ZI (E.own) (ZI (E.own) ZF (by decide) (by decide)) (by decide) (by decide)) (by decide) (by decide))) (by decide)) (by decide) (by decide)) (by decide) (by decide)) (by decide) (by decide)) SU.next) (SU.seq (Zax (ZaC (Zah (ZE ZaV (Zj 5) (E.str _)))) (SU.seq (Zbg (i:=6) (O':=[6]) (S':=[(0,2)]) (EX.call (b:=false) (xs:=[0]) (as:=[some 0,none]) (M:=[2]) ZfF (XAs.slot (ZC (Zj 2) (by decide) XAs.nil))) (by decide) (by decide)) (SU.seq (Zbg (i:=7) (O':=[6,7]) (S':=[(0,2)]) (EX.call (b:=false) (xs:=[0]) (as:=[some 0,none,none,none,none]) (M:=[1,2,3,4]) ih (XAs.slot (ZC (Zj 1) (by decide) (ZC (Zj 2) (by decide) (ZC (Zj 3) (by decide) (ZC (Za4 Za0 (Zj 4) (Zn _)) (by decide) XAs.nil)))))) (by decide) (by decide)) (Zas (O':=[]) (S':=[(0,2)]) (Zan (k:=1007) (C:=fun e=>(ZY (eCons (Zo (Str.ofString "if")) (eCons (eVar 6) (eCons (eVar 7) (eCons (e) eNil)))))) (e:=(Ze F (eCons (eVar 0) (eCons (eVar 1) (eCons (eVar 2) (eCons (eVar 3) (eCons (Za ZO (eVar 4) (Zb 1)) eNil))))))) (Ct.tup (Cts.tail (Cts.tail (Cts.tail (Cts.head (Z7) (fun ρ v H=>rfl)) (Zab (by decide))) (Zab (by decide))) Vl.str)) (EX.call (b:=false) (xs:=[0]) (as:=[some 0,none,none,none,none]) (M:=[1,2,3,4]) ih (XAs.slot (ZC (Zj 1) (by decide) (ZC (Zj 2) (by decide) (ZC (Zj 3) (by decide) (ZC (Za4 Za0 (Zj 4) (Zn _)) (by decide) XAs.nil)))))) (ZD (E.tup (ZI (E.str _) (ZI (E.own) (ZI (E.own) (ZI (E.own) ZF (by decide) (by decide)) (by decide) (by decide)) (by decide) (by decide)) (by decide) (by decide))) (by decide)) (by decide) (by decide)) (by decide) (by decide)))) SU.next) (Zas (O':=[]) (S':=[(0,2)]) (EX.call (b:=false) (xs:=[0]) (as:=[some 0,none,none,none,none]) (M:=[1,2,3,5]) Zjq (XAs.slot (ZC (Zj 1) (by decide) (ZC (Zj 2) (by decide) (ZC (Zj 3) (by decide) (ZC (Zj 5) (by decide) XAs.nil)))))) (by decide) (by decide))))))))))) (by decide) (by decide)
noncomputable def ZfQ(F:List V→Hp→Option (V×Hp)): Sm:=Zs (Zy 5 (ZM eNil)) (Zs (ZaA (ZaN (eCons (Za Zau (Za ZO (Zb 1) (Ze ZP (eCons (eVar 0) (eCons (Zb 4) eNil)))) (Ze Zcd (eCons (Zb 1) (eCons (eVar 4) eNil)))) eNil)) (ZH 6) (ZB (Zp (Za oGt (Za Zh (eVar 0) (Zb 2)) (Zb 0))) (ZL (Zbm (eVar 5) (Ze (Zey F) (eCons (eVar 0) (eCons (eVar 1) (eCons (eVar 2) (eCons (eVar 3) (eCons (eVar 4) eNil)))))))) ZN)) (ZQ (eVar 5)))
noncomputable def ZcP: Nat→List V→Hp→Option (V×Hp)
 | 0=>fun _ _=>none
 | n+1=>Z3 5 (ZfQ (ZcP n))
noncomputable def ZeF: List V→Hp→Option (V×Hp):=ZcP 9
noncomputable def ZeG(P:List T→Option (T×List T)): PS:=(Zx (Z1 5 (xP (Zat Zq))) (Zx (Zfp 1001 (Z0 1002 (ZJ false [0] ZaI (Zd (Zc 0) (Zd (Zm 4) Zq))) (xP (Zl Zbu (Zl Zay (Zm 1) (Zc 1002)) (Zak Zel (Zd (Zm 1) (Zd (Zc 4) Zq)))))) (Zb3 (Zd (Zc 1001) Zq)) (ZaE 6) (Zap (xB (Zac (Zl qGt (Zl ZT (Zc 0) (Zm 2)) (Zm 0)))) (Zfn 1000 (ZJ false [0] (Zez P) (Zd (Zc 0) (Zd (Zc 1) (Zd (Zc 2) (Zd (Zc 3) (Zd (Zc 4) Zq)))))) (Zct 5 [1000] ZaT (Zc 1000))) Zaj)) (Zad (xP (Zc 5)))))
noncomputable def ZdM: Nat→List T→Option (T×List T)
 | 0=>fun _=>none
 | n+1=>ZaW 5 [(0,2)] (ZeG (ZdM n))
noncomputable def ZfR: List T→Option (T×List T):=ZdM 9
theorem Zg5: ∀n:Nat,SimX 5 [(0,2)] true (ZcP n) (ZdM n)
 | 0=>SimX.zero
 | n+1=>by
  have ih:=Zg5 n
  exact SimX.of (show SU [] [(0,2)] [5] [(0,2)] [(0,2)] true (ZfQ (ZcP n)) (ZeG (ZdM n))from(SU.seq (Zbg (i:=5) (O':=[5]) (S':=[(0,2)]) (ZD (E.list ZF) (by decide)) (by decide) (by decide)) (SU.seq (Zlq (k:=1001) (g:=fun e=>ZaN (eCons e eNil)) (e:=(Za Zau (Za ZO (Zb 1) (Ze ZP (eCons (eVar 0) (eCons (Zb 4) eNil)))) (Ze Zcd (eCons (Zb 1) (eCons (eVar 4) eNil))))) (Cg.range (Cts.head Z7 (fun ρ v H=>rfl))) (Zan (k:=1002) (C:=fun e=>(Za Zau (Za ZO (Zb 1) (e)) (Ze Zcd (eCons (Zb 1) (eCons (eVar 4) eNil))))) (e:=(Ze ZP (eCons (eVar 0) (eCons (Zb 4) eNil)))) (Za9 (ZaM (Z7) Vl.int) (fun ρ v H=>rfl)) (EX.call (b:=false) (xs:=[0]) (as:=[some 0,none]) (M:=[]) ZaX (XAs.slot (ZC (Zn _) (by decide) XAs.nil))) (ZD (ZE ZbL (Za4 Za0 (Zn _) (Zj 1002)) (Zbf ZiG (ZA (Zn _) (ZA (Zj 4) ZF)))) (by decide)) (by decide) (by decide)) (Gs.range (ZA (Zj 1001) ZF)) (by decide) (PutOk.one (j:=6)) PutK.one (by decide) (Zax (ZaC (Zah (ZE Zc4 (Z5 Z6 (Zj 0) (Zn _)) (Zn _)))) (Zlo (k:=1000) (K:=fun e=>ZL (Zbm (eVar 5) (e))) (e:=(Ze (Zey (ZcP n)) (eCons (eVar 0) (eCons (eVar 1) (eCons (eVar 2) (eCons (eVar 3) (eCons (eVar 4) eNil))))))) (Zml (Ct.append (Z7) (Zab (by decide)))) ZiQ (EX.call (b:=false) (xs:=[0]) (as:=[some 0,none,none,none,none]) (M:=[1,2,3,4]) (Zjl ih) (XAs.slot (ZC (Zj 1) (by decide) (ZC (Zj 2) (by decide) (ZC (Zj 3) (by decide) (ZC (Zj 4) (by decide) XAs.nil)))))) (Zin (x:=5) (N:=[1000]) (O':=[5]) (by decide) ZgN (Zej (O':=[1000]) (E.own)) (by decide) (by decide) (by decide)) (by decide) (by decide)) SU.next)) (Zas (O':=[5]) (S':=[(0,2)]) (ZD (E.own) (by decide)) (by decide) (by decide))))) (by decide) (by decide)
theorem Zjt: SimX 5 [(0,2)] true ZeF ZfR:=Zg5 9
noncomputable def Zfv: Sm:=Zs (Zy 1 (ZM eNil)) (Zs (Zy 2 (Za ZO (Zb 1) (Ze ZP (eCons (eVar 0) (eCons (Zb 5) eNil))))) (Zs (ZaA (ZaN (eCons (eVar 2) eNil)) (ZH 3) (Zs (Zy 4 (Za ZO (Zb 1) (Ze ZP (eCons (eVar 0) (eCons (Zb 4) eNil))))) (Zs (Zy 5 (ZM (eCons (Ze ZP (eCons (eVar 0) (eCons (Za ZO (eVar 4) (Zb 1)) eNil))) (eCons (eVar 4) eNil)))) (Zs (Zy 6 (Ze Zca (eCons (eVar 0) (eCons (Zo (Str.ofString "NoShape")) eNil)))) (Zs (Zy 7 (Ze ZeF (eCons (eVar 0) (eCons (Ze Zdp (eCons (eVar 1) eNil)) (eCons (eVar 5) (eCons (Za ZU (eVar 3) (Za Zau (eVar 2) (Zb 1))) (eCons (Zb 0) eNil))))))) (Zs (ZB (Zp (eVar 6)) (Zy 5 (Za Zh (ZM (eCons (ZM (eCons (eUn ZbN (Zb 1)) (eCons (eVar 4) eNil))) (eCons (ZM (eCons (Za ZO (eVar 4) (Zb 1)) (eCons (eVar 4) eNil))) (eCons (ZM (eCons (Zb 0) (eCons (Zb 0) eNil))) eNil)))) (Ze ZP (eCons (eVar 0) (eCons (Zb 3) eNil))))) ZN) (ZL (Zbm (eVar 1) (ZY (eCons (Za Zh (eVar 5) (Zb 0)) (eCons (Za Zh (eVar 5) (Zb 1)) (eCons (eVar 7) eNil)))))))))))) (ZQ (eVar 1))))
noncomputable def ZeA:=Z3 1 Zfv
noncomputable def Zfw: PS:=(Zx (Zb0 1 (Zat Zq)) (Zx (Z1 2 (Z0 1000 (ZJ false [0] ZaI (Zd (Zc 0) (Zd (Zm 5) Zq))) (xP (Zl Zay (Zm 1) (Zc 1000))))) (Zx (Zch (Zb3 (Zd (Zc 2) Zq)) (ZaE 3) (Zx (Z1 4 (Z0 1001 (ZJ false [0] ZaI (Zd (Zc 0) (Zd (Zm 4) Zq))) (xP (Zl Zay (Zm 1) (Zc 1001))))) (Zx (Z1 5 (Z0 1002 (ZJ false [0] ZaI (Zd (Zc 0) (Zd (Zl Zay (Zc 4) (Zm 1)) Zq))) (xP (Zat (Zd (Zc 1002) (Zd (Zc 4) Zq)))))) (Zx (Z1 6 (ZJ false [0] Zb2 (Zd (Zc 0) (Zd (ZR (Str.ofString "NoShape")) Zq)))) (Zx (Z1 7 (Z0 1003 (xP (Zak ZiT (Zd (Zc 1) Zq))) (ZJ false [0] ZfR (Zd (Zc 0) (Zd (Zc 1003) (Zd (Zc 5) (Zd (Zl qEq (Zc 3) (Zl Zbu (Zc 2) (Zm 1))) (Zd (Zm 0) Zq)))))))) (Zx (Zap (xB (Zac (Zc 6))) (Z1 5 (Z0 1004 (xP (Zat (Zd (Zat (Zd (pUn ZcK (Zm 1)) (Zd (ZaZ (Zc 4)) Zq))) (Zd (Zat (Zd (pFl (Zl Zay (Zc 4) (Zm 1))) (Zd (ZaZ (Zc 4)) Zq))) (Zd (Zat (Zd (Zm 0) (Zd (Zm 0) Zq))) Zq))))) (Z0 1005 (ZJ false [0] ZaI (Zd (Zc 0) (Zd (Zm 3) Zq))) (xP (Zl ZT (Zc 1004) (Zc 1005)))))) Zaj) (Zc0 1 1 false ZaT (Zbt (Zd (Zl ZT (Zc 5) (Zm 0)) (Zd (Zl ZT (Zc 5) (Zm 1)) (Zd (Zc 7) Zq))))))))))) (Zad (xP (Zc 1))))))
noncomputable def ZdI: List T→Option (T×List T):=ZaW 1 [(0,2)] Zfw
theorem Zg2: SimX 1 [(0,2)] false ZeA ZdI:=SimX.of (show SU [] [(0,2)] [] [(1,1),(0,2)] [(0,2)] false Zfv Zfw from(SU.seq (Zln (i:=1) (O':=[]) (S':=[(0,2)]) ZF (by decide) (by decide) (by decide) (by decide)) (SU.seq (SU.set (i:=2) (O':=[]) (S':=[(1,1),(0,2)]) (Zan (k:=1000) (C:=fun e=>(Za ZO (Zb 1) (e))) (e:=(Ze ZP (eCons (eVar 0) (eCons (Zb 5) eNil)))) (ZaM (Z7) Vl.int) (EX.call (b:=false) (xs:=[0]) (as:=[some 0,none]) (M:=[]) ZaX (XAs.slot (ZC (Zn _) (by decide) XAs.nil))) (ZD (Za4 Za0 (Zn _) (Zj 1000)) (by decide)) (by decide) (by decide))) (SU.seq (ZiS (Gs.range (ZA (Zj 2) ZF)) (PutOk.one (j:=3)) PutK.one (by decide) (by decide) (SU.seq (SU.set (i:=4) (O':=[]) (S':=[(1,1),(0,2)]) (Zan (k:=1001) (C:=fun e=>(Za ZO (Zb 1) (e))) (e:=(Ze ZP (eCons (eVar 0) (eCons (Zb 4) eNil)))) (ZaM (Z7) Vl.int) (EX.call (b:=false) (xs:=[0]) (as:=[some 0,none]) (M:=[]) ZaX (XAs.slot (ZC (Zn _) (by decide) XAs.nil))) (ZD (Za4 Za0 (Zn _) (Zj 1001)) (by decide)) (by decide) (by decide))) (SU.seq (SU.set (i:=5) (O':=[]) (S':=[(1,1),(0,2)]) (Zan (k:=1002) (C:=fun e=>(ZM (eCons (e) (eCons (eVar 4) eNil)))) (e:=(Ze ZP (eCons (eVar 0) (eCons (Za ZO (eVar 4) (Zb 1)) eNil)))) (Ct.list (Cts.head (Z7) (fun ρ v H=>rfl))) (EX.call (b:=false) (xs:=[0]) (as:=[some 0,none]) (M:=[4]) ZaX (XAs.slot (ZC (Za4 Za0 (Zj 4) (Zn _)) (by decide) XAs.nil))) (ZD (E.list (ZA (Zj 1002) (ZA (Zj 4) ZF))) (by decide)) (by decide) (by decide))) (SU.seq (SU.set (i:=6) (O':=[]) (S':=[(1,1),(0,2)]) (EX.call (b:=false) (xs:=[0]) (as:=[some 0,none]) (M:=[]) ZcB (XAs.slot (ZC (E.str _) (by decide) XAs.nil)))) (SU.seq (Zbg (i:=7) (O':=[7]) (S':=[(1,1),(0,2)]) (Zkh (k:=1003) (C:=fun e=>(Ze ZeF (eCons (eVar 0) (eCons (e) (eCons (eVar 5) (eCons (Za ZU (eVar 3) (Za Zau (eVar 2) (Zb 1))) (eCons (Zb 0) eNil))))))) (e:=(Ze Zdp (eCons (eVar 1) eNil))) (Ct.call (Cts.tail (Cts.head (Z7) (fun ρ v H=>rfl)) (Zab (by decide)))) (ZkN (x:=1) (by decide)) (EX.call (b:=false) (xs:=[0]) (as:=[some 0,none,none,none,none]) (M:=[1003,5]) Zjt (XAs.slot (ZC (Zj 1003) (by decide) (ZC (Zj 5) (by decide) (ZC (ZE ZaV (Zj 3) (ZE ZbL (Zj 2) (Zn _))) (by decide) (ZC (Zn _) (by decide) XAs.nil)))))) (by decide) (by decide) (by decide)) (by decide) (by decide)) (SU.seq (Zax (ZaC (Zah (Zj 6))) (SU.set (i:=5) (O':=[7]) (S':=[(1,1),(0,2)]) (Zan (k:=1004) (C:=fun e=>(Za Zh (e) (Ze ZP (eCons (eVar 0) (eCons (Zb 3) eNil))))) (e:=(ZM (eCons (ZM (eCons (eUn ZbN (Zb 1)) (eCons (eVar 4) eNil))) (eCons (ZM (eCons (Za ZO (eVar 4) (Zb 1)) (eCons (eVar 4) eNil))) (eCons (ZM (eCons (Zb 0) (eCons (Zb 0) eNil))) eNil))))) (Za9 (Z7) (fun ρ v H=>rfl)) (ZD (E.list (ZI (E.list (ZI (Zdu Zdw (Zn _)) (ZI (E.flat (Zj 4)) ZF (by decide) (by decide)) (by decide) (by decide))) (ZI (E.list (ZI (Zdq Za0 (Zj 4) (Zn _)) (ZI (E.flat (Zj 4)) ZF (by decide) (by decide)) (by decide) (by decide))) (ZI (E.list (ZI (Zn _) (ZI (Zn _) ZF (by decide) (by decide)) (by decide) (by decide))) ZF (by decide) (by decide)) (by decide) (by decide)) (by decide) (by decide))) (by decide)) (Zan (k:=1005) (C:=fun e=>(Za Zh (eVar 1004) (e))) (e:=(Ze ZP (eCons (eVar 0) (eCons (Zb 3) eNil)))) (ZaM (Z7) (Zab (by decide))) (EX.call (b:=false) (xs:=[0]) (as:=[some 0,none]) (M:=[]) ZaX (XAs.slot (ZC (Zn _) (by decide) XAs.nil))) (ZD (Z5 Z6 (Zj 1004) (Zj 1005)) (by decide)) (by decide) (by decide)) (by decide) (by decide))) SU.next) (Zip (x:=1) (d:=1) (own:=false) (O':=[]) (S':=[(1,1),(0,2)]) (by decide) (by decide) Zdl (E.tup (ZA (Z5 Z6 (Zj 5) (Zn _)) (ZA (Z5 Z6 (Zj 5) (Zn _)) (ZA (Zj 7) ZF)))) (by decide) (by decide) (by decide)))))))) (Zmk (O0:=[]) (S0:=[(0,2)]) (SU.ret (O':=[]) (S':=[(1,1),(0,2)]) (ZD (Zj 1) (by decide)) (by decide)) (by decide) (by decide)))))) (by decide) (by decide)
noncomputable def ZfS(F:List V→Hp→Option (V×Hp)): Sm:=Zs (ZB (Zp (eIs "list" (eVar 0))) (ZQ (ZaS (Zal (eVar 0)) (ZH 100) ZaH (Ze F (eCons (eVar 100) eNil)))) ZN) (Zs (ZB (Zp (eIs "tuple" (eVar 0))) (ZQ (Ze Zdk (eCons (ZaS (Zal (eVar 0)) (ZH 102) ZaH (Ze F (eCons (eVar 102) eNil))) eNil))) ZN) (ZQ (eVar 0)))
noncomputable def Zc8: Nat→List V→Hp→Option (V×Hp)
 | 0=>fun _ _=>none
 | n+1=>Z3 1 (ZfS (Zc8 n))
noncomputable def ZfT: List V→Hp→Option (V×Hp):=Zc8 24
noncomputable def Zda(F:List T→Option T): PS:=(Zx (qIf (Zac (pIs "list" (Zc 0))) (ZcM (Zce (ZcL (Zc 0)) (ZaE 100) ZbK (Zak F (Zd (Zc 100) Zq)))) Zaj) (Zx (qIf (Zac (pIs "tuple" (Zc 0))) (ZcM (Zak Ze1 (Zd (Zce (ZcL (Zc 0)) (ZaE 102) ZbK (Zak F (Zd (Zc 102) Zq))) Zq))) Zaj) (ZcM (ZaZ (Zc 0)))))
noncomputable def ZcQ: Nat→List T→Option T
 | 0=>fun _=>none
 | n+1=>Zcu 1 (Zda (ZcQ n))
noncomputable def ZfU: List T→Option T:=ZcQ 24
theorem ZfG: ∀n:Nat,SimF true (Zc8 n) (ZcQ n)
 | 0=>SimF.zero
 | n+1=>SimF.of (show S [] [] [] true (ZfS (Zc8 n)) (Zda (ZcQ n))from(ZcZ (ZgW (Zah (Zjg (Zj 0))) (Ze9 (Zih (Gs.seq (Zj 0)) PutOk.one (by decide) ZcD (ZgU (ZfG n) (ZA (Zj 100) ZF)))) ZgM) (ZcZ (ZgW (Zah (Zjg (Zj 0))) (Ze9 (Zll ZkG (ZI (Zih (Gs.seq (Zj 0)) PutOk.one (by decide) ZcD (ZgU (ZfG n) (ZA (Zj 102) ZF))) ZF (by decide) (by decide)))) ZgM) (Ze9 (E.flat (Zj 0))))))
theorem Zju: SimF true ZfT ZfU:=ZfG 24
noncomputable def ZhA: Sm:=ZB (Zp (Za oNe (Ze Z2 (eCons (eVar 0) eNil)) (Za ZO (eVar 1) (Zb 1)))) (PM.sNo) ZN
noncomputable def Zcz:=Z3 2 ZhA
noncomputable def Zhm: Sm:=ZB (Zp (Za oLt (eVar 0) (Zb 1))) (PM.sNo) ZN
noncomputable def ZeK:=Z3 1 Zhm
noncomputable def Zhf: Sm:=Zs (ZL (Ze Zcz (eCons (Za Zh (eVar 0) (Zb 1)) (eCons (eVar 1) eNil)))) (ZB (Zp (Za ZU (Za Zh (eVar 0) (Zb 0)) (Zo (Str.ofString "even")))) (ZL (Ze ZeK (eCons (Za Zh (eVar 0) (Zb 2)) eNil))) ZN)
noncomputable def Zb9:=Z3 2 Zhf
noncomputable def ZhB: Sm:=Zs (ZB (ZZ (Zp (Za oLt (eVar 0) (Zb 1))) (ZZ (Zp (Za oGt (eVar 0) (eVar 1))) ZaD)) (PM.sNo) ZN) (ZB (Zp (Za oLe (eVar 0) (eVar 2))) (PM.sNo) ZN)
noncomputable def ZcR:=Z3 3 ZhB
noncomputable def ZdZ: Sm:=ZQ (ZcI (Za Zcb (eVar 0) (Zba)) (ZcI (Za Zcb (eVar 1) (Zba)) (Za oGt (eVar 0) (eVar 1))))
noncomputable def ZcS:=Z3 2 ZdZ
noncomputable def ZhM: Sm:=Zs (ZB (Zp (Ze ZcS (eCons (eVar 0) (eCons (eVar 1) eNil)))) (PM.sNo) ZN) (ZQ (ZY (eCons (eVar 0) (eCons (eVar 1) eNil))))
noncomputable def Zgr:=Z3 2 ZhM
noncomputable def Zhn: Sm:=Zs (ZB (ZZ (Zp (Za oLt (eVar 0) (Zb 0))) (ZZ (Zp (Za oGe (eVar 0) (Ze Z2 (eCons (eVar 3) eNil)))) ZaD)) (PM.sNo) ZN) (Zs (ZB (Zp (Za oNe (Ze Z2 (eCons (eVar 1) eNil)) (Za Zh (eVar 3) (eVar 0)))) (PM.sNo) ZN) (ZaA (Zal (eVar 1)) (ZH 4) (ZL (Ze Zcz (eCons (eVar 4) (eCons (eVar 2) eNil))))))
noncomputable def ZeL:=Z3 4 Zhn
noncomputable def Zho: Sm:=ZB (Zp (Za ZU (Za Zh (eVar 0) (Zb 0)) (Zo (Str.ofString "any")))) (ZL (Ze Zgr (eCons (Za Zh (eVar 0) (Zb 2)) (eCons (Za Zh (eVar 0) (Zb 3)) eNil)))) (ZB (Zp (Za ZU (Za Zh (eVar 0) (Zb 0)) (Zo (Str.ofString "call")))) (ZL (Ze ZeL (eCons (Za Zh (eVar 0) (Zb 2)) (eCons (Za Zh (eVar 0) (Zb 3)) (eCons (eVar 1) (eCons (eVar 2) eNil)))))) (Zs (ZL (Ze Zcz (eCons (Za Zh (eVar 0) (Zb 2)) (eCons (eVar 1) eNil)))) (ZB (Zp (Za oIn (Za Zh (eVar 0) (Zb 0)) (ZY (eCons (Zo (Str.ofString "part")) (eCons (Zo (Str.ofString "rest")) eNil))))) (ZL (Ze ZeK (eCons (Za Zh (eVar 0) (Zb 3)) eNil))) ZN)))
noncomputable def Zck:=Z3 3 Zho
noncomputable def Zhp(F:List V→Hp→Option (V×Hp)): Sm:=ZaA (Zal (eVar 0)) (ZH 4) (ZB (Zp (Za ZU (Za Zh (eVar 4) (Zb 0)) (Zo (Str.ofString "say")))) (ZL (Ze Zb9 (eCons (Za Zh (eVar 4) (Zb 1)) (eCons (eVar 1) eNil)))) (ZB (Zp (Za oIn (Za Zh (eVar 4) (Zb 0)) (ZY (eCons (Zo (Str.ofString "if")) (eCons (Zo (Str.ofString "while")) eNil))))) (Zs (ZL (Ze Zb9 (eCons (Za Zh (eVar 4) (Zb 1)) (eCons (eVar 1) eNil)))) (ZaA (Zal (Zbi (eVar 4) 2)) (ZH 5) (ZL (Ze F (eCons (eVar 5) (eCons (eVar 1) (eCons (eVar 2) (eCons (eVar 3) eNil)))))))) (Zs (ZL (Ze ZcR (eCons (Za Zh (eVar 4) (Zb 1)) (eCons (eVar 1) (eCons (eVar 2) eNil))))) (ZL (Ze Zck (eCons (eVar 4) (eCons (eVar 1) (eCons (eVar 3) eNil))))))))
noncomputable def Zb1: Nat→List V→Hp→Option (V×Hp)
 | 0=>fun _ _=>none
 | n+1=>Z3 4 (Zhp (Zb1 n))
noncomputable def Zhq: List V→Hp→Option (V×Hp):=Zb1 24
noncomputable def ZeB: Sm:=Zs (Zy 2 (Za Zh (Za Zh (eVar 0) (eVar 1)) (Zb 0))) (Zs (Zy 3 (Za Zh (Za Zh (eVar 0) (eVar 1)) (Zb 1))) (Zs (ZB (ZZ (Zp (Za oLt (eVar 3) (Zb 1))) (ZZ (Zp (Za oLt (eVar 2) (Zb 0))) (ZZ (Zp (Za oGt (eVar 2) (eVar 3))) ZaD))) (PM.sNo) ZN) (Zs (Zy 4 (eIf (Zp (Za ZU (eVar 1) (Za Zau (Ze Z2 (eCons (eVar 0) eNil)) (Zb 1)))) (Zb 0) (eVar 2))) (Zs (Zy 5 (ZaS (Zal (Zby (eVar 0) ZbI (ZbJ (eVar 1)))) (ZH 100) ZaH (Za Zh (eVar 100) (Zb 0)))) (ZL (Ze Zhq (eCons (Za Zh (Za Zh (eVar 0) (eVar 1)) (Zb 2)) (eCons (eVar 3) (eCons (eVar 4) (eCons (eVar 5) eNil))))))))))
noncomputable def ZcN:=Z3 2 ZeB
noncomputable def ZeO: Sm:=Zs (ZB (Zp (Za ZU (Ze Z2 (eCons (eVar 0) eNil)) (Zb 0))) (PM.sNo) ZN) (Zs (ZaA (ZaN (eCons (Ze Z2 (eCons (eVar 0) eNil)) eNil)) (ZH 1) (ZL (Ze ZcN (eCons (eVar 0) (eCons (eVar 1) eNil))))) (ZQ (ZbH true)))
noncomputable def ZeP:=Z3 1 ZeO
noncomputable def Zhr: SmR:=rIf (Zp (Za oNe (Ze Z2 (eCons (eVar 0) eNil)) (Za ZO (eVar 1) (Zb 1)))) (Zbq 85 (eCons (Zo (Str.ofString "a sum has a number, and one more for each box")) eNil)) (rNo)
noncomputable def ZdS: List V→Hp→Option (Addr×Hp):=ZaQ 2 Zhr
noncomputable def Zhg: SmR:=rIf (Zp (Za oLt (eVar 0) (Zb 1))) (Zbq 97 (eCons (Zo (Str.ofString "d is below 1")) eNil)) (rNo)
noncomputable def ZeM: List V→Hp→Option (Addr×Hp):=ZaQ 1 Zhg
noncomputable def Zg9: SmR:=Zae (rCall ZdS (eCons (Za Zh (eVar 0) (Zb 1)) (eCons (eVar 1) eNil))) (ZL (Ze Zcz (eCons (Za Zh (eVar 0) (Zb 1)) (eCons (eVar 1) eNil)))) (rIf (Zp (Za ZU (Za Zh (eVar 0) (Zb 0)) (Zo (Str.ofString "even")))) (rCall ZeM (eCons (Za Zh (eVar 0) (Zb 2)) eNil)) (rNo))
noncomputable def Zdd: List V→Hp→Option (Addr×Hp):=ZaQ 2 Zg9
noncomputable def Zhs: SmR:=Zae (rIf (ZZ (Zp (Za oLt (eVar 0) (Zb 1))) (ZZ (Zp (Za oGt (eVar 0) (eVar 1))) ZaD)) (Zbq 61 (eCons (Zo (Str.ofString "boxes are counted from 1 to the last one of the function")) eNil)) (rNo)) (ZB (ZZ (Zp (Za oLt (eVar 0) (Zb 1))) (ZZ (Zp (Za oGt (eVar 0) (eVar 1))) ZaD)) (PM.sNo) ZN) (rIf (Zp (Za oLe (eVar 0) (eVar 2))) (Zbq 73 (eCons (Zo (Str.ofString "a parameter can be laid into in the main function alone")) eNil)) (rNo))
noncomputable def ZeQ: List V→Hp→Option (Addr×Hp):=ZaQ 3 Zhs
noncomputable def ZhF: SmR:=rIf (Zp (Ze ZcS (eCons (eVar 0) (eCons (eVar 1) eNil)))) (Zbq 37 (eCons (Zo (Str.ofString "lo is above hi")) eNil)) (rNo)
noncomputable def Zgs: List V→Hp→Option (Addr×Hp):=ZaQ 2 ZhF
noncomputable def Zhh: SmR:=Zae (rIf (ZZ (Zp (Za oLt (eVar 0) (Zb 0))) (ZZ (Zp (Za oGe (eVar 0) (Ze Z2 (eCons (eVar 3) eNil)))) ZaD)) (Zbq 109 (eCons (Zo (Str.ofString "only a function ahead of this one can be called")) eNil)) (rNo)) (ZB (ZZ (Zp (Za oLt (eVar 0) (Zb 0))) (ZZ (Zp (Za oGe (eVar 0) (Ze Z2 (eCons (eVar 3) eNil)))) ZaD)) (PM.sNo) ZN) (Zae (rIf (Zp (Za oNe (Ze Z2 (eCons (eVar 1) eNil)) (Za Zh (eVar 3) (eVar 0)))) (Zbq 109 (eCons (Zo (Str.ofString "a call has one argument for each parameter")) eNil)) (rNo)) (ZB (Zp (Za oNe (Ze Z2 (eCons (eVar 1) eNil)) (Za Zh (eVar 3) (eVar 0)))) (PM.sNo) ZN) (Zbv (Zal (eVar 1)) (ZH 4) (rCall ZdS (eCons (eVar 4) (eCons (eVar 2) eNil))) (ZL (Ze Zcz (eCons (eVar 4) (eCons (eVar 2) eNil))))))
noncomputable def Zf4: List V→Hp→Option (Addr×Hp):=ZaQ 4 Zhh
noncomputable def Zhi: SmR:=rIf (Zp (Za ZU (Za Zh (eVar 0) (Zb 0)) (Zo (Str.ofString "any")))) (rCall Zgs (eCons (Za Zh (eVar 0) (Zb 2)) (eCons (Za Zh (eVar 0) (Zb 3)) eNil))) (rIf (Zp (Za ZU (Za Zh (eVar 0) (Zb 0)) (Zo (Str.ofString "call")))) (rCall Zf4 (eCons (Za Zh (eVar 0) (Zb 2)) (eCons (Za Zh (eVar 0) (Zb 3)) (eCons (eVar 1) (eCons (eVar 2) eNil))))) (Zae (rCall ZdS (eCons (Za Zh (eVar 0) (Zb 2)) (eCons (eVar 1) eNil))) (ZL (Ze Zcz (eCons (Za Zh (eVar 0) (Zb 2)) (eCons (eVar 1) eNil)))) (rIf (Zp (Za oIn (Za Zh (eVar 0) (Zb 0)) (ZY (eCons (Zo (Str.ofString "part")) (eCons (Zo (Str.ofString "rest")) eNil))))) (rCall ZeM (eCons (Za Zh (eVar 0) (Zb 3)) eNil)) (rNo))))
noncomputable def ZeN: List V→Hp→Option (Addr×Hp):=ZaQ 3 Zhi
noncomputable def Zhj(F:List V→Hp→Option (V×Hp))(R:List V→Hp→Option (Addr×Hp)): SmR:=Zbv (Zal (eVar 0)) (ZH 4) (rIf (Zp (Za ZU (Za Zh (eVar 4) (Zb 0)) (Zo (Str.ofString "say")))) (rCall Zdd (eCons (Za Zh (eVar 4) (Zb 1)) (eCons (eVar 1) eNil))) (rIf (Zp (Za oIn (Za Zh (eVar 4) (Zb 0)) (ZY (eCons (Zo (Str.ofString "if")) (eCons (Zo (Str.ofString "while")) eNil))))) (Zae (rCall Zdd (eCons (Za Zh (eVar 4) (Zb 1)) (eCons (eVar 1) eNil))) (ZL (Ze Zb9 (eCons (Za Zh (eVar 4) (Zb 1)) (eCons (eVar 1) eNil)))) (Zbv (Zal (Zbi (eVar 4) 2)) (ZH 5) (rCall R (eCons (eVar 5) (eCons (eVar 1) (eCons (eVar 2) (eCons (eVar 3) eNil))))) (ZL (Ze F (eCons (eVar 5) (eCons (eVar 1) (eCons (eVar 2) (eCons (eVar 3) eNil)))))))) (Zae (rCall ZeQ (eCons (Za Zh (eVar 4) (Zb 1)) (eCons (eVar 1) (eCons (eVar 2) eNil)))) (ZL (Ze ZcR (eCons (Za Zh (eVar 4) (Zb 1)) (eCons (eVar 1) (eCons (eVar 2) eNil))))) (rCall ZeN (eCons (eVar 4) (eCons (eVar 1) (eCons (eVar 3) eNil))))))) (ZB (Zp (Za ZU (Za Zh (eVar 4) (Zb 0)) (Zo (Str.ofString "say")))) (ZL (Ze Zb9 (eCons (Za Zh (eVar 4) (Zb 1)) (eCons (eVar 1) eNil)))) (ZB (Zp (Za oIn (Za Zh (eVar 4) (Zb 0)) (ZY (eCons (Zo (Str.ofString "if")) (eCons (Zo (Str.ofString "while")) eNil))))) (Zs (ZL (Ze Zb9 (eCons (Za Zh (eVar 4) (Zb 1)) (eCons (eVar 1) eNil)))) (ZaA (Zal (Zbi (eVar 4) 2)) (ZH 5) (ZL (Ze F (eCons (eVar 5) (eCons (eVar 1) (eCons (eVar 2) (eCons (eVar 3) eNil)))))))) (Zs (ZL (Ze ZcR (eCons (Za Zh (eVar 4) (Zb 1)) (eCons (eVar 1) (eCons (eVar 2) eNil))))) (ZL (Ze Zck (eCons (eVar 4) (eCons (eVar 1) (eCons (eVar 3) eNil))))))))
noncomputable def Zde: Nat→List V→Hp→Option (Addr×Hp)
 | 0=>fun _ _=>none
 | n+1=>ZaQ 4 (Zhj (Zb1 n) (Zde n))
noncomputable def Zht: List V→Hp→Option (Addr×Hp):=Zde 24
noncomputable def Zcw: SmR:=Zae (rNo) (Zy 2 (Za Zh (Za Zh (eVar 0) (eVar 1)) (Zb 0))) (Zae (rNo) (Zy 3 (Za Zh (Za Zh (eVar 0) (eVar 1)) (Zb 1))) (Zae (rIf (ZZ (Zp (Za oLt (eVar 3) (Zb 1))) (ZZ (Zp (Za oLt (eVar 2) (Zb 0))) (ZZ (Zp (Za oGt (eVar 2) (eVar 3))) ZaD))) (Zbq 49 (eCons (Zo (Str.ofString "a function has 1 box or more, and no more parameters than boxes")) eNil)) (rNo)) (ZB (ZZ (Zp (Za oLt (eVar 3) (Zb 1))) (ZZ (Zp (Za oLt (eVar 2) (Zb 0))) (ZZ (Zp (Za oGt (eVar 2) (eVar 3))) ZaD))) (PM.sNo) ZN) (Zae (rNo) (Zy 4 (eIf (Zp (Za ZU (eVar 1) (Za Zau (Ze Z2 (eCons (eVar 0) eNil)) (Zb 1)))) (Zb 0) (eVar 2))) (Zae (rNo) (Zy 5 (ZaS (Zal (Zby (eVar 0) ZbI (ZbJ (eVar 1)))) (ZH 100) ZaH (Za Zh (eVar 100) (Zb 0)))) (rCall Zht (eCons (Za Zh (Za Zh (eVar 0) (eVar 1)) (Zb 2)) (eCons (eVar 3) (eCons (eVar 4) (eCons (eVar 5) eNil)))))))))
noncomputable def Zcj: List V→Hp→Option (Addr×Hp):=ZaQ 2 Zcw
noncomputable def Zcy: SmR:=Zae (rIf (Zp (Za ZU (Ze Z2 (eCons (eVar 0) eNil)) (Zb 0))) (Zbq 49 (eCons (Zo (Str.ofString "there is no function")) eNil)) (rNo)) (ZB (Zp (Za ZU (Ze Z2 (eCons (eVar 0) eNil)) (Zb 0))) (PM.sNo) ZN) (Zbv (ZaN (eCons (Ze Z2 (eCons (eVar 0) eNil)) eNil)) (ZH 1) (rCall Zcj (eCons (eVar 0) (eCons (eVar 1) eNil))) (ZL (Ze ZcN (eCons (eVar 0) (eCons (eVar 1) eNil)))))
noncomputable def Zcl: List V→Hp→Option (Addr×Hp):=ZaQ 1 Zcy
noncomputable def Zf6: Sm:=Zs (Zy 2 (ZM eNil)) (Zs (ZaA (Zal (Zby (eVar 0) ZbI (ZbJ (Zb 2)))) (ZH 3) (Zs (Zy 4 (Za oMod (Za ZbX (eVar 3) (Zb 48271)) (Zb 1000003))) (Zs (Zy 5 (Za Zh (ZM (eCons (Zo (Str.ofString "NoShape")) (eCons (Zo (Str.ofString "NoBox")) (eCons (Zo (Str.ofString "FixedBox")) (eCons (Zo (Str.ofString "NoSum")) (eCons (Zo (Str.ofString "NoStep")) (eCons (Zo (Str.ofString "NoStretch")) (eCons (Zo (Str.ofString "NoCall")) eNil)))))))) (Za oMod (eVar 4) (Zb 7)))) (Zs (Zy 6 (ZaS (ZaN (eCons (Ze Z2 (eCons (eVar 1) eNil)) eNil)) (ZH 100) (Zp (Za ZU (Za Zh (eVar 1) (eVar 100)) (eVar 5))) (Za ZO (eVar 100) (Zb 1)))) (ZB (Za1 (Zp (Za oGt (Ze Z2 (eCons (eVar 6) eNil)) (Zb 0))) (Za1 (Zp (Za oGt (Za oMod (Za oDiv (eVar 4) (Zb 7)) (Zb 8)) (Zb 0))) ZaH)) (ZL (Zbm (eVar 2) (Za Zh (eVar 6) (Za oMod (Za oDiv (eVar 4) (Zb 56)) (Ze Z2 (eCons (eVar 6) eNil)))))) ZN))))) (ZQ (eVar 2)))
noncomputable def Zf7:=Z3 2 Zf6
noncomputable def Zf8: PS:=(Zx (Zb0 2 (Zat Zq)) (Zx (Zch (ZcL (Zec (Zc 0) Ze7 (Ze8 (Zm 2)))) (ZaE 3) (Zx (Zb0 4 (Zl Zbd (Zl ZbZ (Zc 3) (Zm 48271)) (Zm 1000003))) (Zx (Zb0 5 (Zl ZT (Zat (Zd (ZR (Str.ofString "NoShape")) (Zd (ZR (Str.ofString "NoBox")) (Zd (ZR (Str.ofString "FixedBox")) (Zd (ZR (Str.ofString "NoSum")) (Zd (ZR (Str.ofString "NoStep")) (Zd (ZR (Str.ofString "NoStretch")) (Zd (ZR (Str.ofString "NoCall")) Zq)))))))) (Zl Zbd (Zc 4) (Zm 7)))) (Zx (Zb0 6 (Zce (Zb3 (Zd (Zak ZbE (Zd (Zc 1) Zq)) Zq)) (ZaE 100) (Zac (Zl qEq (Zl ZT (Zc 1) (Zc 100)) (Zc 5))) (Zl Zay (Zc 100) (Zm 1)))) (qIf (ZbD (Zac (Zl qGt (Zak ZbE (Zd (Zc 6) Zq)) (Zm 0))) (ZbD (Zac (Zl qGt (Zl Zbd (Zl Zb7 (Zc 4) (Zm 7)) (Zm 8)) (Zm 0))) ZbK)) (Zct 2 [] ZaT (ZaZ (Zl ZT (Zc 6) (Zl Zbd (Zl Zb7 (Zc 4) (Zm 56)) (Zak ZbE (Zd (Zc 6) Zq)))))) Zaj))))) (ZcM (Zc 2))))
noncomputable def ZeR:=Zcu 2 Zf8
theorem ZjO: SimF true Zf7 ZeR:=SimF.of (show S [] [2] [] true Zf6 Zf8 from(ZcZ (ZlO (O':=[2]) (E.list ZF)) (ZcZ (ZmP (Gs.seq (Zk0 (Zj 0) Pe.none (Pe.some (Zn _)))) PutOk.one (by decide) (by decide) (ZcZ (ZgV (O':=[2]) (ZE ZbM (Za4 Zen (Zj 3) (Zn _)) (Zn _))) (ZcZ (ZgV (O':=[2]) (Z5 Z6 (E.list (ZA (E.str _) (ZA (E.str _) (ZA (E.str _) (ZA (E.str _) (ZA (E.str _) (ZA (E.str _) (ZA (E.str _) ZF)))))))) (ZE ZbM (Zj 4) (Zn _)))) (ZcZ (ZgV (O':=[2]) (Zk2 (Gs.range (ZA (Zbf Zb5 (ZA (Zj 1) ZF)) ZF)) PutOk.one (by decide) (Zah (ZE ZaV (Z5 Z6 (Zj 1) (Zj 100)) (Zj 5))) (Za4 Za0 (Zj 100) (Zn _)))) (ZgW (Zcc (Zah (ZE Zc4 (Zbf Zb5 (ZA (Zj 6) ZF)) (Zn _))) (Zcc (Zah (ZE Zc4 (ZE ZbM (ZE Zdv (Zj 4) (Zn _)) (Zn _)) (Zn _))) ZcD)) (S.app (O':=[2]) (by decide) ZgN (Zej (O':=[]) (E.flat (Z5 Z6 (Zj 6) (ZE ZbM (ZE Zdv (Zj 4) (Zn _)) (Zbf Zb5 (ZA (Zj 6) ZF)))))) (by decide) (by decide)) ZgM))))) (Ze9 (E.own)))))
end L
end
section
open PySem PySem.W PyProof.Rows PM TM My
local macro_rules|`(tactic|tm_at "r")=>`(tactic|first|(with_reducible assumption)|(with_reducible exact Zgj)|(((with_reducible apply Zij);decide;tm_at "r"))|(((with_reducible apply Zh0);decide;tm_at "r"))|(exact rfl)|(assumption))
local macro_rules|`(tactic|walk_at "r")=>`(tactic|first | tm_at "r" | fail)
local macro_rules|`(tactic|tm_at "y")=>`(tactic|first|(rfl)|((with_reducible assumption))|((simp only[Bool.not_eq_true',Bool.not_eq_false',decide_eq_true_eq,decide_eq_false_iff_not,beq_iff_eq,beq_eq_false_iff_ne,ne_eq,Bool.not_true,Bool.not_false,not_false_eq_true,not_true_eq_false,bne_iff_ne,Decidable.not_not,List.length_map] <;> first | done | omega | assumption)))
local macro_rules|`(tactic|walk_at "y")=>`(tactic|first | tm_at "y" | fail)
local macro_rules|`(tactic|tm_at "f")=>`(tactic|first|(rfl)|(exact Zik)|(exact flat_prT)|(exact flatIn_tab fun i hi=>by(first | rfl | exact Zik | exact flat_prT)))
local macro_rules|`(tactic|walk_at "f")=>`(tactic|first | tm_at "f" | fail)
local macro_rules|`(tactic|tm_at "o")=>`(tactic|first|(with_reducible first|refine Zl6 ?_|refine Zl7 ?_|refine Zl8 ?_|refine tk_lt ?_|refine tk_le ?_|refine ZmU ?_|refine tk_ge ?_|refine Zmb ?_|refine Zmc ?_|refine Zmd ?_|refine ZmV ?_|refine tk_ne ?_|refine tk_eqb ?_|refine tk_neb ?_|refine tk_isn ?_|refine tk_isi ?_|refine tk_isl ?_|refine tk_ist ?_|refine tk_notn ?_|refine tk_noti ?_|refine tk_notl ?_|refine tk_nott ?_|refine tk_lenT ?_|refine Zme ?_|refine tk_lent ?_)|(((with_reducible apply tk_idxN);(first | assumption | omega)))|(((with_reducible apply tk_idxT);(first | decide | omega);(first | decide | omega)))|(((with_reducible apply Zld);(first | decide | omega);rfl))|(((with_reducible apply Zar);(first | decide | omega);rfl))|(((with_reducible apply tk_addC);omega))|(with_reducible first|refine tk_list1 ?_|refine tk_list1t ?_|refine Zle ?_|refine tk_all ?_|refine tk_any ?_)|(((with_reducible apply Zl9);(first | decide | omega))))
local macro_rules|`(tactic|walk_at "o")=>`(tactic|first | tm_at "o" | fail)
local macro_rules|`(tactic|tm_at "1")=>`(tactic|first|(with_reducible first|refine ZlU ?_|refine ZmQ ?_|refine Zk5 ?_|refine ZlV ?_|refine ZlW ?_|refine Zk6 ?_|refine Zk4 ?_|refine Zk7 ?_|refine ZmR ?_|refine tk_if ?_|refine tk_not ?_|refine tk_and ?_|refine ZmS ?_|refine ZmT ?_|refine ZlX ?_|refine Zk8 ?_|refine Zk9 ?_|refine ZkD ?_|refine Zla ?_|refine ZlY ?_|refine ZjX ?_|refine tk_truth_n ?_|refine Zlb ?_|refine ZlZ ?_|refine Zl0 ?_|refine tk_exp ?_|refine Zl1 ?_|refine Zl2 ?_|refine ZlR ?_|refine ZlS ?_|refine Zk3 ?_|refine ZlT ?_)|(((with_reducible apply ZiK);tm_at "r"))|(((with_reducible apply Zl4);tm_at "y"))|(((with_reducible apply Zl5);tm_at "y"))|(((with_reducible apply Zl3);rfl))|((refine And.intro (show isObT _=false from rfl) ?_))|((refine And.intro (show T.flat _ = true by walk_at "f") ?_))|((refine And.intro (show T.flatIn _ = true by walk_at "f") ?_))|(with_reducible first|refine Zlf ?_|refine Sq.lst ?_|refine Sq.tup ?_|refine ZkE ?_)|(((with_reducible apply Rn.one);omega))|(with_reducible first|refine tk_zip ?_|refine tk_enum ?_|refine EnP.tab ?_|refine tk_chain ?_|refine Zi.eq ?_|refine Zi.mn ?_|refine Zmf ?_|refine tk_appM ?_|refine tk_put ?_|refine tk_put2 ?_)|(((with_reducible apply AppP.of);tm_at "r";(first | (rw[Zcn];omega) | (simp;done))))|(((with_reducible apply AppQ.of);tm_at "r";(first | (rw[Zcn];omega) | (simp;done))))|(((with_reducible apply PutP.tab);tm_at "r";(first | assumption | omega)))|(((with_reducible apply Put2.tab);tm_at "r";(first | assumption | omega);(first | assumption | omega)))|(tm_at "o"))
local macro_rules|`(tactic|walk_at "1")=>`(tactic|first | tm_at "1" | fail)
local macro_rules|`(tactic|tm_at "tr")=>`(tactic|first|(with_reducible assumption)|(with_reducible first|exact Zgj|exact Zkg)|(((with_reducible apply Zij);decide;tm_at "tr"))|(((with_reducible apply Zly);decide;tm_at "tr"))|(((with_reducible apply Zj0);decide;tm_at "tr"))|(((with_reducible apply ZkM);tm_at "tr"))|(((with_reducible apply Zh0);decide;tm_at "tr"))|(exact rfl)|(assumption))
local macro_rules|`(tactic|walk_at "tr")=>`(tactic|first | tm_at "tr" | fail)
local macro_rules|`(tactic|tm_at "t1")=>`(tactic|first|(with_reducible first|refine ZaG ?_|refine Zmq ?_|refine Zmp ?_|refine ZmX ?_|refine Zmr ?_|refine Zls ?_|refine Zlt ?_|refine ZkI ?_|refine Zne ?_|refine Znf ?_|refine Zmn ?_|refine tx_not ?_|refine Zmo ?_|refine ZmW ?_|refine Zlr ?_|refine ZkH ?_|refine tx_callT ?_|refine ZkL ?_)|(((with_reducible apply Zlx);tm_at "tr"))|(((with_reducible refine Zlu ?hd ?h);(case hd=>decide)))|(((with_reducible refine Zlv ?hd ?h);(case hd=>decide)))|(with_reducible first|refine Zms ?_|refine tx_put ?_)|(((with_reducible apply ZiK);tm_at "tr"))|(((with_reducible apply Zee);rfl))|(tm_at "1"))
local macro_rules|`(tactic|walk_at "t1")=>`(tactic|first | tm_at "t1" | fail)
local macro_rules|`(tactic|walk_at "z")=>`(tactic|repeat' (first | tm_at "1" | fail))
local macro_rules|`(tactic|walk_at "tz")=>`(tactic|repeat' (first | tm_at "t1" | fail))
open PySem PM TM
namespace L
variable {K:Hp} {v:V} {P:Nat→Prop} {ts:List T}
noncomputable def bxT(bs:List Int): T:=.lst (bs.map T.int)
noncomputable def RFo(K:Hp)(v:V)(t:T)(P:Nat→Prop): Prop:=∃F,RF K v t F∧∀a∈F,P a
theorem RFo.keep{K':Hp}{t:T}(r:RFo K v t P)(h:∀a,P a→a<K.length→K'[a]?=K[a]?): RFo K' v t P:=by
 obtain⟨F,r,p⟩:=r
 exact⟨F,r.frame fun a m=>h a (p a m) (r.lt a m),p⟩
theorem RFo.lst(r:RFo K v (.lst ts) P): ∃b vs,v=.ref b∧K[b]?=some vs∧P b∧(∃F,RFs K vs ts F∧∀a∈F,P a):=by
 obtain⟨F,r,p⟩:=r
 cases r with
 | ref e hs=>exact⟨_,_,rfl,e,p _ Zz5,_,hs,fun a m=>p a (Zz2 _ m)⟩
theorem RFo.tup(r:RFo K v (.tup ts) P): ∃vs,v=.tup vs∧(∃F,RFs K vs ts F∧∀a∈F,P a):=by
 obtain⟨F,r,p⟩:=r
 cases r with
 | tup hs=>exact⟨_,rfl,_,hs,p⟩
theorem RFo.int{k:Int}(r:RFo K v (.int k) P): v=.int k:=by
 obtain⟨F,r,_⟩:=r
 cases r
 rfl
theorem RFo.str{k:Str}(r:RFo K v (.str k) P): v=.str k:=by
 obtain⟨F,r,_⟩:=r
 cases r
 rfl
theorem Zfe{vs:List V}{j:Nat}{t:T}(r:∃F,RFs K vs ts F∧∀a∈F,P a)(e:ts[j]?=some t): ∃v,vs[j]?=some v∧RFo K v t P:=by
 obtain⟨F,r,p⟩:=r
 obtain⟨v,G,h1,h2,h3⟩:=r.at e
 exact⟨v,h1,G,h2,fun a m=>p a (h3.subset m)⟩
theorem Zh3{K:Hp}: ∀{ts:List T} {ks:List Int} {vs:List V} {F:List Nat},Zem ts=some ks→RFs K vs ts F→vs=ks.map V.int∧F=[]∧ts=ks.map T.int
 | [],ks,vs,F,e,r=>by cases r;cases e;exact⟨rfl,rfl,rfl⟩
 | .int k::ts,ks,vs,F,e,r=>by
  obtain⟨js,e1,e2⟩:=Zz1.mp e
  subst e2
  cases r with
  | cons a b=>
   cases a
   obtain⟨rfl,rfl,rfl⟩:=Zh3 e1 b
   exact⟨rfl,rfl,rfl⟩
theorem ZiW: ∀ks:List Int,Zem (ks.map T.int)=some ks
 | []=>rfl
 | k::ks=>by simp[Zem,ZiW ks]
theorem Zmw{b:Nat}{bs:List Int}(e:K[b]?=some (bs.map V.int)): RF K (.ref b) (bxT bs) [b]:=.ref e (by
 have:∀ks:List Int,RFs K (ks.map V.int) (ks.map T.int) []:=fun ks=>by
  induction ks with
  | nil=>exact .nil
  | cons k ks ih=>exact .cons (.int k) ih
 exact this bs)
theorem Zmx{a b:Str}(ha:PyData.strOk a=true)(hb:PyData.strOk b=true)(H:Hp): ZU (.str a) (.str b) H=some (.bool (decide (a=b)),H):=by
 simp[ZU,Zb6,toD,SeqAt.shaped,PyData.canLay0,PyData.depth,PyData.eqv,ha,hb]
 rfl
theorem ZcW{a b:Sm}{ρ ρ1:Lc}{H H1:Hp}(h:a ρ H=some (none,ρ1,H1)): Zs a b ρ H=b ρ1 H1:=by simp[Zs,h]
end L
open PySem PM TM
namespace L
noncomputable def ZK(a b:Option Addr): Option Addr:=match a with
 | some C=>some C
 | none=>b
noncomputable def OutF(f:List V→Hp→Option (V×Hp))(r:List V→Hp→Option (Addr×Hp))(as:List V)(H:Hp)(o:Option Addr): Prop:=(o=none→(∃v,f as H=some (v,H))∧r as H=none)∧∀C,o=some C→r as H=some (C,H)
noncomputable def OutS(a:Sm)(ar:SmR)(ρ:Lc)(H:Hp)(o:Option Addr): Prop:=(o=none→a ρ H=some (none,ρ,H)∧ar ρ H=none)∧∀C,o=some C→ar ρ H=some (C,H)
noncomputable def OutE(a:Sm)(ar:SmR)(ρ:Lc)(H:Hp)(o:Option Addr): Prop:=(o=none→(∃u ρ',a ρ H=some (u,ρ',H))∧ar ρ H=none)∧∀C,o=some C→ar ρ H=some (C,H)
section
variable {f:List V→Hp→Option (V×Hp)} {r:List V→Hp→Option (Addr×Hp)} {as:List V} {H:Hp} {o o2:Option Addr} {a b:Sm} {ar br:SmR} {ρ:Lc} {es:ZW} {t:Ts} {c:Bool} {n:Nat}
theorem OutS.e(h:OutS a ar ρ H o): OutE a ar ρ H o:=⟨fun e=>⟨⟨_,_,(h.1 e).1⟩,(h.1 e).2⟩,h.2⟩
theorem OutS.call(k:OutF f r as H o)(e:es ρ H=some (as,H)): OutS (ZL (Ze f es)) (rCall r es) ρ H o:=by
 refine⟨fun z=>?_,fun C z=>?_⟩
 ·obtain⟨⟨v,h1⟩,h2⟩:=k.1 z
  exact⟨by simp[ZL,Ze,e,h1],by simp[rCall,e,h2]⟩
 ·simp[rCall,e,k.2 C z]
theorem OutE.seq(h1:OutS a ar ρ H o)(h2:OutE b br ρ H o2): OutE (Zs a b) (Zae ar a br) ρ H (ZK o o2):=by
 cases o with
 | some C=>exact⟨fun z=>(by cases z),fun C' z=>by
   cases z
   simp[Zae,h1.2 C rfl]⟩
 | none=>
  obtain⟨e1,e2⟩:=h1.1 rfl
  refine⟨fun z=>?_,fun C z=>?_⟩
  ·obtain⟨⟨u,ρ',k1⟩,k2⟩:=h2.1 z
   exact⟨⟨u,ρ',by simp[Zs,e1,k1]⟩,by simp[Zae,e2,e1,k2]⟩
  ·simp[Zae,e2,e1,h2.2 C z]
theorem OutE.head(h1:OutS a ar ρ H o)(h2:∃u ρ',b ρ H=some (u,ρ',H)): OutE (Zs a b) ar ρ H o:=by
 refine⟨fun z=>?_,h1.2⟩
 obtain⟨e1,e2⟩:=h1.1 z
 obtain⟨u,ρ',k⟩:=h2
 exact⟨⟨u,ρ',by simp[Zs,e1,k]⟩,e2⟩
theorem OutS.yes(ht:t ρ H=some (true,H))(h:OutS a ar ρ H o): OutS (ZB t a b) (rIf t ar br) ρ H o:=⟨fun z=>⟨by simp[ZB,ht,(h.1 z).1],by simp[rIf,ht,(h.1 z).2]⟩,fun C z=>by simp[rIf,ht,h.2 C z]⟩
theorem OutS.no(ht:t ρ H=some (false,H))(h:OutS b br ρ H o): OutS (ZB t a b) (rIf t ar br) ρ H o:=⟨fun z=>⟨by simp[ZB,ht,(h.1 z).1],by simp[rIf,ht,(h.1 z).2]⟩,fun C z=>by simp[rIf,ht,h.2 C z]⟩
theorem OutS.next: OutS ZN rNo ρ H none:=⟨fun _=>⟨rfl,rfl⟩,fun C z=>by cases z⟩
theorem OutS.raise{C:Addr}{x:Str}: OutS PM.sNo (Zbq C (eCons (Zo x) eNil)) ρ H (some C):=⟨fun z=>(by cases z),fun C' z=>by cases z;simp[Zbq,eCons,Zo,eNil,Zav]⟩
theorem ZcT{C:Addr}{x:Str}(ht:t ρ H=some (c,H)): OutS (ZB t PM.sNo ZN) (rIf t (Zbq C (eCons (Zo x) eNil)) rNo) ρ H (if c then some C else none):=by
 cases c with
 | true=>exact .yes ht .raise
 | false=>exact .no ht .next
theorem OutF.of{g:Sm}{rg:SmR}(hl:as.length=n)(h:OutE g rg (fun i=>as[i]?) H o): OutF (Z3 n g) (ZaQ n rg) as H o:=by
 refine⟨fun z=>?_,fun C z=>by simp[ZaQ,hl,h.2 C z]⟩
 obtain⟨⟨u,ρ',k⟩,k2⟩:=h.1 z
 exact⟨⟨u.getD .none,by simp[Z3,hl,k]⟩,by simp[ZaQ,hl,k2]⟩
end
end L
open PySem PM TM
namespace L
noncomputable abbrev Rt(H:Hp)(v:V)(t:T): Prop:=RFo H v t fun _=>True
noncomputable def ckS(n:Int)(l:Nat): Option Addr:=if(l:Int)≠n+1 then some 85 else none
noncomputable def ckD(d:Int): Option Addr:=if d<1 then some 97 else none
noncomputable def ckB(n fx x:Int): Option Addr:=if x<1∨n<x then some 61 else if x≤fx then some 73 else none
noncomputable def ckA(lo hi:Option Int): Option Addr:=match lo,hi with
 | some a,some b=>if b<a then some 37 else none
 | _,_=>none
section
variable {H:Hp} {v:V} {n fx x d:Int} {ts:List T}
theorem Ze3{p:Prop}[Decidable p]{C:Addr}: (if decide p=true then some C else none)=if p then some C else none:=by simp
theorem ZiX{a b:Int}: oNe (.int a) (.int b) H=some (.bool (decide (a≠b)),H):=by
 simp[oNe,Zb6,toD,SeqAt.shaped,PyData.canLay0,PyData.depth,PyData.eqv]
 rfl
theorem ZiY{a b:Int}: ZU (.int a) (.int b) H=some (.bool (decide (a=b)),H):=by
 simp[ZU,Zb6,toD,SeqAt.shaped,PyData.canLay0,PyData.depth,PyData.eqv]
 rfl
theorem ZgP{w a b:Str}(hw:PyData.strOk w=true)(ha:PyData.strOk a=true)(hb:PyData.strOk b=true): oIn (.str w) (.tup [.str a,.str b]) H=some (.bool (decide (w=a∨w=b)),H):=by
 have hd:toD H ZaF (V.tup [V.str a,V.str b])=some (.tuple [.str a,.str b]):=rfl
 have hw':toD H ZaF (V.str w)=some (.str w):=rfl
 have e:(decide (w=a∨w=b))=((a == w) || ((b == w) || false)):=by
  by_cases c1:w=a
  ·subst c1;simp
  ·by_cases c2:w=b
   ·subst c2;simp
   ·simp[c1,c2,Ne.symm c1,Ne.symm c2]
 rw[e]
 have hi:inD (.str w) (.tuple [.str a,.str b])=some ((a == w) || ((b == w) || false)):=by
  show(if PyData.canLayAll0 [.str a,.str b]=true∧(PyData.str w).canLay0=true∧(PyData.str w).depth≤64 then some (([.str a,.str b]:List PyData).any fun y=>y.eqv (PyData.str w))else none)=_
  rw[if_pos ⟨by simp[PyData.canLayAll0,PyData.canLay0,ha,hb],by simp[PyData.canLay0,hw],by simp[PyData.depth]⟩]
  rfl
 simp only[oIn,Zev,hd,hw',Zs0,hi,Zs1]
theorem ZdO(r:Rt H v (.lst ts)): OutF Zcz ZdS [v,.int n] H (ckS n ts.length):=by
 obtain⟨b,vs,rfl,e,_,F,rs,_⟩:=r.lst
 have hl:=rs.length
 unfold ckS
 rw[←Ze3]
 refine OutF.of rfl (OutS.e (ZcT ?_))
 have:=@ZiX H ts.length (n+1)
 simp[Zp,Za,Ze,eCons,eVar,eNil,Z2,e,hl,ZO,Zb,this,Z9]
 try rfl
theorem Zha: OutF ZeK ZeM [.int d] H (ckD d):=by
 unfold ckD
 rw[←Ze3]
 refine OutF.of rfl (OutS.e (ZcT ?_))
 simp[Zp,Za,eVar,Zb,oLt,Zbb,Z9]
theorem ZjB: OutF ZcR ZeQ [.int x,.int n,.int fx] H (ckB n fx x):=by
 have:ckB n fx x=ZK (if decide (x<1∨n<x)=true then some 61 else none) (if decide (x≤fx)=true then some 73 else none):=by
  unfold ckB
  by_cases c:x<1∨n<x
  ·simp[c,ZK]
  ·simp[c,ZK]
 rw[this]
 refine OutF.of rfl (OutE.seq (ZcT ?_) (OutS.e (ZcT ?_)))
 ·by_cases c:x<1
  ·simp[ZZ,ZaD,Zp,Za,eVar,Zb,oLt,oGt,Zbb,Z9,c]
  ·by_cases c2:n<x
   ·simp[ZZ,ZaD,Zp,Za,eVar,Zb,oLt,oGt,Zbb,Z9,c,c2]
   ·simp[ZZ,ZaD,Zp,Za,eVar,Zb,oLt,oGt,Zbb,Z9,c,c2]
 ·simp[Zp,Za,eVar,oLe,Zbb,Z9]
theorem Zff{a b:Str}(ha:PyData.strOk a=true)(hb:PyData.strOk b=true): ZU (.str a) (.str b) H=some (.bool (decide (a=b)),H):=Zmx ha hb H
theorem Rt.tupv{us:List T}(r:Rt H v (.tup us)): ∃vs,v=.tup vs∧vs.length=us.length∧∀(i:Nat) t,us[i]?=some t→∃u,vs[i]?=some u∧Rt H u t:=by
 obtain⟨vs,rfl,F,rs,h⟩:=r.tup
 exact⟨vs,rfl,rs.length,fun i t e=>Zfe ⟨F,rs,h⟩ e⟩
theorem Za3{vs:List V}{k:Int}{i:Nat}{u:V}(e:vs[i]?=some u)(hk:k=(i:Int)): Zh (.tup vs) (.int k) H=some (u,H):=by
 subst hk
 have hi:=(Zz6.mp e).1
 have:seqIndex? (i:Int) vs.length=some i:=by
  unfold seqIndex?
  simp
  omega
 simp[Zh,this,e]
noncomputable def Zer: Str:=Str.ofString "even"
inductive Cl12(n:Int): T→Option Addr→Prop where
 | two {w:Str} {s:List T}:PyData.strOk w=true→w≠Zer→Cl12 n (.tup [.str w,.lst s]) (ckS n s.length)
 | even {s:List T} {d:Int}:Cl12 n (.tup [.str Zer,.lst s,.int d]) (ZK (ckS n s.length) (ckD d))
theorem ZfH{c:T}{o:Option Addr}(r:Rt H v c)(h:Cl12 n c o): OutF Zb9 Zdd [v,.int n] H o:=by
 have se:PyData.strOk Zer=true:=by decide +kernel
 cases h with
 | @two w s hw hne=>
  obtain⟨vs,rfl,hl,at_⟩:=r.tupv
  obtain⟨u0,e0,r0⟩:=at_ 0 _ rfl
  obtain⟨u1,e1,r1⟩:=at_ 1 _ rfl
  have:=r0.str;subst this
  have hs:ckS n s.length=ZK (ckS n s.length) none:=by unfold ZK;split <;> simp_all
  rw[hs]
  refine OutF.of rfl (OutE.seq (OutS.call (ZdO r1) ?_) (OutS.e (OutS.no ?_ OutS.next)))
  ·have:Zh (.tup vs) (.int 1) H=some (_,H):=Za3 e1 rfl
   simp[eCons,Za,eVar,Zb,eNil,this]
  ·have i0:Zh (.tup vs) (.int 0) H=some (_,H):=Za3 e0 rfl
   have:=@Zff H w (Str.ofString "even") hw se
   simp[Zp,Za,eVar,Zb,Zo,i0,this,Z9]
   exact hne
 | @even s d=>
  obtain⟨vs,rfl,hl,at_⟩:=r.tupv
  obtain⟨u0,e0,r0⟩:=at_ 0 _ rfl
  obtain⟨u1,e1,r1⟩:=at_ 1 _ rfl
  obtain⟨u2,e2,r2⟩:=at_ 2 _ rfl
  have:=r0.str;subst this
  have:=r2.int;subst this
  refine OutF.of rfl (OutE.seq (OutS.call (ZdO r1) ?_) (OutS.e (OutS.yes ?_ (OutS.call Zha ?_))))
  ·have:Zh (.tup vs) (.int 1) H=some (_,H):=Za3 e1 rfl
   simp[eCons,Za,eVar,Zb,eNil,this]
  ·have i0:Zh (.tup vs) (.int 0) H=some (_,H):=Za3 e0 rfl
   have:=@Zff H Zer (Str.ofString "even") se se
   simp[Zp,Za,eVar,Zb,Zo,i0,this,Z9]
   rfl
  ·have:Zh (.tup vs) (.int 2) H=some (_,H):=Za3 e2 rfl
   simp[eCons,Za,eVar,Zb,eNil,this]
noncomputable def oV: Option Int→V
 | none=>.none
 | some x=>.int x
theorem Zjj{o:Option Int}(r:Rt H v (oT o)): v=oV o:=by
 obtain⟨F,r,_⟩:=r
 cases o with
 | none=>cases r;rfl
 | some x=>cases r;rfl
theorem ZjP{lo hi:Option Int}: OutF Zgr Zgs [oV lo,oV hi] H (ckA lo hi):=by
 have key:∃c:Bool,ZcS [oV lo,oV hi] H=some (.bool c,H)∧ckA lo hi=if c then some 37 else none:=by
  cases lo with
  | none=>exact⟨false,by simp[ZcS,ZdZ,Z3,ZQ,ZcI,Za,eVar,Zba,oV,Zcb,oIs,Z9],by simp[ckA]⟩
  | some a=>
   cases hi with
   | none=>exact⟨false,by simp[ZcS,ZdZ,Z3,ZQ,ZcI,Za,eVar,Zba,oV,Zcb,oIs,Z9],by simp[ckA]⟩
   | some b=>exact⟨decide (b<a),by simp[ZcS,ZdZ,Z3,ZQ,ZcI,Za,eVar,Zba,oV,Zcb,oIs,Z9,oGt,Zbb],by simp[ckA]⟩
 obtain⟨c,e,hc⟩:=key
 rw[hc]
 refine OutF.of rfl (OutE.head (ZcT ?_) ⟨some (.tup [oV lo,oV hi]),_,by simp[ZQ,ZY,eCons,eVar,eNil,Zav];rfl⟩)
 simp[Zp,Ze,eCons,eVar,eNil,e,Z9]
end
end L
open PySem PM TM
namespace L
noncomputable def OutP(P:Lc→Prop)(a:Sm)(ar:SmR)(ρ:Lc)(H:Hp)(o:Option Addr): Prop:=(o=none→(∃ρ',a ρ H=some (none,ρ',H)∧P ρ')∧ar ρ H=none)∧∀C,o=some C→ar ρ H=some (C,H)
section
variable {P P':Lc→Prop} {H:Hp} {o o2:Option Addr} {a b:Sm} {ar br:SmR} {ρ:Lc} {t:Ts}
theorem OutP.e(h:OutP P a ar ρ H o): OutE a ar ρ H o:=⟨fun z=>by
 obtain⟨⟨ρ',k,_⟩,k2⟩:=h.1 z
 exact⟨⟨_,_,k⟩,k2⟩,h.2⟩
theorem ZcF(h:OutS a ar ρ H o)(hP:P ρ): OutP P a ar ρ H o:=⟨fun z=>⟨⟨ρ,(h.1 z).1,hP⟩,(h.1 z).2⟩,h.2⟩
theorem OutP.seq(h1:OutS a ar ρ H o)(h2:o=none→OutP P b br ρ H o2): OutP P (Zs a b) (Zae ar a br) ρ H (ZK o o2):=by
 cases o with
 | some C=>exact⟨fun z=>(by cases z),fun C' z=>by
   cases z
   simp[Zae,h1.2 C rfl]⟩
 | none=>
  have h2:=h2 rfl
  obtain⟨e1,e2⟩:=h1.1 rfl
  refine⟨fun z=>?_,fun C z=>?_⟩
  ·obtain⟨⟨ρ',k1,kP⟩,k2⟩:=h2.1 z
   exact⟨⟨ρ',by simp[Zs,e1,k1],kP⟩,by simp[Zae,e2,e1,k2]⟩
  ·simp[Zae,e2,e1,h2.2 C z]
theorem OutP.yes(ht:t ρ H=some (true,H))(h:OutP P a ar ρ H o): OutP P (ZB t a b) (rIf t ar br) ρ H o:=⟨fun z=>by
 obtain⟨⟨ρ',k,kP⟩,k2⟩:=h.1 z
 exact⟨⟨ρ',by simp[ZB,ht,k],kP⟩,by simp[rIf,ht,k2]⟩,fun C z=>by simp[rIf,ht,h.2 C z]⟩
theorem OutP.no(ht:t ρ H=some (false,H))(h:OutP P b br ρ H o): OutP P (ZB t a b) (rIf t ar br) ρ H o:=⟨fun z=>by
 obtain⟨⟨ρ',k,kP⟩,k2⟩:=h.1 z
 exact⟨⟨ρ',by simp[ZB,ht,k],kP⟩,by simp[rIf,ht,k2]⟩,fun C z=>by simp[rIf,ht,h.2 C z]⟩
theorem ZhN{nx:Nx}{i:Nat}{xs:List V}{os:List (Option Addr)}(hn:∀j:Nat,nx j H=some xs[j]?)(hl:os.length=xs.length)(h:∀(j:Nat) (v:V) (o:Option Addr) (ρ:Lc),xs[j]?=some v→os[j]?=some o→P ρ→OutP P a ar (upd ρ i v) H o): ∀(k j:Nat) (ρ:Lc),j≤xs.length→k=xs.length+1-j→P ρ→OutP P (ZaR nx (ZH i) a k j) (ZbB nx (ZH i) ar a k j) ρ H ((os.drop j).foldr ZK none)
 | 0,j,ρ,h1,h2,_=>by omega
 | k+1,j,ρ,h1,h2,hP=>by
  by_cases c:j<xs.length
  ·have ej:xs[j]?=some xs[j]:=Zy1 c
   have eo:os[j]?=some os[j]:=Zy1 (by omega)
   have ed:os.drop j=os[j]::os.drop (j+1):=List.drop_eq_getElem_cons (by omega)
   obtain⟨g1,g2⟩:=h j _ _ ρ ej eo hP
   rw[ed]
   simp only[List.foldr_cons]
   cases ho:os[j]with
   | some C=>
    refine⟨fun z=>(by cases z),fun C' z=>?_⟩
    cases z
    simp[ZbB,hn,ej,ZH,Zae,g2 C ho]
   | none=>
    obtain⟨⟨ρ',e1,hP'⟩,e2⟩:=g1 ho
    obtain⟨i1,i2⟩:=ZhN hn hl h k (j+1) ρ' (by omega) (by omega) hP'
    refine⟨fun z=>?_,fun C z=>?_⟩
    ·obtain⟨⟨ρ2,k1,kP⟩,k2⟩:=i1 z
     exact⟨⟨ρ2,by simp[ZaR,hn,ej,ZH,e1,k1],kP⟩,by simp[ZbB,hn,ej,ZH,Zae,e2,e1,k2]⟩
    ·simp[ZbB,hn,ej,ZH,Zae,e2,e1,i2 C z]
  ·have:j=xs.length:=by omega
   subst this
   have:os.drop xs.length=[]:=List.drop_eq_nil_of_le (by omega)
   rw[this]
   exact⟨fun _=>⟨⟨ρ,by simp[ZaR,hn],hP⟩,by simp[ZbB,hn]⟩,fun C z=>by cases z⟩
theorem ZgA{g:Src}{nx:Nx}{i:Nat}{xs:List V}{os:List (Option Addr)}(hg:g ρ H=some (nx,xs.length+1,H))(hn:∀j:Nat,nx j H=some xs[j]?)(hl:os.length=xs.length)(hP:P ρ)(h:∀(j:Nat) (v:V) (o:Option Addr) (ρ:Lc),xs[j]?=some v→os[j]?=some o→P ρ→OutP P a ar (upd ρ i v) H o): OutP P (ZaA g (ZH i) a) (Zbv g (ZH i) ar a) ρ H (os.foldr ZK none):=by
 obtain⟨h1,h2⟩:=ZhN hn hl h (xs.length+1) 0 ρ (by omega) (by omega) hP
 rw[List.drop_zero]at h1 h2
 refine⟨fun z=>?_,fun C z=>by simp[Zbv,hg,h2 C z]⟩
 obtain⟨⟨ρ',k,kP⟩,k2⟩:=h1 z
 exact⟨⟨ρ',by simp[ZaA,hg,k],kP⟩,by simp[Zbv,hg,k2]⟩
theorem Zdj{f:List V→Hp→Option (V×Hp)}{as:List V}{n:Nat}{g:Sm}{rg:SmR}(hl:as.length=n)(h:OutP P g rg (fun i=>as[i]?) H o): OutF (Z3 n g) (ZaQ n rg) as H o:=OutF.of hl h.e
end
noncomputable def ckC(ps:List Int)(n f:Int)(rows:List (List T)): Option Addr:=ZK (if f<0∨(ps.length:Int)≤f then some 109 else none) (ZK (if(rows.length:Int)≠ps.getD f.toNat 0 then some 109 else none) ((rows.map fun s=>ckS n s.length).foldr ZK none))
section
variable {H:Hp} {v va:V} {n fx x d:Int} {ps:List Int}
theorem Zmy{l:List Int}(r:Rt H v (bxT l)): ∃b,v=.ref b∧H[b]?=some (l.map V.int):=by
 obtain⟨F,r,_⟩:=r
 unfold bxT at r
 cases r with
 | @ref b vs _ _ e rs=>exact⟨_,rfl,by rw[e,(Zh3 (ZiW l) rs).1]⟩
theorem Zjv{f:Int}{rows:List (List T)}(ra:Rt H va (bxT ps))(r:Rt H v (.lst (rows.map T.lst))): OutF ZeL Zf4 [.int f,v,.int n,va] H (ckC ps n f rows):=by
 obtain⟨ab,rfl,ea⟩:=Zmy ra
 obtain⟨b,vs,rfl,e,_,F,rs,hF⟩:=r.lst
 have hl:vs.length=rows.length:=by rw[rs.length];simp
 unfold ckC
 rw[←Ze3,←Ze3 (p:=(rows.length:Int)≠ps.getD f.toNat 0)]
 refine Zdj (f:=ZeL) rfl (OutP.seq (P:=fun ρ=>ρ 2=some (.int n)) (ZcT ?_) fun ho=>OutP.seq (ZcT ?_) fun _=>?_)
 ·by_cases c:f<0
  ·simp[ZZ,ZaD,Zp,Za,eVar,Zb,oLt,oGe,Zbb,Z9,Ze,eCons,eNil,Z2,ea,c]
  ·by_cases c2:(ps.length:Int)≤f
   ·simp[ZZ,ZaD,Zp,Za,eVar,Zb,oLt,oGe,Zbb,Z9,Ze,eCons,eNil,Z2,ea,c,c2]
   ·simp[ZZ,ZaD,Zp,Za,eVar,Zb,oLt,oGe,Zbb,Z9,Ze,eCons,eNil,Z2,ea,c,c2]
 ·have hf:0≤f∧f<ps.length:=by
   by_cases c:f<0∨(ps.length:Int)≤f
   ·simp[c]at ho
   ·omega
  have ix:Zh (.ref ab) (.int f) H=some (.int (ps.getD f.toNat 0),H):=by
   have s1:seqIndex? f (ps.map V.int).length=some f.toNat:=by
    unfold seqIndex?
    simp
    omega
   have s2:(ps.map V.int)[f.toNat]?=some (.int (ps.getD f.toNat 0)):=by
    rw[List.getElem?_map,Zy1 (show f.toNat<ps.length by omega),List.getD_eq_getElem?_getD,Zy1 (show f.toNat<ps.length by omega)]
    rfl
   simp only[Zh,ea,Zs0,s1,s2,Zs1]
  have:=@ZiX H rows.length (ps.getD f.toNat 0)
  simp[Zp,Za,eVar,Z9,Ze,eCons,eNil,Z2,e,hl,ix,this]
  rfl
 ·refine ZgA (P:=fun ρ=>ρ 2=some (.int n)) (H:=H) (ρ:=fun i=>[V.int f,V.ref b,V.int n,V.ref ab][i]?) (g:=Zal (eVar 1)) (xs:=vs) (os:=rows.map fun s=>ckS n s.length) (nx:=ZbV b) (by simp[Zal,eVar,e]) (fun j=>by simp[ZbV,e]) (by simp[hl]) rfl fun j u o ρ ej eo hP=>?_
  rw[List.getElem?_map]at eo
  obtain⟨s,es,rfl⟩:=Zz1.mp eo
  obtain⟨u',eu,ru⟩:=Zfe (j:=j) (t:=.lst s) ⟨F,rs,hF⟩ (by rw[List.getElem?_map,es];rfl)
  rw[ej]at eu
  cases eu
  refine ZcF (OutS.call (ZdO ru) ?_) (by simp[upd,hP])
  simp[eCons,eVar,eNil,upd,hP]
end
end L
open PySem PM TM
namespace L
inductive La12(ps:List Int)(n:Int): T→Int→Option Addr→Prop where
 | set {x:Int} {s:List T}:La12 ps n (.tup [.str (Str.ofString "set"),.int x,.lst s]) x (ckS n s.length)
 | part {w:Str} {x d:Int} {s:List T}:(w=Str.ofString "part"∨w=Str.ofString "rest")→La12 ps n (.tup [.str w,.int x,.lst s,.int d]) x (ZK (ckS n s.length) (ckD d))
 | any {x:Int} {lo hi:Option Int}:La12 ps n (.tup [.str (Str.ofString "any"),.int x,oT lo,oT hi]) x (ckA lo hi)
 | call {x f:Int} {rows:List (List T)}:La12 ps n (.tup [.str (Str.ofString "call"),.int x,.int f,.lst (rows.map T.lst)]) x (ckC ps n f rows)
section
variable {H:Hp} {v va:V} {n fx x d:Int} {ps:List Int} {t:T} {o:Option Addr}
theorem Zd0(o:Option Addr): ZK o none=o:=by cases o <;> rfl
theorem La12.word(h:La12 ps n t x o): ∃w rest,t=.tup (.str w::.int x::rest)∧PyData.strOk w=true∧w≠Str.ofString "say"∧w≠Str.ofString "if"∧w≠Str.ofString "while":=by
 cases h with
 | set=>exact⟨_,_,rfl,by decide +kernel,by decide +kernel,by decide +kernel,by decide +kernel⟩
 | part h=>rcases h with rfl | rfl <;> exact⟨_,_,rfl,by decide +kernel,by decide +kernel,by decide +kernel,by decide +kernel⟩
 | any=>exact⟨_,_,rfl,by decide +kernel,by decide +kernel,by decide +kernel,by decide +kernel⟩
 | call=>exact⟨_,_,rfl,by decide +kernel,by decide +kernel,by decide +kernel,by decide +kernel⟩
theorem Zjw(ra:Rt H va (bxT ps))(r:Rt H v t)(h:La12 ps n t x o): OutF Zck ZeN [v,.int n,va] H o:=by
 have tst:∀{vs:List V} {w:Str} (y:Str),vs[0]?=some (.str w)→PyData.strOk w=true→PyData.strOk y=true→Zp (Za ZU (Za Zh (eVar 0) (Zb 0)) (Zo y)) (fun i=>[V.tup vs,.int n,va][i]?) H=some (decide (w=y),H):=fun {vs w} y e0 hw hy=>by
  have i0:Zh (.tup vs) (.int 0) H=some (_,H):=Za3 e0 rfl
  have:=@Zff H w y hw hy
  simp[Zp,Za,eVar,Zb,Zo,i0,this,Z9]
 have arg:∀{vs:List V} {k:Nat} {u:V},vs[k]?=some u→Za Zh (eVar 0) (Zb k) (fun i=>[V.tup vs,.int n,va][i]?) H=some (u,H):=fun {vs k u} e=>by
  have i0:Zh (.tup vs) (.int k) H=some (_,H):=Za3 e rfl
  simp[Za,eVar,Zb,i0]
 cases h with
 | @set x s=>
  obtain⟨vs,rfl,hl,at_⟩:=r.tupv
  obtain⟨u0,e0,r0⟩:=at_ 0 _ rfl
  obtain⟨u2,e2,r2⟩:=at_ 2 _ rfl
  have:=r0.str;subst this
  have a2:=arg e2
  rw[←Zd0 (ckS n s.length)]
  refine Zdj (P:=fun _=>True) (f:=Zck) rfl (OutP.no ((tst _ e0 (by decide +kernel) (by decide +kernel)).trans (by rw[decide_eq_false (by decide +kernel)])) (OutP.no ((tst _ e0 (by decide +kernel) (by decide +kernel)).trans (by rw[decide_eq_false (by decide +kernel)])) (OutP.seq (OutS.call (ZdO r2) ?_) fun _=>ZcF (OutS.no ?_ OutS.next) trivial)))
  ·simp[eCons,eNil,eVar]at a2 ⊢
   simp[a2]
  ·have i0:Zh (.tup vs) (.int 0) H=some (_,H):=Za3 e0 rfl
   have:=@ZgP H (Str.ofString "set") (Str.ofString "part") (Str.ofString "rest") (by decide +kernel) (by decide +kernel) (by decide +kernel)
   rw[decide_eq_false (by decide +kernel)]at this
   simp[Zp,Za,eVar,Zb,ZY,eCons,Zo,eNil,Zav,i0,this,Z9]
 | @part w x d s hw=>
  obtain⟨vs,rfl,hl,at_⟩:=r.tupv
  obtain⟨u0,e0,r0⟩:=at_ 0 _ rfl
  obtain⟨u2,e2,r2⟩:=at_ 2 _ rfl
  obtain⟨u3,e3,r3⟩:=at_ 3 _ rfl
  have:=r0.str;subst this
  have:=r3.int;subst this
  have a2:=arg e2
  have a3:=arg e3
  have ok:PyData.strOk w=true:=by rcases hw with rfl | rfl <;> decide +kernel
  have n1:w≠Str.ofString "any":=by rcases hw with rfl | rfl <;> decide +kernel
  have n2:w≠Str.ofString "call":=by rcases hw with rfl | rfl <;> decide +kernel
  refine Zdj (P:=fun _=>True) (f:=Zck) rfl (OutP.no ((tst _ e0 ok (by decide +kernel)).trans (by rw[decide_eq_false n1])) (OutP.no ((tst _ e0 ok (by decide +kernel)).trans (by rw[decide_eq_false n2])) (OutP.seq (OutS.call (ZdO r2) ?_) fun _=>ZcF (OutS.yes ?_ (OutS.call Zha ?_)) trivial)))
  ·simp[eCons,eNil,eVar]at a2 ⊢
   simp[a2]
  ·have i0:Zh (.tup vs) (.int 0) H=some (_,H):=Za3 e0 rfl
   have:=@ZgP H w (Str.ofString "part") (Str.ofString "rest") ok (by decide +kernel) (by decide +kernel)
   rw[decide_eq_true hw]at this
   simp[Zp,Za,eVar,Zb,ZY,eCons,Zo,eNil,Zav,i0,this,Z9]
  ·simp[eCons,eNil,eVar]at a3 ⊢
   simp[a3]
 | @any x lo hi=>
  obtain⟨vs,rfl,hl,at_⟩:=r.tupv
  obtain⟨u0,e0,r0⟩:=at_ 0 _ rfl
  obtain⟨u2,e2,r2⟩:=at_ 2 _ rfl
  obtain⟨u3,e3,r3⟩:=at_ 3 _ rfl
  have:=r0.str;subst this
  have:=Zjj r2;subst this
  have:=Zjj r3;subst this
  have a2:=arg e2
  have a3:=arg e3
  refine Zdj (P:=fun _=>True) (f:=Zck) rfl (OutP.yes ((tst _ e0 (by decide +kernel) (by decide +kernel)).trans (by rw[decide_eq_true rfl])) (ZcF (OutS.call ZjP ?_) trivial))
  simp[eCons,eNil,eVar]at a2 a3 ⊢
  simp[a2,a3]
 | @call x f rows=>
  obtain⟨vs,rfl,hl,at_⟩:=r.tupv
  obtain⟨u0,e0,r0⟩:=at_ 0 _ rfl
  obtain⟨u2,e2,r2⟩:=at_ 2 _ rfl
  obtain⟨u3,e3,r3⟩:=at_ 3 _ rfl
  have:=r0.str;subst this
  have:=r2.int;subst this
  have a2:=arg e2
  have a3:=arg e3
  refine Zdj (P:=fun _=>True) (f:=Zck) rfl (OutP.no ((tst _ e0 (by decide +kernel) (by decide +kernel)).trans (by rw[decide_eq_false (by decide +kernel)])) (OutP.yes ((tst _ e0 (by decide +kernel) (by decide +kernel)).trans (by rw[decide_eq_true rfl])) (ZcF (OutS.call (Zjv ra r3) ?_) trivial)))
  simp[eCons,eNil,eVar]at a2 a3 ⊢
  simp[a2,a3]
end
end L
open PySem PM TM
namespace L
noncomputable def Bd12(S:T→Option Addr→Prop)(ts:List T)(o:Option Addr): Prop:=∃os:List (Option Addr),os.length=ts.length∧(∀(i:Nat) t oo,ts[i]?=some t→os[i]?=some oo→S t oo)∧o=os.foldr ZK none
noncomputable abbrev ZmY(c:T)(a b:List T): T:=.tup [.str (Str.ofString "if"),c,.lst a,.lst b]
noncomputable abbrev ZmZ(c:T)(a:List T): T:=.tup [.str (Str.ofString "while"),c,.lst a]
noncomputable def St12(ps:List Int)(n fx:Int): Nat→T→Option Addr→Prop
 | 0=>fun t o=>(∃c,t=.tup [.str (Str.ofString "say"),c]∧Cl12 n c o)∨∃x o',La12 ps n t x o'∧o=ZK (ckB n fx x) o'
 | k+1=>fun t o=>(∃c,t=.tup [.str (Str.ofString "say"),c]∧Cl12 n c o)∨(∃x o',La12 ps n t x o'∧o=ZK (ckB n fx x) o') ∨
  (∃c a b o1 oa ob,t=ZmY c a b∧Cl12 n c o1∧Bd12 (St12 ps n fx k) a oa∧Bd12 (St12 ps n fx k) b ob∧o=ZK o1 (ZK oa (ZK ob none))) ∨
  (∃c a o1 oa,t=ZmZ c a∧Cl12 n c o1∧Bd12 (St12 ps n fx k) a oa∧o=ZK o1 (ZK oa none))
theorem ev4: ∀{vs:List V} {a b c d:V},vs.length=4→vs[0]?=some a→vs[1]?=some b→vs[2]?=some c→vs[3]?=some d→vs=[a,b,c,d]
 | [_,_,_,_],_,_,_,_,_,h0,h1,h2,h3=>by cases h0;cases h1;cases h2;cases h3;rfl
theorem ev3: ∀{vs:List V} {a b c:V},vs.length=3→vs[0]?=some a→vs[1]?=some b→vs[2]?=some c→vs=[a,b,c]
 | [_,_,_],_,_,_,_,h0,h1,h2=>by cases h0;cases h1;cases h2;rfl
section
variable {H:Hp} {v va:V} {n fx:Int} {ps:List Int}
noncomputable def PB12(n fx:Int)(va:V)(ρ:Lc): Prop:=ρ 1=some (.int n)∧ρ 2=some (.int fx)∧ρ 3=some va
theorem PB12.upd{n fx:Int}{va:V}{ρ:Lc}(h:PB12 n fx va ρ){i:Nat}{u:V}(hi:4≤i): PB12 n fx va (PM.upd ρ i u):=by
 obtain⟨h1,h2,h3⟩:=h
 refine⟨?_,?_,?_⟩
 ·simp[PM.upd,show(1:Nat)≠i by omega,h1]
 ·simp[PM.upd,show(2:Nat)≠i by omega,h2]
 ·simp[PM.upd,show(3:Nat)≠i by omega,h3]
noncomputable abbrev bdA(F:List V→Hp→Option (V×Hp)): Sm:=(ZB (Zp (Za ZU (Za Zh (eVar 4) (Zb 0)) (Zo (Str.ofString "say")))) (ZL (Ze Zb9 (eCons (Za Zh (eVar 4) (Zb 1)) (eCons (eVar 1) eNil)))) (ZB (Zp (Za oIn (Za Zh (eVar 4) (Zb 0)) (ZY (eCons (Zo (Str.ofString "if")) (eCons (Zo (Str.ofString "while")) eNil))))) (Zs (ZL (Ze Zb9 (eCons (Za Zh (eVar 4) (Zb 1)) (eCons (eVar 1) eNil)))) (ZaA (Zal (Zbi (eVar 4) 2)) (ZH 5) (ZL (Ze F (eCons (eVar 5) (eCons (eVar 1) (eCons (eVar 2) (eCons (eVar 3) eNil)))))))) (Zs (ZL (Ze ZcR (eCons (Za Zh (eVar 4) (Zb 1)) (eCons (eVar 1) (eCons (eVar 2) eNil))))) (ZL (Ze Zck (eCons (eVar 4) (eCons (eVar 1) (eCons (eVar 3) eNil))))))))
noncomputable abbrev bdR(F:List V→Hp→Option (V×Hp))(R:List V→Hp→Option (Addr×Hp)): SmR:=(rIf (Zp (Za ZU (Za Zh (eVar 4) (Zb 0)) (Zo (Str.ofString "say")))) (rCall Zdd (eCons (Za Zh (eVar 4) (Zb 1)) (eCons (eVar 1) eNil))) (rIf (Zp (Za oIn (Za Zh (eVar 4) (Zb 0)) (ZY (eCons (Zo (Str.ofString "if")) (eCons (Zo (Str.ofString "while")) eNil))))) (Zae (rCall Zdd (eCons (Za Zh (eVar 4) (Zb 1)) (eCons (eVar 1) eNil))) (ZL (Ze Zb9 (eCons (Za Zh (eVar 4) (Zb 1)) (eCons (eVar 1) eNil)))) (Zbv (Zal (Zbi (eVar 4) 2)) (ZH 5) (rCall R (eCons (eVar 5) (eCons (eVar 1) (eCons (eVar 2) (eCons (eVar 3) eNil))))) (ZL (Ze F (eCons (eVar 5) (eCons (eVar 1) (eCons (eVar 2) (eCons (eVar 3) eNil)))))))) (Zae (rCall ZeQ (eCons (Za Zh (eVar 4) (Zb 1)) (eCons (eVar 1) (eCons (eVar 2) eNil)))) (ZL (Ze ZcR (eCons (Za Zh (eVar 4) (Zb 1)) (eCons (eVar 1) (eCons (eVar 2) eNil))))) (rCall ZeN (eCons (eVar 4) (eCons (eVar 1) (eCons (eVar 3) eNil)))))))
theorem ZlC{F:List V→Hp→Option (V×Hp)}{R:List V→Hp→Option (Addr×Hp)}{t:T}{o:Option Addr}{ρ:Lc}{k:Nat}(ra:Rt H va (bxT ps))(hF:∀k',k=k'+1→∀{v ts o},Rt H v (.lst ts)→Bd12 (St12 ps n fx k') ts o→OutF F R [v,.int n,.int fx,va] H o)(r:Rt H v t)(h:St12 ps n fx k t o)(hP:PB12 n fx va ρ): OutP (PB12 n fx va) (bdA F) (bdR F R) (upd ρ 4 v) H o:=by
 have hP4:=hP.upd (i:=4) (u:=v) (by omega)
 obtain⟨p1,p2,p3⟩:=hP4
 have p4:upd ρ 4 v 4=some v:=by simp[upd]
 generalize upd ρ 4 v=τ at p1 p2 p3 p4
 have hPt:PB12 n fx va τ:=⟨p1,p2,p3⟩
 have say:∀{vs:List V} {w:Str},v=.tup vs→vs[0]?=some (.str w)→PyData.strOk w=true→Zp (Za ZU (Za Zh (eVar 4) (Zb 0)) (Zo (Str.ofString "say"))) τ H=some (decide (w=Str.ofString "say"),H):=fun {vs w} hv e0 hw=>by
  subst hv
  have i0:Zh (.tup vs) (.int 0) H=some (_,H):=Za3 e0 rfl
  have:=@Zff H w (Str.ofString "say") hw (by decide +kernel)
  simp[Zp,Za,eVar,Zb,Zo,p4,i0,this,Z9]
 have ifw:∀{vs:List V} {w:Str},v=.tup vs→vs[0]?=some (.str w)→PyData.strOk w=true→Zp (Za oIn (Za Zh (eVar 4) (Zb 0)) (ZY (eCons (Zo (Str.ofString "if")) (eCons (Zo (Str.ofString "while")) eNil)))) τ H=some (decide (w=Str.ofString "if"∨w=Str.ofString "while"),H):=fun {vs w} hv e0 hw=>by
  subst hv
  have i0:Zh (.tup vs) (.int 0) H=some (_,H):=Za3 e0 rfl
  have:=@ZgP H w (Str.ofString "if") (Str.ofString "while") hw (by decide +kernel) (by decide +kernel)
  simp[Zp,Za,eVar,Zb,ZY,eCons,Zo,eNil,Zav,p4,i0,this,Z9]
 have plain:∀{o:Option Addr},(∃c,t=.tup [.str (Str.ofString "say"),c]∧Cl12 n c o)∨(∃x o',La12 ps n t x o'∧o=ZK (ckB n fx x) o')→OutP (PB12 n fx va) (bdA F) (bdR F R) τ H o:=fun {o} h=>by
  rcases h with⟨c,rfl,hc⟩ | ⟨x,o',hx,rfl⟩
  ·obtain⟨vs,rfl,hl,at_⟩:=r.tupv
   obtain⟨u0,e0,r0⟩:=at_ 0 _ rfl
   obtain⟨u1,e1,r1⟩:=at_ 1 _ rfl
   have:=r0.str;subst this
   refine OutP.yes ((say rfl e0 (by decide +kernel)).trans (by rw[decide_eq_true rfl])) (ZcF (OutS.call (ZfH r1 hc) ?_) hPt)
   have i1:Zh (.tup vs) (.int 1) H=some (_,H):=Za3 e1 rfl
   simp[eCons,Za,eVar,Zb,eNil,p4,p1,i1]
  ·obtain⟨w,rest,et,ok,n1,n2,n3⟩:=hx.word
   have r':=r
   rw[et]at r'
   obtain⟨vs,rfl,hl,at_⟩:=r'.tupv
   obtain⟨u0,e0,r0⟩:=at_ 0 _ rfl
   obtain⟨u1,e1,r1⟩:=at_ 1 _ rfl
   have:=r0.str;subst this
   have:=r1.int;subst this
   refine OutP.no ((say rfl e0 ok).trans (by rw[decide_eq_false n1])) (OutP.no ((ifw rfl e0 ok).trans (by rw[decide_eq_false (by simp[n2,n3])])) (OutP.seq (OutS.call ZjB ?_) fun _=>ZcF (OutS.call (Zjw ra r hx) ?_) hPt))
   ·have i1:Zh (.tup vs) (.int 1) H=some (_,H):=Za3 e1 rfl
    simp[eCons,Za,eVar,Zb,eNil,p4,p1,p2,i1]
   ·simp[eCons,eVar,eNil,p4,p1,p3]
 cases k with
 | zero=>exact plain h
 | succ k=>
  have inner:∀{us:List V} {os:List (Option Addr)} {vs:List V},v=.tup vs→2≤vs.length→vs.drop 2=us→os.length=us.length→(∀(j:Nat) u o,us[j]?=some u→os[j]?=some o→OutF F R [u,.int n,.int fx,va] H o)→OutP (PB12 n fx va) (ZaA (Zal (Zbi (eVar 4) 2)) (ZH 5) (ZL (Ze F (eCons (eVar 5) (eCons (eVar 1) (eCons (eVar 2) (eCons (eVar 3) eNil))))))) (Zbv (Zal (Zbi (eVar 4) 2)) (ZH 5) (rCall R (eCons (eVar 5) (eCons (eVar 1) (eCons (eVar 2) (eCons (eVar 3) eNil))))) (ZL (Ze F (eCons (eVar 5) (eCons (eVar 1) (eCons (eVar 2) (eCons (eVar 3) eNil))))))) τ H (os.foldr ZK none):=fun {us os vs} hv h2 hd hl hs=>by
   subst hv
   refine ZgA (P:=PB12 n fx va) (H:=H) (ρ:=τ) (g:=Zal (Zbi (eVar 4) 2)) (xs:=us) (os:=os) (nx:=Zd9 us) (by simp[Zal,Zbi,eVar,p4,h2,←hd]) (fun j=>by simp[Zd9]) hl hPt fun j u o τ2 ej eo hP2=>?_
   have hP5:=hP2.upd (i:=5) (u:=u) (by omega)
   obtain⟨z1,z2,z3⟩:=hP5
   have z5:upd τ2 5 u 5=some u:=by simp[upd]
   refine ZcF (OutS.call (hs j u o ej eo) ?_) (hP2.upd (by omega))
   obtain⟨y1,y2,y3⟩:=hP2
   simp[eCons,eVar,eNil,upd,y1,y2,y3]
  rcases h with h | h | ⟨c,a,b,o1,oa,ob,rfl,hc,ha,hb,rfl⟩ | ⟨c,a,o1,oa,rfl,hc,ha,rfl⟩
  ·exact plain (.inl h)
  ·exact plain (.inr h)
  ·obtain⟨vs,rfl,hl,at_⟩:=r.tupv
   obtain⟨u0,e0,r0⟩:=at_ 0 _ rfl
   obtain⟨u1,e1,r1⟩:=at_ 1 _ rfl
   obtain⟨u2,e2,r2⟩:=at_ 2 _ rfl
   obtain⟨u3,e3,r3⟩:=at_ 3 _ rfl
   have:=r0.str;subst this
   have ev:=ev4 hl e0 e1 e2 e3
   refine OutP.no ((say rfl e0 (by decide +kernel)).trans (by rw[decide_eq_false (by decide +kernel)])) (OutP.yes ((ifw rfl e0 (by decide +kernel)).trans (by rw[decide_eq_true (.inl rfl)])) (OutP.seq (OutS.call (ZfH r1 hc) ?_) fun _=>?_))
   ·have i1:Zh (.tup vs) (.int 1) H=some (_,H):=Za3 e1 rfl
    simp[eCons,Za,eVar,Zb,eNil,p4,p1,i1]
   ·refine inner (us:=[u2,u3]) (os:=[oa,ob]) rfl (by rw[hl];simp) (by rw[ev];rfl) rfl fun j u o ej eo=>?_
    match j with
    | 0=>cases ej;cases eo;exact hF k rfl r2 ha
    | 1=>cases ej;cases eo;exact hF k rfl r3 hb
    | j+2=>cases ej
  ·obtain⟨vs,rfl,hl,at_⟩:=r.tupv
   obtain⟨u0,e0,r0⟩:=at_ 0 _ rfl
   obtain⟨u1,e1,r1⟩:=at_ 1 _ rfl
   obtain⟨u2,e2,r2⟩:=at_ 2 _ rfl
   have:=r0.str;subst this
   have ev:=ev3 hl e0 e1 e2
   refine OutP.no ((say rfl e0 (by decide +kernel)).trans (by rw[decide_eq_false (by decide +kernel)])) (OutP.yes ((ifw rfl e0 (by decide +kernel)).trans (by rw[decide_eq_true (.inr rfl)])) (OutP.seq (OutS.call (ZfH r1 hc) ?_) fun _=>?_))
   ·have i1:Zh (.tup vs) (.int 1) H=some (_,H):=Za3 e1 rfl
    simp[eCons,Za,eVar,Zb,eNil,p4,p1,i1]
   ·refine inner (us:=[u2]) (os:=[oa]) rfl (by rw[hl];simp) (by rw[ev];rfl) rfl fun j u o ej eo=>?_
    match j with
    | 0=>cases ej;cases eo;exact hF k rfl r2 ha
    | j+1=>cases ej
theorem Zhb(ra:Rt H va (bxT ps)): ∀(f k:Nat),k<f→∀{v:V} {ts:List T} {o:Option Addr},Rt H v (.lst ts)→Bd12 (St12 ps n fx k) ts o→OutF (Zb1 f) (Zde f) [v,.int n,.int fx,va] H o
 | 0,k,h,_,_,_,_,_=>by omega
 | f+1,k,h,v,ts,o,r,hb=>by
  obtain⟨os,l1,l2,rfl⟩:=hb
  obtain⟨b,vs,rfl,e,_,F,rs,hF⟩:=r.lst
  have hl:vs.length=ts.length:=rs.length
  have key:OutP (PB12 n fx va) (ZaA (Zal (eVar 0)) (ZH 4) (bdA (Zb1 f))) (Zbv (Zal (eVar 0)) (ZH 4) (bdR (Zb1 f) (Zde f)) (bdA (Zb1 f))) (fun i=>[V.ref b,.int n,.int fx,va][i]?) H (os.foldr ZK none):=by
   refine ZgA (P:=PB12 n fx va) (H:=H) (ρ:=fun i=>[V.ref b,.int n,.int fx,va][i]?) (g:=Zal (eVar 0)) (xs:=vs) (os:=os) (nx:=ZbV b) (by simp[Zal,eVar,e]) (fun j=>by simp[ZbV,e]) (by rw[l1,hl]) ⟨rfl,rfl,rfl⟩ fun j u o ρ ej eo hP=>?_
   have hj:j<ts.length:=by rw[←hl];exact(Zz6.mp ej).1
   obtain⟨u',eu,ru⟩:=Zfe (j:=j) (t:=ts[j]) ⟨F,rs,hF⟩ (Zy1 hj)
   rw[ej]at eu
   cases eu
   exact ZlC ra (fun k' hk'=>Zhb ra f k' (by omega)) ru (l2 j _ o (Zy1 hj) eo) hP
  exact Zdj (f:=Zb1 (f+1)) rfl key
end
end L
open PySem PM TM
namespace L
theorem Zbw{ar b:SmR}{a:Sm}{ρ ρ1:Lc}{H H1:Hp}(h0:ar ρ H=none)(h:a ρ H=some (none,ρ1,H1)): Zae ar a b ρ H=b ρ1 H1:=by simp[Zae,h0,h]
noncomputable def Zjk(f:List V→Hp→Option (V×Hp))(r:List V→Hp→Option (Addr×Hp))(as:List V)(H:Hp)(o:Option Addr): Prop:=(o=none→(∃v X,f as H=some (v,H++X))∧r as H=none)∧∀C,o=some C→∃X,r as H=some (C,H++X)
theorem Rt.more{H:Hp}{v:V}{t:T}(r:Rt H v t)(X:Hp): Rt (H++X) v t:=r.keep fun a _ h=>Zy0 h
theorem ZhO{H1:Hp}{ρ:Lc}{c:Nat}{us:List V}{qs:List Int}(e:H1[c]?=some us)(hl:us.length=qs.length)(hq:∀(i:Nat) (q:Int),qs[i]?=some q→∃u vs,us[i]?=some (.tup (u::vs))∧u=.int q)(hm:us.length≤1000): ∀(k i:Nat) (acc:List V),i≤us.length→k=us.length+1-i→acc.length=i→Za5 (ZbV c) (ZH 100) ZaH (Za Zh (eVar 100) (Zb 0)) ρ k i acc H1=some (acc++(qs.drop i).map V.int,H1)
 | 0,i,acc,h1,h2,_=>by omega
 | k+1,i,acc,h1,h2,h3=>by
  by_cases ci:i<us.length
  ·have eq:qs[i]?=some qs[i]:=Zy1 (by omega)
   obtain⟨u,vs,e1,e2⟩:=hq i _ eq
   subst e2
   have ih:=ZhO (ρ:=ρ) e hl hq hm k (i+1) (acc++[.int qs[i]]) (by omega) (by omega) (by simp[h3])
   have i0:Zh (.tup (.int qs[i]::vs)) (.int 0) H1=some (.int qs[i],H1):=Za3 (i:=0) rfl rfl
   have hd:qs.drop i=qs[i]::qs.drop (i+1):=List.drop_eq_getElem_cons (by omega)
   rw[hd]
   simp only[Za5,ZbV,e,Zs1,Zs0,e1,ZH,ZaH,if_true,Za,eVar,Zb]
   simp only[upd,if_true,Zs1,Zs0,i0]
   rw[if_pos (by rw[Zav];omega),ih,List.map_cons,List.append_assoc]
   rfl
  ·have:i=us.length:=by omega
   subst this
   have:qs.drop us.length=[]:=List.drop_eq_nil_of_le (by omega)
   rw[this]
   simp[Za5,ZbV,e]
section
variable {H:Hp} {pb:Nat} {fs:List T} {p m fx:Int} {body:List T} {j k:Nat} {qs:List Int}
theorem Zg1(r:Rt H (.ref pb) (.lst fs))(hN:fs.length≤1000)(hj:fs[j]?=some (.tup [.int p,.int m,.lst body]))(hq:qs.length=j)(hqs:∀(i:Nat) (q:Int),qs[i]?=some q→∃rest,fs[i]?=some (.tup (.int q::rest)))(hfx:fx=if(j:Int)=(fs.length:Int)-1 then 0 else p):
  ((m<1∨p<0∨m<p)→Zcj [.ref pb,.int j] H=some (49,H))∧(¬(m<1∨p<0∨m<p)→∀o,k<24→Bd12 (St12 qs m fx k) body o→Zjk ZcN Zcj [.ref pb,.int j] H o):=by
 have hjl:=(Zz6.mp hj).1
 obtain⟨b,vs,eb,e,_,F,rs,hF⟩:=r.lst
 cases eb
 have hl:vs.length=fs.length:=rs.length
 have at_:∀{i:Nat} {t:T},fs[i]?=some t→∃u,vs[i]?=some u∧Rt H u t:=fun ei=>Zfe ⟨F,rs,hF⟩ ei
 obtain⟨uj,ej,rj⟩:=at_ hj
 obtain⟨ws,rfl,wl,wat⟩:=rj.tupv
 obtain⟨w0,f0,r0⟩:=wat 0 _ rfl
 obtain⟨w1,f1,r1⟩:=wat 1 _ rfl
 obtain⟨w2,f2,r2⟩:=wat 2 _ rfl
 have:=r0.int;subst this
 have:=r1.int;subst this
 have sj:seqIndex? (j:Int) vs.length=some j:=by
  unfold seqIndex?
  simp
  omega
 have xj:∀X:Hp,Zh (.ref pb) (.int j) (H++X)=some (.tup ws,H++X):=fun X=>by
  simp only[Zh,Zy0 (ZkA e),e,Zs0,sj,ej,Zs1]
 have xj0:Zh (.ref pb) (.int j) H=some (.tup ws,H):=by simpa using xj []
 have x0:Zh (.tup ws) (.int 0) H=some (.int p,H):=Za3 f0 rfl
 have x1:Zh (.tup ws) (.int 1) H=some (.int m,H):=Za3 f1 rfl
 have x2:∀X:Hp,Zh (.tup ws) (.int 2) (H++X)=some (w2,H++X):=fun X=>Za3 f2 rfl
 generalize hρ0:(fun i:Nat=>[V.ref pb,V.int j][i]?)=ρ0
 have q0:ρ0 0=some (.ref pb):=by rw[←hρ0];rfl
 have q1:ρ0 1=some (.int j):=by rw[←hρ0];rfl
 have s2:Zy 2 (Za Zh (Za Zh (eVar 0) (eVar 1)) (Zb 0)) ρ0 H=some (none,upd ρ0 2 (.int p),H):=by
  simp[Zy,Za,eVar,Zb,q0,q1,xj0,x0]
 have s3:Zy 3 (Za Zh (Za Zh (eVar 0) (eVar 1)) (Zb 1)) (upd ρ0 2 (.int p)) H=some (none,upd (upd ρ0 2 (.int p)) 3 (.int m),H):=by
  simp[Zy,Za,eVar,Zb,upd,q0,q1,xj0,x1]
 generalize hρ3:upd (upd ρ0 2 (.int p)) 3 (.int m)=ρ3 at s3
 have t0:ρ3 0=some (.ref pb):=by rw[←hρ3];simp[upd,q0]
 have t1:ρ3 1=some (.int j):=by rw[←hρ3];simp[upd,q1]
 have t2:ρ3 2=some (.int p):=by rw[←hρ3];simp[upd]
 have t3:ρ3 3=some (.int m):=by rw[←hρ3];simp[upd]
 have tt:ZZ (Zp (Za oLt (eVar 3) (Zb 1))) (ZZ (Zp (Za oLt (eVar 2) (Zb 0))) (ZZ (Zp (Za oGt (eVar 2) (eVar 3))) ZaD)) ρ3 H=some (decide (m<1∨p<0∨m<p),H):=by
  by_cases c1:m<1
  ·simp[ZZ,Zp,Za,eVar,Zb,oLt,Zbb,Z9,t3,c1]
  ·by_cases c2:p<0
   ·simp[ZZ,Zp,Za,eVar,Zb,oLt,Zbb,Z9,t3,t2,c1,c2]
   ·by_cases c3:m<p
    ·simp[ZZ,ZaD,Zp,Za,eVar,Zb,oLt,oGt,Zbb,Z9,t3,t2,c1,c2,c3]
    ·simp[ZZ,ZaD,Zp,Za,eVar,Zb,oLt,oGt,Zbb,Z9,t3,t2,c1,c2,c3]
 refine⟨fun bad=>?_,fun good o hk hb=>?_⟩
 ·rw[decide_eq_true bad]at tt
  have z:Zcw ρ0 H=some (49,H):=by
   unfold Zcw
   rw[Zbw rfl s2,Zbw rfl s3]
   have z:=(OutS.yes (b:=ZN) (br:=rNo) tt (OutS.raise (C:=49) (x:=Str.ofString "a function has 1 box or more, and no more parameters than boxes") (ρ:=ρ3) (H:=H))).2 49 rfl
   simp[Zae,z]
  simp[Zcj,ZaQ,hρ0,z]
 ·rw[decide_eq_false good]at tt
  have nn:=(OutS.no (a:=PM.sNo) (ar:=Zbq 49 (eCons (Zo (Str.ofString "a function has 1 box or more, and no more parameters than boxes")) eNil)) (b:=ZN) (br:=rNo) tt OutS.next).1 rfl
  have s4:=nn.1
  have s5:Zy 4 (eIf (Zp (Za ZU (eVar 1) (Za Zau (Ze Z2 (eCons (eVar 0) eNil)) (Zb 1)))) (Zb 0) (eVar 2)) ρ3 H=some (none,upd ρ3 4 (.int fx),H):=by
   have:=@ZiY H j ((fs.length:Int)-1)
   by_cases c:(j:Int)=(fs.length:Int)-1
   ·rw[if_pos c]at hfx
    simp[Zy,eIf,Zp,Za,eVar,Zb,Ze,eCons,eNil,Z2,Zau,t0,t1,t2,e,hl,this,c,hfx,Z9]
   ·rw[if_neg c]at hfx
    simp[Zy,eIf,Zp,Za,eVar,Zb,Ze,eCons,eNil,Z2,Zau,t0,t1,t2,e,hl,this,c,hfx,Z9]
  have hH1:(H++[vs.take j])[H.length]?=some (vs.take j):=by simp
  have comp:=ZhO (ρ:=upd ρ3 4 (.int fx)) hH1 (qs:=qs) (by simp[hq];omega) (fun i q ei=>by
   have hi:=(Zz6.mp ei).1
   obtain⟨rest,ef⟩:=hqs i q ei
   obtain⟨u,eu,ru⟩:=at_ ef
   obtain⟨us,rfl,ul,uat⟩:=ru.tupv
   obtain⟨u0,eu0,ru0⟩:=uat 0 _ rfl
   have:=ru0.int;subst this
   cases us with
   | nil=>cases eu0
   | cons a us=>exact⟨_,us,by rw[List.getElem?_take_of_lt (by omega),eu],by cases eu0;rfl⟩) (by simp;omega) ((vs.take j).length+1) 0 [] (by omega) (by omega) rfl
  simp only[List.drop_zero,List.nil_append]at comp
  have s6:Zy 5 (ZaS (Zal (Zby (eVar 0) ZbI (ZbJ (eVar 1)))) (ZH 100) ZaH (Za Zh (eVar 100) (Zb 0))) (upd ρ3 4 (.int fx)) H=some (none,upd (upd ρ3 4 (.int fx)) 5 (.ref (H.length+1)),(H++[vs.take j])++[qs.map V.int]):=by
   have g1:Zby (eVar 0) ZbI (ZbJ (eVar 1)) (upd ρ3 4 (.int fx)) H=some (.ref H.length,H++[vs.take j]):=by
    have pk:=Zia vs (k:=(j:Int)) (a:=j) rfl
    simp[Zby,eVar,ZbI,ZbJ,Zds,upd,t0,t1,e,pk]
   have g2:Zal (Zby (eVar 0) ZbI (ZbJ (eVar 1))) (upd ρ3 4 (.int fx)) H=some (ZbV H.length,(vs.take j).length+1,H++[vs.take j]):=by
    simp only[Zal,g1,Zs0,hH1,Zs1]
   have g3:ZaS (Zal (Zby (eVar 0) ZbI (ZbJ (eVar 1)))) (ZH 100) ZaH (Za Zh (eVar 100) (Zb 0)) (upd ρ3 4 (.int fx)) H=some (.ref (H.length+1),(H++[vs.take j])++[qs.map V.int]):=by
    simp only[ZaS,g2,Zs0,comp,Zs1]
    simp
   simp only[Zy,g3,Zs1]
  generalize hX:[vs.take j]++[qs.map V.int]=X at *
  rw[List.append_assoc,hX]at s6
  generalize hρ5:upd (upd ρ3 4 (.int fx)) 5 (.ref (H.length+1))=ρ5 at s6
  have z0:ρ5 0=some (.ref pb):=by rw[←hρ5];simp[upd,t0]
  have z1:ρ5 1=some (.int j):=by rw[←hρ5];simp[upd,t1]
  have z3:ρ5 3=some (.int m):=by rw[←hρ5];simp[upd,t3]
  have z4:ρ5 4=some (.int fx):=by rw[←hρ5];simp[upd]
  have z5:ρ5 5=some (.ref (H.length+1)):=by rw[←hρ5];simp[upd]
  have ra:Rt (H++X) (.ref (H.length+1)) (bxT qs):=⟨_,Zmw (by rw[←hX];simp),fun _ _=>trivial⟩
  have out:=Zhb (fx:=fx) (n:=m) ra 24 k hk (r2.more X) hb
  have args:eCons (Za Zh (Za Zh (eVar 0) (eVar 1)) (Zb 2)) (eCons (eVar 3) (eCons (eVar 4) (eCons (eVar 5) eNil))) ρ5 (H++X)=some ([w2,.int m,.int fx,.ref (H.length+1)],H++X):=by
   simp[eCons,Za,eVar,Zb,eNil,z0,z1,z3,z4,z5,xj,x2]
  have cl:=OutS.call (ρ:=ρ5) out args
  refine⟨fun ho=>?_,fun C ho=>⟨X,?_⟩⟩
  ·obtain⟨k1,k2⟩:=cl.1 ho
   refine⟨⟨.none,X,?_⟩,?_⟩
   ·have z:ZeB ρ0 H=some (none,ρ5,H++X):=by
     unfold ZeB
     rw[ZcW s2,ZcW s3,ZcW s4,ZcW s5,ZcW s6]
     exact k1
    simp[ZcN,Z3,hρ0,z]
   ·have z:Zcw ρ0 H=none:=by
     unfold Zcw
     rw[Zbw rfl s2,Zbw rfl s3,Zbw nn.2 s4,Zbw rfl s5,Zbw rfl s6]
     exact k2
    simp[Zcj,ZaQ,hρ0,z]
  ·have z:Zcw ρ0 H=some (C,H++X):=by
    unfold Zcw
    rw[Zbw rfl s2,Zbw rfl s3,Zbw nn.2 s4,Zbw rfl s5,Zbw rfl s6]
    exact cl.2 C ho
   simp[Zcj,ZaQ,hρ0,z]
end
end L
open PySem PM TM
namespace L
variable {a b:Int} {n:Nat} {t:T} {ns:List Int}
noncomputable def Zbh: T→Int
 | .tup (.int q::_)=>q
 | _=>0
noncomputable def ZdG(N j:Nat)(p:Int): Int:=if(j:Int)=(N:Int)-1 then 0 else p
structure Pg12(fs:List T)(os:List (Option Addr)): Prop where
 len:os.length=fs.length
 fn:∀(j:Nat),j<fs.length→∃(p m:Int) (body:List T) (o:Option Addr),fs[j]?=some (.tup [.int p,.int m,.lst body])∧os[j]?=some o∧((m<1∨p<0∨m<p)→o=some 49)∧(¬(m<1∨p<0∨m<p)→∃k,k<24∧Bd12 (St12 ((fs.map Zbh).take j) m (ZdG fs.length j p) k) body o)
section
variable {H:Hp} {fs:List T} {os:List (Option Addr)} {pb:Nat}
theorem ZjK(r:Rt H (.ref pb) (.lst fs))(hN:fs.length≤1000)(P:Pg12 fs os){j:Nat}(hj:j<fs.length): ∃o,os[j]?=some o∧Zjk ZcN Zcj [.ref pb,.int j] H o:=by
 obtain⟨p,m,body,o,e1,e2,h1,h2⟩:=P.fn j hj
 refine⟨o,e2,?_⟩
 have hqs:∀(i:Nat) (q:Int),((fs.map Zbh).take j)[i]?=some q→∃rest,fs[i]?=some (.tup (.int q::rest)):=fun i q ei=>by
  have hi:=(Zz6.mp ei).1
  simp at hi
  rw[List.getElem?_take_of_lt (by omega),List.getElem?_map]at ei
  obtain⟨p',m',b',o',f1,_⟩:=P.fn i (by omega)
  rw[f1]at ei
  cases ei
  exact⟨_,f1⟩
 by_cases c:m<1∨p<0∨m<p
 ·have:=(Zg1 (k:=0) r hN e1 (qs:=(fs.map Zbh).take j) (by simp;omega) hqs rfl).1 c
  rw[h1 c]
  exact⟨fun z=>(by cases z),fun C z=>by cases z;exact⟨[],by simpa using this⟩⟩
 ·obtain⟨k,hk,hb⟩:=h2 c
  exact(Zg1 (k:=k) r hN e1 (qs:=(fs.map Zbh).take j) (by simp;omega) hqs rfl).2 c o hk hb
noncomputable abbrev wmA: Sm:=ZL (Ze ZcN (eCons (eVar 0) (eCons (eVar 1) eNil)))
noncomputable abbrev wmR: SmR:=rCall Zcj (eCons (eVar 0) (eCons (eVar 1) eNil))
theorem Ziu(r:Rt H (.ref pb) (.lst fs))(hN:fs.length≤1000)(P:Pg12 fs os): ∀(k j:Nat) (ρ:Lc) (X:Hp),j≤fs.length→k=fs.length+1-j→ρ 0=some (.ref pb)→((os.drop j).foldr ZK none=none→(∃ρ' Y,ZaR (Zbe 0 1 fs.length) (ZH 1) wmA k j ρ (H++X)=some (none,ρ',H++Y))∧ZbB (Zbe 0 1 fs.length) (ZH 1) wmR wmA k j ρ (H++X)=none)∧∀C,(os.drop j).foldr ZK none=some C→∃Y,ZbB (Zbe 0 1 fs.length) (ZH 1) wmR wmA k j ρ (H++X)=some (C,H++Y)
 | 0,j,ρ,X,h1,h2,_=>by omega
 | k+1,j,ρ,X,h1,h2,h0=>by
  by_cases c:j<fs.length
  ·obtain⟨o,eo,out⟩:=ZjK (r.more X) hN P c
   have hjo:j<os.length:=by rw[P.len];exact c
   have ed:os.drop j=o::os.drop (j+1):=by
    rw[List.drop_eq_getElem_cons hjo]
    rw[Zy1 hjo]at eo
    rw[Option.some.inj eo]
   have nx:Zbe 0 1 fs.length j (H++X)=some (some (.int j)):=by simp[Zbe,c]
   have args:eCons (eVar 0) (eCons (eVar 1) eNil) (upd ρ 1 (.int j)) (H++X)=some ([.ref pb,.int j],H++X):=by simp[eCons,eVar,eNil,upd,h0]
   rw[ed]
   simp only[List.foldr_cons]
   cases o with
   | some C=>
    obtain⟨Y,e1⟩:=out.2 C rfl
    refine⟨fun z=>(by cases z),fun C' z=>?_⟩
    cases z
    refine⟨X++Y,?_⟩
    have:wmR (upd ρ 1 (.int j)) (H++X)=some (C,H++X++Y):=by simp only[wmR,rCall,args,Zs0,e1]
    simp only[ZbB,nx,Zs0,ZH,Zae,this]
    rw[List.append_assoc]
   | none=>
    obtain⟨⟨v,Y,e1⟩,e2⟩:=out.1 rfl
    have a1:wmA (upd ρ 1 (.int j)) (H++X)=some (none,upd ρ 1 (.int j),H++(X++Y)):=by
     rw[←List.append_assoc]
     simp only[wmA,ZL,Ze,args,Zs0,e1,Zs1]
    have a2:wmR (upd ρ 1 (.int j)) (H++X)=none:=by simp only[wmR,rCall,args,Zs0,e2]
    obtain⟨i1,i2⟩:=Ziu r hN P k (j+1) (upd ρ 1 (.int j)) (X++Y) (by omega) (by omega) (by simp[upd,h0])
    refine⟨fun z=>?_,fun C z=>?_⟩
    ·obtain⟨⟨ρ',Y',k1⟩,k2⟩:=i1 z
     exact⟨⟨ρ',Y',by simp only[ZaR,nx,Zs0,ZH,a1];exact k1⟩,by simp only[ZbB,nx,Zs0,ZH,Zae,a2,a1];exact k2⟩
    ·obtain⟨Y',k1⟩:=i2 C z
     exact⟨Y',by simp only[ZbB,nx,Zs0,ZH,Zae,a2,a1];exact k1⟩
  ·have:j=fs.length:=by omega
   subst this
   have:os.drop fs.length=[]:=List.drop_eq_nil_of_le (by rw[P.len];omega)
   rw[this]
   exact⟨fun _=>⟨⟨ρ,X,by simp[ZaR,Zbe]⟩,by simp[ZbB,Zbe]⟩,fun C z=>by cases z⟩
theorem Zmz{es:ZW}{ρ:Lc}(h:es ρ H=some ([.int b],H))(hb:b=n)(hn:n≤1000): ZaN es ρ H=some (Zbe 0 1 n,n+1,H):=by
 have:=ZiC (b:=b) (H:=H) (by omega) (by omega)
 rw[show b.toNat=n by omega]at this
 simp only[ZaN,h,Zs0]
 exact this
noncomputable def Zbl(fs:List T)(os:List (Option Addr)): Option Addr:=if fs.length=0 then some 49 else os.foldr ZK none
theorem ZeI{v:V}(r:Rt H v (.lst fs))(hN:fs.length≤1000)(P:Pg12 fs os): (Zbl fs os=none→(∃X,ZeP [v] H=some (.bool true,H++X))∧Zcl [v] H=none)∧∀C,Zbl fs os=some C→∃X,Zcl [v] H=some (C,H++X):=by
 obtain⟨pb,vs,rfl,e,_,F,rs,hF⟩:=r.lst
 have hl:vs.length=fs.length:=rs.length
 generalize hρ:(fun i:Nat=>[V.ref pb][i]?)=ρ
 have h0:ρ 0=some (.ref pb):=by rw[←hρ];rfl
 have ln:Ze Z2 (eCons (eVar 0) eNil) ρ H=some (.int fs.length,H):=by simp[Ze,Z2,eCons,eVar,eNil,h0,e,hl]
 have tt:Zp (Za ZU (Ze Z2 (eCons (eVar 0) eNil)) (Zb 0)) ρ H=some (decide ((fs.length:Int)=0),H):=by
  have:=@ZiY H fs.length 0
  simp only[Zp,Za,ln,Zs0,Zb,this,Z9,Zs1]
 unfold Zbl
 by_cases c:fs.length=0
 ·rw[if_pos c]
  rw[decide_eq_true (show(fs.length:Int)=0 by omega)]at tt
  refine⟨fun z=>(by cases z),fun C z=>⟨[],?_⟩⟩
  cases z
  have z:=(OutS.yes (a:=PM.sNo) (b:=ZN) (br:=rNo) tt (OutS.raise (C:=49) (x:=Str.ofString "there is no function") (ρ:=ρ) (H:=H))).2 49 rfl
  have:Zcy ρ H=some (49,H):=by
   unfold Zcy
   simp only[Zae,z]
  simp[Zcl,ZaQ,hρ,this]
 ·rw[if_neg c]
  rw[decide_eq_false (show ¬(fs.length:Int)=0 by omega)]at tt
  have nn:=(OutS.no (a:=PM.sNo) (ar:=Zbq 49 (eCons (Zo (Str.ofString "there is no function")) eNil)) (b:=ZN) (br:=rNo) tt OutS.next).1 rfl
  have rg:ZaN (eCons (Ze Z2 (eCons (eVar 0) eNil)) eNil) ρ H=some (Zbe 0 1 fs.length,fs.length+1,H):=Zmz (b:=(fs.length:Int)) (by simp only[eCons,eNil,ln,Zs0]) rfl hN
  obtain⟨i1,i2⟩:=Ziu r hN P (fs.length+1) 0 ρ [] (by omega) (by omega) h0
  rw[List.append_nil,List.drop_zero]at i1 i2
  refine⟨fun z=>?_,fun C z=>?_⟩
  ·obtain⟨⟨ρ',Y,k1⟩,k2⟩:=i1 z
   refine⟨⟨Y,?_⟩,?_⟩
   rotate_left
   ·have f1:Zbv (ZaN (eCons (Ze Z2 (eCons (eVar 0) eNil)) eNil)) (ZH 1) wmR wmA ρ H=none:=by simp only[Zbv,rg,Zs0,k2]
    have:Zcy ρ H=none:=by
     unfold Zcy
     rw[Zbw nn.2 nn.1]
     exact f1
    simp[Zcl,ZaQ,hρ,this]
   have f1:ZaA (ZaN (eCons (Ze Z2 (eCons (eVar 0) eNil)) eNil)) (ZH 1) wmA ρ H=some (none,ρ',H++Y):=by simp only[ZaA,rg,Zs0,k1]
   have:ZeO ρ H=some (some (.bool true),ρ',H++Y):=by
    unfold ZeO
    rw[ZcW nn.1,ZcW f1]
    simp only[ZQ,ZbH,Zs1]
   simp[ZeP,Z3,hρ,this]
  ·obtain⟨Y,k1⟩:=i2 C z
   refine⟨Y,?_⟩
   have f1:Zbv (ZaN (eCons (Ze Z2 (eCons (eVar 0) eNil)) eNil)) (ZH 1) wmR wmA ρ H=some (C,H++Y):=by simp only[Zbv,rg,Zs0,k1]
   have:Zcy ρ H=some (C,H++Y):=by
    unfold Zcy
    rw[Zbw nn.2 nn.1]
    exact f1
   simp[Zcl,ZaQ,hρ,this]
end
inductive Bl: Nat→T→Prop where
 | none {n:Nat}:Bl n .none
 | bool {n:Nat} {b:Bool}:Bl n (.bool b)
 | int {n:Nat} {i:Int}:Bl n (.int i)
 | str {n:Nat} {x:Str}:PyData.strOk x=true→Bl n (.str x)
 | tup {n:Nat} {ts:List T}:(∀t∈ts,Bl n t)→ts.length≤10000→Bl (n+1) (.tup ts)
 | lst {n:Nat} {ts:List T}:(∀t∈ts,Bl n t)→ts.length≤10000→Bl (n+1) (.lst ts)
theorem Bl.mono(h:Bl n t): ∀{m:Nat},n≤m→Bl m t:=by
 induction h with
 | none=>intro m _;exact .none
 | bool=>intro m _;exact .bool
 | int=>intro m _;exact .int
 | str h=>intro m _;exact .str h
 | tup hs hl ih=>
  intro m hm
  cases m with
  | zero=>omega
  | succ m=>exact .tup (fun t a=>ih t a (by omega)) hl
 | lst hs hl ih=>
  intro m hm
  cases m with
  | zero=>omega
  | succ m=>exact .lst (fun t a=>ih t a (by omega)) hl
theorem Bl.dat(h:Bl n t): Zbk n t=some (dd t)∧PyData.canLay0 (dd t)=true∧PyData.depth (dd t)≤n:=by
 induction h with
 | @none n=>cases n <;> exact⟨rfl,rfl,by simp[dd,PyData.depth]⟩
 | @bool n b=>cases n <;> exact⟨rfl,rfl,by simp[dd,PyData.depth]⟩
 | @int n i=>cases n <;> exact⟨rfl,rfl,by simp[dd,PyData.depth]⟩
 | @str n x h=>cases n <;> exact⟨rfl,by simpa [dd,PyData.canLay0]using h,by simp[dd,PyData.depth]⟩
 | @tup n ts _ _ ih=>
  refine⟨?_,?_,?_⟩
  ·simp only[Zbk,Zd1 fun t m=>(ih t m).1,Zs1,dd]
  ·simp only[dd,PyData.canLay0];exact Zd5 fun t m=>(ih t m).2.1
  ·simp only[dd,PyData.depth]
   have:=Zd6 fun t m=>(ih t m).2.2
   omega
 | @lst n ts _ _ ih=>
  refine⟨?_,?_,?_⟩
  ·simp only[Zbk,Zd1 fun t m=>(ih t m).1,Zs1,dd]
  ·simp only[dd,PyData.canLay0];exact Zd5 fun t m=>(ih t m).2.1
  ·simp only[dd,PyData.depth]
   have:=Zd6 fun t m=>(ih t m).2.2
   omega
theorem Zgt: ∀{ts:List T},(∀t∈ts,PyData.eqv (dd t) (dd t)=true)→PyData.eqvAll (dds ts) (dds ts)=true
 | [],_=>by simp[dds,PyData.eqvAll]
 | t::ts,h=>by
  simp only[dds,PyData.eqvAll,Bool.and_eq_true,h t Zz5,Zgt fun t m=>h t (Zz2 _ m),and_self]
theorem Bl.eqv(h:Bl n t): PyData.eqv (dd t) (dd t)=true:=by
 induction h with
 | none=>simp[dd,PyData.eqv]
 | bool=>simp[dd,PyData.eqv]
 | int=>simp[dd,PyData.eqv]
 | str _=>simp[dd,PyData.eqv]
 | tup hs _ ih=>simp only[dd,PyData.eqv];exact Zgt ih
 | lst hs _ ih=>simp only[dd,PyData.eqv];exact Zgt ih
theorem ZkQ{a:T}(ha:Bl n a)(hn:n≤40:=by decide): Zcg a a=some true:=by
 have ha:=ha.mono hn
 obtain⟨a1,a2,a3⟩:=ha.dat
 unfold Zcg ZaF
 rw[a1]
 simp only[Zs0]
 have hs:SeqAt.shaped (dd a)=true:=by simp only[SeqAt.shaped,a2,Bool.true_and,decide_eq_true_eq];omega
 rw[if_pos ⟨hs,hs⟩,ha.eqv]
section
variable {Q:T→Prop}
end
noncomputable def Za6(ns:List Int): T:=.lst (ns.map T.int)
noncomputable def LayX(ns:List Int): Prop:=∀i:Int,Cell (cellAt ns i 0)
theorem ZkR: (ns.map T.int).length=ns.length:=by simp
theorem Zkk(hL:LayX ns): Cell 0:=by
 have:=hL (ns.length:Int)
 rw[cellAt_def]at this
 simpa using this
theorem Znh(h:PyData.layable0 (.list (ns.map .int))=true): LayX ns:=fun i=>cell_at h i
theorem LayX.drop{k:Nat}(h:LayX ns): LayX (ns.drop k):=fun i=>by
 have:=h ((k+i.toNat:Nat):Int)
 rw[cellAt_def,Int.toNat_natCast]at this
 rw[cellAt_def,List.getD_eq_getElem?_getD,List.getElem?_drop,←List.getD_eq_getElem?_getD]
 exact this
section
variable {Q:T→Prop}
theorem Zm0(h:Q (.int M5)): Pk (ZbY (.int 48271) (.int 14)) Q:=by
 have:=ZmN []
 simp only[oPow]at this
 split at this
 ·rename_i hc
  refine⟨_,by simp only[ZbY];rw[if_pos hc],?_⟩
  simp only[Option.some.injEq,Prod.mk.injEq,V.int.injEq,and_true]at this
  rw[this];exact h
 ·cases this
theorem Zjc(h:Q (.int T60)): Pk (ZbY (.int 10) (.int 60)) Q:=by
 have:=ZlK []
 simp only[oPow]at this
 split at this
 ·rename_i hc
  refine⟨_,by simp only[ZbY];rw[if_pos hc],?_⟩
  simp only[Option.some.injEq,Prod.mk.injEq,V.int.injEq,and_true]at this
  rw[this];exact h
 ·cases this
theorem Ziv(h1:-(2 ^ 64)<b)(h2:b<2 ^ 64)(h:Q (.int (a*b))): Pk (ZbZ (.int a) (.int b)) Q:=ZgO (Zkc h1 h2) h
theorem ZmA{a b:Str}(h:a≠b): T.str a≠T.str b:=fun e=>h (by cases e;rfl)
theorem Zcq{a:Str}(ha:PyData.strOk a=true)(h:Q (.bool true)): Pk (qEq (.str a) (.str a)) Q:=ZiN (n:=1) (m:=1) (.str ha) (.str ha) (by rw[Zi7 rfl];exact h)
theorem Zbj{a b:Str}(hab:(PyData.strOk a && PyData.strOk b && decide (a≠b))=true)(h:Q (.bool false)): Pk (qEq (.str a) (.str b)) Q:=by
 simp only[Bool.and_eq_true,decide_eq_true_eq]at hab
 exact ZiN (n:=1) (m:=1) (.str hab.1.1) (.str hab.1.2) (by rw[ZgX (ZmA hab.2)];exact h)
theorem Zdm(h1:0<b)(h2:b<2 ^ 30)(h:Q (.int (a.fdiv b))): Pk (Zb7 (.int a) (.int b)) Q:=Zma (by omega) (PyProof.noPylong_small (by omega)) h
theorem Ziw(h1:-(2 ^ 64)<a)(h2:a<2 ^ 64)(h:Q (.int (a*b))): Pk (ZbZ (.int a) (.int b)) Q:=ZgO (ZjV h1 h2) h
end
inductive Nice: Nat→T→Prop where
 | none {n:Nat}:Nice n .none
 | bool {n:Nat} (b:Bool):Nice n (.bool b)
 | int {n:Nat} (i:Int):Nice n (.int i)
 | str {n:Nat} {s:Str}:PyData.strOk s=true→Nice n (.str s)
 | tup {n:Nat} {ts:List T}:ts.length≤1000→(∀t∈ts,Nice n t)→Nice (n+1) (.tup ts)
 | lst {n:Nat} {ts:List T}:ts.length≤1000→(∀t∈ts,Nice n t)→Nice (n+1) (.lst ts)
theorem Nice.mono{m:Nat}(h:Nice n t)(k:n≤m): Nice m t:=by
 induction h generalizing m with
 | none=>exact .none
 | bool b=>exact .bool b
 | int i=>exact .int i
 | str h=>exact .str h
 | tup h1 h2 ih=>
  match m,k with
  | m+1,k=>exact .tup h1 fun t ht=>ih t ht (by omega)
 | lst h1 h2 ih=>
  match m,k with
  | m+1,k=>exact .lst h1 fun t ht=>ih t ht (by omega)
theorem Zkl{f:Nat→T}(h:t∈tab n f): ∃i,i<n∧f i=t:=by
 simp only[tab,List.mem_map,List.mem_range]at h
 obtain⟨i,a,b⟩:=h
 exact⟨i,a,b⟩
theorem nl0: ∀t∈([]:List T),Nice n t:=fun t h=>(List.not_mem_nil h).elim
theorem nlc{ts:List T}(h:Nice n t)(k:∀t∈ts,Nice n t): ∀u∈t::ts,Nice n u:=fun u m=>by
 rcases Zz7.mp m with rfl | m
 ·exact h
 ·exact k u m
theorem ZhP{σ:TL}{j:Nat}{F:List T→Option T}{g:PE}{ts:List T}{Q:T→Prop}(hg:ZcL g σ=some ts)(hl:ts.length≤1000)(h:∀t∈ts,F [t]=some t)(q:Q (.lst ts)): Pk (Zce (ZcL g) (ZaE j) ZbK (Zak F (Zd (Zc j) Zq)) σ) Q:=by
 refine⟨.lst ts,?_,q⟩
 have:=ZhI (σ:=σ) (j:=j) (f:=Zak F (Zd (Zc j) Zq)) (h:=fun t=>t) (ts:=ts) fun t m=>by
  simp only[Zak,Zd,Zc,Zq,Zgj,Zs0,Zs1]
  exact h t m
 simp only[Zce,hg,Zs0,this]
 rw[if_pos (by rw[Zav];omega)]
 simp
theorem Zkm(h:Nice n t): ZcQ (n+1) [t]=some t:=by
 induction h with
 | none=>rfl
 | bool b=>rfl
 | int i=>rfl
 | str h=>rfl
 | @tup n ts hl hs ih=>
  apply Pk.eq
  show Pk (Zcu 1 (Zda (ZcQ (n+1))) [.tup ts]) _
  unfold Zda
  walk_at "z"
  refine ZhP (ts:=ts) rfl hl ih ?_
  walk_at "z"
  rfl
 | @lst n ts hl hs ih=>
  apply Pk.eq
  show Pk (Zcu 1 (Zda (ZcQ (n+1))) [.lst ts]) _
  unfold Zda
  walk_at "z"
  exact ZhP (ts:=ts) rfl hl ih rfl
theorem Zkn(h:Nice 23 t): ZfU [t]=some t:=Zkm h
noncomputable def wT(x:Str): T:=.str (if PyData.strOk x=true then x else Str.ofString "")
noncomputable def fd(ns:List Int)(p:Nat)(r:Int)(ws:List Str)(sp:List Int)(w:Str): T:=.lst [Za6 ns,.int p,.int r,.lst (ws.map wT),.lst (sp.map T.int),.str w]
section
variable {ns:List Int} {p:Nat} {r:Int} {ws:List Str} {sp:List Int} {w:Str} {Q:T→List T→Prop}
theorem ZiZ(hL:LayX ns)(h:∀v,Cell v→Q (.int v) [fd ns (p+1) r ws sp w]): Pr (ZdW [fd ns p r ws sp w]) Q:=by
 unfold ZdW Zgg fd Za6
 have hl:(ns.map T.int).length=ns.length:=ZkR
 walk_at "tz"
 refine⟨_,1,rfl,rfl,by decide,(by simp),?_⟩
 show Psx (Zx _ _ (Zw _ 0 (T.lst [T.lst (List.map T.int ns),T.int ((p:Int)+1),T.int r,T.lst (ws.map wT),T.lst (sp.map T.int),T.str w]))) _ _
 walk_at "tz"
 rw[hl]
 refine⟨fun c=>?_,fun c=>?_⟩
 ·walk_at "tz"
  exact h 0 (Zkk hL)
 ·have c:=of_decide_eq_false c
  have hp:p<ns.length:=by omega
  walk_at "tz"
  refine Zar (t:=.int (cellAt ns p 0)) (by omega) ?_ ?_
  ·rw[show((p:Int)+1-1).toNat=p by omega,List.getElem?_map,Zy1 hp,cellAt_def]
   simp only[Zs1,T.int.injEq,Option.some.injEq]
   rw[List.getD_eq_getElem?_getD,show((p:Int)).toNat=p by omega,Zy1 hp]
   rfl
  walk_at "tz"
  exact h _ (hL _)
theorem ZaP{m:Int}(hL:LayX ns)(hm:0<m)(h:∀v,0≤v→v<m→Q (.int v) [fd ns (p+1) r ws sp w]): Pr (ZaI [fd ns p r ws sp w,.int m]) Q:=by
 unfold ZaI ZfK
 walk_at "tz"
 refine(ZiZ hL fun v hv=>?_)
 walk_at "tz"
 refine Ziv (by decide) (by decide) ?_
 walk_at "tz"
 exact h _ (Int.fmod_nonneg_of_pos _ hm) (Int.fmod_lt_of_pos _ hm)
theorem Zd2(hL:LayX ns)(h:∀v,Q (.int v) [fd ns (p+1) r ws sp w]): Pr (Zcx [fd ns p r ws sp w]) Q:=by
 unfold Zcx Zfy
 walk_at "tz"
 refine(ZiZ hL fun v hv=>?_)
 walk_at "tz"
 refine Zdm (by decide) (by decide) ?_
 walk_at "tz"
 refine Zm0 ?_
 walk_at "tz"
 refine ZgO (ZjU hv) ?_
 walk_at "tz"
 refine⟨fun c=>?_,fun c=>?_⟩
 ·walk_at "tz"
  refine Zjc ?_
  walk_at "tz"
  refine Ziw (by decide) (by decide) ?_
  walk_at "tz"
  refine Zjc ?_
  walk_at "tz"
  exact h _
 walk_at "tz"
 refine⟨fun c=>?_,fun c=>?_⟩
 ·walk_at "tz"
  exact h _
 ·walk_at "tz"
  exact h _
end
end L
open PySem PM TM
namespace L
variable {fs:List T} {os:List (Option Addr)} {t:T} {o:Option Addr} {w:Str} {fx v x:Int} {k n p0:Nat} {Q:T→Prop} {mn:Bool}
noncomputable def cls12: List (Addr×Str):=[(49,Str.ofString "NoShape"),(61,Str.ofString "NoBox"),(73,Str.ofString "FixedBox"),(85,Str.ofString "NoSum"),(97,Str.ofString "NoStep"),(37,Str.ofString "NoStretch"),(109,Str.ofString "NoCall")]
noncomputable def ZeJ: Lc→Hp→Option (V×Hp):=fun ρ H=>(ρ 0).bind fun v=>match Zcl [v] H with
 | some q=>(cls12.lookup q.1).map fun x=>(.tup [.str x,.bool true],q.2)
 | none=>(ZeP [v] H).map fun q=>(.tup [.str (Str.ofString ""),q.1],q.2)
noncomputable def Zdf: List V→Hp→Option (V×Hp):=Zc5 1 ZeJ
mutual
theorem Zjd(H:Hp): ∀t:T,∃X v F,RF (H++X) v t F
 | .none=>⟨[],_,_,.none⟩
 | .bool b=>⟨[],_,_,.bool b⟩
 | .int i=>⟨[],_,_,.int i⟩
 | .str s=>⟨[],_,_,.str s⟩
 | .tup ts=>by
  obtain⟨X,vs,F,h⟩:=Zfg H ts
  exact⟨X,_,_,.tup h⟩
 | .lst ts=>by
  obtain⟨X,vs,F,h⟩:=Zfg H ts
  exact⟨X++[vs],.ref (H++X).length,_,.ref (vs:=vs) (by rw[←List.append_assoc];simp) (by rw[←List.append_assoc];exact h.ext _)⟩
 | .ob c ts=>by
  obtain⟨X,vs,F,h⟩:=Zfg H ts
  exact⟨X++[vs],.obj c (H++X).length,_,.obj (vs:=vs) (by rw[←List.append_assoc];simp) (by rw[←List.append_assoc];exact h.ext _)⟩
theorem Zfg(H:Hp): ∀ts:List T,∃X vs F,RFs (H++X) vs ts F
 | []=>⟨[],[],[],.nil⟩
 | t::ts=>by
  obtain⟨X,v,F,h⟩:=Zjd H t
  obtain⟨Y,vs,G,k⟩:=Zfg (H++X) ts
  exact⟨X++Y,_,_,by rw[←List.append_assoc];exact .cons (h.ext Y) k⟩
end
theorem ZmB{os':List (Option Addr)}(hN:fs.length≤1000)(P:Pg12 fs os)(P':Pg12 fs os'): Zbl fs os=Zbl fs os':=by
 obtain⟨X,v,F,h⟩:=Zjd [] (.lst fs)
 have r:Rt ([]++X) v (.lst fs):=⟨F,h,fun _ _=>trivial⟩
 obtain⟨a1,a2⟩:=ZeI r hN P
 obtain⟨b1,b2⟩:=ZeI r hN P'
 cases ha:Zbl fs os with
 | none=>
  cases hb:Zbl fs os' with
  | none=>rfl
  | some C=>
   obtain⟨Y,z⟩:=b2 C hb
   rw[(a1 ha).2]at z
   cases z
 | some C=>
  obtain⟨Y,z⟩:=a2 C ha
  cases hb:Zbl fs os' with
  | none=>
   rw[(b1 hb).2]at z
   cases z
  | some C'=>
   obtain⟨Y',z'⟩:=b2 C' hb
   rw[z]at z'
   have:=congrArg (fun q:Option (Addr×Hp)=>q.map (·.1)) z'
   simpa using this
noncomputable def Zi0: Option Addr→Option Str
 | none=>some (Str.ofString "")
 | some C=>cls12.lookup C
open Classical in
noncomputable def Zdy(t:T): Option (Option Addr):=match t with
 | .lst fs=>if h:fs.length≤1000∧∃os,Pg12 fs os then some (Zbl fs (choose h.2))else none
 | _=>none
theorem Zh4(hN:fs.length≤1000)(P:Pg12 fs os): Zdy (.lst fs)=some (Zbl fs os):=by
 have h:fs.length≤1000∧∃os,Pg12 fs os:=⟨hN,os,P⟩
 simp only[Zdy]
 rw[dif_pos h,ZmB hN (Classical.choose_spec h.2) P]
theorem ZhQ(h:Zdy t=some o): ∃fs os,t=.lst fs∧fs.length≤1000∧Pg12 fs os∧Zbl fs os=o:=by
 unfold Zdy at h
 split at h
 ·rename_i fs
  split at h
  ·rename_i h1
   cases h
   exact⟨fs,_,rfl,h1.1,Classical.choose_spec h1.2,rfl⟩
  ·cases h
 ·cases h
noncomputable def ZdP: List T→Option T
 | [t]=>(Zdy t).bind fun o=>(Zi0 o).map fun x=>.tup [.str x,.bool true]
 | _=>none
theorem ZjC: SimF true Zdf ZdP:=fun H vs ts t F1 hp r e=>by
 unfold ZdP at e
 split at e
 case h_2=>cases e
 rename_i tp
 obtain⟨o,e1,e⟩:=Zz0.mp e
 obtain⟨x,e2,e⟩:=Zz1.mp e
 subst e
 obtain⟨fs,os,rfl,hN,P,hw⟩:=ZhQ e1
 cases r with
 | @cons v _ F _ _ _ rp r=>
 cases r
 have rt:Rt H v (.lst fs):=⟨_,rp,fun _ _=>trivial⟩
 obtain⟨a1,a2⟩:=ZeI rt hN P
 have key:∃X,Zdf [v] H=some (.tup [.str x,.bool true],H++X):=by
  cases o with
  | none=>
   obtain⟨⟨X,z1⟩,z2⟩:=a1 hw
   cases e2
   exact⟨X,by simp[Zdf,Zc5,ZeJ,z2,z1]⟩
  | some C=>
   obtain⟨X,z⟩:=a2 C hw
   have e2:cls12.lookup C=some x:=e2
   exact⟨X,by simp[Zdf,Zc5,ZeJ,z,e2]⟩
 obtain⟨X,z⟩:=key
 exact⟨_,X,[],z,.tup (.cons (F:=[]) (G:=[]) (.str x) (.cons (F:=[]) (G:=[]) (.bool true) .nil)),fun a m=>(List.not_mem_nil m).elim,fun _=>⟨List.nodup_nil,fun a m=>(List.not_mem_nil m).elim⟩⟩
noncomputable def e12: Str:=Str.ofString ""
noncomputable def Fa(w w':Str)(o:Option Addr): Prop:=PyData.strOk w'=true∧(w≠e12→w'=w)∧(w=e12→(w'=e12∧o=none)∨∃C x,o=some C∧cls12.lookup C=some x∧x≠e12∧w'=x)
theorem Fa.none(h:PyData.strOk w=true): Fa w w none:=⟨h,fun _=>rfl,fun e=>.inl ⟨e,rfl⟩⟩
theorem Fa.seq{w1 w2:Str}{o1 o2:Option Addr}(h1:Fa w w1 o1)(h2:Fa w1 w2 o2): Fa w w2 (ZK o1 o2):=by
 obtain⟨a0,a1,a2⟩:=h1
 obtain⟨b0,b1,b2⟩:=h2
 refine⟨b0,fun hw=>?_,fun hw=>?_⟩
 ·have:=a1 hw
  subst this
  exact b1 hw
 ·rcases a2 hw with⟨e,rfl⟩ | ⟨C,x,rfl,hx,hn,e⟩
  ·exact b2 e
  ·exact .inr ⟨C,x,rfl,hx,hn,by rw[b1 (by rw[e];exact hn),e]⟩
theorem Fa.off{x:Str}{C:Addr}(h:PyData.strOk w=true)(hx:PyData.strOk x=true)(hc:cls12.lookup C=some x)(hn:x≠e12): Fa w (if w=e12 then x else w) (some C):=by
 by_cases c:w=e12
 ·rw[if_pos c]
  exact⟨hx,fun z=>absurd c z,fun _=>.inr ⟨C,x,rfl,hc,hn,rfl⟩⟩
 ·rw[if_neg c]
  exact⟨h,fun _=>rfl,fun z=>absurd z c⟩
theorem ZmC{m:Nat}{a:T}{ts:List T}(ha:Pln n a)(hb:Pln m (.lst ts))(h:∀b,Q (.bool b))(hn:n≤40:=by decide)(hm:m≤40:=by decide): Pk (Zfb a (.lst ts)) Q:=⟨_,by simp only[Zfb,Zmi ha hb hn hm,Zs1];rfl,h _⟩
section
variable {ns:List Int} {p:Nat} {r:Int} {ws:List Str} {sp:List Int} {w:Str} {Q:T→List T→Prop}
theorem ZcG{x:Str}(hw:PyData.strOk w=true)(hws:ws.length≤2000)(hsp:sp.length≤10)(h0:Q (.bool false) [fd ns p r (ws++[x]) sp w])(h1:Q (.bool true) [fd ns p r (ws++[x]) sp (if w=e12 then x else w)])(hx:PyData.strOk x=true:=by decide +kernel): Pr (Zb2 [fd ns p r ws sp w,.str x]) Q:=by
 unfold Zb2 Zgn fd
 walk_at "tz"
 refine ZkJ (by decide) ?_
 walk_at "tz"
 refine⟨_,ws.map wT,3,3,rfl,by decide,rfl,rfl,rfl,by simp;omega,?_⟩
 rw[show ws.map wT++[T.str x]=(ws++[x]).map wT by simp[wT,hx]]
 show Psx (Zx _ _ (Zw _ 0 (T.lst [Za6 ns,.int p,.int r,.lst ((ws++[x]).map wT),.lst (sp.map T.int),.str w]))) _ _
 walk_at "tz"
 refine ZmC (n:=1) (m:=2) .int (.lst fun t ht=>?_) fun b=>?_
 ·obtain⟨k,_,rfl⟩:=Zz11.mp ht
  exact .int
 walk_at "tz"
 refine⟨fun c=>?_,fun c=>?_⟩
 ·walk_at "tz"
  exact h0
 ·walk_at "tz"
  by_cases ce:w=e12
  ·rw[if_pos ce]at h1
   subst ce
   refine Zcq (by decide +kernel) ?_
   walk_at "tz"
   refine⟨_,5,rfl,rfl,by decide,(by simp),?_⟩
   walk_at "tz"
   exact h1
  ·rw[if_neg ce]at h1
   refine Zbj (by simp[hw,ce,e12]at ce ⊢;exact⟨by decide +kernel,ce⟩) ?_
   walk_at "tz"
   exact h1
end
theorem ZaJ{c:Option (Option T×TL)}{R:T→TL→Prop}{N N':TL→Prop}(h:Psx c R N')(k:∀σ,N' σ→N σ): Psx c R N:=by
 obtain⟨o,σ,h1,h2,h3⟩:=h
 exact⟨o,σ,h1,h2,fun e=>k σ (h3 e)⟩
theorem ZmD(h:Q (.int 1000000000)): Pk (ZbY (.int 10) (.int 9)) Q:=⟨_,by simp only[ZbY];rw[if_pos (by decide +kernel)];rfl,h⟩
theorem ZlD(h0:0≤v)(h1:v<8): ∃z:Int,([T.int 0,.int 1,.int (-1),.int 2,.int 0,.int (-3),.int 1,.int 1000000000]:List T)[v.toNat]?=some (.int z):=by
 have hv:v=0∨v=1∨v=2∨v=3∨v=4∨v=5∨v=6∨v=7:=by omega
 rcases hv with rfl | rfl | rfl | rfl | rfl | rfl | rfl | rfl <;> exact⟨_,rfl⟩
theorem Zm1{l:Nat}(h:l=n+1): ckS n l=none:=by
 unfold ckS
 rw[if_neg (by omega)]
theorem Zm2{l:Nat}(h:l≠n+1): ckS n l=some 85:=by
 unfold ckS
 rw[if_pos (by omega)]
section
variable {ns:List Int} {p:Nat} {r:Int} {ws:List Str} {sp:List Int} {w:Str} {Q:T→List T→Prop}
theorem Zc2{p0:Int}(hL:LayX ns)(hw:PyData.strOk w=true)(hws:ws.length≤1900)(hsp:sp.length≤10)(h1:1≤n)(hn:n≤4)(h:∀(l:List Int) p' ws' w',l.length≤6→ws'.length≤ws.length+1→Fa w w' (ckS n l.length)→Q (.lst (l.map T.int)) [fd ns p' r ws' sp w']): Pr (Zdc [fd ns p r ws sp w,.lst [.int p0,.int n]]) Q:=by
 unfold Zdc ZfX
 refine Zee rfl ?_
 refine ZaG (ZaJ (N':=fun τ=>τ 0=some (fd ns p r ws sp w)∧τ 2=some (.int n)) ?_ fun τ0 hτ0=>?_)
 ·walk_at "tz"
  exact⟨by walk_at "tr",by walk_at "tr"⟩
 obtain⟨y0,y2⟩:=hτ0
 refine ZaG (ZaJ (N':=fun τ=>∃(m p':Nat) (w':Str),m≤5∧τ 0=some (fd ns p' r (ws++[Str.ofString "NoSum"]) sp w')∧τ 2=some (.int m)∧Fa w w' (ckS n (m+1))) ?_ fun τ hτ=>?_)
 ·walk_at "tz"
  refine ZcG hw (by omega) hsp ?_ ?_
  ·walk_at "tz"
   exact⟨n,p,w,by omega,by walk_at "tr",by walk_at "tr",by rw[Zm1 rfl];exact .none hw⟩
  ·walk_at "tz"
   refine ZaP hL (by decide) fun v v0 v1=>?_
   walk_at "tz"
   refine Ziw (by decide) (by decide) ?_
   walk_at "tz"
   have hv:v=0∨v=1:=by omega
   refine⟨(n+2*v-1).toNat,p+1,_,by omega,by walk_at "tr",?_,?_⟩
   ·rw[show(((n:Int)+2*v-1).toNat:Int)=(n:Int)+2*v-1 by omega]
    walk_at "tr"
   ·rw[Zm2 (by omega)]
    exact Fa.off hw (by decide +kernel) (by decide +kernel) (by decide +kernel)
 ·obtain⟨m,p',w',hm,e0,e2,fa⟩:=hτ
  walk_at "tz"
  refine Zd2 hL fun v=>?_
  walk_at "tz"
  refine ZaP hL (by decide) fun cd c0 c1=>?_
  walk_at "tz"
  refine Zir (n:=m) (a:=fun i=>.int (i:Nat)) (fun i τ=>∃ks cd p'',τ 0=some (fd ns p'' r (ws++[Str.ofString "NoSum"]) sp w')∧τ 3=some (.lst ((v::ks).map T.int))∧τ 4=some (.int cd)∧ks.length=i) ?_ ⟨[],cd,p'+1+1,?_,?_,?_,rfl⟩ (fun i τ hi hI=>?_) (fun τ hI=>?_)
  ·walk_at "tz"
   rfl
  ·walk_at "tr"
  ·walk_at "tr"
  ·walk_at "tr"
  ·obtain⟨ks,cd,p'',e0,e3,e4,hk⟩:=hI
   have m0:=Int.fmod_nonneg_of_pos cd (show(0:Int)<8 by decide)
   have m1:=Int.fmod_lt_of_pos cd (show(0:Int)<8 by decide)
   obtain⟨z,ez⟩:=ZlD m0 m1
   walk_at "tz"
   refine ZmD ?_
   walk_at "tz"
   refine Zar (t:=.int z) m0 ez ?_
   walk_at "tz"
   refine⟨(v::ks).map T.int,by walk_at "tr",by simp;omega,?_⟩
   walk_at "tz"
   refine Zdm (by decide) (by decide) ?_
   refine⟨ks++[z],cd.fdiv 8,p'',by walk_at "tr",?_,by walk_at "tr",by simp[hk]⟩
   rw[←List.cons_append,List.map_append];walk_at "tr"
  ·obtain⟨ks,cd,p'',e0,e3,e4,hk⟩:=hI
   walk_at "tz"
   refine h (v::ks) _ _ _ (by simp;omega) (by simp) ?_
   rw[show(v::ks).length=m+1 by simp[hk]]
   exact fa
theorem ZgQ(hL:LayX ns)(hw:PyData.strOk w=true)(hws:ws.length≤1900)(hsp:sp.length≤10)(h:∀d p' ws' w',ws'.length≤ws.length+1→Fa w w' (ckD d)→Q (.int d) [fd ns p' r ws' sp w']): Pr (ZdN [fd ns p r ws sp w]) Q:=by
 unfold ZdN ZfP
 have dn:∀d:Int,1≤d→ckD d=none:=fun d hd=>by unfold ckD;rw[if_neg (by omega)]
 have dy:∀d:Int,d<1→ckD d=some 97:=fun d hd=>by unfold ckD;rw[if_pos hd]
 walk_at "tz"
 refine ZcG hw (by omega) hsp ?_ ?_
 ·walk_at "tz"
  refine Zd2 hL fun v=>?_
  walk_at "tz"
  refine h _ _ _ _ (by simp) ?_
  rw[dn _ (by split <;> omega)]
  exact .none hw
 ·walk_at "tz"
  refine Zd2 hL fun v=>?_
  walk_at "tz"
  refine ZaP hL (by decide) fun k k0 k1=>?_
  walk_at "tz"
  have hk:k=0∨k=1:=by omega
  rcases hk with rfl | rfl
  ·refine Zar (t:=.int 0) (by decide) rfl ⟨rfl,?_⟩
   walk_at "tz"
   refine h _ _ _ _ (by simp) ?_
   rw[dy _ (by decide)]
   exact Fa.off hw (by decide +kernel) (by decide +kernel) (by decide +kernel)
  ·refine Zar (by decide) rfl ⟨rfl,?_⟩
   walk_at "tz"
   refine h _ _ _ _ (by simp) ?_
   rw[dy _ (by split <;> omega)]
   exact Fa.off hw (by decide +kernel) (by decide +kernel) (by decide +kernel)
end
theorem Zdr{l:List Int}(h:l.length≤6): Nice (k+1) (.lst (l.map T.int)):=.lst (by simp;omega) fun t m=>by
 obtain⟨i,_,rfl⟩:=Zz11.mp m
 exact .int i
theorem ZmE{n:Int}(h:x<1∨n<x): ckB n fx x=some 61:=by unfold ckB;rw[if_pos h]
theorem ZmF{n:Int}(h1:1≤x)(h2:x≤n)(h:x≤fx): ckB n fx x=some 73:=by unfold ckB;rw[if_neg (by omega),if_pos h]
theorem ZgR{n:Int}(h1:1≤x)(h2:x≤n)(h:fx<x): ckB n fx x=none:=by unfold ckB;rw[if_neg (by omega),if_neg (by omega)]
section
variable {ns:List Int} {p:Nat} {r:Int} {ws:List Str} {sp:List Int} {w:Str} {Q:T→List T→Prop}
theorem ZgK{p0:Int}(hL:LayX ns)(hw:PyData.strOk w=true)(hws:ws.length≤1800)(hsp:sp.length≤10)(h1:1≤n)(hn:n≤4)(h:∀c o p' ws' w',Cl12 n c o→Nice 2 c→ws'.length≤ws.length+2→Fa w w' o→Q c [fd ns p' r ws' sp w']): Pr (Zc7 [fd ns p r ws sp w,.lst [.int p0,.int n]]) Q:=by
 unfold Zc7 ZfE
 walk_at "tz"
 refine ZaP hL (by decide) fun v v0 v1=>?_
 walk_at "tz"
 have hv:v=0∨v=1∨v=2:=by omega
 have two:∀{x:Str} {l:List Int} {p':Nat} {ws':List Str} {w':Str},PyData.strOk x=true→x≠Zer→l.length≤6→ws'.length≤ws.length+1→Fa w w' (ckS n l.length)→Q (.tup [.str x,.lst (l.map T.int)]) [fd ns p' r ws' sp w']:=fun hx hn l6 hl fa=>by
  refine h _ _ _ _ _ (.two hx hn) (.tup (by simp) (nlc (.str hx) (nlc (Zdr l6) nl0))) (by omega) ?_
  rw[List.length_map]
  exact fa
 rcases hv with rfl | rfl | rfl
 ·refine Zar (t:=.str (Str.ofString "under")) (by decide) rfl ⟨rfl,?_⟩
  walk_at "tz"
  refine Zc2 hL hw (by omega) hsp h1 hn fun l p' ws' w' l6 hl fa=>?_
  walk_at "tz"
  refine Zbj (by decide +kernel) ?_
  walk_at "tz"
  exact two (by decide +kernel) (by decide +kernel) l6 hl fa
 ·refine Zar (t:=.str (Str.ofString "same")) (by decide) rfl ⟨rfl,?_⟩
  walk_at "tz"
  refine Zc2 hL hw (by omega) hsp h1 hn fun l p' ws' w' l6 hl fa=>?_
  walk_at "tz"
  refine Zbj (by decide +kernel) ?_
  walk_at "tz"
  exact two (by decide +kernel) (by decide +kernel) l6 hl fa
 ·refine Zar (t:=.str (Str.ofString "even")) (by decide) rfl ⟨rfl,?_⟩
  walk_at "tz"
  refine Zc2 hL hw (by omega) hsp h1 hn fun l p' ws' w' l6 hl fa=>?_
  walk_at "tz"
  refine Zcq (by decide +kernel) ?_
  walk_at "tz"
  refine ZgQ hL fa.1 (by omega) hsp fun d p'' ws'' w'' hl2 fa2=>?_
  walk_at "tz"
  refine h _ _ _ _ _ (.even (s:=l.map T.int) (d:=d)) (.tup (by simp) (nlc (.str (by decide +kernel)) (nlc (Zdr l6) (nlc (.int d) nl0)))) (by omega) ?_
  rw[List.length_map]
  exact fa.seq fa2
theorem Zes(hL:LayX ns)(hw:PyData.strOk w=true)(hws:ws.length≤1800)(hsp:sp.length≤10)(hp0:p0≤n)(h1:1≤n)(hn:n≤4)(hm:mn=true∨p0<n)(h:∀x p' ws' w',ws'.length≤ws.length+2→Fa w w' (ckB n (if mn then 0 else(p0:Int)) x)→Q (.int x) [fd ns p' r ws' sp w']): Pr (Zdi [fd ns p r ws sp w,.lst [.int p0,.int n],.bool mn]) Q:=by
 unfold Zdi Zgp
 walk_at "tz"
 refine ZcG hw (by omega) hsp ?_ ?_
 ·walk_at "tz"
  cases mn with
  | true=>
   walk_at "tz"
   refine ZaP hL (by omega) fun v v0 v1=>?_
   walk_at "tz"
   refine h _ _ _ _ (by simp) ?_
   rw[ZgR (by omega) (by omega) (by simp;omega)]
   exact .none hw
  | false=>
   have hm':p0<n:=hm.resolve_left (by decide)
   walk_at "tz"
   refine⟨fun c=>?_,fun c=>?_⟩
   ·have c:=of_decide_eq_true c
    walk_at "tz"
    refine ZcG hw (by simp;omega) hsp ?_ ?_
    ·walk_at "tz"
     refine ZaP hL (by omega) fun v v0 v1=>?_
     walk_at "tz"
     refine h _ _ _ _ (by simp) ?_
     rw[ZgR (by omega) (by omega) (by simp;omega)]
     exact .none hw
    ·walk_at "tz"
     refine ZaP hL (by omega) fun v v0 v1=>?_
     walk_at "tz"
     refine h _ _ _ _ (by simp) ?_
     rw[ZmF (by omega) (by omega) (by simp;omega)]
     exact Fa.off hw (by decide +kernel) (by decide +kernel) (by decide +kernel)
   ·have c:=of_decide_eq_false c
    walk_at "tz"
    refine ZaP hL (by omega) fun v v0 v1=>?_
    walk_at "tz"
    refine h _ _ _ _ (by simp) ?_
    rw[ZgR (by omega) (by omega) (by simp;omega)]
    exact .none hw
 ·walk_at "tz"
  refine ZaP hL (by decide) fun v v0 v1=>?_
  walk_at "tz"
  have bad:∀{x:Int} {p':Nat},(x<1∨(n:Int)<x)→Q (.int x) [fd ns p' r (ws++[Str.ofString "NoBox"]) sp (if w=e12 then Str.ofString "NoBox" else w)]:=fun hx=>by
   refine h _ _ _ _ (by simp) ?_
   rw[ZmE hx]
   exact Fa.off hw (by decide +kernel) (by decide +kernel) (by decide +kernel)
  have hv:v=0∨v=1∨v=2∨v=3:=by omega
  rcases hv with rfl | rfl | rfl | rfl
  ·refine Zar (by decide) rfl ⟨rfl,?_⟩
   walk_at "tz"
   exact bad (by omega)
  ·refine Zar (by decide) rfl ⟨rfl,?_⟩
   walk_at "tz"
   exact bad (by omega)
  ·refine Zar (by decide) rfl ⟨rfl,?_⟩
   walk_at "tz"
   exact bad (by omega)
  ·refine Zar (by decide) rfl ⟨rfl,?_⟩
   walk_at "tz"
   exact bad (by omega)
end
theorem Zje{a:Int}(v0:0≤v)(v1:v<4)(h:∀o:Option Int,(o=none∨o=some a)→Q (oT o)): Pk (ZT (.lst [.int a,.none]) (.int (v.fdiv 3))) Q:=by
 have hv:v.fdiv 3=0∨v.fdiv 3=1:=by
  rw[Int.fdiv_eq_ediv_of_nonneg _ (by decide)]
  omega
 rcases hv with e | e
 ·rw[e]
  exact Zar (by decide) rfl (h (some a) (.inr rfl))
 ·rw[e]
  exact Zar (by decide) rfl (h none (.inl rfl))
section
variable {ns:List Int} {p:Nat} {r:Int} {ws:List Str} {sp:List Int} {w:Str} {Q:T→List T→Prop}
theorem Zm3(hL:LayX ns)(hw:PyData.strOk w=true)(hws:ws.length≤1790)(hsp:sp.length≤10)(hp0:p0≤n)(h1:1≤n)(hn:n≤4)(hm:mn=true∨p0<n)(h:∀x lo hi p' ws' w',ws'.length≤ws.length+3→Fa w w' (ZK (ckB n (if mn then 0 else(p0:Int)) x) (ckA lo hi))→Q (.tup [.str (Str.ofString "any"),.int x,oT lo,oT hi]) [fd ns p' r ws' sp w']): Pr (ZeH [fd ns p r ws sp w,.lst [.int p0,.int n],.bool mn]) Q:=by
 unfold ZeH Zf1
 refine Zee rfl ?_
 refine ZaG (ZaJ (N':=fun τ=>∃x p' ws' w',ws'.length≤ws.length+2∧Fa w w' (ckB n (if mn then 0 else(p0:Int)) x)∧τ 0=some (fd ns p' r ws' sp w')∧τ 3=some (.int x)) ?_ fun τ0 hτ0=>?_)
 ·walk_at "tz"
  refine Zes hL hw (by omega) hsp hp0 h1 hn hm fun x p' ws' w' hl fa=>?_
  walk_at "tz"
  exact⟨x,p',ws',w',hl,fa,by walk_at "tr",by walk_at "tr"⟩
 obtain⟨x,p1,ws1,w1,hl1,fa1,y0,y3⟩:=hτ0
 walk_at "tz"
 refine Zd2 hL fun a=>?_
 walk_at "tz"
 refine Zd2 hL fun b=>?_
 refine ZaG (ZaJ (N':=fun τ=>∃a b p',a≤b∧τ 0=some (fd ns p' r ws1 sp w1)∧τ 3=some (.int x)∧τ 4=some (.int a)∧τ 5=some (.int b)) ?_ fun τ hτ=>?_)
 ·walk_at "tz"
  refine⟨fun c=>?_,fun c=>?_⟩
  ·have c:=of_decide_eq_true c
   walk_at "tz"
   exact⟨b,a,_,by omega,by walk_at "tr",by walk_at "tr",by walk_at "tr",by walk_at "tr"⟩
  ·have c:=of_decide_eq_false c
   walk_at "tz"
   exact⟨a,b,_,by omega,by walk_at "tr",by walk_at "tr",by walk_at "tr",by walk_at "tr"⟩
 obtain⟨a,b,p2,hab,z0,z3,z4,z5⟩:=hτ
 walk_at "tz"
 refine ZcG fa1.1 (by omega) hsp ?_ ?_
 ·walk_at "tz"
  refine ZaP hL (by decide) fun v v0 v1=>?_
  walk_at "tz"
  refine Zdm (by decide) (by decide) ?_
  walk_at "tz"
  refine Zje v0 v1 fun lo hlo=>?_
  walk_at "tz"
  refine ZaP hL (by decide) fun u u0 u1=>?_
  walk_at "tz"
  refine Zdm (by decide) (by decide) ?_
  walk_at "tz"
  refine Zje u0 u1 fun hi hhi=>?_
  walk_at "tz"
  refine h x lo hi _ _ _ (by simp;omega) ?_
  have:ckA lo hi=none:=by
   rcases hlo with rfl | rfl <;> rcases hhi with rfl | rfl <;> simp[ckA]
   omega
  rw[this]
  exact fa1.seq (.none fa1.1)
 ·walk_at "tz"
  refine ZaP hL (by decide) fun v v0 v1=>?_
  walk_at "tz"
  refine h x (some (b+1)) (some (b-v)) _ _ _ (by simp;omega) ?_
  have:ckA (some (b+1)) (some (b-v))=some 37:=by
   simp[ckA]
   omega
  rw[this]
  exact fa1.seq (Fa.off fa1.1 (by decide +kernel) (by decide +kernel) (by decide +kernel))
end
theorem Zgh(a b c:Option Addr): ZK (ZK a b) c=ZK a (ZK b c):=by cases a <;> rfl
theorem fold_snoc{l:List (Option Addr)}: (l++[o]).foldr ZK none=ZK (l.foldr ZK none) o:=by
 induction l with
 | nil=>show ZK o none=o;exact Zd0 o
 | cons a l ih=>show ZK a ((l++[o]).foldr ZK none)=ZK (ZK a (l.foldr ZK none)) o;rw[ih,Zgh]
theorem Fa.any(h:PyData.strOk w=true)(hn:w≠e12): Fa w w o:=⟨h,fun _=>rfl,fun z=>absurd z hn⟩
theorem ZkS{σ:TL}{Q:T→TL→Prop}{g:PG}{j:Nat}{a:Nat→T}{f:PX}{β:Type}(enc:β→T)(I:List β→TL→Prop)(hn:n<10000)(hg:Pl (g (Z8 σ j)) fun ts=>ts=tab n a)(h0:I [] (Z8 σ j))(hf:∀ys τ,ys.length<n→I ys τ→Px (f (Zw τ j (a ys.length))) fun t τ1=>∃y,t=enc y∧I (ys++[y]) (Z8 τ1 j))(h:∀(ys:List β) (τ:TL),ys.length=n→I ys τ→Q (.lst (ys.map enc)) τ): Px (Zfo g j f σ) Q:=by
 obtain⟨ts,e,rfl⟩:=hg
 have key:∀(m:Nat) (ys:List β) (τ:TL),ys.length+m=n→I ys τ→∃(zs:List β) (τ1:TL),Zeq j f τ ((List.range m).map fun i=>a (ys.length+i))=some (zs.map enc,τ1)∧zs.length=m∧I (ys++zs) τ1:=by
  intro m
  induction m with
  | zero=>exact fun ys τ hk hi=>⟨[],τ,rfl,rfl,by simpa using hi⟩
  | succ m ih=>
   intro ys τ hk hi
   obtain⟨t,τ1,e1,y,ey,i1⟩:=hf ys τ (by omega) hi
   obtain⟨zs,τ2,e2,l2,i2⟩:=ih (ys++[y]) (Z8 τ1 j) (by simp;omega) i1
   refine⟨y::zs,τ2,?_,by simp[l2],by simpa using i2⟩
   rw[List.range_succ_eq_map]
   simp only[List.map_cons,List.map_map,Zeq,Nat.add_zero,e1,Zs0]
   have ea:List.map ((fun i=>a (ys.length+i))∘Nat.succ) (List.range m)=(List.range m).map fun i=>a ((ys++[y]).length+i):=List.map_congr_left fun i _=>by simp only[Function.comp,List.length_append,List.length_singleton];congr 1;omega
   rw[ea,e2,ey]
   rfl
 obtain⟨ys,τ,e2,l2,i2⟩:=key n [] (Z8 σ j) (by simp) h0
 simp only[List.length_nil,Nat.zero_add,List.nil_append]at e2 i2
 refine⟨.lst (ys.map enc),τ,?_,h ys τ l2 i2⟩
 simp only[Zfo,e,Zs0,Zcn]
 rw[if_pos (by rw[Zav];omega)]
 unfold tab
 rw[e2]
 rfl
theorem Zm4{c:Int}(h0:-2≤c)(h1:c≤6): ZbO 0 c 1=some (tab c.toNat fun i=>.int i):=by
 by_cases hc:0≤c
 ·have:=ZhZ (n:=c.toNat) (by omega)
  rw[Int.toNat_of_nonneg hc]at this
  exact this
 ·have:c = -1∨c = -2:=by omega
  rcases this with rfl | rfl <;> (unfold ZbO;rw[if_pos (by decide +kernel)];rfl)
theorem ZmG(h:Q (.int (-1))): Pk (ZT (.lst [.int 1,.int (-1)]) (.int (-1))) Q:=⟨_,rfl,h⟩
noncomputable def Prg(w:Str)(fs:List T): Prop:=fs.length≤5∧∀i,i<fs.length→∃(q:Int) (rest:List T),fs[i]?=some (.tup (.int q::rest))∧-1≤q∧q≤5∧(q<0→w≠e12)
theorem Prg.up{w':Str}(h:Prg w fs)(fa:Fa w w' o): Prg w' fs:=⟨h.1,fun i hi=>by
 obtain⟨q,rest,e,a,b,c⟩:=h.2 i hi
 exact⟨q,rest,e,a,b,fun z=>by rw[fa.2.1 (c z)];exact c z⟩⟩
section
variable {ns:List Int} {p:Nat} {r:Int} {ws:List Str} {sp:List Int} {w:Str} {Q:T→List T→Prop}
theorem ZmH(hP:Prg w fs)(hf0:0<fs.length)(hL:LayX ns)(hw:PyData.strOk w=true)(hws:ws.length≤1780)(hsp:sp.length≤10)(hp0:p0≤n)(h1:1≤n)(hn:n≤4)(hm:mn=true∨p0<n)(h:∀x f (rows:List (List Int)) p' ws' w',(∀s∈rows,s.length≤6)→rows.length≤6→ws'.length≤ws.length+10→Fa w w' (ZK (ckB n (if mn then 0 else(p0:Int)) x) (ckC (fs.map Zbh) n f (rows.map fun l=>l.map T.int)))→Q (.tup [.str (Str.ofString "call"),.int x,.int f,.lst ((rows.map fun l=>l.map T.int).map T.lst)]) [fd ns p' r ws' sp w']): Pr (ZeE [fd ns p r ws sp w,.lst fs,.lst [.int p0,.int n],.bool mn]) Q:=by
 have f5:=hP.1
 unfold ZeE ZfN
 refine Zee rfl ?_
 refine ZaG (ZaJ (N':=fun τ=>∃x p' ws' w',ws'.length≤ws.length+2∧Fa w w' (ckB n (if mn then 0 else(p0:Int)) x)∧τ 0=some (fd ns p' r ws' sp w')∧τ 1=some (.lst fs)∧τ 2=some (.lst [.int p0,.int n])∧τ 4=some (.int x)) ?_ fun τ0 hτ0=>?_)
 ·walk_at "tz"
  refine Zes hL hw (by omega) hsp hp0 h1 hn hm fun x p' ws' w' hl fa=>?_
  walk_at "tz"
  exact⟨x,p',ws',w',hl,fa,by walk_at "tr",by walk_at "tr",by walk_at "tr",by walk_at "tr"⟩
 obtain⟨x,p1,ws1,w1,hl1,fa1,y0,y1,y2,y4⟩:=hτ0
 have hP1:=hP.up fa1
 refine ZaG (ZaJ (N':=fun τ=>∃f:Int,0≤f∧f.toNat<fs.length∧τ 0=some (fd ns (p1+1) r ws1 sp w1)∧τ 1=some (.lst fs)∧τ 2=some (.lst [.int p0,.int n])∧τ 4=some (.int x)∧τ 5=some (.int f)) ?_ fun τa ha=>?_)
 ·walk_at "tz"
  refine ZaP hL (by split <;> omega) fun f f0 f1=>?_
  walk_at "tz"
  refine⟨f,f0,?_,by walk_at "tr",by walk_at "tr",by walk_at "tr",by walk_at "tr",by walk_at "tr"⟩
  have:f<(fs.length:Int):=by split at f1 <;> omega
  omega
 obtain⟨f,f0,hf,u0,u1,u2,u4,u5⟩:=ha
 refine ZaG (ZaJ (N':=fun τ=>τ 0=some (fd ns (p1+1) r (ws1++[Str.ofString "NoCall"]) sp w1)∧τ 1=some (.lst fs)∧τ 2=some (.lst [.int p0,.int n])∧τ 4=some (.int x)∧τ 5=some (.int f)) ?_ fun τb hb=>?_)
 ·walk_at "tz"
  refine ZcG fa1.1 (by omega) hsp ?_ ?_
  ·walk_at "tz"
   exact⟨by walk_at "tr",by walk_at "tr",by walk_at "tr",by walk_at "tr",by walk_at "tr"⟩
  ·walk_at "tz"
   refine ZaP hL (by decide) fun d d0 d1=>?_
   walk_at "tz"
   have fin:∀{g:Int} {p':Nat},(g<0∨(fs.length:Int)≤g)→Q (.tup [.str (Str.ofString "call"),.int x,.int g,.lst []]) [fd ns p' r (ws1++[Str.ofString "NoCall"]) sp (if w1=e12 then Str.ofString "NoCall" else w1)]:=fun hg=>by
    refine h x _ [] _ _ _ (by simp) (by simp) (by simp;omega) ?_
    rw[show ckC (fs.map Zbh) n _ (([]:List (List Int)).map fun l=>l.map T.int)=some 109 by unfold ckC;rw[if_pos (by simpa using hg)];rfl]
    exact fa1.seq (Fa.off fa1.1 (by decide +kernel) (by decide +kernel) (by decide +kernel))
   have hd:d=0∨d=1∨d=2:=by omega
   rcases hd with rfl | rfl | rfl
   ·refine Zar (by decide) rfl ⟨rfl,?_⟩
    walk_at "tz"
    exact fin (by omega)
   ·refine Zar (by decide) rfl ⟨rfl,?_⟩
    walk_at "tz"
    exact fin (by omega)
   ·refine Zar (by decide) rfl ⟨rfl,?_⟩
    walk_at "tz"
    exact fin (by omega)
 obtain⟨v0,v1,v2,v4,v5⟩:=hb
 obtain⟨q,rest,eq,q0,q1,q2⟩:=hP1.2 _ hf
 have eg:(fs.map Zbh).getD f.toNat 0=q:=by
  rw[List.getD_eq_getElem?_getD,List.getElem?_map,eq]
  rfl
 refine ZaG (ZaJ (N':=fun τ=>τ 0=some (fd ns (p1+1) r (ws1++[Str.ofString "NoCall"]) sp w1)∧τ 2=some (.lst [.int p0,.int n])∧τ 4=some (.int x)∧τ 5=some (.int f)∧τ 6=some (.int q)) ?_ fun τ1 hτ1=>?_)
 ·walk_at "tz"
  refine Zar f0 eq ?_
  walk_at "tz"
  exact⟨by walk_at "tr",by walk_at "tr",by walk_at "tr",by walk_at "tr",by walk_at "tr"⟩
 obtain⟨z0,z2,z4,z5,z6⟩:=hτ1
 refine ZaG (ZaJ (N':=fun τ=>∃c p' w',-2≤c∧c≤6∧Fa w w' (ZK (ckB n (if mn then 0 else(p0:Int)) x) (if((c.toNat:Nat):Int)≠q then some 109 else none))∧τ 0=some (fd ns p' r (ws1++[Str.ofString "NoCall"]++[Str.ofString "NoCall"]) sp w')∧τ 2=some (.lst [.int p0,.int n])∧τ 4=some (.int x)∧τ 5=some (.int f)∧τ 6=some (.int c)) ?_ fun τ2 hτ2=>?_)
 ·walk_at "tz"
  refine ZcG fa1.1 (by simp;omega) hsp ?_ ?_
  ·walk_at "tz"
   refine⟨q,_,_,by omega,by omega,fa1.seq ?_,by walk_at "tr",by walk_at "tr",by walk_at "tr",by walk_at "tr",by walk_at "tr"⟩
   by_cases hq:q<0
   ·exact .any fa1.1 (q2 hq)
   ·rw[if_neg (by omega)]
    exact .none fa1.1
  ·walk_at "tz"
   refine ZaP hL (by decide) fun d d0 d1=>?_
   walk_at "tz"
   have bad:∀c:Int,((c.toNat:Nat):Int)≠q→Fa w (if w1=e12 then Str.ofString "NoCall" else w1) (ZK (ckB n (if mn then 0 else(p0:Int)) x) (if((c.toNat:Nat):Int)≠q then some 109 else none)):=fun c hc=>by
    rw[if_pos hc]
    exact fa1.seq (Fa.off fa1.1 (by decide +kernel) (by decide +kernel) (by decide +kernel))
   have hd:d=0∨d=1:=by omega
   by_cases hq:q<0
   ·have:q = -1:=by omega
    subst this
    rw[if_neg (by omega)]
    refine ZmG ?_
    walk_at "tz"
    exact⟨-1 + -1,_,_,by omega,by omega,bad _ (by omega),by walk_at "tr",by walk_at "tr",by walk_at "tr",by walk_at "tr",by walk_at "tr"⟩
   ·by_cases hc:(if d<q then d else q)=0
    ·rw[hc]
     refine Zar (by decide) rfl ?_
     walk_at "tz"
     exact⟨q+1,_,_,by omega,by omega,bad _ (by omega),by walk_at "tr",by walk_at "tr",by walk_at "tr",by walk_at "tr",by walk_at "tr"⟩
    ·have:(if d<q then d else q)=1∧1≤q:=by split at hc <;> (first | (rw[if_pos (by assumption)];omega) | (rw[if_neg (by assumption)];omega))
     rw[this.1]
     refine Zar (by decide) rfl ?_
     walk_at "tz"
     exact⟨q + -1,_,_,by omega,by omega,bad _ (by omega),by walk_at "tr",by walk_at "tr",by walk_at "tr",by walk_at "tr",by walk_at "tr"⟩
 obtain⟨c,p2,w2,c0,c1,fa2,x0,x2,x4,x5,x6⟩:=hτ2
 walk_at "tz"
 refine ZkS (n:=c.toNat) (a:=fun i=>.int (i:Nat)) (fun l:List Int=>.lst (l.map T.int)) (fun ys τ=>∃p' ws' w',ws'.length≤ws1.length+2+ys.length∧(∀l∈ys,l.length≤6)∧Fa w w' (ZK (ZK (ckB n (if mn then 0 else(p0:Int)) x) (if((c.toNat:Nat):Int)≠q then some 109 else none)) ((ys.map fun l=>ckS n l.length).foldr ZK none))∧τ 0=some (fd ns p' r ws' sp w')∧τ 2=some (.lst [.int p0,.int n])∧τ 4=some (.int x)∧τ 5=some (.int f)) (by omega) ?_ ?_ (fun ys τ hy hI=>?_) fun ys τ hy hI=>?_
 ·refine⟨_,Zii (b:=c) ?_ (Zm4 c0 c1),rfl⟩
  simp only[Zd,Zc,Zq]
  rw[show Z8 (Z8 τ2 1004) 100 6=some (.int c)by walk_at "tr"]
  rfl
 ·exact⟨p2,ws1++[Str.ofString "NoCall"]++[Str.ofString "NoCall"],w2,by simp,by simp,by simpa [Zd0]using fa2,by walk_at "tr",by walk_at "tr",by walk_at "tr",by walk_at "tr"⟩
 ·obtain⟨p',ws',w',hl,h6,fa,g0,g2,g4,g5⟩:=hI
  walk_at "tz"
  refine Zc2 hL fa.1 (by omega) hsp h1 hn fun l p'' ws'' w'' l6 hl2 fa3=>?_
  refine⟨l,rfl,p'',ws'',w'',by simp;omega,?_,?_,by walk_at "tr",by walk_at "tr",by walk_at "tr",by walk_at "tr"⟩
  ·intro s hs
   rcases Zz8.mp hs with hs | hs
   ·exact h6 s hs
   ·rw[List.mem_singleton.mp hs];exact l6
  ·rw[List.map_append,List.map_cons,List.map_nil,fold_snoc,←Zgh]
   exact fa.seq fa3
 ·obtain⟨p',ws',w',hl,h6,fa,g0,g2,g4,g5⟩:=hI
  walk_at "tz"
  rw[show ys.map (fun l:List Int=>T.lst (l.map T.int))=(ys.map fun l=>l.map T.int).map T.lst by simp]
  refine h x f ys _ _ _ h6 (by omega) (by omega) ?_
  rw[show ckC (fs.map Zbh) n f (ys.map fun l=>l.map T.int)=ZK (if((c.toNat:Nat):Int)≠q then some 109 else none) ((ys.map fun l=>ckS n l.length).foldr ZK none)by
   unfold ckC
   rw[if_neg (by simp;omega),eg,List.length_map,hy,List.map_map]
   simp only[Function.comp_def,List.length_map]
   rfl]
  rw[←Zgh]
  exact fa
end
theorem Zix{o:Option Int}: Nice k (oT o):=by
 cases o
 ·exact .none
 ·exact .int _
section
variable {ns:List Int} {p:Nat} {r:Int} {ws:List Str} {sp:List Int} {w:Str} {Q:T→List T→Prop}
theorem ZlE{wd:Str}(hwd:wd=Str.ofString "set"∨wd=Str.ofString "part"∨wd=Str.ofString "rest"∨wd=Str.ofString "any"∨wd=Str.ofString "call"∧0<fs.length)(hP:Prg w fs)(hL:LayX ns)(hw:PyData.strOk w=true)(hws:ws.length≤1780)(hsp:sp.length≤10)(hp0:p0≤n)(h1:1≤n)(hn:n≤4)(hm:mn=true∨p0<n)(h:∀t x o p' ws' w',La12 (fs.map Zbh) n t x o→Nice 3 t→ws'.length≤ws.length+10→Fa w w' (ZK (ckB n (if mn then 0 else(p0:Int)) x) o)→Q t [fd ns p' r ws' sp w']): Pr (ZeD [fd ns p r ws sp w,.lst fs,.lst [.int p0,.int n],.bool mn,.str wd]) Q:=by
 unfold ZeD ZfC
 rcases hwd with rfl | rfl | rfl | rfl | ⟨rfl,hf⟩
 ·walk_at "tz"
  refine Zbj (by decide +kernel) ?_
  walk_at "tz"
  refine Zbj (by decide +kernel) ?_
  walk_at "tz"
  refine Zes hL hw (by omega) hsp hp0 h1 hn hm fun x p' ws' w' hl fa=>?_
  walk_at "tz"
  refine Zc2 hL fa.1 (by omega) hsp h1 hn fun l p2 ws2 w2 l6 hl2 fa2=>?_
  walk_at "tz"
  refine Zcq (by decide +kernel) ?_
  walk_at "tz"
  refine h _ x _ _ _ _ (.set (s:=l.map T.int)) (.tup (by simp) (nlc (.str (by decide +kernel)) (nlc (.int x) (nlc (Zdr l6) nl0)))) (by omega) ?_
  rw[List.length_map]
  exact fa.seq fa2
 ·walk_at "tz"
  refine Zbj (by decide +kernel) ?_
  walk_at "tz"
  refine Zbj (by decide +kernel) ?_
  walk_at "tz"
  refine Zes hL hw (by omega) hsp hp0 h1 hn hm fun x p' ws' w' hl fa=>?_
  walk_at "tz"
  refine Zc2 hL fa.1 (by omega) hsp h1 hn fun l p2 ws2 w2 l6 hl2 fa2=>?_
  walk_at "tz"
  refine Zbj (by decide +kernel) ?_
  walk_at "tz"
  refine ZgQ hL fa2.1 (by omega) hsp fun d p3 ws3 w3 hl3 fa3=>?_
  walk_at "tz"
  refine h _ x _ _ _ _ (.part (s:=l.map T.int) (d:=d) (.inl rfl)) (.tup (by simp) (nlc (.str (by decide +kernel)) (nlc (.int x) (nlc (Zdr l6) (nlc (.int d) nl0))))) (by omega) ?_
  rw[List.length_map]
  exact fa.seq (fa2.seq fa3)
 ·walk_at "tz"
  refine Zbj (by decide +kernel) ?_
  walk_at "tz"
  refine Zbj (by decide +kernel) ?_
  walk_at "tz"
  refine Zes hL hw (by omega) hsp hp0 h1 hn hm fun x p' ws' w' hl fa=>?_
  walk_at "tz"
  refine Zc2 hL fa.1 (by omega) hsp h1 hn fun l p2 ws2 w2 l6 hl2 fa2=>?_
  walk_at "tz"
  refine Zbj (by decide +kernel) ?_
  walk_at "tz"
  refine ZgQ hL fa2.1 (by omega) hsp fun d p3 ws3 w3 hl3 fa3=>?_
  walk_at "tz"
  refine h _ x _ _ _ _ (.part (s:=l.map T.int) (d:=d) (.inr rfl)) (.tup (by simp) (nlc (.str (by decide +kernel)) (nlc (.int x) (nlc (Zdr l6) (nlc (.int d) nl0))))) (by omega) ?_
  rw[List.length_map]
  exact fa.seq (fa2.seq fa3)
 ·walk_at "tz"
  refine Zcq (by decide +kernel) ?_
  walk_at "tz"
  refine Zm3 hL hw (by omega) hsp hp0 h1 hn hm fun x lo hi p' ws' w' hl fa=>?_
  walk_at "tz"
  exact h _ x _ _ _ _ .any (.tup (by simp) (nlc (.str (by decide +kernel)) (nlc (.int x) (nlc Zix (nlc Zix nl0))))) (by omega) fa
 ·walk_at "tz"
  refine Zbj (by decide +kernel) ?_
  walk_at "tz"
  refine Zcq (by decide +kernel) ?_
  walk_at "tz"
  refine ZmH hP hf hL hw (by omega) hsp hp0 h1 hn hm fun x f rows p' ws' w' h6 hr hl fa=>?_
  walk_at "tz"
  refine h _ x _ _ _ _ .call (.tup (by simp) (nlc (.str (by decide +kernel)) (nlc (.int x) (nlc (.int f) (nlc (.lst (by simp;omega) fun t ht=>?_) nl0))))) (by omega) fa
  rw[List.map_map]at ht
  obtain⟨l,hl,rfl⟩:=Zz11.mp ht
  exact Zdr (h6 l hl)
end
theorem St12.say{ps:List Int}{n:Int}{c:T}(h:Cl12 n c o): St12 ps n fx k (.tup [.str (Str.ofString "say"),c]) o:=by
 cases k with
 | zero=>exact .inl ⟨c,rfl,h⟩
 | succ k=>exact .inl ⟨c,rfl,h⟩
theorem St12.lay{ps:List Int}{n:Int}(h:La12 ps n t x o): St12 ps n fx k t (ZK (ckB n fx x) o):=by
 cases k with
 | zero=>exact .inr ⟨x,o,h,rfl⟩
 | succ k=>exact .inr (.inl ⟨x,o,h,rfl⟩)
noncomputable def Zd3(fs:List T)(p0 n:Nat)(mn:Bool)(d:Int)(k:Nat)(P:List T→Option (T×List T)): Prop:=∀(ns:List Int) (p r:Nat) (ws:List Str) (sp:List Int) (w:Str) (Q:T→List T→Prop),LayX ns→PyData.strOk w=true→ws.length+20*r≤1700→sp.length≤10→Prg w fs→(∀ts o p' (r':Nat) ws' w',Bd12 (St12 (fs.map Zbh) n (if mn then 0 else(p0:Int)) k) ts o→Nice (4+2*k) (.lst ts)→ws'.length+20*r'≤ws.length+20*r→Fa w w' o→Q (.lst ts) [fd ns p' r' ws' sp w'])→Pr (P [fd ns p r ws sp w,.lst fs,.lst [.int p0,.int n],.bool mn,.int d]) Q
noncomputable def Zex(fs:List T)(p0 n:Nat)(mn:Bool)(d:Int)(f:T)(wd:Str)(τ:TL): Prop:=τ 0=some f∧τ 1=some (.lst fs)∧τ 2=some (.lst [.int p0,.int n])∧τ 3=some (.bool mn)∧τ 4=some (.int d)∧τ 5=some (.str wd)
noncomputable def ZdH(wd:Str): Prop:=wd=Str.ofString "set"∨wd=Str.ofString "part"∨wd=Str.ofString "rest"∨wd=Str.ofString "any"∨wd=Str.ofString "call"
noncomputable def Zc6(wd:Str): Prop:=wd=Str.ofString "say"∨wd=Str.ofString "if"∨wd=Str.ofString "while"
theorem Zm5(v0:0≤v)(v1:v<8)(h:∀wd,ZdH wd∨Zc6 wd→Q (.str wd)): Pk (ZT (.lst [.str (Str.ofString "set"),.str (Str.ofString "part"),.str (Str.ofString "rest"),.str (Str.ofString "any"),.str (Str.ofString "call"),.str (Str.ofString "say"),.str (Str.ofString "if"),.str (Str.ofString "while")]) (.int v)) Q:=by
 have hv:v=0∨v=1∨v=2∨v=3∨v=4∨v=5∨v=6∨v=7:=by omega
 rcases hv with rfl | rfl | rfl | rfl | rfl | rfl | rfl | rfl <;> refine Zar (by decide) rfl (h _ ?_)
 ·exact .inl (.inl rfl)
 ·exact .inl (.inr (.inl rfl))
 ·exact .inl (.inr (.inr (.inl rfl)))
 ·exact .inl (.inr (.inr (.inr (.inl rfl))))
 ·exact .inl (.inr (.inr (.inr (.inr rfl))))
 ·exact .inr (.inl rfl)
 ·exact .inr (.inr (.inl rfl))
 ·exact .inr (.inr (.inr rfl))
theorem Zni(v0:0≤v)(v1:v<3)(h:∀wd,Zc6 wd→Q (.str wd)): Pk (ZT (.lst [.str (Str.ofString "say"),.str (Str.ofString "if"),.str (Str.ofString "while")]) (.int v)) Q:=by
 have hv:v=0∨v=1∨v=2:=by omega
 rcases hv with rfl | rfl | rfl <;> refine Zar (by decide) rfl (h _ ?_)
 ·exact .inl rfl
 ·exact .inr (.inl rfl)
 ·exact .inr (.inr rfl)
theorem Zjf{wd:Str}(h:ZdH wd∨Zc6 wd): PyData.strOk wd=true:=by
 rcases h with(h | h | h | h | h) | (h | h | h) <;> rw[h] <;> decide +kernel
theorem ZcH{a b:Str}(ha:PyData.strOk a=true)(hb:PyData.strOk b=true)(h1:a=b→Q (.bool true))(h2:a≠b→Q (.bool false)): Pk (qEq (.str a) (.str b)) Q:=by
 by_cases c:a=b
 ·subst c
  exact Zcq ha (h1 rfl)
 ·exact Zbj (by simp[ha,hb,c]) (h2 c)
section
variable {ns:List Int} {p r:Nat} {ws:List Str} {sp:List Int} {w:Str} {Q:T→List T→Prop}
theorem ZjQ{P:List T→Option (T×List T)}{d:Int}(hk:(k:Int)+d=4)(hd:0≤d)(hB:∀k',k=k'+1→Zd3 fs p0 n mn (d+1) k' P)(hP:Prg w fs)(hL:LayX ns)(hw:PyData.strOk w=true)(hws:ws.length+20*(r+1)≤1700)(hsp:sp.length≤10)(hp0:p0≤n)(h1:1≤n)(hn:n≤4)(h:∀t o p' (r':Nat) ws' w',St12 (fs.map Zbh) n (if mn then 0 else(p0:Int)) k t o→Nice (3+2*k) t→ws'.length+20*r'≤ws.length+20*(r+1)→Fa w w' o→Q t [fd ns p' r' ws' sp w']): Pr (Zez P [fd ns p ((r+1:Nat):Int) ws sp w,.lst fs,.lst [.int p0,.int n],.bool mn,.int d]) Q:=by
 unfold Zez Zfu
 have e3:fd ns p ((r+1:Nat):Int) ws sp w=.lst [Za6 ns,.int p,.int ((r+1:Nat):Int),.lst (ws.map wT),.lst (sp.map T.int),.str w]:=rfl
 rw[e3]
 walk_at "tz"
 refine⟨_,2,rfl,rfl,by decide,(by simp),?_⟩
 rw[show((r+1:Nat):Int)-1=(r:Int)by omega]
 show Psx (Zx _ _ (Zw _ 0 (fd ns p r ws sp w))) _ _
 refine ZaG (ZaJ (N':=fun τ=>∃wd p',(ZdH wd∨Zc6 wd)∧Zex fs p0 n mn d (fd ns p' r ws sp w) wd τ) ?_ fun τ1 hτ1=>?_)
 ·walk_at "tz"
  refine ZaP hL (by decide) fun v v0 v1=>?_
  walk_at "tz"
  refine Zm5 v0 v1 fun wd hwd=>?_
  walk_at "tz"
  exact⟨wd,_,hwd,by walk_at "tr",by walk_at "tr",by walk_at "tr",by walk_at "tr",by walk_at "tr",by walk_at "tr"⟩
 obtain⟨wd,p1,hwd,a0,a1,a2,a3,a4,a5⟩:=hτ1
 refine ZaG (ZaJ (N':=fun τ=>∃wd p',(ZdH wd∧(mn=true∨p0<n)∨Zc6 wd)∧Zex fs p0 n mn d (fd ns p' r ws sp w) wd τ) ?_ fun τ2 hτ2=>?_)
 ·walk_at "tz"
  refine⟨fun c=>?_,fun c=>?_⟩
  ·walk_at "tz"
   cases mn with
   | true=>
    walk_at "tz"
    refine⟨wd,_,?_,by walk_at "tr",by walk_at "tr",by walk_at "tr",by walk_at "tr",by walk_at "tr",by walk_at "tr"⟩
    rcases hwd with hwd | hwd
    ·exact .inl ⟨hwd,.inl rfl⟩
    ·exact .inr hwd
   | false=>
    walk_at "tz"
    refine ZaP hL (by decide) fun v v0 v1=>?_
    walk_at "tz"
    refine Zni v0 v1 fun wd hwd=>?_
    walk_at "tz"
    exact⟨wd,_,.inr hwd,by walk_at "tr",by walk_at "tr",by walk_at "tr",by walk_at "tr",by walk_at "tr",by walk_at "tr"⟩
  ·have c:=of_decide_eq_false c
   walk_at "tz"
   refine⟨wd,_,?_,by walk_at "tr",by walk_at "tr",by walk_at "tr",by walk_at "tr",by walk_at "tr",by walk_at "tr"⟩
   rcases hwd with hwd | hwd
   ·exact .inl ⟨hwd,.inr (by omega)⟩
   ·exact .inr hwd
 clear a0 a1 a2 a3 a4 a5 hwd
 obtain⟨wd,p1,hwd,a0,a1,a2,a3,a4,a5⟩:=hτ2
 have wok:PyData.strOk wd=true:=Zjf (by rcases hwd with hwd | hwd;exact .inl hwd.1;exact .inr hwd)
 refine ZaG (ZaJ (N':=fun τ=>∃wd p',(ZdH wd∧(mn=true∨p0<n)∧(wd=Str.ofString "call"→0<fs.length)∨Zc6 wd)∧Zex fs p0 n mn d (fd ns p' r ws sp w) wd τ) ?_ fun τ3 hτ3=>?_)
 ·walk_at "tz"
  refine ZcH wok (by decide +kernel) (fun c=>?_) fun c=>?_
  ·walk_at "tz"
   refine⟨fun c2=>?_,fun c2=>?_⟩
   ·walk_at "tz"
    refine⟨_,_,?_,by walk_at "tr",by walk_at "tr",by walk_at "tr",by walk_at "tr",by walk_at "tr",by walk_at "tr"⟩
    rcases hwd with hwd | hwd
    ·exact .inl ⟨.inl rfl,hwd.2,fun z=>absurd z (by decide +kernel)⟩
    ·rw[c]at hwd
     exact absurd hwd (by unfold Zc6;decide +kernel)
   ·have c2:=of_decide_eq_false c2
    walk_at "tz"
    refine⟨wd,_,?_,by walk_at "tr",by walk_at "tr",by walk_at "tr",by walk_at "tr",by walk_at "tr",by walk_at "tr"⟩
    rcases hwd with hwd | hwd
    ·exact .inl ⟨hwd.1,hwd.2,fun z=>by omega⟩
    ·exact .inr hwd
  ·walk_at "tz"
   refine⟨wd,_,?_,by walk_at "tr",by walk_at "tr",by walk_at "tr",by walk_at "tr",by walk_at "tr",by walk_at "tr"⟩
   rcases hwd with hwd | hwd
   ·exact .inl ⟨hwd.1,hwd.2,fun z=>absurd z c⟩
   ·exact .inr hwd
 clear a0 a1 a2 a3 a4 a5 hwd wok
 obtain⟨wd,p1,hwd,a0,a1,a2,a3,a4,a5⟩:=hτ3
 have wok:PyData.strOk wd=true:=Zjf (by rcases hwd with hwd | hwd;exact .inl hwd.1;exact .inr hwd)
 refine ZaG (ZaJ (N':=fun τ=>∃wd p',(ZdH wd∧(mn=true∨p0<n)∧(wd=Str.ofString "call"→0<fs.length)∨wd=Str.ofString "say"∨d<4∧(wd=Str.ofString "if"∨wd=Str.ofString "while"))∧Zex fs p0 n mn d (fd ns p' r ws sp w) wd τ) ?_ fun τ4 hτ4=>?_)
 ·walk_at "tz"
  refine⟨fun c=>?_,fun c=>?_⟩
  ·walk_at "tz"
   refine ZcH wok (by decide +kernel) (fun c1=>?_) fun c1=>?_
   ·walk_at "tz"
    exact⟨_,_,.inr (.inl rfl),by walk_at "tr",by walk_at "tr",by walk_at "tr",by walk_at "tr",by walk_at "tr",by walk_at "tr"⟩
   ·walk_at "tz"
    refine ZcH wok (by decide +kernel) (fun c2=>?_) fun c2=>?_
    ·walk_at "tz"
     exact⟨_,_,.inr (.inl rfl),by walk_at "tr",by walk_at "tr",by walk_at "tr",by walk_at "tr",by walk_at "tr",by walk_at "tr"⟩
    ·walk_at "tz"
     refine⟨wd,_,?_,by walk_at "tr",by walk_at "tr",by walk_at "tr",by walk_at "tr",by walk_at "tr",by walk_at "tr"⟩
     rcases hwd with hwd | hwd | hwd | hwd
     ·exact .inl hwd
     ·exact .inr (.inl hwd)
     ·exact absurd hwd c1
     ·exact absurd hwd c2
  ·have c:=of_decide_eq_false c
   walk_at "tz"
   refine⟨wd,_,?_,by walk_at "tr",by walk_at "tr",by walk_at "tr",by walk_at "tr",by walk_at "tr",by walk_at "tr"⟩
   rcases hwd with hwd | hwd | hwd
   ·exact .inl hwd
   ·exact .inr (.inl hwd)
   ·exact .inr (.inr ⟨by omega,hwd⟩)
 clear a0 a1 a2 a3 a4 a5 hwd wok
 obtain⟨wd,p1,hwd,a0,a1,a2,a3,a4,a5⟩:=hτ4
 rcases hwd with⟨hwd,hm,hc⟩ | rfl | ⟨d4,rfl | rfl⟩
 ·have pl:PyData.strOk wd=true∧wd≠Str.ofString "say"∧wd≠Str.ofString "while"∧wd≠Str.ofString "if":=by
   rcases hwd with rfl | rfl | rfl | rfl | rfl <;> decide +kernel
  walk_at "tz"
  refine ZcH pl.1 (by decide +kernel) (fun c=>absurd c pl.2.1) fun _=>?_
  walk_at "tz"
  refine ZcH pl.1 (by decide +kernel) (fun c=>absurd c pl.2.2.1) fun _=>?_
  walk_at "tz"
  refine ZcH pl.1 (by decide +kernel) (fun c=>absurd c pl.2.2.2) fun _=>?_
  walk_at "tz"
  refine ZlE ?_ hP hL hw (by omega) hsp hp0 h1 hn hm fun t x o p' ws' w' ht hN hl fa=>?_
  ·rcases hwd with c | c | c | c | c
   ·exact .inl c
   ·exact .inr (.inl c)
   ·exact .inr (.inr (.inl c))
   ·exact .inr (.inr (.inr (.inl c)))
   ·exact .inr (.inr (.inr (.inr ⟨c,hc c⟩)))
  walk_at "tz"
  exact h _ _ _ _ _ _ (.lay ht) (hN.mono (by omega)) (by omega) fa
 ·walk_at "tz"
  refine Zcq (by decide +kernel) ?_
  walk_at "tz"
  refine ZgK hL hw (by omega) hsp h1 hn fun c o p' ws' w' hc hN hl fa=>?_
  walk_at "tz"
  refine h _ _ _ _ _ _ (.say hc) ?_ (by omega) fa
  rw[show 3+2*k=2+2*k+1 by omega]
  exact .tup (by simp) (nlc (.str (by decide +kernel)) (nlc (hN.mono (by omega)) nl0))
 ·obtain⟨k',rfl⟩:∃k',k=k'+1:=⟨k-1,by omega⟩
  walk_at "tz"
  refine Zbj (by decide +kernel) ?_
  walk_at "tz"
  refine Zbj (by decide +kernel) ?_
  walk_at "tz"
  refine Zcq (by decide +kernel) ?_
  walk_at "tz"
  refine ZgK hL hw (by omega) hsp h1 hn fun c o p' ws' w' hc hN hl fa=>?_
  walk_at "tz"
  refine hB k' rfl _ _ _ _ _ _ _ hL fa.1 (by omega) hsp (hP.up fa) fun ta oa p2 r2 ws2 w2 hta hNa hl2 fa2=>?_
  walk_at "tz"
  refine hB k' rfl _ _ _ _ _ _ _ hL fa2.1 (by omega) hsp ((hP.up fa).up fa2) fun tb ob p3 r3 ws3 w3 htb hNb hl3 fa3=>?_
  walk_at "tz"
  refine h _ _ _ _ _ _ (.inr (.inr (.inl ⟨c,ta,tb,o,oa,ob,rfl,hc,hta,htb,rfl⟩))) ?_ (by omega) ?_
  ·rw[show 3+2*(k'+1)=4+2*k'+1 by omega]
   exact .tup (by simp) (nlc (.str (by decide +kernel)) (nlc (hN.mono (by omega)) (nlc hNa (nlc hNb nl0))))
  ·rw[Zd0]
   exact fa.seq (fa2.seq fa3)
 ·obtain⟨k',rfl⟩:∃k',k=k'+1:=⟨k-1,by omega⟩
  walk_at "tz"
  refine Zbj (by decide +kernel) ?_
  walk_at "tz"
  refine Zcq (by decide +kernel) ?_
  walk_at "tz"
  refine ZgK hL hw (by omega) hsp h1 hn fun c o p' ws' w' hc hN hl fa=>?_
  walk_at "tz"
  refine hB k' rfl _ _ _ _ _ _ _ hL fa.1 (by omega) hsp (hP.up fa) fun ta oa p2 r2 ws2 w2 hta hNa hl2 fa2=>?_
  walk_at "tz"
  refine h _ _ _ _ _ _ (.inr (.inr (.inr ⟨c,ta,o,oa,rfl,hc,hta,rfl⟩))) ?_ (by omega) ?_
  ·rw[show 3+2*(k'+1)=4+2*k'+1 by omega]
   exact .tup (by simp) (nlc (.str (by decide +kernel)) (nlc (hN.mono (by omega)) (nlc hNa nl0)))
  ·rw[Zd0]
   exact fa.seq fa2
end
theorem Bd12.nil{S:T→Option Addr→Prop}: Bd12 S [] none:=⟨[],rfl,fun i t oo h=>by simp at h,rfl⟩
theorem Bd12.snoc{S:T→Option Addr→Prop}{ts:List T}{oo:Option Addr}(h:Bd12 S ts o)(k:S t oo): Bd12 S (ts++[t]) (ZK o oo):=by
 obtain⟨os,hl,hs,rfl⟩:=h
 refine⟨os++[oo],by simp[hl],fun i u v h1 h2=>?_,fold_snoc.symm⟩
 by_cases c:i<ts.length
 ·rw[Zy0 c]at h1
  rw[Zy0 (by omega)]at h2
  exact hs i u v h1 h2
 ·rw[Zy5 (by omega)]at h1
  rw[Zy5 (by omega),hl]at h2
  have:i-ts.length=0:=by
   have:=(Zz6.mp h1).1
   simp at this
   omega
  rw[this]at h1 h2
  cases h1
  cases h2
  exact k
section
variable {fs:List T} {p0 n k:Nat} {d:Int} {mn:Bool}
theorem ZhC{P:List T→Option (T×List T)}(hk:(k:Int)+d=4)(hd:0≤d)(hB:∀k',k=k'+1→Zd3 fs p0 n mn (d+1) k' P)(hp0:p0≤n)(h1:1≤n)(hn:n≤4): Zd3 fs p0 n mn d k (ZaW 5 [(0,2)] (ZeG P)):=fun ns p r ws sp w Q hL hw hws hsp hP h=>by
 unfold ZeG
 walk_at "tz"
 refine Zlw ?_
 walk_at "tz"
 refine ZaP hL (by decide) fun v v0 v1=>?_
 walk_at "tz"
 obtain⟨m,hm,hm4⟩:∃m:Nat,1+v-(if d<1 then d else 1)=m∧m≤4:=⟨(1+v-(if d<1 then d else 1)).toNat,by split <;> omega,by split <;> omega⟩
 rw[hm]
 refine Rn.one (by omega) ?_
 refine ZkK (fun i τ=>∃ts o p' r' ws' w',Zex fs p0 n mn d (fd ns p' (r':Nat) ws' sp w') e12 (Zw τ 5 (.str e12))∧τ 5=some (.lst ts)∧Bd12 (St12 (fs.map Zbh) n (if mn then 0 else(p0:Int)) k) ts o∧(∀t∈ts,Nice (3+2*k) t)∧ts.length≤i∧ws'.length+20*r'≤ws.length+20*r∧Fa w w' o) ⟨[],none,p+1,r,ws,w,⟨by walk_at "tr",by walk_at "tr",by walk_at "tr",by walk_at "tr",by walk_at "tr",by walk_at "tr"⟩,by walk_at "tr",.nil,nl0,by simp,by omega,.none hw⟩ (fun i τ hi hI=>?_) (fun τ hI=>?_)
 ·obtain⟨ts,o,p',r',ws',w',⟨e0,e1,e2,e3,e4,_⟩,e5,hb,hN,hl,hl2,fa⟩:=hI
  replace e0:τ 0=_:=e0
  replace e1:τ 1=_:=e1
  replace e2:τ 2=_:=e2
  replace e3:τ 3=_:=e3
  replace e4:τ 4=_:=e4
  have e9:fd ns p' (r':Nat) ws' sp w'=.lst [Za6 ns,.int p',.int (r':Nat),.lst (ws'.map wT),.lst (sp.map T.int),.str w']:=rfl
  walk_at "tz"
  rw[e9]
  refine Zar (t:=.int (r':Nat)) (by decide) rfl ?_
  walk_at "tz"
  refine⟨fun c=>?_,fun c=>?_⟩
  ·have c:=of_decide_eq_true c
   obtain⟨r1,rfl⟩:∃r1,r'=r1+1:=⟨r'-1,by omega⟩
   walk_at "tz"
   refine ZjQ hk hd hB (hP.up fa) hL fa.1 (by omega) hsp hp0 h1 hn fun t oo p2 r2 ws2 w2 ht hNt hl3 fa2=>?_
   walk_at "tz"
   refine⟨ts,?_,by omega,ts++[t],ZK o oo,p2,r2,ws2,w2,⟨by walk_at "tr",by walk_at "tr",by walk_at "tr",by walk_at "tr",by walk_at "tr",by walk_at "tr"⟩,by walk_at "tr",hb.snoc ht,fun t' m'=>?_,by simp;omega,by omega,fa.seq fa2⟩
   ·walk_at "tr"
   ·rcases Zz8.mp m' with m' | m'
    ·exact hN t' m'
    ·simp at m';subst m';exact hNt
  ·walk_at "tz"
   exact⟨ts,o,p',r',ws',w',⟨by walk_at "tr",by walk_at "tr",by walk_at "tr",by walk_at "tr",by walk_at "tr",by walk_at "tr"⟩,by walk_at "tr",hb,hN,by omega,hl2,fa⟩
 ·obtain⟨ts,o,p',r',ws',w',⟨e0,e1,e2,e3,e4,_⟩,e5,hb,hN,hl,hl2,fa⟩:=hI
  replace e0:τ 0=_:=e0
  replace e1:τ 1=_:=e1
  replace e2:τ 2=_:=e2
  replace e3:τ 3=_:=e3
  replace e4:τ 4=_:=e4
  walk_at "tz"
  refine h ts o p' r' ws' w' hb ?_ hl2 fa
  rw[show 4+2*k=3+2*k+1 by omega]
  exact .lst (by omega) hN
theorem Zh5(hp0:p0≤n)(h1:1≤n)(hn:n≤4): ∀(k m:Nat) (d:Int),(k:Int)+d=4→0≤d→k<m→Zd3 fs p0 n mn d k (ZdM m)
 | k,0,_,_,_,hm=>absurd hm (by omega)
 | 0,m+1,d,hk,hd,_=>ZhC hk hd (fun k' e=>by omega) hp0 h1 hn
 | k+1,m+1,d,hk,hd,hm=>ZhC hk hd (fun k' e=>by
   have:k'=k:=by omega
   subst this
   exact Zh5 hp0 h1 hn k' m (d+1) (by omega) (by omega) (by omega)) hp0 h1 hn
theorem ZmI(hp0:p0≤n)(h1:1≤n)(hn:n≤4): Zd3 fs p0 n mn 0 4 ZfR:=Zh5 hp0 h1 hn 4 9 0 (by decide) (by decide) (by decide)
end
noncomputable def Fn12(N:Nat)(fs:List T)(os:List (Option Addr))(j:Nat): Prop:=∃(p m:Int) (body:List T) (o:Option Addr),fs[j]?=some (.tup [.int p,.int m,.lst body])∧os[j]?=some o∧((m<1∨p<0∨m<p)→o=some 49)∧(¬(m<1∨p<0∨m<p)→∃k,k<24∧Bd12 (St12 ((fs.map Zbh).take j) m (ZdG N j p) k) body o)
theorem Fn12.snoc{N:Nat}{f:T}{j:Nat}(h:Fn12 N fs os j)(hj:j<fs.length)(hl:os.length=fs.length): Fn12 N (fs++[f]) (os++[o]) j:=by
 obtain⟨p,m,body,oo,e1,e2,e3,e4⟩:=h
 refine⟨p,m,body,oo,by rw[Zy0 hj];exact e1,by rw[Zy0 (by omega)];exact e2,e3,fun c=>?_⟩
 obtain⟨k,hk,hb⟩:=e4 c
 refine⟨k,hk,?_⟩
 rw[List.map_append,List.take_append_of_le_length (by simp;omega)]
 exact hb
theorem Zko{N:Nat}{p m:Int}{body:List T}(hl:os.length=fs.length)(h1:(m<1∨p<0∨m<p)→o=some 49)(h2:¬(m<1∨p<0∨m<p)→∃k,k<24∧Bd12 (St12 (fs.map Zbh) m (ZdG N fs.length p) k) body o): Fn12 N (fs++[.tup [.int p,.int m,.lst body]]) (os++[o]) fs.length:=by
 refine⟨p,m,body,o,by simp,by rw[←hl];simp,h1,fun c=>?_⟩
 obtain⟨k,hk,hb⟩:=h2 c
 refine⟨k,hk,?_⟩
 rw[List.map_append,List.take_append_of_le_length (by simp),List.take_of_length_le (by simp)]
 exact hb
theorem Prg.snoc{q:Int}{rest:List T}(h:Prg w fs)(hl:fs.length≤4)(q0:-1≤q)(q1:q≤5)(q2:q<0→w≠e12): Prg w (fs++[.tup (.int q::rest)]):=by
 refine⟨by simp;omega,fun i hi=>?_⟩
 by_cases c:i<fs.length
 ·rw[Zy0 c]
  exact h.2 i c
 ·have:i=fs.length:=by simp at hi;omega
  subst this
  exact⟨q,rest,by simp,q0,q1,q2⟩
theorem ZlF(h1:1≤n)(hn:n≤4)(v0:0≤v)(v1:v<3)(h:∀q m:Int,(m<1∨q<0∨m<q)→-1≤q→q≤5→Q (.lst [.int q,.int m])): Pk (ZT (.lst [.lst [.int (-1),.int n],.lst [.int ((n:Int)+1),.int n],.lst [.int 0,.int 0]]) (.int v)) Q:=by
 have hv:v=0∨v=1∨v=2:=by omega
 rcases hv with rfl | rfl | rfl
 ·exact Zar (by decide) rfl (h _ _ (by omega) (by omega) (by omega))
 ·exact Zar (by decide) rfl (h _ _ (by omega) (by omega) (by omega))
 ·exact Zar (by decide) rfl (h _ _ (by omega) (by omega) (by omega))
section
variable {ns:List Int} {sp:List Int} {Q:T→List T→Prop}
theorem ZhR(hL:LayX ns)(hsp:sp.length≤10)(h:∀fs os p' (r':Nat) ws' w',Pg12 fs os→1≤fs.length→fs.length≤5→Nice 14 (.lst fs)→ws'.length≤605→Fa e12 w' (os.foldr ZK none)→Q (.lst fs) [fd ns p' r' ws' sp w']): Pr (ZdI [fd ns 0 ((30:Nat):Int) [] sp e12]) Q:=by
 unfold ZdI Zfw
 walk_at "tz"
 refine ZaP hL (by decide) fun v v0 v1=>?_
 walk_at "tz"
 obtain⟨N,hN⟩:∃N:Nat,1+v=N:=⟨(1+v).toNat,by omega⟩
 rw[hN]
 refine Zir (n:=N) (a:=fun i=>.int (i:Nat)) (fun i τ=>∃fs os p' r' ws' w',τ 0=some (fd ns p' (r':Nat) ws' sp w')∧τ 1=some (.lst fs)∧τ 2=some (.int N)∧fs.length=i∧os.length=fs.length∧(∀j,j<fs.length→Fn12 N fs os j)∧Prg w' fs∧(∀t∈fs,Nice 13 t)∧ws'.length+20*r'≤600+i∧Fa e12 w' (os.foldr ZK none)) ?_ ⟨[],[],1,30,[],e12,by walk_at "tr",by walk_at "tr",by walk_at "tr",rfl,rfl,fun j hj=>by simp at hj,⟨by simp,fun i hi=>by simp at hi⟩,nl0,by simp,.none (by decide +kernel)⟩ (fun i τ hi hI=>?_) (fun τ hI=>?_)
 ·walk_at "tz"
  rfl
 ·obtain⟨fs,os,p1,r1,ws1,w1,e0,e1,e2,hl,hlo,hF,hP,hNi,hws,fa⟩:=hI
  refine ZaG (ZaJ (N':=fun τ=>∃n p':Nat,1≤n∧n≤4∧τ 0=some (fd ns p' (r1:Nat) ws1 sp w1)∧τ 1=some (.lst fs)∧τ 2=some (.int N)∧τ 3=some (.int i)∧τ 4=some (.int n)) ?_ fun τ1 hτ=>?_)
  ·walk_at "tz"
   refine ZaP hL (by decide) fun v v0 v1=>?_
   walk_at "tz"
   refine⟨(1+v).toNat,_,by omega,by omega,by walk_at "tr",by walk_at "tr",by walk_at "tr",by walk_at "tr",?_⟩
   rw[Int.toNat_of_nonneg (by omega)]
   walk_at "tr"
  clear e0 e1 e2
  obtain⟨n,p2,n1,n4,e0,e1,e2,e3,e4⟩:=hτ
  refine ZaG (ZaJ (N':=fun τ=>∃p0 p':Nat,p0≤n∧τ 0=some (fd ns p' (r1:Nat) ws1 sp w1)∧τ 1=some (.lst fs)∧τ 2=some (.int N)∧τ 3=some (.int i)∧τ 4=some (.int n)∧τ 5=some (.lst [.int p0,.int n])) ?_ fun τ2 hτ=>?_)
  ·walk_at "tz"
   refine ZaP hL (by omega) fun v v0 v1=>?_
   walk_at "tz"
   refine⟨v.toNat,_,by omega,by walk_at "tr",by walk_at "tr",by walk_at "tr",by walk_at "tr",by walk_at "tr",?_⟩
   rw[Int.toNat_of_nonneg (by omega)]
   walk_at "tr"
  clear e0 e1 e2 e3 e4
  obtain⟨p0,p3,hp0,e0,e1,e2,e3,e4,e5⟩:=hτ
  refine ZaG (ZaJ (N':=fun τ=>∃(b:Bool) (w2:Str),(b=false∧w2=w1∨b=true∧w2=if w1=e12 then Str.ofString "NoShape" else w1)∧τ 0=some (fd ns p3 (r1:Nat) (ws1++[Str.ofString "NoShape"]) sp w2)∧τ 1=some (.lst fs)∧τ 2=some (.int N)∧τ 3=some (.int i)∧τ 4=some (.int n)∧τ 5=some (.lst [.int p0,.int n])∧τ 6=some (.bool b)) ?_ fun τ3 hτ=>?_)
  ·walk_at "tz"
   refine ZcG fa.1 (by omega) hsp ?_ ?_
   ·walk_at "tz"
    exact⟨false,_,.inl ⟨rfl,rfl⟩,by walk_at "tr",by walk_at "tr",by walk_at "tr",by walk_at "tr",by walk_at "tr",by walk_at "tr",by walk_at "tr"⟩
   ·walk_at "tz"
    exact⟨true,_,.inr ⟨rfl,rfl⟩,by walk_at "tr",by walk_at "tr",by walk_at "tr",by walk_at "tr",by walk_at "tr",by walk_at "tr",by walk_at "tr"⟩
  clear e0 e1 e2 e3 e4 e5
  obtain⟨b,w2,hb,e0,e1,e2,e3,e4,e5,e6⟩:=hτ
  have fa2:∃o2,Fa w1 w2 o2∧(b=false→o2=none)∧(b=true→o2=some 49∧w2≠e12):=by
   rcases hb with⟨rfl,rfl⟩ | ⟨rfl,rfl⟩
   ·exact⟨none,.none fa.1,fun _=>rfl,fun z=>(by cases z)⟩
   ·refine⟨some 49,Fa.off fa.1 (by decide +kernel) (by decide +kernel) (by decide +kernel),fun z=>(by cases z),fun _=>⟨rfl,?_⟩⟩
    split
    ·decide +kernel
    ·assumption
  obtain⟨o2,fa2,b1,b2⟩:=fa2
  refine ZaG (ZaJ (N':=fun τ=>∃ts o p' r' ws' w',Bd12 (St12 (fs.map Zbh) n (if decide ((i:Int)=(N:Int)-1)then 0 else(p0:Int)) 4) ts o∧Nice (4+2*4) (.lst ts)∧ws'.length+20*r'≤(ws1++[Str.ofString "NoShape"]).length+20*r1∧Fa w2 w' o∧τ 0=some (fd ns p' (r':Nat) ws' sp w')∧τ 1=some (.lst fs)∧τ 2=some (.int N)∧τ 4=some (.int n)∧τ 5=some (.lst [.int p0,.int n])∧τ 6=some (.bool b)∧τ 7=some (.lst ts)) ?_ fun τ4 hτ=>?_)
  ·walk_at "tz"
   refine⟨_,rfl,?_⟩
   walk_at "tz"
   refine ZmI hp0 n1 n4 _ _ _ _ _ _ _ hL fa2.1 (by simp;omega) hsp (hP.up fa2) fun ts o p' r' ws' w' h1 h2 h3 h4=>?_
   walk_at "tz"
   exact⟨ts,o,p',r',ws',w',h1,h2,h3,h4,by walk_at "tr",by walk_at "tr",by walk_at "tr",by walk_at "tr",by walk_at "tr",by walk_at "tr",by walk_at "tr"⟩
  clear e0 e1 e2 e3 e4 e5 e6
  obtain⟨ts,o,p5,r5,ws5,w5,hbd,hNt,hw5,fa5,e0,e1,e2,e4,e5,e6,e7⟩:=hτ
  refine ZaG (ZaJ (N':=fun τ=>∃(q m:Int) (p':Nat),(b=false→q=p0∧m=n)∧(b=true→(m<1∨q<0∨m<q)∧-1≤q∧q≤5)∧τ 0=some (fd ns p' (r5:Nat) ws5 sp w5)∧τ 1=some (.lst fs)∧τ 2=some (.int N)∧τ 5=some (.lst [.int q,.int m])∧τ 7=some (.lst ts)) ?_ fun τ5 hτ=>?_)
  ·cases b with
   | false=>
    walk_at "tz"
    exact⟨p0,n,_,fun _=>⟨rfl,rfl⟩,fun z=>(by cases z),by walk_at "tr",by walk_at "tr",by walk_at "tr",by walk_at "tr",by walk_at "tr"⟩
   | true=>
    walk_at "tz"
    refine ZaP hL (by decide) fun v v0 v1=>?_
    walk_at "tz"
    refine ZlF n1 n4 v0 v1 fun q m c0 c1 c2=>?_
    walk_at "tz"
    exact⟨q,m,_,fun z=>(by cases z),fun _=>⟨c0,c1,c2⟩,by walk_at "tr",by walk_at "tr",by walk_at "tr",by walk_at "tr",by walk_at "tr"⟩
  clear e0 e1 e2 e4 e5 e6 e7
  obtain⟨q,m,p6,g1,g2,e0,e1,e2,e5,e7⟩:=hτ
  have hw5':ws5.length+20*r5≤600+(i+1):=by simp at hw5;omega
  have hNf:Nice 13 (.tup [.int q,.int m,.lst ts]):=.tup (by simp) (nlc (.int q) (nlc (.int m) (nlc hNt nl0)))
  have key:∃o',Fa w1 w5 o'∧((m<1∨q<0∨m<q)→o'=some 49)∧(¬(m<1∨q<0∨m<q)→∃k,k<24∧Bd12 (St12 (fs.map Zbh) m (ZdG N fs.length q) k) ts o')∧-1≤q∧q≤5∧(q<0→w5≠e12):=by
   cases b with
   | false=>
    obtain⟨rfl,rfl⟩:=g1 rfl
    have:=b1 rfl
    subst this
    refine⟨o,fa2.seq fa5,fun z=>by omega,fun _=>⟨4,by decide,?_⟩,by omega,by omega,fun z=>by omega⟩
    rw[show ZdG N fs.length (p0:Int)=if decide ((i:Int)=(N:Int)-1)then 0 else(p0:Int)by unfold ZdG;rw[hl];simp]
    exact hbd
   | true=>
    obtain⟨c0,c1,c2⟩:=g2 rfl
    obtain⟨rfl,c3⟩:=b2 rfl
    exact⟨some 49,fa2.seq fa5,fun _=>rfl,fun z=>absurd c0 z,c1,c2,fun _=>by rw[fa5.2.1 c3];exact c3⟩
  obtain⟨o',fa6,k1,k2,k3,k4,k5⟩:=key
  walk_at "tz"
  refine⟨fs,by walk_at "tr",by omega,fs++[.tup [.int q,.int m,.lst ts]],os++[o'],p6,r5,ws5,w5,by walk_at "tr",by walk_at "tr",by walk_at "tr",by simp;omega,by simp;omega,fun j hj=>?_,(hP.up fa6).snoc (by omega) k3 k4 k5,fun t ht=>?_,hw5',by rw[fold_snoc];exact fa.seq fa6⟩
  ·by_cases c:j<fs.length
   ·exact(hF j c).snoc c hlo
   ·have:j=fs.length:=by simp at hj;omega
    subst this
    exact Zko hlo k1 k2
  ·rcases Zz8.mp ht with ht | ht
   ·exact hNi t ht
   ·rw[List.mem_singleton.mp ht];exact hNf
 ·obtain⟨fs,os,p1,r1,ws1,w1,e0,e1,e2,hl,hlo,hF,hP,hNi,hws,fa⟩:=hI
  walk_at "tz"
  subst hl
  exact h fs os _ _ _ _ ⟨hlo,hF⟩ (by omega) (by omega) (.lst (by omega) hNi) (by omega) fa
end
end L
open PySem PM TM
namespace L
noncomputable def Zfz: Lc→Hp→Option (V×Hp):=fun ρ H=>(ρ 0).bind fun v=>(Zcl [v] H).bind fun q=>(cls12.lookup q.1).map fun _=>(.bool true,q.2)
noncomputable def ZeC: List V→Hp→Option (V×Hp):=Zc5 1 Zfz
noncomputable def ZdK: List T→Option T
 | [t]=>(Zdy t).bind fun o=>o.bind fun C=>(cls12.lookup C).map fun _=>.bool true
 | _=>none
theorem Zjo: SimF true ZeC ZdK:=fun H vs ts t F1 hp r e=>by
 unfold ZdK at e
 split at e
 case h_2=>cases e
 rename_i tp
 obtain⟨o,e1,e⟩:=Zz0.mp e
 obtain⟨C,e0,e⟩:=Zz0.mp e
 obtain⟨x,e2,e⟩:=Zz1.mp e
 subst e e0
 obtain⟨fs,os,rfl,hN,P,hw⟩:=ZhQ e1
 cases r with
 | @cons v _ F _ _ _ rp r=>
 cases r
 have rt:Rt H v (.lst fs):=⟨_,rp,fun _ _=>trivial⟩
 obtain⟨X,z⟩:=(ZeI rt hN P).2 C hw
 exact⟨_,X,[],by simp[ZeC,Zc5,Zfz,z,e2],.bool true,fun a m=>(List.not_mem_nil m).elim,fun _=>⟨List.nodup_nil,fun a m=>(List.not_mem_nil m).elim⟩⟩
end L
open PySem PM TM
namespace L
variable {σ:TL} {Q:T→Prop} {n:Nat} {ns:List Int} {fs:List T} {w:Str}
noncomputable def ZgB: Sm:=Zs (Zy 1 (ZM (eCons (Zbi (eVar 0) 2) (eCons (Zb 0) (eCons (Zb 30) (eCons (ZM eNil) (eCons (ZM eNil) (eCons (Zo (Str.ofString "")) eNil)))))))) (Zs (ZL (Ze ZeA (eCons (eVar 1) eNil))) (Zs (Zy 1 (ZM (eCons (Zbi (eVar 0) 2) (eCons (Zb 0) (eCons (Zb 30) (eCons (ZM eNil) (eCons (Ze Zf7 (eCons (eVar 0) (eCons (Za Zh (eVar 1) (Zb 3)) eNil))) (eCons (Zo (Str.ofString "")) eNil)))))))) (Zs (Zy 2 (Ze ZeA (eCons (eVar 1) eNil))) (Zs (ZB (Za1 (Zp (Za oGt (Ze Z2 (eCons (eVar 0) eNil)) (Zb 0))) (Za1 (Zp (Za ZU (Za oMod (Za Zh (eVar 0) (Zb 0)) (Zb 9)) (Zb 4))) ZaH)) (Zs (Zy 2 (ZM eNil)) (ZcJ (Zo (Str.ofString "NoShape")) (eVar 1) (Zb 5))) ZN) (Zs (Zy 3 (Ze ZfT (eCons (eVar 2) eNil))) (Zs (Zy 4 (Ze Zdf (eCons (eVar 3) eNil))) (Zs (ZB (ZZ (Zp (Za oNe (Za Zh (eVar 4) (Zb 0)) (Za Zh (eVar 1) (Zb 5)))) (ZZ (Zp (Za ZgJ (Za Zh (eVar 4) (Zb 1)) (ZbH true))) (ZZ (Zp (Za oNe (eVar 3) (eVar 2))) ZaD))) (ZQ (ZbH false)) ZN) (ZQ (eOr (Za ZU (Za Zh (eVar 1) (Zb 5)) (Zo (Str.ofString ""))) (Ze ZeC (eCons (eVar 3) eNil)))))))))))
noncomputable def Zh6: List V→Hp→Option (V×Hp):=Z3 1 ZgB
noncomputable def ZgC: PS:=(Zx (Z1 1 (xP (Zat (Zd (pFl (Zdx (Zc 0) 2)) (Zd (Zm 0) (Zd (Zm 30) (Zd (Zat Zq) (Zd (Zat Zq) (Zd (ZR (Str.ofString "")) Zq))))))))) (Zx (Zfm (ZJ false [1] ZdI (Zd (Zc 1) Zq))) (Zx (Z1 1 (xP (Zat (Zd (pFl (Zdx (Zc 0) 2)) (Zd (Zm 0) (Zd (Zm 30) (Zd (Zat Zq) (Zd (Zak ZeR (Zd (Zc 0) (Zd (Zl ZT (Zc 1) (Zm 3)) Zq))) (Zd (ZR (Str.ofString "")) Zq))))))))) (Zx (Z1 2 (ZJ false [1] ZdI (Zd (Zc 1) Zq))) (Zx (Zap (xB (ZbD (Zac (Zl qGt (Zak ZbE (Zd (Zc 0) Zq)) (Zm 0))) (ZbD (Zac (Zl qEq (Zl Zbd (Zl ZT (Zc 0) (Zm 0)) (Zm 9)) (Zm 4))) ZbK))) (Zx (Z1 2 (xP (Zat Zq))) (Zc1 1 2 true (ZR (Str.ofString "NoShape")) ZaT (Zm 5))) Zaj) (Zx (Z1 3 (xP (Zak ZfU (Zd (Zc 2) Zq)))) (Zx (Z1 4 (xP (Zak ZdP (Zd (Zc 3) Zq)))) (Zx (Zap (xB (bOr (Zac (Zl qNe (Zl ZT (Zc 4) (Zm 0)) (Zl ZT (Zc 1) (Zm 5)))) (bOr (Zac (Zl Zit (Zl ZT (Zc 4) (Zm 1)) (Zdt true))) (bOr (Zac (Zl qNe (Zc 3) (Zc 2))) Zeb)))) (Zad (xP (Zdt false))) Zaj) (Zad (xP ((pOr (Zl qEq (Zl ZT (Zc 1) (Zm 5)) (ZR (Str.ofString ""))) (ZaZ (Zak ZdK (Zd (Zc 3) Zq)))))))))))))))
noncomputable def ZeX: List T→Option (T×List T):=ZaW 1 [] ZgC
theorem ZkT: SimX 1 [] true Zh6 ZeX:=SimX.of (show SU [] [] [] [(1,2)] [] true ZgB ZgC from(SU.seq (Zim (i:=1) (d:=2) (O':=[]) (S':=[]) (ZD (E.list (ZI (Zig (Zj 0)) (ZI (Zn _) (ZI (Zn _) (ZI (E.list ZF (by decide)) (ZI (E.list ZF (by decide)) (ZI (E.str _) ZF (by decide) (by decide)) (by decide) (by decide)) (by decide) (by decide)) (by decide) (by decide)) (by decide) (by decide)) (by decide) (by decide)) (by decide)) (by decide)) (by decide) (by decide)) (SU.seq (ZlA (x:=1) Zg2) (SU.seq (Zim (i:=1) (d:=2) (O':=[]) (S':=[]) (ZD (E.list (ZI (Zig (Zj 0)) (ZI (Zn _) (ZI (Zn _) (ZI (E.list ZF (by decide)) (ZI (ZgU ZjO (ZA (Zj 0) (ZA (Z5 Z6 (Zj 1) (Zn _)) ZF))) (ZI (E.str _) ZF (by decide) (by decide)) (by decide) (by decide)) (by decide) (by decide)) (by decide) (by decide)) (by decide) (by decide)) (by decide) (by decide)) (by decide)) (by decide)) (by decide) (by decide)) (SU.seq (Zlz (x:=1) (i:=2) Zg2 (by decide)) (SU.seq (Zax (ZaC (Zcc (Zah (ZE Zc4 (Zbf Zb5 (ZA (Zj 0) ZF)) (Zn _))) (Zcc (Zah (ZE ZaV (ZE ZbM (Z5 Z6 (Zj 0) (Zn _)) (Zn _)) (Zn _))) ZcD))) (SU.seq (SU.set (i:=2) (O':=[]) (S':=[(1,2)]) (ZD (E.list ZF (by decide)) (by decide))) (SU.putS (x:=1) (d:=2) (own:=true) (O':=[]) (S':=[(1,2)]) (by decide) (by decide) (E.str _) Zdl (Zn _) (by decide) (by decide) (by decide))) SU.next) (SU.seq (SU.set (i:=3) (O':=[]) (S':=[(1,2)]) (ZD (E.fn Zju (ZA (Zj 2) ZF)) (by decide))) (SU.seq (SU.set (i:=4) (O':=[]) (S':=[(1,2)]) (ZD (E.fn ZjC (ZA (Zj 3) ZF)) (by decide))) (SU.seq (Zax (ZaC (Zek (Zah (ZE Zji (Z5 Z6 (Zj 4) (Zn _)) (Z5 Z6 (Zj 1) (Zn _)))) (Zek (Zah (ZE ZkP (Z5 Z6 (Zj 4) (Zn _)) (E.bool _))) (Zek (Zah (ZE Zji (Zj 3) (Zj 2))) Zgx)))) (Zas (O':=[]) (S':=[(1,2)]) (ZD (E.bool _) (by decide)) (by decide) (by decide)) SU.next) (Zas (O':=[]) (S':=[(1,2)]) (ZD ((Znb (ZE ZaV (Z5 Z6 (Zj 1) (Zn _)) (E.str _)) (E.flat (E.fn Zjo (ZA (Zj 3) ZF))))) (by decide)) (by decide) (by decide))))))))))) (by decide) (by decide)
theorem ZlG{p e:PE}(h:Pk (p σ) fun t=>∃ts,t=.lst ts∧Pk (e σ) fun u=>∃a:Nat,u=.int a∧Q (.lst (ts.take a))): Pk (Zec p Ze7 (Ze8 e) σ) Q:=by
 obtain⟨_,e1,ts,rfl,_,e2,a,rfl,q⟩:=h
 refine⟨_,?_,q⟩
 simp only[Zec,e1,Ze7,Ze8,e2,Zs0,Zia ts rfl]
theorem ZhS{p:PE}{k:Nat}(h:Pk (p σ) fun t=>∃ts,t=.lst ts∧Q (.lst (ts.drop k))): Pk (Zdx p k σ) Q:=by
 obtain⟨_,e1,ts,rfl,q⟩:=h
 refine⟨_,?_,q⟩
 simp only[Zdx,e1,Zs0]
theorem Zh7{σ:TL}{j:Nat}{c:PB}{f:PE}: ∀{ts:List T},(∀t∈ts,Pb (c (Zw σ j t)) (fun _=>True)∧Pk (f (Zw σ j t)) fun u=>∃z:Int,u=.int z)→∃l:List Int,l.length≤ts.length∧Zcp (ZaE j) c f σ ts=some (l.map T.int)
 | [],_=>⟨[],by simp,rfl⟩
 | t::ts,h=>by
  obtain⟨l,hl,e⟩:=Zh7 (ts:=ts) fun t m=>h t (Zz2 _ m)
  obtain⟨⟨b,e1,_⟩,u,e2,z,rfl⟩:=h t Zz5
  cases b with
  | true=>exact⟨z::l,by simp;omega,by simp[Zcp,ZaE,e1,e2,e]⟩
  | false=>exact⟨l,by simp;omega,by simp[Zcp,ZaE,e1,e]⟩
theorem ZmJ{g:PG}{j:Nat}{a:Nat→T}{c:PB}{f:PE}(hn:n≤1000)(hg:Pl (g σ) fun ts=>ts=tab n a)(hf:∀i,i<n→Pb (c (Zw σ j (a i))) (fun _=>True)∧Pk (f (Zw σ j (a i))) fun u=>∃z:Int,u=.int z)(h:∀l:List Int,l.length≤n→Q (.lst (l.map T.int))): Pk (Zce g (ZaE j) c f σ) Q:=by
 obtain⟨ts,e,rfl⟩:=hg
 obtain⟨l,hl,e2⟩:=Zh7 (σ:=σ) (j:=j) (c:=c) (f:=f) (ts:=tab n a) fun t m=>by
  obtain⟨i,hi,rfl⟩:=Zkl m
  exact hf i hi
 rw[Zcn]at hl
 refine⟨_,?_,h l hl⟩
 simp only[Zce,e,Zs0,e2,Zcn]
 rw[if_pos (by rw[Zav];omega)]
 rfl
theorem ZlH{v:Int}(v0:0≤v)(v1:v<7)(h:∀x,PyData.strOk x=true→Q (.str x)): Pk (ZT (.lst [.str (Str.ofString "NoShape"),.str (Str.ofString "NoBox"),.str (Str.ofString "FixedBox"),.str (Str.ofString "NoSum"),.str (Str.ofString "NoStep"),.str (Str.ofString "NoStretch"),.str (Str.ofString "NoCall")]) (.int v)) Q:=by
 have hv:v=0∨v=1∨v=2∨v=3∨v=4∨v=5∨v=6:=by omega
 rcases hv with rfl | rfl | rfl | rfl | rfl | rfl | rfl <;> exact Zar (by decide) rfl (h _ (by decide +kernel))
theorem Zm6(x:Str): ∃y,PyData.strOk y=true∧wT x=.str y:=by
 unfold wT
 split
 ·exact⟨x,by assumption,rfl⟩
 ·exact⟨_,by decide +kernel,rfl⟩
theorem ZlI{ws:List Str}(hw:ws.length≤605)(h:∀sp:List Int,sp.length≤2→Q (.lst (sp.map T.int))): Pk (ZeR [Za6 ns,.lst (ws.map wT)]) Q:=by
 unfold ZeR Zf8 Za6
 have hlw:(ws.map wT).length=ws.length:=by simp
 walk_at "z"
 refine Zli (ts:=(ns.map T.int).take 2) ?_ (fun i τ=>∃sp:List Int,sp.length≤i∧τ 1=some (.lst (ws.map wT))∧τ 2=some (.lst (sp.map T.int))) ⟨[],by simp,by walk_at "tr",by walk_at "tr"⟩ (fun i t τ ht hI=>?_) fun τ hI=>?_
 ·walk_at "z"
  refine ZlG ?_
  walk_at "z"
  refine⟨_,rfl,?_⟩
  walk_at "z"
  refine⟨2,rfl,?_⟩
  exact⟨_,.inl rfl,rfl⟩
 ·obtain⟨sp,hl,e1,e2⟩:=hI
  have hi2:i<2:=by
   have:=(Zz6.mp ht).1
   simp at this
   omega
  obtain⟨c,rfl⟩:∃c:Int,t=.int c:=by
   have:=List.mem_of_mem_take (Zy4 ht)
   obtain⟨c,_,rfl⟩:=Zz11.mp this
   exact⟨c,rfl⟩
  walk_at "z"
  refine Ziv (by decide) (by decide) ?_
  walk_at "z"
  generalize (c*48271).fmod 1000003=v
  refine ZlH (Int.fmod_nonneg_of_pos _ (by decide)) (Int.fmod_lt_of_pos _ (by decide)) fun x hx=>?_
  walk_at "z"
  refine ZmJ (n:=ws.length) (a:=fun i=>.int (i:Nat)) (by omega) ?_ (fun k hk=>⟨?_,?_⟩) fun l hl2=>?_
  ·walk_at "z"
   rw[hlw]
   first | exact Rn.one (by omega) rfl | rfl | skip
  ·obtain⟨y,hy,ey⟩:=Zm6 ws[k]
   walk_at "z"
   refine Zar (t:=.str y) (by omega) (by rw[Int.toNat_natCast,List.getElem?_map,Zy1 hk,←ey];rfl) ?_
   walk_at "z"
   refine ZcH hy hx (fun _=>?_) fun _=>?_
   ·walk_at "z"
    trivial
   ·walk_at "z"
    trivial
  ·walk_at "z"
   exact⟨_,rfl⟩
  ·have hll:(l.map T.int).length=l.length:=by simp
   walk_at "z"
   rw[hll]
   refine⟨fun c1=>?_,fun c1=>?_⟩
   ·have c1:=of_decide_eq_true c1
    walk_at "z"
    refine Zdm (by decide) (by decide) ?_
    walk_at "z"
    refine⟨fun c2=>?_,fun c2=>?_⟩
    ·walk_at "z"
     refine Zdm (by decide) (by decide) ?_
     walk_at "z"
     rw[hll]
     have m0:=Int.fmod_nonneg_of_pos (v.fdiv 56) c1
     have m1:=Int.fmod_lt_of_pos (v.fdiv 56) c1
     generalize (v.fdiv 56).fmod (l.length:Int)=m at m0 m1
     have hm:m.toNat<l.length:=by omega
     refine Zar (t:=.int (l[m.toNat]'hm)) m0 (by rw[List.getElem?_map,Zy1 hm];rfl) ⟨rfl,?_⟩
     refine⟨sp.map T.int,by walk_at "tr",by simp;omega,sp++[l[m.toNat]'hm],by simp;omega,by walk_at "tr",?_⟩
     rw[List.map_append]
     walk_at "tr"
    ·walk_at "z"
     exact⟨sp,by omega,by walk_at "tr",by walk_at "tr"⟩
   ·walk_at "z"
    exact⟨sp,by omega,by walk_at "tr",by walk_at "tr"⟩
 ·obtain⟨sp,hl,e1,e2⟩:=hI
  walk_at "z"
  exact h sp (by simp at hl;omega)
theorem Nice.bl12{t:T}(h:Nice n t): Bl n t:=by
 induction h with
 | none=>exact .none
 | bool b=>exact .bool
 | int i=>exact .int
 | str h=>exact .str h
 | tup hl hs ih=>exact .tup ih (by omega)
 | lst hl hs ih=>exact .lst ih (by omega)
theorem Zh8{a:T}(ha:Bl n a)(h:Q (.bool false))(hn:n≤40:=by decide): Pk (qNe a a) Q:=⟨_,by simp only[qNe,ZkQ ha hn,Zs1];rfl,h⟩
noncomputable def Wd12(fs:List T)(w:Str): Prop:=Nice 14 (.lst fs)∧PyData.strOk w=true∧∃os,Pg12 fs os∧fs.length≤1000∧(w=e12∧Zbl fs os=none∨∃C,Zbl fs os=some C∧cls12.lookup C=some w∧w≠e12)
theorem Wd12.refusal(h:Wd12 fs w): ZdP [.lst fs]=some (.tup [.str w,.bool true]):=by
 obtain⟨_,_,os,P,hN,h⟩:=h
 simp only[ZdP,Zh4 hN P,Zs0]
 rcases h with⟨rfl,e⟩ | ⟨C,e,e2,_⟩
 ·rw[e];rfl
 ·rw[e]
  simp[Zi0,e2]
theorem Wd12.base(h:Wd12 fs w)(hw:w≠e12): ZdK [.lst fs]=some (.bool true):=by
 obtain⟨_,_,os,P,hN,h⟩:=h
 rcases h with⟨rfl,e⟩ | ⟨C,e,e2,_⟩
 ·exact absurd rfl hw
 ·simp[ZdK,Zh4 hN P,e,e2]
theorem Wd12.nil: Wd12 [] (Str.ofString "NoShape"):=⟨.lst (by simp) nl0,by decide +kernel,[],⟨rfl,fun j hj=>by simp at hj⟩,by simp,.inr ⟨49,by simp[Zbl],by decide +kernel,by decide +kernel⟩⟩
theorem Wd12.of{os:List (Option Addr)}(P:Pg12 fs os)(h1:1≤fs.length)(h5:fs.length≤5)(hN:Nice 14 (.lst fs))(fa:Fa e12 w (os.foldr ZK none)): Wd12 fs w:=by
 refine⟨hN,fa.1,os,P,by omega,?_⟩
 have e:Zbl fs os=os.foldr ZK none:=by unfold Zbl;rw[if_neg (by omega)]
 rw[e]
 rcases fa.2.2 rfl with⟨a,b⟩ | ⟨C,x,a,b,c,rfl⟩
 ·exact .inl ⟨a,b⟩
 ·exact .inr ⟨C,a,b,c⟩
theorem Zh9(l:List Int): (T.lst (l.map T.int)).flatIn=true:=by
 show T.flats (l.map T.int)=true
 induction l with
 | nil=>rfl
 | cons a l ih=>exact ih
theorem ZjR(hL:LayX ns): ∃us,ZeX [Za6 ns]=some (.bool true,us):=by
 have:Pr (ZeX [Za6 ns]) fun t _=>t=.bool true:=by
  have hL2:LayX (ns.drop 2):=hL.drop
  have ed:(ns.map T.int).drop 2=(ns.drop 2).map T.int:=List.map_drop.symm
  unfold ZeX ZgC
  refine Zee rfl ?_
  refine ZaG (ZaJ (N':=fun τ=>τ 0=some (Za6 ns)∧τ 1=some (fd (ns.drop 2) 0 ((30:Nat):Int) [] [] e12)) ?_ fun τ1 h1=>?_)
  ·unfold Za6
   walk_at "tz"
   refine ZhS ?_
   walk_at "tz"
   refine⟨_,rfl,?_,?_⟩
   ·rw[ed]
    exact Zh9 _
   walk_at "tz"
   refine⟨by walk_at "tr",?_⟩
   rw[ed]
   rfl
  obtain⟨a0,a1⟩:=h1
  refine ZaG (ZaJ (N':=fun τ=>∃p r ws w,ws.length≤605∧τ 0=some (Za6 ns)∧τ 1=some (fd (ns.drop 2) p r ws [] w)) ?_ fun τ2 h2=>?_)
  ·walk_at "tz"
   refine ZhR hL2 (by simp) fun fs os p' r' ws' w' _ _ _ _ hl _=>?_
   walk_at "tz"
   exact⟨p',_,ws',w',hl,by walk_at "tr",by walk_at "tr"⟩
  clear a0 a1
  obtain⟨p,r,ws,w,hl,a0,a1⟩:=h2
  refine ZaG (ZaJ (N':=fun τ=>∃sp:List Int,sp.length≤2∧τ 0=some (Za6 ns)∧τ 1=some (fd (ns.drop 2) 0 ((30:Nat):Int) [] sp e12)) ?_ fun τ3 h3=>?_)
  ·unfold Za6 at a0 ⊢
   walk_at "tz"
   refine ZhS ?_
   walk_at "tz"
   refine⟨_,rfl,?_,?_⟩
   ·rw[ed]
    exact Zh9 _
   walk_at "tz"
   refine Zar (t:=.lst (ws.map wT)) (by decide) rfl ?_
   walk_at "tz"
   refine ZlI hl fun sp hsp=>?_
   walk_at "tz"
   refine⟨sp,hsp,by walk_at "tr",?_⟩
   rw[ed]
   rfl
  clear a0 a1
  obtain⟨sp,hsp,a0,a1⟩:=h3
  refine ZaG (ZaJ (N':=fun τ=>∃fs p r ws w,Wd12 fs w∧ws.length≤605∧τ 0=some (Za6 ns)∧τ 1=some (fd (ns.drop 2) p r ws sp w)∧τ 2=some (.lst fs)) ?_ fun τ4 h4=>?_)
  ·walk_at "tz"
   refine ZhR hL2 (by omega) fun fs os p' r' ws' w' P g1 g5 hN hl fa=>?_
   walk_at "tz"
   exact⟨fs,p',_,ws',w',.of P g1 g5 hN fa,hl,by walk_at "tr",by walk_at "tr",by walk_at "tr"⟩
  clear a0 a1
  obtain⟨fs0,p1,r1,ws1,w1,W1,hl1,a0,a1,a2⟩:=h4
  refine ZaG (ZaJ (N':=fun τ=>∃fs p r ws w,Wd12 fs w∧τ 1=some (fd (ns.drop 2) p r ws sp w)∧τ 2=some (.lst fs)) ?_ fun τ5 h5=>?_)
  ·have hln:(ns.map T.int).length=ns.length:=by simp
   unfold Za6 at a0
   walk_at "tz"
   rw[hln]
   refine⟨fun c=>?_,fun c=>?_⟩
   ·have c:=of_decide_eq_true c
    walk_at "tz"
    refine Zar (t:=.int (ns[0]'(by omega))) (by decide) (by simp) ?_
    walk_at "tz"
    refine⟨fun c2=>?_,fun c2=>?_⟩
    ·have e9:fd (ns.drop 2) p1 r1 ws1 sp w1=.lst [Za6 (ns.drop 2),.int p1,.int r1,.lst (ws1.map wT),.lst (sp.map T.int),.str w1]:=rfl
     rw[e9]at a1
     walk_at "tz"
     refine⟨[Za6 (ns.drop 2),.int p1,.int r1,.lst (ws1.map wT),.lst (sp.map T.int),.str w1],5,rfl,by walk_at "tr",by decide,(by simp),?_⟩
     exact⟨[],p1,r1,ws1,_,.nil,by walk_at "tr",by walk_at "tr"⟩
    ·walk_at "tz"
     exact⟨fs0,p1,r1,ws1,w1,W1,by walk_at "tr",by walk_at "tr"⟩
   ·walk_at "tz"
    exact⟨fs0,p1,r1,ws1,w1,W1,by walk_at "tr",by walk_at "tr"⟩
  clear a0 a1 a2 W1 hl1
  obtain⟨fs,p,r,ws,w,W,a1,a2⟩:=h5
  have e9:fd (ns.drop 2) p r ws sp w=.lst [Za6 (ns.drop 2),.int p,.int r,.lst (ws.map wT),.lst (sp.map T.int),.str w]:=rfl
  rw[e9]at a1
  walk_at "tz"
  refine⟨_,Zkn (W.1.mono (by decide)),?_⟩
  walk_at "tz"
  refine⟨_,W.refusal,?_⟩
  walk_at "tz"
  refine Zh8 (n:=1) (.str W.2.1) ?_
  walk_at "tz"
  refine⟨_,rfl,?_⟩
  walk_at "tz"
  refine Zh8 (n:=14) W.1.bl12 ?_
  walk_at "tz"
  refine ZcH W.2.1 (by decide +kernel) (fun c=>?_) fun c=>?_
  ·walk_at "tz"
   rfl
  ·walk_at "tz"
   refine⟨_,W.base c,?_⟩
   walk_at "tz"
   rfl
 obtain⟨t,us,e,rfl⟩:=this
 exact⟨us,e⟩
theorem ZjL(hlen:ns.length≤63)(hL:PyData.layable0 (.list (ns.map .int))=true): ∃H',Zh6 [.ref 0] [ns.map V.int]=some (.bool true,H'):=ZjZ ZkT ns (ZjR (Znh hL))
end L
end
section
open PySem PySem.W PyProof.Rows
namespace PySem.W.Fast
theorem tw5105673956185107153:True:=⟨⟩
theorem tw9296360433889664002:True:=⟨⟩
theorem tw16968176118458789586:True:=⟨⟩
theorem tw9497945907656264259:True:=⟨⟩
theorem tw9515242367644423802:True:=⟨⟩
theorem tw10426125643436316091:True:=⟨⟩
theorem tw4621932581444047675:True:=⟨⟩
theorem tw17643754061406199020:True:=⟨⟩
theorem tw11187973929812520656:True:=⟨⟩
theorem tw4584130408075211490:True:=⟨⟩
theorem tw9601000219436670146:True:=⟨⟩
theorem tw15452572443179084588:True:=⟨⟩
theorem tw9156678896304099913:True:=⟨⟩
theorem tw15886500619415505586:True:=⟨⟩
theorem tw4419873286371483742:True:=⟨⟩
theorem tw15221209806709932071:True:=⟨⟩
theorem tw12798869161161681673:True:=⟨⟩
theorem tw9774394379856643515:True:=⟨⟩
theorem tw2257529940240947247:True:=⟨⟩
theorem tw9840342860782594374:True:=⟨⟩
theorem tw3101917741504857134:True:=⟨⟩
theorem tw16002967266952078866:True:=⟨⟩
theorem tw7523194637212750777:True:=⟨⟩
theorem tw4361700775904427359:True:=⟨⟩
theorem tw3092117133297227249:True:=⟨⟩
theorem tw10299302589577801163:True:=⟨⟩
theorem tw9563574807059059695:True:=⟨⟩
theorem tw11519117686961666697:True:=⟨⟩
theorem tw2947586027576077979:True:=⟨⟩
theorem tw4157206338815638501:True:=⟨⟩
theorem tw16915470645016011554:True:=⟨⟩
theorem tw16472409268878238316:True:=⟨⟩
theorem tw10700183255674453818:True:=⟨⟩
theorem tw8164005668110941744:True:=⟨⟩
theorem tw3764688243253525356:True:=⟨⟩
theorem tw13426244417702134072:True:=⟨⟩
theorem tw5681066748535004433:True:=⟨⟩
theorem tw529536973988259948:True:=⟨⟩
theorem tw1906743188756502811:True:=⟨⟩
theorem tw8426798971799828003:True:=⟨⟩
theorem tw10335527622381539264:True:=⟨⟩
theorem tw14501001857826371202:True:=⟨⟩
theorem tw17925384258215065573:True:=⟨⟩
theorem tw4026151001005817321:True:=⟨⟩
theorem tw7328447075739424539:True:=⟨⟩
theorem tw13517250619966689955:True:=⟨⟩
theorem tw16131593051203169754:True:=⟨⟩
theorem tw8933567498414919238:True:=⟨⟩
theorem tw5623994078177797194:True:=⟨⟩
theorem tw5312734613080425828:True:=⟨⟩
theorem tw3484416591250251468:True:=⟨⟩
theorem tw12106905011117388788:True:=⟨⟩
theorem tw10155365746132046468:True:=⟨⟩
theorem tw17849293660312457548:True:=⟨⟩
theorem tw14613296582639449008:True:=⟨⟩
theorem tw16749348522385944071:True:=⟨⟩
theorem tw12996339429388188178:True:=⟨⟩
theorem tw69414778264802052:True:=⟨⟩
theorem tw11627183963262164719:True:=⟨⟩
theorem tw16550838102048051623:True:=⟨⟩
theorem tw7215932318001415403:True:=⟨⟩
theorem tw734138898119960010:True:=⟨⟩
theorem tw16172578528114110199:True:=⟨⟩
theorem tw1541540961381408409:True:=⟨⟩
theorem tw8789256864460932259:True:=⟨⟩
theorem tw15622835117965313283:True:=⟨⟩
theorem tw7317576523658780031:True:=⟨⟩
theorem tw8621301723031713458:True:=⟨⟩
theorem tw12068798485007620914:True:=⟨⟩
theorem tw2625098255110226060:True:=⟨⟩
theorem tw12941643214049860704:True:=⟨⟩
theorem tw4203021270051977171:True:=⟨⟩
theorem tw8934421753687110507:True:=⟨⟩
theorem tw15060062891209958045:True:=⟨⟩
theorem tw17171846756451863285:True:=⟨⟩
theorem tw11418939547134857076:True:=⟨⟩
theorem tw3094701115853657799:True:=⟨⟩
theorem tw4179031660912777645:True:=⟨⟩
theorem tw305048472116853797:True:=⟨⟩
theorem tw3857615796733700780:True:=⟨⟩
theorem tw804092199982636349:True:=⟨⟩
theorem tw13829591483307370896:True:=⟨⟩
theorem tw17969941481158815411:True:=⟨⟩
theorem tw16469568281967520401:True:=⟨⟩
theorem tw15213048550514571353:True:=⟨⟩
theorem tw4033379813872489195:True:=⟨⟩
theorem tw8903238766108814736:True:=⟨⟩
theorem tw539595736760451978:True:=⟨⟩
theorem tw16149030986926176842:True:=⟨⟩
theorem tw13478877428745155630:True:=⟨⟩
theorem tw8436589768386056944:True:=⟨⟩
theorem tw10097012582147076362:True:=⟨⟩
theorem tw1147522009701800784:True:=⟨⟩
theorem tw112567504061534027:True:=⟨⟩
theorem tw9192171586001469603:True:=⟨⟩
theorem tw9455475090630465045:True:=⟨⟩
theorem tw17845374550828520631:True:=⟨⟩
theorem tw14439765378166140033:True:=⟨⟩
theorem tw8454840944936950519:True:=⟨⟩
theorem tw18221076124747093969:True:=⟨⟩
theorem tw10752687858943698738:True:=⟨⟩
theorem tw7470021291188754609:True:=⟨⟩
theorem tw16629561534657121264:True:=⟨⟩
theorem tw14864845329073380503:True:=⟨⟩
theorem tw12059592832596718669:True:=⟨⟩
theorem tw5420646709462680085:True:=⟨⟩
theorem tw16118103595353321548:True:=⟨⟩
theorem tw5603574739699854544:True:=⟨⟩
theorem tw12976177241038019767:True:=⟨⟩
theorem tw13231743877010270464:True:=⟨⟩
theorem tw14566440943485919492:True:=⟨⟩
theorem tw15069716523494295500:True:=⟨⟩
theorem tw14790834132378566595:True:=⟨⟩
theorem tw9685044298169568939:True:=⟨⟩
theorem tw6664951462986138201:True:=⟨⟩
theorem tw12532165626772418067:True:=⟨⟩
theorem tw11350901572294669957:True:=⟨⟩
theorem tw3241244739717862871:True:=⟨⟩
theorem tw15679247252792206210:True:=⟨⟩
theorem tw8160871880118814707:True:=⟨⟩
theorem tw6951939212644042833:True:=⟨⟩
theorem tw7805864855692585105:True:=⟨⟩
theorem tw6771114647407755230:True:=⟨⟩
theorem tw5613845454599061817:True:=⟨⟩
theorem tw9508736203920968164:True:=⟨⟩
theorem tw5759927347364260171:True:=⟨⟩
theorem tw11990459337992974956:True:=⟨⟩
theorem tw5036445103931068615:True:=⟨⟩
theorem tw11732214188671553305:True:=⟨⟩
theorem tw13792483299354683862:True:=⟨⟩
theorem tw4954584648838934644:True:=⟨⟩
theorem tw3482820431698744051:True:=⟨⟩
theorem tw217222266210458990:True:=⟨⟩
theorem tw6511239469406747073:True:=⟨⟩
theorem tw11002848052431835627:True:=⟨⟩
theorem tw6737687440995333003:True:=⟨⟩
theorem tw11289143093466461953:True:=⟨⟩
theorem tw13989995598129119793:True:=⟨⟩
theorem tw2852278927748849453:True:=⟨⟩
theorem tw5427499738942290107:True:=⟨⟩
theorem tw10390157646234782899:True:=⟨⟩
theorem tw6731276024794131016:True:=⟨⟩
theorem tw1302159686449037214:True:=⟨⟩
theorem tw4626940704210403192:True:=⟨⟩
theorem tw17996964024917085871:True:=⟨⟩
theorem tw7042659310547366237:True:=⟨⟩
theorem tw10015853644003576960:True:=⟨⟩
theorem tw17857563459279650048:True:=⟨⟩
theorem tw17764394344339721233:True:=⟨⟩
theorem tw7388713464098733815:True:=⟨⟩
theorem tw12434779806091606683:True:=⟨⟩
theorem tw13218621648322568166:True:=⟨⟩
theorem tw5353813085845620550:True:=⟨⟩
theorem tw12184380411685104690:True:=⟨⟩
theorem tw4475145619620083286:True:=⟨⟩
theorem tw15724745641170818534:True:=⟨⟩
theorem tw5485572742587201778:True:=⟨⟩
theorem tw13481268755573549168:True:=⟨⟩
theorem tw17093224777342109595:True:=⟨⟩
theorem tw8237626310708396552:True:=⟨⟩
theorem tw17837415989878807268:True:=⟨⟩
theorem tw9585978970863474492:True:=⟨⟩
theorem tw4674102799890499726:True:=⟨⟩
theorem tw11386625637836781638:True:=⟨⟩
theorem tw17159247199365327217:True:=⟨⟩
theorem tw5552461122284547459:True:=⟨⟩
theorem tw15862806813707239167:True:=⟨⟩
theorem tw6315216371427503177:True:=⟨⟩
theorem tw5260856337621036202:True:=⟨⟩
theorem tw8824595633291508535:True:=⟨⟩
theorem tw13767189678803695011:True:=⟨⟩
theorem tw14199714164133228370:True:=⟨⟩
theorem tw14805814515597417852:True:=⟨⟩
theorem tw726985913927333873:True:=⟨⟩
theorem tw2385268686561707046:True:=⟨⟩
theorem tw2335157872551914648:True:=⟨⟩
theorem tw2927799364441409784:True:=⟨⟩
theorem tw8605165415444627158:True:=⟨⟩
theorem tw13553050674002434610:True:=⟨⟩
theorem tw7097827964152542560:True:=⟨⟩
theorem tw15632992782082381434:True:=⟨⟩
theorem tw17094580856887593759:True:=⟨⟩
theorem tw3904583755211930517:True:=⟨⟩
theorem tw14788362278542820120:True:=⟨⟩
theorem tw2648174423076098445:True:=⟨⟩
theorem tw10069975712529536831:True:=⟨⟩
theorem tw7317234293075219:True:=⟨⟩
theorem tw3373145609055282853:True:=⟨⟩
theorem tw18431155831084640082:True:=⟨⟩
theorem tw17698735102306075112:True:=⟨⟩
theorem tw11118301316682269745:True:=⟨⟩
theorem tw11188117447681078326:True:=⟨⟩
theorem tw8526028360262338249:True:=⟨⟩
theorem tw10052001805573714066:True:=⟨⟩
theorem tw11628655550579775585:True:=⟨⟩
theorem tw1877378965866140348:True:=⟨⟩
theorem tw12694589447371642155:True:=⟨⟩
theorem tw17882641709403210578:True:=⟨⟩
theorem tw15545184769064153574:True:=⟨⟩
theorem tw12067549021546063074:True:=⟨⟩
theorem tw16396790404030501481:True:=⟨⟩
theorem tw15755044616229629136:True:=⟨⟩
theorem tw17878424488110687958:True:=⟨⟩
theorem tw1647960591809683682:True:=⟨⟩
theorem tw14267268813261638861:True:=⟨⟩
theorem tw8174591469460913490:True:=⟨⟩
theorem tw5680315236850328200:True:=⟨⟩
theorem tw5916140570258018564:True:=⟨⟩
theorem tw14323227155912201964:True:=⟨⟩
theorem tw7340446101256811000:True:=⟨⟩
theorem tw8553059368797141306:True:=⟨⟩
theorem tw2962324470309885386:True:=⟨⟩
theorem tw16266442582153907279:True:=⟨⟩
theorem tw8667492640987031791:True:=⟨⟩
theorem tw11320351676317602388:True:=⟨⟩
theorem tw6793172497655745189:True:=⟨⟩
theorem tw13952158723898717365:True:=⟨⟩
theorem tw7524379617451308511:True:=⟨⟩
theorem tw18167724695441219349:True:=⟨⟩
theorem tw4968929673044707356:True:=⟨⟩
theorem tw1391549112126926301:True:=⟨⟩
theorem tw10846345724684618374:True:=⟨⟩
theorem tw274189353798237994:True:=⟨⟩
theorem tw2873748437651673626:True:=⟨⟩
theorem tw16655083059833703075:True:=⟨⟩
theorem tw5979879043188829338:True:=⟨⟩
theorem tw6771182271545134960:True:=⟨⟩
theorem tw3664731896753646195:True:=⟨⟩
theorem tw18152465450248862715:True:=⟨⟩
theorem tw10497823618577955822:True:=⟨⟩
theorem tw644751248652905101:True:=⟨⟩
theorem tw2680141511932349947:True:=⟨⟩
theorem tw897888412878121761:True:=⟨⟩
theorem tw14279065940840616024:True:=⟨⟩
theorem tw18329075359065952542:True:=⟨⟩
theorem tw16463793508043411602:True:=⟨⟩
theorem tw5587484289544270231:True:=⟨⟩
theorem tw8131721106225051767:True:=⟨⟩
theorem tw3808584094389355786:True:=⟨⟩
theorem tw7698093992028202642:True:=⟨⟩
theorem tw15261137711255440680:True:=⟨⟩
theorem tw10800367221633172730:True:=⟨⟩
theorem tw9875310753523236396:True:=⟨⟩
theorem tw4177351759533223642:True:=⟨⟩
theorem tw3471986238504059686:True:=⟨⟩
theorem tw17084317755948004794:True:=⟨⟩
theorem tw1567247161763788871:True:=⟨⟩
theorem tw7894344252036594922:True:=⟨⟩
theorem tw7090585071989052306:True:=⟨⟩
theorem tw5845538515087863352:True:=⟨⟩
theorem tw438459731153329746:True:=⟨⟩
theorem tw6623812351622530092:True:=⟨⟩
theorem tw12325562205625792791:True:=⟨⟩
theorem tw9161490523856799436:True:=⟨⟩
theorem tw6760056911573607715:True:=⟨⟩
theorem tw7618804249908900691:True:=⟨⟩
theorem tw11300376045408061371:True:=⟨⟩
theorem tw18277388166739348960:True:=⟨⟩
theorem tw3133745999044795564:True:=⟨⟩
theorem tw670427922429333600:True:=⟨⟩
theorem tw10354477200866600673:True:=⟨⟩
theorem tw3302770140995672700:True:=⟨⟩
theorem tw12079628635447562283:True:=⟨⟩
theorem tw6252695792229605141:True:=⟨⟩
theorem tw6205024481829086969:True:=⟨⟩
theorem tw16884622931589843948:True:=⟨⟩
theorem tw5015507407206683207:True:=⟨⟩
theorem tw16408362238061914836:True:=⟨⟩
theorem tw15155859288707382567:True:=⟨⟩
theorem tw11347631108264317165:True:=⟨⟩
theorem tw11586196018267737339:True:=⟨⟩
theorem tw17590088832654516399:True:=⟨⟩
theorem tw14398365135244066966:True:=⟨⟩
theorem tw6606014719576569030:True:=⟨⟩
theorem tw6999941293234460784:True:=⟨⟩
theorem tw17179431292420308709:True:=⟨⟩
theorem tw10241233070082051121:True:=⟨⟩
theorem tw17960406059949683352:True:=⟨⟩
theorem tw8249347019533418915:True:=⟨⟩
theorem tw7158441374720773216:True:=⟨⟩
theorem tw12319047049370110589:True:=⟨⟩
theorem tw16286715671046524454:True:=⟨⟩
theorem tw133755455108545178:True:=⟨⟩
theorem tw12514039047250868702:True:=⟨⟩
theorem tw5609530884314319229:True:=⟨⟩
theorem tw6788773261714906821:True:=⟨⟩
theorem tw7945405709010385892:True:=⟨⟩
theorem tw2484844197603217540:True:=⟨⟩
theorem tw11887224372650548316:True:=⟨⟩
theorem tw8078195926588453703:True:=⟨⟩
theorem tw3822784309164373692:True:=⟨⟩
theorem tw5674458297940323589:True:=⟨⟩
theorem tw5011889884212318148:True:=⟨⟩
theorem tw14245618210516037357:True:=⟨⟩
theorem tw8697654515486363317:True:=⟨⟩
theorem tw12661032092557703082:True:=⟨⟩
theorem tw13949155002146243131:True:=⟨⟩
theorem tw4589182232624314844:True:=⟨⟩
theorem tw16970792351503237766:True:=⟨⟩
theorem tw14949513074056673275:True:=⟨⟩
theorem tw1620389302784492585:True:=⟨⟩
theorem tw13323373534744806615:True:=⟨⟩
theorem tw15854262060937163188:True:=⟨⟩
theorem tw17960848765466677729:True:=⟨⟩
theorem tw14650769484350525481:True:=⟨⟩
theorem tw18042889414512086050:True:=⟨⟩
theorem tw3016012700857477809:True:=⟨⟩
theorem tw3942624392001961204:True:=⟨⟩
theorem tw6662249597110656733:True:=⟨⟩
theorem tw16803143847538834185:True:=⟨⟩
theorem tw11843833423457600547:True:=⟨⟩
theorem tw16504757533647375273:True:=⟨⟩
end PySem.W.Fast
set_option maxRecDepth 100000 in
set_option maxHeartbeats 8000000 in
open_top head for PySem.Challenge.rw_seer_k12_well_made_or_refused
end
section
open PySem PySem.W PySem.Calls PyProof.Rows PM
seal PM.J PM.Js PM.JT PM.JA PM.JF PM.JI PM.JI2 PM.JP PM.S1 PM.Ss PM.Sto PM.Rd PM.Nm PM.OpN PM.Op2 PM.Def
namespace L
section
variable {w:World} {s₀:Shared} {mg mb:Str→Option Value}
theorem Zdg: Def PySem.Challenge.rw_seer_k12_well_made_or_refused.row.prog w (head.heap_39 w.params) head.view_39 (looseW head.view_39 []) (ExcName.means s₀.heap) mg mb 179 1 Zcz:=by
  k_fill
  refine' Def.of (names:=[Str.ofString "one",Str.ofString "many"]) (n:=2) (room:=0) (g:=ZhA) (ho:=?ho) (hcd:=?hcd) (nd:=by decide) (hn:=by decide) (hbind:=?hb) (hkinds:=?hk) (hone:=?h1) (hco:=?z1) (hgen:=?z2) (hk:=?z3) (hbody:=?hbody)
  case ho=>k_is
  case z1=>rfl
  case z2=>rfl
  case z3=>rfl
  case hcd=>k_is
  case hb=>intro s xs hx;match xs,hx with | [x0,x1],_=>exact BindsTo.of_eq rfl
  case hk=>decide
  case h1=>decide +kernel
  case hbody=>
   intro dp un gd L outer h₀ hu clr hd1 hu1
   exact(Zu (ZV (Zz (Zaq (Za2 clr (by k_is) (by boot_by_name) (by decide) rfl rfl rfl rfl rfl) (Zk (Zf (rd_loc (by rfl) rfl rfl rfl)) Zg) ZaB) (ZG (Zf (rd_loc (by rfl) rfl rfl rfl)) (J.int _ _ _) ZaK) ZcX) (Zu (S1.no)) Z4))
theorem Zhu: Def PySem.Challenge.rw_seer_k12_well_made_or_refused.row.prog w (head.heap_39 w.params) head.view_39 (looseW head.view_39 []) (ExcName.means s₀.heap) mg mb 186 1 ZeK:=by
  k_fill
  refine' Def.of (names:=[Str.ofString "d"]) (n:=1) (room:=0) (g:=Zhm) (ho:=?ho) (hcd:=?hcd) (nd:=by decide) (hn:=by decide) (hbind:=?hb) (hkinds:=?hk) (hone:=?h1) (hco:=?z1) (hgen:=?z2) (hk:=?z3) (hbody:=?hbody)
  case ho=>k_is
  case z1=>rfl
  case z2=>rfl
  case z3=>rfl
  case hcd=>k_is
  case hb=>intro s xs hx;match xs,hx with | [x0],_=>exact BindsTo.of_eq rfl
  case hk=>decide
  case h1=>decide +kernel
  case hbody=>
   intro dp un gd L outer h₀ hu clr hd1 hu1
   exact(Zu (ZV (Zz (Zf (rd_loc (by rfl) rfl rfl rfl)) (J.int _ _ _) Zbz) (Zu (S1.no)) Z4))
theorem ZdQ: Def PySem.Challenge.rw_seer_k12_well_made_or_refused.row.prog w (head.heap_39 w.params) head.view_39 (looseW head.view_39 []) (ExcName.means s₀.heap) mg mb 165 2 Zb9:=by
  k_fill
  refine' Def.of (names:=[Str.ofString "claim",Str.ofString "many"]) (n:=2) (room:=1) (g:=Zhf) (ho:=?ho) (hcd:=?hcd) (nd:=by decide) (hn:=by decide) (hbind:=?hb) (hkinds:=?hk) (hone:=?h1) (hco:=?z1) (hgen:=?z2) (hk:=?z3) (hbody:=?hbody)
  case ho=>k_is
  case z1=>rfl
  case z2=>rfl
  case z3=>rfl
  case hcd=>k_is
  case hb=>intro s xs hx;match xs,hx with | [x0,x1],_=>exact BindsTo.of_eq rfl
  case hk=>decide
  case h1=>decide +kernel
  case hbody=>
   intro dp un gd L outer h₀ hu clr hd1 hu1
   exact(Zv (Zao (Zag clr (nm_def clr (by k_is) rfl rfl rfl rfl) (by k_is) Zdg (by omega) (by omega) (Zk (Zt (Zf (rd_loc (by rfl) rfl rfl rfl)) (J.int _ _ _)) (Zk (Zf (rd_loc (by rfl) rfl rfl rfl)) Zg)))) (Zu (ZV (Zz (Zt (Zf (rd_loc (by rfl) rfl rfl rfl)) (J.int _ _ _)) (J.str _ _ _) Zai) (Zu (Zao (Zag clr (nm_def clr (by k_is) rfl rfl rfl rfl) (by k_is) Zhu (by omega) (by omega) (Zk (Zt (Zf (rd_loc (by rfl) rfl rfl rfl)) (J.int _ _ _)) Zg)))) Z4)))
theorem Zf9: Def PySem.Challenge.rw_seer_k12_well_made_or_refused.row.prog w (head.heap_39 w.params) head.view_39 (looseW head.view_39 []) (ExcName.means s₀.heap) mg mb 172 1 ZcR:=by
  k_fill
  refine' Def.of (names:=[Str.ofString "x",Str.ofString "many",Str.ofString "fixed"]) (n:=3) (room:=0) (g:=ZhB) (ho:=?ho) (hcd:=?hcd) (nd:=by decide) (hn:=by decide) (hbind:=?hb) (hkinds:=?hk) (hone:=?h1) (hco:=?z1) (hgen:=?z2) (hk:=?z3) (hbody:=?hbody)
  case ho=>k_is
  case z1=>rfl
  case z2=>rfl
  case z3=>rfl
  case hcd=>k_is
  case hb=>intro s xs hx;match xs,hx with | [x0,x1,x2],_=>exact BindsTo.of_eq rfl
  case hk=>decide
  case h1=>decide +kernel
  case hbody=>
   intro dp un gd L outer h₀ hu clr hd1 hu1
   exact(Zv (ZV (Za8 (Zaw (Zz (Zf (rd_loc (by rfl) rfl rfl rfl)) (J.int _ _ _) Zbz) (Zaw (Zz (Zf (rd_loc (by rfl) rfl rfl rfl)) (Zf (rd_loc (by rfl) rfl rfl rfl)) ZbA) ZbT))) (Zu (S1.no)) Z4) (Zu (ZV (Zz (Zf (rd_loc (by rfl) rfl rfl rfl)) (Zf (rd_loc (by rfl) rfl rfl rfl)) Zi2) (Zu (S1.no)) Z4)))
theorem ZhT: Def PySem.Challenge.rw_seer_k12_well_made_or_refused.row.prog w (head.heap_39 w.params) head.view_39 (looseW head.view_39 []) (ExcName.means s₀.heap) mg mb 125 1 ZcS:=by
  k_fill
  refine' Def.of (names:=[Str.ofString "lo",Str.ofString "hi"]) (n:=2) (room:=0) (g:=ZdZ) (ho:=?ho) (hcd:=?hcd) (nd:=by decide) (hn:=by decide) (hbind:=?hb) (hkinds:=?hk) (hone:=?h1) (hco:=?z1) (hgen:=?z2) (hk:=?z3) (hbody:=?hbody)
  case ho=>k_is
  case z1=>rfl
  case z2=>rfl
  case z3=>rfl
  case hcd=>k_is
  case hb=>intro s xs hx;match xs,hx with | [x0,x1],_=>exact BindsTo.of_eq rfl
  case hk=>decide
  case h1=>decide +kernel
  case hbody=>
   intro dp un gd L outer h₀ hu clr hd1 hu1
   exact(Zu (Zaa (Zmg (Zef (Zf (rd_loc (by rfl) rfl rfl rfl)) (J.none _ _) ZhU) (ZmL (Zef (Zf (rd_loc (by rfl) rfl rfl rfl)) (J.none _ _) ZhU) (Zef (Zf (rd_loc (by rfl) rfl rfl rfl)) (Zf (rd_loc (by rfl) rfl rfl rfl)) ZbA)))))
theorem Zkp: Def PySem.Challenge.rw_seer_k12_well_made_or_refused.row.prog w (head.heap_39 w.params) head.view_39 (looseW head.view_39 []) (ExcName.means s₀.heap) mg mb 118 2 Zgr:=by
  k_fill
  refine' Def.of (names:=[Str.ofString "lo",Str.ofString "hi"]) (n:=2) (room:=1) (g:=ZhM) (ho:=?ho) (hcd:=?hcd) (nd:=by decide) (hn:=by decide) (hbind:=?hb) (hkinds:=?hk) (hone:=?h1) (hco:=?z1) (hgen:=?z2) (hk:=?z3) (hbody:=?hbody)
  case ho=>k_is
  case z1=>rfl
  case z2=>rfl
  case z3=>rfl
  case hcd=>k_is
  case hb=>intro s xs hx;match xs,hx with | [x0,x1],_=>exact BindsTo.of_eq rfl
  case hk=>decide
  case h1=>decide +kernel
  case hbody=>
   intro dp un gd L outer h₀ hu clr hd1 hu1
   exact(Zv (ZV (Zbx (Zag clr (nm_def clr (by k_is) rfl rfl rfl rfl) (by k_is) ZhT (by omega) (by omega) (Zk (Zf (rd_loc (by rfl) rfl rfl rfl)) (Zk (Zf (rd_loc (by rfl) rfl rfl rfl)) Zg)))) (Zu (S1.no)) Z4) (Zu (Zaa (J.tup (Zk (Zf (rd_loc (by rfl) rfl rfl rfl)) (Zk (Zf (rd_loc (by rfl) rfl rfl rfl)) Zg))))))
theorem ZjM: Def PySem.Challenge.rw_seer_k12_well_made_or_refused.row.prog w (head.heap_39 w.params) head.view_39 (looseW head.view_39 []) (ExcName.means s₀.heap) mg mb 158 2 ZeL:=by
  k_fill
  refine' Def.of (names:=[Str.ofString "function",Str.ofString "row",Str.ofString "many",Str.ofString "ahead",Str.ofString "argument"]) (n:=4) (room:=1) (g:=Zhn) (ho:=?ho) (hcd:=?hcd) (nd:=by decide) (hn:=by decide) (hbind:=?hb) (hkinds:=?hk) (hone:=?h1) (hco:=?z1) (hgen:=?z2) (hk:=?z3) (hbody:=?hbody)
  case ho=>k_is
  case z1=>rfl
  case z2=>rfl
  case z3=>rfl
  case hcd=>k_is
  case hb=>intro s xs hx;match xs,hx with | [x0,x1,x2,x3],_=>exact BindsTo.of_eq rfl
  case hk=>decide
  case h1=>decide +kernel
  case hbody=>
   intro dp un gd L outer h₀ hu clr hd1 hu1
   exact(Zv (ZV (Za8 (Zaw (Zz (Zf (rd_loc (by rfl) rfl rfl rfl)) (J.int _ _ _) Zbz) (Zaw (Zz (Zf (rd_loc (by rfl) rfl rfl rfl)) (Zaq (Za2 clr (by k_is) (by boot_by_name) (by decide) rfl rfl rfl rfl rfl) (Zk (Zf (rd_loc (by rfl) rfl rfl rfl)) Zg) ZaB) ZgT) ZbT))) (Zu (S1.no)) Z4) (Zv (ZV (Zz (Zaq (Za2 clr (by k_is) (by boot_by_name) (by decide) rfl rfl rfl rfl rfl) (Zk (Zf (rd_loc (by rfl) rfl rfl rfl)) Zg) ZaB) (Zt (Zf (rd_loc (by rfl) rfl rfl rfl)) (Zf (rd_loc (by rfl) rfl rfl rfl))) ZcX) (Zu (S1.no)) Z4) (Zu (Zco (Zaz (by decide) (by rfl) rfl rfl) (JI.seq (Zf (rd_loc (by rfl) rfl rfl rfl))) (Zu (Zao (Zag clr (nm_def clr (by k_is) rfl rfl rfl rfl) (by k_is) Zdg (by omega) (by omega) (Zk (Zf (rd_loc (by rfl) rfl rfl rfl)) (Zk (Zf (rd_loc (by rfl) rfl rfl rfl)) Zg)))))))))
theorem Zhv: Def PySem.Challenge.rw_seer_k12_well_made_or_refused.row.prog w (head.heap_39 w.params) head.view_39 (looseW head.view_39 []) (ExcName.means s₀.heap) mg mb 151 3 Zck:=by
  k_fill
  refine' Def.of (names:=[Str.ofString "statement",Str.ofString "many",Str.ofString "ahead"]) (n:=3) (room:=2) (g:=Zho) (ho:=?ho) (hcd:=?hcd) (nd:=by decide) (hn:=by decide) (hbind:=?hb) (hkinds:=?hk) (hone:=?h1) (hco:=?z1) (hgen:=?z2) (hk:=?z3) (hbody:=?hbody)
  case ho=>k_is
  case z1=>rfl
  case z2=>rfl
  case z3=>rfl
  case hcd=>k_is
  case hb=>intro s xs hx;match xs,hx with | [x0,x1,x2],_=>exact BindsTo.of_eq rfl
  case hk=>decide
  case h1=>decide +kernel
  case hbody=>
   intro dp un gd L outer h₀ hu clr hd1 hu1
   exact(Zu (ZV (Zz (Zt (Zf (rd_loc (by rfl) rfl rfl rfl)) (J.int _ _ _)) (J.str _ _ _) Zai) (Zu (Zao (Zag clr (nm_def clr (by k_is) rfl rfl rfl rfl) (by k_is) Zkp (by omega) (by omega) (Zk (Zt (Zf (rd_loc (by rfl) rfl rfl rfl)) (J.int _ _ _)) (Zk (Zt (Zf (rd_loc (by rfl) rfl rfl rfl)) (J.int _ _ _)) Zg))))) (Zu (ZV (Zz (Zt (Zf (rd_loc (by rfl) rfl rfl rfl)) (J.int _ _ _)) (J.str _ _ _) Zai) (Zu (Zao (Zag clr (nm_def clr (by k_is) rfl rfl rfl rfl) (by k_is) ZjM (by omega) (by omega) (Zk (Zt (Zf (rd_loc (by rfl) rfl rfl rfl)) (J.int _ _ _)) (Zk (Zt (Zf (rd_loc (by rfl) rfl rfl rfl)) (J.int _ _ _)) (Zk (Zf (rd_loc (by rfl) rfl rfl rfl)) (Zk (Zf (rd_loc (by rfl) rfl rfl rfl)) Zg))))))) (Zv (Zao (Zag clr (nm_def clr (by k_is) rfl rfl rfl rfl) (by k_is) Zdg (by omega) (by omega) (Zk (Zt (Zf (rd_loc (by rfl) rfl rfl rfl)) (J.int _ _ _)) (Zk (Zf (rd_loc (by rfl) rfl rfl rfl)) Zg)))) (Zu (ZV (Zz (Zt (Zf (rd_loc (by rfl) rfl rfl rfl)) (J.int _ _ _)) (J.tup (Zk (J.str _ _ _) (Zk (J.str _ _ _) Zg))) Zeo) (Zu (Zao (Zag clr (nm_def clr (by k_is) rfl rfl rfl rfl) (by k_is) Zhu (by omega) (by omega) (Zk (Zt (Zf (rd_loc (by rfl) rfl rfl rfl)) (J.int _ _ _)) Zg)))) Z4)))))))
theorem Zf2: ∀n:Nat,Def PySem.Challenge.rw_seer_k12_well_made_or_refused.row.prog w (head.heap_39 w.params) head.view_39 (looseW head.view_39 []) (ExcName.means s₀.heap) mg mb 144 (1*n+3) (Zb1 n)
 | 0=>Def.zero
 | n+1=>by
  have ih:=Zf2 n
  k_fill
  have e0:1*(n+1)+3=(1*n+3)+1:=by omega
  rw[e0]
  refine' Def.of (names:=[Str.ofString "body",Str.ofString "many",Str.ofString "fixed",Str.ofString "ahead",Str.ofString "statement",Str.ofString "inner"]) (n:=4) (room:=1*n+3) (g:=Zhp (Zb1 n)) (ho:=?ho) (hcd:=?hcd) (nd:=by decide) (hn:=by decide) (hbind:=?hb) (hkinds:=?hk) (hone:=?h1) (hco:=?z1) (hgen:=?z2) (hk:=?z3) (hbody:=?hbody)
  case ho=>k_is
  case z1=>rfl
  case z2=>rfl
  case z3=>rfl
  case hcd=>k_is
  case hb=>intro s xs hx;match xs,hx with | [x0,x1,x2,x3],_=>exact BindsTo.of_eq rfl
  case hk=>decide
  case h1=>decide +kernel
  case hbody=>
   intro dp un gd L outer h₀ hu clr hd1 hu1
   exact(Zu (Zco (Zaz (by decide) (by rfl) rfl rfl) (JI.seq (Zf (rd_loc (by rfl) rfl rfl rfl))) (Zu (ZV (Zz (Zt (Zf (rd_loc (by rfl) rfl rfl rfl)) (J.int _ _ _)) (J.str _ _ _) Zai) (Zu (Zao (Zag clr (nm_def clr (by k_is) rfl rfl rfl rfl) (by k_is) ZdQ (by omega) (by omega) (Zk (Zt (Zf (rd_loc (by rfl) rfl rfl rfl)) (J.int _ _ _)) (Zk (Zf (rd_loc (by rfl) rfl rfl rfl)) Zg))))) (Zu (ZV (Zz (Zt (Zf (rd_loc (by rfl) rfl rfl rfl)) (J.int _ _ _)) (J.tup (Zk (J.str _ _ _) (Zk (J.str _ _ _) Zg))) Zeo) (Zv (Zao (Zag clr (nm_def clr (by k_is) rfl rfl rfl rfl) (by k_is) ZdQ (by omega) (by omega) (Zk (Zt (Zf (rd_loc (by rfl) rfl rfl rfl)) (J.int _ _ _)) (Zk (Zf (rd_loc (by rfl) rfl rfl rfl)) Zg)))) (Zu (Zco (Zaz (by decide) (by rfl) rfl rfl) (JI.seq (Zea (Zf (rd_loc (by rfl) rfl rfl rfl)) (J.int _ _ _))) (Zu (Zao (Zag clr (nm_def clr (by k_is) rfl rfl rfl rfl) (by k_is) ih (by omega) (by omega) (Zk (Zf (rd_loc (by rfl) rfl rfl rfl)) (Zk (Zf (rd_loc (by rfl) rfl rfl rfl)) (Zk (Zf (rd_loc (by rfl) rfl rfl rfl)) (Zk (Zf (rd_loc (by rfl) rfl rfl rfl)) Zg)))))))))) (Zv (Zao (Zag clr (nm_def clr (by k_is) rfl rfl rfl rfl) (by k_is) Zf9 (by omega) (by omega) (Zk (Zt (Zf (rd_loc (by rfl) rfl rfl rfl)) (J.int _ _ _)) (Zk (Zf (rd_loc (by rfl) rfl rfl rfl)) (Zk (Zf (rd_loc (by rfl) rfl rfl rfl)) Zg))))) (Zu (Zao (Zag clr (nm_def clr (by k_is) rfl rfl rfl rfl) (by k_is) Zhv (by omega) (by omega) (Zk (Zf (rd_loc (by rfl) rfl rfl rfl)) (Zk (Zf (rd_loc (by rfl) rfl rfl rfl)) (Zk (Zf (rd_loc (by rfl) rfl rfl rfl)) Zg)))))))))))))
theorem check_body_d: Def PySem.Challenge.rw_seer_k12_well_made_or_refused.row.prog w (head.heap_39 w.params) head.view_39 (looseW head.view_39 []) (ExcName.means s₀.heap) mg mb 144 27 Zhq:=Zf2 24
theorem Zg4: Def PySem.Challenge.rw_seer_k12_well_made_or_refused.row.prog w (head.heap_39 w.params) head.view_39 (looseW head.view_39 []) (ExcName.means s₀.heap) mg mb 137 28 ZcN:=by
  k_fill
  refine' Def.of (names:=[Str.ofString "program",Str.ofString "number",Str.ofString "params",Str.ofString "many",Str.ofString "fixed",Str.ofString "ahead"]) (n:=2) (room:=27) (g:=ZeB) (ho:=?ho) (hcd:=?hcd) (nd:=by decide) (hn:=by decide) (hbind:=?hb) (hkinds:=?hk) (hone:=?h1) (hco:=?z1) (hgen:=?z2) (hk:=?z3) (hbody:=?hbody)
  case ho=>k_is
  case z1=>rfl
  case z2=>rfl
  case z3=>rfl
  case hcd=>k_is
  case hb=>intro s xs hx;match xs,hx with | [x0,x1],_=>exact BindsTo.of_eq rfl
  case hk=>decide
  case h1=>decide +kernel
  case hbody=>
   intro dp un gd L outer h₀ hu clr hd1 hu1
   exact(Zv (ZS (Zaz (by decide) (by rfl) rfl rfl) (Zt (Zt (Zf (rd_loc (by rfl) rfl rfl rfl)) (Zf (rd_loc (by rfl) rfl rfl rfl))) (J.int _ _ _))) (Zv (ZS (Zaz (by decide) (by rfl) rfl rfl) (Zt (Zt (Zf (rd_loc (by rfl) rfl rfl rfl)) (Zf (rd_loc (by rfl) rfl rfl rfl))) (J.int _ _ _))) (Zv (ZV (Za8 (Zaw (Zz (Zf (rd_loc (by rfl) rfl rfl rfl)) (J.int _ _ _) Zbz) (Zaw (Zz (Zf (rd_loc (by rfl) rfl rfl rfl)) (J.int _ _ _) Zbz) (Zaw (Zz (Zf (rd_loc (by rfl) rfl rfl rfl)) (Zf (rd_loc (by rfl) rfl rfl rfl)) ZbA) ZbT)))) (Zu (S1.no)) Z4) (Zv (ZS (Zaz (by decide) (by rfl) rfl rfl) (Zi1 (Zz (Zf (rd_loc (by rfl) rfl rfl rfl)) (ZG (Zaq (Za2 clr (by k_is) (by boot_by_name) (by decide) rfl rfl rfl rfl rfl) (Zk (Zf (rd_loc (by rfl) rfl rfl rfl)) Zg) ZaB) (J.int _ _ _) Zbp) Zai) (J.int _ _ _) (Zf (rd_loc (by rfl) rfl rfl rfl)))) (Zv (by refine Zgc (t:=100) (hsw:=by rfl) (hclos:=by with_unfolding_all rfl) (hy:=(Zaz (by decide) (by rfl) rfl rfl)) (hg:=?pg100) (hel:=?pe100) (hif:=?pi100) (hcell:=by decide) (hkind:=rfl) (hnames:=by decide) (hx:=rfl);(case pg100=>exact(JI.seq (ZeZ (Zf (rd_loc (by rfl) rfl rfl rfl)) JP.none (JP.some (Zf (rd_loc (by rfl) rfl rfl rfl))))));(case pe100=>intro C ρ;exact(Zt (Zf (rdc_own Zz5 rfl rfl rfl)) (J.int _ _ _)));(case pi100=>intro C ρ;exact JF.nil)) (Zu (Zao (Zag clr (nm_def clr (by k_is) rfl rfl rfl rfl) (by k_is) check_body_d (by omega) (by omega) (Zk (Zt (Zt (Zf (rd_loc (by rfl) rfl rfl rfl)) (Zf (rd_loc (by rfl) rfl rfl rfl))) (J.int _ _ _)) (Zk (Zf (rd_loc (by rfl) rfl rfl rfl)) (Zk (Zf (rd_loc (by rfl) rfl rfl rfl)) (Zk (Zf (rd_loc (by rfl) rfl rfl rfl)) Zg))))))))))))
theorem ZjS: Def PySem.Challenge.rw_seer_k12_well_made_or_refused.row.prog w (head.heap_39 w.params) head.view_39 (looseW head.view_39 []) (ExcName.means s₀.heap) mg mb 132 29 ZeP:=by
  k_fill
  refine' Def.of (names:=[Str.ofString "program",Str.ofString "number"]) (n:=1) (room:=28) (g:=ZeO) (ho:=?ho) (hcd:=?hcd) (nd:=by decide) (hn:=by decide) (hbind:=?hb) (hkinds:=?hk) (hone:=?h1) (hco:=?z1) (hgen:=?z2) (hk:=?z3) (hbody:=?hbody)
  case ho=>k_is
  case z1=>rfl
  case z2=>rfl
  case z3=>rfl
  case hcd=>k_is
  case hb=>intro s xs hx;match xs,hx with | [x0],_=>exact BindsTo.of_eq rfl
  case hk=>decide
  case h1=>decide +kernel
  case hbody=>
   intro dp un gd L outer h₀ hu clr hd1 hu1
   exact(Zv (ZV (Zz (Zaq (Za2 clr (by k_is) (by boot_by_name) (by decide) rfl rfl rfl rfl rfl) (Zk (Zf (rd_loc (by rfl) rfl rfl rfl)) Zg) ZaB) (J.int _ _ _) Zai) (Zu (S1.no)) Z4) (Zv (Zco (Zaz (by decide) (by rfl) rfl rfl) (JI.range (Za2 clr (by k_is) (by boot_by_name) (by decide) rfl rfl rfl rfl rfl) (Zk (Zaq (Za2 clr (by k_is) (by boot_by_name) (by decide) rfl rfl rfl rfl rfl) (Zk (Zf (rd_loc (by rfl) rfl rfl rfl)) Zg) ZaB) Zg)) (Zu (Zao (Zag clr (nm_def clr (by k_is) rfl rfl rfl rfl) (by k_is) Zg4 (by omega) (by omega) (Zk (Zf (rd_loc (by rfl) rfl rfl rfl)) (Zk (Zf (rd_loc (by rfl) rfl rfl rfl)) Zg)))))) (Zu (Zaa (J.bool _ _ _)))))
theorem Zf5: DefR PySem.Challenge.rw_seer_k12_well_made_or_refused.row.prog w (head.heap_39 w.params) head.view_39 (looseW head.view_39 []) (ExcName.means s₀.heap) mg mb 179 1 ZdS:=by
  k_fill
  refine' DefR.of (names:=[Str.ofString "one",Str.ofString "many"]) (n:=2) (room:=0) (g:=Zhr) (ho:=?ho) (hcd:=?hcd) (nd:=by decide) (hbind:=?hb) (hkinds:=?hk) (hnc:=?h1) (hc:=?h2) (hco:=?z1) (hgen:=?z2) (hk:=?z3) (hbody:=?hbody)
  case ho=>k_is
  case z1=>rfl
  case z2=>rfl
  case z3=>rfl
  case hcd=>k_is
  case hb=>intro s xs hx;match xs,hx with | [x0,x1],_=>exact BindsTo.of_eq rfl
  case hk=>decide
  case h1=>decide
  case h2=>intro n;rfl
  case hbody=>
   intro base dp un gd L outer h₀ hu clrB hd1 hu1
   have clr:=clrB.clr
   exact(ThS.head (Zbo (Zz (Zaq (Za2 clr (by k_is) (by boot_by_name) (by decide) rfl rfl rfl rfl rfl) (Zk (Zf (rd_loc (by rfl) rfl rfl rfl)) Zg) ZaB) (ZG (Zf (rd_loc (by rfl) rfl rfl rfl)) (J.int _ _ _) ZaK) ZcX) (ThS.head (Th1.raise clrB (by k_is) (by k_exc) PySem.F.excBase_ValueError (Zk (J.str _ _ _) Zg) rfl rfl rfl (by decide))) ThS.no))
theorem Zhk: DefR PySem.Challenge.rw_seer_k12_well_made_or_refused.row.prog w (head.heap_39 w.params) head.view_39 (looseW head.view_39 []) (ExcName.means s₀.heap) mg mb 186 1 ZeM:=by
  k_fill
  refine' DefR.of (names:=[Str.ofString "d"]) (n:=1) (room:=0) (g:=Zhg) (ho:=?ho) (hcd:=?hcd) (nd:=by decide) (hbind:=?hb) (hkinds:=?hk) (hnc:=?h1) (hc:=?h2) (hco:=?z1) (hgen:=?z2) (hk:=?z3) (hbody:=?hbody)
  case ho=>k_is
  case z1=>rfl
  case z2=>rfl
  case z3=>rfl
  case hcd=>k_is
  case hb=>intro s xs hx;match xs,hx with | [x0],_=>exact BindsTo.of_eq rfl
  case hk=>decide
  case h1=>decide
  case h2=>intro n;rfl
  case hbody=>
   intro base dp un gd L outer h₀ hu clrB hd1 hu1
   have clr:=clrB.clr
   exact(ThS.head (Zbo (Zz (Zf (rd_loc (by rfl) rfl rfl rfl)) (J.int _ _ _) Zbz) (ThS.head (Th1.raise clrB (by k_is) (by k_exc) PySem.F.excBase_ValueError (Zk (J.str _ _ _) Zg) rfl rfl rfl (by decide))) ThS.no))
theorem Zhc: DefR PySem.Challenge.rw_seer_k12_well_made_or_refused.row.prog w (head.heap_39 w.params) head.view_39 (looseW head.view_39 []) (ExcName.means s₀.heap) mg mb 165 2 Zdd:=by
  k_fill
  refine' DefR.of (names:=[Str.ofString "claim",Str.ofString "many"]) (n:=2) (room:=1) (g:=Zg9) (ho:=?ho) (hcd:=?hcd) (nd:=by decide) (hbind:=?hb) (hkinds:=?hk) (hnc:=?h1) (hc:=?h2) (hco:=?z1) (hgen:=?z2) (hk:=?z3) (hbody:=?hbody)
  case ho=>k_is
  case z1=>rfl
  case z2=>rfl
  case z3=>rfl
  case hcd=>k_is
  case hb=>intro s xs hx;match xs,hx with | [x0,x1],_=>exact BindsTo.of_eq rfl
  case hk=>decide
  case h1=>decide
  case h2=>intro n;rfl
  case hbody=>
   intro base dp un gd L outer h₀ hu clrB hd1 hu1
   have clr:=clrB.clr
   exact(ThS.cons (Th1.call clrB (nm_def clr (by k_is) rfl rfl rfl rfl) (by k_is) Zf5 (by omega) (by omega) (Zk (Zt (Zf (rd_loc (by rfl) rfl rfl rfl)) (J.int _ _ _)) (Zk (Zf (rd_loc (by rfl) rfl rfl rfl)) Zg))) (Zao (Zag clr (nm_def clr (by k_is) rfl rfl rfl rfl) (by k_is) Zdg (by omega) (by omega) (Zk (Zt (Zf (rd_loc (by rfl) rfl rfl rfl)) (J.int _ _ _)) (Zk (Zf (rd_loc (by rfl) rfl rfl rfl)) Zg)))) (ThS.head (Zbo (Zz (Zt (Zf (rd_loc (by rfl) rfl rfl rfl)) (J.int _ _ _)) (J.str _ _ _) Zai) (ThS.head (Th1.call clrB (nm_def clr (by k_is) rfl rfl rfl rfl) (by k_is) Zhk (by omega) (by omega) (Zk (Zt (Zf (rd_loc (by rfl) rfl rfl rfl)) (J.int _ _ _)) Zg))) ThS.no)))
theorem ZjN: DefR PySem.Challenge.rw_seer_k12_well_made_or_refused.row.prog w (head.heap_39 w.params) head.view_39 (looseW head.view_39 []) (ExcName.means s₀.heap) mg mb 172 1 ZeQ:=by
  k_fill
  refine' DefR.of (names:=[Str.ofString "x",Str.ofString "many",Str.ofString "fixed"]) (n:=3) (room:=0) (g:=Zhs) (ho:=?ho) (hcd:=?hcd) (nd:=by decide) (hbind:=?hb) (hkinds:=?hk) (hnc:=?h1) (hc:=?h2) (hco:=?z1) (hgen:=?z2) (hk:=?z3) (hbody:=?hbody)
  case ho=>k_is
  case z1=>rfl
  case z2=>rfl
  case z3=>rfl
  case hcd=>k_is
  case hb=>intro s xs hx;match xs,hx with | [x0,x1,x2],_=>exact BindsTo.of_eq rfl
  case hk=>decide
  case h1=>decide
  case h2=>intro n;rfl
  case hbody=>
   intro base dp un gd L outer h₀ hu clrB hd1 hu1
   have clr:=clrB.clr
   exact(ThS.cons (Zbo (Za8 (Zaw (Zz (Zf (rd_loc (by rfl) rfl rfl rfl)) (J.int _ _ _) Zbz) (Zaw (Zz (Zf (rd_loc (by rfl) rfl rfl rfl)) (Zf (rd_loc (by rfl) rfl rfl rfl)) ZbA) ZbT))) (ThS.head (Th1.raise clrB (by k_is) (by k_exc) PySem.F.excBase_ValueError (Zk (J.str _ _ _) Zg) rfl rfl rfl (by decide))) ThS.no) (ZV (Za8 (Zaw (Zz (Zf (rd_loc (by rfl) rfl rfl rfl)) (J.int _ _ _) Zbz) (Zaw (Zz (Zf (rd_loc (by rfl) rfl rfl rfl)) (Zf (rd_loc (by rfl) rfl rfl rfl)) ZbA) ZbT))) (Zu (S1.no)) Z4) (ThS.head (Zbo (Zz (Zf (rd_loc (by rfl) rfl rfl rfl)) (Zf (rd_loc (by rfl) rfl rfl rfl)) Zi2) (ThS.head (Th1.raise clrB (by k_is) (by k_exc) PySem.F.excBase_ValueError (Zk (J.str _ _ _) Zg) rfl rfl rfl (by decide))) ThS.no)))
theorem Zj3: DefR PySem.Challenge.rw_seer_k12_well_made_or_refused.row.prog w (head.heap_39 w.params) head.view_39 (looseW head.view_39 []) (ExcName.means s₀.heap) mg mb 118 2 Zgs:=by
  k_fill
  refine' DefR.of (names:=[Str.ofString "lo",Str.ofString "hi"]) (n:=2) (room:=1) (g:=ZhF) (ho:=?ho) (hcd:=?hcd) (nd:=by decide) (hbind:=?hb) (hkinds:=?hk) (hnc:=?h1) (hc:=?h2) (hco:=?z1) (hgen:=?z2) (hk:=?z3) (hbody:=?hbody)
  case ho=>k_is
  case z1=>rfl
  case z2=>rfl
  case z3=>rfl
  case hcd=>k_is
  case hb=>intro s xs hx;match xs,hx with | [x0,x1],_=>exact BindsTo.of_eq rfl
  case hk=>decide
  case h1=>decide
  case h2=>intro n;rfl
  case hbody=>
   intro base dp un gd L outer h₀ hu clrB hd1 hu1
   have clr:=clrB.clr
   exact(ThS.head (Zbo (Zbx (Zag clr (nm_def clr (by k_is) rfl rfl rfl rfl) (by k_is) ZhT (by omega) (by omega) (Zk (Zf (rd_loc (by rfl) rfl rfl rfl)) (Zk (Zf (rd_loc (by rfl) rfl rfl rfl)) Zg)))) (ThS.head (Th1.raise clrB (by k_is) (by k_exc) PySem.F.excBase_ValueError (Zk (J.str _ _ _) Zg) rfl rfl rfl (by decide))) ThS.no))
theorem ZjD: DefR PySem.Challenge.rw_seer_k12_well_made_or_refused.row.prog w (head.heap_39 w.params) head.view_39 (looseW head.view_39 []) (ExcName.means s₀.heap) mg mb 158 2 Zf4:=by
  k_fill
  refine' DefR.of (names:=[Str.ofString "function",Str.ofString "row",Str.ofString "many",Str.ofString "ahead",Str.ofString "argument"]) (n:=4) (room:=1) (g:=Zhh) (ho:=?ho) (hcd:=?hcd) (nd:=by decide) (hbind:=?hb) (hkinds:=?hk) (hnc:=?h1) (hc:=?h2) (hco:=?z1) (hgen:=?z2) (hk:=?z3) (hbody:=?hbody)
  case ho=>k_is
  case z1=>rfl
  case z2=>rfl
  case z3=>rfl
  case hcd=>k_is
  case hb=>intro s xs hx;match xs,hx with | [x0,x1,x2,x3],_=>exact BindsTo.of_eq rfl
  case hk=>decide
  case h1=>decide
  case h2=>intro n;rfl
  case hbody=>
   intro base dp un gd L outer h₀ hu clrB hd1 hu1
   have clr:=clrB.clr
   exact(ThS.cons (Zbo (Za8 (Zaw (Zz (Zf (rd_loc (by rfl) rfl rfl rfl)) (J.int _ _ _) Zbz) (Zaw (Zz (Zf (rd_loc (by rfl) rfl rfl rfl)) (Zaq (Za2 clr (by k_is) (by boot_by_name) (by decide) rfl rfl rfl rfl rfl) (Zk (Zf (rd_loc (by rfl) rfl rfl rfl)) Zg) ZaB) ZgT) ZbT))) (ThS.head (Th1.raise clrB (by k_is) (by k_exc) PySem.F.excBase_ValueError (Zk (J.str _ _ _) Zg) rfl rfl rfl (by decide))) ThS.no) (ZV (Za8 (Zaw (Zz (Zf (rd_loc (by rfl) rfl rfl rfl)) (J.int _ _ _) Zbz) (Zaw (Zz (Zf (rd_loc (by rfl) rfl rfl rfl)) (Zaq (Za2 clr (by k_is) (by boot_by_name) (by decide) rfl rfl rfl rfl rfl) (Zk (Zf (rd_loc (by rfl) rfl rfl rfl)) Zg) ZaB) ZgT) ZbT))) (Zu (S1.no)) Z4) (ThS.cons (Zbo (Zz (Zaq (Za2 clr (by k_is) (by boot_by_name) (by decide) rfl rfl rfl rfl rfl) (Zk (Zf (rd_loc (by rfl) rfl rfl rfl)) Zg) ZaB) (Zt (Zf (rd_loc (by rfl) rfl rfl rfl)) (Zf (rd_loc (by rfl) rfl rfl rfl))) ZcX) (ThS.head (Th1.raise clrB (by k_is) (by k_exc) PySem.F.excBase_ValueError (Zk (J.str _ _ _) Zg) rfl rfl rfl (by decide))) ThS.no) (ZV (Zz (Zaq (Za2 clr (by k_is) (by boot_by_name) (by decide) rfl rfl rfl rfl rfl) (Zk (Zf (rd_loc (by rfl) rfl rfl rfl)) Zg) ZaB) (Zt (Zf (rd_loc (by rfl) rfl rfl rfl)) (Zf (rd_loc (by rfl) rfl rfl rfl))) ZcX) (Zu (S1.no)) Z4) (ThS.head (Ze2 (Zaz (by decide) (by rfl) rfl rfl) (JI.seq (Zf (rd_loc (by rfl) rfl rfl rfl))) (ThS.head (Th1.call clrB (nm_def clr (by k_is) rfl rfl rfl rfl) (by k_is) Zf5 (by omega) (by omega) (Zk (Zf (rd_loc (by rfl) rfl rfl rfl)) (Zk (Zf (rd_loc (by rfl) rfl rfl rfl)) Zg)))) (Zu (Zao (Zag clr (nm_def clr (by k_is) rfl rfl rfl rfl) (by k_is) Zdg (by omega) (by omega) (Zk (Zf (rd_loc (by rfl) rfl rfl rfl)) (Zk (Zf (rd_loc (by rfl) rfl rfl rfl)) Zg)))))))))
theorem ZjE: DefR PySem.Challenge.rw_seer_k12_well_made_or_refused.row.prog w (head.heap_39 w.params) head.view_39 (looseW head.view_39 []) (ExcName.means s₀.heap) mg mb 151 3 ZeN:=by
  k_fill
  refine' DefR.of (names:=[Str.ofString "statement",Str.ofString "many",Str.ofString "ahead"]) (n:=3) (room:=2) (g:=Zhi) (ho:=?ho) (hcd:=?hcd) (nd:=by decide) (hbind:=?hb) (hkinds:=?hk) (hnc:=?h1) (hc:=?h2) (hco:=?z1) (hgen:=?z2) (hk:=?z3) (hbody:=?hbody)
  case ho=>k_is
  case z1=>rfl
  case z2=>rfl
  case z3=>rfl
  case hcd=>k_is
  case hb=>intro s xs hx;match xs,hx with | [x0,x1,x2],_=>exact BindsTo.of_eq rfl
  case hk=>decide
  case h1=>decide
  case h2=>intro n;rfl
  case hbody=>
   intro base dp un gd L outer h₀ hu clrB hd1 hu1
   have clr:=clrB.clr
   exact(ThS.head (Zbo (Zz (Zt (Zf (rd_loc (by rfl) rfl rfl rfl)) (J.int _ _ _)) (J.str _ _ _) Zai) (ThS.head (Th1.call clrB (nm_def clr (by k_is) rfl rfl rfl rfl) (by k_is) Zj3 (by omega) (by omega) (Zk (Zt (Zf (rd_loc (by rfl) rfl rfl rfl)) (J.int _ _ _)) (Zk (Zt (Zf (rd_loc (by rfl) rfl rfl rfl)) (J.int _ _ _)) Zg)))) (ThS.head (Zbo (Zz (Zt (Zf (rd_loc (by rfl) rfl rfl rfl)) (J.int _ _ _)) (J.str _ _ _) Zai) (ThS.head (Th1.call clrB (nm_def clr (by k_is) rfl rfl rfl rfl) (by k_is) ZjD (by omega) (by omega) (Zk (Zt (Zf (rd_loc (by rfl) rfl rfl rfl)) (J.int _ _ _)) (Zk (Zt (Zf (rd_loc (by rfl) rfl rfl rfl)) (J.int _ _ _)) (Zk (Zf (rd_loc (by rfl) rfl rfl rfl)) (Zk (Zf (rd_loc (by rfl) rfl rfl rfl)) Zg)))))) (ThS.cons (Th1.call clrB (nm_def clr (by k_is) rfl rfl rfl rfl) (by k_is) Zf5 (by omega) (by omega) (Zk (Zt (Zf (rd_loc (by rfl) rfl rfl rfl)) (J.int _ _ _)) (Zk (Zf (rd_loc (by rfl) rfl rfl rfl)) Zg))) (Zao (Zag clr (nm_def clr (by k_is) rfl rfl rfl rfl) (by k_is) Zdg (by omega) (by omega) (Zk (Zt (Zf (rd_loc (by rfl) rfl rfl rfl)) (J.int _ _ _)) (Zk (Zf (rd_loc (by rfl) rfl rfl rfl)) Zg)))) (ThS.head (Zbo (Zz (Zt (Zf (rd_loc (by rfl) rfl rfl rfl)) (J.int _ _ _)) (J.tup (Zk (J.str _ _ _) (Zk (J.str _ _ _) Zg))) Zeo) (ThS.head (Th1.call clrB (nm_def clr (by k_is) rfl rfl rfl rfl) (by k_is) Zhk (by omega) (by omega) (Zk (Zt (Zf (rd_loc (by rfl) rfl rfl rfl)) (J.int _ _ _)) Zg))) ThS.no)))))))
theorem Zhd: ∀n:Nat,DefR PySem.Challenge.rw_seer_k12_well_made_or_refused.row.prog w (head.heap_39 w.params) head.view_39 (looseW head.view_39 []) (ExcName.means s₀.heap) mg mb 144 (n+3) (Zde n)
 | 0=>DefR.zero
 | n+1=>by
  have ih:=Zf2 (w:=w) (s₀:=s₀) (mg:=mg) (mb:=mb) n
  have ihR:=Zhd n
  k_fill
  have e0:n+1+3=(n+3)+1:=by omega
  rw[e0]
  refine' DefR.of (names:=[Str.ofString "body",Str.ofString "many",Str.ofString "fixed",Str.ofString "ahead",Str.ofString "statement",Str.ofString "inner"]) (n:=4) (room:=n+3) (g:=Zhj (Zb1 n) (Zde n)) (ho:=?ho) (hcd:=?hcd) (nd:=by decide) (hbind:=?hb) (hkinds:=?hk) (hnc:=?h1) (hc:=?h2) (hco:=?z1) (hgen:=?z2) (hk:=?z3) (hbody:=?hbody)
  case ho=>k_is
  case z1=>rfl
  case z2=>rfl
  case z3=>rfl
  case hcd=>k_is
  case hb=>intro s xs hx;match xs,hx with | [x0,x1,x2,x3],_=>exact BindsTo.of_eq rfl
  case hk=>decide
  case h1=>decide
  case h2=>intro n;rfl
  case hbody=>
   intro base dp un gd L outer h₀ hu clrB hd1 hu1
   have clr:=clrB.clr
   exact(ThS.head (Ze2 (Zaz (by decide) (by rfl) rfl rfl) (JI.seq (Zf (rd_loc (by rfl) rfl rfl rfl))) (ThS.head (Zbo (Zz (Zt (Zf (rd_loc (by rfl) rfl rfl rfl)) (J.int _ _ _)) (J.str _ _ _) Zai) (ThS.head (Th1.call clrB (nm_def clr (by k_is) rfl rfl rfl rfl) (by k_is) Zhc (by omega) (by omega) (Zk (Zt (Zf (rd_loc (by rfl) rfl rfl rfl)) (J.int _ _ _)) (Zk (Zf (rd_loc (by rfl) rfl rfl rfl)) Zg)))) (ThS.head (Zbo (Zz (Zt (Zf (rd_loc (by rfl) rfl rfl rfl)) (J.int _ _ _)) (J.tup (Zk (J.str _ _ _) (Zk (J.str _ _ _) Zg))) Zeo) (ThS.cons (Th1.call clrB (nm_def clr (by k_is) rfl rfl rfl rfl) (by k_is) Zhc (by omega) (by omega) (Zk (Zt (Zf (rd_loc (by rfl) rfl rfl rfl)) (J.int _ _ _)) (Zk (Zf (rd_loc (by rfl) rfl rfl rfl)) Zg))) (Zao (Zag clr (nm_def clr (by k_is) rfl rfl rfl rfl) (by k_is) ZdQ (by omega) (by omega) (Zk (Zt (Zf (rd_loc (by rfl) rfl rfl rfl)) (J.int _ _ _)) (Zk (Zf (rd_loc (by rfl) rfl rfl rfl)) Zg)))) (ThS.head (Ze2 (Zaz (by decide) (by rfl) rfl rfl) (JI.seq (Zea (Zf (rd_loc (by rfl) rfl rfl rfl)) (J.int _ _ _))) (ThS.head (Th1.call clrB (nm_def clr (by k_is) rfl rfl rfl rfl) (by k_is) ihR (by omega) (by omega) (Zk (Zf (rd_loc (by rfl) rfl rfl rfl)) (Zk (Zf (rd_loc (by rfl) rfl rfl rfl)) (Zk (Zf (rd_loc (by rfl) rfl rfl rfl)) (Zk (Zf (rd_loc (by rfl) rfl rfl rfl)) Zg)))))) (Zu (Zao (Zag clr (nm_def clr (by k_is) rfl rfl rfl rfl) (by k_is) ih (by omega) (by omega) (Zk (Zf (rd_loc (by rfl) rfl rfl rfl)) (Zk (Zf (rd_loc (by rfl) rfl rfl rfl)) (Zk (Zf (rd_loc (by rfl) rfl rfl rfl)) (Zk (Zf (rd_loc (by rfl) rfl rfl rfl)) Zg)))))))))) (ThS.cons (Th1.call clrB (nm_def clr (by k_is) rfl rfl rfl rfl) (by k_is) ZjN (by omega) (by omega) (Zk (Zt (Zf (rd_loc (by rfl) rfl rfl rfl)) (J.int _ _ _)) (Zk (Zf (rd_loc (by rfl) rfl rfl rfl)) (Zk (Zf (rd_loc (by rfl) rfl rfl rfl)) Zg)))) (Zao (Zag clr (nm_def clr (by k_is) rfl rfl rfl rfl) (by k_is) Zf9 (by omega) (by omega) (Zk (Zt (Zf (rd_loc (by rfl) rfl rfl rfl)) (J.int _ _ _)) (Zk (Zf (rd_loc (by rfl) rfl rfl rfl)) (Zk (Zf (rd_loc (by rfl) rfl rfl rfl)) Zg))))) (ThS.head (Th1.call clrB (nm_def clr (by k_is) rfl rfl rfl rfl) (by k_is) ZjE (by omega) (by omega) (Zk (Zf (rd_loc (by rfl) rfl rfl rfl)) (Zk (Zf (rd_loc (by rfl) rfl rfl rfl)) (Zk (Zf (rd_loc (by rfl) rfl rfl rfl)) Zg)))))))))) (Zu (ZV (Zz (Zt (Zf (rd_loc (by rfl) rfl rfl rfl)) (J.int _ _ _)) (J.str _ _ _) Zai) (Zu (Zao (Zag clr (nm_def clr (by k_is) rfl rfl rfl rfl) (by k_is) ZdQ (by omega) (by omega) (Zk (Zt (Zf (rd_loc (by rfl) rfl rfl rfl)) (J.int _ _ _)) (Zk (Zf (rd_loc (by rfl) rfl rfl rfl)) Zg))))) (Zu (ZV (Zz (Zt (Zf (rd_loc (by rfl) rfl rfl rfl)) (J.int _ _ _)) (J.tup (Zk (J.str _ _ _) (Zk (J.str _ _ _) Zg))) Zeo) (Zv (Zao (Zag clr (nm_def clr (by k_is) rfl rfl rfl rfl) (by k_is) ZdQ (by omega) (by omega) (Zk (Zt (Zf (rd_loc (by rfl) rfl rfl rfl)) (J.int _ _ _)) (Zk (Zf (rd_loc (by rfl) rfl rfl rfl)) Zg)))) (Zu (Zco (Zaz (by decide) (by rfl) rfl rfl) (JI.seq (Zea (Zf (rd_loc (by rfl) rfl rfl rfl)) (J.int _ _ _))) (Zu (Zao (Zag clr (nm_def clr (by k_is) rfl rfl rfl rfl) (by k_is) ih (by omega) (by omega) (Zk (Zf (rd_loc (by rfl) rfl rfl rfl)) (Zk (Zf (rd_loc (by rfl) rfl rfl rfl)) (Zk (Zf (rd_loc (by rfl) rfl rfl rfl)) (Zk (Zf (rd_loc (by rfl) rfl rfl rfl)) Zg)))))))))) (Zv (Zao (Zag clr (nm_def clr (by k_is) rfl rfl rfl rfl) (by k_is) Zf9 (by omega) (by omega) (Zk (Zt (Zf (rd_loc (by rfl) rfl rfl rfl)) (J.int _ _ _)) (Zk (Zf (rd_loc (by rfl) rfl rfl rfl)) (Zk (Zf (rd_loc (by rfl) rfl rfl rfl)) Zg))))) (Zu (Zao (Zag clr (nm_def clr (by k_is) rfl rfl rfl rfl) (by k_is) Zhv (by omega) (by omega) (Zk (Zf (rd_loc (by rfl) rfl rfl rfl)) (Zk (Zf (rd_loc (by rfl) rfl rfl rfl)) (Zk (Zf (rd_loc (by rfl) rfl rfl rfl)) Zg)))))))))))))
theorem check_body_rd: DefR PySem.Challenge.rw_seer_k12_well_made_or_refused.row.prog w (head.heap_39 w.params) head.view_39 (looseW head.view_39 []) (ExcName.means s₀.heap) mg mb 144 27 Zht:=Zhd 24
theorem Zjn: DefR PySem.Challenge.rw_seer_k12_well_made_or_refused.row.prog w (head.heap_39 w.params) head.view_39 (looseW head.view_39 []) (ExcName.means s₀.heap) mg mb 137 28 Zcj:=by
  k_fill
  refine' DefR.of (names:=[Str.ofString "program",Str.ofString "number",Str.ofString "params",Str.ofString "many",Str.ofString "fixed",Str.ofString "ahead"]) (n:=2) (room:=27) (g:=Zcw) (ho:=?ho) (hcd:=?hcd) (nd:=by decide) (hbind:=?hb) (hkinds:=?hk) (hnc:=?h1) (hc:=?h2) (hco:=?z1) (hgen:=?z2) (hk:=?z3) (hbody:=?hbody)
  case ho=>k_is
  case z1=>rfl
  case z2=>rfl
  case z3=>rfl
  case hcd=>k_is
  case hb=>intro s xs hx;match xs,hx with | [x0,x1],_=>exact BindsTo.of_eq rfl
  case hk=>decide
  case h1=>decide
  case h2=>intro n;rfl
  case hbody=>
   intro base dp un gd L outer h₀ hu clrB hd1 hu1
   have clr:=clrB.clr
   exact(ThS.cons (Th1.no) (ZS (Zaz (by decide) (by rfl) rfl rfl) (Zt (Zt (Zf (rd_loc (by rfl) rfl rfl rfl)) (Zf (rd_loc (by rfl) rfl rfl rfl))) (J.int _ _ _))) (ThS.cons (Th1.no) (ZS (Zaz (by decide) (by rfl) rfl rfl) (Zt (Zt (Zf (rd_loc (by rfl) rfl rfl rfl)) (Zf (rd_loc (by rfl) rfl rfl rfl))) (J.int _ _ _))) (ThS.cons (Zbo (Za8 (Zaw (Zz (Zf (rd_loc (by rfl) rfl rfl rfl)) (J.int _ _ _) Zbz) (Zaw (Zz (Zf (rd_loc (by rfl) rfl rfl rfl)) (J.int _ _ _) Zbz) (Zaw (Zz (Zf (rd_loc (by rfl) rfl rfl rfl)) (Zf (rd_loc (by rfl) rfl rfl rfl)) ZbA) ZbT)))) (ThS.head (Th1.raise clrB (by k_is) (by k_exc) PySem.F.excBase_ValueError (Zk (J.str _ _ _) Zg) rfl rfl rfl (by decide))) ThS.no) (ZV (Za8 (Zaw (Zz (Zf (rd_loc (by rfl) rfl rfl rfl)) (J.int _ _ _) Zbz) (Zaw (Zz (Zf (rd_loc (by rfl) rfl rfl rfl)) (J.int _ _ _) Zbz) (Zaw (Zz (Zf (rd_loc (by rfl) rfl rfl rfl)) (Zf (rd_loc (by rfl) rfl rfl rfl)) ZbA) ZbT)))) (Zu (S1.no)) Z4) (ThS.cons (Th1.no) (ZS (Zaz (by decide) (by rfl) rfl rfl) (Zi1 (Zz (Zf (rd_loc (by rfl) rfl rfl rfl)) (ZG (Zaq (Za2 clr (by k_is) (by boot_by_name) (by decide) rfl rfl rfl rfl rfl) (Zk (Zf (rd_loc (by rfl) rfl rfl rfl)) Zg) ZaB) (J.int _ _ _) Zbp) Zai) (J.int _ _ _) (Zf (rd_loc (by rfl) rfl rfl rfl)))) (ThS.cons (Th1.no) (by refine Zgc (t:=100) (hsw:=by rfl) (hclos:=by with_unfolding_all rfl) (hy:=(Zaz (by decide) (by rfl) rfl rfl)) (hg:=?pg100) (hel:=?pe100) (hif:=?pi100) (hcell:=by decide) (hkind:=rfl) (hnames:=by decide) (hx:=rfl);(case pg100=>exact(JI.seq (ZeZ (Zf (rd_loc (by rfl) rfl rfl rfl)) JP.none (JP.some (Zf (rd_loc (by rfl) rfl rfl rfl))))));(case pe100=>intro C ρ;exact(Zt (Zf (rdc_own Zz5 rfl rfl rfl)) (J.int _ _ _)));(case pi100=>intro C ρ;exact JF.nil)) (ThS.head (Th1.call clrB (nm_def clr (by k_is) rfl rfl rfl rfl) (by k_is) check_body_rd (by omega) (by omega) (Zk (Zt (Zt (Zf (rd_loc (by rfl) rfl rfl rfl)) (Zf (rd_loc (by rfl) rfl rfl rfl))) (J.int _ _ _)) (Zk (Zf (rd_loc (by rfl) rfl rfl rfl)) (Zk (Zf (rd_loc (by rfl) rfl rfl rfl)) (Zk (Zf (rd_loc (by rfl) rfl rfl rfl)) Zg)))))))))))
theorem Zhw: DefR PySem.Challenge.rw_seer_k12_well_made_or_refused.row.prog w (head.heap_39 w.params) head.view_39 (looseW head.view_39 []) (ExcName.means s₀.heap) mg mb 132 29 Zcl:=by
  k_fill
  refine' DefR.of (names:=[Str.ofString "program",Str.ofString "number"]) (n:=1) (room:=28) (g:=Zcy) (ho:=?ho) (hcd:=?hcd) (nd:=by decide) (hbind:=?hb) (hkinds:=?hk) (hnc:=?h1) (hc:=?h2) (hco:=?z1) (hgen:=?z2) (hk:=?z3) (hbody:=?hbody)
  case ho=>k_is
  case z1=>rfl
  case z2=>rfl
  case z3=>rfl
  case hcd=>k_is
  case hb=>intro s xs hx;match xs,hx with | [x0],_=>exact BindsTo.of_eq rfl
  case hk=>decide
  case h1=>decide
  case h2=>intro n;rfl
  case hbody=>
   intro base dp un gd L outer h₀ hu clrB hd1 hu1
   have clr:=clrB.clr
   exact(ThS.cons (Zbo (Zz (Zaq (Za2 clr (by k_is) (by boot_by_name) (by decide) rfl rfl rfl rfl rfl) (Zk (Zf (rd_loc (by rfl) rfl rfl rfl)) Zg) ZaB) (J.int _ _ _) Zai) (ThS.head (Th1.raise clrB (by k_is) (by k_exc) PySem.F.excBase_ValueError (Zk (J.str _ _ _) Zg) rfl rfl rfl (by decide))) ThS.no) (ZV (Zz (Zaq (Za2 clr (by k_is) (by boot_by_name) (by decide) rfl rfl rfl rfl rfl) (Zk (Zf (rd_loc (by rfl) rfl rfl rfl)) Zg) ZaB) (J.int _ _ _) Zai) (Zu (S1.no)) Z4) (ThS.head (Ze2 (Zaz (by decide) (by rfl) rfl rfl) (JI.range (Za2 clr (by k_is) (by boot_by_name) (by decide) rfl rfl rfl rfl rfl) (Zk (Zaq (Za2 clr (by k_is) (by boot_by_name) (by decide) rfl rfl rfl rfl rfl) (Zk (Zf (rd_loc (by rfl) rfl rfl rfl)) Zg) ZaB) Zg)) (ThS.head (Th1.call clrB (nm_def clr (by k_is) rfl rfl rfl rfl) (by k_is) Zjn (by omega) (by omega) (Zk (Zf (rd_loc (by rfl) rfl rfl rfl)) (Zk (Zf (rd_loc (by rfl) rfl rfl rfl)) Zg)))) (Zu (Zao (Zag clr (nm_def clr (by k_is) rfl rfl rfl rfl) (by k_is) Zg4 (by omega) (by omega) (Zk (Zf (rd_loc (by rfl) rfl rfl rfl)) (Zk (Zf (rd_loc (by rfl) rfl rfl rfl)) Zg))))))))
end
end L
end
section
open PySem PySem.W PySem.Calls PyProof.Rows PM
namespace L
section
variable {w:World} {s₀:Shared} {mg mb:Str→Option Value}
local macro_rules|`(tactic|walk_at "pad 0")=>`(tactic|skip)
local macro_rules|`(tactic|walk_at "pad 1")=>`(tactic|skip)
local macro_rules|`(tactic|walk_at "pad 2")=>`(tactic|skip)
local macro_rules|`(tactic|walk_at "pad 3")=>`(tactic|skip)
local macro_rules|`(tactic|walk_at "pad 4")=>`(tactic|skip)
local macro_rules|`(tactic|walk_at "pad 5")=>`(tactic|skip)
local macro_rules|`(tactic|walk_at "pad 6")=>`(tactic|skip)
local macro_rules|`(tactic|walk_at "pad 7")=>`(tactic|skip)
local macro_rules|`(tactic|walk_at "pad 8")=>`(tactic|skip)
local macro_rules|`(tactic|walk_at "pad 9")=>`(tactic|skip)
local macro_rules|`(tactic|walk_at "pad 10")=>`(tactic|skip)
local macro_rules|`(tactic|walk_at "pad 11")=>`(tactic|skip)
local macro_rules|`(tactic|walk_at "call builtin:isinstance")=>`(tactic|first|((k_here; (with_reducible show wpAny _ _ (call _ [Value.ref _, _]) _ _ _); (with_reducible rename My.OeCls _ _ => zc'); (k_dflt (refine' kia_one (My.kitx_of ?ka ?kb ?kc ?k5 ?k6 ?k7 ?k8 ?k9) ?X ?I ?ee ?nb ?_; (case I => (refine' My.of_news ?N9 ?m9 ?c9; (case N9 => k_asm); (case m9 => k_mem); (case c9 => assumption))); (case X => k_in); (case ee => kit_is); (case nb => kit_nb); (case ka => k_is); (case kb => k_is); (case kc => k_is); (case k5 => k_is); (case k6 => k_is); (case k7 => k_is); (case k8 => k_is); (case k9 => k_is); k_whole; intro _))))|((k_here; (with_reducible show wpAny _ _ (call _ [Value.ref _, Value.ref _]) _ _ _); (with_reducible rename My.OeCls _ _ => zc'); (k_dflt (refine' kia_tup (My.kitx_of ?ka ?kb ?kc ?k5 ?k6 ?k7 ?k8 ?k9) ?X ?I ?p ?ee ?nb ?_; (case I => (refine' My.of_news ?N9 ?m9 ?c9; (case N9 => k_asm); (case m9 => k_mem); (case c9 => assumption))); (case p => kit_tp); (case X => k_in); (case ee => kit_is); (case nb => kit_nb); (case ka => k_is); (case kb => k_is); (case kc => k_is); (case k5 => k_is); (case k6 => k_is); (case k7 => k_is); (case k8 => k_is); (case k9 => k_is); k_whole; intro _)))))
theorem ZjF: DefT PySem.Challenge.rw_seer_k12_well_made_or_refused.row.prog w (head.heap_39 w.params) head.view_39 (looseW head.view_39 []) (ExcName.means s₀.heap) mg mb 294 40 Zdf:=by
 k_fill
 refine' DefT.of (names:=[Str.ofString "_law_program_here",Str.ofString "_law_told"]) (n:=1) (room:=39) (g:=ZeJ) (ho:=?ho) (hcd:=?hcd) (nd:=by decide) (hbind:=?hb) (hkinds:=?hk) (hnc:=?h1) (hc:=?h2) (hco:=?z1) (hgen:=?z2) (hk:=?z3) (hbody:=?hbody)
 case ho=>k_is
 case z1=>rfl
 case z2=>rfl
 case z3=>rfl
 case hcd=>k_is
 case hb=>intro s xs hx;match xs,hx with | [x0],_=>exact BindsTo.of_eq rfl
 case hk=>decide
 case h1=>decide
 case h2=>intro n;rfl
 case hbody=>
  intro base dp un gd L env L₀ h₀ hu hf XB TB D clr hd1 hu1 W ρ H s Q E v H' r e post
  obtain⟨v0,hv0,e⟩:=Zz0.mp e
  refine wpAny_execs_cons ((ZS (i:=1) (Zaz (by decide) (by rfl) rfl rfl) (J.tup (Zk (J.str _ _ _) (Zk (J.bool _ _ _) Zg)))) W ρ H [] s _ E (none,upd ρ 1 (.tup [.str (Str.ofString ""),.bool false]),H) r (by simp[Zy,ZY,eCons,Zo,ZbH,eNil,Zav]) fun W1 k1 t1 l1 r1=>?_)
  refine wpAny_execs_cons (wpAny_Try_except ?_)
  have hv1:upd ρ 1 (.tup [.str (Str.ofString ""),.bool false]) 0=some v0:=by simp[upd,hv0]
  generalize upd ρ 1 (.tup [.str (Str.ofString ""),.bool false])=ρ1 at r1 hv1
  cases er:Zcl [v0] H with
  | none=>
   rw[er]at e
   obtain⟨⟨vt,Ht⟩,e2,e3⟩:=Zz1.mp e
   cases e3
   refine(Zu (ZS (i:=1) (Zaz (by decide) (by rfl) rfl rfl) (J.tup (Zk (J.str _ _ _) (Zk (Zag clr.clr (nm_def clr.clr (by k_is) rfl rfl rfl rfl) (by k_is) ZjS (by omega) (by omega) (Zk (Zf (rd_loc (i:=0) (by rfl) rfl rfl rfl)) Zg)) Zg))))) W1 ρ1 H [] _ _ _ (none,upd ρ1 1 (.tup [.str (Str.ofString ""),vt]),Ht) r1 (by simp[Zy,ZY,eCons,Zo,Ze,eVar,eNil,Zav,hv1,e2]) fun W2 k2 t2 l2 r2=>?_
   refine wpAny_execs_nil ?_
   refine(Zu (Zaa (Zf (rd_loc (i:=1) (by rfl) rfl rfl rfl)))) W2 _ Ht [] _ _ _ (some (.tup [.str (Str.ofString ""),vt]),upd ρ1 1 (.tup [.str (Str.ofString ""),vt]),Ht) r2 (by simp[ZQ,eVar,upd]) fun W3 k3 t3 x l3 r3 x3=>?_
   obtain⟨m3,c3,led3,r3⟩:=r3
   exact post W3 x h₀ k3 t3 m3 led3 ((l1.trans l2).trans l3) KtsTurn.refl r3.F r3.N r3.R x3
  | some q=>
   obtain⟨C,H1⟩:=q
   rw[er]at e
   obtain⟨nm,hnm,e3⟩:=Zz1.mp e
   cases e3
   refine wpAny_execs_cons (wpAny_Assign_Name (wpAny_Tuple ?_) rfl)
   refine wpAny_items_cons ((J.str _ _ _) W1 ρ1 H [] _ _ _ _ _ r1 rfl fun W2 k2 t2 x l2 r2 x2=>?_) rfl
   refine wpAny_items_cons (ZjJ clr (nm_def clr.clr (by k_is) rfl rfl rfl rfl) (by k_is) Zhw (by omega) (by omega) (Zk (Zf (rd_loc (i:=0) (by rfl) rfl rfl rfl)) Zg) rfl (by intro _;rfl) W2 ρ1 H [] _ _ _ C H1 r2 (by simp[rCall,eCons,eVar,eNil,hv1,er]) fun e hh tk' th=>?_) rfl
   obtain⟨W',l',G,m,t,vs,news,F2,R2,U2,hr⟩:=th
   obtain⟨_,_,_,_,_,_,A₀',eA,eE,B,X,T,hk⟩:=clr
   have B₂:Below { handled:=none,depth:=dp,frames:=some [env],guards:=gd,units:=un } base [env] h₀:=⟨rfl,B.stays,B.frames⟩
   have ef:[env].filterMap (·.frame)=[L₀]:=by simp[hf]
   rw[←ef]at D post
   refine Zhz (A₀:={ handled:=none,depth:=dp,frames:=some [env],guards:=gd,units:=un }) (L:=L) (news:=news) R2 F2 B₂ U2 fun B h' y=>?_
   have hcs:=ZbR hnm
   simp only[cls12,List.mem_cons,Prod.mk.injEq,List.not_mem_nil,or_false]at hcs
   clear hnm er hv1
   rcases hcs with⟨rfl,rfl⟩ | ⟨rfl,rfl⟩ | ⟨rfl,rfl⟩ | ⟨rfl,rfl⟩ | ⟨rfl,rfl⟩ | ⟨rfl,rfl⟩ | ⟨rfl,rfl⟩
   all_goals (repeat (first | refine Lying.take y XB TB D (by k_is) (by kts_isx) (by kts_isx) (by k_is) ?_ rfl rfl rfl (by decide) | refine Zj1 y XB TB (by k_is) (by kts_isx) (by kts_isx) (by k_is) ?_ rfl rfl (by decide)))
   all_goals (intro h9 g9 n9 tk9 T9 F9 N9 G9 M9 K9 X9 P9 D9)
   all_goals (obtain⟨oe,hoe,NN⟩:=My.got_more G9 N9 M9)
   all_goals (clear N9 M9 G9 D9 R2 U2 F2 r1 r2 r B₂ B X T XB TB D y)
   all_goals (w_strict (k_steps;(rename News _ _ _ _=>n8);(rename Fr _ _ _ _=>f8);(exact ZlB n8 rfl (fun q hq=>Zy3 _ (Zz2 _ hq)) hr fun W9 l9 M9 hr9 v9=>post W9 _ g9 _ _ _ _ (((l1.trans l2).trans l').trans l9) T9 f8 M9 hr9 v9)))
theorem Zjp: DefT PySem.Challenge.rw_seer_k12_well_made_or_refused.row.prog w (head.heap_39 w.params) head.view_39 (looseW head.view_39 []) (ExcName.means s₀.heap) mg mb 301 40 ZeC:=by
 k_fill
 refine' DefT.of (names:=[Str.ofString "_law_program_here",Str.ofString "_law_under"]) (n:=1) (room:=39) (g:=Zfz) (ho:=?ho) (hcd:=?hcd) (nd:=by decide) (hbind:=?hb) (hkinds:=?hk) (hnc:=?h1) (hc:=?h2) (hco:=?z1) (hgen:=?z2) (hk:=?z3) (hbody:=?hbody)
 case ho=>k_is
 case z1=>rfl
 case z2=>rfl
 case z3=>rfl
 case hcd=>k_is
 case hb=>intro s xs hx;match xs,hx with | [x0],_=>exact BindsTo.of_eq rfl
 case hk=>decide
 case h1=>decide
 case h2=>intro n;rfl
 case hbody=>
  intro base dp un gd L env L₀ h₀ hu hf XB TB D clr hd1 hu1 W ρ H s Q E v H' r e post
  obtain⟨v0,hv0,e⟩:=Zz0.mp e
  obtain⟨⟨C,H1⟩,er,e⟩:=Zz0.mp e
  obtain⟨nm,hnm,e3⟩:=Zz1.mp e
  cases e3
  refine wpAny_execs_cons ((ZS (i:=1) (Zaz (by decide) (by rfl) rfl rfl) (J.bool false _ _)) W ρ H [] s _ E (none,upd ρ 1 (.bool false),H) r rfl fun W1 k1 t1 l1 r1=>?_)
  refine wpAny_execs_cons (wpAny_Try_except ?_)
  have hv1:upd ρ 1 (.bool false) 0=some v0:=by simp[upd,hv0]
  generalize upd ρ 1 (.bool false)=ρ1 at r1 hv1
  refine wpAny_execs_cons (Zhy clr (nm_def clr.clr (by k_is) rfl rfl rfl rfl) (by k_is) Zhw (by omega) (by omega) (Zk (Zf (rd_loc (i:=0) (by rfl) rfl rfl rfl)) Zg) rfl (by intro _;rfl) rfl rfl W1 ρ1 H [] _ _ _ C H1 r1 (by simp[rCall,eCons,eVar,eNil,hv1,er]) fun e hh tk' th=>?_)
  obtain⟨W',l',G,m,t,vs,news,F2,R2,U2,hr⟩:=th
  obtain⟨_,_,_,_,_,_,A₀',eA,eE,B,X,T,hk⟩:=clr
  have B₂:Below { handled:=none,depth:=dp,frames:=some [env],guards:=gd,units:=un } base [env] h₀:=⟨rfl,B.stays,B.frames⟩
  have ef:[env].filterMap (·.frame)=[L₀]:=by simp[hf]
  rw[←ef]at D post
  refine Zhz (A₀:={ handled:=none,depth:=dp,frames:=some [env],guards:=gd,units:=un }) (L:=L) (news:=news) R2 F2 B₂ U2 fun B h' y=>?_
  have hcs:=ZbR hnm
  simp only[cls12,List.mem_cons,Prod.mk.injEq,List.not_mem_nil,or_false]at hcs
  clear hnm er hv1
  rcases hcs with⟨rfl,rfl⟩ | ⟨rfl,rfl⟩ | ⟨rfl,rfl⟩ | ⟨rfl,rfl⟩ | ⟨rfl,rfl⟩ | ⟨rfl,rfl⟩ | ⟨rfl,rfl⟩
  all_goals (refine Lying.take y XB TB D (by k_is) (by kts_isx) (by kts_isx) (by k_is) ?_ rfl rfl rfl (by decide))
  all_goals (intro h9 g9 n9 tk9 T9 F9 N9 G9 M9 K9 X9 P9 D9)
  all_goals (obtain⟨oe,hoe,NN⟩:=My.got_more G9 N9 M9)
  all_goals (clear N9 M9 G9 D9 R2 U2 F2 r1 r B₂ B X T XB TB D y)
  all_goals (w_strict (k_steps;(rename News _ _ _ _=>n8);(rename Fr _ _ _ _=>f8);(exact post W' _ g9 _ _ _ news (l1.trans l') T9 f8 (fun q hq=>n8 q (Zz2 _ hq)) hr (.bool true))))
end
end L
end
section
open PySem PySem.W PySem.Calls PyProof.Rows PM
seal PM.J PM.Js PM.JT PM.JA PM.JF PM.JI PM.JI2 PM.JP PM.S1 PM.Ss PM.Sto PM.Rd PM.Nm PM.OpN PM.Op2 PM.Def
namespace L
noncomputable abbrev DD(w:World)(s₀:Shared)(mg mb:Str→Option Value)(f:Addr)(r:Nat)(F:List V→Hp→Option (V×Hp)): Prop:=Def PySem.Challenge.rw_seer_k12_well_made_or_refused.row.prog w (head.heap_39 w.params) head.view_39 (looseW head.view_39 []) (ExcName.means s₀.heap) mg mb f r F
section
variable {w:World} {s₀:Shared} {mg mb:Str→Option Value}
theorem ZhG: DD w s₀ mg mb 193 1 ZdV:=by
 unfold DD;k_fill
 refine Dof (names:=["_law_feed"]) (g:=Zgf) ?_
 exact fun _ _ _ _ _ _ _ c _ _=>(Zv (S1.put (ZG (Zt vL jI) jI ZaK) vL jI) (Zv (ZV (Zz (Zt vL jI) (Zaq (nB c) (jc (Zt vL jI) Zg) ZaB) ZbA) (Zu (Zaa jI)) Z4) (Zu (Zaa (Zt (Zt vL jI) (ZG (Zt vL jI) jI Zbp))))))
theorem ZaY: DD w s₀ mg mb 200 2 ZP:=by
 unfold DD;k_fill
 refine Dof (names:=["_law_feed","_law_many"]) (g:=ZfJ) ?_
 exact fun _ _ _ _ _ _ _ c _ _=>(Zu (Zaa (ZG (ZG (ZG (cF c ZhG (jc vL Zg)) jI Zd8) jI ZbF) vL ZbF)))
theorem ZcC: DD w s₀ mg mb 214 1 Zca:=by
 unfold DD;k_fill
 refine Dof (names:=["_law_feed","_law_word"]) (g:=Zgm) ?_
 exact fun _ _ _ _ _ _ _ c _ _=>(Zv (Zao (J.append (Zt vL jI) vL)) (Zv (ZV (Zz (Zaq (nB c) (jc (Zt vL jI) Zg) ZaB) (Zt vL jI) ZkF) (Zu (Zaa jB)) Z4) (Zv (ZV (Zz (Zt vL jI) jS Zai) (Zu (S1.put vL vL jI)) Z4) (Zu (Zaa jB)))))
theorem Zgu: DD w s₀ mg mb 221 3 ZdY:=by
 unfold DD;k_fill
 refine Dof (names:=["_law_feed","_law_shape","_law_main","_law_low"]) (g:=Zgo) ?_
 exact fun _ _ _ _ _ _ _ c _ _=>(Zv (ZV (Zbx (cF c ZcC (jc vL (jc jS Zg)))) (Zu (Zaa (Zt (J.list (jc jI (jc (ZG (Zt vL jI) jI ZaK) (jc (ZdB jI Zdo) (jc (ZG (Zt vL jI) jI ZaK) Zg))))) (cF c ZaY (jc vL (jc jI Zg)))))) Z4) (Zv (ZS sL jI) (Zv (ZV (Ziy (Zbx vL)) (Zv (ZS sL (ZG (Zt vL jI) jI ZaK)) (Zu (ZV (Za8 (ZbQ (Zz (Zt vL jI) jI ZbA) (ZbQ (Zbx (cF c ZcC (jc vL (jc jS Zg)))) Zdh))) (Zu (Zaa (ZG jI (cF c ZaY (jc vL (jc (Zt vL jI) Zg))) ZaK))) Z4))) Z4) (Zu (Zaa (ZG vL (cF c ZaY (jc vL (jc (ZG (ZG (Zt vL jI) vL Zbp) jI ZaK) Zg))) ZaK))))))
theorem ZdL: DD w s₀ mg mb 207 2 Zb8:=by
 unfold DD;k_fill
 refine Dof (names:=["_law_feed","_law_cell","_law_wide"]) (g:=Zfx) ?_
 exact fun _ _ _ _ _ _ _ c _ _=>(Zv (ZS sL (cF c ZhG (jc vL Zg))) (Zv (ZS sL (ZG (ZG vL jI Zdn) (ZG jI jI Ze4) Zd8)) (Zv (ZV (Zz (ZG vL jI ZbF) jI Zai) (Zu (Zaa (ZG (ZG vL (ZG (ZG jI (ZG jI jI Ze4) Zd8) jI Zbp) ZbF) (ZG (ZG jI jI Ze4) jI Zbp) Zbp))) Z4) (Zv (ZV (Zz (ZG vL jI ZbF) jI Zai) (Zu (Zaa (ZG (ZG vL jI ZbF) jI Zbp))) Z4) (Zu (Zaa (ZG (ZG vL jI ZbF) jI Zbp)))))))
theorem Zf3: DD w s₀ mg mb 228 3 Zdb:=by
 unfold DD;k_fill
 refine Dof (names:=["_law_feed","_law_shape","_law_size","_law_one","_law_code","_law_k"]) (g:=ZfW) ?_
 exact fun _ _ _ _ _ _ _ c _ _=>(Zv (ZS sL (Zt vL jI)) (Zv (ZV (Zbx (cF c ZcC (jc vL (jc jS Zg)))) (Zu (ZS sL (ZG (ZG vL (ZG jI (cF c ZaY (jc vL (jc jI Zg))) Zd8) ZaK) jI Zbp))) Z4) (Zv (ZS sL (J.list (jc (cF c ZdL (jc vL Zg)) Zg))) (Zv (ZS sL (cF c ZaY (jc vL (jc jI Zg)))) (Zv (Zco sL (JI.range (nB c) (jc vL Zg)) (Zv (Zao (J.append vL (Zt (J.list (jc jI (jc jI (jc (ZdB jI Zdo) (jc jI (jc jI (jc (ZdB jI Zdo) (jc jI (jc (ZG jI jI Ze4) Zg))))))))) (ZG vL jI ZbF)))) (Zu (ZS sL (ZG vL jI Zdn))))) (Zu (Zaa vL)))))))
theorem ZjG: DD w s₀ mg mb 249 4 Zf0:=by
 unfold DD;k_fill
 refine Dof (names:=["_law_feed","_law_shape","_law_main","_law_x","_law_lo","_law_hi","_law_kept"]) (g:=ZfZ) ?_
 exact fun _ _ _ _ _ _ _ c _ _=>(Zv (ZS sL (cF c Zgu (jc vL (jc vL (jc vL Zg))))) (Zv (ZS sL (cF c ZdL (jc vL Zg))) (Zv (ZS sL (cF c ZdL (jc vL Zg))) (Zv (ZV (Zz vL vL ZbA) (Zv (ZS sL vL) (Zv (ZS sL vL) (Zu (ZS sL vL)))) Z4) (Zv (ZV (Zbx (cF c ZcC (jc vL (jc jS Zg)))) (Zu (Zaa (J.tup (jc jS (jc vL (jc (ZG vL jI ZaK) (jc (ZG vL (cF c ZaY (jc vL (jc jI Zg))) Zbp) Zg))))))) Z4) (Zu (Zaa (J.tup (jc jS (jc vL (jc (Zt (J.list (jc vL (jc jN Zg))) (ZG (cF c ZaY (jc vL (jc jI Zg))) jI Zdn)) (jc (Zt (J.list (jc vL (jc jN Zg))) (ZG (cF c ZaY (jc vL (jc jI Zg))) jI Zdn)) Zg))))))))))))
theorem Zjx: DD w s₀ mg mb 254 4 ZfM:=by
 unfold DD;k_fill
 refine Dof (names:=["_law_feed","_law_program_here","_law_shape","_law_main","_law_x","_law_named","_law_count"]) (g:=ZfL) ?_
 exact fun _ _ _ _ _ _ _ c _ _=>(Zv (ZS sL (cF c Zgu (jc vC (jc vC (jc vL Zg))))) (Zv (ZS sL (cF c ZaY (jc vC (jc (Zaq (nB c) (jc jI (jc (Zaq (nB c) (jc vL Zg) ZaB) Zg)) ZkU) Zg)))) (Zv (ZV (Za8 (Zaw (Zz (Zaq (nB c) (jc vL Zg) ZaB) jI Zai) (Zaw (Zbx (cF c ZcC (jc vC (jc jS Zg)))) ZbT))) (Zu (Zaa (J.tup (jc jS (jc vL (jc (Zt (J.list (jc (Zaq (nB c) (jc vL Zg) ZaB) (jc (ZdB jI Zdo) (jc (ZG (Zaq (nB c) (jc vL Zg) ZaB) jI ZaK) Zg)))) (cF c ZaY (jc vC (jc jI Zg)))) (jc (J.list Zg) Zg))))))) Z4) (Zv (ZS sL (Zt (Zt vL vL) jI)) (Zv (ZV (Zbx (cF c ZcC (jc vC (jc jS Zg)))) (Zu (ZS sL (ZG vL (Zt (J.list (jc jI (jc (ZdB jI Zdo) Zg))) (Zaq (nB c) (jc vL (jc (cF c ZaY (jc vC (jc jI Zg))) Zg)) Zic)) ZaK))) Z4) (Zu (Zaa (J.tup (jc jS (jc vL (jc vL (jc (by refine cO ?_ ?_ ?_;(exact(JI.range (nB c) (jc vL Zg)));(exact fun _ _=>(cF (Clr.comp c) Zf3 (jc vD (jc vD Zg))));(exact fun _ _=>JF.nil)) Zg))))))))))))
theorem Zhe: DD w s₀ mg mb 235 3 Zc9:=by
 unfold DD;k_fill
 refine Dof (names:=["_law_feed"]) (g:=ZfO) ?_
 exact fun _ _ _ _ _ _ _ c _ _=>(Zv (ZV (Zbx (cF c ZcC (jc vL (jc jS Zg)))) (Zu (Zaa (Zt (J.list (jc jI (jc (ZG jI (Zaq (nB c) (jc (cF c ZdL (jc vL Zg)) Zg) ZiA) Zbp) Zg))) (cF c ZaY (jc vL (jc jI Zg)))))) Z4) (Zu (Zaa (ZG jI (Zaq (nB c) (jc (cF c ZdL (jc vL Zg)) Zg) ZiA) ZaK))))
theorem Zjr: DD w s₀ mg mb 261 5 ZfB:=by
 unfold DD;k_fill
 refine Dof (names:=["_law_feed","_law_program_here","_law_shape","_law_main","_law_word","_law_x","_law_one"]) (g:=ZfA) ?_
 exact fun _ _ _ _ _ _ _ c _ _=>(Zv (ZV (Zz vL jS Zai) (Zu (Zaa (cF c ZjG (jc vL (jc vL (jc vL Zg)))))) Z4) (Zv (ZV (Zz vL jS Zai) (Zu (Zaa (cF c Zjx (jc vL (jc vL (jc vL (jc vL Zg))))))) Z4) (Zv (ZS sL (cF c Zgu (jc vL (jc vL (jc vL Zg))))) (Zv (ZS sL (cF c Zf3 (jc vL (jc vL Zg)))) (Zv (ZV (Zz vL jS Zai) (Zu (Zaa (J.tup (jc jS (jc vL (jc vL Zg)))))) Z4) (Zu (Zaa (J.tup (jc vL (jc vL (jc vL (jc (cF c Zhe (jc vL Zg)) Zg))))))))))))
theorem ZfI: DD w s₀ mg mb 242 4 ZcO:=by
 unfold DD;k_fill
 refine Dof (names:=["_law_feed","_law_shape","_law_word","_law_one"]) (g:=ZfD) ?_
 exact fun _ _ _ _ _ _ _ c _ _=>(Zv (ZS sL (Zt (J.list (jc jS (jc jS (jc jS Zg)))) (cF c ZaY (jc vL (jc jI Zg))))) (Zv (ZS sL (cF c Zf3 (jc vL (jc vL Zg)))) (Zv (ZV (Zz vL jS Zai) (Zu (Zaa (J.tup (jc vL (jc vL (jc (cF c Zhe (jc vL Zg)) Zg)))))) Z4) (Zu (Zaa (J.tup (jc vL (jc vL Zg))))))))
theorem Zjm(n:Nat){F:List V→Hp→Option (V×Hp)}(ih:Def PySem.Challenge.rw_seer_k12_well_made_or_refused.row.prog w (head.heap_39 w.params) head.view_39 (looseW head.view_39 []) (ExcName.means s₀.heap) mg mb 275 (2*n+5) F): Def PySem.Challenge.rw_seer_k12_well_made_or_refused.row.prog w (head.heap_39 w.params) head.view_39 (looseW head.view_39 []) (ExcName.means s₀.heap) mg mb 268 (2*n+6) (Zey F):=by
  k_fill
  refine' Def.of (names:=["_law_feed","_law_program_here","_law_shape","_law_main","_law_depth","_law_word","_law_claim_here","_law_body_here"]) (n:=5) (room:=2*n+5) (g:=Zft F) (ho:=?ho) (hcd:=?hcd) (nd:=by decide) (hn:=by decide) (hbind:=?hb) (hkinds:=?hk) (hone:=?h1) (hco:=?z1) (hgen:=?z2) (hk:=?z3) (hbody:=?hbody)
  case ho=>k_is
  case z1=>rfl
  case z2=>rfl
  case z3=>rfl
  case hcd=>k_is
  case hb=>intro s xs hx;match xs,hx with | [x0,x1,x2,x3,x4],_=>exact BindsTo.of_eq rfl
  case hk=>decide
  case h1=>decide +kernel
  case hbody=>
   intro dp un gd L outer h₀ hu clr hd1 hu1
   exact(Zv (S1.put (ZG (Zt vL jI) jI Zbp) vL jI) (Zv (ZS sL (Zt (J.list (jc jS (jc jS (jc jS (jc jS (jc jS (jc jS (jc jS (jc jS Zg))))))))) (cF clr ZaY (jc vL (jc jI Zg))))) (Zv (ZV (Za8 (ZbQ (Zz (Zt vL jI) (Zt vL jI) Zai) (ZbQ (Ziy (Zbx vL)) Zdh))) (Zu (ZS sL (Zt (J.list (jc jS (jc jS (jc jS Zg)))) (cF clr ZaY (jc vL (jc jI Zg)))))) Z4) (Zv (ZV (Za8 (ZbQ (Zz vL jS Zai) (ZbQ (Zz (Zaq (nB clr) (jc vL Zg) ZaB) jI Zai) Zdh))) (Zu (ZS sL jS)) Z4) (Zv (ZV (Za8 (ZbQ (Zz vL jI Zai) (ZbQ (Za8 (Zaw (Zz vL jS Zai) (Zaw (Zz vL jS Zai) ZbT))) Zdh))) (Zu (ZS sL jS)) Z4) (Zv (ZV (Zz vL jS Zai) (Zu (Zaa (J.tup (jc jS (jc (cF clr ZfI (jc vL (jc vL Zg))) Zg))))) Z4) (Zv (ZV (Zz vL jS Zai) (Zu (Zaa (J.tup (jc jS (jc (cF clr ZfI (jc vL (jc vL Zg))) (jc (cF clr ih (jc vL (jc vL (jc vL (jc vL (jc (ZG vL jI ZaK) Zg)))))) Zg)))))) Z4) (Zv (ZV (Zz vL jS Zai) (Zv (ZS sL (cF clr ZfI (jc vL (jc vL Zg)))) (Zv (ZS sL (cF clr ih (jc vL (jc vL (jc vL (jc vL (jc (ZG vL jI ZaK) Zg))))))) (Zu (Zaa (J.tup (jc jS (jc vL (jc vL (jc (cF clr ih (jc vL (jc vL (jc vL (jc vL (jc (ZG vL jI ZaK) Zg)))))) Zg))))))))) Z4) (Zu (Zaa (cF clr Zjr (jc vL (jc vL (jc vL (jc vL (jc vL Zg))))))))))))))))
theorem Zg6: ∀n:Nat,Def PySem.Challenge.rw_seer_k12_well_made_or_refused.row.prog w (head.heap_39 w.params) head.view_39 (looseW head.view_39 []) (ExcName.means s₀.heap) mg mb 275 (2*n+5) (ZcP n)
 | 0=>Def.zero
 | n+1=>by
  have ih:=Zg6 n
  k_fill
  have e0:2*(n+1)+5=(2*n+6)+1:=by omega
  rw[e0]
  refine' Def.of (names:=["_law_feed","_law_program_here","_law_shape","_law_main","_law_depth","_law_body_here","_law_k"]) (n:=5) (room:=2*n+6) (g:=ZfQ (ZcP n)) (ho:=?ho) (hcd:=?hcd) (nd:=by decide) (hn:=by decide) (hbind:=?hb) (hkinds:=?hk) (hone:=?h1) (hco:=?z1) (hgen:=?z2) (hk:=?z3) (hbody:=?hbody)
  case ho=>k_is
  case z1=>rfl
  case z2=>rfl
  case z3=>rfl
  case hcd=>k_is
  case hb=>intro s xs hx;match xs,hx with | [x0,x1,x2,x3,x4],_=>exact BindsTo.of_eq rfl
  case hk=>decide
  case h1=>decide +kernel
  case hbody=>
   intro dp un gd L outer h₀ hu clr hd1 hu1
   exact(Zv (ZS sL (J.list Zg)) (Zv (Zco sL (JI.range (nB clr) (jc (ZG (ZG jI (cF clr ZaY (jc vL (jc jI Zg))) ZaK) (Zaq (nB clr) (jc jI (jc vL Zg)) Zic) Zbp) Zg)) (Zu (ZV (Zz (Zt vL jI) jI ZbA) (Zu (Zao (J.append vL (Zag clr (nm_def clr (by k_is) rfl rfl rfl rfl) (by k_is) (Zjm n ih) (by omega) (by omega) (jc vL (jc vL (jc vL (jc vL (jc vL Zg))))))))) Z4))) (Zu (Zaa vL))))
theorem Zjy: Def PySem.Challenge.rw_seer_k12_well_made_or_refused.row.prog w (head.heap_39 w.params) head.view_39 (looseW head.view_39 []) (ExcName.means s₀.heap) mg mb 275 23 ZeF:=Zg6 9
theorem Zg3: DD w s₀ mg mb 282 24 ZeA:=by
 unfold DD;k_fill
 refine Dof (names:=["_law_feed","_law_program_here","_law_count","_law_f","_law_many","_law_shape","_law_off_here","_law_body_here"]) (g:=Zfv) ?_
 exact fun _ _ _ _ _ _ _ c _ _=>(Zv (ZS sL (J.list Zg)) (Zv (ZS sL (ZG jI (cF c ZaY (jc vL (jc jI Zg))) ZaK)) (Zv (Zco sL (JI.range (nB c) (jc vL Zg)) (Zv (ZS sL (ZG jI (cF c ZaY (jc vL (jc jI Zg))) ZaK)) (Zv (ZS sL (J.list (jc (cF c ZaY (jc vL (jc (ZG vL jI ZaK) Zg))) (jc vL Zg)))) (Zv (ZS sL (cF c ZcC (jc vL (jc jS Zg)))) (Zv (ZS sL (cF c Zjy (jc vL (jc (Zib (nB c) (jc vL Zg) Zkx) (jc vL (jc (Zef vL (ZG vL jI Zbp) Zai) (jc jI Zg))))))) (Zv (ZV (Zbx vL) (Zu (ZS sL (Zt (J.list (jc (J.list (jc (ZdB jI Zdo) (jc vL Zg))) (jc (J.list (jc (ZG vL jI ZaK) (jc vL Zg))) (jc (J.list (jc jI (jc jI Zg))) Zg)))) (cF c ZaY (jc vL (jc jI Zg)))))) Z4) (Zu (Zao (J.append vL (J.tup (jc (Zt vL jI) (jc (Zt vL jI) (jc vL Zg))))))))))))) (Zu (Zaa vL)))))
theorem Zg7: ∀n:Nat,Def PySem.Challenge.rw_seer_k12_well_made_or_refused.row.prog w (head.heap_39 w.params) head.view_39 (looseW head.view_39 []) (ExcName.means s₀.heap) mg mb 287 (1*n+0) (Zc8 n)
 | 0=>Def.zero
 | n+1=>by
  have ih:=Zg7 n
  k_fill
  have e0:1*(n+1)+0=(1*n+0)+1:=by omega
  rw[e0]
  refine' Def.of (names:=["_law_thing"]) (n:=1) (room:=1*n+0) (g:=ZfS (Zc8 n)) (ho:=?ho) (hcd:=?hcd) (nd:=by decide) (hn:=by decide) (hbind:=?hb) (hkinds:=?hk) (hone:=?h1) (hco:=?z1) (hgen:=?z2) (hk:=?z3) (hbody:=?hbody)
  case ho=>k_is
  case z1=>rfl
  case z2=>rfl
  case z3=>rfl
  case hcd=>k_is
  case hb=>intro s xs hx;match xs,hx with | [x0],_=>exact BindsTo.of_eq rfl
  case hk=>decide
  case h1=>decide +kernel
  case hbody=>
   intro dp un gd L outer h₀ hu clr hd1 hu1
   exact(Zv (ZV (Zbx (ZhV (nB clr) (nB clr) (.inr (.inr (.inl rfl))) vL)) (Zu (Zaa (by refine cO ?_ ?_ ?_;(exact(JI.seq vL));(exact fun _ _=>(cF (Clr.comp clr) ih (jc vO Zg)));(exact fun _ _=>JF.nil)))) Z4) (Zv (ZV (Zbx (ZhV (nB clr) (nB clr) (.inr (.inr (.inr rfl))) vL)) (Zu (Zaa (Zib (nB clr) (jc (by refine cO ?_ ?_ ?_;(exact(JI.seq vL));(exact fun _ _=>(cF (Clr.comp clr) ih (jc vO Zg)));(exact fun _ _=>JF.nil)) Zg) Zkb))) Z4) (Zu (Zaa vL))))
theorem Zjz: Def PySem.Challenge.rw_seer_k12_well_made_or_refused.row.prog w (head.heap_39 w.params) head.view_39 (looseW head.view_39 []) (ExcName.means s₀.heap) mg mb 287 24 ZfT:=Zg7 24
theorem ZjT: DD w s₀ mg mb 306 1 Zf7:=by
 unfold DD;k_fill
 refine Dof (names:=["_law_script","_law_words_met","_law_some","_law_cell","_law_code","_law_wanted","_law_spots_here"]) (g:=Zf6) ?_
 exact fun _ _ _ _ _ _ _ c _ _=>(Zv (ZS sL (J.list Zg)) (Zv (Zco sL (JI.seq (ZeZ vL JP.none (JP.some jI))) (Zv (ZS sL (ZG (ZG vL jI Zd8) jI ZbF)) (Zv (ZS sC (Zt (J.list (jc jS (jc jS (jc jS (jc jS (jc jS (jc jS (jc jS Zg)))))))) (ZG vL jI ZbF))) (Zv (by refine sO sL ?_ ?_ ?_;(exact(JI.range (nB c) (jc (Zaq (nB c) (jc vC Zg) ZaB) Zg)));(exact fun _ _=>(ZG vO jI ZaK));(exact fun _ _=>JF.one (Zz (Zt vD vO) vD Zai))) (Zu (ZV (Za8 (ZbQ (Zz (Zaq (nB c) (jc vL Zg) ZaB) jI ZbA) (ZbQ (Zz (ZG (ZG vL jI Zdn) jI ZbF) jI ZbA) Zdh))) (Zu (Zao (J.append vL (Zt vL (ZG (ZG vL jI Zdn) (Zaq (nB c) (jc vL Zg) ZaB) ZbF))))) Z4)))))) (Zu (Zaa vL))))
end
end L
end
section
open PySem PySem.W PySem.Calls PyProof.Rows PM
open L
seal PySem.wpAny PM.J PM.Js PM.JT PM.JA PM.JF PM.JI PM.JI2 PM.JP PM.S1 PM.Ss PM.Sto PM.Rd PM.Nm PM.OpN PM.Op2 PM.Def
theorem PySem.Challenge.cw_seer_k12_well_made_or_refused_holds : PySem.Challenge.rw_seer_k12_well_made_or_refused.Holds :=
 head (by
  w_strict (k_go0;(rename Well _ _ _ _=>w9);(rename Frag.In _ _=>kx9);(rename Top _ _ _ _ _ _=>t9);(rename Fr _ _ _ _=>f9);(rename News _ _ _ _=>n9);(rename (PyData.layable0 _=true)=>hl9);(obtain⟨H9,e9⟩:=L.ZjL (by omega) hl9);(refine' PM.Zkj (names:=[Str.ofString "_law_script",Str.ofString "_law_feed",Str.ofString "_law_program_here",Str.ofString "_law_handed",Str.ofString "_law_told"]) (g:=ZgB) (room:=60) ?hb ?h1 ?h2 ?h3 ?h4 ?hc ?hl kx9 t9 w9 ?len f9 n9 e9 ?post);(case h1=>decide);(case h2=>decide);(case h3=>rfl);(case h4=>rfl);(case hc=>(intro n;rfl));(case hl=>rfl);(case len=>(rw[PM.Zav];omega));(case hb=>(intro dp un gd L a ccd h₀ hu clrB XB TB hd1 hu1;have clr:=clrB.clr;exact(Zv (ZS (Zaz (by decide) (by rfl) rfl rfl) (J.list (Zk (Zea (Zf (rd_loc (by rfl) rfl rfl rfl)) (J.int _ _ _)) (Zk (J.int _ _ _) (Zk (J.int _ _ _) (Zk (J.list Zg) (Zk (J.list Zg) (Zk (J.str _ _ _) Zg)))))))) (Zv (Zao (Zag clr (nm_def clr (by k_is) rfl rfl rfl rfl) (by k_is) Zg3 (by omega) (by omega) (Zk (Zf (rd_loc (by rfl) rfl rfl rfl)) Zg))) (Zv (ZS (Zaz (by decide) (by rfl) rfl rfl) (J.list (Zk (Zea (Zf (rd_loc (by rfl) rfl rfl rfl)) (J.int _ _ _)) (Zk (J.int _ _ _) (Zk (J.int _ _ _) (Zk (J.list Zg) (Zk (Zag clr (nm_def clr (by k_is) rfl rfl rfl rfl) (by k_is) ZjT (by omega) (by omega) (Zk (Zf (rd_loc (by rfl) rfl rfl rfl)) (Zk (Zt (Zf (rd_loc (by rfl) rfl rfl rfl)) (J.int _ _ _)) Zg))) (Zk (J.str _ _ _) Zg)))))))) (Zv (ZS (Zaz (by decide) (by rfl) rfl rfl) (Zag clr (nm_def clr (by k_is) rfl rfl rfl rfl) (by k_is) Zg3 (by omega) (by omega) (Zk (Zf (rd_loc (by rfl) rfl rfl rfl)) Zg))) (Zv (ZV (Za8 (ZbQ (Zz (Zaq (Za2 clr (by k_is) (by boot_by_name) (by decide) rfl rfl rfl rfl rfl) (Zk (Zf (rd_loc (by rfl) rfl rfl rfl)) Zg) ZaB) (J.int _ _ _) ZbA) (ZbQ (Zz (ZG (Zt (Zf (rd_loc (by rfl) rfl rfl rfl)) (J.int _ _ _)) (J.int _ _ _) ZbF) (J.int _ _ _) Zai) Zdh))) (Zv (ZS (Zaz (by decide) (by rfl) rfl rfl) (J.list Zg)) (Zu (S1.put (J.str _ _ _) (Zf (rd_loc (by rfl) rfl rfl rfl)) (J.int _ _ _)))) Z4) (Zv (ZS (Zaz (by decide) (by rfl) rfl rfl) (Zag clr (nm_def clr (by k_is) rfl rfl rfl rfl) (by k_is) Zjz (by omega) (by omega) (Zk (Zf (rd_loc (by rfl) rfl rfl rfl)) Zg))) (Zv (ZS (Zaz (by decide) (by rfl) rfl rfl) (ZhK clrB XB TB (nm_def clr (by k_is) rfl rfl rfl rfl) (by k_is) ZjF (by omega) (by omega) (Zk (Zf (rd_loc (by rfl) rfl rfl rfl)) Zg))) (Zv (ZV (Za8 (Zaw (Zz (Zt (Zf (rd_loc (by rfl) rfl rfl rfl)) (J.int _ _ _)) (Zt (Zf (rd_loc (by rfl) rfl rfl rfl)) (J.int _ _ _)) ZcX) (Zaw (Zz (Zt (Zf (rd_loc (by rfl) rfl rfl rfl)) (J.int _ _ _)) (J.bool _ _ _) Zki) (Zaw (Zz (Zf (rd_loc (by rfl) rfl rfl rfl)) (Zf (rd_loc (by rfl) rfl rfl rfl)) ZcX) ZbT)))) (Zu (Zaa (J.bool _ _ _))) Z4) (Zu (Zaa (Zm8 (Zef (Zt (Zf (rd_loc (by rfl) rfl rfl rfl)) (J.int _ _ _)) (J.str _ _ _) Zai) (ZhK clrB XB TB (nm_def clr (by k_is) rfl rfl rfl rfl) (by k_is) Zjp (by omega) (by omega) (Zk (Zf (rd_loc (by rfl) rfl rfl rfl)) Zg)))))))))))))));(case post=>(intro h' tk' m' F';k_steps)))
  )
end
