import PyProof.Rows.All
import Wide.All
import OpenK.AllK
import Wide.FinOn
import PySem.Challenge.RW_seer_k74_sayings
import PyProof.Rows.News
import PyProof.Rows.Nodes
import PyProof.Rows.Chain
import PyProof.Rows.TupSub
import ObjForm.Fk.ObjNew
import ObjForm.Fk.InstLoad
import PyProof.PureInt
import PyProof.Rules2
import PyProof.Rules3
import PyProof.Rows.Globals
import PyProof.Rows.RuleB_mod
import PyProof.Rows.RuleB_floordiv
import PyProof.Rows.RuleB_small
import PyProof.NoPylong
import PyProof.Rows.RuleB_pow
import PyProof.Rows.EqDataRows
import PyProof.Rows.StrTemp
import PyProof.Rows.TupAdd
import PyProof.Rows.ListMul
import PyProof.ListIndexNeg
import PyProof.SliceList
import PyProof.Methods
import PyProof.Rows.Tup
import PyProof.IsiPairs
import PyProof.IsiHeapPairs
import PyProof.IsiNone
import PyProof.Rows.RuleN_abs
import PyProof.Rows.SumAny
import PyProof.WalkInts
import PyProof.PvWalk
import PyProof.RulesRaise
import PyProof.Raises
import PyProof.Dict
import PyProof.Seq
import PyProof.Rows.ListAppend
import PyProof.ForAppend
import PyProof.ForAny
import PyProof.Walks
import PyProof.WalksT
import KE.KItem
import PyProof.WalksMore
import PyProof.RangeFor
import PyProof.Rows.Range3
import OpenK.KCell
import KE.KTree
import KE.RegLcTurns
import KE.KCompFold
import KE.KLcPair
import KE.LcTurns
import PyProof.CompUse
import PyProof.Rows.ZipGen
import OpenK.KLine
import KE.KState
import Wide.Well
import PyProof.ListCopy
import PyProof.Rows.TupleOfSeqD
import KE.LcSums
import KE.KCellOne
import PyProof.FitsBits
import KE.KEqDeep
import PyProof.Rows.TupMore
import PyProof.Rows.NestLooks
import PyProof.EnumMake
import PyProof.WalksEnum
import OpenK.KWalk
import OpenK.KMake
import PyProof.AssignAttr
import PyProof.Rows.AttrNodeAny
import PyProof.Draws
import PyProof.Rows.CallKwBuiltin
import PyProof.Rows.SortWalk
import PyProof.DictStraight
import PyProof.EqAt
import PyProof.Rows.SeqMore2
import KE.KSortTup
import PyProof.WalksPairs
import PyProof.ListRange
import PyProof.LongRange
import KE.KRevIter
import KE.KAnyBase
import PyProof.Rows.SeqSlice
namespace My
end My
set_option linter.all false
set_option maxRecDepth 100000
set_option maxHeartbeats 8000000
abbrev Zz0:=@Option.bind_eq_some_iff
abbrev Zz1:=@Option.map_eq_some_iff
abbrev Zz2:=@List.mem_cons_of_mem
abbrev Zz3:=@List.mem_append_right
abbrev Zz4:=@List.mem_append_left
abbrev Zz5:=@List.mem_cons_self
abbrev Zz6:=@List.getElem?_eq_some_iff
abbrev Zz7:=@List.mem_cons
abbrev Zz8:=@List.mem_append
abbrev Zz9:=@List.mem_singleton
abbrev Zz10:=@Nat.le_refl
abbrev Zz11:=@List.mem_map
set_option Elab.async false
set_option compiler.extract_closed false
section
/-! The plain machine: values as trees, lists as places; and how it stands for the model's heap. -/
namespace PM
open PySem PyProof.Rows
inductive V where
 | none
 | bool (b:Bool)
 | int (i:Int)
 | str (s:Str)
 | tup (vs:List V)
 | ref (a:Nat)
 | obj (c:Nat×List Str) (a:Nat)
noncomputable abbrev Hp:=List (List V)
noncomputable abbrev Lc:=Nat→Option V
noncomputable def ZN: Nat:=100000
theorem Zas: ZN=100000:=rfl
theorem Zbt{n:Nat}(h:n≤ZN): n≤sizeLine:=by
 have:sizeLine=2 ^ 24:=rfl
 rw[this];rw[Zas]at h;omega
noncomputable abbrev ZcD(xs:List Value)(k:Nat): Obj:={ cls:=.type "tuple",data:=.seq xs.toArray k }
noncomputable abbrev ZaO(xs:List Value)(k:Nat): Obj:={ cls:=.type "list",data:=.seq xs.toArray k }
structure Wd where
 pi:List Addr
 tups:List (Addr×Obj)
 sc:Addr×Obj
 ins:List (Nat×List Str)
structure Wd.Le(W W':Wd): Prop where
 pi:W.pi <+: W'.pi
 tups:∀q∈W.tups,q∈W'.tups
 sc:W'.sc=W.sc
 ins:∀q∈W.ins,q∈W'.ins
 inew:∀q∈W'.ins,q∈W.ins∨W.pi.length≤q.1
theorem Wd.Le.refl(W:Wd): W.Le W:=⟨List.prefix_refl _,fun _ h=>h,rfl,fun _ h=>h,fun _ h=>.inl h⟩
theorem Wd.Le.trans{W W' W'':Wd}(a:W.Le W')(b:W'.Le W''): W.Le W'':=⟨a.pi.trans b.pi,fun q h=>b.tups q (a.tups q h),b.sc.trans a.sc,fun q h=>b.ins q (a.ins q h),fun q h=>by
 rcases b.inew q h with z | z
 ·exact a.inew q z
 ·exact .inr (Nat.le_trans a.pi.length_le z)⟩
def Wd.At(W:Wd)(i:Nat)(a:Addr): Prop:=W.pi[i]?=some a∧∀q∈W.ins,q.1≠i
def Zhv(o:Obj)(C dx:Addr): Prop:=o = { cls:=.ref C,dict:=some dx,data:=.plain }
inductive FE: List Str→List Value→List DictEntry→Prop where
 | nil {fs:List Str}:FE fs [] []
 | cons {f:Str} {fs:List Str} {x:Value} {xs:List Value} {hs:Int} {t:Tok} {es:List DictEntry}:FE fs xs es→FE (f::fs) (x::xs) (⟨hs,.str f t,x⟩::es)
def Zjh(o:Obj)(fs:List Str)(xs:List Value): Prop:=∃es n,o = { cls:=.type "dict",data:=.dict es.toArray n }∧FE fs xs es
theorem Wd.Le.piAt{W W':Wd}(h:W.Le W'){i:Nat}{a:Addr}(e:W.pi[i]?=some a): W'.pi[i]?=some a:=by
 obtain⟨t,ht⟩:=h.pi
 have hi:i<W.pi.length:=(Zz6.mp e).1
 rw[←ht,List.getElem?_append_left hi]
 exact e
theorem Wd.Le.at{W W':Wd}(h:W.Le W'){i:Nat}{a:Addr}(e:W.At i a): W'.At i a:=⟨h.piAt e.1,fun q hq z=>by
 rcases h.inew q hq with y | y
 ·exact e.2 q y z
 ·have:=(Zz6.mp e.1).1
  omega⟩
mutual
inductive VR(W:Wd): V→Value→Prop where
 | none:VR W .none .none
 | bool (b:Bool):VR W (.bool b) (.bool b)
 | int (i:Int) (t:Tok):VR W (.int i) (.int i t)
 | str (s:Str) (t:Tok):VR W (.str s) (.str s t)
 | tup {vs:List V} {a:Addr} {xs:List Value} {k:Nat}:(a,ZcD xs k)∈W.tups→vs.length≤ZN→VRs W vs xs→VR W (.tup vs) (.ref a)
 | ref {i:Nat} {a:Addr}:W.At i a→VR W (.ref i) (.ref a)
 | obj {c:Nat×List Str} {i:Nat} {a x:Addr} {ox:Obj}:W.pi[i]?=some a→(i,c.2)∈W.ins→(x,ox)∈W.tups→Zhv ox c.1 a→VR W (.obj c i) (.ref x)
inductive VRs(W:Wd): List V→List Value→Prop where
 | nil:VRs W [] []
 | cons {v:V} {x:Value} {vs:List V} {xs:List Value}:VR W v x→VRs W vs xs→VRs W (v::vs) (x::xs)
end
mutual
theorem VR.mono{W W':Wd}(h:W.Le W'){v:V}{x:Value}(r:VR W v x): VR W' v x:=by
 cases r with
 | none=>exact .none
 | bool b=>exact .bool b
 | int i t=>exact .int i t
 | str s t=>exact .str s t
 | tup hm hl hs=>exact .tup (h.tups _ hm) hl (VRs.mono h hs)
 | ref e=>exact .ref (h.at e)
 | obj h1 h2 h3 h4=>exact .obj (h.piAt h1) (h.ins _ h2) (h.tups _ h3) h4
theorem VRs.mono{W W':Wd}(h:W.Le W'){vs:List V}{xs:List Value}(r:VRs W vs xs): VRs W' vs xs:=by
 cases r with
 | nil=>exact .nil
 | cons a b=>exact .cons (VR.mono h a) (VRs.mono h b)
end
theorem VRs.length{W:Wd}: ∀{vs:List V} {xs:List Value},VRs W vs xs→xs.length=vs.length
 | _,_,.nil=>rfl
 | _,_,.cons _ r=>by rw[List.length_cons,List.length_cons,r.length]
theorem VRs.at{W:Wd}: ∀{vs:List V} {xs:List Value} {i:Nat} {v:V},VRs W vs xs→vs[i]?=some v→∃x,xs[i]?=some x∧VR W v x
 | _,_,_,_,.nil,e=>by simp at e
 | _,_,0,_,.cons a _,e=>by
  simp at e
  exact⟨_,by simp,e▸a⟩
 | _,_,i+1,_,.cons _ r,e=>by
  simp at e
  obtain⟨x,hx,hr⟩:=r.at e
  exact⟨x,by simpa using hx,hr⟩
theorem VRs.append{W:Wd}: ∀{vs us:List V} {xs ys:List Value},VRs W vs xs→VRs W us ys→VRs W (vs++us) (xs++ys)
 | _,_,_,_,.nil,h=>h
 | _,_,_,_,.cons a r,h=>.cons a (r.append h)
theorem VRs.snoc{W:Wd}{vs:List V}{xs:List Value}{v:V}{x:Value}(h:VRs W vs xs)(r:VR W v x): VRs W (vs++[v]) (xs++[x]):=h.append (.cons r .nil)
theorem VRs.set{W:Wd}: ∀{vs:List V} {xs:List Value} {v:V} {x:Value} (i:Nat),VRs W vs xs→VR W v x→VRs W (vs.set i v) (xs.set i x)
 | _,_,_,_,_,.nil,_=>.nil
 | _,_,_,_,0,.cons _ r,h=>.cons h r
 | _,_,_,_,i+1,.cons a r,h=>.cons a (r.set i h)
theorem VRs.drop{W:Wd}: ∀{vs:List V} {xs:List Value} (i:Nat),VRs W vs xs→VRs W (vs.drop i) (xs.drop i)
 | _,_,0,h=>h
 | _,_,_+1,.nil=>.nil
 | _,_,i+1,.cons _ r=>r.drop i
structure HR(W:Wd)(H:Hp)(led:List (Addr×Obj)): Prop where
 len:W.pi.length=H.length
 nd:W.pi.Nodup
 lists:∀(i:Nat) (vs:List V),H[i]?=some vs→(∀q∈W.ins,q.1≠i)→vs.length≤ZN∧∃a xs k,W.pi[i]?=some a∧(a,ZaO xs k)∈led∧VRs W vs xs
 tups:∀q∈W.tups,q∈led
 kind:∀q∈W.tups,(∃xs k,q.2=ZcD xs k)∨∃C dx,Zhv q.2 C dx
 objs:∀(i:Nat) (vs:List V) (fs:List Str),H[i]?=some vs→(i,fs)∈W.ins→vs.length≤fs.length∧∃a od xs,W.pi[i]?=some a∧(a,od)∈led∧Zjh od fs xs∧VRs W vs xs
 inlt:∀q∈W.ins,q.1<H.length
 iuni:∀q∈W.ins,∀r∈W.ins,q.1=r.1→q=r
theorem HR.mono{W:Wd}{H:Hp}{led led':List (Addr×Obj)}(R:HR W H led)(h:∀q∈led,q∈led'): HR W H led':=
 ⟨R.len,R.nd,fun i vs e ni=>by
  obtain⟨l,a,xs,k,h1,h2,h3⟩:=R.lists i vs e ni
  exact⟨l,a,xs,k,h1,h _ h2,h3⟩,fun q hq=>h q (R.tups q hq),R.kind,fun i vs fs e hi=>by
  obtain⟨l,a,od,xs,h1,h2,h3⟩:=R.objs i vs fs e hi
  exact⟨l,a,od,xs,h1,h _ h2,h3⟩,R.inlt,R.iuni⟩
theorem HR.any{W:Wd}{H:Hp}{led:List (Addr×Obj)}(R:HR W H led){i:Nat}{vs:List V}(e:H[i]?=some vs): ∃a o,W.pi[i]?=some a∧(a,o)∈led∧(o.cls=.type "list"∨o.cls=.type "dict"):=by
 by_cases ni:∀q∈W.ins,q.1≠i
 ·obtain⟨_,a,xs,k,h1,h2,_⟩:=R.lists i vs e ni
  exact⟨a,_,h1,h2,.inl rfl⟩
 ·obtain⟨⟨j,fs⟩,hq⟩:=Classical.not_forall.mp ni
  obtain⟨hq',z⟩:=Classical.not_imp.mp hq
  have z:j=i:=Classical.not_not.mp z
  rw[z]at hq'
  obtain⟨_,a,od,xs,h1,h2,h3,_⟩:=R.objs i vs fs e hq'
  obtain⟨es,n,eo,_⟩:=h3
  exact⟨a,od,h1,h2,.inr (by rw[eo])⟩
theorem Zie{o:Obj}(k:(∃xs k,o=ZcD xs k)∨∃C dx,Zhv o C dx): o.cls≠.type "list"∧o.cls≠.type "dict":=by
 rcases k with⟨xs,k,e⟩ | ⟨C,dx,e⟩
 ·rw[e];exact⟨by simp,by simp⟩
 ·rw[show o=_ from e];exact⟨by simp,by simp⟩
structure Cx where
 A:Around
 env:Env
 h₀:Heap
 L:Addr
 hh:A.handled=none
 hu:A.units+200<cLine
 Own:Wd→Lc→(Str→Option Value)→List (Addr×Obj)→Prop
 mono:∀{W W':Wd} {ρ:Lc} {m:Str→Option Value} {c:List (Addr×Obj)},W.Le W'→Own W ρ m c→Own W' ρ m c
structure Rep'(Γ:Cx)(W:Wd)(ρ:Lc)(H:Hp)(fr:List (Addr×Obj))(h:Heap)(m:Str→Option Value)(cells led:List (Addr×Obj)): Prop where
 F:Fr Γ.h₀ Γ.L h m
 N:News Γ.h₀ Γ.L h led
 R:HR W H (W.sc::led)
 sc:Γ.h₀.get? W.sc.1=some W.sc.2
 sc0:W.pi[0]?=some W.sc.1
 frIn:∀q∈fr,q∈led
 frOff:∀q∈fr,q.1∉W.pi
 clIn:∀q∈cells,q∈led
 clOff:∀q∈cells,q.1∉W.pi
 apart:∀q∈cells,∀r∈fr,q.1≠r.1
 frTup:∀q∈fr,∀t∈W.tups,q.1≠t.1
 clTup:∀q∈cells,∀t∈W.tups,q.1≠t.1
 own:Γ.Own W ρ m cells
def Rep(Γ:Cx)(W:Wd)(ρ:Lc)(H:Hp)(fr:List (Addr×Obj))(h:Heap): Prop:=∃m cells led,Rep' Γ W ρ H fr h m cells led
theorem Rep.grown{Γ:Cx}{W:Wd}{ρ:Lc}{H:Hp}{fr:List (Addr×Obj)}{h h':Heap}(r:Rep Γ W ρ H fr h)(up:∀b o,h.get? b=some o→h'.get? b=some o): Rep Γ W ρ H fr h':=by
 obtain⟨m,c,led,r⟩:=r
 refine⟨m,c,led,⟨⟨?_,fun b o e=>up b o (r.F.keep b o e),r.F.above⟩,fun q hq=>⟨up _ _ (r.N q hq).1,(r.N q hq).2⟩,r.R,r.sc,r.sc0,r.frIn,r.frOff,r.clIn,r.clOff,r.apart,r.frTup,r.clTup,r.own⟩⟩
 obtain⟨o,es,ep,h1,h2⟩:=r.F.ns
 exact⟨o,es,ep,up _ _ h1,h2⟩
theorem Rep.push{Γ:Cx}{W:Wd}{ρ:Lc}{H:Hp}{fr:List (Addr×Obj)}{h:Heap}(r:Rep Γ W ρ H fr h)(o:Obj): Rep Γ W ρ H fr (h.push o):=r.grown fun _ _ e=>Heap.get?_push_of_some _ e
theorem Zbf{q s:Addr×Obj}{l l':List (Addr×Obj)}(h:q∈s::l)(m:q∈l→q∈l'): q∈s::l':=by
 rcases Zz7.mp h with e | h
 ·exact e▸List.mem_cons_self
 ·exact Zz2 _ (m h)
theorem Zch{q s:Addr×Obj}{l l':List (Addr×Obj)}(h:q∈s::l)(m:∀x∈l,x∈l'): q∈s::l':=by
 rcases Zz7.mp h with e | h
 ·exact e▸List.mem_cons_self
 ·exact Zz2 _ (m q h)
theorem Rep'.get{Γ:Cx}{W:Wd}{ρ:Lc}{H:Hp}{fr:List (Addr×Obj)}{h:Heap}{m:Str→Option Value}{c led:List (Addr×Obj)}(r:Rep' Γ W ρ H fr h m c led){q:Addr×Obj}(hq:q∈W.sc::led): h.get? q.1=some q.2:=by
 rcases Zz7.mp hq with e | hq
 ·rw[e]
  exact r.F.keep _ _ r.sc
 ·exact(r.N q hq).1
theorem Rep'.off{Γ:Cx}{W:Wd}{ρ:Lc}{H:Hp}{fr:List (Addr×Obj)}{h:Heap}{m:Str→Option Value}{c led:List (Addr×Obj)}(r:Rep' Γ W ρ H fr h m c led): ∀q∈W.sc::led,q.1≠h.objs.size:=fun q hq=>Nat.ne_of_lt (Heap.lt_size (r.get hq))
theorem Rep'.piIn{Γ:Cx}{W:Wd}{ρ:Lc}{H:Hp}{fr:List (Addr×Obj)}{h:Heap}{m:Str→Option Value}{c led:List (Addr×Obj)}(r:Rep' Γ W ρ H fr h m c led): ∀a∈W.pi,∃o,(a,o)∈W.sc::led:=by
 intro a ha
 obtain⟨i,hi,e⟩:=List.getElem_of_mem ha
 have hi':i<H.length:=r.R.len▸hi
 obtain⟨b,o,h1,h2,_⟩:=r.R.any (List.getElem?_eq_getElem hi')
 have:b=a:=by rw[List.getElem?_eq_getElem hi,e]at h1;exact(Option.some.inj h1).symm
 exact⟨_,this▸h2⟩
theorem Rep'.inLed{Γ:Cx}{W:Wd}{ρ:Lc}{H:Hp}{fr:List (Addr×Obj)}{h:Heap}{m:Str→Option Value}{c led:List (Addr×Obj)}(r:Rep' Γ W ρ H fr h m c led){i:Nat}{a:Addr}{o:Obj}(hi:i≠0)(ea:W.pi[i]?=some a)(hm:(a,o)∈W.sc::led): (a,o)∈led:=by
 rcases Zz7.mp hm with e | hm
 ·have e1:a=W.sc.1:=congrArg (·.1) e
  have hl:i<W.pi.length:=(Zz6.mp ea).1
  have:i=0:=(List.getElem?_inj hl r.R.nd).mp (by rw[ea,r.sc0,e1])
  exact absurd this hi
 ·exact hm
theorem Rep'.notSc{Γ:Cx}{W:Wd}{ρ:Lc}{H:Hp}{fr:List (Addr×Obj)}{h:Heap}{m:Str→Option Value}{c led:List (Addr×Obj)}(r:Rep' Γ W ρ H fr h m c led): ∀q∈led,q.1≠W.sc.1:=fun q hq e=>by
 have:=(r.N q hq).2.2
 rw[e,r.sc]at this
 cases this
theorem Rep'.newTup{Γ:Cx}{W:Wd}{ρ:Lc}{H:Hp}{fr:List (Addr×Obj)}{h h':Heap}{m:Str→Option Value}{c led:List (Addr×Obj)}{vs:List V}{xs:List Value}{k:Nat}{n:Addr}(r:Rep' Γ W ρ H fr h m c led)(F':Fr Γ.h₀ Γ.L h' m)(N':News Γ.h₀ Γ.L h' ((n,ZcD xs k)::led))(hn:∀q∈W.sc::led,q.1≠n)(hv:VRs W vs xs)(hl:vs.length≤ZN):
  ∃W',W.Le W'∧Rep Γ W' ρ H fr h'∧VR W' (.tup vs) (.ref n):=by
 have le:W.Le ⟨W.pi,(n,ZcD xs k)::W.tups,W.sc,W.ins⟩:=⟨List.prefix_refl _,fun q hq=>List.mem_cons_of_mem _ hq,rfl,fun _ h=>h,fun _ h=>.inl h⟩
 refine⟨⟨W.pi,(n,ZcD xs k)::W.tups,W.sc,W.ins⟩,le,⟨m,c,(n,ZcD xs k)::led,⟨F',N',?_,r.sc,r.sc0,fun q hq=>List.mem_cons_of_mem _ (r.frIn q hq),r.frOff,fun q hq=>List.mem_cons_of_mem _ (r.clIn q hq),r.clOff,r.apart,fun q hq t ht=>?_,fun q hq t ht=>?_,Γ.mono le r.own⟩⟩,.tup Zz5 hl (hv.mono le)⟩
 ·refine⟨r.R.len,r.R.nd,fun i us e ni=>?_,fun q hq=>?_,fun q hq=>?_,fun i us fs e hi=>?_,r.R.inlt,r.R.iuni⟩
  ·obtain⟨l,a,ys,j,h1,h2,h3⟩:=r.R.lists i us e ni
   exact⟨l,a,ys,j,h1,Zch h2 fun x hx=>List.mem_cons_of_mem _ hx,h3.mono le⟩
  ·rcases Zz7.mp hq with e | hq
   ·exact e▸List.mem_cons_of_mem _ Zz5
   ·exact Zch (r.R.tups q hq) fun x hx=>List.mem_cons_of_mem _ hx
  ·rcases Zz7.mp hq with e | hq
   ·exact .inl ⟨xs,k,by rw[e]⟩
   ·exact r.R.kind q hq
  ·obtain⟨l,a,od,ys,h1,h2,h3,h4⟩:=r.R.objs i us fs e hi
   exact⟨l,a,od,ys,h1,Zch h2 fun x hx=>List.mem_cons_of_mem _ hx,h3,h4.mono le⟩
 ·rcases Zz7.mp ht with e | ht
  ·rw[e]
   exact hn q (Zz2 _ (r.frIn q hq))
  ·exact r.frTup q hq t ht
 ·rcases Zz7.mp ht with e | ht
  ·rw[e]
   exact hn q (Zz2 _ (r.clIn q hq))
  ·exact r.clTup q hq t ht
theorem Rep.tuple{Γ:Cx}{W:Wd}{ρ:Lc}{H:Hp}{fr:List (Addr×Obj)}{h:Heap}{vs:List V}{xs:List Value}{k:Nat}(r:Rep Γ W ρ H fr h)(hv:VRs W vs xs)(hl:vs.length≤ZN):
  ∃W',W.Le W'∧Rep Γ W' ρ H fr (h.push (ZcD xs k))∧VR W' (.tup vs) (.ref h.objs.size):=by
 obtain⟨m,c,led,r⟩:=r
 exact r.newTup (r.F.push _) (News.push r.F r.N _) r.off hv hl
theorem Rep'.newList{Γ:Cx}{W:Wd}{ρ:Lc}{H:Hp}{fr:List (Addr×Obj)}{h h':Heap}{m:Str→Option Value}{c led:List (Addr×Obj)}{vs:List V}{xs:List Value}{k:Nat}{n:Addr}(r:Rep' Γ W ρ H fr h m c led)(F':Fr Γ.h₀ Γ.L h' m)(N':News Γ.h₀ Γ.L h' ((n,ZaO xs k)::led))(hn:∀q∈W.sc::led,q.1≠n)(hv:VRs W vs xs)(hl:vs.length≤ZN):
  ∃W',W.Le W'∧Rep Γ W' ρ (H++[vs]) fr h'∧VR W' (.ref H.length) (.ref n):=by
 have le:W.Le ⟨W.pi++[n],W.tups,W.sc,W.ins⟩:=⟨List.prefix_append _ _,fun q hq=>hq,rfl,fun _ h=>h,fun _ h=>.inl h⟩
 have h0:0<W.pi.length:=(Zz6.mp r.sc0).1
 have at_n:(W.pi++[n])[H.length]?=some n:=by rw[←r.R.len];simp
 have nin:∀q∈W.ins,q.1≠H.length:=fun q hq e=>by have:=r.R.inlt q hq;omega
 refine⟨⟨W.pi++[n],W.tups,W.sc,W.ins⟩,le,⟨m,c,(n,ZaO xs k)::led,⟨F',N',?_,r.sc,(List.getElem?_append_left h0).trans r.sc0,fun q hq=>List.mem_cons_of_mem _ (r.frIn q hq),fun q hq=>?_,fun q hq=>List.mem_cons_of_mem _ (r.clIn q hq),fun q hq=>?_,r.apart,r.frTup,r.clTup,Γ.mono le r.own⟩⟩,.ref ⟨at_n,nin⟩⟩
 ·refine⟨by simp[r.R.len],?_,fun i us e ni=>?_,fun q hq=>Zch (r.R.tups q hq) fun x hx=>List.mem_cons_of_mem _ hx,r.R.kind,fun i us fs e hi=>?_,fun q hq=>by have:=r.R.inlt q hq;simp;omega,r.R.iuni⟩
  ·show(W.pi++[n]).Nodup
   rw[List.nodup_append]
   refine⟨r.R.nd,by simp,fun a ha b hb=>?_⟩
   rw[List.mem_singleton.mp hb]
   obtain⟨o,ho⟩:=r.piIn a ha
   exact hn _ ho
  ·by_cases hi:i<H.length
   ·rw[List.getElem?_append_left hi]at e
    obtain⟨l,a,ys,j,h1,h2,h3⟩:=r.R.lists i us e ni
    exact⟨l,a,ys,j,le.piAt h1,Zch h2 fun x hx=>List.mem_cons_of_mem _ hx,h3.mono le⟩
   ·have:i=H.length:=by
     have:=(Zz6.mp e).1
     simp at this
     omega
    subst this
    simp at e
    subst e
    exact⟨hl,n,xs,k,at_n,List.mem_cons_of_mem _ Zz5,hv.mono le⟩
  ·have hi':i<H.length:=r.R.inlt _ hi
   rw[List.getElem?_append_left hi']at e
   obtain⟨l,a,od,ys,h1,h2,h3,h4⟩:=r.R.objs i us fs e hi
   exact⟨l,a,od,ys,le.piAt h1,Zch h2 fun x hx=>List.mem_cons_of_mem _ hx,h3,h4.mono le⟩
 ·intro hm
  rcases Zz8.mp hm with hm | hm
  ·exact r.frOff q hq hm
  ·exact hn q (Zz2 _ (r.frIn q hq)) (Zz9.mp hm)
 ·intro hm
  rcases Zz8.mp hm with hm | hm
  ·exact r.clOff q hq hm
  ·exact hn q (Zz2 _ (r.clIn q hq)) (Zz9.mp hm)
theorem Rep.list{Γ:Cx}{W:Wd}{ρ:Lc}{H:Hp}{fr:List (Addr×Obj)}{h:Heap}{vs:List V}{xs:List Value}{k:Nat}(r:Rep Γ W ρ H fr h)(hv:VRs W vs xs)(hl:vs.length≤ZN):
  ∃W',W.Le W'∧Rep Γ W' ρ (H++[vs]) fr (h.push (ZaO xs k))∧VR W' (.ref H.length) (.ref h.objs.size):=by
 obtain⟨m,c,led,r⟩:=r
 exact r.newList (r.F.push _) (News.push r.F r.N _) r.off hv hl
theorem Rep.at{Γ:Cx}{W:Wd}{ρ:Lc}{H:Hp}{fr:List (Addr×Obj)}{h:Heap}{i:Nat}{a:Addr}{vs:List V}(r:Rep Γ W ρ H fr h)(e:H[i]?=some vs)(ea:W.At i a): vs.length≤ZN∧∃xs k,h.get? a=some (ZaO xs k)∧VRs W vs xs:=by
 obtain⟨m,c,led,r⟩:=r
 obtain⟨l,b,xs,k,h1,h2,h3⟩:=r.R.lists i vs e ea.2
 rw[ea.1]at h1
 cases h1
 exact⟨l,xs,k,r.get h2,h3⟩
theorem Rep.tupAt{Γ:Cx}{W:Wd}{ρ:Lc}{H:Hp}{fr:List (Addr×Obj)}{h:Heap}{q:Addr×Obj}(r:Rep Γ W ρ H fr h)(e:q∈W.tups): h.get? q.1=some q.2:=by
 obtain⟨m,c,led,r⟩:=r
 exact r.get (r.R.tups _ e)
theorem Rep'.changed{Γ:Cx}{W:Wd}{ρ:Lc}{H:Hp}{fr:List (Addr×Obj)}{h h':Heap}{m:Str→Option Value}{c led:List (Addr×Obj)}{i:Nat}{a:Addr}{vs us:List V}{ys:List Value}{k:Nat}(r:Rep' Γ W ρ H fr h m c led)(i0:i≠0)(e:H[i]?=some vs)(ea:W.At i a)(F':Fr Γ.h₀ Γ.L h' m)(N':News Γ.h₀ Γ.L h' ((a,ZaO ys k)::led.filter (fun q=>decide (q.1≠a))))(hv:VRs W us ys)(hl:us.length≤ZN):
  Rep Γ W ρ (H.set i us) fr h':=by
 obtain⟨_,b,xs,j,h1,h2,h3⟩:=r.R.lists i vs e ea.2
 rw[ea.1]at h1
 cases h1
 have h2:=r.inLed i0 ea.1 h2
 have hN:=r.N _ h2
 have hm:a∈W.pi:=List.mem_of_getElem? ea.1
 have hi:i<H.length:=(Zz6.mp e).1
 refine⟨m,c,(a,ZaO ys k)::led.filter (fun q=>decide (q.1≠a)),⟨F',N',?_,r.sc,r.sc0,fun q hq=>?_,r.frOff,fun q hq=>?_,r.clOff,r.apart,r.frTup,r.clTup,r.own⟩⟩
 ·refine⟨by simp[r.R.len],r.R.nd,fun n ws en ni=>?_,fun q hq=>?_,r.R.kind,fun n ws fs en hi'=>?_,fun q hq=>by have:=r.R.inlt q hq;simpa using this,r.R.iuni⟩
  ·by_cases hn:n=i
   ·subst hn
    rw[List.getElem?_set_self hi]at en
    cases en
    exact⟨hl,a,ys,k,ea.1,List.mem_cons_of_mem _ Zz5,hv⟩
   ·rw[List.getElem?_set_ne (Ne.symm hn)]at en
    obtain⟨l,d,zs,j',g1,g2,g3⟩:=r.R.lists n ws en ni
    refine⟨l,d,zs,j',g1,Zbf g2 fun g2=>List.mem_cons_of_mem _ (List.mem_filter.mpr ⟨g2,?_⟩),g3⟩
    have:d≠a:=fun e=>by
     subst e
     exact hn ((List.getElem?_inj (Zz6.mp g1).1 r.R.nd).mp (g1.trans ea.1.symm))
    simpa using this
  ·refine Zbf (r.R.tups q hq) fun g2=>List.mem_cons_of_mem _ (List.mem_filter.mpr ⟨g2,?_⟩)
   have:q.1≠a:=fun e=>by
    have hk:=Zie (r.R.kind q hq)
    have g:=r.get (r.R.tups q hq)
    rw[e,hN.1]at g
    have c:=congrArg Obj.cls (Option.some.inj g)
    exact hk.1 c.symm
   simpa using this
  ·have hn:n≠i:=fun q=>ea.2 _ hi' q
   rw[List.getElem?_set_ne (Ne.symm hn)]at en
   obtain⟨l,d,od,zs,g1,g2,g3,g4⟩:=r.R.objs n ws fs en hi'
   refine⟨l,d,od,zs,g1,Zbf g2 fun g2=>List.mem_cons_of_mem _ (List.mem_filter.mpr ⟨g2,?_⟩),g3,g4⟩
   have:d≠a:=fun e=>by
    subst e
    exact hn ((List.getElem?_inj (Zz6.mp g1).1 r.R.nd).mp (g1.trans ea.1.symm))
   simpa using this
 ·refine Zz2 _ (List.mem_filter.mpr ⟨r.frIn q hq,?_⟩)
  have:q.1≠a:=fun e=>r.frOff q hq (e▸hm)
  simpa using this
 ·refine Zz2 _ (List.mem_filter.mpr ⟨r.clIn q hq,?_⟩)
  have:q.1≠a:=fun e=>r.clOff q hq (e▸hm)
  simpa using this
theorem Rep.change{Γ:Cx}{W:Wd}{ρ:Lc}{H:Hp}{fr:List (Addr×Obj)}{h h':Heap}{i:Nat}{a:Addr}{vs us:List V}{ys:List Value}{k:Nat}(r:Rep Γ W ρ H fr h)(i0:i≠0)(e:H[i]?=some vs)(ea:W.At i a)(sb:Heap.SameBut a h h')(ha:h'.get? a=some (ZaO ys k))(hv:VRs W us ys)(hl:us.length≤ZN):
  Rep Γ W ρ (H.set i us) fr h':=by
 obtain⟨m,c,led,r⟩:=r
 obtain⟨_,b,xs,j,h1,h2,h3⟩:=r.R.lists i vs e ea.2
 rw[ea.1]at h1
 cases h1
 have h2:=r.inLed i0 ea.1 h2
 have hN:=r.N _ h2
 have keep:∀q∈led,q.1≠a→h'.get? q.1=some q.2:=fun q hq hn=>sb.extBut _ _ hn (r.N q hq).1
 refine r.changed (k:=k) i0 e ea ⟨r.F.ns.sameBut sb (Ne.symm hN.2.1),fun b o eb=>sb.extBut b o (fun q=>?_) (r.F.keep b o eb),r.F.above⟩ (fun q hq=>?_) hv hl
 ·subst q
  rw[hN.2.2]at eb
  cases eb
 ·rcases Zz7.mp hq with e | hq
  ·subst e
   exact⟨ha,hN.2⟩
  ·obtain⟨h1,h2⟩:=List.mem_filter.mp hq
   exact⟨keep q h1 (by simpa using h2),(r.N q h1).2⟩
theorem Rep.swap{Γ:Cx}{W:Wd}{ρ:Lc}{H:Hp}{fs fs' fr:List (Addr×Obj)}{h h':Heap}(r:Rep Γ W ρ H (fs++fr) h)(ap:∀q∈fs,∀t∈fr,q.1≠t.1)(keep:∀b o,b∉fs.map (·.1)→h.get? b=some o→h'.get? b=some o)(new:∀q∈fs',h'.get? q.1=some q.2∧q.1∈fs.map (·.1)): Rep Γ W ρ H (fs'++fr) h':=by
 obtain⟨m,c,led,r⟩:=r
 have inF:∀q∈fs,q∈fs++fr:=fun q hq=>List.mem_append_left _ hq
 have nL:∀a∈fs.map (·.1),a≠Γ.L∧Γ.h₀.get? a=none:=fun a ha=>by
  obtain⟨q,hq,e⟩:=Zz11.mp ha
  exact e▸(r.N q (r.frIn q (inF q hq))).2
 have kp:∀q∈led,q.1∉fs.map (·.1)→h'.get? q.1=some q.2:=fun q hq hn=>keep _ _ hn (r.N q hq).1
 refine⟨m,c,fs'++led.filter (fun q=>decide (q.1∉fs.map (·.1))),⟨⟨?_,fun b o e=>?_,r.F.above⟩,fun q hq=>?_,⟨r.R.len,r.R.nd,fun i vs e ni=>?_,fun q hq=>?_,r.R.kind,fun i vs fn e hi=>?_,r.R.inlt,r.R.iuni⟩,r.sc,r.sc0,fun q hq=>?_,fun q hq=>?_,fun q hq=>?_,r.clOff,fun q hq t ht=>?_,fun q hq t ht=>?_,r.clTup,r.own⟩⟩
 ·obtain⟨o,es,ep,h1,h2⟩:=r.F.ns
  exact⟨o,es,ep,keep _ _ (fun q=>(nL _ q).1 rfl) h1,h2⟩
 ·refine keep b o (fun q=>?_) (r.F.keep b o e)
  rw[(nL b q).2]at e
  cases e
 ·rcases Zz8.mp hq with hq | hq
  ·obtain⟨h1,h2⟩:=new q hq
   exact⟨h1,nL _ h2⟩
  ·obtain⟨h1,h2⟩:=List.mem_filter.mp hq
   exact⟨kp q h1 (by simpa using h2),(r.N q h1).2⟩
 ·obtain⟨l,a,xs,k,h1,h2,h3⟩:=r.R.lists i vs e ni
  refine⟨l,a,xs,k,h1,Zbf h2 fun h2=>List.mem_append_right _ (List.mem_filter.mpr ⟨h2,?_⟩),h3⟩
  have:a∉fs.map (·.1):=fun q=>by
   obtain⟨t,ht,e⟩:=Zz11.mp q
   exact r.frOff t (inF t ht) (e▸List.mem_of_getElem? h1)
  simpa using this
 ·refine Zbf (r.R.tups q hq) fun h2=>List.mem_append_right _ (List.mem_filter.mpr ⟨h2,?_⟩)
  have:q.1∉fs.map (·.1):=fun z=>by
   obtain⟨t,ht,e⟩:=Zz11.mp z
   exact r.frTup t (inF t ht) q hq e
  simpa using this
 ·obtain⟨l,a,od,xs,h1,h2,h3⟩:=r.R.objs i vs fn e hi
  refine⟨l,a,od,xs,h1,Zbf h2 fun h2=>List.mem_append_right _ (List.mem_filter.mpr ⟨h2,?_⟩),h3⟩
  have:a∉fs.map (·.1):=fun q=>by
   obtain⟨t,ht,e⟩:=Zz11.mp q
   exact r.frOff t (inF t ht) (e▸List.mem_of_getElem? h1)
  simpa using this
 ·rcases Zz8.mp hq with hq | hq
  ·exact Zz4 _ hq
  ·refine Zz3 _ (List.mem_filter.mpr ⟨r.frIn q (Zz3 _ hq),?_⟩)
   have:q.1∉fs.map (·.1):=fun z=>by
    obtain⟨t,ht,e⟩:=Zz11.mp z
    exact ap t ht q hq e
   simpa using this
 ·rcases Zz8.mp hq with hq | hq
  ·obtain⟨t,ht,e⟩:=Zz11.mp (new q hq).2
   exact e▸r.frOff t (inF t ht)
  ·exact r.frOff q (Zz3 _ hq)
 ·refine Zz3 _ (List.mem_filter.mpr ⟨r.clIn q hq,?_⟩)
  have:q.1∉fs.map (·.1):=fun z=>by
   obtain⟨t,ht,e⟩:=Zz11.mp z
   exact r.apart q hq t (inF t ht) e.symm
  simpa using this
 ·rcases Zz8.mp ht with ht | ht
  ·obtain⟨u,hu,e⟩:=Zz11.mp (new t ht).2
   exact e▸r.apart q hq u (inF u hu)
  ·exact r.apart q hq t (Zz3 _ ht)
 ·rcases Zz8.mp hq with hq | hq
  ·obtain⟨u,hu,e⟩:=Zz11.mp (new q hq).2
   exact e▸r.frTup u (inF u hu) t ht
  ·exact r.frTup q (Zz3 _ hq) t ht
theorem Rep.more{Γ:Cx}{W:Wd}{ρ:Lc}{H:Hp}{fs fr:List (Addr×Obj)}{h h':Heap}(r:Rep Γ W ρ H fr h)(up:∀b o,h.get? b=some o→h'.get? b=some o)(new:∀q∈fs,h'.get? q.1=some q.2∧h.objs.size≤q.1): Rep Γ W ρ H (fs++fr) h'∧∀q∈fs,∀t∈fr,q.1≠t.1:=by
 have r':=r.grown up
 obtain⟨m,c,led,r⟩:=r
 have lt:∀q∈W.sc::led,q.1<h.objs.size:=fun q hq=>Heap.lt_size (r.get hq)
 have ne:∀q∈fs,∀t∈W.sc::led,q.1≠t.1:=fun q hq t ht=>Nat.ne_of_gt (Nat.lt_of_lt_of_le (lt t ht) (new q hq).2)
 refine⟨⟨m,c,fs++led,⟨⟨?_,fun b o e=>up b o (r.F.keep b o e),r.F.above⟩,fun q hq=>?_,r.R.mono fun q hq=>Zch hq fun x hx=>List.mem_append_right _ hx,r.sc,r.sc0,fun q hq=>?_,fun q hq=>?_,fun q hq=>List.mem_append_right _ (r.clIn q hq),r.clOff,fun q hq t ht=>?_,fun q hq t ht=>?_,r.clTup,r.own⟩⟩,fun q hq t ht=>ne q hq t (Zz2 _ (r.frIn t ht))⟩
 ·obtain⟨o,es,ep,h1,h2⟩:=r.F.ns
  exact⟨o,es,ep,up _ _ h1,h2⟩
 ·rcases Zz8.mp hq with hq | hq
  ·obtain⟨h1,h2⟩:=new q hq
   refine⟨h1,fun e=>?_,?_⟩
   ·exact absurd (e▸r.F.ns.lt) (Nat.not_lt.mpr h2)
   ·cases e:Γ.h₀.get? q.1 with
    | none=>rfl
    | some o=>exact absurd (Heap.lt_size (r.F.keep _ _ e)) (Nat.not_lt.mpr h2)
  ·exact⟨up _ _ (r.N q hq).1,(r.N q hq).2⟩
 ·rcases Zz8.mp hq with hq | hq
  ·exact Zz4 _ hq
  ·exact Zz3 _ (r.frIn q hq)
 ·rcases Zz8.mp hq with hq | hq
  ·intro hm
   obtain⟨o,ho⟩:=r.piIn _ hm
   exact ne q hq _ ho rfl
  ·exact r.frOff q hq
 ·rcases Zz8.mp ht with ht | ht
  ·exact(ne t ht q (Zz2 _ (r.clIn q hq))).symm
  ·exact r.apart q hq t ht
 ·rcases Zz8.mp hq with hq | hq
  ·exact ne q hq t (r.R.tups t ht)
  ·exact r.frTup q hq t ht
theorem Rep.less{Γ:Cx}{W:Wd}{ρ:Lc}{H:Hp}{fs fr:List (Addr×Obj)}{h:Heap}(r:Rep Γ W ρ H fs h)(sub:∀q∈fr,q∈fs): Rep Γ W ρ H fr h:=by
 obtain⟨m,c,led,r⟩:=r
 exact⟨m,c,led,⟨r.F,r.N,r.R,r.sc,r.sc0,fun q hq=>r.frIn q (sub q hq),fun q hq=>r.frOff q (sub q hq),r.clIn,r.clOff,fun q hq t ht=>r.apart q hq t (sub t ht),fun q hq=>r.frTup q (sub q hq),r.clTup,r.own⟩⟩
theorem Rep.frAt{Γ:Cx}{W:Wd}{ρ:Lc}{H:Hp}{fr:List (Addr×Obj)}{h:Heap}{q:Addr×Obj}(r:Rep Γ W ρ H fr h)(hq:q∈fr): h.get? q.1=some q.2:=by
 obtain⟨m,c,led,r⟩:=r
 exact(r.N q (r.frIn q hq)).1
end PM
end
section
namespace PM
open PySem PyProof.Rows PyProof
noncomputable abbrev Ex:=Lc→Hp→Option (V×Hp)
noncomputable abbrev ZT:=Lc→Hp→Option (List V×Hp)
noncomputable abbrev Ts:=Lc→Hp→Option (Bool×Hp)
noncomputable abbrev Zdz(Γ:Cx)(W:Wd)(ρ:Lc)(H:Hp)(fr:List (Addr×Obj))(s:Shared)(Q:Value→Shared→Prop)(v:V): Prop:=
 ∀(W':Wd) (h':Heap) (tk':Nat) (x:Value),W.Le W'→Rep Γ W' ρ H fr h'→VR W' v x→Q x { s with heap:=h',toks:=tk' }
noncomputable abbrev ZfA(Γ:Cx)(W:Wd)(ρ:Lc)(H:Hp)(fr:List (Addr×Obj))(s:Shared)(Q:Bool→Shared→Prop)(b:Bool): Prop:=
 ∀(W':Wd) (h':Heap) (tk':Nat),W.Le W'→Rep Γ W' ρ H fr h'→Q b { s with heap:=h',toks:=tk' }
section
variable (prog:Program) (w:World)
def J(Γ:Cx)(e:Expr)(f:Ex): Prop:=∀(W:Wd) (ρ:Lc) (H:Hp) (fr:List (Addr×Obj)) (s:Shared) (Q E:Value→Shared→Prop) (v:V) (H':Hp),
 Rep Γ W ρ H fr s.heap→f ρ H=some (v,H')→Zdz Γ W ρ H' fr s Q v→wpAny (model prog w) Γ.A (eval e Γ.env) Q E s
def Js(Γ:Cx)(es:List Expr)(f:ZT): Prop:=∀(pos:Pos) (W:Wd) (ρ:Lc) (H:Hp) (fr:List (Addr×Obj)) (s:Shared) (Q:List Value→Shared→Prop) (E:Value→Shared→Prop) (vs:List V) (H':Hp),
 Rep Γ W ρ H fr s.heap→f ρ H=some (vs,H')→(∀(W':Wd) (h':Heap) (tk':Nat) (xs:List Value),W.Le W'→Rep Γ W' ρ H' fr h'→VRs W' vs xs→Q xs { s with heap:=h',toks:=tk' })→wpAny (model prog w) Γ.A (spliced (backTo pos (starEach es Γ.env))) Q E s
def JT(Γ:Cx)(e:Expr)(f:Ts): Prop:=∀(W:Wd) (ρ:Lc) (H:Hp) (fr:List (Addr×Obj)) (s:Shared) (Q:Bool→Shared→Prop) (E:Value→Shared→Prop) (b:Bool) (H':Hp),
 Rep Γ W ρ H fr s.heap→f ρ H=some (b,H')→ZfA Γ W ρ H' fr s Q b→wpAny (model prog w) Γ.A (isTrue e Γ.env (eval e Γ.env)) Q E s
def Op2(m:Value→Value→Sem Value)(o:V→V→Hp→Option (V×Hp)): Prop:=∀(Γ:Cx) (W:Wd) (ρ:Lc) (H:Hp) (fr:List (Addr×Obj)) (s:Shared) (Q E:Value→Shared→Prop) (a b:V) (x y:Value) (v:V) (H':Hp),
 Rep Γ W ρ H fr s.heap→VR W a x→VR W b y→o a b H=some (v,H')→Zdz Γ W ρ H' fr s Q v→wpAny (model prog w) Γ.A (m x y) Q E s
def Op1(m:Value→Sem Value)(o:V→Hp→Option (V×Hp)): Prop:=∀(Γ:Cx) (W:Wd) (ρ:Lc) (H:Hp) (fr:List (Addr×Obj)) (s:Shared) (Q E:Value→Shared→Prop) (a:V) (x:Value) (v:V) (H':Hp),
 Rep Γ W ρ H fr s.heap→VR W a x→o a H=some (v,H')→Zdz Γ W ρ H' fr s Q v→wpAny (model prog w) Γ.A (m x) Q E s
def OpT(m:Value→Sem Bool)(o:V→Hp→Option Bool): Prop:=∀(Γ:Cx) (W:Wd) (ρ:Lc) (H:Hp) (fr:List (Addr×Obj)) (s:Shared) (Q:Bool→Shared→Prop) (E:Value→Shared→Prop) (a:V) (x:Value) (b:Bool),
 Rep Γ W ρ H fr s.heap→VR W a x→o a H=some b→ZfA Γ W ρ H fr s Q b→wpAny (model prog w) Γ.A (m x) Q E s
end
noncomputable def Zg(k:Int): Ex:=fun _ H=>some (.int k,H)
noncomputable def ZbT: Ex:=fun _ H=>some (.none,H)
noncomputable def Zbx(b:Bool): Ex:=fun _ H=>some (.bool b,H)
noncomputable def Zaa(x:Str): Ex:=fun _ H=>some (.str x,H)
noncomputable def Zb(i:Nat): Ex:=fun ρ H=>(ρ i).map fun v=>(v,H)
noncomputable def Zj(o:V→V→Hp→Option (V×Hp))(f g:Ex): Ex:=fun ρ H=>(f ρ H).bind fun p=>(g ρ p.2).bind fun q=>o p.1 q.1 q.2
noncomputable def eUn(o:V→Hp→Option (V×Hp))(f:Ex): Ex:=fun ρ H=>(f ρ H).bind fun p=>o p.1 p.2
noncomputable def Zh: ZT:=fun _ H=>some ([],H)
noncomputable def Za(f:Ex)(g:ZT): ZT:=fun ρ H=>(f ρ H).bind fun p=>(g ρ p.2).bind fun q=>some (p.1::q.1,q.2)
noncomputable def Z1(g:ZT): Ex:=fun ρ H=>(g ρ H).bind fun p=>if p.1.length≤ZN then some (.tup p.1,p.2)else none
noncomputable def ZY(g:ZT): Ex:=fun ρ H=>(g ρ H).bind fun p=>if p.1.length≤ZN then some (.ref p.2.length,p.2++[p.1])else none
noncomputable def Zeb: V→Hp→Option Bool
 | .bool b,_=>some b
 | .int i,_=>some (i != 0)
 | .none,_=>some false
 | _,_=>none
noncomputable def ZZ(f:Ex): Ts:=fun ρ H=>(f ρ H).bind fun p=>(Zeb p.1 p.2).map fun b=>(b,p.2)
noncomputable def ZbI(t:Ts): Ts:=fun ρ H=>(t ρ H).map fun p=>(!p.1,p.2)
noncomputable def ZaR: Ts:=fun _ H=>some (true,H)
noncomputable def Zce: Ts:=fun _ H=>some (false,H)
noncomputable def ZbZ(t u:Ts): Ts:=fun ρ H=>(t ρ H).bind fun p=>if p.1 then u ρ p.2 else some (false,p.2)
noncomputable def tOr(t u:Ts): Ts:=fun ρ H=>(t ρ H).bind fun p=>if p.1 then some (true,p.2)else u ρ p.2
noncomputable def ZfM(f:Ex): Ex:=fun ρ H=>(f ρ H).bind fun p=>(Zeb p.1 p.2).map fun b=>(.bool (!b),p.2)
noncomputable def ZdA(f g:Ex): Ex:=fun ρ H=>(f ρ H).bind fun p=>(Zeb p.1 p.2).bind fun b=>if b then g ρ p.2 else some p
section
variable {prog:Program} {w:World} {Γ:Cx}
theorem J.int(k:Int)(n:Nat)(pos:Pos): J prog w Γ (.Constant (.int k) n pos) (Zg k):=fun W ρ H fr s Q E v H' r e post=>by
 cases e
 exact wpAny_Constant_int (post W s.heap _ _ (.refl W) r (.int k _))
theorem J.none(n:Nat)(pos:Pos): J prog w Γ (.Constant .none n pos) ZbT:=fun W ρ H fr s Q E v H' r e post=>by
 cases e
 exact wpAny_Constant_none (post W s.heap s.toks _ (.refl W) r .none)
theorem J.bool(b:Bool)(n:Nat)(pos:Pos): J prog w Γ (.Constant (.bool b) n pos) (Zbx b):=fun W ρ H fr s Q E v H' r e post=>by
 cases e
 exact wpAny_Constant_bool (post W s.heap s.toks _ (.refl W) r (.bool b))
theorem J.str(x:Str)(n:Nat)(pos:Pos): J prog w Γ (.Constant (.str x) n pos) (Zaa x):=fun W ρ H fr s Q E v H' r e post=>by
 cases e
 exact wpAny_Constant_str (post W s.heap _ _ (.refl W) r (.str x _))
theorem ZP{e1 e2:Expr}{op:Operator}{pos:Pos}{f g:Ex}{o:V→V→Hp→Option (V×Hp)}(h1:J prog w Γ e1 f)(h2:J prog w Γ e2 g)(ho:Op2 prog w (binaryOp op) o): J prog w Γ (.BinOp e1 op e2 pos) (Zj o f g):=by
 intro W ρ H fr s Q E v H' r hf post
 obtain⟨p,e1,hf⟩:=Zz0.mp hf
 obtain⟨q,e2,e3⟩:=Zz0.mp hf
 refine wpAny_BinOp (h1 W ρ H fr s _ E _ _ r e1 fun W1 k1 t1 x l1 r1 x1=>?_)
 refine h2 W1 ρ _ fr _ _ E _ _ r1 e2 fun W2 k2 t2 y l2 r2 y2=>?_
 exact ho Γ W2 ρ _ fr _ Q E _ _ x y v H' r2 (x1.mono l2) y2 e3 fun W3 k3 t3 z l3 r3 z3=>post W3 k3 t3 z ((l1.trans l2).trans l3) r3 z3
theorem Zji{e1 e2:Expr}{op:CmpOp}{pos:Pos}{f g:Ex}{o:V→V→Hp→Option (V×Hp)}(h1:J prog w Γ e1 f)(h2:J prog w Γ e2 g)(ho:Op2 prog w (compareOp op) o)(hm:behindInMarks op e2=false:=by with_unfolding_all rfl): J prog w Γ (.Compare e1 [op] [e2] pos) (Zj o f g):=by
 intro W ρ H fr s Q E v H' r hf post
 obtain⟨p,e1,hf⟩:=Zz0.mp hf
 obtain⟨q,e2,e3⟩:=Zz0.mp hf
 refine wpAny_Compare1 (h1 W ρ H fr s _ E _ _ r e1 fun W1 k1 t1 x l1 r1 x1=>?_) hm
 refine h2 W1 ρ _ fr _ _ E _ _ r1 e2 fun W2 k2 t2 y l2 r2 y2=>?_
 exact ho Γ W2 ρ _ fr _ Q E _ _ x y v H' r2 (x1.mono l2) y2 e3 fun W3 k3 t3 z l3 r3 z3=>post W3 k3 t3 z ((l1.trans l2).trans l3) r3 z3
theorem Zhz{e1:Expr}{op:UnaryOp}{pos:Pos}{f:Ex}{o:V→Hp→Option (V×Hp)}(h1:J prog w Γ e1 f)(ho:Op1 prog w (unaryOp op) o): J prog w Γ (.UnaryOp op e1 pos) (eUn o f):=by
 intro W ρ H fr s Q E v H' r hf post
 obtain⟨p,e1,hf⟩:=Zz0.mp hf
 refine wpAny_UnaryOp (h1 W ρ H fr s _ E _ _ r e1 fun W1 k1 t1 x l1 r1 x1=>?_)
 exact ho Γ W1 ρ _ fr _ Q E _ x v H' r1 x1 hf fun W3 k3 t3 z l3 r3 z3=>post W3 k3 t3 z (l1.trans l3) r3 z3
theorem truth: OpT prog w truthy Zeb:=by
 intro Γ W ρ H fr s Q E a x b r hx ho post
 cases hx with
 | none=>cases ho;exact truthy_none (post W s.heap s.toks (.refl W) r)
 | bool c=>cases ho;exact fun _ _ _=>post W s.heap s.toks (.refl W) r
 | int i t=>cases ho;exact P.truthy_int (post W s.heap s.toks (.refl W) r)
 | str _ _=>cases ho
 | tup _ _ _=>cases ho
 | ref _=>cases ho
 | obj _ _ _ _=>cases ho
theorem ZmX{e1:Expr}{pos:Pos}{f:Ex}(h1:J prog w Γ e1 f): J prog w Γ (.UnaryOp .Not e1 pos) (ZfM f):=by
 intro W ρ H fr s Q E v H' r hf post
 obtain⟨p,e1,hf⟩:=Zz0.mp hf
 obtain⟨b,e2,e3⟩:=Zz1.mp hf
 cases e3
 refine wpAny_UnaryOp (h1 W ρ H fr s _ E _ _ r e1 fun W1 k1 t1 x l1 r1 x1=>?_)
 exact not_of (truth Γ W1 ρ _ fr _ _ E _ x b r1 x1 e2 fun W2 k2 t2 l2 r2=>post W2 k2 t2 _ (l1.trans l2) r2 (.bool _))
theorem Zjj{e1 e2:Expr}{pos:Pos}{f g:Ex}(h1:J prog w Γ e1 f)(h2:J prog w Γ e2 g): J prog w Γ (.BoolOp .And [e1,e2] pos) (ZdA f g):=by
 intro W ρ H fr s Q E v H' r hf post
 obtain⟨p,e1,hf⟩:=Zz0.mp hf
 obtain⟨b,e2,e3⟩:=Zz0.mp hf
 refine wpAny_And2 (h1 W ρ H fr s _ E _ _ r e1 fun W1 k1 t1 x l1 r1 x1=>?_)
 refine truth Γ W1 ρ _ fr _ _ E _ x b r1 x1 e2 fun W2 k2 t2 l2 r2=>?_
 cases b with
 | true=>exact h2 W2 ρ _ fr _ Q E v H' r2 e3 fun W3 k3 t3 z l3 r3 z3=>post W3 k3 t3 z ((l1.trans l2).trans l3) r3 z3
 | false=>
  cases e3
  exact post W2 k2 t2 x (l1.trans l2) r2 (x1.mono l2)
theorem Zq: Js prog w Γ [] Zh:=fun pos W ρ H fr s Q E vs H' r hf post=>by
 cases hf
 exact wpAny_items_nil (post W s.heap s.toks [] (.refl W) r .nil)
theorem Zf{e:Expr}{es:List Expr}{f:Ex}{g:ZT}(h1:J prog w Γ e f)(h2:Js prog w Γ es g)(he:starEach (e::es) Γ.env=(false,eval e Γ.env)::starEach es Γ.env:=by rfl): Js prog w Γ (e::es) (Za f g):=by
 intro pos W ρ H fr s Q E vs H' r hf post
 obtain⟨p,e1,hf⟩:=Zz0.mp hf
 obtain⟨q,e2,e3⟩:=Zz0.mp hf
 cases e3
 refine wpAny_items_cons (h1 W ρ H fr s _ E _ _ r e1 fun W1 k1 t1 x l1 r1 x1=>?_) he
 exact h2 pos W1 ρ _ fr _ _ E _ _ r1 e2 fun W2 k2 t2 ys l2 r2 y2=>post W2 k2 t2 _ (l1.trans l2) r2 (.cons (x1.mono l2) y2)
theorem J.tup{es:List Expr}{k:Nat}{pos:Pos}{g:ZT}(h:Js prog w Γ es g): J prog w Γ (.Tuple es k pos) (Z1 g):=by
 intro W ρ H fr s Q E v H' r hf post
 obtain⟨p,e1,hf⟩:=Zz0.mp hf
 by_cases hl:p.1.length≤ZN
 ·rw[if_pos hl]at hf
  cases hf
  refine wpAny_Tuple (h pos W ρ H fr s _ E _ _ r e1 fun W1 k1 t1 xs l1 r1 x1=>⟨Zbt (by rw[x1.length];exact hl),?_⟩)
  obtain⟨W2,l2,r2,v2⟩:=r1.tuple (k:=0) x1 hl
  exact post W2 _ _ _ (l1.trans l2) r2 v2
 ·rw[if_neg hl]at hf
  cases hf
theorem J.list{es:List Expr}{pos:Pos}{g:ZT}(h:Js prog w Γ es g): J prog w Γ (.List es pos) (ZY g):=by
 intro W ρ H fr s Q E v H' r hf post
 obtain⟨p,e1,hf⟩:=Zz0.mp hf
 by_cases hl:p.1.length≤ZN
 ·rw[if_pos hl]at hf
  cases hf
  refine wpAny_List (h pos W ρ H fr s _ E _ _ r e1 fun W1 k1 t1 xs l1 r1 x1=>⟨Zbt (by rw[x1.length];exact hl),?_⟩)
  obtain⟨W2,l2,r2,v2⟩:=r1.list (k:=0) x1 hl
  exact post W2 _ _ _ (l1.trans l2) r2 v2
 ·rw[if_neg hl]at hf
  cases hf
theorem Zct{e:Expr}{pos:Pos}{t:Ts}(h:JT prog w Γ e t): JT prog w Γ (.UnaryOp .Not e pos) (ZbI t):=by
 intro W ρ H fr s Q E b H' r hf post
 obtain⟨p,e1,e2⟩:=Zz1.mp hf
 cases e2
 exact isTrue_not (h W ρ H fr s _ E _ _ r e1 post)
def JA(prog:Program)(w:World)(Γ:Cx)(op:BoolOp)(es:List Expr)(f:Ts): Prop:=∀(W:Wd) (ρ:Lc) (H:Hp) (fr:List (Addr×Obj)) (s:Shared) (Q:Bool→Shared→Prop) (E:Value→Shared→Prop) (b:Bool) (H':Hp),
 Rep Γ W ρ H fr s.heap→f ρ H=some (b,H')→ZfA Γ W ρ H' fr s Q b→wpAny (model prog w) Γ.A (allTrue op es Γ.env) Q E s
theorem ZgK: JA prog w Γ .And [] ZaR:=fun W ρ H fr s Q E b H' r hf post=>by
 cases hf
 exact wpAny_allTrue_And_nil (post W s.heap s.toks (.refl W) r)
theorem Zdg: JA prog w Γ .Or [] Zce:=fun W ρ H fr s Q E b H' r hf post=>by
 cases hf
 exact wpAny_allTrue_Or_nil (post W s.heap s.toks (.refl W) r)
theorem Zdd{e:Expr}{es:List Expr}{t u:Ts}(h1:JT prog w Γ e t)(h2:JA prog w Γ .And es u): JA prog w Γ .And (e::es) (ZbZ t u):=by
 intro W ρ H fr s Q E b H' r hf post
 obtain⟨p,e1,hf⟩:=Zz0.mp hf
 refine wpAny_allTrue_And_cons (h1 W ρ H fr s _ E _ _ r e1 fun W1 k1 t1 l1 r1=>?_)
 obtain⟨c,H1⟩:=p
 cases c with
 | true=>exact h2 W1 ρ _ fr _ Q E b H' r1 hf fun W3 k3 t3 l3 r3=>post W3 k3 t3 (l1.trans l3) r3
 | false=>
  cases hf
  exact post W1 k1 t1 l1 r1
theorem Zbb{e:Expr}{es:List Expr}{t u:Ts}(h1:JT prog w Γ e t)(h2:JA prog w Γ .Or es u): JA prog w Γ .Or (e::es) (tOr t u):=by
 intro W ρ H fr s Q E b H' r hf post
 obtain⟨p,e1,hf⟩:=Zz0.mp hf
 refine wpAny_allTrue_Or_cons (h1 W ρ H fr s _ E _ _ r e1 fun W1 k1 t1 l1 r1=>?_)
 obtain⟨c,H1⟩:=p
 cases c with
 | false=>exact h2 W1 ρ _ fr _ Q E b H' r1 hf fun W3 k3 t3 l3 r3=>post W3 k3 t3 (l1.trans l3) r3
 | true=>
  cases hf
  exact post W1 k1 t1 l1 r1
theorem Zca{op:BoolOp}{es:List Expr}{pos:Pos}{t:Ts}(h:JA prog w Γ op es t): JT prog w Γ (.BoolOp op es pos) t:=fun W ρ H fr s Q E b H' r hf post=>wpAny_isTrue_BoolOp (h W ρ H fr s Q E b H' r hf post)
theorem JT.val{e:Expr}{f:Ex}(h:J prog w Γ e f)(he:isTrue e Γ.env (eval e Γ.env)=(do let v ←eval e Γ.env;standAt e.pos;holding [v] (truthy v)):=by rfl): JT prog w Γ e (ZZ f):=by
 intro W ρ H fr s Q E b H' r hf post
 obtain⟨p,e1,hf⟩:=Zz0.mp hf
 obtain⟨c,e2,e3⟩:=Zz1.mp hf
 cases e3
 refine isTrue_plain (h W ρ H fr s _ E _ _ r e1 fun W1 k1 t1 x l1 r1 x1=>?_) he
 exact truth Γ W1 ρ _ fr _ _ E _ x b r1 x1 e2 fun W2 k2 t2 l2 r2=>post W2 k2 t2 (l1.trans l2) r2
theorem Zal{e1 e2:Expr}{op:CmpOp}{pos:Pos}{f g:Ex}{o:V→V→Hp→Option (V×Hp)}(h1:J prog w Γ e1 f)(h2:J prog w Γ e2 g)(ho:Op2 prog w (compareOp op) o)(hm:behindInMarks op e2=false:=by with_unfolding_all rfl): JT prog w Γ (.Compare e1 [op] [e2] pos) (ZZ (Zj o f g)):=by
 intro W ρ H fr s Q E b H' r hf post
 obtain⟨pp,e0,hf0⟩:=Zz0.mp hf
 obtain⟨c,e4,e5⟩:=Zz1.mp hf0
 cases e5
 obtain⟨p,e1,hf⟩:=Zz0.mp e0
 obtain⟨q,e2,e3⟩:=Zz0.mp hf
 refine wpAny_isTrue_Compare1 (h1 W ρ H fr s _ E _ _ r e1 fun W1 k1 t1 x l1 r1 x1=>?_) hm
 refine h2 W1 ρ _ fr _ _ E _ _ r1 e2 fun W2 k2 t2 y l2 r2 y2=>?_
 refine ho Γ W2 ρ _ fr _ _ E _ _ x y _ _ r2 (x1.mono l2) y2 e3 fun W3 k3 t3 z l3 r3 z3=>?_
 exact truth Γ W3 ρ _ fr _ _ E _ z b r3 z3 e4 fun W4 k4 t4 l4 r4=>post W4 k4 t4 (((l1.trans l2).trans l3).trans l4) r4
end
end PM
end
section
namespace PM
open PySem PyProof.Rows PyProof
noncomputable def Zci(a b:Int): Bool:=!(decide (Builtin.Int.intBits a>shortFactorBits) && decide (Builtin.Int.intBits b>shortFactorBits) && Builtin.Int.intTooBig (Builtin.Int.intBits a+Builtin.Int.intBits b))
theorem ZkC{a b:Int}(h:Zci a b=true): IntMulOk a b:=by
 unfold Zci at h
 unfold IntMulOk
 intro c
 rw[c]at h
 cases h
noncomputable def ZaP: V→V→Hp→Option (V×Hp)
 | .int a,.int b,H=>some (.int (a-b),H)
 | _,_,_=>none
noncomputable def oDiv: V→V→Hp→Option (V×Hp)
 | .int a,.int b,H=>if b≠0∧Builtin.divisionGoesByPylong a b=false then some (.int (a.fdiv b),H)else none
 | _,_,_=>none
noncomputable def oMod: V→V→Hp→Option (V×Hp)
 | .int a,.int b,H=>if b≠0 then some (.int (a.fmod b),H)else none
 | _,_,_=>none
noncomputable def oPow: V→V→Hp→Option (V×Hp)
 | .int a,.int b,H=>if 0≤b∧(Builtin.Int.intBits a:Int)*b≤2 ^ 27 then some (.int (a ^ b.toNat),H)else none
 | _,_,_=>none
noncomputable def ZdB: V→Hp→Option (V×Hp)
 | .int a,H=>some (.int (-a),H)
 | _,_=>none
noncomputable def ZhA(p:Int→Int→Bool): V→V→Hp→Option (V×Hp)
 | .int a,.int b,H=>some (.bool (p a b),H)
 | _,_,_=>none
noncomputable def oLt:=ZhA fun a b=>decide (a<b)
noncomputable def oGt:=ZhA fun a b=>decide (b<a)
section
variable {prog:Program} {w:World}
theorem ok_sub: Op2 prog w (binaryOp .Sub) ZaP:=by
 intro Γ W ρ H fr s Q E a b x y v H' r hx hy ho post
 cases hx <;> first | (cases ho;done) | skip
 cases hy <;> first | (cases ho;done) | skip
 cases ho
 exact PySem.P.sub_int (post W s.heap _ _ (.refl W) r (.int _ _))
theorem ZiX: Op2 prog w (binaryOp .Mod) oMod:=by
 intro Γ W ρ H fr s Q E a b x y v H' r hx hy ho post
 cases hx <;> first | (cases ho;done) | skip
 cases hy <;> first | (cases ho;done) | skip
 rename_i i t j u
 simp only[oMod]at ho
 by_cases hb:j≠0
 ·rw[if_pos hb]at ho
  cases ho
  exact mod_int' hb (post W s.heap _ _ (.refl W) r (.int _ _))
 ·rw[if_neg hb]at ho
  cases ho
theorem Zl5: Op2 prog w (binaryOp .FloorDiv) oDiv:=by
 intro Γ W ρ H fr s Q E a b x y v H' r hx hy ho post
 cases hx <;> first | (cases ho;done) | skip
 cases hy <;> first | (cases ho;done) | skip
 rename_i i t j u
 simp only[oDiv]at ho
 by_cases hb:j≠0∧Builtin.divisionGoesByPylong i j=false
 ·rw[if_pos hb]at ho
  cases ho
  exact floordiv_int hb.1 (post W s.heap _ _ (.refl W) r (.int _ _)) (.inl hb.2)
 ·rw[if_neg hb]at ho
  cases ho
theorem Zcu: Op2 prog w (binaryOp .Pow) oPow:=by
 intro Γ W ρ H fr s Q E a b x y v H' r hx hy ho post
 cases hx <;> first | (cases ho;done) | skip
 cases hy <;> first | (cases ho;done) | skip
 rename_i i t j u
 simp only[oPow]at ho
 by_cases hb:0≤j∧(Builtin.Int.intBits i:Int)*j≤2 ^ 27
 ·rw[if_pos hb]at ho
  cases ho
  exact pow_int hb.1 hb.2 (post W s.heap _ _ (.refl W) r (.int _ _))
 ·rw[if_neg hb]at ho
  cases ho
theorem Zhn: Op1 prog w (unaryOp .USub) ZdB:=by
 intro Γ W ρ H fr s Q E a x v H' r hx ho post
 cases hx <;> first | (cases ho;done) | skip
 cases ho
 exact PySem.P.neg_int (post W s.heap _ _ (.refl W) r (.int _ _))
theorem Zek: Op2 prog w (compareOp .Lt) oLt:=by
 intro Γ W ρ H fr s Q E a b x y v H' r hx hy ho post
 cases hx <;> first | (cases ho;done) | skip
 cases hy <;> first | (cases ho;done) | skip
 cases ho
 exact PySem.P.lt_int (post W s.heap s.toks _ (.refl W) r (.bool _))
theorem ok_gt: Op2 prog w (compareOp .Gt) oGt:=by
 intro Γ W ρ H fr s Q E a b x y v H' r hx hy ho post
 cases hx <;> first | (cases ho;done) | skip
 cases hy <;> first | (cases ho;done) | skip
 cases ho
 exact PySem.P.gt_int (post W s.heap s.toks _ (.refl W) r (.bool _))
end
end PM
end
section
namespace PM
open PySem PyProof.Rows PyProof
noncomputable def ZdC(f:V→Option PyData): List V→Option (List PyData)
 | []=>some []
 | v::vs=>(f v).bind fun d=>(ZdC f vs).bind fun ds=>some (d::ds)
noncomputable def toD(H:Hp): Nat→V→Option PyData
 | _,.none=>some .none
 | _,.bool b=>some (.bool b)
 | _,.int i=>some (.int i)
 | _,.str x=>some (.str x)
 | n+1,.tup vs=>(ZdC (toD H n) vs).map .tuple
 | n+1,.ref a=>H[a]?.bind fun vs=>(ZdC (toD H n) vs).map .list
 | 0,.tup _=>none
 | 0,.ref _=>none
 | _,.obj _ _=>none
theorem Zgz{W:Wd}{h:Heap}{f:V→Option PyData}(ih:∀v x d,VR W v x→f v=some d→∃as,Reads h x d as): ∀{vs:List V} {xs:List Value} {ds:List PyData},VRs W vs xs→ZdC f vs=some ds→∃as,ReadsAll h xs ds as
 | _,_,_,.nil,e=>by
  cases e
  exact⟨_,.nil⟩
 | _,_,_,.cons a r,e=>by
  obtain⟨d,e1,e⟩:=Zz0.mp e
  obtain⟨ds,e2,e3⟩:=Zz0.mp e
  cases e3
  obtain⟨as,h1⟩:=ih _ _ _ a e1
  obtain⟨bs,h2⟩:=Zgz ih r e2
  exact⟨_,.cons h1 h2⟩
theorem ZeX{Γ:Cx}{W:Wd}{ρ:Lc}{H:Hp}{fr:List (Addr×Obj)}{h:Heap}(r:Rep Γ W ρ H fr h): ∀(n:Nat) (v:V) (x:Value) (d:PyData),VR W v x→toD H n v=some d→∃as,Reads h x d as:=by
 intro n
 induction n with
 | zero=>
  intro v x d hv e
  cases hv with
  | none=>cases e;exact⟨_,.none⟩
  | bool b=>cases e;exact⟨_,.bool b⟩
  | int i t=>cases e;exact⟨_,.int i t⟩
  | str y t=>cases e;exact⟨_,.str y t⟩
  | tup _ _ _=>cases e
  | ref _=>cases e
  | obj _ _ _ _=>cases e
 | succ n ih=>
  intro v x d hv e
  cases hv with
  | none=>cases e;exact⟨_,.none⟩
  | bool b=>cases e;exact⟨_,.bool b⟩
  | int i t=>cases e;exact⟨_,.int i t⟩
  | str y t=>cases e;exact⟨_,.str y t⟩
  | @tup vs a xs k hm hl hs=>
   obtain⟨ds,e1,e2⟩:=Zz1.mp e
   subst e2
   obtain⟨as,h1⟩:=Zgz ih hs e1
   exact⟨_,.tuple (r.tupAt hm) rfl rfl (by simpa using h1)⟩
  | @ref i a ea=>
   obtain⟨vs,e0,e⟩:=Zz0.mp e
   obtain⟨ds,e1,e2⟩:=Zz1.mp e
   subst e2
   obtain⟨hl,xs,k,hg,hs⟩:=r.at e0 ea
   obtain⟨as,h1⟩:=Zgz ih hs e1
   exact⟨_,.list hg rfl rfl (by simpa using h1)⟩
  | obj _ _ _ _=>cases e
noncomputable def ZbC: Nat:=40
noncomputable def ZfN(a b:V)(H:Hp): Option Bool:=(toD H ZbC a).bind fun d=>(toD H ZbC b).bind fun e=>if SeqAt.shaped d=true∧SeqAt.shaped e=true then some (PyData.eqv d e)else none
noncomputable def oEq(a b:V)(H:Hp): Option (V×Hp):=(ZfN a b H).map fun c=>(.bool c,H)
noncomputable def oNe(a b:V)(H:Hp): Option (V×Hp):=(ZfN a b H).map fun c=>(.bool (!c),H)
section
variable {prog:Program} {w:World}
theorem ok_eq: Op2 prog w (compareOp .Eq) oEq:=by
 intro Γ W ρ H fr s Q E a b x y v H' r hx hy ho post
 obtain⟨c,e1,e2⟩:=Zz1.mp ho
 cases e2
 obtain⟨d,h1,e1⟩:=Zz0.mp e1
 obtain⟨e,h2,e1⟩:=Zz0.mp e1
 by_cases hs:SeqAt.shaped d=true∧SeqAt.shaped e=true
 ·rw[if_pos hs]at e1
  cases e1
  obtain⟨as,R1⟩:=ZeX r ZbC a x d hx h1
  obtain⟨bs,R2⟩:=ZeX r ZbC b y e hy h2
  exact eq_dataH R1 R2 hs.1 hs.2 (by have:=Γ.hu;omega) (post W s.heap s.toks _ (.refl W) r (.bool _))
 ·rw[if_neg hs]at e1
  cases e1
theorem ok_ne: Op2 prog w (compareOp .NotEq) oNe:=by
 intro Γ W ρ H fr s Q E a b x y v H' r hx hy ho post
 obtain⟨c,e1,e2⟩:=Zz1.mp ho
 cases e2
 obtain⟨d,h1,e1⟩:=Zz0.mp e1
 obtain⟨e,h2,e1⟩:=Zz0.mp e1
 by_cases hs:SeqAt.shaped d=true∧SeqAt.shaped e=true
 ·rw[if_pos hs]at e1
  cases e1
  obtain⟨as,R1⟩:=ZeX r ZbC a x d hx h1
  obtain⟨bs,R2⟩:=ZeX r ZbC b y e hy h2
  exact ne_dataH R1 R2 hs.1 hs.2 (by have:=Γ.hu;omega) (post W s.heap s.toks _ (.refl W) r (.bool _))
 ·rw[if_neg hs]at e1
  cases e1
end
end PM
end
section
namespace PM
open PySem PyProof.Rows PyProof
noncomputable def Zu: V→V→Hp→Option (V×Hp)
 | .ref a,.int k,H=>H[a]?.bind fun vs=>(seqIndex? k vs.length).bind fun j=>vs[j]?.map fun v=>(v,H)
 | .tup vs,.int k,H=>(seqIndex? k vs.length).bind fun j=>vs[j]?.map fun v=>(v,H)
 | _,_,_=>none
theorem ZhT{k:Int}{n j:Nat}(h:seqIndex? k n=some j): j<n∧(k:Int)<n∧-(n:Int)≤k∧(0≤k→k.toNat=j)∧(k<0→(k+n).toNat=j):=by
 unfold seqIndex? at h
 by_cases c:k<0
 ·simp only[c,if_true]at h
  split at h
  ·rename_i d
   simp at d h
   omega
  ·cases h
 ·simp only[c,if_false]at h
  split at h
  ·rename_i d
   simp at d h
   omega
  ·cases h
section
variable {prog:Program} {w:World} {Γ:Cx}
theorem ZB{e1 e2:Expr}{pos:Pos}{f g:Ex}(h1:J prog w Γ e1 f)(h2:J prog w Γ e2 g)(hs:∀a k u,subscripted e2 false (.ref a) (.int k u)=operate [.ref a,.int k u] (getItem (.ref a) (.int k u)):=by intros;with_unfolding_all rfl): J prog w Γ (.Subscript e1 e2 pos) (Zj Zu f g):=by
 intro W ρ H fr s Q E v H' r hf post
 obtain⟨p,e1,hf⟩:=Zz0.mp hf
 obtain⟨q,e2,e3⟩:=Zz0.mp hf
 refine Subscript_ (h1 W ρ H fr s _ E _ _ r e1 fun W1 k1 t1 x l1 r1 x1=>?_)
 refine h2 W1 ρ _ fr _ _ E _ _ r1 e2 fun W2 k2 t2 y l2 r2 y2=>?_
 have x2:=x1.mono l2
 obtain⟨v1,H1⟩:=p
 obtain⟨v2,H2⟩:=q
 simp only at e3 r2 x2 y2
 cases y2 <;> first | (cases x2 <;> cases e3;done) | skip
 rename_i k u
 cases x2 <;> first | (cases e3;done) | skip
 ·rename_i vs a xs kk hm hl hv
  obtain⟨j,hj,e4⟩:=Zz0.mp e3
  obtain⟨z,hz,e5⟩:=Zz1.mp e4
  cases e5
  obtain⟨z',hz',rz⟩:=hv.at hz
  have hx:xs.length=vs.length:=hv.length
  have hb:=ZhT hj
  rw[Zas]at hl
  have it:IsTup k2 a xs.toArray:=⟨_,r2.tupAt hm,rfl,kk,rfl⟩
  exact item_tupleT it (by omega) (by omega) (by rw[hx];exact hj) hz' (post W2 k2 t2 z' (l1.trans l2) r2 rz) (hs _ _ _)
 ·rename_i i a ea
  obtain⟨vs,hvs,e3⟩:=Zz0.mp e3
  obtain⟨j,hj,e4⟩:=Zz0.mp e3
  obtain⟨z,hz,e5⟩:=Zz1.mp e4
  cases e5
  obtain⟨hl,xs,kk,hg,hv⟩:=r2.at hvs ea
  obtain⟨z',hz',rz⟩:=hv.at hz
  have hx:xs.length=vs.length:=hv.length
  have hb:=ZhT hj
  rw[Zas]at hl
  have isl:k2.IsList a xs.toArray:=⟨_,hg,rfl,kk,rfl⟩
  refine tail_any (s:={ s with heap:=k2,toks:=t2 }) isl.typeIs slot_list_getitem.lookup ?_ (hs _ _ _)
  by_cases hk:0≤k
  ·exact wpAny_getItem_list isl hk (by omega) (by rw[hb.2.2.2.1 hk];simpa using hz') (post W2 k2 t2 z' (l1.trans l2) r2 rz)
  ·refine wpAny_getItem_list_neg isl (by omega) (by simp;omega) (by omega) ?_ (post W2 k2 t2 z' (l1.trans l2) r2 rz)
   have:=hb.2.2.2.2 (by omega)
   rw[←hx]at this
   simpa [this]using hz'
end
noncomputable def ZaJ{α:Type}(vs:List α)(lo hi:Option Int): List α:=(sliceRange (sliceBounds lo hi none vs.length).1 (sliceBounds lo hi none vs.length).2.1 (sliceBounds lo hi none vs.length).2.2).filterMap fun i=>vs[i]?
theorem VRs.pick{W:Wd}{vs:List V}{xs:List Value}(h:VRs W vs xs)(l:List Nat): VRs W (l.filterMap fun i=>vs[i]?) (l.filterMap fun i=>xs[i]?):=by
 induction l with
 | nil=>exact .nil
 | cons i l ih=>
  simp only[List.filterMap_cons]
  have hl:=h.length
  cases e:vs[i]? with
  | none=>
   have:xs[i]?=none:=by rw[List.getElem?_eq_none_iff]at e ⊢;omega
   rw[this]
   exact ih
  | some v=>
   obtain⟨x,hx,hr⟩:=h.at e
   rw[hx]
   exact .cons hr ih
theorem Zif{α:Type}(vs:List α)(lo hi:Option Int): (ZaJ vs lo hi).length≤vs.length:=by
 unfold ZaJ
 refine Nat.le_trans (List.length_filterMap_le _ _) ?_
 refine sliceRange_length_le _ _ _ _ (fun _=>?_) fun c=>?_
 ·unfold sliceBounds
  cases lo <;> cases hi <;> simp <;> omega
 ·exact absurd (by unfold sliceBounds;simp) c
theorem ZkD{α:Type}(vs:List α)(a:Nat): ∀m:Nat,a+m≤vs.length→((List.range m).map fun k=>a+k).filterMap (fun i=>vs[i]?)=(vs.drop a).take m:=by
 intro m
 induction m with
 | zero=>intro _;simp
 | succ m ih=>
  intro h
  rw[List.range_succ,List.map_append,List.filterMap_append,ih (by omega),List.take_add_one]
  congr 1
  simp only[List.map_cons,List.map_nil,List.filterMap_cons,List.filterMap_nil,List.getElem?_drop]
  cases e:vs[a+m]? with
  | none=>rw[List.getElem?_eq_none_iff]at e;omega
  | some v=>rfl
theorem Zfe{α:Type}(vs:List α)(lo hi:Option Int){a b:Nat}(ha:(sliceBounds lo hi none vs.length).1=(a:Int))(hb:(sliceBounds lo hi none vs.length).2.1=(b:Int))(h:b≤vs.length): ZaJ vs lo hi=(vs.drop a).take (b-a):=by
 have hc:(sliceBounds lo hi none vs.length).2.2=1:=by unfold sliceBounds;rfl
 unfold ZaJ
 rw[ha,hb,hc]
 have e:sliceRange (a:Int) (b:Int) 1=(List.range (b-a)).map fun k=>a+k:=by
  unfold sliceRange
  simp only[show(1:Int)>0 from by decide,if_true]
  by_cases c:(a:Int)<b
  ·rw[if_pos c]
   have:((b:Int)-a+1-1) / 1=((b-a:Nat):Int):=by omega
   rw[this]
   simp only[Int.toNat_natCast]
   refine List.map_congr_left fun k _=>?_
   omega
  ·rw[if_neg c]
   have:b-a=0:=by omega
   rw[this]
   rfl
 rw[e]
 by_cases c:a≤b
 ·exact ZkD vs a (b-a) (by omega)
 ·have:b-a=0:=by omega
  rw[this]
  simp
theorem Zki{α:Type}(vs:List α){k:Int}{a:Nat}(e:k=(a:Int)): ZaJ vs (some k) none=vs.drop a:=by
 by_cases h:a≤vs.length
 ·rw[Zfe vs (some k) none (a:=a) (b:=vs.length) (by unfold sliceBounds;simp;omega) (by unfold sliceBounds;simp) (Zz10 _)]
  rw[List.take_of_length_le (by simp)]
 ·rw[Zfe vs (some k) none (a:=vs.length) (b:=vs.length) (by unfold sliceBounds;simp;omega) (by unfold sliceBounds;simp) (Zz10 _)]
  simp
  omega
theorem Zla{α:Type}(vs:List α){k:Int}{a:Nat}(e:k=(a:Int)): ZaJ vs none (some k)=vs.take a:=by
 by_cases h:a≤vs.length
 ·rw[Zfe vs none (some k) (a:=0) (b:=a) (by unfold sliceBounds;simp) (by unfold sliceBounds;simp;omega) h]
  simp
 ·rw[Zfe vs none (some k) (a:=0) (b:=vs.length) (by unfold sliceBounds;simp) (by unfold sliceBounds;simp;omega) (Zz10 _)]
  rw[List.drop_zero,Nat.sub_zero,List.take_of_length_le (Zz10 _),List.take_of_length_le (by omega)]
noncomputable def Zel: Option V→Option (Option Int)
 | none=>some none
 | some (.int k)=>some (some k)
 | _=>none
noncomputable abbrev Pt:=Lc→Hp→Option (Option V×Hp)
noncomputable def Zc1: Pt:=fun _ H=>some (none,H)
noncomputable def Zc2(f:Ex): Pt:=fun ρ H=>(f ρ H).map fun p=>(some p.1,p.2)
noncomputable def Zcf(f:Ex)(lo hi:Pt): Ex:=fun ρ H=>(f ρ H).bind fun p=>(lo ρ p.2).bind fun q=>(hi ρ q.2).bind fun u=>(Zel q.1).bind fun a=>(Zel u.1).bind fun b=>match p.1 with
 | .ref i=>u.2[i]?.bind fun vs=>some (.ref u.2.length,u.2++[ZaJ vs a b])
 | _=>none
inductive VP(W:Wd): Option V→Value→Prop where
 | none:VP W none .none
 | some {v:V} {x:Value}:VR W v x→VP W (some v) x
theorem VP.mono{W W':Wd}{v:Option V}{x:Value}(l:W.Le W')(h:VP W v x): VP W' v x:=by
 cases h with
 | none=>exact .none
 | some h=>exact .some (h.mono l)
theorem VP.part{W:Wd}{v:Option V}{x:Value}{k:Option Int}(h:VP W v x)(e:Zel v=Option.some k): IsPart x k:=by
 cases h with
 | none=>cases e;exact .none
 | some h=>cases h <;> cases e;exact .int _ _
def JP(prog:Program)(w:World)(Γ:Cx)(e:Option Expr)(f:Pt): Prop:=∀(W:Wd) (ρ:Lc) (H:Hp) (fr:List (Addr×Obj)) (s:Shared) (Q E:Value→Shared→Prop) (v:Option V) (H':Hp),
 Rep Γ W ρ H fr s.heap→f ρ H=some (v,H')→(∀(W':Wd) (h':Heap) (tk':Nat) (x:Value),W.Le W'→Rep Γ W' ρ H' fr h'→VP W' v x→Q x { s with heap:=h',toks:=tk' })→wpAny (model prog w) Γ.A (evalPart e Γ.env) Q E s
section
variable {prog:Program} {w:World} {Γ:Cx}
theorem JP.none: JP prog w Γ none Zc1:=fun W ρ H fr s Q E v H' r hf post=>by
 cases hf
 exact wpAny_evalPart_none (post W s.heap s.toks _ (.refl W) r .none)
theorem JP.some{e:Expr}{f:Ex}(h:J prog w Γ e f): JP prog w Γ (some e) (Zc2 f):=fun W ρ H fr s Q E v H' r hf post=>by
 obtain⟨p,e1,e2⟩:=Zz1.mp hf
 cases e2
 exact wpAny_evalPart_some (h W ρ H fr s _ E _ _ r e1 fun W1 k1 t1 x l1 r1 x1=>post W1 k1 t1 x l1 r1 (.some x1))
theorem Zlb{e:Expr}{lo hi:Option Expr}{p pos:Pos}{f:Ex}{a b:Pt}(h:J prog w Γ e f)(hlo:JP prog w Γ lo a)(hhi:JP prog w Γ hi b)(ht:∀o r,letTemporaryGo e o r=pure ():=by intro _ _;rfl): J prog w Γ (.Subscript e (.Slice lo hi Option.none p) pos) (Zcf f a b):=by
 intro W ρ H fr s Q E v H' r hf post
 obtain⟨p,e1,hf⟩:=Zz0.mp hf
 obtain⟨q,e2,hf⟩:=Zz0.mp hf
 obtain⟨u,e3,hf⟩:=Zz0.mp hf
 obtain⟨ka,e4,hf⟩:=Zz0.mp hf
 obtain⟨kb,e5,hf⟩:=Zz0.mp hf
 refine wpAny_Subscript_list_slice (h W ρ H fr s _ E _ _ r e1 fun W1 k1 t1 x l1 r1 x1=>?_) ht
 refine hlo W1 ρ _ fr _ _ E _ _ r1 e2 fun W2 k2 t2 y l2 r2 y2=>?_
 refine hhi W2 ρ _ fr _ _ E _ _ r2 e3 fun W3 k3 t3 z l3 r3 z3=>?_
 have x3:=x1.mono (l2.trans l3)
 obtain⟨v1,H1⟩:=p
 simp only at hf x3
 cases x3 with
 | none=>cases hf
 | bool _=>cases hf
 | int _ _=>cases hf
 | str _ _=>cases hf
 | tup _ _ _=>cases hf
 | obj _ _ _ _=>cases hf
 | @ref i a ea=>
  obtain⟨vs,hvs,e6⟩:=Zz0.mp hf
  cases e6
  obtain⟨hl,xs,kk,hg,hv⟩:=r3.at hvs ea
  have isl:k3.IsList a xs.toArray:=⟨_,hg,rfl,kk,rfl⟩
  refine⟨a,xs.toArray,ka,kb,rfl,isl,Zbt (by simp[hv.length];exact hl),(y2.mono l3).part e4,z3.part e5,?_⟩
  have hp:VRs W3 (ZaJ vs ka kb) (ZaJ xs ka kb):=by
   unfold ZaJ
   rw[hv.length]
   exact hv.pick _
  have hx:slicePick xs.toArray ka kb Option.none=(ZaJ xs ka kb).toArray:=by
   unfold slicePick ZaJ
   simp
  obtain⟨W4,l4,r4,v4⟩:=(r3.push { cls:=.type "slice",data:=.fields #[y,z,.none] }).list (k:=0) hp (Nat.le_trans (Zif vs ka kb) hl)
  rw[hx]
  have:=post W4 _ t3 _ (((l1.trans l2).trans l3).trans l4) r4 v4
  rw[Heap.size_push]at this
  exact this
end
end PM
end
section
namespace PM
open PySem PyProof.Rows PyProof
def Nm(prog:Program)(w:World)(Γ:Cx)(x:Str)(v:Value): Prop:=∀(pos:Pos) (m:Str→Option Value) (s:Shared) (Q E:Value→Shared→Prop),Fr Γ.h₀ Γ.L s.heap m→Q v s→wpAny (model prog w) Γ.A (eval (.Name x pos) Γ.env) Q E s
theorem Nm.use{prog:Program}{w:World}{Γ:Cx}{x:Str}{y:Value}(h:Nm prog w Γ x y){pos:Pos}{W:Wd}{ρ:Lc}{H:Hp}{fr:List (Addr×Obj)}{s:Shared}{Q E:Value→Shared→Prop}(r:Rep Γ W ρ H fr s.heap)(q:Q y s): wpAny (model prog w) Γ.A (eval (.Name x pos) Γ.env) Q E s:=by
 obtain⟨m,c,led,r⟩:=r
 exact h pos m s Q E r.F q
def OpN(prog:Program)(w:World)(m:List Value→Sem Value)(o:List V→Hp→Option (V×Hp)): Prop:=∀(Γ:Cx) (W:Wd) (ρ:Lc) (H:Hp) (fr:List (Addr×Obj)) (s:Shared) (Q E:Value→Shared→Prop) (as:List V) (xs:List Value) (v:V) (H':Hp),
 Rep Γ W ρ H fr s.heap→VRs W as xs→o as H=some (v,H')→Zdz Γ W ρ H' fr s Q v→wpAny (model prog w) Γ.A (m xs) Q E s
noncomputable def Zr(o:List V→Hp→Option (V×Hp))(g:ZT): Ex:=fun ρ H=>(g ρ H).bind fun p=>o p.1 p.2
section
variable {prog:Program} {w:World} {Γ:Cx}
theorem Zbu{x:Str}{np pos:Pos}{id:String}{e:Expr}{es:List Expr}{g:ZT}{o:List V→Hp→Option (V×Hp)}(hn:Nm prog w Γ x (.builtin id))(h:Js prog w Γ (e::es) g)(ho:OpN prog w (fun xs=>call (.builtin id) xs) o)
  (he:starEach (e::es) Γ.env=(false,eval e Γ.env)::starEach es Γ.env:=by rfl) (hp:∀pos,(backTo pos (starEach es Γ.env)).any (·.1)=false:=by intro _;rfl):J prog w Γ (.Call (.Name x np) (e::es) [] pos) (Zr o g):=by
 intro W ρ H fr s Q E v H' r hf post
 obtain⟨p,e1,hf⟩:=Zz0.mp hf
 refine wpAny_Call_ofName (hn.use r ?_)
 refine callWith_builtin1 (h pos W ρ H fr s _ E _ _ r e1 fun W1 k1 t1 xs l1 r1 x1=>?_) he (hp pos)
 exact ho Γ W1 ρ _ fr _ Q E _ xs v H' r1 x1 hf fun W2 k2 t2 y l2 r2 y2=>post W2 k2 t2 y (l1.trans l2) r2 y2
theorem Zg9{x:Str}{np pos:Pos}{T:String}{e:Expr}{es:List Expr}{g:ZT}{o:List V→Hp→Option (V×Hp)}(hn:Nm prog w Γ x (.type T))(h:Js prog w Γ (e::es) g)(ho:OpN prog w (fun xs=>call (.type T) xs) o)
  (he:starEach (e::es) Γ.env=(false,eval e Γ.env)::starEach es Γ.env:=by rfl) (hp:∀pos,(backTo pos (starEach es Γ.env)).any (·.1)=false:=by intro _;rfl):J prog w Γ (.Call (.Name x np) (e::es) [] pos) (Zr o g):=by
 intro W ρ H fr s Q E v H' r hf post
 obtain⟨p,e1,hf⟩:=Zz0.mp hf
 refine wpAny_Call_ofName (hn.use r ?_)
 refine PySem.Pv.callWith_type1 (h pos W ρ H fr s _ E _ _ r e1 fun W1 k1 t1 xs l1 r1 x1=>?_) he (hp pos)
 exact ho Γ W1 ρ _ fr _ Q E _ xs v H' r1 x1 hf fun W2 k2 t2 y l2 r2 y2=>post W2 k2 t2 y (l1.trans l2) r2 y2
end
noncomputable def Zha: V→String
 | .none=>"NoneType"
 | .bool _=>"bool"
 | .int _=>"int"
 | .str _=>"str"
 | .tup _=>"tuple"
 | .ref _=>"list"
 | .obj _ _=>"object"
noncomputable def Zho(T:String)(v:V): Bool:=Zha v == T || (T == "int" && Zha v == "bool")
noncomputable def ZfB: V→Bool
 | .obj _ _=>true
 | _=>false
noncomputable def eIs(T:String)(f:Ex): Ex:=fun ρ H=>(f ρ H).bind fun p=>if ZfB p.1 then none else some (.bool (Zho T p.1),p.2)
section
variable {prog:Program} {w:World} {Γ:Cx}
theorem isinst{T:String}(hT:T="int"∨T="bool"∨T="list"∨T="tuple"){W:Wd}{ρ:Lc}{H:Hp}{fr:List (Addr×Obj)}{s:Shared}{Q E:Value→Shared→Prop}{a:V}{x:Value}(r:Rep Γ W ρ H fr s.heap)(hx:VR W a x)(hin:∀i,a=.ref i→i<H.length)(hob:ZfB a=false)
  (post:∀tk,Q (.bool (Zho T a)) { s with toks:=tk }):wpAny (model prog w) Γ.A (call (.builtin "isinstance") [x,.type T]) Q E s:=by
 cases hx with
 | none=>
      rcases hT with e | e | e | e <;> subst e
      ·exact call_isinstance (isinstance_false_none (by decide +kernel) F.isi_meta_int (by rw[isSubtype_type];kernel_rfl)) (post _)
      ·exact call_isinstance (isinstance_false_none (by decide +kernel) F.isi_meta_bool (by rw[isSubtype_type];kernel_rfl)) (post _)
      ·exact call_isinstance (isinstance_false_none (by decide +kernel) F.isi_meta_list (by rw[isSubtype_type];kernel_rfl)) (post _)
      ·exact call_isinstance (isinstance_false_none (by decide +kernel) F.isi_meta_tuple (by rw[isSubtype_type];kernel_rfl)) (post _)
 | bool b=>
       rcases hT with e | e | e | e <;> subst e
       ·exact IsiPair.bool_int (post s.toks)
       ·exact IsiPair.bool_bool (post s.toks)
       ·exact IsiPair.bool_list (post _)
       ·exact IsiPair.bool_tuple (post _)
 | int i t=>
       rcases hT with e | e | e | e <;> subst e
       ·exact IsiPair.int_int (post s.toks)
       ·exact IsiPair.int_bool (post _)
       ·exact IsiPair.int_list (post _)
       ·exact IsiPair.int_tuple (post _)
 | str y t=>
       rcases hT with e | e | e | e <;> subst e
       ·exact IsiPair.str_int (post _)
       ·exact IsiPair.str_bool (post _)
       ·exact IsiPair.str_list (post _)
       ·exact IsiPair.str_tuple (post _)
 | tup hm hl hs=>
  have hg:=r.tupAt hm
  rcases hT with e | e | e | e <;> subst e
  ·exact IsiPair.tuple_int hg rfl (post _)
  ·exact IsiPair.tuple_bool hg rfl (post _)
  ·exact IsiPair.tuple_list hg rfl (post _)
  ·exact IsiPair.tuple_tuple hg rfl (post s.toks)
 | @ref i a ea=>
  obtain⟨hl,xs,k,hg,hv⟩:=r.at (List.getElem?_eq_getElem (hin i rfl)) ea
  rcases hT with e | e | e | e <;> subst e
  ·exact IsiPair.list_int hg rfl (post _)
  ·exact IsiPair.list_bool hg rfl (post _)
  ·exact IsiPair.list_list hg rfl (post s.toks)
  ·exact IsiPair.list_tuple hg rfl (post _)
 | obj _ _ _ _=>cases hob
end
theorem Rep.refIn{Γ:Cx}{W:Wd}{ρ:Lc}{H:Hp}{fr:List (Addr×Obj)}{h:Heap}{i:Nat}{x:Value}(r:Rep Γ W ρ H fr h)(hx:VR W (.ref i) x): i<H.length:=by
 obtain⟨m,c,led,r⟩:=r
 cases hx with
 | ref e=>rw[←r.R.len];exact(Zz6.mp e.1).1
section
variable {prog:Program} {w:World} {Γ:Cx}
theorem ZbO{np tp pos:Pos}{x y:Str}{T:String}{e:Expr}{f:Ex}(hn:Nm prog w Γ x (.builtin "isinstance"))(hy:Nm prog w Γ y (.type T))(hT:T="int"∨T="bool"∨T="list"∨T="tuple")(h:J prog w Γ e f)
  (he:starEach [e,.Name y tp] Γ.env=(false,eval e Γ.env)::starEach [.Name y tp] Γ.env:=by rfl) (hp:∀pos,(backTo pos (starEach [.Name y tp] Γ.env)).any (·.1)=false:=by intro _;rfl):J prog w Γ (.Call (.Name x np) [e,.Name y tp] [] pos) (eIs T f):=by
 intro W ρ H fr s Q E v H' r hf post
 obtain⟨p,e1,e2⟩:=Zz0.mp hf
 by_cases hob:ZfB p.1=true
 ·rw[if_pos hob]at e2;cases e2
 rw[if_neg hob]at e2
 cases e2
 refine wpAny_Call_ofName (hn.use r ?_)
 refine callWith_builtin1 (wpAny_items_cons (h W ρ H fr s _ E _ _ r e1 fun W1 k1 t1 z l1 r1 z1=>?_) he) he (hp pos)
 refine wpAny_items_cons (hy.use (s:={ s with heap:=k1,toks:=t1 }) r1 ?_)
 refine wpAny_items_nil ?_
 exact PM.isinst hT r1 z1 (fun i e=>by rw[e]at z1;exact r1.refIn z1) (by simpa using hob) fun tk=>post W1 k1 tk _ l1 r1 (.bool _)
end
noncomputable def Zbg: List V→Hp→Option (V×Hp)
 | [.ref a],H=>H[a]?.map fun vs=>(.int vs.length,H)
 | [.tup vs],H=>some (.int vs.length,H)
 | _,_=>none
noncomputable def Znl: List V→Hp→Option (V×Hp)
 | [.int a],H=>some (.int (if a<0 then -a else a),H)
 | _,_=>none
noncomputable def Zem: List V→Hp→Option (V×Hp)
 | [.int a,.int b],H=>some (.int (if b>a then b else a),H)
 | _,_=>none
noncomputable def Zdq: List V→Hp→Option (V×Hp)
 | [.int a,.int b],H=>some (.int (if b<a then b else a),H)
 | _,_=>none
noncomputable def ZiY: List V→Option (List Int)
 | []=>some []
 | .int k::vs=>(ZiY vs).map fun ks=>k::ks
 | _::_=>none
noncomputable def Znm: List V→Hp→Option (V×Hp)
 | [.ref a],H=>H[a]?.bind fun vs=>(ZiY vs).map fun ks=>(.int ks.sum,H)
 | _,_=>none
theorem VRs.one{W:Wd}{v:V}{xs:List Value}(h:VRs W [v] xs): ∃x,xs=[x]∧VR W v x:=by
 cases h with
 | cons a b=>cases b;exact⟨_,rfl,a⟩
theorem VRs.two{W:Wd}{v u:V}{xs:List Value}(h:VRs W [v,u] xs): ∃x y,xs=[x,y]∧VR W v x∧VR W u y:=by
 cases h with
 | cons a b=>obtain⟨y,e,r⟩:=b.one;subst e;exact⟨_,_,rfl,a,r⟩
noncomputable def ZL: V→V→Hp→Option (V×Hp)
 | .int a,.int b,H=>some (.int (a+b),H)
 | .ref a,.ref b,H=>H[a]?.bind fun vs=>H[b]?.bind fun us=>if(vs++us).length≤ZN then some (.ref H.length,H++[vs++us])else none
 | .tup vs,.tup us,H=>if(vs++us).length≤ZN then some (.tup (vs++us),H)else none
 | _,_,_=>none
noncomputable def Zc6(vs:List V): Nat→List V
 | 0=>[]
 | n+1=>Zc6 vs n++vs
noncomputable def Zbh: V→V→Hp→Option (V×Hp)
 | .int a,.int b,H=>if Zci a b=true then some (.int (a*b),H)else none
 | .ref a,.int k,H=>H[a]?.bind fun vs=>if vs.length*k.toNat≤ZN∧-(2 ^ 63:Int)≤k∧k<2 ^ 63 then some (.ref H.length,H++[Zc6 vs k.toNat])else none
 | _,_,_=>none
section
variable {prog:Program} {w:World}
theorem ZbR: OpN prog w (fun xs=>call (.builtin "len") xs) Zbg:=by
 intro Γ W ρ H fr s Q E as xs v H' r hx ho post
 unfold Zbg at ho
 split at ho
 ·rename_i a
  obtain⟨vs,e1,e2⟩:=Zz1.mp ho
  cases e2
  obtain⟨x,ex,rx⟩:=hx.one
  subst ex
  cases rx with
  | ref ea=>
   obtain⟨hl,ys,k,hg,hv⟩:=r.at e1 ea
   have isl:s.heap.IsList _ ys.toArray:=⟨_,hg,rfl,k,rfl⟩
   have e3:(ys.toArray.size:Int)=vs.length:=by simp[hv.length]
   rw[Zas]at hl
   refine Calls.call_len_list isl (by rw[e3];omega) ?_
   rw[e3]
   exact post W s.heap _ _ (.refl W) r (.int _ _)
 ·rename_i vs
  cases ho
  obtain⟨x,ex,rx⟩:=hx.one
  subst ex
  cases rx with
  | @tup _ a ys k hm hl hs=>
   have it:IsTup s.heap a ys.toArray:=⟨_,r.tupAt hm,rfl,k,rfl⟩
   have e3:(ys.toArray.size:Int)=vs.length:=by simp[hs.length]
   rw[Zas]at hl
   refine len_tuple it (by rw[e3];omega) ?_
   rw[e3]
   exact post W s.heap _ _ (.refl W) r (.int _ _)
 ·cases ho
theorem Zlc: OpN prog w (fun xs=>call (.builtin "max") xs) Zem:=by
 intro Γ W ρ H fr s Q E as xs v H' r hx ho post
 unfold Zem at ho
 split at ho
 ·cases ho
  obtain⟨x,y,ex,rx,ry⟩:=hx.two
  subst ex
  cases rx with
  | int i t=>
   cases ry with
   | int j u=>
    refine max_two_ints Γ.hh fun h' tk up=>?_
    split
    ·rename_i c
     rw[if_pos c]at post
     exact post W h' tk _ (.refl W) (r.grown up) (.int _ _)
    ·rename_i c
     rw[if_neg c]at post
     exact post W h' tk _ (.refl W) (r.grown up) (.int _ _)
 ·cases ho
theorem Zld: OpN prog w (fun xs=>call (.builtin "min") xs) Zdq:=by
 intro Γ W ρ H fr s Q E as xs v H' r hx ho post
 unfold Zdq at ho
 split at ho
 ·cases ho
  obtain⟨x,y,ex,rx,ry⟩:=hx.two
  subst ex
  cases rx with
  | int i t=>
   cases ry with
   | int j u=>
    refine min_two_ints Γ.hh fun h' tk up=>?_
    split
    ·rename_i c
     rw[if_pos c]at post
     exact post W h' tk _ (.refl W) (r.grown up) (.int _ _)
    ·rename_i c
     rw[if_neg c]at post
     exact post W h' tk _ (.refl W) (r.grown up) (.int _ _)
 ·cases ho
theorem Zax: Op2 prog w (binaryOp .Add) ZL:=by
 intro Γ W ρ H fr s Q E a b x y v H' r hx hy ho post
 unfold ZL at ho
 split at ho
 ·cases ho
  cases hx;cases hy
  exact PySem.P.add_int (post W s.heap _ _ (.refl W) r (.int _ _))
 ·obtain⟨vs,e1,ho⟩:=Zz0.mp ho
  obtain⟨us,e2,ho⟩:=Zz0.mp ho
  by_cases hl:(vs++us).length≤ZN
  ·rw[if_pos hl]at ho
   cases ho
   cases hx with
   | ref ea=>
   cases hy with
   | ref eb=>
   obtain⟨l1,ys,k,hg,hv⟩:=r.at e1 ea
   obtain⟨l2,zs,k2,hg2,hv2⟩:=r.at e2 eb
   obtain⟨m,c,led,r'⟩:=r
   have i1:s.heap.IsList _ ys.toArray:=⟨_,hg,rfl,k,rfl⟩
   have i2:s.heap.IsList _ zs.toArray:=⟨_,hg2,rfl,k2,rfl⟩
   refine add_lists (hsz:=Zbt (by rw[hv.length,hv2.length,←List.length_append];exact hl)) r'.F r'.N i1 i2 fun h' F' N'=>?_
   obtain⟨W2,le2,r2,v2⟩:=r'.newList F' N' r'.off (hv.append hv2) hl
   exact post W2 h' s.toks _ le2 r2 v2
  ·rw[if_neg hl]at ho
   cases ho
 ·rename_i vs us
  by_cases hl:(vs++us).length≤ZN
  ·rw[if_pos hl]at ho
   cases ho
   cases hx with
   | @tup _ a ys k hm h1 hv=>
   cases hy with
   | @tup _ b zs k2 hm2 h2 hv2=>
   have t1:IsTup s.heap a ys.toArray:=⟨_,r.tupAt hm,rfl,k,rfl⟩
   have t2:IsTup s.heap b zs.toArray:=⟨_,r.tupAt hm2,rfl,k2,rfl⟩
   have r0:=r
   obtain⟨m,c,led,r'⟩:=r
   refine add_tuples (hsz:=Zbt (by rw[hv.length,hv2.length,←List.length_append];exact hl)) r'.F r'.N t1 t2 (fun e=>?_) (fun _ e=>?_) fun _ _ h' F' N'=>?_
   ·have:vs=[]:=List.length_eq_zero_iff.mp (by rw[←hv.length,e];rfl)
    subst this
    exact post W s.heap s.toks _ (.refl W) r0 (.tup hm2 h2 hv2)
   ·have:us=[]:=List.length_eq_zero_iff.mp (by rw[←hv2.length,e];rfl)
    subst this
    rw[List.append_nil]at post
    exact post W s.heap s.toks _ (.refl W) r0 (.tup hm h1 hv)
   ·obtain⟨W2,le2,r2,v2⟩:=r'.newTup F' N' r'.off (hv.append hv2) hl
    exact post W2 h' s.toks _ le2 r2 v2
  ·rw[if_neg hl]at ho
   cases ho
 ·cases ho
theorem Zig(vs:List V): ∀n,(Zc6 vs n).length=vs.length*n
 | 0=>rfl
 | n+1=>by rw[Zc6,List.length_append,Zig vs n,Nat.mul_succ]
theorem Zkj(xs:List Value)(n:Nat): ∀acc:Array Value,(List.foldl (fun x1 x2=>x1++x2) acc (List.replicate n xs.toArray))=acc++(List.replicate n xs).flatten.toArray:=by
 induction n with
 | zero=>intro acc;simp
 | succ n ih=>
  intro acc
  rw[List.replicate_succ,List.foldl_cons,ih,List.replicate_succ,List.flatten_cons]
  simp[Array.append_assoc]
theorem Ziw{W:Wd}{vs:List V}{xs:List Value}(h:VRs W vs xs): ∀n,VRs W (Zc6 vs n) (List.replicate n xs).flatten
 | 0=>.nil
 | n+1=>by
  rw[Zc6,List.replicate_succ',List.flatten_append]
  simp only[List.flatten_cons,List.flatten_nil,List.append_nil]
  exact(Ziw h n).append h
theorem Zec: Op2 prog w (binaryOp .Mult) Zbh:=by
 intro Γ W ρ H fr s Q E a b x y v H' r hx hy ho post
 unfold Zbh at ho
 split at ho
 ·rename_i i j
  by_cases hm:Zci i j=true
  ·rw[if_pos hm]at ho
   cases ho
   cases hx;cases hy
   exact PySem.P.mul_int (post W s.heap _ _ (.refl W) r (.int _ _)) (ZkC hm)
  ·rw[if_neg hm]at ho
   cases ho
 ·rename_i i k
  obtain⟨vs,e1,ho⟩:=Zz0.mp ho
  by_cases hc:vs.length*k.toNat≤ZN∧-(2 ^ 63:Int)≤k∧k<2 ^ 63
  ·rw[if_pos hc]at ho
   cases ho
   cases hx with
   | ref ea=>
   cases hy with
   | int _ u=>
   obtain⟨l1,ys,kk,hg,hv⟩:=r.at e1 ea
   obtain⟨m,c,led,r'⟩:=r
   have hl:=hc.1
   rw[Zas]at hl
   refine mul_list r'.F r'.N hg hc.2.1 hc.2.2 (by rw[List.size_toArray,hv.length];omega) fun h' F' N'=>?_
   have e2:(List.foldl (fun x1 x2=>x1++x2) #[] (List.replicate (if ys.toArray.isEmpty=true then 0 else k.toNat) ys.toArray))=(List.replicate k.toNat ys).flatten.toArray:=by
    cases ys with
    | nil=>
     simp
    | cons y0 ys0=>
     have:((y0::ys0).toArray.isEmpty=true)=False:=by simp
     simp only[this,if_false]
     rw[Zkj]
     simp
   rw[e2]at N'
   obtain⟨W2,le2,r2,v2⟩:=r'.newList F' N' r'.off (Ziw hv k.toNat) (by rw[Zig];exact hc.1)
   exact post W2 h' s.toks _ le2 r2 v2
  ·rw[if_neg hc]at ho
   cases ho
 ·cases ho
end
end PM
end
section
namespace PM
open PySem PyProof.Rows PyProof
noncomputable def upd(ρ:Lc)(i:Nat)(v:V): Lc:=fun j=>if j=i then some v else ρ j
noncomputable abbrev Sm:=Lc→Hp→Option (Option V×Lc×Hp)
noncomputable def Zaj: Sm:=fun ρ H=>some (none,ρ,H)
noncomputable def Zs(a b:Sm): Sm:=fun ρ H=>(a ρ H).bind fun p=>match p.1 with
 | some _=>some p
 | none=>b p.2.1 p.2.2
noncomputable def ZK(f:Ex): Sm:=fun ρ H=>(f ρ H).map fun p=>(some p.1,ρ,p.2)
noncomputable def ZM(i:Nat)(f:Ex): Sm:=fun ρ H=>(f ρ H).map fun p=>(none,upd ρ i p.1,p.2)
noncomputable def Z2(t:Ts)(a b:Sm): Sm:=fun ρ H=>(t ρ H).bind fun p=>if p.1 then a ρ p.2 else b ρ p.2
noncomputable def Zaf(f:Ex): Sm:=fun ρ H=>(f ρ H).map fun p=>(none,ρ,p.2)
noncomputable def Zev: V→V→V→Hp→Option Hp
 | .ref a,.int k,v,H=>H[a]?.bind fun vs=>if a≠0∧0≤k∧k<vs.length then some (H.set a (vs.set k.toNat v))else none
 | _,_,_,_=>none
noncomputable def ZaK(f o i:Ex): Sm:=fun ρ H=>(f ρ H).bind fun p=>(o ρ p.2).bind fun q=>(i ρ q.2).bind fun u=>(Zev q.1 u.1 p.1 u.2).map fun K=>(none,ρ,K)
noncomputable def PostS(Γ:Cx)(W:Wd)(fr:List (Addr×Obj))(s:Shared)(Q:Flow→Shared→Prop): Option V×Lc×Hp→Prop
 | (none,ρ',H')=>∀(W':Wd) (h':Heap) (tk':Nat),W.Le W'→Rep Γ W' ρ' H' fr h'→Q .next { s with heap:=h',toks:=tk' }
 | (some v,ρ',H')=>∀(W':Wd) (h':Heap) (tk':Nat) (x:Value),W.Le W'→Rep Γ W' ρ' H' fr h'→VR W' v x→Q (.ret x) { s with heap:=h',toks:=tk' }
theorem PostS.le{Γ:Cx}{W W':Wd}{fr:List (Addr×Obj)}{s:Shared}{h:Heap}{tk:Nat}{Q:Flow→Shared→Prop}{r:Option V×Lc×Hp}(l:W.Le W')(p:PostS Γ W fr s Q r): PostS Γ W' fr { s with heap:=h,toks:=tk } Q r:=by
 obtain⟨o,ρ',H'⟩:=r
 cases o with
 | none=>exact fun W2 h2 t2 l2 r2=>p W2 h2 t2 (l.trans l2) r2
 | some v=>exact fun W2 h2 t2 x l2 r2 x2=>p W2 h2 t2 x (l.trans l2) r2 x2
section
variable (prog:Program) (w:World)
def S1(Γ:Cx)(st:Stmt)(g:Sm): Prop:=∀(W:Wd) (ρ:Lc) (H:Hp) (fr:List (Addr×Obj)) (s:Shared) (Q:Flow→Shared→Prop) (E:Value→Shared→Prop) (r:Option V×Lc×Hp),
 Rep Γ W ρ H fr s.heap→g ρ H=some r→PostS Γ W fr s Q r→wpAny (model prog w) Γ.A (exec st Γ.env) Q E s
def Ss(Γ:Cx)(ss:List Stmt)(g:Sm): Prop:=∀(W:Wd) (ρ:Lc) (H:Hp) (fr:List (Addr×Obj)) (s:Shared) (Q:Flow→Shared→Prop) (E:Value→Shared→Prop) (r:Option V×Lc×Hp),
 Rep Γ W ρ H fr s.heap→g ρ H=some r→PostS Γ W fr s Q r→wpAny (model prog w) Γ.A (execs ss Γ.env) Q E s
def Sto(Γ:Cx)(x:Str)(i:Nat): Prop:=∀(W:Wd) (ρ:Lc) (H:Hp) (fr:List (Addr×Obj)) (s:Shared) (Q:Unit→Shared→Prop) (E:Value→Shared→Prop) (v:V) (y:Value),
 Rep Γ W ρ H fr s.heap→VR W v y→(∀(h':Heap) (tk':Nat),Rep Γ W (upd ρ i v) H fr h'→Q () { s with heap:=h',toks:=tk' })→wpAny (model prog w) Γ.A (storeName Γ.env x y) Q E s
def Rd(Γ:Cx)(x:Str)(i:Nat): Prop:=∀(W:Wd) (ρ:Lc) (H:Hp) (fr:List (Addr×Obj)) (s:Shared) (Q E:Value→Shared→Prop) (v:V) (pos:Pos),
 Rep Γ W ρ H fr s.heap→ρ i=some v→(∀y,VR W v y→Q y s)→wpAny (model prog w) Γ.A (eval (.Name x pos) Γ.env) Q E s
end
section
variable {prog:Program} {w:World} {Γ:Cx}
theorem Ze{x:Str}{i:Nat}{pos:Pos}(h:Rd prog w Γ x i): J prog w Γ (.Name x pos) (Zb i):=by
 intro W ρ H fr s Q E v H' r hf post
 obtain⟨u,e1,e2⟩:=Zz1.mp hf
 cases e2
 exact h W ρ H fr s Q E v pos r e1 fun y hy=>post W s.heap s.toks y (.refl W) r hy
theorem Zat: Ss prog w Γ [] Zaj:=fun W ρ H fr s Q E r rp hf post=>by
 cases hf
 exact wpAny_execs_nil (post W s.heap s.toks (.refl W) rp)
theorem Zv{st:Stmt}{ss:List Stmt}{a b:Sm}(h1:S1 prog w Γ st a)(h2:Ss prog w Γ ss b): Ss prog w Γ (st::ss) (Zs a b):=by
 intro W ρ H fr s Q E r rp hf post
 obtain⟨p,e1,hf⟩:=Zz0.mp hf
 refine wpAny_execs_cons (h1 W ρ H fr s _ E p rp e1 ?_)
 obtain⟨o,ρ1,H1⟩:=p
 cases o with
 | some v=>
  cases hf
  exact fun W1 k1 t1 x l1 r1 x1=>post W1 k1 t1 x l1 r1 x1
 | none=>exact fun W1 k1 t1 l1 r1=>h2 W1 ρ1 H1 fr _ Q E r r1 hf (post.le l1)
theorem ZC{st:Stmt}{a:Sm}(h1:S1 prog w Γ st a): Ss prog w Γ [st] a:=by
 intro W ρ H fr s Q E r rp hf post
 refine wpAny_execs_cons (h1 W ρ H fr s _ E r rp hf ?_)
 obtain⟨o,ρ1,H1⟩:=r
 cases o with
 | some v=>exact fun W1 k1 t1 x l1 r1 x1=>post W1 k1 t1 x l1 r1 x1
 | none=>exact fun W1 k1 t1 l1 r1=>wpAny_execs_nil (post W1 k1 t1 l1 r1)
theorem ZU{e:Expr}{pos:Pos}{f:Ex}(h:J prog w Γ e f): S1 prog w Γ (.Return (some e) pos) (ZK f):=by
 intro W ρ H fr s Q E r rp hf post
 obtain⟨p,e1,e2⟩:=Zz1.mp hf
 cases e2
 exact wpAny_Return_some (h W ρ H fr s _ E _ _ rp e1 post)
theorem Zan{t:Expr}{a b:List Stmt}{pos:Pos}{u:Ts}{f g:Sm}(ht:JT prog w Γ t u)(h1:Ss prog w Γ a f)(h2:Ss prog w Γ b g): S1 prog w Γ (.If t a b pos) (Z2 u f g):=by
 intro W ρ H fr s Q E r rp hf post
 obtain⟨p,e1,hf⟩:=Zz0.mp hf
 refine wpAny_If (ht W ρ H fr s _ E _ _ rp e1 fun W1 k1 t1 l1 r1=>?_)
 obtain⟨c,H1⟩:=p
 cases c with
 | true=>exact h1 W1 ρ H1 fr _ Q E r r1 hf (post.le l1)
 | false=>exact h2 W1 ρ H1 fr _ Q E r r1 hf (post.le l1)
theorem Za2{e:Expr}{pos:Pos}{f:Ex}(h:J prog w Γ e f)(hi:interactive Γ.env=false:=by rfl)(hs:swapsWith e none pos.line Γ.env=pure false:=by rfl): S1 prog w Γ (.Expr e pos) (Zaf f):=by
 intro W ρ H fr s Q E r rp hf post
 obtain⟨p,e1,e2⟩:=Zz1.mp hf
 cases e2
 exact wpAny_Expr_any (h W ρ H fr s _ E _ _ rp e1 fun W1 k1 t1 x l1 r1 x1=>post W1 k1 t1 l1 r1) hi hs
theorem ZV{x:Str}{i:Nat}{e:Expr}{pos' pos:Pos}{f:Ex}(hx:Sto prog w Γ x i)(h:J prog w Γ e f)(hs:swapsWith e (some (.Name x pos')) pos.line Γ.env=pure false:=by rfl): S1 prog w Γ (.Assign [.Name x pos'] e pos) (ZM i f):=by
 intro W ρ H fr s Q E r rp hf post
 obtain⟨p,e1,e2⟩:=Zz1.mp hf
 cases e2
 refine wpAny_Assign_Name (h W ρ H fr s _ E _ _ rp e1 fun W1 k1 t1 y l1 r1 y1=>?_) hs
 exact hx W1 ρ _ fr _ _ E _ y r1 y1 fun h' tk' r2=>post W1 h' tk' l1 r2
end
noncomputable def ZcS: List V→Hp→Option (V×Hp)
 | [.ref a,v],H=>H[a]?.bind fun vs=>if a≠0∧vs.length<ZN then some (.none,H.set a (vs++[v]))else none
 | _,_=>none
section
variable {prog:Program} {w:World} {Γ:Cx}
theorem Zkk: OpN prog w (fun xs=>call (.builtin "list.append") xs) ZcS:=by
 intro Γ W ρ H fr s Q E as xs v H' r hx ho post
 unfold ZcS at ho
 split at ho
 ·obtain⟨vs,e1,e2⟩:=Zz0.mp ho
  obtain⟨x,y,ex,rx,ry⟩:=hx.two
  subst ex
  split at e2
  ·rename_i hl
   cases e2
   cases rx with
   | @ref _ a0 ea=>
    obtain⟨_,ys,k,hg,hv⟩:=r.at e1 ea
    refine append_at (hsz:=Zbt (by rw[List.size_toArray,hv.length];omega)) hg fun h' sb hg'=>?_
    have hg2:h'.get? a0=some (ZaO (ys++[y]) (k+1)):=by rw[hg'];simp
    exact post W h' s.toks _ (.refl W) (r.change hl.1 e1 ea sb hg2 (hv.snoc ry) (by simp;omega)) .none
  ·cases e2
 ·cases ho
end
end PM
end
section
namespace PM
open PySem PySem.W PyProof.Rows PyProof
theorem Zix: ∀{l:List Value} {k:Nat} {v:Value},k<l.length→ki_setL l k v=some (l.set k v)
 | [],_,_,h=>by simp at h
 | x::r,0,v,_=>by simp[ki_setL]
 | x::r,k+1,v,h=>by
  have:=Zix (l:=r) (k:=k) (v:=v) (by simpa using h)
  simp[ki_setL,this]
theorem Zkl{a k v:V}{H K:Hp}(h:Zev a k v H=some K): ∃i j vs,a=.ref i∧k=.int j∧H[i]?=some vs∧(i≠0∧0≤j∧j<vs.length)∧K=H.set i (vs.set j.toNat v):=by
 cases a <;> first | (cases h;done) | skip
 cases k <;> first | (cases h;done) | skip
 obtain⟨vs,e1,e2⟩:=Zz0.mp h
 split at e2
 ·rename_i c
  cases e2
  exact⟨_,_,vs,rfl,rfl,e1,c,rfl⟩
 ·cases e2
theorem ZjS{a v x:V}{H K:Hp}(h:ZcS [a,v] H=some (x,K)): ∃i,a=.ref i:=by
 cases a <;> first | (cases h;done) | skip
 exact⟨_,rfl⟩
noncomputable def ZaU(o f:Ex): Ex:=fun ρ H=>(o ρ H).bind fun p=>(f ρ p.2).bind fun q=>ZcS [p.1,q.1] q.2
section
variable {prog:Program} {w:World} {Γ:Cx}
theorem S1.put{o i value:Expr}{pos' pos:Pos}{f g k:Ex}(hf:J prog w Γ value f)(ho:J prog w Γ o g)(hi:J prog w Γ i k)(hs:swapsWith value (some (.Subscript o i pos')) pos.line Γ.env=pure false:=by rfl): S1 prog w Γ (.Assign [.Subscript o i pos'] value pos) (ZaK f g k):=by
 intro W ρ H fr s Q E r rp hx post
 obtain⟨p,e1,hx⟩:=Zz0.mp hx
 obtain⟨q,e2,hx⟩:=Zz0.mp hx
 obtain⟨u,e3,hx⟩:=Zz0.mp hx
 obtain⟨K,e4,e5⟩:=Zz1.mp hx
 cases e5
 refine wpAny_Assign_Subscript (hf W ρ H fr s _ E _ _ rp e1 fun W1 k1 t1 x l1 r1 x1=>?_) hs
 refine ho W1 ρ _ fr _ _ E _ _ r1 e2 fun W2 k2 t2 y l2 r2 y2=>?_
 refine hi W2 ρ _ fr _ _ E _ _ r2 e3 fun W3 k3 t3 z l3 r3 z3=>?_
 have x3:=x1.mono (l2.trans l3)
 have y3:=y2.mono l3
 obtain⟨b,kk,vs,eb,ek,hvs,hc,e6⟩:=Zkl e4
 subst e6
 rw[eb]at y3
 rw[ek]at z3
 cases y3 with
 | @ref _ a ea=>
 cases z3 with
 | int _ tz=>
 obtain⟨hl,xs,n,hg,hv⟩:=r3.at hvs ea
 obtain⟨m,c,led,r'⟩:=r3
 have hll:=hl
 rw[Zas]at hll
 have hk:kk.toNat<xs.length:=by rw[hv.length];omega
 obtain⟨_,a',xs',n',h1,h2,h3⟩:=r'.R.lists b vs hvs ea.2
 rw[ea.1]at h1
 cases h1
 have h2:=r'.inLed hc.1 ea.1 h2
 have N2:News Γ.h₀ Γ.L k3 ((a,ZaO xs n)::led.filter (fun q=>decide (q.1≠a))):=by
  intro q hq
  rcases Zz7.mp hq with e | hq
  ·subst e
   exact⟨hg,(r'.N _ h2).2⟩
  ·exact r'.N q (List.mem_filter.mp hq).1
 refine ki_set (its:=xs.toArray) (n:=n) (q:=xs.set kk.toNat x) r'.F N2 hc.2.1 (by omega) (by simpa using Zix hk) (Upd.head fun q hq=>by simpa using (List.mem_filter.mp hq).2) fun h' F' N'=>?_
 exact post W3 h' t3 ((l1.trans l2).trans l3) (r'.changed hc.1 hvs ea F' N' (hv.set _ x3) (by simpa using hl))
theorem J.append{o e:Expr}{apos pos:Pos}{f g:Ex}(ho:J prog w Γ o f)(he:J prog w Γ e g)(hbase:attributeBase o "append" Γ.env (eval o Γ.env)=eval o Γ.env:=by rfl)
  (hfew:((backTo pos (starEach [e] Γ.env)).all (fun x=>!x.1) && (backToKw pos (keywordEach [] Γ.env)).all (fun x=>x.1.isSome) && decide (([e]:List Expr).length+([]:List Keyword).length+(if([]:List Keyword).isEmpty then 0 else 1)<30))=true:=by rfl)
  (hline:(apos.endLine == pos.line)=true:=by rfl) (htrees:backTo pos (starEach [e] Γ.env)=[(false,eval e Γ.env)]:=by rfl):J prog w Γ (.Call (.Attribute o "append" apos) [e] [] pos) (ZaU f g):=by
 intro W ρ H fr s Q E v H' r hx post
 obtain⟨p,e1,hx⟩:=Zz0.mp hx
 obtain⟨q,e2,e3⟩:=Zz0.mp hx
 refine wpAny_Call_append hbase hfew hline htrees (ho W ρ H fr s _ E _ _ r e1 fun W1 k1 t1 x l1 r1 x1=>?_)
 obtain⟨v1,H1⟩:=p
 obtain⟨b,hb⟩:=ZjS e3
 subst hb
 have hb:=r1.refIn x1
 cases x1 with
 | @ref _ a ea=>
 obtain⟨_,xs,n,hg,hv⟩:=r1.at (List.getElem?_eq_getElem hb) ea
 refine⟨a,xs.toArray,rfl,⟨_,n,hg,rfl,rfl,rfl⟩,?_⟩
 refine he W1 ρ _ fr _ _ E _ _ r1 e2 fun W2 k2 t2 y l2 r2 y2=>?_
 exact Zkk Γ W2 ρ _ fr _ Q E _ [.ref a,y] v H' r2 (.cons (.ref (l2.at ea)) (.cons y2 .nil)) e3 fun W3 k3 t3 z l3 r3 z3=>post W3 k3 t3 z ((l1.trans l2).trans l3) r3 z3
end
end PM
end
section
namespace PM
open PySem PySem.W PyProof.Rows PyProof
noncomputable abbrev Nx:=Nat→Hp→Option (Option V)
noncomputable def ZmY(Γ:Cx)(W:Wd)(ρ:Lc)(H:Hp)(fr:List (Addr×Obj))(s:Shared)(It:Nat→List (Addr×Obj)→Prop)(i:Nat)(Q:Option Value→Shared→Prop): Option V→Prop
 | none=>∀(h':Heap) (tk':Nat),Rep Γ W ρ H fr h'→Q none { s with heap:=h',toks:=tk' }
 | some v=>∀(fs':List (Addr×Obj)) (h':Heap) (tk':Nat) (x:Value),It (i+1) fs'→Rep Γ W ρ H (fs'++fr) h'→VR W v x→Q (some x) { s with heap:=h',toks:=tk' }
structure Itr(prog:Program)(w:World)(Γ:Cx)(W0:Wd)(it:Value)(as:List Addr)(It:Nat→List (Addr×Obj)→Prop)(nx:Nx): Prop where
 adr:∀i fs,It i fs→fs.map (·.1)=as
 next:∀(i:Nat) (W:Wd) (ρ:Lc) (H:Hp) (fr fs:List (Addr×Obj)) (s:Shared) (Q:Option Value→Shared→Prop) (E:Value→Shared→Prop) (o:Option V),W0.Le W→Rep Γ W ρ H (fs++fr) s.heap→(∀a∈as,∀t∈fr,a≠t.1)→It i fs→nx i H=some o →
  ZmY Γ W ρ H fr s It i Q o→wpAny (model prog w) Γ.A (pyNext it) Q E s
 self:∀(i:Nat) (W:Wd) (ρ:Lc) (H:Hp) (fr fs:List (Addr×Obj)) (s:Shared) (Q E:Value→Shared→Prop),W0.Le W→Rep Γ W ρ H (fs++fr) s.heap→It i fs→Q it s→wpAny (model prog w) Γ.A (pyIter it) Q E s
noncomputable abbrev Src:=Lc→Hp→Option (Nx×Nat×Hp)
def JI(prog:Program)(w:World)(Γ:Cx)(e:Expr)(g:Src): Prop:=∀(W:Wd) (ρ:Lc) (H:Hp) (fr:List (Addr×Obj)) (s:Shared) (Q E:Value→Shared→Prop) (nx:Nx) (n:Nat) (H':Hp),
 Rep Γ W ρ H fr s.heap→g ρ H=some (nx,n,H') →
 (∀(W':Wd) (h':Heap) (tk':Nat) (it:Value) (as:List Addr) (It:Nat→List (Addr×Obj)→Prop) (fs:List (Addr×Obj)),W.Le W'→It 0 fs→Rep Γ W' ρ H' (fs++fr) h'→(∀a∈as,∀t∈fr,a≠t.1)→Itr prog w Γ W' it as It nx→Q it { s with heap:=h',toks:=tk' }) →
 wpAny (model prog w) Γ.A (eval e Γ.env) (fun xv s₁=>wpAny (model prog w) Γ.A (pyIter xv) Q E s₁) E s
noncomputable def Zbw(a:Nat): Nx:=fun i H=>H[a]?.map fun vs=>vs[i]?
noncomputable def ZiZ(vs:List V): Nx:=fun i _=>some vs[i]?
noncomputable def Zdj(a c:Int)(n:Nat): Nx:=fun i _=>some (if i<n then some (.int (a+i*c))else none)
noncomputable def Za4(f:Ex): Src:=fun ρ H=>(f ρ H).bind fun p=>match p.1 with
 | .ref a=>p.2[a]?.map fun vs=>(Zbw a,vs.length+1,p.2)
 | .tup vs=>some (ZiZ vs,vs.length+1,p.2)
 | _=>none
noncomputable def rngN(a b c:Int): Nat:=(Builtin.Range.rangeSize a b c).toNat
noncomputable def Zbc(a b c:Int)(H:Hp): Option (Nx×Nat×Hp):=if c≠0∧Builtin.Range.small a b c=true∧0≤Builtin.Range.rangeSize a b c∧rngN a b c≤ZN∧Builtin.divisionGoesByPylong (b-a) c=false then some (Zdj a c (rngN a b c),rngN a b c+1,H)else none
noncomputable def Zbj(g:ZT): Src:=fun ρ H=>(g ρ H).bind fun p=>match p.1 with
 | [.int b]=>Zbc 0 b 1 p.2
 | [.int a,.int b]=>Zbc a b 1 p.2
 | [.int a,.int b,.int c]=>Zbc a b c p.2
 | _=>none
section
variable {prog:Program} {w:World} {Γ:Cx}
theorem Zfp{W0:Wd}{I:Addr}{nx:Nx}(P:Nat→Obj→Prop)
  (next:∀(i:Nat) (W:Wd) (ρ:Lc) (H:Hp) (fr:List (Addr×Obj)) (ob:Obj) (s:Shared) (Q:Option Value→Shared→Prop) (E:Value→Shared→Prop) (o:Option V),W0.Le W→Rep Γ W ρ H ((I,ob)::fr) s.heap→P i ob→nx i H=some o →
   (match o with
    | none=>∀(h':Heap) (tk':Nat),(∀b o,b≠I→s.heap.get? b=some o→h'.get? b=some o)→Q none { s with heap:=h',toks:=tk' }
    | some v=>∀(ob':Obj) (h':Heap) (tk':Nat) (x:Value),P (i+1) ob'→h'.get? I=some ob'→(∀b o,b≠I→s.heap.get? b=some o→h'.get? b=some o)→VR W v x→Q (some x) { s with heap:=h',toks:=tk' })→wpAny (model prog w) Γ.A (pyNext (.ref I)) Q E s)
  (self:∀(i:Nat) (W:Wd) (ρ:Lc) (H:Hp) (fr:List (Addr×Obj)) (ob:Obj) (s:Shared) (Q E:Value→Shared→Prop),W0.Le W→Rep Γ W ρ H ((I,ob)::fr) s.heap→P i ob→Q (.ref I) s→wpAny (model prog w) Γ.A (pyIter (.ref I)) Q E s):
  Itr prog w Γ W0 (.ref I) [I] (fun i fs=>∃ob,fs=[(I,ob)]∧P i ob) nx:=by
 refine⟨?_,?_,?_⟩
 ·rintro i fs ⟨ob,e,_⟩
  rw[e]
  rfl
 ·rintro i W ρ H fr fs s Q E o le r ap ⟨ob,e,hp⟩ hn post
  subst e
  refine next i W ρ H fr ob s Q E o le r hp hn ?_
  have ap':∀q∈[(I,ob)],∀t∈fr,q.1≠t.1:=fun q hq t ht=>by rw[List.mem_singleton.mp hq];exact ap I Zz5 t ht
  cases o with
  | none=>
   intro h' tk' keep
   have:=Rep.swap (fs:=[(I,ob)]) (fs':=[]) r ap' (fun b o hb e=>keep b o (fun q=>hb (by simp[q])) e) (fun q hq=>nomatch hq)
   exact post h' tk' this
  | some v=>
   intro ob' h' tk' x hp' hg keep hx
   have:=Rep.swap (fs:=[(I,ob)]) (fs':=[(I,ob')]) r ap' (fun b o hb e=>keep b o (fun q=>hb (by simp[q])) e) (fun q hq=>by rw[List.mem_singleton.mp hq];exact⟨hg,by simp⟩)
   exact post [(I,ob')] h' tk' x ⟨ob',rfl,hp'⟩ this hx
 ·rintro i W ρ H fr fs s Q E le r ⟨ob,e,hp⟩ q
  subst e
  exact self i W ρ H fr ob s Q E le r hp q
theorem JI.seq{e:Expr}{f:Ex}(h:J prog w Γ e f): JI prog w Γ e (Za4 f):=by
 intro W ρ H fr s Q E nx n H' r hf post
 obtain⟨p,e1,hf⟩:=Zz0.mp hf
 refine h W ρ H fr s _ E _ _ r e1 fun W1 k1 t1 x l1 r1 x1=>?_
 obtain⟨v,H1⟩:=p
 cases x1 with
 | none=>cases hf
 | bool _=>cases hf
 | int _ _=>cases hf
 | str _ _=>cases hf
 | obj _ _ _ _=>cases hf
 | @tup vs a xs k hm hl hs=>
  cases hf
  have it:k1.IsTuple a xs.toArray:=⟨_,r1.tupAt hm,rfl,k,rfl⟩
  refine wpAny_pyIter_tuple it ?_
  obtain⟨r2,ap⟩:=r1.more (fs:=[(k1.objs.size,{ cls:=.type "tuple_iterator",data:=.fields #[.ref a,.int 0 0] })]) (fun b o e=>Heap.get?_push_of_some { cls:=.type "tuple_iterator",data:=.fields #[.ref a,.int 0 0] } e) (fun q hq=>by rw[List.mem_singleton.mp hq];exact⟨Heap.get?_push_size _ rfl,Nat.le_refl _⟩)
  refine post W1 _ t1 _ [k1.objs.size] _ _ l1 ⟨_,rfl,?_⟩ r2 (fun b hb t ht=>by rw[List.mem_singleton.mp hb];exact ap _ Zz5 t ht)
   (Zfp (fun i ob=>ob.cls=.type "tuple_iterator"∧ob.data=.fields #[.ref a,.int i 0]) ?_ ?_)
  ·intro i W ρ H fr ob s Q E o le r hp hn post
   have g1:s.heap.IsTupleIter k1.objs.size a i:=⟨ob,r.frAt Zz5,hp.1,hp.2⟩
   have g2:s.heap.IsTuple a xs.toArray:=⟨_,r.tupAt (le.tups _ hm),rfl,k,rfl⟩
   have ne:a≠k1.objs.size:=Nat.ne_of_lt (Heap.lt_size (r1.tupAt hm))
   have Wk:=Walks.tuple (prog:=prog) (w:=w) Γ.hh k1.objs.size a ne xs.toArray
   cases hn
   cases ev:vs[i]? with
   | none=>
    rw[ev]at post
    have hi:xs.toArray[i]?=none:=by have:=List.getElem?_eq_none_iff.mp ev;rw[←hs.length]at this;simpa using this
    exact wpAny_pyNext_tuple_end Γ.hh g1 g2 hi fun h' he'=>post h' s.toks fun b o hb e=>he' b o hb e
   | some v=>
    rw[ev]at post
    obtain⟨y,hy,ry⟩:=hs.at ev
    refine wpAny_pyNext_tuple_item g1 g2 (x:=y) (by simpa using hy) fun h' hit' hs'=>?_
    obtain⟨ob',h1,h2,h3⟩:=hit'
    exact post ob' h' s.toks y ⟨h2,h3⟩ h1 (fun b o hb e=>hs'.extBut b o hb e) (ry.mono le)
  ·intro i W ρ H fr ob s Q E le r hp q
   exact wpAny_pyIter_tupleiter (⟨ob,r.frAt Zz5,hp.1,hp.2⟩:s.heap.IsTupleIter k1.objs.size a i) q
  ·exact⟨rfl,rfl⟩
 | @ref i0 a ea=>
  obtain⟨vs,e2,e3⟩:=Zz1.mp hf
  cases e3
  obtain⟨hl,xs,k,hg,hv⟩:=r1.at e2 ea
  have isl:k1.IsList a xs.toArray:=⟨_,hg,rfl,k,rfl⟩
  refine wpAny_pyIter_list isl ?_
  obtain⟨r2,ap⟩:=r1.more (fs:=[(k1.objs.size,{ cls:=.type "list_iterator",data:=.fields #[.ref a,.int 0 0] })]) (fun b o e=>Heap.get?_push_of_some { cls:=.type "list_iterator",data:=.fields #[.ref a,.int 0 0] } e) (fun q hq=>by rw[List.mem_singleton.mp hq];exact⟨Heap.get?_push_size _ rfl,Nat.le_refl _⟩)
  refine post W1 _ t1 _ [k1.objs.size] _ _ l1 ⟨_,rfl,?_⟩ r2 (fun b hb t ht=>by rw[List.mem_singleton.mp hb];exact ap _ Zz5 t ht)
   (Zfp (fun i ob=>ob.cls=.type "list_iterator"∧ob.data=.fields #[.ref a,.int i 0]) ?_ ?_)
  ·intro i W ρ H fr ob s Q E o le r hp hn post
   obtain⟨us,eu,e4⟩:=Zz1.mp hn
   subst e4
   obtain⟨hl2,ys,k2,hg2,hv2⟩:=r.at eu (le.at ea)
   have g1:s.heap.IsListIter k1.objs.size a i:=⟨ob,r.frAt Zz5,hp.1,hp.2⟩
   have g2:s.heap.IsList a ys.toArray:=⟨_,hg2,rfl,k2,rfl⟩
   cases ev:us[i]? with
   | none=>
    rw[ev]at post
    have hi:ys.toArray[i]?=none:=by have:=List.getElem?_eq_none_iff.mp ev;rw[←hv2.length]at this;simpa using this
    exact wpAny_pyNext_list_end Γ.hh g1 g2 hi fun h' he'=>post h' s.toks fun b o hb e=>he' b o hb e
   | some v=>
    rw[ev]at post
    obtain⟨y,hy,ry⟩:=hv2.at ev
    refine wpAny_pyNext_list_item g1 g2 (x:=y) (by simpa using hy) fun h' hit' hs'=>?_
    obtain⟨ob',h1,h2,h3⟩:=hit'
    exact post ob' h' s.toks y ⟨h2,h3⟩ h1 (fun b o hb e=>hs'.extBut b o hb e) ry
  ·intro i W ρ H fr ob s Q E le r hp q
   exact wpAny_pyIter_listiter (⟨ob,r.frAt Zz5,hp.1,hp.2⟩:s.heap.IsListIter k1.objs.size a i) q
  ·exact⟨rfl,rfl⟩
theorem ZjT{a b c:Int}{H:Hp}{z:Nx×Nat×Hp}(h:Zbc a b c H=some z): c≠0∧Builtin.divisionGoesByPylong (b-a) c=false:=by
 unfold Zbc at h
 split at h
 ·rename_i hc
  exact⟨hc.1,hc.2.2.2.2⟩
 ·cases h
theorem ZkE{W0:Wd}{I:Addr}{a c:Int}{n:Nat}: Itr prog w Γ W0 (.ref I) [I] (fun i fs=>∃ob,fs=[(I,ob)]∧(i≤n∧ob = { cls:=.type "range_iterator",dict:=none,data:=.fields #[rawInt (a+(i:Nat)*c),rawInt ((n:Int)-(i:Nat)),rawInt c],slots:=#[] })) (Zdj a c n):=by
 have Wk:=Walks.range (prog:=prog) (w:=w) Γ.hh I a c n
 refine Zfp (fun i ob=>i≤n∧ob = { cls:=.type "range_iterator",dict:=none,data:=.fields #[rawInt (a+(i:Nat)*c),rawInt ((n:Int)-(i:Nat)),rawInt c],slots:=#[] }) ?_ ?_
 ·intro i W ρ H fr ob s Q E o le r hp hn post
  have g:IsRangeIter s.heap I (a+(i:Nat)*c) ((n:Int)-(i:Nat)) c:=(r.frAt Zz5).trans (congrArg some hp.2)
  cases hn
  by_cases hi:i<n
  ·rw[if_pos hi]at post
   refine Wk.item i s Q E hi g fun v h' tk hv st keep=>?_
   obtain⟨t,e⟩:=hv
   subst e
   exact post _ h' tk _ ⟨hi,rfl⟩ st (fun b o hb e=>keep b o (by simpa using hb) e) (.int _ _)
  ·rw[if_neg hi]at post
   have e:i=n:=by have:=hp.1;omega
   subst e
   exact Wk.done s Q E g fun h' tk keep=>post h' tk fun b o hb e=>keep b o (by simpa using hb) e
 ·intro i W ρ H fr ob s Q E le r hp q
  have g:IsRangeIter s.heap I (a+(i:Nat)*c) ((n:Int)-(i:Nat)) c:=(r.frAt Zz5).trans (congrArg some hp.2)
  exact Wk.self i s Q E g q
theorem ZgA{a b c:Int}{t u v:Tok}{W:Wd}{ρ:Lc}{H:Hp}{fr:List (Addr×Obj)}{s:Shared}{k:Heap}{tk:Nat}{Q E:Value→Shared→Prop}{nx:Nx}{n:Nat}{H':Hp}(r:Rep Γ W ρ H fr k)(hm:Zbc a b c H=some (nx,n,H'))
  (post:∀(W':Wd) (h':Heap) (tk':Nat) (it:Value) (as:List Addr) (It:Nat→List (Addr×Obj)→Prop) (fs:List (Addr×Obj)),W.Le W'→It 0 fs→Rep Γ W' ρ H' (fs++fr) h'→(∀a∈as,∀t∈fr,a≠t.1)→Itr prog w Γ W' it as It nx→Q it { s with heap:=h',toks:=tk' }):
  wpAny (model prog w) Γ.A (pyIter (.ref k.objs.size)) Q E { s with heap:=k.push { cls:=.type "range",data:=.fields #[.int a t,.int b u,.int c v] },toks:=tk }:=by
 unfold Zbc at hm
 split at hm
 ·rename_i hc
  cases hm
  have hr:IsRange (k.push { cls:=.type "range",data:=.fields #[.int a t,.int b u,.int c v] }) k.objs.size a b c t u v:=IsRange.new ..
  refine wpAny_pyIter_range hr hc.2.1 ?_
  have rp:=r.push { cls:=.type "range",data:=.fields #[.int a t,.int b u,.int c v] }
  have en:Builtin.Range.rangeSize a b c=((rngN a b c:Nat):Int):=(Int.toNat_of_nonneg hc.2.2.1).symm
  dsimp only
  generalize hk:k.push { cls:=.type "range",data:=.fields #[.int a t,.int b u,.int c v] } = k2 at rp ⊢
  obtain⟨r2,ap⟩:=rp.more (fs:=[(k2.objs.size,{ cls:=.type "range_iterator",data:=.fields #[rawInt a,rawInt (Builtin.Range.rangeSize a b c),rawInt c] })]) (fun b' o e=>Heap.get?_push_of_some { cls:=.type "range_iterator",data:=.fields #[rawInt a,rawInt (Builtin.Range.rangeSize a b c),rawInt c] } e) (fun q hq=>by rw[List.mem_singleton.mp hq];exact⟨Heap.get?_push_size _ rfl,Nat.le_refl _⟩)
  refine post W _ tk _ [k2.objs.size] _ _ (.refl W) ⟨_,rfl,Nat.zero_le _,?_⟩ r2 (fun b hb t ht=>by rw[List.mem_singleton.mp hb];exact ap _ Zz5 t ht) (ZkE (a:=a) (c:=c) (n:=rngN a b c))
  rw[en]
  simp
 ·cases hm
theorem JI.range{x:Str}{np pos:Pos}{e:Expr}{es:List Expr}{g:ZT}(hn:Nm prog w Γ x (.type "range"))(h:Js prog w Γ (e::es) g)
  (he:starEach (e::es) Γ.env=(false,eval e Γ.env)::starEach es Γ.env:=by rfl) (hp:∀pos,(backTo pos (starEach es Γ.env)).any (·.1)=false:=by intro _;rfl):JI prog w Γ (.Call (.Name x np) (e::es) [] pos) (Zbj g):=by
 intro W ρ H fr s Q E nx n H' r hf post
 obtain⟨p,e1,hf⟩:=Zz0.mp hf
 refine wpAny_Call_ofName (hn.use r ?_)
 refine PySem.Pv.callWith_type1 (h pos W ρ H fr s _ E _ _ r e1 fun W1 k1 t1 xs l1 r1 x1=>?_) he (hp pos)
 obtain⟨vs,H1⟩:=p
 dsimp only at hf x1 r1
 have post1:=fun W' h' tk' it as It fs (l:W1.Le W')=>post W' h' tk' it as It fs (l1.trans l)
 split at hf
 ·obtain⟨y,ex,ry⟩:=x1.one
  subst ex
  cases ry
  exact call_range_1 (ZgA r1 hf post1)
 ·obtain⟨y,z,ex,ry,rz⟩:=x1.two
  subst ex
  cases ry
  cases rz
  exact call_range_2 (ZgA r1 hf post1)
 ·cases x1 with
  | cons ry x1=>
  obtain⟨y,z,ex,rz,ru⟩:=x1.two
  subst ex
  cases ry
  cases rz
  cases ru
  have hc:=ZjT hf
  exact call_range_3 hc.1 (ZgA r1 hf post1) (.inl hc.2)
 ·cases hf
end
noncomputable def ZaW(nx:Nx)(put:V→Lc→Option Lc)(b:Sm): Nat→Nat→Sm
 | 0,_=>fun _ _=>none
 | n+1,i=>fun ρ H=>(nx i H).bind fun o=>match o with
  | none=>some (none,ρ,H)
  | some v=>(put v ρ).bind fun ρ1=>(b ρ1 H).bind fun q=>match q.1 with
   | some _=>some q
   | none=>ZaW nx put b n (i+1) q.2.1 q.2.2
noncomputable def ZaE(g:Src)(put:V→Lc→Option Lc)(b:Sm): Sm:=fun ρ H=>(g ρ H).bind fun z=>ZaW z.1 put b z.2.1 0 ρ z.2.2
noncomputable def put1(i:Nat): V→Lc→Option Lc:=fun v ρ=>some (upd ρ i v)
section
variable {prog:Program} {w:World} {Γ:Cx}
theorem ZbS{x:Str}{i:Nat}{px pos:Pos}{it:Expr}{body:List Stmt}{g:Src}{b:Sm}(hx:Sto prog w Γ x i)(hg:JI prog w Γ it g)(hb:Ss prog w Γ body b)(hs:∀x,foldedSetIterable it Γ.env x=pure x:=by intro _;rfl): S1 prog w Γ (.For (.Name x px) it body [] pos) (ZaE g (put1 i) b):=by
 intro W ρ H fr s Q E r rp hf post
 obtain⟨z,e1,hf⟩:=Zz0.mp hf
 obtain⟨nx,n,H0⟩:=z
 refine wpAny_For (hg W ρ H fr s _ E nx n H0 rp e1 fun W1 k1 t1 itv as It fs l1 i1 r1 ap I1=>?_) hs
 refine codeAny_forLoop (fun k s'=>∃W' ρ' H' h' tk' j fs',s' = { s with heap:=h',toks:=tk' }∧W1.Le W'∧It j fs'∧Rep Γ W' ρ' H' (fs'++fr) h'∧ZaW nx (put1 i) b k j ρ' H'=some r) ?_ n ⟨W1,ρ,H0,k1,t1,0,fs,rfl,.refl _,i1,r1,hf⟩
 rintro k s' ⟨W2,ρ2,H2,k2,t2,j,fs2,rfl,l2,i2,r2,e⟩
 cases k with
 | zero=>cases e
 | succ k=>
  obtain⟨o,e2,e⟩:=Zz0.mp e
  refine I1.next j W2 ρ2 H2 fr fs2 _ _ _ o l2 r2 ap i2 e2 ?_
  cases o with
  | none=>
   cases e
   intro h' tk' r3
   exact wpAny_execs_nil (post W2 h' tk' (l1.trans l2) r3)
  | some v=>
   intro fs3 k3 t3 y i3 r3 y3
   obtain⟨ρ3,e3,e⟩:=Zz0.mp e
   cases e3
   obtain⟨q,e4,e⟩:=Zz0.mp e
   refine wpAny_assign_Name (hx W2 ρ2 H2 (fs3++fr) _ _ _ v y r3 y3 fun k4 t4 r4=>?_)
   refine hb W2 _ H2 (fs3++fr) _ _ _ q r4 e4 ?_
   obtain⟨u,ρ5,H5⟩:=q
   cases u with
   | some u=>
    cases e
    exact fun W5 k5 t5 x5 l5 r5 v5=>post W5 k5 t5 x5 ((l1.trans l2).trans l5) (r5.less fun q hq=>List.mem_append_right _ hq) v5
   | none=>exact fun W5 k5 t5 l5 r5=>⟨k,Nat.lt_succ_self k,W5,ρ5,H5,k5,t5,j+1,fs3,rfl,l2.trans l5,i3,r5,e⟩
end
end PM
end
section
namespace PM
open PySem PySem.W PySem.Calls PyProof.Rows PyProof
structure OwnF(names:List Str)(cs:Scope)(cl:List (Str×Addr))(W:Wd)(ρ:Lc)(m:Str→Option Value)(cells:List (Addr×Obj)): Prop where
 loc:∀(i:Nat) (x:Str) (v:V),names[i]?=some x→cs.names.lookup x=some .local→ρ i=some v→∃y,m x=some y∧VR W v y
 cel:∀(i:Nat) (x:Str) (v:V),names[i]?=some x→cs.names.lookup x=some .cell→ρ i=some v→∃c o y,cl.lookup x=some c∧(c,o)∈cells∧o.data=.cell (some y)∧VR W v y
 all:∀(x:Str) (c:Addr),cl.lookup x=some c→∃o v₀,(c,o)∈cells∧o.data=.cell v₀
 one:∀(x y:Str) (c:Addr),cl.lookup x=some c→cl.lookup y=some c→x=y
theorem OwnF.mono{names:List Str}{cs:Scope}{cl:List (Str×Addr)}{W W':Wd}{ρ:Lc}{m:Str→Option Value}{cells:List (Addr×Obj)}(l:W.Le W')(h:OwnF names cs cl W ρ m cells): OwnF names cs cl W' ρ m cells:=
 ⟨fun i x v a b c=>by
  obtain⟨y,h1,h2⟩:=h.loc i x v a b c
  exact⟨y,h1,h2.mono l⟩,fun i x v a b c=>by
  obtain⟨d,o,y,h1,h2,h3,h4⟩:=h.cel i x v a b c
  exact⟨d,o,y,h1,h2,h3,h4.mono l⟩,h.all,h.one⟩
noncomputable def Za9(dp un:Nat)(gd:Option (List Code))(cn:Str)(cs:Scope)(L a:Addr)(ccd:Value)(cl:List (Str×Addr))(outer:List Env)(h₀:Heap)(hu:un+200<cLine)(names:List Str): Cx where
 A:=ktrTop dp un gd cn cs L a ccd cl outer
 env:=envX cn cs L a ccd cl
 h₀:=h₀
 L:=L
 hh:=rfl
 hu:=hu
 Own:=OwnF names cs cl
 mono:=OwnF.mono
section
variable {prog:Program} {w:World} {dp un:Nat} {gd:Option (List Code)} {cn:Str} {cs:Scope} {L a:Addr} {ccd:Value} {cl:List (Str×Addr)} {outer:List Env} {h₀:Heap} {hu:un+200<cLine} {names:List Str}
theorem rd_loc{x:Str}{i:Nat}(hi:names[i]?=some x)(hx:cs.names.lookup x=some .local)(hk:cs.kind=.function)(hd:(x == ("__debug__":Str))=false): Rd prog w (Za9 dp un gd cn cs L a ccd cl outer h₀ hu names) x i:=by
 intro W ρ H fr s Q E v pos r e q
 obtain⟨m,c,led,r⟩:=r
 obtain⟨y,h1,h2⟩:=r.own.loc i x v hi hx e
 exact nameX_L r.F h1 (q y h2) hk hx hd
theorem rd_cel{x:Str}{i:Nat}(hi:names[i]?=some x)(hx:cs.names.lookup x=some .cell)(hk:cs.kind=.function)(hd:(x == ("__debug__":Str))=false): Rd prog w (Za9 dp un gd cn cs L a ccd cl outer h₀ hu names) x i:=by
 intro W ρ H fr s Q E v pos r e q
 obtain⟨m,c,led,r⟩:=r
 obtain⟨d,o,y,h1,h2,h3,h4⟩:=r.own.cel i x v hi hx e
 exact nameX_C r.N h1 (r.clIn _ h2) h3 (q y h4) hk hx hd
theorem sto_loc{x:Str}{i:Nat}(nd:names.Nodup)(hi:names[i]?=some x)(hx:cs.names.lookup x=some .local)(hk:cs.kind=.function): Sto prog w (Za9 dp un gd cn cs L a ccd cl outer h₀ hu names) x i:=by
 intro W ρ H fr s Q E v y r vy q
 obtain⟨m,c,led,r⟩:=r
 have hi':i<names.length:=(Zz6.mp hi).1
 refine storeX_L r.F r.N (fun h' F' N'=>q h' _ ⟨_,c,led,⟨F',N',r.R,r.sc,r.sc0,r.frIn,r.frOff,r.clIn,r.clOff,r.apart,r.frTup,r.clTup,⟨fun j z u hj hz hu=>?_,fun j z u hj hz hu=>?_,r.own.all,r.own.one⟩⟩⟩) hk hx
 ·by_cases e:j=i
  ·subst e
   rw[hi]at hj
   cases hj
   simp only[upd,if_true]at hu
   cases hu
   exact⟨y,by simp,vy⟩
  ·have hzx:z≠x:=fun e'=>by
    subst e'
    exact e ((List.getElem?_inj (Zz6.mp hj).1 nd).mp (hj.trans hi.symm))
   simp only[upd,if_neg e]at hu
   obtain⟨y',h1,h2⟩:=r.own.loc j z u hj hz hu
   exact⟨y',by simp[hzx,h1],h2⟩
 ·by_cases e:j=i
  ·subst e
   rw[hi]at hj
   cases hj
   rw[hx]at hz
   cases hz
  ·simp only[upd,if_neg e]at hu
   exact r.own.cel j z u hj hz hu
theorem Ziy{x:Str}{i:Nat}(nd:names.Nodup)(hi:names[i]?=some x)(hx:cs.names.lookup x=some .cell)(hk:cs.kind=.function)(hcl:(cl.lookup x).isSome=true): Sto prog w (Za9 dp un gd cn cs L a ccd cl outer h₀ hu names) x i:=by
 intro W ρ H fr s Q E v y r vy q
 obtain⟨m,c,led,r⟩:=r
 obtain⟨d,hd⟩:=Option.isSome_iff_exists.mp hcl
 obtain⟨o,v₀,ho,hv₀⟩:=r.own.all x d hd
 have inl:=r.clIn _ ho
 have N2:News h₀ L s.heap ((d,o)::led.filter (fun q=>decide (q.1≠d))):=by
  intro q hq
  rcases Zz7.mp hq with e | hq
  ·subst e
   exact r.N _ inl
  ·exact r.N q (List.mem_filter.mp hq).1
 refine storeX_C r.F N2 hd (UpdF.head fun q hq=>by simpa using (List.mem_filter.mp hq).2) hv₀ (fun h' o' F' N' ho'=>?_) hk hx
 have keep:∀q∈led,q.1≠d→q∈(d,o')::led.filter (fun q=>decide (q.1≠d)):=fun q hq hn=>List.mem_cons_of_mem _ (List.mem_filter.mpr ⟨hq,by simpa using hn⟩)
 refine q h' s.toks ⟨m,(d,o')::c.filter (fun q=>decide (q.1≠d)),_,⟨F',N',⟨r.R.len,r.R.nd,fun j vs e ni=>?_,fun q hq=>Zbf (r.R.tups q hq) fun z=>keep q z (r.clTup _ ho q hq).symm,r.R.kind,fun j vs fs e hi=>?_,r.R.inlt,r.R.iuni⟩,r.sc,r.sc0,fun q hq=>keep q (r.frIn q hq) (r.apart _ ho q hq).symm,r.frOff,fun q hq=>?_,fun q hq=>?_,fun q hq t ht=>?_,r.frTup,fun q hq t ht=>?_,⟨fun j z u hj hz hu=>?_,fun j z u hj hz hu=>?_,fun z e hz=>?_,r.own.one⟩⟩⟩
 ·obtain⟨l,b,xs,k,h1,h2,h3⟩:=r.R.lists j vs e ni
  exact⟨l,b,xs,k,h1,Zbf h2 fun z=>keep _ z fun e=>r.clOff _ ho (e▸List.mem_of_getElem? h1),h3⟩
 ·obtain⟨l,b,od,xs,h1,h2,h3⟩:=r.R.objs j vs fs e hi
  exact⟨l,b,od,xs,h1,Zbf h2 fun z=>keep _ z fun e=>r.clOff _ ho (e▸List.mem_of_getElem? h1),h3⟩
 ·rcases Zz7.mp hq with e | hq
  ·exact e▸List.mem_cons_self
  ·obtain⟨h1,h2⟩:=List.mem_filter.mp hq
   exact keep q (r.clIn q h1) (by simpa using h2)
 ·rcases Zz7.mp hq with e | hq
  ·rw[e]
   exact(r.clOff _ ho:d∉W.pi)
  ·exact r.clOff q (List.mem_filter.mp hq).1
 ·rcases Zz7.mp hq with e | hq
  ·rw[e]
   exact(r.apart _ ho t ht:d≠t.1)
  ·exact r.apart q (List.mem_filter.mp hq).1 t ht
 ·rcases Zz7.mp hq with e | hq
  ·rw[e]
   exact(r.clTup _ ho t ht:d≠t.1)
  ·exact r.clTup q (List.mem_filter.mp hq).1 t ht
 ·by_cases e:j=i
  ·subst e
   rw[hi]at hj
   cases hj
   rw[hx]at hz
   cases hz
  ·simp only[upd,if_neg e]at hu
   exact r.own.loc j z u hj hz hu
 ·by_cases e:j=i
  ·subst e
   rw[hi]at hj
   cases hj
   simp only[upd,if_true]at hu
   cases hu
   exact⟨d,o',y,hd,List.mem_cons_self,ho',vy⟩
  ·have hzx:z≠x:=fun e'=>by
    subst e'
    exact e ((List.getElem?_inj (Zz6.mp hj).1 nd).mp (hj.trans hi.symm))
   simp only[upd,if_neg e]at hu
   obtain⟨b,ob,y',h1,h2,h3,h4⟩:=r.own.cel j z u hj hz hu
   have:b≠d:=fun e'=>by
    subst e'
    exact hzx (r.own.one z x b h1 hd)
   exact⟨b,ob,y',h1,List.mem_cons_of_mem _ (List.mem_filter.mpr ⟨h2,by simpa using this⟩),h3,h4⟩
 ·by_cases e':e=d
  ·subst e'
   exact⟨o',_,List.mem_cons_self,ho'⟩
  ·obtain⟨ob,v1,h1,h2⟩:=r.own.all z e hz
   exact⟨ob,v1,List.mem_cons_of_mem _ (List.mem_filter.mpr ⟨h1,by simpa using e'⟩),h2⟩
end
end PM
end
section
namespace PM
open PySem PySem.W PySem.Calls PyProof.Rows PyProof PyProof.Rows.LCg
theorem Zh3{Γ:Cx}{W:Wd}{ρ:Lc}{H:Hp}{fr:List (Addr×Obj)}{h:Heap}{D:Addr}{ys:List Value}{k:Nat}{vs:List V}(r:Rep Γ W ρ H ((D,ZaO ys k)::fr) h)(ap:∀t∈fr,D≠t.1)(hv:VRs W vs ys)(hl:vs.length≤ZN):
  ∃W',W.Le W'∧Rep Γ W' ρ (H++[vs]) fr h∧VR W' (.ref H.length) (.ref D):=by
 obtain⟨m,c,led,r⟩:=r
 have le:W.Le ⟨W.pi++[D],W.tups,W.sc,W.ins⟩:=⟨List.prefix_append _ _,fun q hq=>hq,rfl,fun _ h=>h,fun _ h=>.inl h⟩
 have nin:∀q∈W.ins,q.1≠H.length:=fun q hq e=>by have:=r.R.inlt q hq;omega
 have h0:0<W.pi.length:=(Zz6.mp r.sc0).1
 have at_n:(W.pi++[D])[H.length]?=some D:=by rw[←r.R.len];simp
 have off:=r.frOff _ Zz5
 refine⟨⟨W.pi++[D],W.tups,W.sc,W.ins⟩,le,⟨m,c,led,⟨r.F,r.N,⟨by simp[r.R.len],?_,fun i us e ni=>?_,r.R.tups,r.R.kind,fun i us fs e hi=>?_,fun q hq=>by have:=r.R.inlt q hq;simp;omega,r.R.iuni⟩,r.sc,(List.getElem?_append_left h0).trans r.sc0,fun q hq=>r.frIn q (Zz2 _ hq),fun q hq=>?_,r.clIn,fun q hq=>?_,fun q hq t ht=>r.apart q hq t (Zz2 _ ht),fun q hq=>r.frTup q (Zz2 _ hq),r.clTup,Γ.mono le r.own⟩⟩,.ref ⟨at_n,nin⟩⟩
 ·show(W.pi++[D]).Nodup
  rw[List.nodup_append]
  refine⟨r.R.nd,by simp,fun a ha b hb=>?_⟩
  rw[List.mem_singleton.mp hb]
  exact fun e=>off (e▸ha)
 ·by_cases hi:i<H.length
  ·rw[List.getElem?_append_left hi]at e
   obtain⟨l,a,zs,j,h1,h2,h3⟩:=r.R.lists i us e ni
   exact⟨l,a,zs,j,le.piAt h1,h2,h3.mono le⟩
  ·have:i=H.length:=by
    have:=(Zz6.mp e).1
    simp at this
    omega
   subst this
   simp at e
   subst e
   exact⟨hl,D,ys,k,at_n,List.mem_cons_of_mem _ (r.frIn _ Zz5),hv.mono le⟩
 ·have hi':i<H.length:=r.R.inlt _ hi
  rw[List.getElem?_append_left hi']at e
  obtain⟨l,a,od,zs,h1,h2,h3,h4⟩:=r.R.objs i us fs e hi
  exact⟨l,a,od,zs,le.piAt h1,h2,h3,h4.mono le⟩
 ·intro hm
  rcases Zz8.mp hm with hm | hm
  ·exact r.frOff q (Zz2 _ hq) hm
  ·exact ap q hq (Zz9.mp hm).symm
 ·intro hm
  rcases Zz8.mp hm with hm | hm
  ·exact r.clOff q hq hm
  ·exact r.apart q hq _ Zz5 (Zz9.mp hm)
def Znh(Γ:Cx)(C:Addr)(ts:List (Str×Nat))(ρ0:Lc)(W:Wd)(ρ:Lc)(m:Str→Option Value)(cells:List (Addr×Obj)): Prop:=
 ∃oC m₂ cs,cells=(C,oC)::cs∧(∀q∈cs,q.1≠C)∧NsObj oC m₂∧(∀p∈ts,∃v y,ρ p.2=some v∧m₂ p.1=some y∧VR W v y)∧(∀j,(∀p∈ts,p.2≠j)→ρ j=ρ0 j)∧Γ.Own W ρ0 m cs
noncomputable def ZaS(Γ:Cx)(scope:Scope)(cl:List (Str×Addr))(C:Addr)(ts:List (Str×Nat))(ρ0:Lc): Cx where
 A:=Γ.A
 env:=compEnvC scope cl C Γ.env
 h₀:=Γ.h₀
 L:=Γ.L
 hh:=Γ.hh
 hu:=Γ.hu
 Own:=Znh Γ C ts ρ0
 mono:=fun l h=>by
  obtain⟨oC,m₂,cs,e,h0,h1,h2,h3,h4⟩:=h
  exact⟨oC,m₂,cs,e,h0,h1,fun p hp=>by
   obtain⟨v,y,a,b,c⟩:=h2 p hp
   exact⟨v,y,a,b,c.mono l⟩,h3,Γ.mono l h4⟩
section
variable {Γ:Cx} {scope:Scope} {cl:List (Str×Addr)} {C:Addr} {ts:List (Str×Nat)} {ρ0:Lc} {W:Wd} {ρ:Lc} {H:Hp} {fr:List (Addr×Obj)} {h:Heap}
theorem Ziz{oC:Obj}{m₂:Str→Option Value}(r:Rep Γ W ρ0 H ((C,oC)::fr) h)(ap:∀t∈fr,C≠t.1)(hC:NsObj oC m₂)(ht:∀p∈ts,∃v y,ρ p.2=some v∧m₂ p.1=some y∧VR W v y)(hj:∀j,(∀p∈ts,p.2≠j)→ρ j=ρ0 j): Rep (ZaS Γ scope cl C ts ρ0) W ρ H fr h:=by
 obtain⟨m,c,led,r⟩:=r
 refine⟨m,(C,oC)::c,led,⟨r.F,r.N,r.R,r.sc,r.sc0,fun q hq=>r.frIn q (Zz2 _ hq),fun q hq=>r.frOff q (Zz2 _ hq),fun q hq=>?_,fun q hq=>?_,fun q hq t ht=>?_,fun q hq=>r.frTup q (Zz2 _ hq),fun q hq t ht=>?_,⟨oC,m₂,c,rfl,fun q hq=>r.apart q hq _ Zz5,hC,ht,hj,r.own⟩⟩⟩
 ·rcases Zz7.mp hq with e | hq
  ·exact e▸r.frIn _ Zz5
  ·exact r.clIn q hq
 ·rcases Zz7.mp hq with e | hq
  ·exact e▸r.frOff _ Zz5
  ·exact r.clOff q hq
 ·rcases Zz7.mp hq with e | hq
  ·exact e▸ap t ht
  ·exact r.apart q hq t (Zz2 _ ht)
 ·rcases Zz7.mp hq with e | hq
  ·exact e▸r.frTup _ Zz5 t ht
  ·exact r.clTup q hq t ht
theorem Rep.fromC(r:Rep (ZaS Γ scope cl C ts ρ0) W ρ H fr h): ∃oC m₂,NsObj oC m₂∧Rep Γ W ρ0 H ((C,oC)::fr) h:=by
 obtain⟨m,c,led,r⟩:=r
 obtain⟨oC,m₂,cs,e,h0,h1,h2,h3,h4⟩:=r.own
 subst e
 refine⟨oC,m₂,h1,m,cs,led,⟨r.F,r.N,r.R,r.sc,r.sc0,fun q hq=>?_,fun q hq=>?_,fun q hq=>r.clIn q (Zz2 _ hq),fun q hq=>r.clOff q (Zz2 _ hq),fun q hq t ht=>?_,fun q hq t ht=>?_,fun q hq=>r.clTup q (Zz2 _ hq),h4⟩⟩
 ·rcases Zz7.mp hq with e | hq
  ·exact e▸r.clIn _ Zz5
  ·exact r.frIn q hq
 ·rcases Zz7.mp hq with e | hq
  ·exact e▸r.clOff _ Zz5
  ·exact r.frOff q hq
 ·rcases Zz7.mp ht with e | ht
  ·rw[e]
   exact h0 q hq
  ·exact r.apart q (Zz2 _ hq) t ht
 ·rcases Zz7.mp hq with e | hq
  ·exact e▸r.clTup _ Zz5 t ht
  ·exact r.frTup q hq t ht
end
def JF(prog:Program)(w:World)(Γ:Cx)(ifs:List Expr)(f:Ts): Prop:=∀(W:Wd) (ρ:Lc) (H:Hp) (fr:List (Addr×Obj)) (s:Shared) (Q:Bool→Shared→Prop) (E:Value→Shared→Prop) (b:Bool) (H':Hp),
 Rep Γ W ρ H fr s.heap→f ρ H=some (b,H')→ZfA Γ W ρ H' fr s Q b →
 wpAny (model prog w) Γ.A (forIn ifs true fun c r=>if r=true then do let ok ←isTrue c Γ.env (eval c Γ.env);pure (ForInStep.yield ok)else pure (ForInStep.yield r)) Q E s
section
variable {prog:Program} {w:World} {Γ:Cx}
theorem JF.nil: JF prog w Γ [] ZaR:=fun W ρ H fr s Q E b H' r hf post=>by
 cases hf
 exact wpAny_pure (post W s.heap s.toks (.refl W) r)
theorem JF.one{e:Expr}{t:Ts}(h:JT prog w Γ e t): JF prog w Γ [e] t:=fun W ρ H fr s Q E b H' r hf post=>by
 rw[List.forIn_cons]
 simp only[if_true,List.forIn_nil]
 refine wpAny_bind (wpAny_bind (h W ρ H fr s _ E b H' r hf fun W1 k1 t1 l1 r1=>wpAny_pure ?_))
 exact wpAny_pure (post W1 k1 t1 l1 r1)
end
end PM
end
section
namespace PM
open PySem PySem.W PySem.Calls PyProof.Rows PyProof PyProof.Rows.LCg
noncomputable def ZaL(nx:Nx)(put:V→Lc→Option Lc)(c:Ts)(f:Ex)(ρ:Lc): Nat→Nat→List V→Hp→Option (List V×Hp)
 | 0,_,_,_=>none
 | n+1,i,acc,H=>(nx i H).bind fun o=>match o with
  | none=>some (acc,H)
  | some v=>(put v ρ).bind fun ρ1=>(c ρ1 H).bind fun b=>if b.1 then(f ρ1 b.2).bind fun p=>(if acc.length<ZN then ZaL nx put c f ρ n (i+1) (acc++[p.1]) p.2 else none)else ZaL nx put c f ρ n (i+1) acc b.2
noncomputable def ZaX(g:Src)(put:V→Lc→Option Lc)(c:Ts)(f:Ex): Ex:=fun ρ H=>(g ρ H).bind fun z=>(ZaL z.1 put c f ρ z.2.1 0 [] z.2.2).map fun q=>(.ref q.2.length,q.2++[q.1])
def ZdD(Γ:Cx)(W0:Wd)(ρ:Lc)(fr:List (Addr×Obj))(C D:Addr)(It:Nat→List (Addr×Obj)→Prop)(nx:Nx)(put:V→Lc→Option Lc)(c:Ts)(f:Ex)(q:List V×Hp)(s:Shared)(k:Nat)(s':Shared): Prop:=
 ∃W' H' h' tk' j fs acc ys oC m₂,s' = { s with heap:=h',toks:=tk' }∧W0.Le W'∧It j fs∧NsObj oC m₂∧VRs W' acc ys∧acc.length≤ZN∧Rep Γ W' ρ H' ((C,oC)::(D,lst ys)::(fs++fr)) h'∧ZaL nx put c f ρ k j acc H'=some q
section
variable {prog:Program} {w:World} {Γ:Cx}
theorem Zh4{scope:Scope}{cl:List (Str×Addr)}{elt:Expr}{ts:List (Str×Nat)}{W0 W:Wd}{ρ ρ1:Lc}{H:Hp}{fr fs:List (Addr×Obj)}{C D:Addr}{It:Nat→List (Addr×Obj)→Prop}{nx:Nx}{put:V→Lc→Option Lc}{c:Ts}{f:Ex}{q:List V×Hp}{s:Shared}{h:Heap}{tk:Nat}{k j:Nat}{acc:List V}{ys:List Value}{E:Value→Shared→Prop}
  (hel:J prog w (ZaS Γ scope cl C ts ρ) elt f) (aD:∀t∈fs++fr,D≠t.1) (cd:C≠D) (l0:W0.Le W) (hit:It (j+1) fs) (hv:VRs W acc ys) (r:Rep (ZaS Γ scope cl C ts ρ) W ρ1 H ((D,lst ys)::(fs++fr)) h)
  (e:((f ρ1 H).bind fun p=>(if acc.length<ZN then ZaL nx put c f ρ k (j+1) (acc++[p.1]) p.2 else none))=some q):
  wpAny (model prog w) Γ.A (eval elt (compEnvC scope cl C Γ.env)) (fun x s₄=>wpAny (model prog w) Γ.A (call (.builtin "list.append") [.ref D,x]) (fun _ s₅=>∃m,m<k+1∧ZdD Γ W0 ρ fr C D It nx put c f q s m s₅) E s₄) E { s with heap:=h,toks:=tk }:=by
 obtain⟨p,e2,e⟩:=Zz0.mp e
 by_cases hlt:acc.length<ZN
 ·rw[if_pos hlt]at e
  refine hel W ρ1 H _ _ _ E _ _ r e2 fun W2 k2 t2 x l2 r2 x2=>?_
  obtain⟨oC',m₃,hC',r3⟩:=r2.fromC
  have hD:k2.get? D=some (lst ys):=r3.frAt (q:=(D,lst ys)) (Zz2 _ Zz5)
  refine append_at (hsz:=Zbt (by rw[List.size_toArray,hv.length];omega)) hD fun h' sb hg=>?_
  have hg':h'.get? D=some (lst (ys++[x])):=hg.trans (congrArg some (lst_snoc ys x))
  have r4:Rep Γ W2 ρ p.2 ([(D,lst ys)]++((C,oC')::(fs++fr))) k2:=r3.less fun q hq=>by
   rcases Zz8.mp hq with hq | hq
   ·rw[List.mem_singleton.mp hq]
    exact Zz2 _ Zz5
   ·rcases Zz7.mp hq with e | hq
    ·exact e▸List.mem_cons_self
    ·exact Zz2 _ (Zz2 _ hq)
  have r5:Rep Γ W2 ρ p.2 ([(D,lst (ys++[x]))]++((C,oC')::(fs++fr))) h':=by
   refine r4.swap (fun q hq t ht=>?_) (fun b o hb e=>sb.extBut b o (fun z=>hb (by simp[z])) e) fun q hq=>?_
   ·rw[List.mem_singleton.mp hq]
    rcases Zz7.mp ht with e | ht
    ·rw[e]
     exact cd.symm
    ·exact aD t ht
   ·rw[List.mem_singleton.mp hq]
    exact⟨hg',by simp⟩
  have r6:Rep Γ W2 ρ p.2 ((C,oC')::(D,lst (ys++[x]))::(fs++fr)) h':=r5.less fun q hq=>by
   rcases Zz7.mp hq with e | hq
   ·exact e▸List.mem_append_right _ Zz5
   ·rcases Zz7.mp hq with e | hq
    ·exact e▸List.mem_append_left _ Zz5
    ·exact Zz3 _ (Zz2 _ hq)
  exact⟨k,Nat.lt_succ_self k,W2,p.2,h',t2,j+1,fs,acc++[p.1],ys++[x],oC',m₃,rfl,l0.trans l2,hit,hC',(hv.mono l2).snoc x2,by simp;omega,r6,e⟩
 ·rw[if_neg hlt]at e
  cases e
theorem Zih{scope:Scope}{cl:List (Str×Addr)}{elt:Expr}{ifs:List Expr}{ts:List (Str×Nat)}{W0 W:Wd}{ρ ρ1:Lc}{H:Hp}{fr fs:List (Addr×Obj)}{C D:Addr}{It:Nat→List (Addr×Obj)→Prop}{nx:Nx}{put:V→Lc→Option Lc}{c:Ts}{f:Ex}{q:List V×Hp}{s s1:Shared}{k j:Nat}{acc:List V}{ys:List Value}{oC:Obj}{m₂:Str→Option Value}{E:Value→Shared→Prop}
  (hel:J prog w (ZaS Γ scope cl C ts ρ) elt f) (hif:JF prog w (ZaS Γ scope cl C ts ρ) ifs c) (hs:∃h tk,s1 = { s with heap:=h,toks:=tk })
  (aC:∀t∈(D,lst ys)::(fs++fr),C≠t.1) (aD:∀t∈fs++fr,D≠t.1) (l0:W0.Le W) (hit:It (j+1) fs) (hC:NsObj oC m₂) (hv:VRs W acc ys) (hl:acc.length≤ZN) (r:Rep Γ W ρ H ((C,oC)::(D,lst ys)::(fs++fr)) s1.heap)
  (ht:∀p∈ts,∃v y,ρ1 p.2=some v∧m₂ p.1=some y∧VR W v y) (hj:∀i,(∀p∈ts,p.2≠i)→ρ1 i=ρ i)
  (e:((c ρ1 H).bind fun b=>if b.1 then(f ρ1 b.2).bind fun p=>(if acc.length<ZN then ZaL nx put c f ρ k (j+1) (acc++[p.1]) p.2 else none)else ZaL nx put c f ρ k (j+1) acc b.2)=some q):
  wpAny (model prog w) Γ.A (forIn ifs true fun c r=>if r=true then do let ok ←isTrue c (compEnvC scope cl C Γ.env) (eval c (compEnvC scope cl C Γ.env));pure (ForInStep.yield ok)else pure (ForInStep.yield r)) (fun ok s₃=>
   if ok=true then wpAny (model prog w) Γ.A (eval elt (compEnvC scope cl C Γ.env)) (fun x s₄=>wpAny (model prog w) Γ.A (call (.builtin "list.append") [.ref D,x]) (fun _ s₅=>∃m,m<k+1∧ZdD Γ W0 ρ fr C D It nx put c f q s m s₅) E s₄) E s₃
   else ∃m,m<k+1∧ZdD Γ W0 ρ fr C D It nx put c f q s m s₃) E s1:=by
 obtain⟨h,tk,rfl⟩:=hs
 obtain⟨b,e1,e⟩:=Zz0.mp e
 obtain⟨b,H1⟩:=b
 have rc:=Ziz (scope:=scope) (cl:=cl) r aC hC ht hj
 refine hif W ρ1 H _ _ _ E b H1 rc e1 fun W1 k1 t1 l1 r1=>?_
 cases b with
 | false=>
  obtain⟨oC',m₃,hC',r2⟩:=r1.fromC
  exact⟨k,Nat.lt_succ_self k,W1,H1,k1,t1,j+1,fs,acc,ys,oC',m₃,rfl,l0.trans l1,hit,hC',hv.mono l1,hl,r2,e⟩
 | true=>exact Zh4 hel aD (aC (D,lst ys) Zz5) (l0.trans l1) hit (hv.mono l1) r1 e
theorem comp_core{elt iter:Expr}{x:Str}{px:Pos}{ifs:List Expr}{scope:Scope}{pos:Pos}{cl:List (Str×Addr)}{t:Nat}{g:Src}{c:Ts}{f:Ex}(hg:JI prog w Γ iter g)(hel:∀C ρ,J prog w (ZaS Γ scope cl C [(x,t)] ρ) elt f)(hif:∀C ρ,JF prog w (ZaS Γ scope cl C [(x,t)] ρ) ifs c)
  (hcell:∀y∈scope.names,y.2≠.cell) (hkind:scope.kind=.function) (hx:scope.names.lookup x=some .local)
  {W:Wd} {ρ:Lc} {H:Hp} {fr:List (Addr×Obj)} {s:Shared} {E:Value→Shared→Prop} {q:List V×Hp} {RR:Value→Addr→Result→Shared→Prop} (r:Rep Γ W ρ H fr s.heap) (hf:((g ρ H).bind fun z=>ZaL z.1 (put1 t) c f ρ z.2.1 0 [] z.2.2)=some q)
  (hR:∀(W':Wd) (h':Heap) (tk':Nat) (C D:Addr) (oC:Obj) (m₂:Str→Option Value) (ys:List Value),W.Le W'→NsObj oC m₂→VRs W' q.1 ys→q.1.length≤ZN→(∀t∈fr,D≠t.1)→(∀t∈fr,C≠t.1)→C≠D→Rep Γ W' ρ q.2 ((C,oC)::(D,lst ys)::fr) h'→RR (.ref D) C (.ok .next) { s with heap:=h',toks:=tk' }):
  wpAny (model prog w) Γ.A (eval iter Γ.env) (fun xv s₁=>wpAny (model prog w) Γ.A (pyIter xv) (fun it s₂=>wpAny (model prog w) Γ.A (newList []) (fun acc s₃=>wpAny (model prog w) Γ.A (newFunctionEnv scope Γ.env.globals cl [] Γ.env.qual none .none (some Γ.env)) (fun cenv s₄=>
   codeAny (model prog w) Γ.A (.compStart (.ListComp elt [⟨.Name x px,iter,ifs,0⟩] scope pos) 0 it acc { cenv with scope:=relabel scope Γ.env }) (RR acc cenv.locals) s₄) E s₃) E s₂) E s₁) E s:=by
 obtain⟨z,e1,e2⟩:=Zz0.mp hf
 obtain⟨nx,n,H0⟩:=z
 refine hg W ρ H fr s _ E nx n H0 r e1 fun W1 k1 t1 itv as It fs l1 i1 r1 ap I1=>?_
 refine wpAny_newObj_type (wpAny_newFunctionEnv hcell (fun y hy=>by simp at hy) (fun h₂ hns hsb=>?_) hkind)
 dsimp only at hns hsb ⊢
 obtain⟨rD,aD⟩:=r1.more (fs:=[(k1.objs.size,lst [])]) (fun b o e=>Heap.get?_push_of_some (lst []) e) (fun q hq=>by rw[List.mem_singleton.mp hq];exact⟨Heap.get?_push_size _ rfl,Nat.le_refl _⟩)
 generalize eH:k1.push { cls:=.type "list",dict:=none,data:=.seq ([]:List Value).toArray } = K at hns hsb ⊢
 have eK:k1.push (lst [])=K:=eH
 rw[eK]at rD
 obtain⟨oC,gC,nC⟩:=ns_obj hns
 have up:∀b o,K.get? b=some o→h₂.get? b=some o:=fun b o e=>hsb.extBut b o (Nat.ne_of_lt (Heap.lt_size e)) (Heap.get?_push_of_some _ e)
 obtain⟨rC,aC⟩:=rD.more (fs:=[(K.objs.size,oC)]) up (fun q hq=>by rw[List.mem_singleton.mp hq];exact⟨gC,Nat.le_refl _⟩)
 have adr0:=I1.adr 0 fs i1
 have offs:∀b∈as,b≠k1.objs.size∧b≠K.objs.size:=fun b hb=>by
  rw[←adr0]at hb
  obtain⟨q,hq,e⟩:=Zz11.mp hb
  exact⟨e▸(aD _ Zz5 q (Zz4 _ hq)).symm,e▸(aC _ Zz5 q (Zz3 _ (Zz4 _ hq))).symm⟩
 have cd:K.objs.size≠k1.objs.size:=aC _ Zz5 (k1.objs.size,lst []) (Zz4 _ Zz5)
 have cfr:∀t∈fr,K.objs.size≠t.1:=fun t ht=>aC _ Zz5 t (Zz3 _ (Zz3 _ ht))
 have dfr:∀t∈fr,k1.objs.size≠t.1:=fun t ht=>aD _ Zz5 t (Zz3 _ ht)
 generalize k1.objs.size=D at *
 generalize K.objs.size=C at *
 have loop:∀s₃:Shared,s₃ = { s with heap:=h₂,toks:=t1+([]:List (Str×Value)).length } →
   codeAny (model prog w) Γ.A (.compLoop (.ListComp elt [⟨.Name x px,iter,ifs,0⟩] scope pos) 0 itv (.ref D) (compEnvC scope cl C Γ.env)) (RR (.ref D) C) s₃:=by
  intro s₃ hs₃
  subst hs₃
  refine codeAny_compLoop_tests (ZdD Γ W1 ρ fr C D It nx (put1 t) c f q s) ?_ n ⟨W1,H0,h₂,_,0,fs,[],[],oC,_,rfl,.refl _,i1,nC,.nil,Nat.zero_le _,rC,e2⟩
  rintro k s' ⟨W2,H2,k2,t2,j,fs2,acc,ys,oC2,m₂,rfl,l2,i2,hC2,hv2,hl2,r2,e⟩
  cases k with
  | zero=>cases e
  | succ k=>
   obtain⟨o,e4,e⟩:=Zz0.mp e
   have r2':Rep Γ W2 ρ H2 (fs2++((C,oC2)::(D,lst ys)::fr)) k2:=r2.less fun q hq=>by
    rcases Zz8.mp hq with hq | hq
    ·exact Zz2 _ (Zz2 _ (Zz4 _ hq))
    ·rcases Zz7.mp hq with e | hq
     ·exact e▸List.mem_cons_self
     ·rcases Zz7.mp hq with e | hq
      ·exact e▸List.mem_cons_of_mem _ Zz5
      ·exact Zz2 _ (Zz2 _ (Zz3 _ hq))
   have ap2:∀b∈as,∀t∈(C,oC2)::(D,lst ys)::fr,b≠t.1:=fun b hb t ht=>by
    rcases Zz7.mp ht with e | ht
    ·rw[e]
     exact(offs b hb).2
    ·rcases Zz7.mp ht with e | ht
     ·rw[e]
      exact(offs b hb).1
     ·exact ap b hb t ht
   refine I1.next j W2 ρ H2 _ fs2 _ _ _ o l2 r2' ap2 i2 e4 ?_
   cases o with
   | none=>
    cases e
    intro h' tk' r3
    exact hR W2 h' tk' C D oC2 m₂ ys (l1.trans l2) hC2 hv2 hl2 dfr cfr cd r3
   | some v=>
    intro fs3 k3 t3 y i3 r3 y3
    obtain⟨ρ3,e5,e⟩:=Zz0.mp e
    cases e5
    have a3:∀t∈fs3,t.1∈as:=fun t ht=>by
     rw[←I1.adr _ _ i3]
     exact List.mem_map_of_mem ht
    have gC3:k3.get? C=some oC2:=r3.frAt (q:=(C,oC2)) (Zz3 _ Zz5)
    have nC3:k3.Ns C m₂:=hC2.ns gC3
    refine wpAny_assign_Name (wpAny_storeName_local (lookup_relabel_local hx) nC3 (fun h4 hn4 sb4=>?_) (by simp[compEnvC,relabel,hkind]))
    obtain⟨oC4,gC4,nC4⟩:=ns_obj hn4
    have r3':Rep Γ W2 ρ H2 ([(C,oC2)]++((D,lst ys)::(fs3++fr))) k3:=r3.less fun q hq=>by
     rcases Zz8.mp hq with hq | hq
     ·rw[List.mem_singleton.mp hq]
      exact Zz3 _ Zz5
     ·rcases Zz7.mp hq with e | hq
      ·exact e▸List.mem_append_right _ (Zz2 _ Zz5)
      ·rcases Zz8.mp hq with hq | hq
       ·exact Zz4 _ hq
       ·exact Zz3 _ (Zz2 _ (Zz2 _ hq))
    have aC3:∀t∈(D,lst ys)::(fs3++fr),C≠t.1:=fun t ht=>by
     rcases Zz7.mp ht with e | ht
     ·rw[e]
      exact cd
     ·rcases Zz8.mp ht with ht | ht
      ·exact(offs _ (a3 t ht)).2.symm
      ·exact cfr t ht
    have aD3:∀t∈fs3++fr,D≠t.1:=fun t ht=>by
     rcases Zz8.mp ht with ht | ht
     ·exact(offs _ (a3 t ht)).1.symm
     ·exact dfr t ht
    have r4:Rep Γ W2 ρ H2 ([(C,oC4)]++((D,lst ys)::(fs3++fr))) h4:=by
     refine r3'.swap (fun q hq t ht=>?_) (fun b o hb e=>sb4.extBut b o (fun z=>hb (by simp[z,compEnvC])) e) fun q hq=>?_
     ·rw[List.mem_singleton.mp hq]
      exact aC3 t ht
     ·rw[List.mem_singleton.mp hq]
      exact⟨gC4,by simp⟩
    refine Zih (hel C ρ) (hif C ρ) ⟨h4,_,rfl⟩ aC3 aD3 l2 i3 nC4 hv2 hl2 r4 (fun p hp=>?_) (fun i hi=>?_) e
    ·rw[List.mem_singleton.mp hp]
     exact⟨v,y,by simp[upd],by simp,y3⟩
    ·have:i≠t:=fun e=>hi (x,t) Zz5 e.symm
     simp[upd,this]
 refine codeAny_compStart_list (loop _ rfl) ?_
 exact I1.self 0 W1 ρ H0 (([(C,oC)]++[(D,lst [])])++fr) fs _ _ _ (.refl _) (rC.less fun q hq=>by
  rcases Zz8.mp hq with hq | hq
  ·exact Zz3 _ (Zz3 _ (Zz4 _ hq))
  ·rcases Zz8.mp hq with hq | hq
   ·rcases Zz8.mp hq with hq | hq
    ·exact Zz4 _ hq
    ·exact Zz3 _ (Zz4 _ hq)
   ·exact Zz3 _ (Zz3 _ (Zz3 _ hq))) i1 (loop _ rfl)
theorem ZgZ{W:Wd}{ρ:Lc}{q:List V×Hp}{fr:List (Addr×Obj)}{C D:Addr}{oC:Obj}{ys:List Value}{h' h'':Heap}(hv:VRs W q.1 ys)(hl:q.1.length≤ZN)(aD:∀t∈fr,D≠t.1)(aC:∀t∈fr,C≠t.1)(cd:C≠D)(r:Rep Γ W ρ q.2 ((C,oC)::(D,lst ys)::fr) h')(sb:Heap.SameBut C h' h''):
  ∃W',W.Le W'∧Rep Γ W' ρ (q.2++[q.1]) fr h''∧VR W' (.ref q.2.length) (.ref D):=by
 have r4:Rep Γ W ρ q.2 ([]++((D,lst ys)::fr)) h'':=by
  refine Rep.swap (fs:=[(C,oC)]) (fs':=[]) r (fun q hq t ht=>?_) (fun b o hb e=>sb.extBut b o (fun z=>hb (by simp[z])) e) fun q hq=>nomatch hq
  rw[List.mem_singleton.mp hq]
  rcases Zz7.mp ht with e | ht
  ·rw[e]
   exact cd
  ·exact aC t ht
 exact Zh3 r4 aD hv hl
theorem J.comp{elt iter:Expr}{x:Str}{px:Pos}{ifs:List Expr}{scope:Scope}{pos:Pos}{cl:List (Str×Addr)}{t:Nat}{g:Src}{c:Ts}{f:Ex}(hg:JI prog w Γ iter g)(hel:∀C ρ,J prog w (ZaS Γ scope cl C [(x,t)] ρ) elt f)(hif:∀C ρ,JF prog w (ZaS Γ scope cl C [(x,t)] ρ) ifs c)
  (hclos:closureFor scope Γ.env=pure cl) (hcell:∀y∈scope.names,y.2≠.cell) (hkind:scope.kind=.function) (hnames:∀y∈scope.names,y.2=.local→scope.names.lookup y.1=some .local) (hx:scope.names.lookup x=some .local) (hs:∀x,foldedSetIterable iter Γ.env x=pure x:=by intro _;rfl):
  J prog w Γ (.ListComp elt [⟨.Name x px,iter,ifs,0⟩] scope pos) (ZaX g (put1 t) c f):=by
 intro W ρ H fr s Q E v H' r hf post
 obtain⟨z,e1,hf⟩:=Zz0.mp hf
 obtain⟨q,e2,e3⟩:=Zz1.mp hf
 cases e3
 rw[eval_ListComp]
 refine wpAny_comprehension_free (use:=Option.none) rfl hs hclos hkind hnames ?_
 refine comp_core (RR:=fun acc C=>compPost (model prog w) Γ.A E Option.none Q acc C) hg hel hif hcell hkind hx r (q:=q) (by rw[e1];exact e2) fun W2 h' tk' C D oC m₂ ys l2 hC hv hl aD aC cd r3=>?_
 refine⟨m₂,hC.ns (r3.frAt (q:=(C,oC)) Zz5),fun h'' sb=>?_⟩
 obtain⟨W5,l5,r5,v5⟩:=ZgZ hv hl aD aC cd r3 sb
 exact post W5 h'' tk' _ (l2.trans l5) r5 v5
end
end PM
end
section
namespace PM
open PySem PySem.W PySem.Calls PyProof.Rows PyProof PyProof.Rows.LCg PyProof.Rows.LCp
theorem Zjv(h:Heap): ∀as:List Addr,(∀a∈as,∃o,h.get? a=some o)→∃fs:List (Addr×Obj),fs.map (·.1)=as∧∀q∈fs,h.get? q.1=some q.2
 | [],_=>⟨[],rfl,fun q hq=>nomatch hq⟩
 | a::as,d=>by
  obtain⟨o,ho⟩:=d a Zz5
  obtain⟨fs,h1,h2⟩:=Zjv h as fun b hb=>d b (Zz2 _ hb)
  refine⟨(a,o)::fs,by rw[List.map_cons,h1],fun q hq=>?_⟩
  rcases Zz7.mp hq with e | hq
  ·rw[e]
   exact ho
  ·exact h2 q hq
structure Itr2(prog:Program)(w:World)(Γ:Cx)(W0:Wd)(it:Value)(as:List Addr)(It:Nat→List (Addr×Obj)→Prop)(nx:Nx): Prop where
 adr:∀i fs,It i fs→fs.map (·.1)=as
 pair:∀i H v,nx i H=some (some v)→∃a b,v=.tup [a,b]
 item:∀(i:Nat) (W:Wd) (ρ:Lc) (H:Hp) (fr fs:List (Addr×Obj)) (s:Shared) (Q:Option Value→Shared→Prop) (E:Value→Shared→Prop) (a b:V),W0.Le W→Rep Γ W ρ H (fs++fr) s.heap→(∀a∈as,∀t∈fr,a≠t.1)→It i fs→nx i H=some (some (.tup [a,b])) →
  (∀(T:Addr) (h1:Heap) (t1:Nat),(∀(elts:List Expr) (k:Nat) (pos:Pos) (s1:Shared) (Q1:Unit→Shared→Prop) (E1:Value→Shared→Prop),s1 = { s with heap:=h1,toks:=t1 } →
    (∀(fs':List (Addr×Obj)) (h':Heap) (x y:Value),It (i+1) fs'→Rep Γ W ρ H (fs'++fr) h'→IsTup h' T #[x,y]→VR W a x→VR W b y→Q1 () { s with heap:=h',toks:=t1 })→wpAny (model prog w) Γ.A (letOwnedTupleGo (.Tuple elts k pos) it (.ref T)) Q1 E1 s1)→Q (some (.ref T)) { s with heap:=h1,toks:=t1 })→wpAny (model prog w) Γ.A (pyNext it) Q E s
 done:∀(i:Nat) (W:Wd) (ρ:Lc) (H:Hp) (fr fs:List (Addr×Obj)) (s:Shared) (Q:Option Value→Shared→Prop) (E:Value→Shared→Prop),W0.Le W→Rep Γ W ρ H (fs++fr) s.heap→(∀a∈as,∀t∈fr,a≠t.1)→It i fs→nx i H=some none →
  (∀(h':Heap) (tk':Nat),Rep Γ W ρ H fr h'→Q none { s with heap:=h',toks:=tk' })→wpAny (model prog w) Γ.A (pyNext it) Q E s
 self:∀(i:Nat) (W:Wd) (ρ:Lc) (H:Hp) (fr fs:List (Addr×Obj)) (s:Shared) (Q E:Value→Shared→Prop) (o:Option V),W0.Le W→Rep Γ W ρ H (fs++fr) s.heap→It i fs→nx i H=some o→Q it s→wpAny (model prog w) Γ.A (pyIter it) Q E s
def JI2(prog:Program)(w:World)(Γ:Cx)(e:Expr)(g:Src): Prop:=∀(W:Wd) (ρ:Lc) (H:Hp) (fr:List (Addr×Obj)) (s:Shared) (Q E:Value→Shared→Prop) (nx:Nx) (n:Nat) (H':Hp),
 Rep Γ W ρ H fr s.heap→g ρ H=some (nx,n,H') →
 (∀(W':Wd) (h':Heap) (tk':Nat) (it:Value) (as:List Addr) (It:Nat→List (Addr×Obj)→Prop) (fs:List (Addr×Obj)),W.Le W'→It 0 fs→Rep Γ W' ρ H' (fs++fr) h'→(∀a∈as,∀t∈fr,a≠t.1)→Itr2 prog w Γ W' it as It nx→(∃o,nx 0 H'=some o)→Q it { s with heap:=h',toks:=tk' }) →
 wpAny (model prog w) Γ.A (eval e Γ.env) (fun xv s₁=>wpAny (model prog w) Γ.A (pyIter xv) Q E s₁) E s
noncomputable def Zb0(i j:Nat): V→Lc→Option Lc
 | .tup [a,b],ρ=>some (upd (upd ρ i a) j b)
 | _,_=>none
def ZS(z TI TO i1 i2 l1 l2:Addr)(i:Nat)(h:Heap): Prop:=IsZip h z TI TO .none∧PySem.IsPair h TI (.ref i1) (.ref i2)∧(∃a b,PySem.IsPair h TO a b)∧h.IsListIter i1 l1 i∧h.IsListIter i2 l2 i
theorem ZS.at{z TI TO i1 i2 l1 l2:Addr}{i:Nat}{h h':Heap}(x:ZS z TI TO i1 i2 l1 l2 i h)(e:∀a∈[z,TI,TO,i1,i2],∀o,h.get? a=some o→h'.get? a=some o): ZS z TI TO i1 i2 l1 l2 i h':=by
 obtain⟨h1,h2,⟨a,b,h3⟩,h4,h5⟩:=x
 exact⟨e z (by simp) _ h1,e TI (by simp) _ h2,⟨a,b,e TO (by simp) _ h3⟩,h4.at fun o x=>e i1 (by simp) o x,h5.at fun o x=>e i2 (by simp) o x⟩
section
variable {prog:Program} {w:World} {Γ:Cx}
theorem Zle{x1 x2:Str}{i1 i2 kt:Nat}{p1 p2 tp:Pos}(h1:Sto prog w Γ x1 i1)(h2:Sto prog w Γ x2 i2){W:Wd}{ρ:Lc}{H:Hp}{fr:List (Addr×Obj)}{s:Shared}{Q:Unit→Shared→Prop}{E:Value→Shared→Prop}{T:Addr}{y1 y2:Value}{a b:V}(r:Rep Γ W ρ H fr s.heap)(ht:IsTup s.heap T #[y1,y2])(v1:VR W a y1)(v2:VR W b y2)
  (post:∀(h':Heap) (tk':Nat),Rep Γ W (upd (upd ρ i1 a) i2 b) H fr h'→Q () { s with heap:=h',toks:=tk' }):wpAny (model prog w) Γ.A (assign (.Tuple [.Name x1 p1,.Name x2 p2] kt tp) Γ.env (.ref T)) Q E s:=by
 refine assign_Tuple_tuple Γ.hh ht rfl rfl fun g₄ he=>?_
 have r4:=r.grown (h':=g₄) fun b o e=>he b o (Nat.ne_of_lt (Heap.lt_size e)) e
 refine assignInOrder_cons (wpAny_assign_Name (h1 W ρ H fr _ _ _ a y1 r4 v1 fun k5 t5 r5=>?_))
 refine assignInOrder_cons (wpAny_assign_Name (h2 W _ H fr _ _ _ b y2 r5 v2 fun k6 t6 r6=>?_))
 exact assignInOrder_nil (post k6 t6 r6)
theorem Zlf{x1 x2:Str}{i1 i2 kt:Nat}{p1 p2 tp pos:Pos}{it:Expr}{body:List Stmt}{g:Src}{b:Sm}(h1:Sto prog w Γ x1 i1)(h2:Sto prog w Γ x2 i2)(hg:JI2 prog w Γ it g)(hb:Ss prog w Γ body b)(hs:∀x,foldedSetIterable it Γ.env x=pure x:=by intro _;rfl):
  S1 prog w Γ (.For (.Tuple [.Name x1 p1,.Name x2 p2] kt tp) it body [] pos) (ZaE g (Zb0 i1 i2) b):=by
 intro W ρ H fr s Q E r rp hf post
 obtain⟨z,e1,hf⟩:=Zz0.mp hf
 obtain⟨nx,n,H0⟩:=z
 refine wpAny_For (hg W ρ H fr s _ E nx n H0 rp e1 fun W1 k1 t1 itv as It fs l1 j1 r1 ap I1 _=>?_) hs
 refine codeAny_forLoop_any (fun k s'=>∃W' ρ' H' h' tk' j fs',s' = { s with heap:=h',toks:=tk' }∧W1.Le W'∧It j fs'∧Rep Γ W' ρ' H' (fs'++fr) h'∧ZaW nx (Zb0 i1 i2) b k j ρ' H'=some r) ?_ n ⟨W1,ρ,H0,k1,t1,0,fs,rfl,.refl _,j1,r1,hf⟩
 rintro k s' ⟨W2,ρ2,H2,k2,t2,j,fs2,rfl,l2,j2,r2,e⟩
 cases k with
 | zero=>cases e
 | succ k=>
  obtain⟨o,e2,e⟩:=Zz0.mp e
  cases o with
  | none=>
   cases e
   exact I1.done j W2 ρ2 H2 fr fs2 _ _ _ l2 r2 ap j2 e2 fun h' tk' r3=>wpAny_execs_nil (post W2 h' tk' (l1.trans l2) r3)
  | some v=>
   obtain⟨va,vb,ev⟩:=I1.pair j H2 v e2
   subst ev
   refine I1.item j W2 ρ2 H2 fr fs2 _ _ _ va vb l2 r2 ap j2 e2 fun T h3 t3 go=>?_
   obtain⟨ρ3,e3,e⟩:=Zz0.mp e
   cases e3
   obtain⟨q,e4,e⟩:=Zz0.mp e
   refine go _ _ _ _ _ _ rfl fun fs3 k3 y1 y2 j3 r3 ht w1 w2=>?_
   refine Zle h1 h2 (s:={ s with heap:=k3,toks:=t3 }) r3 ht w1 w2 fun k4 t4 r4=>?_
   refine hb W2 _ H2 (fs3++fr) _ _ _ q r4 e4 ?_
   obtain⟨u,ρ5,H5⟩:=q
   cases u with
   | some u=>
    cases e
    exact fun W5 k5 t5 x5 l5 r5 v5=>post W5 k5 t5 x5 ((l1.trans l2).trans l5) (r5.less fun q hq=>List.mem_append_right _ hq) v5
   | none=>exact fun W5 k5 t5 l5 r5=>⟨k,Nat.lt_succ_self k,W5,ρ5,H5,k5,t5,j+1,fs3,rfl,l2.trans l5,j3,r5,e⟩
theorem Zj0{elt iter:Expr}{x x₂:Str}{px px₂ tp:Pos}{kt:Nat}{scope:Scope}{pos:Pos}{cl:List (Str×Addr)}{t t₂:Nat}{g:Src}{f:Ex}(hg:JI2 prog w Γ iter g)(hel:∀C ρ,J prog w (ZaS Γ scope cl C [(x,t),(x₂,t₂)] ρ) elt f)
  (hcell:∀y∈scope.names,y.2≠.cell) (hkind:scope.kind=.function) (hx:scope.names.lookup x=some .local) (hx₂:scope.names.lookup x₂=some .local) (hxx:x≠x₂) (htt:t≠t₂)
  {W:Wd} {ρ:Lc} {H:Hp} {fr:List (Addr×Obj)} {s:Shared} {E:Value→Shared→Prop} {q:List V×Hp} {RR:Value→Addr→Result→Shared→Prop} (r:Rep Γ W ρ H fr s.heap) (hf:((g ρ H).bind fun z=>ZaL z.1 (Zb0 t t₂) ZaR f ρ z.2.1 0 [] z.2.2)=some q)
  (hR:∀(W':Wd) (h':Heap) (tk':Nat) (C D:Addr) (oC:Obj) (m₂:Str→Option Value) (ys:List Value),W.Le W'→NsObj oC m₂→VRs W' q.1 ys→q.1.length≤ZN→(∀t∈fr,D≠t.1)→(∀t∈fr,C≠t.1)→C≠D→Rep Γ W' ρ q.2 ((C,oC)::(D,lst ys)::fr) h'→RR (.ref D) C (.ok .next) { s with heap:=h',toks:=tk' }):
  wpAny (model prog w) Γ.A (eval iter Γ.env) (fun xv s₁=>wpAny (model prog w) Γ.A (pyIter xv) (fun it s₂=>wpAny (model prog w) Γ.A (newList []) (fun acc s₃=>wpAny (model prog w) Γ.A (newFunctionEnv scope Γ.env.globals cl [] Γ.env.qual none .none (some Γ.env)) (fun cenv s₄=>
   codeAny (model prog w) Γ.A (.compStart (.ListComp elt [⟨.Tuple [.Name x px,.Name x₂ px₂] kt tp,iter,[],0⟩] scope pos) 0 it acc { cenv with scope:=relabel scope Γ.env }) (RR acc cenv.locals) s₄) E s₃) E s₂) E s₁) E s:=by
 obtain⟨z,e1,e2⟩:=Zz0.mp hf
 obtain⟨nx,n,H0⟩:=z
 refine hg W ρ H fr s _ E nx n H0 r e1 fun W1 k1 t1 itv as It fs l1 i1 r1 ap I1 hstart=>?_
 refine wpAny_newObj_type (wpAny_newFunctionEnv hcell (fun y hy=>by simp at hy) (fun h₂ hns hsb=>?_) hkind)
 dsimp only at hns hsb ⊢
 obtain⟨rD,aD⟩:=r1.more (fs:=[(k1.objs.size,lst [])]) (fun b o e=>Heap.get?_push_of_some (lst []) e) (fun q hq=>by rw[List.mem_singleton.mp hq];exact⟨Heap.get?_push_size _ rfl,Nat.le_refl _⟩)
 generalize eH:k1.push { cls:=.type "list",dict:=none,data:=.seq ([]:List Value).toArray } = K at hns hsb ⊢
 have eK:k1.push (lst [])=K:=eH
 rw[eK]at rD
 obtain⟨oC,gC,nC⟩:=ns_obj hns
 have up:∀b o,K.get? b=some o→h₂.get? b=some o:=fun b o e=>hsb.extBut b o (Nat.ne_of_lt (Heap.lt_size e)) (Heap.get?_push_of_some _ e)
 obtain⟨rC,aC⟩:=rD.more (fs:=[(K.objs.size,oC)]) up (fun q hq=>by rw[List.mem_singleton.mp hq];exact⟨gC,Nat.le_refl _⟩)
 have adr0:=I1.adr 0 fs i1
 have offs:∀b∈as,b≠k1.objs.size∧b≠K.objs.size:=fun b hb=>by
  rw[←adr0]at hb
  obtain⟨q,hq,e⟩:=Zz11.mp hb
  exact⟨e▸(aD _ Zz5 q (Zz4 _ hq)).symm,e▸(aC _ Zz5 q (Zz3 _ (Zz4 _ hq))).symm⟩
 have cd:K.objs.size≠k1.objs.size:=aC _ Zz5 (k1.objs.size,lst []) (Zz4 _ Zz5)
 have cfr:∀t∈fr,K.objs.size≠t.1:=fun t ht=>aC _ Zz5 t (Zz3 _ (Zz3 _ ht))
 have dfr:∀t∈fr,k1.objs.size≠t.1:=fun t ht=>aD _ Zz5 t (Zz3 _ ht)
 generalize k1.objs.size=D at *
 generalize K.objs.size=C at *
 have loop:∀s₃:Shared,s₃ = { s with heap:=h₂,toks:=t1+([]:List (Str×Value)).length } →
   codeAny (model prog w) Γ.A (.compLoop (.ListComp elt [⟨.Tuple [.Name x px,.Name x₂ px₂] kt tp,iter,[],0⟩] scope pos) 0 itv (.ref D) (compEnvC scope cl C Γ.env)) (RR (.ref D) C) s₃:=by
  intro s₃ hs₃
  subst hs₃
  refine codeAny_compLoop_pair (ZdD Γ W1 ρ fr C D It nx (Zb0 t t₂) ZaR f q s) ?_ n ⟨W1,H0,h₂,_,0,fs,[],[],oC,_,rfl,.refl _,i1,nC,.nil,Nat.zero_le _,rC,e2⟩
  rintro k s' ⟨W2,H2,k2,t2,j,fs2,acc,ys,oC2,m₂,rfl,l2,i2,hC2,hv2,hl2,r2,e⟩
  cases k with
  | zero=>cases e
  | succ k=>
   obtain⟨o,e4,e⟩:=Zz0.mp e
   have r2':Rep Γ W2 ρ H2 (fs2++((C,oC2)::(D,lst ys)::fr)) k2:=r2.less fun q hq=>by
    rcases Zz8.mp hq with hq | hq
    ·exact Zz2 _ (Zz2 _ (Zz4 _ hq))
    ·rcases Zz7.mp hq with e | hq
     ·exact e▸List.mem_cons_self
     ·rcases Zz7.mp hq with e | hq
      ·exact e▸List.mem_cons_of_mem _ Zz5
      ·exact Zz2 _ (Zz2 _ (Zz3 _ hq))
   have ap2:∀b∈as,∀t∈(C,oC2)::(D,lst ys)::fr,b≠t.1:=fun b hb t ht=>by
    rcases Zz7.mp ht with e | ht
    ·rw[e]
     exact(offs b hb).2
    ·rcases Zz7.mp ht with e | ht
     ·rw[e]
      exact(offs b hb).1
     ·exact ap b hb t ht
   cases o with
   | none=>
    cases e
    exact I1.done j W2 ρ H2 _ fs2 _ _ _ l2 r2' ap2 i2 e4 fun h' tk' r3=>hR W2 h' tk' C D oC2 m₂ ys (l1.trans l2) hC2 hv2 hl2 dfr cfr cd r3
   | some v=>
    obtain⟨va,vb,ev⟩:=I1.pair j H2 v e4
    subst ev
    refine I1.item j W2 ρ H2 _ fs2 _ _ _ va vb l2 r2' ap2 i2 e4 fun T h3 t3 go=>?_
    obtain⟨ρ3,e5,e⟩:=Zz0.mp e
    cases e5
    refine go _ _ _ _ _ _ rfl fun fs3 k3 y1 y2 i3 r3 htup w1 w2=>?_
    have a3:∀t∈fs3,t.1∈as:=fun t ht=>by
     rw[←I1.adr _ _ i3]
     exact List.mem_map_of_mem ht
    refine assign_Tuple_tuple (s:={ s with heap:=k3,toks:=t3 }) Γ.hh htup rfl rfl fun g₄ he=>?_
    have r3g:=r3.grown (h':=g₄) fun b o e=>he b o (Nat.ne_of_lt (Heap.lt_size e)) e
    have gC3:g₄.get? C=some oC2:=r3g.frAt (q:=(C,oC2)) (Zz3 _ Zz5)
    have nC3:g₄.Ns C m₂:=hC2.ns gC3
    refine assignInOrder_cons (wpAny_assign_Name (wpAny_storeName_local (lookup_relabel_local hx) nC3 (fun h5 hn5 sb5=>?_) (by simp[compEnvC,relabel,hkind])))
    refine assignInOrder_cons (wpAny_assign_Name (wpAny_storeName_local (lookup_relabel_local hx₂) hn5 (fun h4 hn4 sb4=>?_) (by simp[compEnvC,relabel,hkind])))
    refine assignInOrder_nil ?_
    obtain⟨oC4,gC4,nC4⟩:=ns_obj hn4
    have r3':Rep Γ W2 ρ H2 ([(C,oC2)]++((D,lst ys)::(fs3++fr))) g₄:=r3g.less fun q hq=>by
     rcases Zz8.mp hq with hq | hq
     ·rw[List.mem_singleton.mp hq]
      exact Zz3 _ Zz5
     ·rcases Zz7.mp hq with e | hq
      ·exact e▸List.mem_append_right _ (Zz2 _ Zz5)
      ·rcases Zz8.mp hq with hq | hq
       ·exact Zz4 _ hq
       ·exact Zz3 _ (Zz2 _ (Zz2 _ hq))
    have aC3:∀t∈(D,lst ys)::(fs3++fr),C≠t.1:=fun t ht=>by
     rcases Zz7.mp ht with e | ht
     ·rw[e]
      exact cd
     ·rcases Zz8.mp ht with ht | ht
      ·exact(offs _ (a3 t ht)).2.symm
      ·exact cfr t ht
    have aD3:∀t∈fs3++fr,D≠t.1:=fun t ht=>by
     rcases Zz8.mp ht with ht | ht
     ·exact(offs _ (a3 t ht)).1.symm
     ·exact dfr t ht
    have r4:Rep Γ W2 ρ H2 ([(C,oC4)]++((D,lst ys)::(fs3++fr))) h4:=by
     refine r3'.swap (fun q hq t ht=>?_) (fun b o hb e=>sb4.extBut b o (fun z=>hb (by simp[z,compEnvC])) (sb5.extBut b o (fun z=>hb (by simp[z,compEnvC])) e)) fun q hq=>?_
     ·rw[List.mem_singleton.mp hq]
      exact aC3 t ht
     ·rw[List.mem_singleton.mp hq]
      exact⟨gC4,by simp⟩
    have rc:=Ziz (scope:=scope) (cl:=cl) (ts:=[(x,t),(x₂,t₂)]) (ρ:=upd (upd ρ t va) t₂ vb) r4 aC3 nC4 (fun p hp=>by
     rcases Zz7.mp hp with e | hp
     ·rw[e]
      exact⟨va,y1,by simp[upd,htt],by simp[hxx],w1⟩
     ·rw[List.mem_singleton.mp hp]
      exact⟨vb,y2,by simp[upd],by simp,w2⟩) (fun i hi=>by
     have h1:i≠t:=fun e=>hi (x,t) Zz5 e.symm
     have h2:i≠t₂:=fun e=>hi (x₂,t₂) (Zz2 _ Zz5) e.symm
     simp[upd,h1,h2])
    exact Zh4 (hel C ρ) aD3 cd l2 i3 hv2 rc e
 refine codeAny_compStart_list (loop _ rfl) ?_
 obtain⟨o0,ho0⟩:=hstart
 exact I1.self 0 W1 ρ H0 (([(C,oC)]++[(D,lst [])])++fr) fs _ _ _ o0 (.refl _) (rC.less fun q hq=>by
  rcases Zz8.mp hq with hq | hq
  ·exact Zz3 _ (Zz3 _ (Zz4 _ hq))
  ·rcases Zz8.mp hq with hq | hq
   ·rcases Zz8.mp hq with hq | hq
    ·exact Zz4 _ hq
    ·exact Zz3 _ (Zz4 _ hq)
   ·exact Zz3 _ (Zz3 _ (Zz3 _ hq))) i1 ho0 (loop _ rfl)
theorem Zlg{elt iter:Expr}{x x₂:Str}{px px₂ tp:Pos}{kt:Nat}{scope:Scope}{pos:Pos}{cl:List (Str×Addr)}{t t₂:Nat}{g:Src}{f:Ex}(hg:JI2 prog w Γ iter g)(hel:∀C ρ,J prog w (ZaS Γ scope cl C [(x,t),(x₂,t₂)] ρ) elt f)
  (hclos:closureFor scope Γ.env=pure cl) (hcell:∀y∈scope.names,y.2≠.cell) (hkind:scope.kind=.function) (hnames:∀y∈scope.names,y.2=.local→scope.names.lookup y.1=some .local) (hx:scope.names.lookup x=some .local) (hx₂:scope.names.lookup x₂=some .local) (hxx:x≠x₂) (htt:t≠t₂) (hs:∀x,foldedSetIterable iter Γ.env x=pure x:=by intro _;rfl):
  J prog w Γ (.ListComp elt [⟨.Tuple [.Name x px,.Name x₂ px₂] kt tp,iter,[],0⟩] scope pos) (ZaX g (Zb0 t t₂) ZaR f):=by
 intro W ρ H fr s Q E v H' r hf post
 obtain⟨z,e1,hf⟩:=Zz0.mp hf
 obtain⟨q,e2,e3⟩:=Zz1.mp hf
 cases e3
 rw[eval_ListComp]
 refine wpAny_comprehension_free (use:=Option.none) rfl hs hclos hkind hnames ?_
 refine Zj0 (RR:=fun acc C=>compPost (model prog w) Γ.A E Option.none Q acc C) hg hel hcell hkind hx hx₂ hxx htt r (q:=q) (by rw[e1];exact e2) fun W2 h' tk' C D oC m₂ ys l2 hC hv hl aD aC cd r3=>?_
 refine⟨m₂,hC.ns (r3.frAt (q:=(C,oC)) Zz5),fun h'' sb=>?_⟩
 obtain⟨W5,l5,r5,v5⟩:=ZgZ hv hl aD aC cd r3 sb
 exact post W5 h'' tk' _ (l2.trans l5) r5 v5
end
end PM
end
section
namespace PM
open PySem PySem.W PySem.Calls PyProof.Rows PyProof PySem.Spec
theorem Zl6{prog:Program}{w:World}{A A₀:Around}{s:Shared}{base h₀:Heap}{L:Addr}{m:Str→Option Value}{lent:List (Addr×Obj)}{K:Frag}{p:Program}{loose:List Str}{mean:ExcName→Option Value}{mg mb:Str→Option Value}
  {env:Env} {outer:List Env} {R:Result→Shared→Prop} {name qual:Str} {params:Arguments} {body:List Stmt} {scope:Scope} {dV kV doc pm cdv ct oc:Value} {an od:Option Addr} {osl:Array (Option Value)} {f:Addr} {args:Args} {binds:List (Str×Value)}
  (B:Below A₀ base outer h₀) (F:Fr h₀ L s.heap m) (X₀:K.In h₀) (N:News h₀ L s.heap lent) (T:Top p loose mean mg mb h₀) (hA:A.frames=some (env::outer)) (hf:env.frame=some L) (hke:env.scope.kind=.function)
  (ho:K.lookup f=some ⟨oc,od,.func (fnOf name qual params body scope dV kV doc pm an cdv ct),osl⟩) (hcd:codeIn K cdv qual=true) (hroom:A.depth<recursionLimit)
  (hbind:BindsTo s (fnOf name qual params body scope dV kV doc pm an cdv ct) args binds) (hall:(binds.all fun y=>scope.names.lookup y.1 == some .local || scope.names.lookup y.1 == some .cell)=true) (hone:((cellsFrom 0 scope.names []).map (·.1)).Nodup)
  (h:∀g L' h₁ tk cells,(∀b o,s.heap.get? b=some o→b∉lent.map (·.1)→g.get? b=some o)→Fr g L' h₁ (bindL (envOfC qual scope L' f cdv).kindOf binds fun _=>none)→News g L' h₁ (cells++lent)→CellsAre (bindC (envOfC qual scope L' f cdv).kindOf binds fun _=>none) (cellsFrom (L'+1) scope.names []) cells →
   (cellsFrom (L'+1) scope.names []).Pairwise (fun x y=>x.2≠y.2)→(∀n c,(n,c)∈cellsFrom (L'+1) scope.names []→L'<c)→Below A base (env::outer) g→K.In g→Top p loose mean mg mb g→(∀q∈lent,q.1<L')→s.heap.objs.size≤L' →
   wpAny (model prog w) (A.deeper (envOfC qual scope L' f cdv)) (execs body (envOfC qual scope L' f cdv)) (fun fl s'=>LeaveK h₀ L m g R (match fl with | .ret v=>v | _=>.none) s')
    (fun e s'=>wpAny (model prog w) (A.deeper (envOfC qual scope L' f cdv)) (leaving (envOfC qual scope L' f cdv) e) (fun _ s''=>R (.error e) s'') (fun e' s''=>R (.error e') s'') s') { s with heap:=h₁,toks:=tk })
  (hco:scope.isCoroutine=false) (hgen:scope.isGenerator=false) (hk:scope.kind=.function):codeAny (model prog w) A (.call (.ref f) args) R s:=by
 obtain⟨FG,BG,st,lv⟩:=groundX (R:=R) B F N hA hf hke
 have X:=X₀.keeps F.keep
 refine codeAny_call_function (fd:=fnOf name qual params body scope dV kV doc pm an cdv ct) hroom (X _ _ ho) rfl hco hgen rfl (codeRec_of X hcd) (hbind _ _ _ _ ?_)
 refine wpAny_newFunctionEnv_cells hk (kindsX hall _) fun fresh hfr s' inC=>?_
 subst hfr
 have up:=inC.toInCall.keep
 refine⟨(T.nolimit.keeps F.keep).keeps up,codeAny_func ?_⟩
 obtain⟨h₁,tk,hs',_⟩:=inC.done
 subst hs'
 have nod:=cellsFrom_names scope.names 0 (s.heap.objs.size+1) [] [] rfl▸hone
 obtain⟨cells,NC,Y⟩:=Cl.news (h₀:=s.heap) (L:=s.heap.objs.size) (Zz10 _) fun n c hm=>⟨inC.cell n c (lookup_of_mem_nodup nod hm),inC.above n c hm⟩
 have old:∀q∈lent,q.1<s.heap.objs.size:=fun q hq=>Heap.lt_size (N q hq).1
 refine wpAny_mono (h _ s.heap.objs.size h₁ tk cells (fun b o e nb=>hideAll_get _ e nb) ⟨inC.toInCall.ns,fun b o e=>up b o (of_hideAll _ e),Nat.le_of_eq (hideAll_size _ _)⟩ (fun q hq=>?_) Y inC.apart inC.above BG (X₀.keeps st) (T.keeps st) old (Zz10 _)) (fun fl s' hl=>lv _ _ hl) fun _ _ y=>y
 rcases Zz8.mp hq with hq | hq
 ·obtain⟨c1,c2,c3⟩:=NC q hq
  refine⟨c1,c2,?_⟩
  cases e:(hideAll s.heap (lent.map (·.1))).get? q.1 with
  | none=>rfl
  | some o=>
   have z:=of_hideAll _ e
   rw[c3]at z
   cases z
 ·exact⟨up _ _ (N q hq).1,Nat.ne_of_lt (old q hq),hideAll_none _ (List.mem_map_of_mem hq)⟩
section
variable (prog:Program) (w:World) (K:Frag) (p:Program) (loose:List Str) (mean:ExcName→Option Value) (mg mb:Str→Option Value)
def Clr(Γ:Cx)(dp un:Nat): Prop:=∃(gd:Option (List Code)) (cn:Str) (cs:Scope) (a:Addr) (ccd:Value) (cl:List (Str×Addr)) (outer:List Env) (A₀:Around) (base:Heap),
 Γ.A=ktrTop dp un gd cn cs Γ.L a ccd cl outer∧Below A₀ base outer Γ.h₀∧K.In Γ.h₀∧Top p loose mean mg mb Γ.h₀∧cs.kind=.function
def Def(f:Addr)(room:Nat)(F:List V→Hp→Option (V×Hp)): Prop:=∀(Γ:Cx) (dp un:Nat),Clr K p loose mean mg mb Γ dp un→dp+room<recursionLimit→un+10*room+300<cLine →
 ∀(W:Wd) (ρ:Lc) (H:Hp) (fr:List (Addr×Obj)) (s:Shared) (Q E:Value→Shared→Prop) (as:List V) (xs:List Value) (v:V) (H':Hp),
  Rep Γ W ρ H fr s.heap→VRs W as xs→F as H=some (v,H')→Zdz Γ W ρ H' fr s Q v→codeAny (model prog w) Γ.A (.call (.ref f) ⟨xs,[]⟩) (fun r s'=>match r with | .ok (.ret v)=>Q v s' | .ok _=>False | .error e=>E e s') s
end
noncomputable def Z5(n:Nat)(g:Sm): List V→Hp→Option (V×Hp):=fun as H=>if as.length=n then(g (fun i=>as[i]?) H).map fun r=>((r.1.getD .none),r.2.2)else none
theorem Zkm{kindOf:Str→Option NameKind}: ∀{ps:List Str} {xs:List Value} {m:Str→Option Value} {x:Str} {i:Nat} {y:Value},ps.Nodup→ps[i]?=some x→xs[i]?=some y→kindOf x=some .local→bindL kindOf (ps.zip xs) m x=some y:=by
 have skip:∀{ps:List Str} {xs:List Value} {m:Str→Option Value} {x:Str},x∉ps→bindL kindOf (ps.zip xs) m x=m x:=by
  intro ps
  induction ps with
  | nil=>intro xs m x _;rfl
  | cons p ps ih=>
   intro xs m x hx
   cases xs with
   | nil=>rfl
   | cons z xs=>
    simp only[List.zip_cons_cons,bindL]
    rw[ih (fun h=>hx (Zz2 _ h))]
    have:x≠p:=fun e=>hx (e▸List.mem_cons_self)
    split <;> simp[this]
 intro ps
 induction ps with
 | nil=>intro xs m x i y _ h;simp at h
 | cons p ps ih=>
  intro xs m x i y nd hp hx hk
  cases xs with
  | nil=>simp at hx
  | cons z xs=>
   obtain⟨n1,n2⟩:=List.nodup_cons.mp nd
   cases i with
   | zero=>
    simp at hp hx
    subst hp hx
    simp only[List.zip_cons_cons,bindL]
    rw[skip n1,if_pos hk]
    simp
   | succ i=>
    simp at hp hx
    simp only[List.zip_cons_cons,bindL]
    exact ih n2 hp hx hk
theorem Zkn{kindOf:Str→Option NameKind}: ∀{ps:List Str} {xs:List Value} {m:Str→Option Value} {x:Str} {i:Nat} {y:Value},ps.Nodup→ps[i]?=some x→xs[i]?=some y→kindOf x=some .cell→bindC kindOf (ps.zip xs) m x=some y:=by
 have skip:∀{ps:List Str} {xs:List Value} {m:Str→Option Value} {x:Str},x∉ps→bindC kindOf (ps.zip xs) m x=m x:=by
  intro ps
  induction ps with
  | nil=>intro xs m x _;rfl
  | cons p ps ih=>
   intro xs m x hx
   cases xs with
   | nil=>rfl
   | cons z xs=>
    simp only[List.zip_cons_cons,bindC]
    rw[ih (fun h=>hx (Zz2 _ h))]
    have:x≠p:=fun e=>hx (e▸List.mem_cons_self)
    split <;> simp[this]
 intro ps
 induction ps with
 | nil=>intro xs m x i y _ h;simp at h
 | cons p ps ih=>
  intro xs m x i y nd hp hx hk
  cases xs with
  | nil=>simp at hx
  | cons z xs=>
   obtain⟨n1,n2⟩:=List.nodup_cons.mp nd
   cases i with
   | zero=>
    simp at hp hx
    subst hp hx
    simp only[List.zip_cons_cons,bindC]
    rw[skip n1,if_neg (by rw[hk];simp)]
    simp
   | succ i=>
    simp at hp hx
    simp only[List.zip_cons_cons,bindC]
    exact ih n2 hp hx hk
theorem Zd4{cm:Str→Option Value}: ∀{cs:List (Str×Addr)} {cells:List (Addr×Obj)} {x:Str} {c:Addr},CellsAre cm cs cells→(x,c)∈cs→∃o,(c,o)∈cells∧o.data=.cell (cm x)
 | _,_,_,_,.nil,h=>nomatch h
 | _,_,_,_,.cons hd r,h=>by
  rcases Zz7.mp h with e | h
  ·cases e
   exact⟨_,List.mem_cons_self,hd⟩
  ·obtain⟨o,h1,h2⟩:=Zd4 r h
   exact⟨o,List.mem_cons_of_mem _ h1,h2⟩
theorem ZiA{cm:Str→Option Value}: ∀{cs:List (Str×Addr)} {cells:List (Addr×Obj)} {q:Addr×Obj},CellsAre cm cs cells→q∈cells→∃x,(x,q.1)∈cs
 | _,_,_,.nil,h=>nomatch h
 | _,_,_,.cons hd r,h=>by
  rcases Zz7.mp h with e | h
  ·cases e
   exact⟨_,List.mem_cons_self⟩
  ·obtain⟨x,h1⟩:=ZiA r h
   exact⟨x,List.mem_cons_of_mem _ h1⟩
theorem Zb8{α β:Type}[BEq α][LawfulBEq α]: ∀{l:List (α×β)} {x:α} {y:β},l.lookup x=some y→(x,y)∈l
 | [],_,_,h=>by simp at h
 | (a,b)::r,x,y,h=>by
  rw[List.lookup_cons]at h
  split at h
  ·rename_i e
   cases h
   have:=eq_of_beq e
   subst this
   exact Zz5
  ·exact Zz2 _ (Zb8 h)
end PM
end
section
namespace PM
open PySem PySem.W PySem.Calls PyProof.Rows PyProof PySem.Spec
section
variable {prog:Program} {w:World} {K:Frag} {p:Program} {loose:List Str} {mean:ExcName→Option Value} {mg mb:Str→Option Value}
theorem Def.of{name qual:Str}{params:Arguments}{body:List Stmt}{scope:Scope}{dV kV doc pm cdv ct oc:Value}{an od:Option Addr}{osl:Array (Option Value)}{f:Addr}{names:List Str}{n room:Nat}{g:Sm}
  (ho:K.lookup f=some ⟨oc,od,.func (fnOf name qual params body scope dV kV doc pm an cdv ct),osl⟩) (hcd:codeIn K cdv qual=true) (nd:names.Nodup) (hn:n≤names.length)
  (hbind:∀s xs,xs.length=n→BindsTo s (fnOf name qual params body scope dV kV doc pm an cdv ct) ⟨xs,[]⟩ ((names.take n).zip xs)) (hkinds:∀x∈names.take n,scope.names.lookup x=some .local∨scope.names.lookup x=some .cell) (hone:((cellsFrom 0 scope.names []).map (·.1)).Nodup)
  (hco:scope.isCoroutine=false) (hgen:scope.isGenerator=false) (hk:scope.kind=.function)
  (hbody:∀(dp un:Nat) (gd:Option (List Code)) (L:Addr) (outer:List Env) (h₀:Heap) (hu:un+200<cLine),Clr K p loose mean mg mb (Za9 dp un gd qual scope L f cdv (cellsFrom (L+1) scope.names []) outer h₀ hu names) dp un→dp+room<recursionLimit→un+10*room+300<cLine →
   Ss prog w (Za9 dp un gd qual scope L f cdv (cellsFrom (L+1) scope.names []) outer h₀ hu names) body g):
  Def prog w K p loose mean mg mb f (room+1) (Z5 n g):=by
 intro Γ dp un clr hd hu W ρ H fr s Q E as xs v H' r hx hF post
 obtain⟨gd,cn,cs,a,ccd,cl,outer,A₀,base,eA,B,X,T,hke⟩:=clr
 unfold Z5 at hF
 split at hF
 ·rename_i hlen
  obtain⟨res,e1,e2⟩:=Zz1.mp hF
  obtain⟨o,ρ',K'⟩:=res
  cases e2
  obtain⟨m,c,led,r⟩:=r
  have hxl:xs.length=n:=by rw[hx.length,hlen]
  have inn:∀q∈led,(q.1∈W.pi∨q.1∈W.tups.map (·.1))↔q∈led.filter (fun q=>decide (q.1∈W.pi∨q.1∈W.tups.map (·.1))):=fun q hq=>⟨fun h=>List.mem_filter.mpr ⟨hq,by simpa using h⟩,fun h=>by simpa using (List.mem_filter.mp h).2⟩
  have isub:∀q∈led.filter (fun q=>decide (q.1∈W.pi∨q.1∈W.tups.map (·.1))),q∈led:=fun q hq=>(List.mem_filter.mp hq).1
  generalize hlent:led.filter (fun q=>decide (q.1∈W.pi∨q.1∈W.tups.map (·.1)))=lent at inn isub
  have notin:∀q∈led,q.1∉W.pi→(∀t∈W.tups,q.1≠t.1)→q.1∉lent.map (·.1):=fun q hq h1 h2 h3=>by
   obtain⟨t,ht,e⟩:=Zz11.mp h3
   rcases(inn t (isub t ht)).mpr ht with z | z
   ·exact h1 (e▸z)
   ·obtain⟨u,hu,e'⟩:=Zz11.mp z
    exact h2 u hu (e▸e'.symm)
  rw[eA]
  refine Zl6 (env:=envX cn cs Γ.L a ccd cl) (lent:=lent) B r.F X (fun q hq=>r.N q (isub q hq)) T rfl rfl hke ho hcd (by show dp<recursionLimit;omega) (hbind s xs hxl) ?_ hone ?_ hco hgen hk
  ·refine List.all_eq_true.mpr fun y hy=>?_
   rcases hkinds y.1 (List.of_mem_zip hy).1 with h | h <;> simp[h]
  intro g0 L' h₁ tk cells stay F' N' Y ap ab B' X' T' old szL
  have hu':(un+3)+200<cLine:=by omega
  have clr':Clr K p loose mean mg mb (Za9 (dp+1) (un+3) gd qual scope L' f cdv (cellsFrom (L'+1) scope.names []) (envX cn cs Γ.L a ccd cl::outer) g0 hu' names) (dp+1) (un+3):=
   ⟨gd,qual,scope,f,cdv,cellsFrom (L'+1) scope.names [],envX cn cs Γ.L a ccd cl::outer,_,base,rfl,B',X',T',hk⟩
  have below:∀q∈cells,L'<q.1:=fun q hq=>by
   obtain⟨x,hx⟩:=ZiA Y hq
   exact ab x _ hx
  have piLt:∀b∈W.pi,b<L':=fun b hb=>by
   obtain⟨o,ho⟩:=r.piIn b hb
   exact Nat.lt_of_lt_of_le (Heap.lt_size (r.get ho)) szL
  have tuLt:∀t∈W.tups,t.1<L':=fun t ht=>Nat.lt_of_lt_of_le (Heap.lt_size (r.get (r.R.tups t ht))) szL
  have scN:W.sc.1∉lent.map (·.1):=fun z=>by
   obtain⟨t,ht,e⟩:=Zz11.mp z
   exact r.notSc t (isub t ht) e
  have tkn:∀{i:Nat} {x:Str} {u:V},names[i]?=some x→as[i]?=some u→(names.take n)[i]?=some x∧∃y,xs[i]?=some y∧VR W u y:=fun {i x u} h1 h2=>by
   have hi:i<n:=by rw[←hlen];exact(Zz6.mp h2).1
   exact⟨by rw[List.getElem?_take_of_lt hi];exact h1,hx.at h2⟩
  have ndt:(names.take n).Nodup:=nd.sublist (List.take_sublist _ _)
  have rep:Rep (Za9 (dp+1) (un+3) gd qual scope L' f cdv (cellsFrom (L'+1) scope.names []) (envX cn cs Γ.L a ccd cl::outer) g0 hu' names) W (fun i=>as[i]?) H [] h₁:=by
   refine⟨_,cells,cells++lent,⟨F',N',⟨r.R.len,r.R.nd,fun i vs e ni=>?_,fun q hq=>?_,r.R.kind,fun i vs fs e hi=>?_,r.R.inlt,r.R.iuni⟩,stay _ _ (r.F.keep _ _ r.sc) scN,r.sc0,fun q hq=>(nomatch hq),fun q hq=>(nomatch hq),fun q hq=>List.mem_append_left _ hq,fun q hq z=>?_,fun q _ t ht=>(nomatch ht),fun q hq=>(nomatch hq),fun q hq t ht=>?_,⟨fun i x u hi hk1 hu1=>?_,fun i x u hi hk1 hu1=>?_,fun x c1 hc=>?_,fun x y c1 h1 h2=>?_⟩⟩⟩
   ·obtain⟨l,b,ys,k,h1,h2,h3⟩:=r.R.lists i vs e ni
    exact⟨l,b,ys,k,h1,Zbf h2 fun z=>List.mem_append_right _ ((inn _ z).mp (.inl (List.mem_of_getElem? h1))),h3⟩
   ·exact Zbf (r.R.tups q hq) fun z=>List.mem_append_right _ ((inn _ z).mp (.inr (List.mem_map_of_mem hq)))
   ·obtain⟨l,b,od,ys,h1,h2,h3⟩:=r.R.objs i vs fs e hi
    exact⟨l,b,od,ys,h1,Zbf h2 fun z=>List.mem_append_right _ ((inn _ z).mp (.inl (List.mem_of_getElem? h1))),h3⟩
   ·exact absurd (Nat.lt_trans (piLt _ z) (below q hq)) (Nat.lt_irrefl _)
   ·exact Nat.ne_of_gt (Nat.lt_trans (tuLt t ht) (below q hq))
   ·obtain⟨h1,y,h2,h3⟩:=tkn hi hu1
    exact⟨y,Zkm ndt h1 h2 hk1,h3⟩
   ·obtain⟨h1,y,h2,h3⟩:=tkn hi hu1
    have hs:=cellsFrom_some scope.names (L'+1) [] (.inl hk1)
    obtain⟨c1,hc1⟩:=Option.isSome_iff_exists.mp hs
    obtain⟨o1,ho1,hd1⟩:=Zd4 Y (Zb8 hc1)
    refine⟨c1,o1,y,hc1,ho1,?_,h3⟩
    rw[hd1,Zkn ndt h1 h2 hk1]
   ·obtain⟨o1,ho1,hd1⟩:=Zd4 Y (Zb8 hc)
    exact⟨o1,_,ho1,hd1⟩
   ·exact name_of_addr ap (Zb8 h1) (Zb8 h2)
  have hb:=hbody (dp+1) (un+3) gd L' (envX cn cs Γ.L a ccd cl::outer) g0 hu' clr' (by omega) (by omega)
  have back:∀(W':Wd) (h':Heap) (tk':Nat) (x:Value),W.Le W'→Rep (Za9 (dp+1) (un+3) gd qual scope L' f cdv (cellsFrom (L'+1) scope.names []) (envX cn cs Γ.L a ccd cl::outer) g0 hu' names) W' ρ' K' [] h'→VR W' (o.getD .none) x →
    LeaveK Γ.h₀ Γ.L m g0 (fun r s'=>match r with | .ok (.ret v)=>Q v s' | .ok _=>False | .error e=>E e s') x { s with heap:=h',toks:=tk' }:=by
   intro W' h' tk' x l' r' x'
   obtain⟨m',c',led',r'⟩:=r'
   refine⟨L',m',led',r'.F,r'.N,fun FG NG=>post W' h' tk' x l' ?_ x'⟩
   have g0at:∀q∈led,q.1∉lent.map (·.1)→g0.get? q.1=some q.2:=fun q hq hn=>stay _ _ (r.N q hq).1 hn
   have frN:∀q∈fr,q.1∉lent.map (·.1):=fun q hq=>notin q (r.frIn q hq) (r.frOff q hq) (r.frTup q hq)
   have clN:∀q∈c,q.1∉lent.map (·.1):=fun q hq=>notin q (r.clIn q hq) (r.clOff q hq) (r.clTup q hq)
   have newN:∀t∈led',g0.get? t.1=none:=fun t ht=>(r'.N t ht).2.2
   have far:∀q∈led,q.1∉lent.map (·.1)→∀t∈W'.sc::led',q.1≠t.1:=fun q hq hn t ht e=>by
    rcases Zz7.mp ht with e2 | ht
    ·rw[e2,l'.sc]at e
     exact r.notSc q hq e
    ·have:=g0at q hq hn
     rw[e,newN t ht]at this
     cases this
   have farPi:∀q∈led,q.1∉lent.map (·.1)→q.1∉W'.pi:=fun q hq hn z=>by
    obtain⟨o2,h2⟩:=r'.piIn _ z
    exact far q hq hn _ h2 rfl
   have keep:∀q∈led,q.1∉lent.map (·.1)→q∈led'++led.filter (fun q=>decide (q.1∉lent.map (·.1))):=fun q hq hn=>List.mem_append_right _ (List.mem_filter.mpr ⟨hq,by simpa using hn⟩)
   refine⟨m,c,led'++led.filter (fun q=>decide (q.1∉lent.map (·.1))),⟨FG,fun q hq=>?_,r'.R.mono fun q hq=>Zch hq fun x hx=>List.mem_append_left _ hx,l'.sc▸r.sc,r'.sc0,fun q hq=>keep q (r.frIn q hq) (frN q hq),fun q hq=>farPi q (r.frIn q hq) (frN q hq),fun q hq=>keep q (r.clIn q hq) (clN q hq),fun q hq=>farPi q (r.clIn q hq) (clN q hq),r.apart,fun q hq t ht=>far q (r.frIn q hq) (frN q hq) t (r'.R.tups t ht),fun q hq t ht=>far q (r.clIn q hq) (clN q hq) t (r'.R.tups t ht),Γ.mono l' r.own⟩⟩
   rcases Zz8.mp hq with hq | hq
   ·exact NG q hq
   ·obtain⟨h1,h2⟩:=List.mem_filter.mp hq
    exact⟨r'.F.keep _ _ (g0at q h1 (by simpa using h2)),(r.N q h1).2⟩
  refine hb W _ H [] _ _ _ (o,ρ',K') rep e1 ?_
  cases o with
  | none=>exact fun W' h' tk' l' r'=>back W' h' tk' .none l' r' .none
  | some v0=>exact fun W' h' tk' x l' r' x'=>back W' h' tk' x l' r' x'
 ·cases hF
theorem ZG{Γ:Cx}{dp un:Nat}{x:Str}{np pos:Pos}{f:Addr}{room:Nat}{e:Expr}{es:List Expr}{g:ZT}{o:List V→Hp→Option (V×Hp)}(clr:Clr K p loose mean mg mb Γ dp un)(hn:Nm prog w Γ x (.ref f))(hkeep:keepIn K (.ref f)=true)(D:Def prog w K p loose mean mg mb f room o)(hd:dp+room<recursionLimit)(hu:un+10*room+300<cLine)
  (h:Js prog w Γ (e::es) g) (he:starEach (e::es) Γ.env=(false,eval e Γ.env)::starEach es Γ.env:=by rfl) (hp:∀pos,(backTo pos (starEach es Γ.env)).any (·.1)=false:=by intro _;rfl):J prog w Γ (.Call (.Name x np) (e::es) [] pos) (Zr o g):=by
 intro W ρ H fr s Q E v H' r hf post
 obtain⟨q,e1,hf⟩:=Zz0.mp hf
 have X:K.In Γ.h₀:=by
  obtain⟨_,_,_,_,_,_,_,_,_,_,_,X,_⟩:=clr
  exact X
 refine wpAny_Call_ofName (hn.use r ?_)
 refine callWith_K (first:=[]) X hkeep (h pos W ρ H fr s _ E _ _ r e1 fun W1 k1 t1 xs l1 r1 x1=>⟨?_,?_⟩) he (hp pos)
 ·obtain⟨m,c,led,r1⟩:=r1
  exact X.keeps r1.F.keep
 ·exact wpAny_call (D Γ dp un clr hd hu W1 ρ _ fr _ Q E _ xs v H' r1 x1 hf fun W2 k2 t2 y l2 r2 y2=>post W2 k2 t2 y (l1.trans l2) r2 y2)
theorem Clr.comp{Γ:Cx}{dp un:Nat}{scope:Scope}{cl:List (Str×Addr)}{C:Addr}{ts:List (Str×Nat)}{ρ0:Lc}(h:Clr K p loose mean mg mb Γ dp un): Clr K p loose mean mg mb (ZaS Γ scope cl C ts ρ0) dp un:=h
end
end PM
end
section
namespace PM
open PySem PySem.W PySem.Calls PyProof.Rows PyProof PySem.Spec
theorem Zgr{lo:Nat}: ∀(names:List (Str×NameKind)) (n:Nat) (acc:List (Str×Addr)),acc.Pairwise (fun x y=>x.2≠y.2)→(∀q∈acc,lo<q.2∧q.2<n)→lo<n→(cellsFrom n names acc).Pairwise (fun x y=>x.2≠y.2)∧∀q∈cellsFrom n names acc,lo<q.2
 | [],n,acc,h1,h2,_=>⟨h1,fun q hq=>(h2 q hq).1⟩
 | (y,k)::r,n,acc,h1,h2,h3=>by
  unfold cellsFrom
  by_cases hk:(k == .cell)=true
  ·rw[if_pos hk]
   refine Zgr r (n+1) ((y,n)::acc) (List.pairwise_cons.mpr ⟨fun q hq=>Nat.ne_of_gt (h2 q hq).2,h1⟩) (fun q hq=>?_) (Nat.lt_succ_of_lt h3)
   rcases Zz7.mp hq with e | hq
   ·rw[e]
    exact⟨h3,Nat.lt_succ_self n⟩
   ·exact⟨(h2 q hq).1,Nat.lt_succ_of_lt (h2 q hq).2⟩
  ·rw[if_neg hk]
   exact Zgr r n acc h1 h2 h3
theorem Zko{P:Params}{h:Heap}{a:Addr}{ns:List Int}(w1:Well P h (.ref a) (ofPy (.list (ns.map PyData.int))))(W:Wd): ∃vs,h.get? a=some (ZaO vs 0)∧VRs W (ns.map V.int) vs:=by
 have key:∀{ns:List Int} {vs:List Value} {xs:List WData},xs=(ns.map PyData.int).map ofPy→WellAll P h vs xs→VRs W (ns.map V.int) vs:=by
  intro ns
  induction ns with
  | nil=>intro vs xs e h;subst e;cases h;exact .nil
  | cons n ns ih=>
   intro vs xs e h
   subst e
   cases h with
   | cons h1 h2=>
    cases h1 with
    | int i t=>exact .cons (.int _ _) (ih rfl h2)
 have e:ofPy (.list (ns.map PyData.int))=.list ((ns.map PyData.int).map ofPy):=by rw[ofPy,ofPys_eq]
 rw[e]at w1
 cases w1 with
 | list hg ha=>exact⟨_,hg,key rfl ha⟩
section
variable {prog:Program} {w:World} {K:Frag} {p:Program} {loose:List Str} {mean:ExcName→Option Value} {mg mb:Str→Option Value}
theorem Zlh{P:Params}{h₀:Heap}{s:Shared}{sa fa:Addr}{cd:Value}{ns:List Int}{qual pname:Str}{scope:Scope}{body:List Stmt}{names:List Str}{g:Sm}{cells:List (Addr×Obj)}{Q:Flow→Shared→Prop}{E:Value→Shared→Prop}{room:Nat}{H':Hp}
  (hbody:∀(dp un:Nat) (gd:Option (List Code)) (L a:Addr) (ccd:Value) (outer:List Env) (h₀:Heap) (hu:un+200<cLine),Clr K p loose mean mg mb (Za9 dp un gd qual scope L a ccd (cellsFrom (L+1) scope.names []) outer h₀ hu names) dp un→dp+room<recursionLimit→un+10*room+300<cLine →
   Ss prog w (Za9 dp un gd qual scope L a ccd (cellsFrom (L+1) scope.names []) outer h₀ hu names) body g)
  (hd:callerA.depth+1+room<recursionLimit) (hun:callerA.units+3+10*room+300<cLine) (hk:scope.kind=.function) (h0:names[0]?=some pname)
  (KX:K.In h₀) (T:Top p loose mean mg mb h₀) (w1:Well P h₀ (.ref sa) (ofPy (.list (ns.map PyData.int)))) (hlen:ns.length≤ZN)
  (F:Fr h₀ h₀.objs.size s.heap (bindL (envOfC qual scope h₀.objs.size fa cd).kindOf [(pname,.ref sa)] fun _=>none)) (N:News h₀ h₀.objs.size s.heap cells) (X0:CellsAre (bindC (envOfC qual scope h₀.objs.size fa cd).kindOf [(pname,.ref sa)] fun _=>none) (cellsFrom (h₀.objs.size+1) scope.names []) cells)
  (hg:Z5 1 g [.ref 0] [ns.map V.int]=some (.bool true,H')) (post:∀h' tk' m',Fr h₀ h₀.objs.size h' m'→Q (.ret (.bool true)) { s with heap:=h',toks:=tk' }):
  wpAny (model prog w) (callerA.deeper (envOfC qual scope h₀.objs.size fa cd)) (execs body (envOfC qual scope h₀.objs.size fa cd)) Q E s:=by
 have hu':(callerA.units+3)+200<cLine:=by omega
 have clr:Clr K p loose mean mg mb (Za9 (callerA.depth+1) (callerA.units+3) callerA.guards qual scope h₀.objs.size fa cd (cellsFrom (h₀.objs.size+1) scope.names []) [] h₀ hu' names) (callerA.depth+1) (callerA.units+3):=
  ⟨callerA.guards,qual,scope,fa,cd,cellsFrom (h₀.objs.size+1) scope.names [],[],_,_,rfl,below_caller h₀,KX,T,hk⟩
 have hb:=hbody (callerA.depth+1) (callerA.units+3) callerA.guards h₀.objs.size fa cd [] h₀ hu' clr hd hun
 obtain⟨vs,hsc,hv⟩:=Zko w1 ⟨[sa],[],(sa,ZaO [] 0),[]⟩
 have hv':VRs ⟨[sa],[],(sa,ZaO vs 0),[]⟩ (ns.map V.int) vs:=by
  clear hg post w1 hlen hsc
  generalize ns.map V.int=us at hv
  have key:∀{us:List V} {xs:List Value},VRs ⟨[sa],[],(sa,ZaO [] 0),[]⟩ us xs→VRs ⟨[sa],[],(sa,ZaO vs 0),[]⟩ us xs:=by
   intro us
   induction us with
   | nil=>intro xs h;cases h;exact .nil
   | cons u us ih=>
    intro xs h
    cases h with
    | cons a b=>
     refine .cons ?_ (ih b)
     cases a with
     | none=>exact .none
     | bool b=>exact .bool b
     | int i t=>exact .int i t
     | str s t=>exact .str s t
     | tup hm _ _=>exact nomatch hm
     | ref e=>exact .ref e
     | obj _ h2 _ _=>exact nomatch h2
  exact key hv
 have far:=Zgr (lo:=h₀.objs.size) scope.names (h₀.objs.size+1) [] .nil (fun q hq=>nomatch hq) (Nat.lt_succ_self _)
 unfold Z5 at hg
 rw[if_pos (show([V.ref 0]:List V).length=1 from rfl)]at hg
 obtain⟨res,e1,e2⟩:=Zz1.mp hg
 obtain⟨o,ρ',K'⟩:=res
 have eo:o=some (.bool true):=by
  cases o with
  | none=>simp at e2
  | some v=>simp at e2;rw[e2.1]
 subst eo
 have pick:∀{i:Nat} {x:Str} {u:V},names[i]?=some x→([V.ref 0]:List V)[i]?=some u→x=pname∧u=.ref 0:=fun {i x u} h1 h2=>by
  have hi:i<1:=(Zz6.mp h2).1
  have:i=0:=by omega
  subst this
  rw[h0]at h1
  simp at h1 h2
  exact⟨h1.symm,h2.symm⟩
 have rep:Rep (Za9 (callerA.depth+1) (callerA.units+3) callerA.guards qual scope h₀.objs.size fa cd (cellsFrom (h₀.objs.size+1) scope.names []) [] h₀ hu' names) ⟨[sa],[],(sa,ZaO vs 0),[]⟩ (fun i=>[V.ref 0][i]?) [ns.map V.int] [] s.heap:=by
  refine⟨_,cells,cells,⟨F,N,⟨rfl,by simp,fun i us e _=>?_,fun q hq=>(nomatch hq),fun q hq=>(nomatch hq),fun i us fs e hi=>(nomatch hi),fun q hq=>(nomatch hq),fun q hq=>(nomatch hq)⟩,hsc,rfl,fun q hq=>(nomatch hq),fun q hq=>(nomatch hq),fun q hq=>hq,fun q hq z=>?_,fun q _ t ht=>(nomatch ht),fun q hq=>(nomatch hq),fun q hq t ht=>(nomatch ht),⟨fun i x u hi hk1 hu1=>?_,fun i x u hi hk1 hu1=>?_,fun x c1 hc=>?_,fun x y c1 h1 h2=>?_⟩⟩⟩
  ·have hi:i<1:=(Zz6.mp e).1
   have:i=0:=by omega
   subst this
   simp at e
   subst e
   exact⟨by simpa using hlen,sa,vs,0,rfl,List.mem_cons_self,hv'⟩
  ·have:=(N q hq).2.2
   rw[List.mem_singleton.mp z,hsc]at this
   cases this
  ·obtain⟨e3,e4⟩:=pick hi hu1
   subst e3 e4
   refine⟨.ref sa,?_,.ref ⟨rfl,fun q hq=>nomatch hq⟩⟩
   show bindL _ _ _ _=_
   unfold bindL bindL
   rw[if_pos (show(envOfC qual scope h₀.objs.size fa cd).kindOf x=some .local from hk1)]
   simp
  ·obtain⟨e3,e4⟩:=pick hi hu1
   subst e3 e4
   have hs:=cellsFrom_some scope.names (h₀.objs.size+1) [] (.inl hk1)
   obtain⟨c1,hc1⟩:=Option.isSome_iff_exists.mp hs
   obtain⟨o1,ho1,hd1⟩:=Zd4 X0 (Zb8 hc1)
   refine⟨c1,o1,.ref sa,hc1,ho1,?_,.ref ⟨rfl,fun q hq=>nomatch hq⟩⟩
   rw[hd1]
   unfold bindC bindC
   rw[if_neg (show ¬(envOfC qual scope h₀.objs.size fa cd).kindOf x=some .local by show ¬scope.names.lookup x=some .local;rw[hk1];simp)]
   simp
  ·obtain⟨o1,ho1,hd1⟩:=Zd4 X0 (Zb8 hc)
   exact⟨o1,_,ho1,hd1⟩
  ·exact name_of_addr far.1 (Zb8 h1) (Zb8 h2)
 refine hb _ _ _ [] s Q E _ rep e1 ?_
 intro W' h' tk' x l' r' x'
 cases x' with
 | bool _=>
  obtain⟨m',c',led',r'⟩:=r'
  exact post h' tk' m' r'.F
end
end PM
end
section
namespace PM
open PySem PySem.W PySem.Calls PyProof.Rows PyProof PyProof.Rows.LCg PyProof.Rows.LSm
theorem Rep.listAt{Γ:Cx}{W:Wd}{ρ:Lc}{H:Hp}{fr:List (Addr×Obj)}{h h':Heap}{vs:List V}{xs:List Value}{k:Nat}(r:Rep Γ W ρ H fr h)(up:∀b o,h.get? b=some o→h'.get? b=some o)(hg:h'.get? h.objs.size=some (ZaO xs k))(hv:VRs W vs xs)(hl:vs.length≤ZN):
  ∃W',W.Le W'∧Rep Γ W' ρ (H++[vs]) fr h'∧VR W' (.ref H.length) (.ref h.objs.size):=by
 obtain⟨r2,ap⟩:=r.more (fs:=[(h.objs.size,ZaO xs k)]) up (fun q hq=>by rw[List.mem_singleton.mp hq];exact⟨hg,Nat.le_refl _⟩)
 exact Zh3 r2 (fun t ht=>ap _ Zz5 t ht) hv hl
noncomputable def Zdn: List V→Hp→Option (V×Hp)
 | [.ref a],H=>H[a]?.map fun vs=>(.ref H.length,H++[vs])
 | [.tup vs],H=>some (.ref H.length,H++[vs])
 | _,_=>none
noncomputable def ZbP: List V→Hp→Option (V×Hp)
 | [.ref a],H=>H[a]?.map fun vs=>(.tup vs,H)
 | [.tup vs],H=>some (.tup vs,H)
 | _,_=>none
section
variable {prog:Program} {w:World}
theorem ZkF: OpN prog w (fun xs=>call (.type "list") xs) Zdn:=by
 intro Γ W ρ H fr s Q E as xs v H' r hx ho post
 unfold Zdn at ho
 split at ho
 ·obtain⟨vs,e1,e2⟩:=Zz1.mp ho
  cases e2
  obtain⟨x,ex,rx⟩:=hx.one
  subst ex
  cases rx with
  | @ref _ a ea=>
   obtain⟨hl,ys,k,hg,hv⟩:=r.at e1 ea
   refine call_list_seq (hsz:=Zbt (by rw[List.size_toArray,hv.length];exact hl)) a (.inl rfl) hg rfl rfl fun h' c' up hg'=>?_
   obtain⟨W2,l2,r2,v2⟩:=r.listAt up hg' hv hl
   exact post W2 h' s.toks _ l2 r2 v2
 ·cases ho
  obtain⟨x,ex,rx⟩:=hx.one
  subst ex
  cases rx with
  | @tup _ a ys k hm hl hv=>
   refine call_list_seq (hsz:=Zbt (by rw[List.size_toArray,hv.length];exact hl)) a (.inr rfl) (r.tupAt hm) rfl rfl fun h' c' up hg'=>?_
   obtain⟨W2,l2,r2,v2⟩:=r.listAt up hg' hv hl
   exact post W2 h' s.toks _ l2 r2 v2
 ·cases ho
theorem ok_tuple1: OpN prog w (fun xs=>call (.type "tuple") xs) ZbP:=by
 intro Γ W ρ H fr s Q E as xs v H' r hx ho post
 unfold ZbP at ho
 split at ho
 ·obtain⟨vs,e1,e2⟩:=Zz1.mp ho
  cases e2
  obtain⟨x,ex,rx⟩:=hx.one
  subst ex
  cases rx with
  | @ref _ a ea=>
   obtain⟨hl,ys,k,hg,hv⟩:=r.at e1 ea
   have isl:s.heap.IsList a ys.toArray:=⟨_,hg,rfl,k,rfl⟩
   refine call_tuple_list isl (fun h' up=>?_) (Zbt (by rw[List.size_toArray,hv.length];exact hl))
   obtain⟨W2,l2,r2,v2⟩:=(r.grown up).tuple (k:=0) hv hl
   exact post W2 _ s.toks _ l2 r2 v2
 ·cases ho
  obtain⟨x,ex,rx⟩:=hx.one
  subst ex
  cases rx with
  | @tup _ a ys k hm hl hv=>
   have it:IsTup s.heap a ys.toArray:=⟨_,r.tupAt hm,rfl,k,rfl⟩
   exact call_tuple_tup it (post W s.heap s.toks _ (.refl W) r (.tup hm hl hv))
 ·cases ho
end
section
variable {prog:Program} {w:World} {K:Frag} {p:Program} {loose:List Str} {mean:ExcName→Option Value} {mg mb:Str→Option Value} {Γ:Cx} {dp un:Nat}
theorem nm_def{x:Str}{v:Value}(clr:Clr K p loose mean mg mb Γ dp un)(e:nsIn K mainGlobals x=some (some v))(hg:Γ.env.globals=mainGlobals)(hk:Γ.env.scope.kind=.function)(hx:Γ.env.kindOf x=some .globalImplicit)(hd:(x == ("__debug__":Str))=false): Nm prog w Γ x v:=by
 obtain⟨_,_,_,_,_,_,_,_,_,_,_,X,T,_⟩:=clr
 intro pos m s Q E F q
 exact Name_function_global hk hx (loadGlobal_global (env:=Γ.env) (by rw[hg];exact T.g.keeps F.keep) (mg_of X T.g e) q) hd
theorem nm_built{x:Str}{v:Value}(clr:Clr K p loose mean mg mb Γ dp un)(e:nsIn K mainGlobals x=some none)(hv:bootBuiltins x=some v)(hn:x≠"__name__")(hg:Γ.env.globals=mainGlobals)(hb:Γ.env.builtins=builtinsNs)(hk:Γ.env.scope.kind=.function)(hx:Γ.env.kindOf x=some .globalImplicit)(hd:(x == ("__debug__":Str))=false): Nm prog w Γ x v:=by
 obtain⟨_,_,_,_,_,_,_,_,_,_,_,X,T,_⟩:=clr
 intro pos m s Q E F q
 exact Name_function_global hk hx (loadGlobal_builtin (env:=Γ.env) (by rw[hg];exact T.g.keeps F.keep) (mg_none_of X T.g e) (by rw[hb];exact T.b.keeps F.keep) ((T.builtins x hn).trans hv) q) hd
end
section
variable {prog:Program} {w:World} {Γ:Cx} {scope:Scope} {cl:List (Str×Addr)} {C:Addr} {ts:List (Str×Nat)} {ρ0:Lc}
theorem rdc_own{x:Str}{t:Nat}(hm:(x,t)∈ts)(hk:scope.kind=.function)(hl:(compEnvC scope cl C Γ.env).kindOf x=some .local)(hd:(x == ("__debug__":Str))=false): Rd prog w (ZaS Γ scope cl C ts ρ0) x t:=by
 intro W ρ H fr s Q E v pos r e q
 obtain⟨m,c,led,r⟩:=r
 obtain⟨oC,m₂,cs,ec,h0,h1,h2,h3,h4⟩:=r.own
 obtain⟨v',y,e1,e2,e3⟩:=h2 _ hm
 rw[e]at e1
 cases e1
 exact LCgL.ld_own r.N (r.clIn _ (by rw[ec];exact Zz5)) h1 e2 (q y e3) hk hl hd
end
section
variable {prog:Program} {w:World} {dp un:Nat} {gd:Option (List Code)} {cn:Str} {cs:Scope} {L a:Addr} {ccd:Value} {clf:List (Str×Addr)} {outer:List Env} {h₀:Heap} {hu:un+200<cLine} {names:List Str} {scope:Scope} {cl:List (Str×Addr)} {C:Addr} {ts:List (Str×Nat)} {ρ0:Lc}
theorem rdc_cel{x:Str}{i:Nat}(hi:names[i]?=some x)(hx:cs.names.lookup x=some .cell)(hne:∀p∈ts,p.2≠i)(hcl:cl.lookup x=clf.lookup x)(hk:scope.kind=.function)(hl:(compEnvC scope cl C (envX cn cs L a ccd clf)).kindOf x=some .cell)(hd:(x == ("__debug__":Str))=false):
  Rd prog w (ZaS (Za9 dp un gd cn cs L a ccd clf outer h₀ hu names) scope cl C ts ρ0) x i:=by
 intro W ρ H fr s Q E v pos r e q
 obtain⟨m,c,led,r⟩:=r
 obtain⟨oC,m₂,cs',ec,h0,h1,h2,h3,h4⟩:=r.own
 rw[h3 i hne]at e
 obtain⟨d,o,y,g1,g2,g3,g4⟩:=h4.cel i x v hi hx e
 exact kcf_cell r.N (hcl.trans g1) (r.clIn _ (by rw[ec];exact Zz2 _ g2)) g3 (q y g4) hk hl hd
end
end PM
end
section
namespace My
open PySem PySem.W PySem.Calls PyProof.Rows PySem.Spec
section
variable {prog:Program} {w:World} {A:Around} {E:Value→Shared→Prop} {s:Shared} {x y:Int} {t u:Tok} {Q:Value→Shared→Prop}
@[irreducible] noncomputable def T60: Int:=10 ^ 60
theorem T60_eq: T60=1000000000000000000000000000000000000000000000000000000000000:=by unfold T60;decide +kernel
end
end My
end
section
/-! Reckoning with the plain machine. -/
namespace PM
open PySem PySem.W PyProof.Rows
section
variable (ρ:Lc) (H:Hp)
@[simp] theorem ZkG: Zc1 ρ H=some (none,H):=rfl
@[simp] theorem ZkH(f:Ex): Zc2 f ρ H=(f ρ H).map fun p=>(some p.1,p.2):=rfl
end
section
variable (a b:Int) (H:Hp)
end
def Ext(H H':Hp): Prop:=∃X,H'=H++X
theorem Ext.refl(H:Hp): Ext H H:=⟨[],by simp⟩
theorem Ext.trans{H H' H'':Hp}(a:Ext H H')(b:Ext H' H''): Ext H H'':=by
 obtain⟨X,rfl⟩:=a
 obtain⟨Y,rfl⟩:=b
 exact⟨X++Y,by simp⟩
theorem Ext.at{H H':Hp}(h:Ext H H'){i:Nat}{vs:List V}(e:H[i]?=some vs): H'[i]?=some vs:=by
 obtain⟨X,rfl⟩:=h
 rw[List.getElem?_append_left (Zz6.mp e).1]
 exact e
theorem Zjk{b:Int}(hb:0≤b): Builtin.Range.rangeSize 0 b 1=b:=by
 unfold Builtin.Range.rangeSize
 rw[if_pos (by decide)]
 by_cases h:(0:Int)<b
 ·rw[if_pos h]
  omega
 ·rw[if_neg h]
  omega
theorem Zl7{b:Int}{H:Hp}(hb:0≤b)(hb9:b≤1000): Zbc 0 b 1 H=some (Zdj 0 1 b.toNat,b.toNat+1,H):=by
 unfold Zbc rngN
 rw[Zjk hb,if_pos]
 refine⟨by decide,?_,hb,by rw[Zas];omega,?_⟩
 ·unfold Builtin.Range.small
  rw[Zjk hb]
  simp only[Builtin.Range.rangeFitsLong,Bool.and_eq_true,Bool.or_eq_true,decide_eq_true_eq,beq_iff_eq]
  rw[if_pos (by decide)]
  simp only[Bool.and_eq_true,decide_eq_true_eq]
  by_cases h:(0:Int)<b
  ·refine⟨⟨⟨⟨?_,?_⟩,?_⟩,?_⟩,Or.inr ?_⟩ <;> omega
  ·refine⟨⟨⟨⟨?_,?_⟩,?_⟩,?_⟩,?_⟩ <;> first | omega | (left;omega)
 ·exact PyProof.noPylong_small (by omega)
end PM
end
section
namespace PM
open PySem PySem.W PyProof.Rows My
theorem ZkI{a b:Int}(h:IntMulOk a b): Zci a b=true:=by
 unfold IntMulOk at h
 unfold Zci
 cases e:(decide (Builtin.Int.intBits a>shortFactorBits) && decide (Builtin.Int.intBits b>shortFactorBits) && Builtin.Int.intTooBig (Builtin.Int.intBits a+Builtin.Int.intBits b))with
 | true=>exact absurd e h
 | false=>rfl
theorem ZmZ{a b:Int}{H:Hp}(h:0≤b∧(Builtin.Int.intBits a:Int)*b≤2 ^ 27): oPow (.int a) (.int b) H=some (.int (a ^ b.toNat),H):=by simp only[oPow];rw[if_pos h]
theorem Zl8(H:Hp): oPow (.int 10) (.int 60) H=some (.int T60,H):=by rw[ZmZ (by decide +kernel)];unfold T60;rfl
end PM
end
section
namespace PM
open PySem PySem.W PyProof.Rows My
section
variable {ρ ρ1 ρ2:Lc} {H H1 H2 H3:Hp}
theorem Zl9{k:Int}: Zg k ρ H=some (.int k,H):=rfl
theorem Zli{f g:Ex}{a:Nat}{k:Int}{n:Nat}{vs:List V}(h1:f ρ H=some (.ref a,H1))(h2:g ρ H1=some (.int k,H2))(e:H2[a]?=some vs)(hk:k=(n:Int)): Zcf f (Zc2 g) Zc1 ρ H=some (.ref H2.length,H2++[vs.drop n]):=by
 simp only[Zcf,h1,Option.bind_some,ZkH,h2,Option.map_some,ZkG,Zel,e]
 rw[Zki vs hk]
end
end PM
end
section
namespace PM
open PySem PySem.W PyProof.Rows PyProof
noncomputable def Zdr(f:Ex)(k:Nat): Ex:=fun ρ H=>(f ρ H).bind fun p=>match p.1 with
 | .ref i=>p.2[i]?.bind fun vs=>some (.ref p.2.length,p.2++[vs.drop k])
 | .tup vs=>if 1≤k∧k≤vs.length then some (.tup (vs.drop k),p.2)else none
 | _=>none
section
variable {prog:Program} {w:World} {Γ:Cx}
end
section
variable {ρ:Lc} {H:Hp} {Q:V→Hp→Prop}
theorem Zjl{a b c:Int}(hc:0<c)(hb:a<b): Builtin.Range.rangeSize a b c=(b-a-1) / c+1:=by
 unfold Builtin.Range.rangeSize
 rw[if_pos hc,if_pos hb]
theorem Zma{a b c:Int}{H:Hp}(ha:0≤a)(hb:a<b)(hb9:b≤1000)(hc:0<c)(hc9:c≤1000): Zbc a b c H=some (Zdj a c (rngN a b c),rngN a b c+1,H):=by
 have e:=Zjl hc hb
 have h0:0≤(b-a-1) / c:=Int.ediv_nonneg (by omega) (by omega)
 have h2:(b-a-1) / c≤b-a-1:=Int.ediv_le_self _ (by omega)
 unfold Zbc
 rw[if_pos]
 refine⟨by omega,?_,by omega,by unfold rngN;rw[Zas];omega,PyProof.noPylong_small (by omega)⟩
 unfold Builtin.Range.small
 rw[e]
 simp only[Builtin.Range.rangeFitsLong,Bool.and_eq_true,Bool.or_eq_true,decide_eq_true_eq,beq_iff_eq]
 rw[if_pos hc]
 simp only[Bool.and_eq_true,decide_eq_true_eq]
 refine⟨⟨⟨⟨?_,?_⟩,?_⟩,?_⟩,?_⟩ <;> first | omega | (left;omega) | (right;omega)
end
end PM
end
section
namespace PM
open PySem PySem.W PyProof.Rows PyProof My
section
variable {ρ:Lc} {H:Hp} {Q:V→Hp→Prop} {L:List V→Hp→Prop}
end
noncomputable def oi: Option Int→V
 | none=>.none
 | some k=>.int k
def Grid(H:Hp)(p:Nat)(as:List Nat)(B:List (List (Option Int))): Prop:=H[p]?=some (as.map V.ref)∧as.length=B.length∧∀(i a:Nat) (row:List (Option Int)),as[i]?=some a→B[i]?=some row→H[a]?=some (row.map oi)
theorem Grid.item{H:Hp}{p:Nat}{as:List Nat}{B:List (List (Option Int))}(g:Grid H p as B){i:Nat}(h:i<B.length): ∃a,as[i]?=some a∧H[a]?=some ((B.getD i []).map oi):=by
 have hi:i<as.length:=by rw[g.2.1];exact h
 refine⟨as[i],List.getElem?_eq_getElem hi,g.2.2 i _ _ (List.getElem?_eq_getElem hi) ?_⟩
 rw[List.getD_eq_getElem?_getD,List.getElem?_eq_getElem h]
 rfl
noncomputable def od: Option Int→PyData
 | none=>.none
 | some k=>.int k
theorem Zj1{a b:Int}(h1:-(2 ^ 64)<a)(h2:a<2 ^ 64): Zci a b=true:=ZkI (IntMulOk.of_left (intBits_le_64 h1 h2))
section
variable {H:Hp} {Q:V→Hp→Prop} {a b:Int}
end
end PM
end
section
/-! The tree machine: values without places; lists that nobody else holds may be changed. -/
namespace TM
open PySem PM
inductive T where
 | none
 | bool (b:Bool)
 | int (i:Int)
 | str (s:Str)
 | tup (ts:List T)
 | lst (ts:List T)
 | ob (c:Nat×List Str) (ts:List T)
mutual
inductive RF(H:Hp): V→T→List Nat→Prop where
 | none:RF H .none .none []
 | bool (b:Bool):RF H (.bool b) (.bool b) []
 | int (i:Int):RF H (.int i) (.int i) []
 | str (s:Str):RF H (.str s) (.str s) []
 | tup {vs:List V} {ts:List T} {F:List Nat}:RFs H vs ts F→RF H (.tup vs) (.tup ts) F
 | ref {a:Nat} {vs:List V} {ts:List T} {F:List Nat}:H[a]?=some vs→RFs H vs ts F→RF H (.ref a) (.lst ts) (a::F)
 | obj {c:Nat×List Str} {a:Nat} {vs:List V} {ts:List T} {F:List Nat}:H[a]?=some vs→RFs H vs ts F→RF H (.obj c a) (.ob c ts) (a::F)
inductive RFs(H:Hp): List V→List T→List Nat→Prop where
 | nil:RFs H [] [] []
 | cons {v:V} {t:T} {F:List Nat} {vs:List V} {ts:List T} {G:List Nat}:RF H v t F→RFs H vs ts G→RFs H (v::vs) (t::ts) (F++G)
end
mutual
theorem RF.frame{H H':Hp}{v:V}{t:T}{F:List Nat}(r:RF H v t F)(h:∀a∈F,H'[a]?=H[a]?): RF H' v t F:=by
 cases r with
 | none=>exact .none
 | bool b=>exact .bool b
 | int i=>exact .int i
 | str s=>exact .str s
 | tup hs=>exact .tup (RFs.frame hs h)
 | ref e hs=>exact .ref ((h _ Zz5).trans e) (RFs.frame hs fun a m=>h a (Zz2 _ m))
 | obj e hs=>exact .obj ((h _ Zz5).trans e) (RFs.frame hs fun a m=>h a (Zz2 _ m))
theorem RFs.frame{H H':Hp}{vs:List V}{ts:List T}{F:List Nat}(r:RFs H vs ts F)(h:∀a∈F,H'[a]?=H[a]?): RFs H' vs ts F:=by
 cases r with
 | nil=>exact .nil
 | cons a b=>exact .cons (RF.frame a fun x m=>h x (Zz4 _ m)) (RFs.frame b fun x m=>h x (Zz3 _ m))
end
mutual
theorem RF.lt{H:Hp}{v:V}{t:T}{F:List Nat}(r:RF H v t F): ∀a∈F,a<H.length:=by
 cases r with
 | none=>intro a m;cases m
 | bool b=>intro a m;cases m
 | int i=>intro a m;cases m
 | str s=>intro a m;cases m
 | tup hs=>exact RFs.lt hs
 | ref e hs=>
  intro x m
  rcases Zz7.mp m with rfl | m
  ·exact(Zz6.mp e).1
  ·exact RFs.lt hs x m
 | obj e hs=>
  intro x m
  rcases Zz7.mp m with rfl | m
  ·exact(Zz6.mp e).1
  ·exact RFs.lt hs x m
theorem RFs.lt{H:Hp}{vs:List V}{ts:List T}{F:List Nat}(r:RFs H vs ts F): ∀a∈F,a<H.length:=by
 cases r with
 | nil=>intro a m;cases m
 | cons a b=>
  intro x m
  rcases Zz8.mp m with m | m
  ·exact RF.lt a x m
  ·exact RFs.lt b x m
end
theorem RF.ext{H:Hp}{v:V}{t:T}{F:List Nat}(r:RF H v t F)(X:Hp): RF (H++X) v t F:=r.frame fun a m=>List.getElem?_append_left (r.lt a m)
theorem RFs.ext{H:Hp}{vs:List V}{ts:List T}{F:List Nat}(r:RFs H vs ts F)(X:Hp): RFs (H++X) vs ts F:=r.frame fun a m=>List.getElem?_append_left (r.lt a m)
theorem RFs.length{H:Hp}: ∀{vs:List V} {ts:List T} {F:List Nat},RFs H vs ts F→vs.length=ts.length
 | _,_,_,.nil=>rfl
 | _,_,_,.cons _ r=>by rw[List.length_cons,List.length_cons,r.length]
theorem RFs.append{H:Hp}: ∀{vs us:List V} {ts ss:List T} {F G:List Nat},RFs H vs ts F→RFs H us ss G→RFs H (vs++us) (ts++ss) (F++G)
 | _,_,_,_,_,_,.nil,h=>h
 | _,_,_,_,_,_,.cons a r,h=>by rw[List.append_assoc];exact .cons a (r.append h)
theorem RFs.one{H:Hp}{v:V}{t:T}{F:List Nat}(r:RF H v t F): RFs H [v] [t] F:=by
 have:=RFs.cons r RFs.nil
 rwa [List.append_nil]at this
theorem RFs.snoc{H:Hp}{vs:List V}{ts:List T}{F G:List Nat}{v:V}{t:T}(r:RFs H vs ts F)(x:RF H v t G): RFs H (vs++[v]) (ts++[t]) (F++G):=r.append (.one x)
theorem RFs.at{H:Hp}: ∀{vs:List V} {ts:List T} {F:List Nat} {i:Nat} {t:T},RFs H vs ts F→ts[i]?=some t→∃v G,vs[i]?=some v∧RF H v t G∧G.Sublist F
 | _,_,_,_,_,.nil,e=>by simp at e
 | _,_,_,0,_,.cons a _,e=>by
  simp at e
  exact⟨_,_,by simp,e▸a,List.sublist_append_left _ _⟩
 | _,_,_,i+1,_,.cons _ r,e=>by
  simp at e
  obtain⟨x,G,hx,hr,hs⟩:=r.at e
  exact⟨x,G,by simpa using hx,hr,hs.trans (List.sublist_append_right _ _)⟩
theorem RFs.drop{H:Hp}: ∀{vs:List V} {ts:List T} {F:List Nat} (i:Nat),RFs H vs ts F→∃G,RFs H (vs.drop i) (ts.drop i) G∧G.Sublist F
 | _,_,_,0,h=>⟨_,h,List.Sublist.refl _⟩
 | _,_,_,_+1,.nil=>⟨_,.nil,List.Sublist.refl _⟩
 | _,_,_,i+1,.cons _ r=>by
  obtain⟨G,h1,h2⟩:=r.drop i
  exact⟨G,h1,h2.trans (List.sublist_append_right _ _)⟩
theorem RFs.split{H:Hp}: ∀{vs:List V} {ts:List T} {F:List Nat} {i:Nat} {t:T},RFs H vs ts F→ts[i]?=some t →
  ∃v G F1 F2,vs[i]?=some v∧RF H v t G∧F=F1++(G++F2)∧∀(H':Hp) (w:V) (t':T) (G':List Nat),RF H' w t' G'→(∀a∈F1,H'[a]?=H[a]?)→(∀a∈F2,H'[a]?=H[a]?)→RFs H' (vs.set i w) (ts.set i t') (F1++(G'++F2))
 | _,_,_,_,_,.nil,e=>by simp at e
 | _,_,_,0,_,.cons (G:=G1) a r,e=>by
  simp at e
  subst e
  exact⟨_,_,[],G1,by simp,a,by simp,fun H' w t' G' x _ h2=>by simpa using RFs.cons x (r.frame h2)⟩
 | _,_,_,i+1,_,.cons (F:=F0) a r,e=>by
  simp at e
  obtain⟨v,G,F1,F2,h1,h2,h3,h4⟩:=r.split e
  refine⟨v,G,F0++F1,F2,by simpa using h1,h2,by rw[h3];simp,fun H' w t' G' x k1 k2=>?_⟩
  have:=RFs.cons (a.frame fun b m=>k1 b (Zz4 _ m)) (h4 H' w t' G' x (fun b m=>k1 b (Zz3 _ m)) k2)
  simpa using this
theorem Zg0{α:Type}{xs:List α}{i:Nat}{x:α}(h:xs[i]?=some x): xs.set i x=xs:=by
 obtain⟨hi,e⟩:=Zz6.mp h
 rw[←e]
 exact List.set_getElem_self hi
theorem nd3{F1 G F2 G' Gn:List Nat}(nd:(F1++(G++F2)).Nodup)(n':G'.Nodup)(sub:∀a∈G',a∈G∨a∈Gn)(ds:∀a∈Gn,a∉F1++(G++F2)): (F1++(G'++F2)).Nodup:=by
 rw[List.nodup_append,List.nodup_append]at nd ⊢
 obtain⟨a1,⟨a2,a3,a4⟩,a5⟩:=nd
 refine⟨a1,⟨n',a3,fun x hx y hy e=>?_⟩,fun x hx y hy e=>?_⟩
 ·rcases sub x hx with m | m
  ·exact a4 x m y hy e
  ·exact ds x m (Zz3 _ (Zz3 _ (e▸hy)))
 ·rcases Zz8.mp hy with m | m
  ·rcases sub y m with q | q
   ·exact a5 x hx y (Zz4 _ q) e
   ·exact ds y q (Zz4 _ (e▸hx))
  ·exact a5 x hx y (Zz3 _ m) e
theorem in3{F1 G F2 G' Gn:List Nat}(sub:∀a∈G',a∈G∨a∈Gn): ∀a∈F1++(G'++F2),a∈F1++(G++F2)∨a∈Gn:=by
 intro a m
 rcases Zz8.mp m with m | m
 ·exact .inl (Zz4 _ m)
 ·rcases Zz8.mp m with m | m
  ·exact(sub a m).imp (fun q=>List.mem_append_right _ (Zz4 _ q)) id
  ·exact .inl (Zz3 _ (Zz3 _ m))
mutual
noncomputable def T.flat: T→Bool
 | .lst _=>false
 | .tup ts=>T.flats ts
 | .none=>true
 | .bool _=>true
 | .int _=>true
 | .str _=>true
 | .ob _ _=>false
noncomputable def T.flats: List T→Bool
 | []=>true
 | t::ts=>t.flat && T.flats ts
end
mutual
theorem RF.flat{H:Hp}{v:V}{t:T}{F:List Nat}(r:RF H v t F)(h:t.flat=true): F=[]:=by
 cases r with
 | none=>rfl
 | bool b=>rfl
 | int i=>rfl
 | str s=>rfl
 | tup hs=>exact RFs.flats hs (by simpa [T.flat]using h)
 | ref e hs=>simp[T.flat]at h
 | obj e hs=>simp[T.flat]at h
theorem RFs.flats{H:Hp}{vs:List V}{ts:List T}{F:List Nat}(r:RFs H vs ts F)(h:T.flats ts=true): F=[]:=by
 cases r with
 | nil=>rfl
 | cons a b=>
  simp only[T.flats,Bool.and_eq_true]at h
  rw[RF.flat a h.1,RFs.flats b h.2]
  rfl
end
noncomputable def T.flatIn: T→Bool
 | .lst ts=>T.flats ts
 | t=>t.flat
noncomputable def ZbJ(f:List T→Option (List T)): List Int→T→Option T
 | [],.lst ts=>(f ts).map .lst
 | k::ks,.lst ts=>(seqIndex? k ts.length).bind fun j=>ts[j]?.bind fun t=>(ZbJ f ks t).map fun u=>.lst (ts.set j u)
 | k::ks,.tup ts=>(seqIndex? k ts.length).bind fun j=>ts[j]?.bind fun t=>(ZbJ f ks t).map fun u=>.tup (ts.set j u)
 | _,_=>none
inductive Lead(H:Hp): List Int→V→Nat→Prop where
 | nil {a:Nat}:Lead H [] (.ref a) a
 | ref {k:Int} {ks:List Int} {b:Nat} {vs:List V} {j:Nat} {v:V} {a:Nat}:H[b]?=some vs→seqIndex? k vs.length=some j→vs[j]?=some v→Lead H ks v a→Lead H (k::ks) (.ref b) a
 | tup {k:Int} {ks:List Int} {vs:List V} {j:Nat} {v:V} {a:Nat}:seqIndex? k vs.length=some j→vs[j]?=some v→Lead H ks v a→Lead H (k::ks) (.tup vs) a
theorem Zdo{H:Hp}{Gn:List Nat}{f:List T→Option (List T)}: ∀(ks:List Int) {v:V} {t t':T} {F:List Nat},RF H v t F→F.Nodup→(∀a∈Gn,a∉F)→ZbJ f ks t=some t' →
  ∃a vs ts ts' G,Lead H ks v a∧a∈F∧H[a]?=some vs∧RFs H vs ts G∧f ts=some ts'∧G.Nodup∧a∉G∧(∀x∈G,x∈F) ∧
   ∀vs' G',RFs H vs' ts' G'→G'.Nodup→a∉G'→(∀x∈G',x∈G∨x∈Gn)→∃F',RF (H.set a vs') v t' F'∧F'.Nodup∧∀x∈F',x∈F∨x∈Gn
 | [],v,t,t',F,r,nd,ds,e=>by
  cases r with
  | @ref a vs ts G e1 hs=>
   obtain⟨ts',h1,h2⟩:=Zz1.mp e
   subst h2
   rw[List.nodup_cons]at nd
   refine⟨a,vs,ts,ts',G,.nil,List.mem_cons_self,e1,hs,h1,nd.2,nd.1,fun x m=>List.mem_cons_of_mem _ m,fun vs' G' r' n' na sub=>⟨a::G',?_,?_,?_⟩⟩
   ·have ha:=(Zz6.mp e1).1
    refine .ref (List.getElem?_set_self ha) (r'.frame fun b m=>List.getElem?_set_ne ?_)
    intro q
    subst q
    exact na m
   ·exact List.nodup_cons.mpr ⟨na,n'⟩
   ·intro x m
    rcases Zz7.mp m with rfl | m
    ·exact .inl Zz5
    ·exact(sub x m).imp (Zz2 _) id
  | none=>cases e
  | bool _=>cases e
  | int _=>cases e
  | str _=>cases e
  | tup _=>cases e
  | obj _ _=>cases e
 | k::ks,v,t,t',F,r,nd,ds,e=>by
  cases r with
  | none=>cases e
  | bool _=>cases e
  | int _=>cases e
  | str _=>cases e
  | obj _ _=>cases e
  | @tup vs ts _ hs=>
   obtain⟨j,e1,e⟩:=Zz0.mp e
   obtain⟨u,e2,e⟩:=Zz0.mp e
   obtain⟨u',e3,e⟩:=Zz1.mp e
   subst e
   obtain⟨w,G1,F1,F2,e4,g1,eF,rb⟩:=hs.split e2
   subst eF
   have nd1:G1.Nodup:=(List.nodup_append.mp (List.nodup_append.mp nd).2.1).1
   have hin:∀x∈G1,x∈F1++(G1++F2):=fun x m=>List.mem_append_right _ (Zz4 _ m)
   obtain⟨a,us,qs,qs',G,l,am,ea,hq,hf,gn,na,gs,go⟩:=Zdo ks g1 nd1 (fun b m q=>ds b m (hin b q)) e3
   refine⟨a,us,qs,qs',G,.tup (by rw[hs.length];exact e1) e4 l,hin a am,ea,hq,hf,gn,na,fun x m=>hin x (gs x m),fun vs' G' r' n' na' sub=>?_⟩
   obtain⟨G2,f1,f2,f3⟩:=go vs' G' r' n' na' sub
   obtain⟨a1,a2,a5⟩:=List.nodup_append.mp nd
   obtain⟨_,a3,a4⟩:=List.nodup_append.mp a2
   have:=rb (H.set a vs') w u' G2 f1 (fun b m=>List.getElem?_set_ne fun q=>a5 b m a (Zz4 _ am) q.symm) (fun b m=>List.getElem?_set_ne fun q=>a4 a am b m q)
   rw[Zg0 e4]at this
   exact⟨_,.tup this,nd3 nd f2 f3 ds,in3 f3⟩
  | @ref b vs ts F' e0 hs=>
   obtain⟨j,e1,e⟩:=Zz0.mp e
   obtain⟨u,e2,e⟩:=Zz0.mp e
   obtain⟨u',e3,e⟩:=Zz1.mp e
   subst e
   obtain⟨w,G1,F1,F2,e4,g1,eF,rb⟩:=hs.split e2
   subst eF
   rw[List.nodup_cons]at nd
   obtain⟨nb,nd⟩:=nd
   have nd1:G1.Nodup:=(List.nodup_append.mp (List.nodup_append.mp nd).2.1).1
   have hin:∀x∈G1,x∈F1++(G1++F2):=fun x m=>List.mem_append_right _ (Zz4 _ m)
   have ds':∀a∈Gn,a∉F1++(G1++F2):=fun a m q=>ds a m (Zz2 _ q)
   obtain⟨a,us,qs,qs',G,l,am,ea,hq,hf,gn,na,gs,go⟩:=Zdo ks g1 nd1 (fun b m q=>ds' b m (hin b q)) e3
   refine⟨a,us,qs,qs',G,.ref e0 (by rw[hs.length];exact e1) e4 l,List.mem_cons_of_mem _ (hin a am),ea,hq,hf,gn,na,fun x m=>List.mem_cons_of_mem _ (hin x (gs x m)),fun vs' G' r' n' na' sub=>?_⟩
   obtain⟨G2,f1,f2,f3⟩:=go vs' G' r' n' na' sub
   obtain⟨a1,a2,a5⟩:=List.nodup_append.mp nd
   obtain⟨_,a3,a4⟩:=List.nodup_append.mp a2
   have:=rb (H.set a vs') w u' G2 f1 (fun b m=>List.getElem?_set_ne fun q=>a5 b m a (Zz4 _ am) q.symm) (fun b m=>List.getElem?_set_ne fun q=>a4 a am b m q)
   rw[Zg0 e4]at this
   have hab:a≠b:=fun q=>nb (hin b (q▸am))
   refine⟨_,.ref ((List.getElem?_set_ne hab).trans e0) this,List.nodup_cons.mpr ⟨fun q=>?_,nd3 nd f2 f3 ds'⟩,fun x m=>?_⟩
   ·rcases in3 f3 b q with m | m
    ·exact nb m
    ·exact ds b m Zz5
   ·rcases Zz7.mp m with rfl | m
    ·exact .inl Zz5
    ·exact(in3 f3 x m).imp (Zz2 _) id
end TM
end
section
namespace TM
open PySem PM
noncomputable abbrev TL:=Nat→Option T
noncomputable abbrev PE:=TL→Option T
noncomputable abbrev Z6:=TL→Option (List T)
noncomputable abbrev PB:=TL→Option Bool
noncomputable abbrev PG:=TL→Option (List T)
noncomputable def updT(σ:TL)(i:Nat)(t:T): TL:=fun j=>if j=i then some t else σ j
noncomputable def ZA(σ:TL)(i:Nat): TL:=fun j=>if j=i then none else σ j
structure Ctx where
 H0:Hp
 F0:List Nat
 P:Nat→Prop
structure St(c:Ctx)(O:List Nat)(ρ:Lc)(σ:TL)(H:Hp)(Φ:Nat→List Nat): Prop where
 slot:∀i t,σ i=some t→∃v,ρ i=some v∧RF H v t (Φ i)
 src:∀i t,σ i=some t→∀a∈Φ i,c.H0.length≤a∨c.P a
 own:∀i∈O,∀t,σ i=some t→(Φ i).Nodup∧(∀a∈Φ i,c.H0.length≤a∨a∈c.F0)∧∀j u,j≠i→σ j=some u→∀a∈Φ i,a∉Φ j
 len:c.H0.length≤H.length
 keep:∀a,a<c.H0.length→a∉c.F0→H[a]?=c.H0[a]?
 pos:0<c.H0.length
 f0:0∉c.F0
theorem St.ext{c:Ctx}{O:List Nat}{ρ:Lc}{σ:TL}{H:Hp}{Φ:Nat→List Nat}(s:St c O ρ σ H Φ)(X:Hp): St c O ρ σ (H++X) Φ:=
 ⟨fun i t e=>by obtain⟨v,h1,h2⟩:=s.slot i t e;exact⟨v,h1,h2.ext X⟩,s.src,s.own,by have:=s.len;rw[List.length_append];omega,fun a ha hn=>by
  rw[List.getElem?_append_left (Nat.lt_of_lt_of_le ha s.len)];exact s.keep a ha hn,s.pos,s.f0⟩
theorem St.less{c:Ctx}{O O':List Nat}{ρ:Lc}{σ:TL}{H:Hp}{Φ:Nat→List Nat}(s:St c O ρ σ H Φ)(h:∀i∈O',i∈O): St c O' ρ σ H Φ:=⟨s.slot,s.src,fun i hi=>s.own i (h i hi),s.len,s.keep,s.pos,s.f0⟩
def From(H:Hp)(N:List Nat)(σ:TL)(Φ:Nat→List Nat)(a:Nat): Prop:=H.length≤a∨∃i∈N,(∃t,σ i=some t)∧a∈Φ i
theorem From.mono{H:Hp}{N N':List Nat}{σ:TL}{Φ:Nat→List Nat}{a:Nat}(f:From H N σ Φ a)(h:∀i∈N,i∈N'): From H N' σ Φ a:=f.imp id fun⟨i,hi,q⟩=>⟨i,h i hi,q⟩
theorem From.back{H X:Hp}{N:List Nat}{σ:TL}{Φ:Nat→List Nat}{a:Nat}(f:From (H++X) N σ Φ a): From H N σ Φ a:=f.imp (fun h=>by rw[List.length_append]at h;omega) id
theorem From.nil{H:Hp}{σ:TL}{Φ:Nat→List Nat}{a:Nat}(f:From H [] σ Φ a): H.length≤a:=f.elim id fun⟨_,hi,_⟩=>by cases hi
def E(O N:List Nat)(u:Bool)(e:Ex)(p:PE): Prop:=∀(c:Ctx) (ρ:Lc) (σ:TL) (H:Hp) (Φ:Nat→List Nat) (t:T),St c O ρ σ H Φ→p σ=some t →
 ∃v X F,e ρ H=some (v,H++X)∧RF (H++X) v t F∧(∀a∈F,From H N σ Φ a)∧(u=true→F.Nodup)
def Es(O N:List Nat)(u:Bool)(n:Nat)(e:ZT)(p:Z6): Prop:=∀(c:Ctx) (ρ:Lc) (σ:TL) (H:Hp) (Φ:Nat→List Nat) (ts:List T),St c O ρ σ H Φ→p σ=some ts →
 ts.length=n∧∃vs X F,e ρ H=some (vs,H++X)∧RFs (H++X) vs ts F∧(∀a∈F,From H N σ Φ a)∧(u=true→F.Nodup)
def Bt(O:List Nat)(e:Ts)(p:PB): Prop:=∀(c:Ctx) (ρ:Lc) (σ:TL) (H:Hp) (Φ:Nat→List Nat) (b:Bool),St c O ρ σ H Φ→p σ=some b→∃X,e ρ H=some (b,H++X)
section
variable {O N:List Nat} {u:Bool}
theorem Zby{O':List Nat}{e:Ex}{p:PE}(x:E O' N u e p)(h:∀i∈O',i∈O:=by decide): E O N u e p:=fun c ρ σ H Φ t s=>x c ρ σ H Φ t (s.less h)
theorem E.sh{e:Ex}{p:PE}(x:E O N u e p): E O N false e p:=fun c ρ σ H Φ t s q=>by
 obtain⟨v,X,F,a1,a2,a3,a4⟩:=x c ρ σ H Φ t s q
 exact⟨v,X,F,a1,a2,a3,by simp⟩
noncomputable def Zk(k:Int): PE:=fun _=>some (.int k)
noncomputable def Zc7: PE:=fun _=>some .none
noncomputable def ZbH(b:Bool): PE:=fun _=>some (.bool b)
noncomputable def Zap(x:Str): PE:=fun _=>some (.str x)
noncomputable def Zc(i:Nat): PE:=fun σ=>σ i
theorem Zm(k:Int): E O [] true (Zg k) (Zk k):=fun c ρ σ H Φ t s q=>by
 cases q;exact⟨_,[],[],by simp[Zg],.int k,by simp,by simp⟩
theorem Zed: E O [] true ZbT Zc7:=fun c ρ σ H Φ t s q=>by
 cases q;exact⟨_,[],[],by simp[ZbT],.none,by simp,by simp⟩
theorem E.bool(k:Bool): E O [] true (Zbx k) (ZbH k):=fun c ρ σ H Φ t s q=>by
 cases q;exact⟨_,[],[],by simp[Zbx],.bool k,by simp,by simp⟩
theorem E.str(k:Str): E O [] true (Zaa k) (Zap k):=fun c ρ σ H Φ t s q=>by
 cases q;exact⟨_,[],[],by simp[Zaa],.str k,by simp,by simp⟩
theorem Zl(i:Nat): E O [i] false (Zb i) (Zc i):=fun c ρ σ H Φ t s q=>by
 obtain⟨v,h1,h2⟩:=s.slot i t q
 exact⟨v,[],Φ i,by simp[Zb,h1],by simpa using h2,fun a m=>.inr ⟨i,List.mem_cons_self,⟨t,q⟩,m⟩,by simp⟩
theorem E.own{i:Nat}(hi:i∈O): E O [i] true (Zb i) (Zc i):=fun c ρ σ H Φ t s q=>by
 obtain⟨v,h1,h2⟩:=s.slot i t q
 exact⟨v,[],Φ i,by simp[Zb,h1],by simpa using h2,fun a m=>.inr ⟨i,List.mem_cons_self,⟨t,q⟩,m⟩,fun _=>(s.own i hi t q).1⟩
noncomputable def Zah(p:PE): PE:=fun σ=>(p σ).bind fun t=>if t.flat then some t else none
theorem E.flat{e:Ex}{p:PE}(x:E O N u e p): E O [] true e (Zah p):=fun c ρ σ H Φ t s q=>by
 obtain⟨t',e1,e2⟩:=Zz0.mp q
 by_cases h:t'.flat=true
 ·rw[if_pos h]at e2
  cases e2
  obtain⟨v,X,F,a1,a2,a3,a4⟩:=x c ρ σ H Φ t s e1
  have:=a2.flat h
  subst this
  exact⟨v,X,[],a1,a2,by simp,by simp⟩
 ·rw[if_neg h]at e2;cases e2
noncomputable def Zo: Z6:=fun _=>some []
noncomputable def Zd(p:PE)(q:Z6): Z6:=fun σ=>(p σ).bind fun t=>(q σ).bind fun ts=>some (t::ts)
theorem Zx: Es O [] true 0 Zh Zo:=fun c ρ σ H Φ ts s q=>by
 cases q;exact⟨rfl,[],[],[],by simp[Zh],.nil,by simp,by simp⟩
theorem Zw{M:List Nat}{u':Bool}{n:Nat}{e:Ex}{p:PE}{es:ZT}{ps:Z6}(x:E O N u e p)(y:Es O M u' n es ps): Es O (N++M) false (n+1) (Za e es) (Zd p ps):=fun c ρ σ H Φ ts s q=>by
 obtain⟨t,e1,q⟩:=Zz0.mp q
 obtain⟨rs,e2,q⟩:=Zz0.mp q
 cases q
 obtain⟨v,X,F,a1,a2,a3,a4⟩:=x c ρ σ H Φ t s e1
 obtain⟨hl,vs,Y,G,b1,b2,b3,b4⟩:=y c ρ σ (H++X) Φ rs (s.ext X) e2
 refine⟨by simp[hl],v::vs,X++Y,F++G,by simp[Za,a1,b1],?_,fun a m=>?_,by simp⟩
 ·rw[←List.append_assoc];exact .cons (a2.ext Y) b2
 ·rcases Zz8.mp m with m | m
  ·exact(a3 a m).mono fun i hi=>List.mem_append_left _ hi
  ·exact(b3 a m).back.mono fun i hi=>List.mem_append_right _ hi
theorem ZF{M:List Nat}{n:Nat}{e:Ex}{p:PE}{es:ZT}{ps:Z6}(x:E O N true e p)(y:Es O M true n es ps)(hN:∀i∈N,i∈O)(hM:∀i∈N,i∉M): Es O (N++M) true (n+1) (Za e es) (Zd p ps):=fun c ρ σ H Φ ts s q=>by
 obtain⟨t,e1,q⟩:=Zz0.mp q
 obtain⟨rs,e2,q⟩:=Zz0.mp q
 cases q
 obtain⟨v,X,F,a1,a2,a3,a4⟩:=x c ρ σ H Φ t s e1
 obtain⟨hl,vs,Y,G,b1,b2,b3,b4⟩:=y c ρ σ (H++X) Φ rs (s.ext X) e2
 refine⟨by simp[hl],v::vs,X++Y,F++G,by simp[Za,a1,b1],?_,fun a m=>?_,fun _=>?_⟩
 ·rw[←List.append_assoc];exact .cons (a2.ext Y) b2
 ·rcases Zz8.mp m with m | m
  ·exact(a3 a m).mono fun i hi=>List.mem_append_left _ hi
  ·exact(b3 a m).back.mono fun i hi=>List.mem_append_right _ hi
 ·rw[List.nodup_append]
  refine⟨a4 rfl,b4 rfl,fun a ha b hb e=>?_⟩
  subst e
  have hlt:=a2.lt a ha
  rcases b3 a hb with h | ⟨j,hj,⟨tj,ej⟩,mj⟩
  ·omega
  ·obtain⟨vj,_,rj⟩:=s.slot j tj ej
   have:=rj.lt a mj
   rcases a3 a ha with h | ⟨i,hi,⟨ti,ei⟩,mi⟩
   ·omega
   ·exact(s.own i (hN i hi) ti ei).2.2 j tj (fun q=>hM i hi (q▸hj)) ej a mi mj
noncomputable def ZaA(p:Z6): PE:=fun σ=>(p σ).map .tup
noncomputable def Zao(p:Z6): PE:=fun σ=>(p σ).map .lst
theorem E.tup{n:Nat}{e:ZT}{p:Z6}(x:Es O N u n e p)(hn:n≤ZN:=by decide): E O N u (Z1 e) (ZaA p):=fun c ρ σ H Φ t s q=>by
 obtain⟨ts,e1,e2⟩:=Zz1.mp q
 subst e2
 obtain⟨hl,vs,Y,G,b1,b2,b3,b4⟩:=x c ρ σ H Φ ts s e1
 have:=b2.length
 refine⟨.tup vs,Y,G,?_,.tup b2,b3,b4⟩
 simp only[Z1,b1,Option.bind_some]
 rw[if_pos (by omega)]
theorem E.list{n:Nat}{e:ZT}{p:Z6}(x:Es O N u n e p)(hn:n≤ZN:=by decide): E O N u (ZY e) (Zao p):=fun c ρ σ H Φ t s q=>by
 obtain⟨ts,e1,e2⟩:=Zz1.mp q
 subst e2
 obtain⟨hl,vs,Y,G,b1,b2,b3,b4⟩:=x c ρ σ H Φ ts s e1
 have:=b2.length
 refine⟨.ref (H++Y).length,Y++[vs],(H++Y).length::G,?_,?_,fun a m=>?_,fun hu=>?_⟩
 ·simp only[ZY,b1,Option.bind_some]
  rw[if_pos (by omega),List.append_assoc]
 ·rw[←List.append_assoc];exact .ref (by simp) (b2.ext _)
 ·rcases Zz7.mp m with rfl | m
  ·exact .inl (by simp)
  ·exact b3 a m
 ·rw[List.nodup_cons]
  exact⟨fun m=>Nat.lt_irrefl _ (b2.lt _ m),b4 hu⟩
def OA2(o:V→V→Hp→Option (V×Hp))(q:T→T→Option T): Prop:=∀(H:Hp) (v1 v2:V) (t1 t2 t:T) (F1 F2:List Nat),RF H v1 t1 F1→RF H v2 t2 F2→q t1 t2=some t→∃v,o v1 v2 H=some (v,H)∧RF H v t []
def OI2(o:V→V→Hp→Option (V×Hp))(q:T→T→Option T): Prop:=∀(H:Hp) (v1 v2:V) (t1 t2 t:T) (F1 F2:List Nat),RF H v1 t1 F1→RF H v2 t2 F2→q t1 t2=some t→∃v F,o v1 v2 H=some (v,H)∧RF H v t F∧F.Sublist F1
def OC2(o:V→V→Hp→Option (V×Hp))(q:T→T→Option T): Prop:=∀(H:Hp) (v1 v2:V) (t1 t2 t:T) (F1 F2:List Nat),RF H v1 t1 F1→RF H v2 t2 F2→q t1 t2=some t→∃v X F,o v1 v2 H=some (v,H++X)∧RF (H++X) v t F∧(∀a∈F,H.length≤a∨a∈F1∨a∈F2)∧(t.flatIn=true→F.Nodup∧∀a∈F,H.length≤a)
def OA1(o:V→Hp→Option (V×Hp))(q:T→Option T): Prop:=∀(H:Hp) (v1:V) (t1 t:T) (F1:List Nat),RF H v1 t1 F1→q t1=some t→∃v,o v1 H=some (v,H)∧RF H v t []
def OAn(o:List V→Hp→Option (V×Hp))(q:List T→Option T): Prop:=∀(H:Hp) (vs:List V) (ts:List T) (t:T) (F:List Nat),RFs H vs ts F→q ts=some t→∃v,o vs H=some (v,H)∧RF H v t []
def OCn(o:List V→Hp→Option (V×Hp))(q:List T→Option T): Prop:=∀(H:Hp) (vs:List V) (ts:List T) (t:T) (F1:List Nat),0<H.length→RFs H vs ts F1→q ts=some t→∃v X F,o vs H=some (v,H++X)∧RF (H++X) v t F∧(∀a∈F,H.length≤a∨a∈F1)∧(t.flatIn=true→F.Nodup∧∀a∈F,H.length≤a)
noncomputable def Zn(q:T→T→Option T)(p1 p2:PE): PE:=fun σ=>(p1 σ).bind fun x=>(p2 σ).bind fun y=>q x y
noncomputable def pUn(q:T→Option T)(p1:PE): PE:=fun σ=>(p1 σ).bind fun x=>q x
noncomputable def ZW(q:List T→Option T)(ps:Z6): PE:=fun σ=>(ps σ).bind fun xs=>q xs
noncomputable def pFl(p:PE): PE:=fun σ=>(p σ).bind fun t=>if t.flatIn then some t else none
theorem ZeY{M:List Nat}{u':Bool}{e1 e2:Ex}{p1 p2:PE}{q:T→T→Option T}{o:V→V→Hp→Option (V×Hp)}{c:Ctx}{ρ:Lc}{σ:TL}{H:Hp}{Φ:Nat→List Nat}{t:T}(x:E O N u e1 p1)(y:E O M u' e2 p2)(s:St c O ρ σ H Φ)(h:Zn q p1 p2 σ=some t):
  ∃t1 t2 v1 v2 X F1 F2,q t1 t2=some t∧RF (H++X) v1 t1 F1∧RF (H++X) v2 t2 F2∧(∀a∈F1,From H N σ Φ a)∧(∀a∈F2,From H M σ Φ a)∧(u=true→F1.Nodup)∧Zj o e1 e2 ρ H=o v1 v2 (H++X):=by
 obtain⟨t1,h1,h⟩:=Zz0.mp h
 obtain⟨t2,h2,h⟩:=Zz0.mp h
 obtain⟨v,X,F,a1,a2,a3,a4⟩:=x c ρ σ H Φ t1 s h1
 obtain⟨w,Y,G,b1,b2,b3,b4⟩:=y c ρ σ (H++X) Φ t2 (s.ext X) h2
 rw[List.append_assoc]at b1 b2
 refine⟨t1,t2,v,w,X++Y,F,G,h,?_,b2,a3,fun a m=>(b3 a m).back,a4,by simp only[Zj,a1,b1,Option.bind_some]⟩
 rw[←List.append_assoc];exact a2.ext Y
theorem ZO{M:List Nat}{u':Bool}{e1 e2:Ex}{p1 p2:PE}{q:T→T→Option T}{o:V→V→Hp→Option (V×Hp)}(k:OA2 o q)(x:E O N u e1 p1)(y:E O M u' e2 p2): E O [] true (Zj o e1 e2) (Zn q p1 p2):=fun c ρ σ H Φ t s h=>by
 obtain⟨t1,t2,v1,v2,X,F1,F2,hq,r1,r2,_,_,_,e⟩:=ZeY (o:=o) x y s h
 obtain⟨v,h1,h2⟩:=k _ v1 v2 t1 t2 t F1 F2 r1 r2 hq
 exact⟨v,X,[],e.trans h1,h2,by simp,by simp⟩
theorem ZD{M:List Nat}{u':Bool}{e1 e2:Ex}{p1 p2:PE}{q:T→T→Option T}{o:V→V→Hp→Option (V×Hp)}(k:OI2 o q)(x:E O N u e1 p1)(y:E O M u' e2 p2): E O N u (Zj o e1 e2) (Zn q p1 p2):=fun c ρ σ H Φ t s h=>by
 obtain⟨t1,t2,v1,v2,X,F1,F2,hq,r1,r2,h1,_,hu,e⟩:=ZeY (o:=o) x y s h
 obtain⟨v,F,k1,k2,k3⟩:=k _ v1 v2 t1 t2 t F1 F2 r1 r2 hq
 exact⟨v,X,F,e.trans k1,k2,fun a m=>h1 a (k3.subset m),fun h=>(hu h).sublist k3⟩
theorem ZaZ{M:List Nat}{u':Bool}{e1 e2:Ex}{p1 p2:PE}{q:T→T→Option T}{o:V→V→Hp→Option (V×Hp)}(k:OC2 o q)(x:E O N u e1 p1)(y:E O M u' e2 p2): E O (N++M) false (Zj o e1 e2) (Zn q p1 p2):=fun c ρ σ H Φ t s h=>by
 obtain⟨t1,t2,v1,v2,X,F1,F2,hq,r1,r2,h1,h2,hu,e⟩:=ZeY (o:=o) x y s h
 obtain⟨v,Y,F,k1,k2,k3,k4⟩:=k _ v1 v2 t1 t2 t F1 F2 r1 r2 hq
 rw[List.append_assoc]at k1 k2
 refine⟨v,X++Y,F,e.trans k1,k2,fun a m=>?_,by simp⟩
 rcases k3 a m with h | h | h
 ·exact .inl (by rw[List.length_append]at h;omega)
 ·exact(h1 a h).mono fun i hi=>List.mem_append_left _ hi
 ·exact(h2 a h).mono fun i hi=>List.mem_append_right _ hi
theorem ZbF{M:List Nat}{u':Bool}{e1 e2:Ex}{p1 p2:PE}{q:T→T→Option T}{o:V→V→Hp→Option (V×Hp)}(k:OC2 o q)(x:E O N u e1 p1)(y:E O M u' e2 p2): E O [] true (Zj o e1 e2) (pFl (Zn q p1 p2)):=fun c ρ σ H Φ t s h=>by
 obtain⟨t',h,hf⟩:=Zz0.mp h
 by_cases fl:t'.flatIn=true
 ·rw[if_pos fl]at hf
  cases hf
  obtain⟨t1,t2,v1,v2,X,F1,F2,hq,r1,r2,h1,h2,hu,e⟩:=ZeY (o:=o) x y s h
  obtain⟨v,Y,F,k1,k2,k3,k4⟩:=k _ v1 v2 t1 t2 t F1 F2 r1 r2 hq
  rw[List.append_assoc]at k1 k2
  exact⟨v,X++Y,F,e.trans k1,k2,fun a m=>.inl (by have:=(k4 fl).2 a m;rw[List.length_append]at this;omega),fun _=>(k4 fl).1⟩
 ·rw[if_neg fl]at hf;cases hf
theorem Zhw{e1:Ex}{p1:PE}{q:T→Option T}{o:V→Hp→Option (V×Hp)}(k:OA1 o q)(x:E O N u e1 p1): E O [] true (eUn o e1) (pUn q p1):=fun c ρ σ H Φ t s h=>by
 obtain⟨t1,h1,h⟩:=Zz0.mp h
 obtain⟨v,X,F,a1,a2,a3,a4⟩:=x c ρ σ H Φ t1 s h1
 obtain⟨w,b1,b2⟩:=k _ v t1 t F a2 h
 exact⟨w,X,[],by simp only[eUn,a1,Option.bind_some,b1],b2,by simp,by simp⟩
theorem Zbv{n:Nat}{es:ZT}{ps:Z6}{q:List T→Option T}{o:List V→Hp→Option (V×Hp)}(k:OAn o q)(x:Es O N u n es ps): E O [] true (Zr o es) (ZW q ps):=fun c ρ σ H Φ t s h=>by
 obtain⟨ts,h1,h⟩:=Zz0.mp h
 obtain⟨_,vs,X,F,a1,a2,a3,a4⟩:=x c ρ σ H Φ ts s h1
 obtain⟨w,b1,b2⟩:=k _ vs ts t F a2 h
 exact⟨w,X,[],by simp only[Zr,a1,Option.bind_some,b1],b2,by simp,by simp⟩
theorem ZiB{n:Nat}{es:ZT}{ps:Z6}{q:List T→Option T}{o:List V→Hp→Option (V×Hp)}(k:OCn o q)(x:Es O N u n es ps): E O N false (Zr o es) (ZW q ps):=fun c ρ σ H Φ t s h=>by
 obtain⟨ts,h1,h⟩:=Zz0.mp h
 obtain⟨_,vs,X,F,a1,a2,a3,a4⟩:=x c ρ σ H Φ ts s h1
 have hp:0<(H++X).length:=by have:=s.pos;have:=s.len;rw[List.length_append];omega
 obtain⟨w,Y,G,b1,b2,b3,b4⟩:=k _ vs ts t F hp a2 h
 rw[List.append_assoc]at b1 b2
 refine⟨w,X++Y,G,by simp only[Zr,a1,Option.bind_some,b1],b2,fun a m=>?_,by simp⟩
 rcases b3 a m with h | h
 ·exact .inl (by rw[List.length_append]at h;omega)
 ·exact a3 a h
def SimF(fr:Bool)(f:List V→Hp→Option (V×Hp))(p:List T→Option T): Prop:=∀(H:Hp) (vs:List V) (ts:List T) (t:T) (F1:List Nat),0<H.length→RFs H vs ts F1→p ts=some t→∃v X F,f vs H=some (v,H++X)∧RF (H++X) v t F∧(∀a∈F,H.length≤a∨a∈F1)∧(fr=true→F.Nodup∧∀a∈F,H.length≤a)
theorem Zb1{fr:Bool}{n:Nat}{es:ZT}{ps:Z6}{q:List T→Option T}{o:List V→Hp→Option (V×Hp)}(k:SimF fr o q)(x:Es O N u n es ps): E O N false (Zr o es) (ZW q ps):=fun c ρ σ H Φ t s h=>by
 obtain⟨ts,h1,h⟩:=Zz0.mp h
 obtain⟨_,vs,X,F,a1,a2,a3,a4⟩:=x c ρ σ H Φ ts s h1
 have hp:0<(H++X).length:=by have:=s.pos;have:=s.len;rw[List.length_append];omega
 obtain⟨w,Y,G,b1,b2,b3,b4⟩:=k _ vs ts t F hp a2 h
 rw[List.append_assoc]at b1 b2
 refine⟨w,X++Y,G,by simp only[Zr,a1,Option.bind_some,b1],b2,fun a m=>?_,by simp⟩
 rcases b3 a m with h | h
 ·exact .inl (by rw[List.length_append]at h;omega)
 ·exact a3 a h
theorem ZbU{n:Nat}{es:ZT}{ps:Z6}{q:List T→Option T}{o:List V→Hp→Option (V×Hp)}(k:SimF true o q)(x:Es O N u n es ps): E O [] true (Zr o es) (ZW q ps):=fun c ρ σ H Φ t s h=>by
 obtain⟨ts,h1,h⟩:=Zz0.mp h
 obtain⟨_,vs,X,F,a1,a2,a3,a4⟩:=x c ρ σ H Φ ts s h1
 have hp:0<(H++X).length:=by have:=s.pos;have:=s.len;rw[List.length_append];omega
 obtain⟨w,Y,G,b1,b2,b3,b4⟩:=k _ vs ts t F hp a2 h
 rw[List.append_assoc]at b1 b2
 exact⟨w,X++Y,G,by simp only[Zr,a1,Option.bind_some,b1],b2,fun a m=>.inl (by have:=(b4 rfl).2 a m;rw[List.length_append]at this;omega),fun _=>(b4 rfl).1⟩
noncomputable def Zcv: T→Option Bool
 | .bool b=>some b
 | .none=>some false
 | .int i=>some (i != 0)
 | _=>none
theorem Ze7{H:Hp}{v:V}{t:T}{F:List Nat}{b:Bool}(r:RF H v t F)(h:Zcv t=some b): Zeb v H=some b:=by
 cases r <;> first | (cases h;rfl) | cases h
noncomputable def ZX(p:PE): PB:=fun σ=>(p σ).bind Zcv
noncomputable def ZbK(p:PB): PB:=fun σ=>(p σ).map fun b=>!b
noncomputable def Zbz: PB:=fun _=>some true
noncomputable def Zcw: PB:=fun _=>some false
noncomputable def Zb2(p q:PB): PB:=fun σ=>(p σ).bind fun b=>if b then q σ else some false
noncomputable def bOr(p q:PB): PB:=fun σ=>(p σ).bind fun b=>if b then some true else q σ
theorem Bt.val{e:Ex}{p:PE}(x:E O N u e p): Bt O (ZZ e) (ZX p):=fun c ρ σ H Φ b s h=>by
 obtain⟨t,h1,h⟩:=Zz0.mp h
 obtain⟨v,X,F,a1,a2,a3,a4⟩:=x c ρ σ H Φ t s h1
 exact⟨X,by simp only[ZZ,a1,Option.bind_some,Ze7 a2 h,Option.map_some]⟩
theorem Zcx{e:Ts}{p:PB}(x:Bt O e p): Bt O (ZbI e) (ZbK p):=fun c ρ σ H Φ b s h=>by
 obtain⟨t,h1,h⟩:=Zz1.mp h
 subst h
 obtain⟨X,a1⟩:=x c ρ σ H Φ t s h1
 exact⟨X,by simp only[ZbI,a1,Option.map_some]⟩
theorem ZcT: Bt O ZaR Zbz:=fun c ρ σ H Φ b s h=>by
 cases h;exact⟨[],by simp[ZaR]⟩
theorem Zdh: Bt O Zce Zcw:=fun c ρ σ H Φ b s h=>by
 cases h;exact⟨[],by simp[Zce]⟩
theorem Zdp{e f:Ts}{p q:PB}(x:Bt O e p)(y:Bt O f q): Bt O (ZbZ e f) (Zb2 p q):=fun c ρ σ H Φ b s h=>by
 obtain⟨t,h1,h⟩:=Zz0.mp h
 obtain⟨X,a1⟩:=x c ρ σ H Φ t s h1
 cases t with
 | true=>
  obtain⟨Y,b1⟩:=y c ρ σ (H++X) Φ b (s.ext X) (by simpa using h)
  exact⟨X++Y,by simp[ZbZ,a1,b1]⟩
 | false=>cases h;exact⟨X,by simp[ZbZ,a1]⟩
theorem Zbd{e f:Ts}{p q:PB}(x:Bt O e p)(y:Bt O f q): Bt O (tOr e f) (bOr p q):=fun c ρ σ H Φ b s h=>by
 obtain⟨t,h1,h⟩:=Zz0.mp h
 obtain⟨X,a1⟩:=x c ρ σ H Φ t s h1
 cases t with
 | false=>
  obtain⟨Y,b1⟩:=y c ρ σ (H++X) Φ b (s.ext X) (by simpa using h)
  exact⟨X++Y,by simp[tOr,a1,b1]⟩
 | true=>cases h;exact⟨X,by simp[tOr,a1]⟩
noncomputable def ZfO(p:PE): PE:=fun σ=>(p σ).bind fun t=>(Zcv t).map fun b=>.bool !b
noncomputable def ZdE(p q:PE): PE:=fun σ=>(p σ).bind fun t=>(Zcv t).bind fun b=>if b then q σ else some t
theorem Zm0{e:Ex}{p:PE}(x:E O N u e p): E O [] true (ZfM e) (ZfO p):=fun c ρ σ H Φ t s h=>by
 obtain⟨t1,h1,h⟩:=Zz0.mp h
 obtain⟨b,h2,h⟩:=Zz1.mp h
 subst h
 obtain⟨v,X,F,a1,a2,a3,a4⟩:=x c ρ σ H Φ t1 s h1
 exact⟨.bool !b,X,[],by simp only[ZfM,a1,Option.bind_some,Ze7 a2 h2,Option.map_some],.bool _,by simp,by simp⟩
theorem Zjm{M:List Nat}{e f:Ex}{p q:PE}(x:E O N u e p)(y:E O M u f q): E O (N++M) u (ZdA e f) (ZdE p q):=fun c ρ σ H Φ t s h=>by
 obtain⟨t1,h1,h⟩:=Zz0.mp h
 obtain⟨b,h2,h⟩:=Zz0.mp h
 obtain⟨v,X,F,a1,a2,a3,a4⟩:=x c ρ σ H Φ t1 s h1
 cases b with
 | true=>
  obtain⟨w,Y,F',b1,b2,b3,b4⟩:=y c ρ σ (H++X) Φ t (s.ext X) (by simpa using h)
  exact⟨w,X++Y,F',by simp[ZdA,a1,Ze7 a2 h2,b1],by rw[←List.append_assoc];exact b2,fun a m=>(b3 a m).back.mono fun i hi=>List.mem_append_right _ hi,b4⟩
 | false=>
  cases h
  exact⟨v,X,F,by simp[ZdA,a1,Ze7 a2 h2],a2,fun a m=>(a3 a m).mono fun i hi=>List.mem_append_left _ hi,a4⟩
noncomputable def Zhb: T→String
 | .none=>"NoneType"
 | .bool _=>"bool"
 | .int _=>"int"
 | .str _=>"str"
 | .tup _=>"tuple"
 | .lst _=>"list"
 | .ob _ _=>"object"
end
end TM
end
section
namespace TM
open PySem PM
section
variable {O N:List Nat} {u:Bool}
noncomputable def Zff(K:String)(t:T): Bool:=Zhb t == K || (K == "int" && Zhb t == "bool")
noncomputable def isObT: T→Bool
 | .ob _ _=>true
 | _=>false
theorem ZkJ{H:Hp}{v:V}{t:T}{F:List Nat}(r:RF H v t F): ZfB v=isObT t:=by cases r <;> rfl
noncomputable def pIs(K:String)(p:PE): PE:=fun σ=>(p σ).bind fun t=>if isObT t then none else some (.bool (Zff K t))
theorem Zlj{H:Hp}{v:V}{t:T}{F:List Nat}(r:RF H v t F): Zha v=Zhb t:=by cases r <;> rfl
theorem Zb3{K:String}{e:Ex}{p:PE}(x:E O N u e p): E O [] true (eIs K e) (pIs K p):=fun c ρ σ H Φ t s h=>by
 obtain⟨t1,h1,h⟩:=Zz0.mp h
 by_cases ob:isObT t1=true
 ·rw[if_pos ob]at h;cases h
 rw[if_neg ob]at h
 cases h
 obtain⟨v,X,F,a1,a2,a3,a4⟩:=x c ρ σ H Φ t1 s h1
 refine⟨.bool (Zff K t1),X,[],?_,.bool _,by simp,by simp⟩
 simp only[eIs,a1,Option.bind_some,Zho,Zff,Zlj a2,ZkJ a2]
 rw[if_neg ob]
noncomputable def ZbD: T→T→Option T
 | .int a,.int b=>some (.int (a-b))
 | _,_=>none
noncomputable def ZdF: T→T→Option T
 | .int a,.int b=>if b≠0∧Builtin.divisionGoesByPylong a b=false then some (.int (a.fdiv b))else none
 | _,_=>none
noncomputable def ZdG: T→T→Option T
 | .int a,.int b=>if b≠0 then some (.int (a.fmod b))else none
 | _,_=>none
noncomputable def Zbk: T→T→Option T
 | .int a,.int b=>if 0≤b∧(Builtin.Int.intBits a:Int)*b≤2 ^ 27 then some (.int (a ^ b.toNat))else none
 | _,_=>none
noncomputable def Zew: T→Option T
 | .int a=>some (.int (-a))
 | _=>none
noncomputable def ZhB(p:Int→Int→Bool): T→T→Option T
 | .int a,.int b=>some (.bool (p a b))
 | _,_=>none
noncomputable def qLt:=ZhB fun a b=>decide (a<b)
noncomputable def qGt:=ZhB fun a b=>decide (b<a)
theorem ZbV: OA2 ZaP ZbD:=fun H v1 v2 t1 t2 t F1 F2 r1 r2 h=>by
 cases r1 <;> first | (cases h;done) | (cases r2 <;> first | (cases h;done) | (cases h;exact⟨_,rfl,.int _⟩))
theorem Zm1: OA2 oDiv ZdF:=fun H v1 v2 t1 t2 t F1 F2 r1 r2 h=>by
 cases r1 <;> first | (cases h;done) | skip
 cases r2 <;> first | (cases h;done) | skip
 simp only[ZdF]at h
 split at h
 ·rename_i hc;cases h;exact⟨_,by simp only[oDiv];rw[if_pos hc],.int _⟩
 ·cases h
theorem Zjn: OA2 oMod ZdG:=fun H v1 v2 t1 t2 t F1 F2 r1 r2 h=>by
 cases r1 <;> first | (cases h;done) | skip
 cases r2 <;> first | (cases h;done) | skip
 simp only[ZdG]at h
 split at h
 ·rename_i hc;cases h;exact⟨_,by simp only[oMod];rw[if_pos hc],.int _⟩
 ·cases h
theorem Zcz: OA2 oPow Zbk:=fun H v1 v2 t1 t2 t F1 F2 r1 r2 h=>by
 cases r1 <;> first | (cases h;done) | skip
 cases r2 <;> first | (cases h;done) | skip
 simp only[Zbk]at h
 split at h
 ·rename_i hc;cases h;exact⟨_,by simp only[oPow];rw[if_pos hc],.int _⟩
 ·cases h
theorem Zhx: OA1 ZdB Zew:=fun H v1 t1 t F1 r1 h=>by
 cases r1 <;> first | (cases h;done) | (cases h;exact⟨_,rfl,.int _⟩)
theorem Zjo(p:Int→Int→Bool): OA2 (ZhA p) (ZhB p):=fun H v1 v2 t1 t2 t F1 F2 r1 r2 h=>by
 cases r1 <;> first | (cases h;done) | (cases r2 <;> first | (cases h;done) | (cases h;exact⟨_,rfl,.bool _⟩))
theorem Zex: OA2 oLt qLt:=Zjo _
theorem ZdH: OA2 oGt qGt:=Zjo _
noncomputable def Zc3(f:T→Option PyData): List T→Option (List PyData)
 | []=>some []
 | v::vs=>(f v).bind fun d=>(Zc3 f vs).bind fun ds=>some (d::ds)
noncomputable def Zbl: Nat→T→Option PyData
 | _,.none=>some .none
 | _,.bool b=>some (.bool b)
 | _,.int i=>some (.int i)
 | _,.str x=>some (.str x)
 | n+1,.tup vs=>(Zc3 (Zbl n) vs).map .tuple
 | n+1,.lst vs=>(Zc3 (Zbl n) vs).map .list
 | 0,.tup _=>none
 | 0,.lst _=>none
 | _,.ob _ _=>none
theorem Zhc{H:Hp}{f:V→Option PyData}{g:T→Option PyData}(h:∀v t F,RF H v t F→f v=g t): ∀{vs:List V} {ts:List T} {F:List Nat},RFs H vs ts F→ZdC f vs=Zc3 g ts
 | _,_,_,.nil=>rfl
 | _,_,_,.cons a b=>by simp only[ZdC,Zc3,h _ _ _ a,Zhc h b]
theorem Zi0{H:Hp}: ∀(n:Nat) (v:V) (t:T) (F:List Nat),RF H v t F→toD H n v=Zbl n t:=by
 intro n
 induction n with
 | zero=>intro v t F r;cases r <;> rfl
 | succ n ih=>
  intro v t F r
  cases r with
  | none=>rfl
  | bool=>rfl
  | int=>rfl
  | str=>rfl
  | tup hs=>simp only[toD,Zbl,Zhc ih hs]
  | ref e hs=>simp only[toD,Zbl,e,Option.bind_some,Zhc ih hs]
  | obj e hs=>rfl
noncomputable def Zb4(a b:T): Option Bool:=(Zbl ZbC a).bind fun d=>(Zbl ZbC b).bind fun e=>if SeqAt.shaped d=true∧SeqAt.shaped e=true then some (PyData.eqv d e)else none
noncomputable def qEq(a b:T): Option T:=(Zb4 a b).map .bool
noncomputable def qNe(a b:T): Option T:=(Zb4 a b).map fun c=>.bool !c
theorem Zi1{H:Hp}{v1 v2:V}{t1 t2:T}{F1 F2:List Nat}(r1:RF H v1 t1 F1)(r2:RF H v2 t2 F2): ZfN v1 v2 H=Zb4 t1 t2:=by
 simp only[ZfN,Zb4,Zi0 ZbC _ _ _ r1,Zi0 ZbC _ _ _ r2]
theorem ZaY: OA2 oEq qEq:=fun H v1 v2 t1 t2 t F1 F2 r1 r2 h=>by
 obtain⟨c,h1,h⟩:=Zz1.mp h
 subst h
 exact⟨_,by simp only[oEq,Zi1 r1 r2,h1,Option.map_some],.bool _⟩
theorem ZhC: OA2 oNe qNe:=fun H v1 v2 t1 t2 t F1 F2 r1 r2 h=>by
 obtain⟨c,h1,h⟩:=Zz1.mp h
 subst h
 exact⟨_,by simp only[oNe,Zi1 r1 r2,h1,Option.map_some],.bool _⟩
noncomputable def Zy: T→T→Option T
 | .lst ts,.int k=>(seqIndex? k ts.length).bind fun j=>ts[j]?
 | .tup ts,.int k=>(seqIndex? k ts.length).bind fun j=>ts[j]?
 | _,_=>none
theorem ZE: OI2 Zu Zy:=fun H v1 v2 t1 t2 t F1 F2 r1 r2 h=>by
 cases r1 with
 | none=>cases h
 | bool=>cases h
 | int=>cases h
 | str=>cases h
 | obj=>cases h
 | tup hs=>
  cases r2 <;> first | (cases h;done) | skip
  obtain⟨j,h1,h2⟩:=Zz0.mp h
  obtain⟨v,G,e1,e2,e3⟩:=hs.at h2
  exact⟨v,G,by simp only[Zu,hs.length,h1,Option.bind_some,e1,Option.map_some],e2,e3⟩
 | ref e hs=>
  cases r2 <;> first | (cases h;done) | skip
  obtain⟨j,h1,h2⟩:=Zz0.mp h
  obtain⟨v,G,e1,e2,e3⟩:=hs.at h2
  exact⟨v,G,by simp only[Zu,e,Option.bind_some,hs.length,h1,e1,Option.map_some],e2,e3.trans (List.sublist_cons_self _ _)⟩
noncomputable def Zbm: List T→Option T
 | [.lst ts]=>some (.int ts.length)
 | [.tup ts]=>some (.int ts.length)
 | _=>none
theorem RFs.one_inv{H:Hp}{vs:List V}{t:T}{F:List Nat}(r:RFs H vs [t] F): ∃v,vs=[v]∧RF H v t F:=by
 cases r with
 | cons a b=>cases b;rw[List.append_nil];exact⟨_,rfl,a⟩
theorem RFs.two_inv{H:Hp}{vs:List V}{t t':T}{F:List Nat}(r:RFs H vs [t,t'] F): ∃v v' F1 F2,vs=[v,v']∧RF H v t F1∧RF H v' t' F2∧F=F1++F2:=by
 cases r with
 | cons a b=>obtain⟨v',h1,h2⟩:=b.one_inv;subst h1;exact⟨_,_,_,_,rfl,a,h2,rfl⟩
theorem ZbW: OAn Zbg Zbm:=fun H vs ts t F r h=>by
 unfold Zbm at h
 split at h
 ·obtain⟨v,rfl,r'⟩:=r.one_inv
  cases r' with
  | ref e hs=>cases h;exact⟨_,by simp only[Zbg,e,Option.map_some,hs.length],.int _⟩
 ·obtain⟨v,rfl,r'⟩:=r.one_inv
  cases r' with
  | tup hs=>cases h;exact⟨_,by simp only[Zbg,hs.length],.int _⟩
 ·cases h
noncomputable def ZfC: List T→Option T
 | [.int a,.int b]=>some (.int (if b>a then b else a))
 | _=>none
noncomputable def ZfD: List T→Option T
 | [.int a,.int b]=>some (.int (if b<a then b else a))
 | _=>none
theorem Zmb: OAn Zem ZfC:=fun H vs ts t F r h=>by
 unfold ZfC at h
 split at h
 ·obtain⟨v,w,F1,F2,rfl,r1,r2,_⟩:=r.two_inv
  cases r1;cases r2;cases h;exact⟨_,rfl,.int _⟩
 ·cases h
theorem Zmc: OAn Zdq ZfD:=fun H vs ts t F r h=>by
 unfold ZfD at h
 split at h
 ·obtain⟨v,w,F1,F2,rfl,r1,r2,_⟩:=r.two_inv
  cases r1;cases r2;cases h;exact⟨_,rfl,.int _⟩
 ·cases h
noncomputable def Zjp: List T→Option (List Int)
 | []=>some []
 | .int k::vs=>(Zjp vs).map fun ks=>k::ks
 | _::_=>none
noncomputable def Znn: List T→Option T
 | [.lst ts]=>(Zjp ts).map fun ks=>.int ks.sum
 | _=>none
theorem Zcn{H:Hp}{vs:List V}{ts:List T}{F:List Nat}(r:RFs H vs ts F): RF (H++[vs]) (.ref H.length) (.lst ts) (H.length::F):=.ref (by simp) (r.ext _)
theorem Zdf{H:Hp}{vs:List V}{ts:List T}{F:List Nat}(r:RFs H vs ts F)(h:T.flatIn (.lst ts)=true): (H.length::F).Nodup∧∀a∈H.length::F,H.length≤a:=by
 rw[r.flats (by simpa [T.flatIn]using h)]
 simp
theorem Zg1{H:Hp}{v:V}{t:T}{F:List Nat}(r:RF H v t F)(h:F=[]): F.Nodup∧∀a∈F,H.length≤a:=by subst h;simp
noncomputable def Zey(ts:List T): Nat→List T
 | 0=>[]
 | n+1=>Zey ts n++ts
noncomputable def Zad: T→T→Option T
 | .int a,.int b=>some (.int (a+b))
 | .lst a,.lst b=>if(a++b).length≤ZN then some (.lst (a++b))else none
 | .tup a,.tup b=>if(a++b).length≤ZN then some (.tup (a++b))else none
 | _,_=>none
noncomputable def Zbq: T→T→Option T
 | .int a,.int b=>if Zci a b=true then some (.int (a*b))else none
 | .lst a,.int k=>if a.length*k.toNat≤ZN∧-(2 ^ 63:Int)≤k∧k<2 ^ 63 then some (.lst (Zey a k.toNat))else none
 | _,_=>none
theorem Zi2{H:Hp}{vs:List V}{ts:List T}{F:List Nat}(r:RFs H vs ts F): ∀n,∃G,RFs H (Zc6 vs n) (Zey ts n) G∧∀a∈G,a∈F
 | 0=>⟨_,.nil,by simp⟩
 | n+1=>by
  obtain⟨G,h1,h2⟩:=Zi2 r n
  exact⟨_,h1.append r,fun a m=>(Zz8.mp m).elim (h2 a) id⟩
theorem ZaF: OC2 ZL Zad:=fun H v1 v2 t1 t2 t F1 F2 r1 r2 h=>by
 cases r1 with
 | none=>cases h
 | bool=>cases h
 | str=>cases h
 | obj=>cases h
 | int a=>
  cases r2 <;> first | (cases h;done) | skip
  cases h;exact⟨_,[],[],by simp[ZL],.int _,by simp,by simp⟩
 | tup hs1=>
  cases r2 with
  | none=>cases h
  | bool=>cases h
  | str=>cases h
  | obj=>cases h
  | int=>cases h
  | ref=>cases h
  | tup hs2=>
   simp only[Zad]at h
   split at h
   ·rename_i hl
    cases h
    refine⟨_,[],_,?_,.tup (by simpa using hs1.append hs2),fun a m=>.inr (Zz8.mp m),fun hf=>Zg1 (H:=H) (.tup (hs1.append hs2)) ((RF.tup (hs1.append hs2)).flat (by simpa [T.flatIn]using hf))⟩
    simp only[ZL,List.append_nil]
    rw[if_pos (by rw[List.length_append]at hl ⊢;rw[hs1.length,hs2.length];exact hl)]
   ·cases h
 | ref e1 hs1=>
  cases r2 with
  | none=>cases h
  | bool=>cases h
  | str=>cases h
  | obj=>cases h
  | int=>cases h
  | tup=>cases h
  | ref e2 hs2=>
   simp only[Zad]at h
   split at h
   ·rename_i hl
    cases h
    refine⟨_,_,_,?_,Zcn (hs1.append hs2),fun a m=>?_,Zdf (hs1.append hs2)⟩
    ·simp only[ZL,e1,e2,Option.bind_some]
     rw[if_pos (by rw[List.length_append]at hl ⊢;rw[hs1.length,hs2.length];exact hl)]
    ·rcases Zz7.mp m with rfl | m
     ·exact .inl (Zz10 _)
     ·rcases Zz8.mp m with m | m
      ·exact .inr (.inl (Zz2 _ m))
      ·exact .inr (.inr (Zz2 _ m))
   ·cases h
theorem Zen: OC2 Zbh Zbq:=fun H v1 v2 t1 t2 t F1 F2 r1 r2 h=>by
 cases r1 with
 | none=>cases h
 | bool=>cases h
 | str=>cases h
 | obj=>cases h
 | tup=>cases h
 | int a=>
  cases r2 <;> first | (cases h;done) | skip
  simp only[Zbq]at h
  split at h
  ·rename_i hm
   cases h;exact⟨_,[],[],by simp only[Zbh];rw[if_pos hm];simp,.int _,by simp,by simp⟩
  ·cases h
 | ref e1 hs1=>
  cases r2 with
  | none=>cases h
  | bool=>cases h
  | str=>cases h
  | obj=>cases h
  | tup=>cases h
  | ref=>cases h
  | int k=>
   simp only[Zbq]at h
   split at h
   ·rename_i hl
    cases h
    obtain⟨G,h1,h2⟩:=Zi2 hs1 k.toNat
    refine⟨_,_,_,?_,Zcn h1,fun a m=>?_,Zdf h1⟩
    ·simp only[Zbh,e1,Option.bind_some]
     rw[if_pos (by rw[hs1.length];exact hl)]
    ·rcases Zz7.mp m with rfl | m
     ·exact .inl (Zz10 _)
     ·exact .inr (.inl (Zz2 _ (h2 a m)))
   ·cases h
noncomputable def ZcW: List T→Option T
 | [.lst ts]=>some (.lst ts)
 | [.tup ts]=>some (.lst ts)
 | _=>none
noncomputable def ZcU: List T→Option T
 | [.lst ts]=>some (.tup ts)
 | [.tup ts]=>some (.tup ts)
 | _=>none
theorem Zlk: OCn Zdn ZcW:=fun H vs ts t F hp r h=>by
 unfold ZcW at h
 split at h
 ·obtain⟨v,rfl,r'⟩:=r.one_inv
  cases r' with
  | ref e hs=>cases h;exact⟨_,_,_,by simp only[Zdn,e,Option.map_some],Zcn hs,fun a m=>(Zz7.mp m).imp (fun q=>Nat.le_of_eq q.symm) (Zz2 _),Zdf hs⟩
 ·obtain⟨v,rfl,r'⟩:=r.one_inv
  cases r' with
  | tup hs=>cases h;exact⟨_,_,_,by simp only[Zdn],Zcn hs,fun a m=>(Zz7.mp m).imp (fun q=>Nat.le_of_eq q.symm) id,Zdf hs⟩
 ·cases h
theorem ZkK: OCn ZbP ZcU:=fun H vs ts t F hp r h=>by
 unfold ZcU at h
 split at h
 ·obtain⟨v,rfl,r'⟩:=r.one_inv
  cases r' with
  | @ref a vs1 _ _ e hs=>cases h;exact⟨.tup vs1,[],_,by simp only[ZbP,e,Option.map_some,List.append_nil],.tup (by simpa using hs),fun a m=>.inr (Zz2 _ m),fun hf=>Zg1 (H:=H) (.tup hs) ((RF.tup hs).flat (by simpa [T.flatIn]using hf))⟩
 ·obtain⟨v,rfl,r'⟩:=r.one_inv
  cases r' with
  | @tup vs1 _ _ hs=>cases h;exact⟨.tup vs1,[],_,by simp only[ZbP,List.append_nil],.tup (by simpa using hs),fun a m=>.inr m,fun hf=>Zg1 (H:=H) (.tup hs) ((RF.tup hs).flat (by simpa [T.flatIn]using hf))⟩
 ·cases h
end
end TM
end
section
namespace TM
open PySem PM
theorem St.from_src{c:Ctx}{O N:List Nat}{ρ:Lc}{σ:TL}{H:Hp}{Φ:Nat→List Nat}(s:St c O ρ σ H Φ){a:Nat}(f:From H N σ Φ a): c.H0.length≤a∨c.P a:=by
 rcases f with h | ⟨i,hi,⟨t,e⟩,m⟩
 ·exact .inl (Nat.le_trans s.len h)
 ·exact s.src i t e a m
theorem St.from_off{c:Ctx}{O N:List Nat}{ρ:Lc}{σ:TL}{H:Hp}{Φ:Nat→List Nat}(s:St c O ρ σ H Φ)(hN:∀i∈N,i∉O){a:Nat}(f:From H N σ Φ a){i:Nat}(hi:i∈O){t:T}(e:σ i=some t): a∉Φ i:=by
 intro m
 obtain⟨v,_,r⟩:=s.slot i t e
 have hl:=r.lt a m
 rcases f with h | ⟨j,hj,⟨t',e'⟩,m'⟩
 ·omega
 ·exact(s.own i hi t e).2.2 j t' (fun q=>hN j hj (q▸hi)) e' a m m'
noncomputable abbrev PPt:=TL→Option (Option Int)
noncomputable def Zfq: PPt:=fun _=>some none
noncomputable def Zfr(p:PE): PPt:=fun σ=>(p σ).bind fun t=>match t with
 | .int k=>some (some k)
 | _=>none
def Pe(O:List Nat)(f:Pt)(p:PPt): Prop:=∀(c:Ctx) (ρ:Lc) (σ:TL) (H:Hp) (Φ:Nat→List Nat) (k:Option Int),St c O ρ σ H Φ→p σ=some k→∃o X,f ρ H=some (o,H++X)∧Zel o=some k
section
variable {O N:List Nat} {u:Bool}
theorem Pe.none: Pe O PM.Zc1 Zfq:=fun c ρ σ H Φ k s h=>by
 cases h;exact⟨Option.none,[],by simp[PM.Zc1],rfl⟩
theorem Pe.some{e:Ex}{p:PE}(x:E O N u e p): Pe O (Zc2 e) (Zfr p):=fun c ρ σ H Φ k s h=>by
 obtain⟨t,h1,h⟩:=Zz0.mp h
 obtain⟨v,X,F,a1,a2,a3,a4⟩:=x c ρ σ H Φ t s h1
 cases a2 <;> first | (cases h;done) | skip
 rename_i k'
 cases h
 exact⟨Option.some (.int k'),X,by simp only[Zc2,a1,Option.map_some],rfl⟩
noncomputable def Zee(p:PE)(lo hi:PPt): PE:=fun σ=>(p σ).bind fun t=>(lo σ).bind fun a=>(hi σ).bind fun b=>match t with
 | .lst ts=>Option.some (.lst (ZaJ ts a b))
 | _=>Option.none
theorem RFs.pick{H:Hp}{vs:List V}{ts:List T}{F:List Nat}(h:RFs H vs ts F)(l:List Nat): ∃G,RFs H (l.filterMap fun i=>vs[i]?) (l.filterMap fun i=>ts[i]?) G∧∀a∈G,a∈F:=by
 induction l with
 | nil=>exact⟨_,.nil,by simp⟩
 | cons i l ih=>
  obtain⟨G,h1,h2⟩:=ih
  simp only[List.filterMap_cons]
  have hl:=h.length
  cases e:ts[i]? with
  | none=>
   have:vs[i]?=none:=by rw[List.getElem?_eq_none_iff]at e ⊢;omega
   rw[this]
   exact⟨G,h1,h2⟩
  | some t=>
   obtain⟨x,G',hx,hr,hs⟩:=h.at e
   rw[hx]
   exact⟨_,.cons hr h1,fun a m=>(Zz8.mp m).elim (fun q=>hs.subset q) (h2 a)⟩
theorem Zj2{c:Ctx}{ρ:Lc}{σ:TL}{H:Hp}{Φ:Nat→List Nat}{t:T}{e:Ex}{p:PE}{lo hi:Pt}{plo phi:PPt}(x:E O N u e p)(y:Pe O lo plo)(z:Pe O hi phi)(s:St c O ρ σ H Φ)(h:Zee p plo phi σ=Option.some t):
  ∃v X F,Zcf e lo hi ρ H=Option.some (v,H++X)∧RF (H++X) v t F∧(∀a∈F,From H N σ Φ a)∧(t.flatIn=true→F.Nodup∧∀a∈F,H.length≤a):=by
 obtain⟨t1,h1,h⟩:=Zz0.mp h
 obtain⟨a,h2,h⟩:=Zz0.mp h
 obtain⟨b,h3,h⟩:=Zz0.mp h
 obtain⟨v,X,F,a1,a2,a3,a4⟩:=x c ρ σ H Φ t1 s h1
 obtain⟨o1,Y,b1,b2⟩:=y c ρ σ (H++X) Φ a (s.ext X) h2
 obtain⟨o2,Z,c1,c2⟩:=z c ρ σ (H++X++Y) Φ b ((s.ext X).ext Y) h3
 cases a2 with
 | none=>cases h
 | bool=>cases h
 | int=>cases h
 | str=>cases h
 | obj=>cases h
 | tup=>cases h
 | @ref i vs ts F e1 hs=>
 cases h
 have e3:((H++X)++(Y++Z))[i]?=Option.some vs:=by rw[List.getElem?_append_left (Zz6.mp e1).1];exact e1
 have hs':=hs.ext (Y++Z)
 have hlen:=hs.length
 obtain⟨G,g1,g2⟩:=hs'.pick (sliceRange (sliceBounds a b none vs.length).1 (sliceBounds a b none vs.length).2.1 (sliceBounds a b none vs.length).2.2)
 have g1':RFs (H++X++(Y++Z)) (ZaJ vs a b) (ZaJ ts a b) G:=by unfold ZaJ;rw[←hlen];exact g1
 refine⟨.ref (H++X++(Y++Z)).length,X++(Y++Z)++[ZaJ vs a b],(H++X++(Y++Z)).length::G,?_,?_,fun q m=>?_,fun hf=>?_⟩
 ·simp only[Zcf,a1,Option.bind_some,b1,c1,b2,c2]
  rw[List.append_assoc (H++X),e3]
  simp
 ·have:=Zcn g1'
  simpa using this
 ·rcases Zz7.mp m with rfl | m
  ·exact .inl (by simp)
  ·exact a3 q (Zz2 _ (g2 q m))
 ·have:=Zdf g1' hf
  exact⟨this.1,fun q m=>by have:=this.2 q m;simp at this;omega⟩
theorem ZkL{e:Ex}{p:PE}{lo hi:Pt}{plo phi:PPt}(x:E O N u e p)(y:Pe O lo plo)(z:Pe O hi phi): E O [] true (Zcf e lo hi) (pFl (Zee p plo phi)):=fun c ρ σ H Φ t s h=>by
 obtain⟨t',h,hf⟩:=Zz0.mp h
 by_cases fl:t'.flatIn=true
 ·rw[if_pos fl]at hf
  cases hf
  obtain⟨v,X,F,a1,a2,a3,a4⟩:=Zj2 x y z s h
  exact⟨v,X,F,a1,a2,fun a m=>.inl ((a4 fl).2 a m),fun _=>(a4 fl).1⟩
 ·rw[if_neg fl]at hf;cases hf
noncomputable def Zds(p:PE)(k:Nat): PE:=fun σ=>(p σ).bind fun t=>match t with
 | .lst ts=>Option.some (.lst (ts.drop k))
 | .tup ts=>if 1≤k∧k≤ts.length then Option.some (.tup (ts.drop k))else Option.none
 | _=>Option.none
theorem Zkp{c:Ctx}{ρ:Lc}{σ:TL}{H:Hp}{Φ:Nat→List Nat}{t:T}{e:Ex}{p:PE}{k:Nat}(x:E O N u e p)(s:St c O ρ σ H Φ)(h:Zds p k σ=Option.some t):
  ∃v X F,Zdr e k ρ H=Option.some (v,H++X)∧RF (H++X) v t F∧(∀a∈F,From H N σ Φ a)∧(t.flatIn=true→F.Nodup∧∀a∈F,H.length≤a):=by
 obtain⟨t1,h1,h⟩:=Zz0.mp h
 obtain⟨v,X,F,a1,a2,a3,a4⟩:=x c ρ σ H Φ t1 s h1
 cases a2 with
 | none=>cases h
 | bool=>cases h
 | int=>cases h
 | str=>cases h
 | obj=>cases h
 | tup hs=>
  simp only at h
  split at h
  ·rename_i hc
   cases h
   obtain⟨G,g1,g2⟩:=hs.drop k
   refine⟨_,X,G,?_,.tup g1,fun a m=>a3 a (g2.subset m),fun hf=>?_⟩
   ·simp only[Zdr,a1,Option.bind_some]
    rw[if_pos (by rw[hs.length];exact hc)]
   ·rw[g1.flats (by simpa [T.flatIn,T.flat]using hf)]
    simp
  ·cases h
 | @ref b vs1 ts1 F1 e1 hs=>
  cases h
  obtain⟨G,g1,g2⟩:=hs.drop k
  refine⟨.ref (H++X).length,X++[vs1.drop k],(H++X).length::G,?_,?_,fun a m=>?_,fun hf=>?_⟩
  ·simp only[Zdr,a1,Option.bind_some,e1,List.append_assoc]
  ·rw[←List.append_assoc];exact Zcn g1
  ·rcases Zz7.mp m with rfl | m
   ·exact .inl (by simp)
   ·exact a3 a (Zz2 _ (g2.subset m))
  ·have:=Zdf g1 hf
   exact⟨this.1,fun q m=>by have:=this.2 q m;simp at this;omega⟩
theorem Zmd{e:Ex}{p:PE}{k:Nat}(x:E O N u e p): E O N false (Zdr e k) (Zds p k):=fun c ρ σ H Φ t s h=>by
 obtain⟨v,X,F,a1,a2,a3,a4⟩:=Zkp x s h
 exact⟨v,X,F,a1,a2,a3,by simp⟩
end
def Gs(O N:List Nat)(g:Src)(q:PG): Prop:=∀(c:Ctx) (ρ:Lc) (σ:TL) (H:Hp) (Φ:Nat→List Nat) (ts:List T),St c O ρ σ H Φ→q σ=some ts →
 ∃(nx:Nx) (X:Hp) (vs:List V) (F G:List Nat),g ρ H=some (nx,ts.length+1,H++X)∧RFs (H++X) vs ts F∧(∀a∈F,a∈G)∧(∀a∈G,a<(H++X).length∧From H N σ Φ a)∧∀K:Hp,(∀a∈G,K[a]?=(H++X)[a]?)→∀i,i≤vs.length→nx i K=some vs[i]?
section
variable {O N M:List Nat} {u u':Bool}
noncomputable def ZaT(p:PE): PG:=fun σ=>(p σ).bind fun t=>match t with
 | .lst ts=>some ts
 | .tup ts=>some ts
 | _=>none
theorem Gs.seq{e:Ex}{p:PE}(x:E O N u e p): Gs O N (Za4 e) (ZaT p):=fun c ρ σ H Φ ts s h=>by
 obtain⟨t1,h1,h⟩:=Zz0.mp h
 obtain⟨v,X,F,a1,a2,a3,a4⟩:=x c ρ σ H Φ t1 s h1
 have hlt:=a2.lt
 cases a2 with
 | none=>cases h
 | bool=>cases h
 | int=>cases h
 | str=>cases h
 | obj=>cases h
 | @tup vs _ _ hs=>
  cases h
  exact⟨ZiZ vs,X,vs,F,F,by simp only[Za4,a1,Option.bind_some,hs.length],hs,fun _ m=>m,fun a m=>⟨hlt a m,a3 a m⟩,fun K _ i hi=>rfl⟩
 | @ref b vs _ F' e1 hs=>
  cases h
  refine⟨Zbw b,X,vs,F',b::F',by simp only[Za4,a1,Option.bind_some,e1,Option.map_some,hs.length],hs,fun _ m=>List.mem_cons_of_mem _ m,fun a m=>⟨hlt a m,a3 a m⟩,fun K hK i hi=>?_⟩
  simp only[Zbw,hK b Zz5,e1,Option.map_some]
noncomputable def ZbL(a b c:Int): Option (List T):=if c≠0∧Builtin.Range.small a b c=true∧0≤Builtin.Range.rangeSize a b c∧rngN a b c≤ZN∧Builtin.divisionGoesByPylong (b-a) c=false then some ((List.range (rngN a b c)).map fun(i:Nat)=>.int (a+(i:Int)*c))else none
noncomputable def ZbG(p:Z6): PG:=fun σ=>(p σ).bind fun ts=>match ts with
 | [.int b]=>ZbL 0 b 1
 | [.int a,.int b]=>ZbL a b 1
 | [.int a,.int b,.int c]=>ZbL a b c
 | _=>none
theorem Zii(H:Hp)(a c:Int): ∀(l:List Nat),RFs H (l.map fun(i:Nat)=>.int (a+(i:Int)*c)) (l.map fun(i:Nat)=>.int (a+(i:Int)*c)) []
 | []=>.nil
 | i::l=>by have:=RFs.cons (RF.int (H:=H) (a+i*c)) (Zii H a c l);exact this
theorem Zg2{a b c:Int}{H:Hp}{ts:List T}(h:ZbL a b c=some ts): ∃(nx:Nx) (vs:List V),Zbc a b c H=some (nx,ts.length+1,H)∧RFs H vs ts []∧∀K:Hp,∀i,i≤vs.length→nx i K=some vs[i]?:=by
 unfold ZbL at h
 split at h
 ·rename_i hc
  cases h
  refine⟨Zdj a c (rngN a b c),(List.range (rngN a b c)).map fun(i:Nat)=>.int (a+(i:Int)*c),?_,Zii H a c _,fun K i hi=>?_⟩
  ·unfold Zbc
   rw[if_pos hc]
   simp
  ·simp only[Zdj,List.getElem?_map]
   by_cases q:i<rngN a b c
   ·rw[if_pos q,List.getElem?_range q];rfl
   ·rw[if_neg q,List.getElem?_eq_none (by simpa using Nat.le_of_not_lt q)];rfl
 ·cases h
theorem RFs.three_inv{H:Hp}{vs:List V}{t t' t'':T}{F:List Nat}(r:RFs H vs [t,t',t''] F): ∃v v' v'' F1 F2 F3,vs=[v,v',v'']∧RF H v t F1∧RF H v' t' F2∧RF H v'' t'' F3:=by
 cases r with
 | cons a b=>obtain⟨v',v'',F2,F3,h1,h2,h3,_⟩:=b.two_inv;subst h1;exact⟨_,_,_,_,_,_,rfl,a,h2,h3⟩
theorem Gs.range{n:Nat}{e:ZT}{p:Z6}(x:Es O N u n e p): Gs O [] (Zbj e) (ZbG p):=fun c ρ σ H Φ ts s h=>by
 obtain⟨t1,h1,h⟩:=Zz0.mp h
 obtain⟨_,vs,X,F,a1,a2,a3,a4⟩:=x c ρ σ H Φ t1 s h1
 split at h
 ·obtain⟨v,rfl,r⟩:=a2.one_inv
  cases r
  obtain⟨nx,us,q1,q2,q3⟩:=Zg2 (H:=H++X) h
  exact⟨nx,X,us,[],[],by simp only[Zbj,a1,Option.bind_some,q1],q2,by simp,by simp,fun K _=>q3 K⟩
 ·obtain⟨v,v',F1,F2,rfl,r,r',_⟩:=a2.two_inv
  cases r;cases r'
  obtain⟨nx,us,q1,q2,q3⟩:=Zg2 (H:=H++X) h
  exact⟨nx,X,us,[],[],by simp only[Zbj,a1,Option.bind_some,q1],q2,by simp,by simp,fun K _=>q3 K⟩
 ·obtain⟨v,v',v'',F1,F2,F3,rfl,r,r',r''⟩:=a2.three_inv
  cases r;cases r';cases r''
  obtain⟨nx,us,q1,q2,q3⟩:=Zg2 (H:=H++X) h
  exact⟨nx,X,us,[],[],by simp only[Zbj,a1,Option.bind_some,q1],q2,by simp,by simp,fun K _=>q3 K⟩
 ·cases h
end
def PutOk(O J:List Nat)(put:V→Lc→Option Lc)(q:T→TL→Option TL): Prop:=∀(c:Ctx) (ρ:Lc) (σ:TL) (H:Hp) (Φ:Nat→List Nat) (v:V) (t:T) (F:List Nat) (σ1:TL),St c O ρ σ H Φ→RF H v t F→(∀a∈F,c.H0.length≤a∨c.P a)→(∀i∈O,∀t',σ i=some t'→∀a∈Φ i,a∉F)→q t σ=some σ1 →
 ∃ρ1 Φ1,put v ρ=some ρ1∧St c O ρ1 σ1 H Φ1∧(∀i,i∉J→σ1 i=σ i∧Φ1 i=Φ i)∧∀i∈J,∀a∈Φ1 i,a∈F
noncomputable def Zp(Φ:Nat→List Nat)(j:Nat)(F:List Nat): Nat→List Nat:=fun i=>if i=j then F else Φ i
theorem St.put{c:Ctx}{O:List Nat}{ρ:Lc}{σ:TL}{H:Hp}{Φ:Nat→List Nat}{v:V}{t:T}{F:List Nat}{j:Nat}(s:St c O ρ σ H Φ)(hj:j∉O)(r:RF H v t F)(hs:∀a∈F,c.H0.length≤a∨c.P a)(ho:∀i∈O,∀t',σ i=some t'→∀a∈Φ i,a∉F): St c O (upd ρ j v) (updT σ j t) H (Zp Φ j F):=by
 refine⟨fun i u e=>?_,fun i u e=>?_,fun i hi u e=>?_,s.len,s.keep,s.pos,s.f0⟩
 ·by_cases q:i=j
  ·subst q
   simp[updT]at e
   subst e
   exact⟨v,by simp[upd],by simpa [Zp]using r⟩
  ·simp[updT,q]at e
   simpa [upd,Zp,q]using s.slot i u e
 ·by_cases q:i=j
  ·subst q;simpa [Zp]using hs
  ·simp[updT,q]at e
   simpa [Zp,q]using s.src i u e
 ·have q:i≠j:=fun q=>hj (q▸hi)
  simp[updT,q]at e
  obtain⟨h1,h2,h3⟩:=s.own i hi u e
  refine⟨by simpa [Zp,q]using h1,by simpa [Zp,q]using h2,fun k w hk ek=>?_⟩
  by_cases q2:k=j
  ·subst q2
   simpa [Zp,q]using ho i hi u e
  ·simp[updT,q2]at ek
   simpa [Zp,q,q2]using h3 k w hk ek
noncomputable def Zav(j:Nat): T→TL→Option TL:=fun t σ=>some (updT σ j t)
noncomputable def Zeo(i j:Nat): T→TL→Option TL
 | .tup [a,b],σ=>some (updT (updT σ i a) j b)
 | _,_=>none
theorem PutOk.one{O:List Nat}{j:Nat}(hj:j∉O:=by decide): PutOk O [j] (put1 j) (Zav j):=fun c ρ σ H Φ v t F σ1 s r hs ho h=>by
 cases h
 refine⟨_,_,rfl,s.put hj r hs ho,fun i hi=>?_,fun i hi a m=>?_⟩
 ·have:i≠j:=fun q=>hi (by simp[q])
  simp[updT,Zp,this]
 ·simp at hi;subst hi;simpa [Zp]using m
theorem PutOk.two{O:List Nat}{i j:Nat}(hi:i∉O:=by decide)(hj:j∉O:=by decide)(hij:i≠j:=by decide): PutOk O [i,j] (Zb0 i j) (Zeo i j):=fun c ρ σ H Φ v t F σ1 s r hs ho h=>by
 unfold Zeo at h
 split at h
 ·cases h
  cases r with
  | tup hh=>
   obtain⟨v1,v2,F1,F2,rfl,r1,r2,rfl⟩:=hh.two_inv
   have s1:=s.put hi r1 (fun a m=>hs a (Zz4 _ m)) (fun k hk t' e a m q=>ho k hk t' e a m (Zz4 _ q))
   have s2:=s1.put hj r2 (fun a m=>hs a (Zz3 _ m)) (fun k hk t' e a m q=>by
    have:k≠i:=fun q=>hi (q▸hk)
    simp[updT,Zp,this]at e m
    exact ho k hk t' e a m (Zz3 _ q))
   refine⟨_,_,rfl,s2,fun k hk=>?_,fun k hk a m=>?_⟩
   ·simp at hk
    simp[updT,Zp,hk.1,hk.2]
   ·simp at hk
    rcases hk with rfl | rfl
    ·simp[Zp,hij]at m
     exact Zz4 _ m
    ·simp[Zp]at m
     exact Zz3 _ m
 ·cases h
noncomputable def ZbA(put:T→TL→Option TL)(c:PB)(f:PE)(σ:TL): List T→Option (List T)
 | []=>some []
 | t::ts=>(put t σ).bind fun σ1=>(c σ1).bind fun b=>if b then(f σ1).bind fun x=>(ZbA put c f σ ts).map fun xs=>x::xs else ZbA put c f σ ts
noncomputable def Zcj(g:PG)(put:T→TL→Option TL)(c:PB)(f:PE): PE:=fun σ=>(g σ).bind fun ts=>if ts.length≤ZN then(ZbA put c f σ ts).map .lst else none
section
variable {O Ns Ne J:List Nat} {u:Bool}
theorem comp_core{put:V→Lc→Option Lc}{pput:T→TL→Option TL}{tc:Ts}{pc:PB}{f:Ex}{pf:PE}(hj:PutOk O J put pput)(hN:∀i∈Ns,i∉O)(hc:Bt O tc pc)(hf:E O Ne u f pf)(hu:u=true→Ne=[])
  {c:Ctx} {ρ:Lc} {σ:TL} {Φ:Nat→List Nat} {H0 H1:Hp} {nx:Nx} {vs:List V} {G:List Nat} (h0:H0.length≤H1.length)
  (hG:∀a∈G,a<H1.length∧From H0 Ns σ Φ a) (hoff:∀a∈G,∀i∈O,∀t,σ i=some t→a∉Φ i) (hsrc:∀a∈G,c.H0.length≤a∨c.P a) (hnx:∀K:Hp,(∀a∈G,K[a]?=H1[a]?)→∀i,i≤vs.length→nx i K=some vs[i]?):
  ∀(rs:List T) (ws:List V) (i:Nat) (acc:List V) (K:Hp) (Fr:List Nat) (out:List T),(∀j,vs[i+j]?=ws[j]?)→i+ws.length=vs.length→St c O ρ σ K Φ→H1.length≤K.length→(∀a∈G,K[a]?=H1[a]?)→RFs K ws rs Fr→(∀a∈Fr,a∈G)→acc.length+rs.length≤ZN→ZbA pput pc pf σ rs=some out →
   ∃xs X F,ZaL nx put tc f ρ (rs.length+1) i acc K=some (acc++xs,K++X)∧RFs (K++X) xs out F∧(∀a∈F,(u=true→K.length≤a)∧From H0 (Ns++Ne) σ Φ a)∧(u=true→F.Nodup)
 | [],ws,i,acc,K,Fr,out,hat,hlen,s,hl,hk,r,hfr,hacc,h=>by
  cases r
  cases h
  have e:=hnx K hk i (by simp at hlen;omega)
  have e2:vs[i]?=none:=by have:=hat 0;simpa using this
  refine⟨[],[],[],?_,.nil,by simp,by simp⟩
  simp[ZaL,e,e2]
 | t::rs,ws0,i,acc,K,Fr0,out,hat,hlen,s,hl,hk,r,hfr,hacc,h=>by
  cases r with
  | @cons v _ F1 ws _ F2 a b=>
  simp only[List.length_cons]at hlen hacc
  obtain⟨σ1,h1,h⟩:=Zz0.mp h
  obtain⟨bb,h2,h⟩:=Zz0.mp h
  have e:=hnx K hk i (by omega)
  have e2:vs[i]?=some v:=by have:=hat 0;simpa using this
  have hat':∀j,vs[i+1+j]?=ws[j]?:=fun j=>by have:=hat (j+1);rw[show i+1+j=i+(j+1)by omega,this];simp
  obtain⟨ρ1,Φ1,p1,s1,p3,p4⟩:=hj c ρ σ K Φ v t F1 σ1 s a (fun x m=>hsrc x (hfr x (Zz4 _ m))) (fun k hk t' e x m q=>hoff x (hfr x (Zz4 _ q)) k hk t' e m) h1
  obtain⟨X1,c1⟩:=hc c ρ1 σ1 K Φ1 bb s1 h2
  cases bb with
  | true=>
   obtain⟨y,h3,h⟩:=Zz0.mp h
   obtain⟨ys,h4,h⟩:=Zz1.mp h
   subst h
   obtain⟨w,X2,Fw,d1,d2,d3,d4⟩:=hf c ρ1 σ1 (K++X1) Φ1 y (s1.ext X1) h3
   have hext:∀a∈G,(K++X1++X2)[a]?=H1[a]?:=fun a m=>by
    have:=(hG a m).1
    rw[List.append_assoc,List.getElem?_append_left (by omega)];exact hk a m
   obtain⟨xs,X3,F3,f1,f2,f3,f4⟩:=comp_core hj hN hc hf hu h0 hG hoff hsrc hnx rs ws (i+1) (acc++[w]) (K++X1++X2) F2 ys hat' (by omega) ((s.ext X1).ext X2) (by simp;omega) hext (by rw[List.append_assoc];exact b.ext _) (fun x m=>hfr x (Zz3 _ m)) (by simp;omega) h4
   refine⟨w::xs,X1++X2++X3,Fw++F3,?_,?_,fun x m=>?_,fun hu'=>?_⟩
   ·rw[List.length_cons,ZaL,e,e2]
    simp only[Option.bind_some,p1,c1,d1,if_true]
    rw[if_pos (by omega)]
    simpa using f1
   ·have:=RFs.cons (d2.ext X3) f2
    simpa using this
   ·rcases Zz8.mp m with m | m
    ·refine⟨fun hu'=>?_,?_⟩
     ·have hne:=hu hu'
      subst hne
      have:=(d3 x m).nil
      simp at this;omega
     ·rcases d3 x m with q | ⟨k,hk1,⟨tk,ek⟩,mk⟩
      ·exact .inl (by simp at q;omega)
      ·by_cases hkJ:k∈J
       ·exact(hG x (hfr x (Zz4 _ (p4 k hkJ x mk)))).2.mono fun i hi=>List.mem_append_left _ hi
       ·obtain⟨q1,q2⟩:=p3 k hkJ
        exact .inr ⟨k,List.mem_append_right _ hk1,⟨tk,q1▸ek⟩,q2▸mk⟩
    ·obtain⟨g1,g2⟩:=f3 x m
     exact⟨fun hu'=>by have:=g1 hu';simp at this;omega,g2⟩
   ·rw[List.nodup_append]
    refine⟨d4 hu',f4 hu',fun x hx y hy e=>?_⟩
    have l1:=d2.lt x hx
    have l2:=(f3 y hy).1 hu'
    omega
  | false=>
   have hext:∀a∈G,(K++X1)[a]?=H1[a]?:=fun a m=>by
    have:=(hG a m).1
    rw[List.getElem?_append_left (by omega)];exact hk a m
   obtain⟨xs,X3,F3,f1,f2,f3,f4⟩:=comp_core hj hN hc hf hu h0 hG hoff hsrc hnx rs ws (i+1) acc (K++X1) F2 out hat' (by omega) (s.ext X1) (by simp;omega) hext (b.ext _) (fun x m=>hfr x (Zz3 _ m)) (by omega) (by simpa using h)
   refine⟨xs,X1++X3,F3,?_,by simpa using f2,fun x m=>?_,f4⟩
   ·rw[List.length_cons,ZaL,e,e2]
    simp only[Option.bind_some,p1,c1]
    simpa using f1
   ·obtain⟨g1,g2⟩:=f3 x m
    exact⟨fun hu'=>by have:=g1 hu';simp at this;omega,g2⟩
theorem E.comp{g:Src}{q:PG}{put:V→Lc→Option Lc}{pput:T→TL→Option TL}{tc:Ts}{pc:PB}{f:Ex}{pf:PE}(hg:Gs O Ns g q)(hj:PutOk O J put pput)(hN:∀i∈Ns,i∉O)(hc:Bt O tc pc)(hf:E O Ne u f pf)(hu:u=true→Ne=[]): E O (if u then []else Ns++Ne) u (ZaX g put tc f) (Zcj q pput pc pf):=fun c ρ σ H Φ t s h=>by
 obtain⟨ts,h1,h⟩:=Zz0.mp h
 split at h
 ·rename_i hl
  obtain⟨out,h2,h⟩:=Zz1.mp h
  subst h
  obtain⟨nx,X,vs,F,G,g1,g2,g3,g4,g5⟩:=hg c ρ σ H Φ ts s h1
  obtain⟨xs,Y,F',d1,d2,d3,d4⟩:=comp_core hj hN hc hf hu (H0:=H) (H1:=H++X) (by simp) g4 (fun a m i hi t e=>s.from_off hN (g4 a m).2 hi e) (fun a m=>s.from_src (g4 a m).2) g5 ts vs 0 [] (H++X) F out (by simp) (by simp) (s.ext X) (Zz10 _) (fun _ _=>rfl) g2 g3 (by simpa using hl) h2
  refine⟨.ref (H++X++Y).length,X++Y++[xs],(H++X++Y).length::F',?_,?_,fun a m=>?_,fun hu'=>?_⟩
  ·simp only[ZaX,g1,Option.bind_some,d1,Option.map_some,List.nil_append,List.append_assoc]
  ·have:=Zcn d2
   simpa using this
  ·rcases Zz7.mp m with rfl | m
   ·exact .inl (by simp)
   ·obtain⟨q1,q2⟩:=d3 a m
    cases u with
    | true=>exact .inl (by have:=q1 rfl;simp at this;omega)
    | false=>exact q2
  ·rw[List.nodup_cons]
   exact⟨fun m=>Nat.lt_irrefl _ (d2.lt _ m),d4 hu'⟩
 ·cases h
end
end TM
end
section
namespace TM
open PySem PM
noncomputable abbrev PS:=TL→Option (Option T×TL)
noncomputable def Zaz(σ:TL)(N:List Nat): TL:=fun j=>if j∈N then none else σ j
def Held(O:List Nat)(σ:TL)(Φ:Nat→List Nat)(a:Nat): Prop:=∃j∈O,(∃t,σ j=some t)∧a∈Φ j
def Aft(c:Ctx)(O O' R:List Nat)(fr:Bool)(σ:TL)(H:Hp)(Φ:Nat→List Nat)(g:Option (Option V×Lc×Hp))(r:Option T×TL): Prop:=
 ∃ρ' H' Φ',H.length≤H'.length∧(∀a,a<H.length→¬Held O σ Φ a→H'[a]?=H[a]?) ∧
  ((r.1=none∧g=some (none,ρ',H')∧St c O' ρ' r.2 H' Φ'∧∀a,Held O' r.2 Φ' a→H.length≤a∨Held O σ Φ a) ∨
  ∃t v F,r.1=some t∧g=some (some v,ρ',H')∧RF H' v t F∧St c R ρ' r.2 H' Φ'∧(∀a∈F,c.H0.length≤a∨c.P a)∧(fr=true→F.Nodup∧∀a∈F,c.H0.length≤a∨a∈c.F0))
def S(O O' R:List Nat)(fr:Bool)(g:Sm)(q:PS): Prop:=∀(c:Ctx) (ρ:Lc) (σ:TL) (H:Hp) (Φ:Nat→List Nat) (r:Option T×TL),St c O ρ σ H Φ→q σ=some r→Aft c O O' R fr σ H Φ (g ρ H) r
theorem Held.mono{O O':List Nat}{σ:TL}{Φ:Nat→List Nat}{a:Nat}(h:Held O σ Φ a)(s:∀i∈O,i∈O'): Held O' σ Φ a:=by
 obtain⟨j,hj,q⟩:=h;exact⟨j,s j hj,q⟩
theorem Held.lt{c:Ctx}{O O':List Nat}{ρ:Lc}{σ:TL}{H:Hp}{Φ:Nat→List Nat}{a:Nat}(s:St c O ρ σ H Φ)(h:Held O' σ Φ a): a<H.length:=by
 obtain⟨j,hj,⟨t,e⟩,m⟩:=h
 obtain⟨v,_,r⟩:=s.slot j t e
 exact r.lt a m
section
variable {O O' R:List Nat} {fr:Bool}
noncomputable def Zak: PS:=fun σ=>some (none,σ)
theorem Zcy: S O O R fr Zaj Zak:=fun c ρ σ H Φ r s e=>by
 cases e
 exact⟨ρ,H,Φ,Nat.le_refl _,fun _ _ _=>rfl,.inl ⟨rfl,rfl,s,fun a m=>.inr m⟩⟩
noncomputable def Zt(a b:PS): PS:=fun σ=>(a σ).bind fun r=>match r.1 with
 | some _=>some r
 | none=>b r.2
theorem Zck{O1:List Nat}{a b:Sm}{p q:PS}(x:S O O1 R fr a p)(y:S O1 O' R fr b q): S O O' R fr (Zs a b) (Zt p q):=fun c ρ σ H Φ r s e=>by
 obtain⟨r1,e1,e⟩:=Zz0.mp e
 obtain⟨ρ1,H1,Φ1,h1,h2,h3⟩:=x c ρ σ H Φ r1 s e1
 rcases h3 with⟨k1,k2,k3,k4⟩ | ⟨t,v,F,k1,k2,k3⟩
 ·rw[k1]at e
  obtain⟨ρ2,H2,Φ2,g1,g2,g3⟩:=y c ρ1 r1.2 H1 Φ1 r k3 e
  refine⟨ρ2,H2,Φ2,Nat.le_trans h1 g1,fun a ha hn=>?_,?_⟩
  ·rw[g2 a (by omega) fun q=>(k4 a q).elim (fun q=>by omega) hn,h2 a ha hn]
  ·have eg:Zs a b ρ H=b ρ1 H1:=by simp only[Zs,k2,Option.bind_some]
   rw[eg]
   rcases g3 with⟨l1,l2,l3,l4⟩ | l
   ·refine .inl ⟨l1,l2,l3,fun a m=>?_⟩
    rcases l4 a m with q | q
    ·exact .inl (by omega)
    ·exact k4 a q
   ·exact .inr l
 ·rw[k1]at e
  cases e
  exact⟨ρ1,H1,Φ1,h1,h2,.inr ⟨t,v,F,k1,by simp only[Zs,k2,Option.bind_some],k3⟩⟩
noncomputable def Za5(p:PE): PS:=fun σ=>(p σ).map fun t=>(some t,σ)
theorem Zcl{N:List Nat}{u:Bool}{e:Ex}{p:PE}(x:E O N u e p)(hR:∀i∈R,i∈O:=by decide): S O O' R false (ZK e) (Za5 p):=fun c ρ σ H Φ r s q=>by
 obtain⟨t,h1,h⟩:=Zz1.mp q
 subst h
 obtain⟨v,X,F,a1,a2,a3,a4⟩:=x c ρ σ H Φ t s h1
 refine⟨ρ,H++X,Φ,by simp,fun a ha _=>List.getElem?_append_left ha,.inr ⟨t,v,F,rfl,by simp only[ZK,a1,Option.map_some],a2,(s.ext X).less hR,fun a m=>s.from_src (a3 a m),by simp⟩⟩
theorem Zfs{N:List Nat}{e:Ex}{p:PE}(x:E O N true e p)(hN:∀i∈N,i∈O:=by decide)(hR:∀i∈R,i∈O:=by decide): S O O' R fr (ZK e) (Za5 p):=fun c ρ σ H Φ r s q=>by
 obtain⟨t,h1,h⟩:=Zz1.mp q
 subst h
 obtain⟨v,X,F,a1,a2,a3,a4⟩:=x c ρ σ H Φ t s h1
 refine⟨ρ,H++X,Φ,by simp,fun a ha _=>List.getElem?_append_left ha,.inr ⟨t,v,F,rfl,by simp only[ZK,a1,Option.map_some],a2,(s.ext X).less hR,fun a m=>s.from_src (a3 a m),fun _=>⟨a4 rfl,fun a m=>?_⟩⟩⟩
 rcases a3 a m with q | ⟨i,hi,⟨t',e'⟩,m'⟩
 ·exact .inl (Nat.le_trans s.len q)
 ·exact(s.own i (hN i hi) t' e').2.1 a m'
noncomputable def Zez(i:Nat)(p:PE): PS:=fun σ=>(p σ).map fun t=>(none,updT σ i t)
noncomputable def qIf(b:PB)(p q:PS): PS:=fun σ=>(b σ).bind fun x=>if x then p σ else q σ
theorem Aft.grow{c:Ctx}{σ:TL}{H X:Hp}{Φ:Nat→List Nat}{g:Option (Option V×Lc×Hp)}{r:Option T×TL}(h:Aft c O O' R fr σ (H++X) Φ g r): Aft c O O' R fr σ H Φ g r:=by
 obtain⟨ρ',H',Φ',h1,h2,h3⟩:=h
 rw[List.length_append]at h1
 refine⟨ρ',H',Φ',by omega,fun a ha hn=>?_,?_⟩
 ·rw[h2 a (by rw[List.length_append];omega) hn,List.getElem?_append_left ha]
 ·rcases h3 with⟨k1,k2,k3,k4⟩ | k
  ·exact .inl ⟨k1,k2,k3,fun a m=>(k4 a m).imp (fun q=>by rw[List.length_append]at q;omega) id⟩
  ·exact .inr k
theorem ZcA{t:Ts}{pb:PB}{a b:Sm}{p q:PS}(z:Bt O t pb)(x:S O O' R fr a p)(y:S O O' R fr b q): S O O' R fr (Z2 t a b) (qIf pb p q):=fun c ρ σ H Φ r s e=>by
 obtain⟨bb,e1,e⟩:=Zz0.mp e
 obtain⟨X,h1⟩:=z c ρ σ H Φ bb s e1
 cases bb with
 | true=>
  have:=x c ρ σ (H++X) Φ r (s.ext X) (by simpa using e)
  have eg:Z2 t a b ρ H=a ρ (H++X):=by simp[Z2,h1]
  rw[eg]
  exact this.grow
 | false=>
  have:=y c ρ σ (H++X) Φ r (s.ext X) (by simpa using e)
  have eg:Z2 t a b ρ H=b ρ (H++X):=by simp[Z2,h1]
  rw[eg]
  exact this.grow
noncomputable def follow(H:Hp): List Int→V→Option V
 | [],v=>some v
 | k::ks,v=>(Zu v (.int k) H).bind fun q=>follow H ks q.1
theorem Lead.follow{H:Hp}{ks:List Int}{v:V}{a:Nat}(l:Lead H ks v a): follow H ks v=some (.ref a):=by
 induction l with
 | nil=>rfl
 | ref h1 h2 h3 _ ih=>simp only[TM.follow,Zu,h1,Option.bind_some,h2,h3,Option.map_some,ih]
 | tup h2 h3 _ ih=>simp only[TM.follow,Zu,Option.bind_some,h2,h3,Option.map_some,ih]
theorem ZeZ{H:Hp}{v w z:V}{K:Hp}(h:Zu v z H=some (w,K))(X:Hp): K=H∧Zu v z (H++X)=some (w,H++X):=by
 unfold Zu at h
 split at h
 ·obtain⟨vs,e1,h⟩:=Zz0.mp h
  obtain⟨j,e2,h⟩:=Zz0.mp h
  obtain⟨x,e3,h⟩:=Zz1.mp h
  cases h
  exact⟨rfl,by simp only[Zu,List.getElem?_append_left (Zz6.mp e1).1,e1,Option.bind_some,e2,e3,Option.map_some]⟩
 ·obtain⟨j,e2,h⟩:=Zz0.mp h
  obtain⟨x,e3,h⟩:=Zz1.mp h
  cases h
  exact⟨rfl,by simp only[Zu,Option.bind_some,e2,e3,Option.map_some]⟩
 ·cases h
theorem ZhU{H:Hp}{k:Int}: ∀{ks:List Int} {v:V},follow H (ks++[k]) v=(follow H ks v).bind fun w=>(Zu w (.int k) H).map (·.1)
 | [],v=>by
  simp only[List.nil_append,follow,Option.bind_some]
  cases Zu v (.int k) H <;> rfl
 | j::ks,v=>by
  simp only[List.cons_append,follow]
  cases Zu v (.int j) H with
  | none=>rfl
  | some q=>simp only[Option.bind_some];exact ZhU
noncomputable abbrev PPa:=TL→Option (List Int)
noncomputable def Zab: PPa:=fun _=>some []
noncomputable def ZaV(p:PPa)(i:PE): PPa:=fun σ=>(p σ).bind fun ks=>(i σ).bind fun t=>match t with
 | .int k=>some (ks++[k])
 | _=>none
def Pa(O:List Nat)(x:Nat)(e:Ex)(p:PPa): Prop:=∀(c:Ctx) (ρ:Lc) (σ:TL) (H:Hp) (Φ:Nat→List Nat) (ks:List Int) (v w:V),St c O ρ σ H Φ→p σ=some ks→ρ x=some v→follow H ks v=some w→∃X,e ρ H=some (w,H++X)
theorem Zcg{x:Nat}: Pa O x (Zb x) Zab:=fun c ρ σ H Φ ks v w s h e f=>by
 cases h;cases f
 exact⟨[],by simp[Zb,e]⟩
theorem Zft{x:Nat}{N:List Nat}{u:Bool}{e i:Ex}{p:PPa}{pi:PE}(y:Pa O x e p)(z:E O N u i pi): Pa O x (Zj Zu e i) (ZaV p pi):=fun c ρ σ H Φ ks v w s h ev f=>by
 obtain⟨ks0,h1,h⟩:=Zz0.mp h
 obtain⟨t,h2,h⟩:=Zz0.mp h
 cases t <;> first | (cases h;done) | skip
 rename_i k
 cases h
 rw[ZhU]at f
 obtain⟨w0,f1,f⟩:=Zz0.mp f
 obtain⟨⟨w1,K⟩,f2,f⟩:=Zz1.mp f
 cases f
 obtain⟨X,a1⟩:=y c ρ σ H Φ ks0 v w0 s h1 ev f1
 obtain⟨vi,Y,F,b1,b2,b3,b4⟩:=z c ρ σ (H++X) Φ _ (s.ext X) h2
 cases b2
 refine⟨X++Y,?_⟩
 simp only[Zj,a1,Option.bind_some,b1]
 have:=(ZeZ f2 (X++Y)).2
 rw[List.append_assoc]
 exact this
theorem Zhp{c:Ctx}{ρ:Lc}{σ:TL}{H:Hp}{Φ:Nat→List Nat}{N:List Nat}{x a b:Nat}{t t':T}{v:V}{Fw F':List Nat}{vs':List V}(s:St c O ρ σ H Φ)(hx:x∈O)(ex:σ x=some t)(ev:ρ x=some v)(hb:c.H0.length≤b)(hlow:∀k t,σ k=some t→∀a∈Φ k,a<b)
  (hFw:∀a∈Fw,b≤a∨∃j∈N,(∃t,σ j=some t)∧a∈Φ j) (hN:∀j∈N,j∈O∧j≠x) (ha:a∈Φ x) (r:RF (H.set a vs') v t' F') (nd:F'.Nodup) (sub:∀y∈F',y∈Φ x∨y∈Fw) (hO:∀j∈O',j∈O∧j∉N):
  St c O' ρ (Zaz (updT σ x t') N) (H.set a vs') (Zp Φ x F')∧(∀y,Held O' (Zaz (updT σ x t') N) (Zp Φ x F') y→b≤y∨Held O σ Φ y):=by
 obtain⟨o1,o2,o3⟩:=s.own x hx t ex
 have old:∀k u,k≠x→Zaz (updT σ x t') N k=some u→σ k=some u∧k∉N:=fun k u hk e=>by
  unfold Zaz at e
  split at e
  ·cases e
  ·rename_i hn
   simp[updT,hk]at e
   exact⟨e,hn⟩
 have self:∀u,Zaz (updT σ x t') N x=some u→u=t':=fun u e=>by
  unfold Zaz at e
  split at e
  ·cases e
  ·simp[updT]at e;exact e.symm
 have foff:∀y∈F',∀k u,k≠x→σ k=some u→k∉N→y∉Φ k:=fun y hy k u hk e hkn m=>by
  rcases sub y hy with q | q
  ·exact o3 k u hk e y q m
  ·rcases hFw y q with q | ⟨j,hj,⟨tj,ej⟩,mj⟩
   ·have:=hlow k u e y m;omega
   ·exact(s.own j (hN j hj).1 tj ej).2.2 k u (fun q=>hkn (q▸hj)) e y mj m
 refine⟨⟨fun k u e=>?_,fun k u e=>?_,fun k hk u e=>?_,by simpa using s.len,fun y hy hn=>?_,s.pos,s.f0⟩,fun y hy=>?_⟩
 ·by_cases q:k=x
  ·subst q
   have:=self u e
   subst this
   exact⟨v,ev,by simpa [Zp]using r⟩
  ·obtain⟨e1,e2⟩:=old k u q e
   obtain⟨w,h1,h2⟩:=s.slot k u e1
   refine⟨w,h1,?_⟩
   simp only[Zp,q,if_false]
   refine h2.frame fun y hy=>List.getElem?_set_ne fun q'=>?_
   exact o3 k u q e1 a ha (q'▸hy)
 ·by_cases q:k=x
  ·subst q
   simp only[Zp,if_true]
   intro y hy
   rcases sub y hy with q | q
   ·exact s.src k t ex y q
   ·rcases hFw y q with q | ⟨j,hj,⟨tj,ej⟩,mj⟩
    ·exact .inl (by omega)
    ·exact s.src j tj ej y mj
  ·obtain⟨e1,e2⟩:=old k u q e
   simpa [Zp,q]using s.src k u e1
 ·by_cases q:k=x
  ·subst q
   simp only[Zp,if_true]
   refine⟨nd,fun y hy=>?_,fun j w hj ej y hy=>?_⟩
   ·rcases sub y hy with q | q
    ·exact o2 y q
    ·rcases hFw y q with q | ⟨j,hj,⟨tj,ej⟩,mj⟩
     ·exact .inl (by omega)
     ·exact(s.own j (hN j hj).1 tj ej).2.1 y mj
   ·obtain⟨e1,e2⟩:=old j w hj ej
    simpa [hj]using foff y hy j w hj e1 e2
  ·obtain⟨e1,e2⟩:=old k u q e
   obtain⟨p1,p2,p3⟩:=s.own k (hO k hk).1 u e1
   simp only[Zp,q,if_false]
   refine⟨p1,p2,fun j w hj ej y hy=>?_⟩
   by_cases q2:j=x
   ·subst q2
    simp only[if_true]
    exact fun m=>foff y m k u q e1 e2 hy
   ·obtain⟨f1,f2⟩:=old j w q2 ej
    simpa [q2]using p3 j w hj f1 y hy
 ·have:a≠y:=fun q=>by
   subst q
   rcases o2 a ha with q | q
   ·omega
   ·exact hn q
  rw[List.getElem?_set_ne this]
  exact s.keep y hy hn
 ·obtain⟨k,hk,⟨u,e⟩,m⟩:=hy
  by_cases q:k=x
  ·subst q
   simp only[Zp,if_true]at m
   rcases sub y m with q | q
   ·exact .inr ⟨k,hx,⟨t,ex⟩,q⟩
   ·rcases hFw y q with q | ⟨j,hj,q⟩
    ·exact .inl q
    ·exact .inr ⟨j,(hN j hj).1,q⟩
  ·obtain⟨e1,e2⟩:=old k u q e
   simp only[Zp,q,if_false]at m
   exact .inr ⟨k,(hO k hk).1,⟨u,e1⟩,m⟩
theorem Zhd{c:Ctx}{ρ:Lc}{σ:TL}{H:Hp}{Φ:Nat→List Nat}{x a:Nat}{t:T}(s:St c O ρ σ H Φ)(hx:x∈O)(ex:σ x=some t)(ha:a∈Φ x): a≠0:=by
 have:=s.pos
 rcases(s.own x hx t ex).2.1 a ha with q | q
 ·omega
 ·exact fun e=>s.f0 (e▸q)
noncomputable def Zb5(w:T)(ts:List T): Option (List T):=if ts.length<ZN then some (ts++[w])else none
noncomputable def Zco(k:Int)(w:T)(ts:List T): Option (List T):=if 0≤k∧k<ts.length then some (ts.set k.toNat w)else none
noncomputable def Zbn(x:Nat)(N:List Nat)(po:PPa)(p:PE): PS:=fun σ=>(po σ).bind fun ks=>(p σ).bind fun w=>(σ x).bind fun t=>(ZbJ (Zb5 w) ks t).map fun t'=>(none,Zaz (updT σ x t') N)
noncomputable def Zbr(x:Nat)(N:List Nat)(p:PE)(po:PPa)(pi:PE): PS:=fun σ=>(p σ).bind fun w=>(po σ).bind fun ks=>(pi σ).bind fun k=>match k with
 | .int k=>(σ x).bind fun t=>(ZbJ (Zco k w) ks t).map fun t'=>(none,Zaz (updT σ x t') N)
 | _=>none
theorem ZdX{H:Hp}(X:Hp): ∀{ks:List Int} {v w:V},follow H ks v=some w→follow (H++X) ks v=some w
 | [],_,_,h=>h
 | k::ks,v,w,h=>by
  obtain⟨⟨w1,K⟩,h1,h2⟩:=Zz0.mp h
  simp only[follow,(ZeZ h1 X).2,Option.bind_some]
  exact ZdX X h2
theorem S.app{x:Nat}{N:List Nat}{o e:Ex}{po:PPa}{p:PE}(hx:x∈O)(y:Pa O x o po)(z:E O N true e p)(hN:∀j∈N,j∈O∧j≠x)(hO:∀j∈O',j∈O∧j∉N): S O O' R fr (Zaf (ZaU o e)) (Zbn x N po p):=fun c ρ σ H Φ r s q=>by
 obtain⟨ks,h1,q⟩:=Zz0.mp q
 obtain⟨w,h2,q⟩:=Zz0.mp q
 obtain⟨t,h3,q⟩:=Zz0.mp q
 obtain⟨t',h4,q⟩:=Zz1.mp q
 subst q
 obtain⟨v,ev,rv⟩:=s.slot x t h3
 have hlow:∀k t,σ k=some t→∀a∈Φ k,a<H.length:=fun k t e a m=>by
  obtain⟨_,_,r⟩:=s.slot k t e
  exact r.lt a m
 obtain⟨o1,o2,o3⟩:=s.own x hx t h3
 obtain⟨a,vs0,ts0,ts0',G0,l0,_⟩:=Zdo (Gn:=[]) ks rv o1 (by simp) h4
 obtain⟨X,a1⟩:=y c ρ σ H Φ ks v (.ref a) s h1 ev l0.follow
 obtain⟨vw,Y,Fw,b1,b2,b3,b4⟩:=z c ρ σ (H++X) Φ w (s.ext X) h2
 have s2:=(s.ext X).ext Y
 have rv2:RF (H++X++Y) v t (Φ x):=(rv.ext X).ext Y
 have hFw:∀a∈Fw,H.length≤a∨∃j∈N,(∃t,σ j=some t)∧a∈Φ j:=fun a m=>(b3 a m).back
 have dsj:∀a∈Fw,a∉Φ x:=fun a m q=>by
  rcases hFw a m with h | ⟨j,hj,⟨tj,ej⟩,mj⟩
  ·have:=hlow x t h3 a q;omega
  ·exact o3 j tj (hN j hj).2 ej a q mj
 obtain⟨a',vs,ts,ts',G,l,am,ea,hs,hf,gn,na,gs,go⟩:=Zdo (Gn:=Fw) ks rv2 o1 dsj h4
 have haa:a'=a:=by
  have f2:=ZdX Y (ZdX X l0.follow)
  rw[l.follow]at f2
  cases f2
  rfl
 subst haa
 unfold Zb5 at hf
 split at hf
 ·rename_i hl
  cases hf
  obtain⟨F',r',n',sub'⟩:=go (vs++[vw]) (G++Fw) (hs.snoc b2) (by
   rw[List.nodup_append]
   exact⟨gn,b4 rfl,fun y hy z hz e=>dsj z hz (e▸gs y hy)⟩) (fun m=>(Zz8.mp m).elim na fun m=>dsj _ m am) (fun y m=>List.mem_append.mp m)
  obtain⟨st,com⟩:=Zhp (O':=O') (b:=H.length) s2 hx h3 ev s.len hlow hFw hN am r' n' sub' hO
  refine⟨ρ,(H++X++Y).set a' (vs++[vw]),Zp Φ x F',by simp,fun y hy hn=>?_,.inl ⟨rfl,?_,st,com⟩⟩
  ·have:a'≠y:=fun q=>hn ⟨x,hx,⟨t,h3⟩,q▸am⟩
   rw[List.getElem?_set_ne this,List.append_assoc,List.getElem?_append_left hy]
  ·simp only[Zaf,ZaU,a1,Option.bind_some,b1,ZcS,ea]
   rw[if_pos ⟨Zhd s hx h3 am,by rw[hs.length];exact hl⟩]
   rfl
 ·cases hf
theorem S.put{x:Nat}{N M:List Nat}{u:Bool}{o e i:Ex}{po:PPa}{p pi:PE}(hx:x∈O)(z:E O N true e p)(y:Pa O x o po)(zi:E O M u i pi)(hN:∀j∈N,j∈O∧j≠x)(hO:∀j∈O',j∈O∧j∉N): S O O' R fr (ZaK e o i) (Zbr x N p po pi):=fun c ρ σ H Φ r s q=>by
 obtain⟨w,h2,q⟩:=Zz0.mp q
 obtain⟨ks,h1,q⟩:=Zz0.mp q
 obtain⟨tk,h5,q⟩:=Zz0.mp q
 cases tk <;> first | (cases q;done) | skip
 rename_i k
 obtain⟨t,h3,q⟩:=Zz0.mp q
 obtain⟨t',h4,q⟩:=Zz1.mp q
 subst q
 obtain⟨v,ev,rv⟩:=s.slot x t h3
 have hlow:∀k t,σ k=some t→∀a∈Φ k,a<H.length:=fun k t e a m=>by
  obtain⟨_,_,r⟩:=s.slot k t e
  exact r.lt a m
 obtain⟨o1,o2,o3⟩:=s.own x hx t h3
 obtain⟨vw,X,Fw,b1,b2,b3,b4⟩:=z c ρ σ H Φ w s h2
 obtain⟨a,vs0,ts0,ts0',G0,l0,_⟩:=Zdo (Gn:=[]) ks (rv.ext X) o1 (by simp) h4
 obtain⟨Y,a1⟩:=y c ρ σ (H++X) Φ ks v (.ref a) (s.ext X) h1 ev l0.follow
 obtain⟨vk,Z,Fk,d1,d2,d3,d4⟩:=zi c ρ σ (H++X++Y) Φ _ ((s.ext X).ext Y) h5
 cases d2
 have s2:=((s.ext X).ext Y).ext Z
 have rv2:RF (H++X++Y++Z) v t (Φ x):=((rv.ext X).ext Y).ext Z
 have hFw:∀a∈Fw,H.length≤a∨∃j∈N,(∃t,σ j=some t)∧a∈Φ j:=b3
 have dsj:∀a∈Fw,a∉Φ x:=fun a m q=>by
  rcases hFw a m with h | ⟨j,hj,⟨tj,ej⟩,mj⟩
  ·have:=hlow x t h3 a q;omega
  ·exact o3 j tj (hN j hj).2 ej a q mj
 obtain⟨a',vs,ts,ts',G,l,am,ea,hs,hf,gn,na,gs,go⟩:=Zdo (Gn:=Fw) ks rv2 o1 dsj h4
 have haa:a'=a:=by
  have f2:=ZdX Z (ZdX Y l0.follow)
  rw[l.follow]at f2
  cases f2
  rfl
 subst haa
 unfold Zco at hf
 split at hf
 ·rename_i hl
  cases hf
  have hk:k.toNat<ts.length:=by omega
  obtain⟨v0,Gk,F1,F2,e0,r0,eG,rb⟩:=hs.split (List.getElem?_eq_getElem hk)
  have b2':RF (H++X++Y++Z) vw w Fw:=(b2.ext Y).ext Z
  have rs:=rb (H++X++Y++Z) vw w Fw b2' (fun _ _=>rfl) (fun _ _=>rfl)
  have sub0:∀a∈Fw,a∈Gk∨a∈Fw:=fun a m=>.inr m
  subst eG
  obtain⟨F',r',n',sub'⟩:=go _ _ rs (nd3 gn (b4 rfl) sub0 fun a m q=>dsj a m (gs a q)) (fun m=>by
   rcases in3 (G:=Gk) sub0 _ m with m | m
   ·exact na m
   ·exact dsj _ m am) (in3 sub0)
  obtain⟨st,com⟩:=Zhp (O':=O') (b:=H.length) s2 hx h3 ev s.len hlow hFw hN am r' n' sub' hO
  refine⟨ρ,(H++X++Y++Z).set a' (vs.set k.toNat vw),Zp Φ x F',by simp,fun y hy hn=>?_,.inl ⟨rfl,?_,st,com⟩⟩
  ·have:a'≠y:=fun q=>hn ⟨x,hx,⟨t,h3⟩,q▸am⟩
   rw[List.getElem?_set_ne this,List.append_assoc,List.append_assoc,List.getElem?_append_left hy]
  ·simp only[ZaK,b1,Option.bind_some,a1,d1,Zev,ea]
   rw[if_pos ⟨Zhd s hx h3 am,by rw[hs.length];exact hl⟩]
   rfl
 ·cases hf
noncomputable def Zba(put:T→TL→Option TL)(b:PS): TL→List T→Option (Option T×TL)
 | σ,[]=>some (none,σ)
 | σ,t::ts=>(put t σ).bind fun σ1=>(b σ1).bind fun r=>match r.1 with
  | some _=>some r
  | none=>Zba put b r.2 ts
noncomputable def Za0(g:PG)(put:T→TL→Option TL)(b:PS): PS:=fun σ=>(g σ).bind fun ts=>Zba put b σ ts
theorem Zij{J:List Nat}{put:V→Lc→Option Lc}{pput:T→TL→Option TL}{b:Sm}{qb:PS}(hj:PutOk O J put pput)(hJ:∀i∈J,i∉O)(hb:S O O R fr b qb){c:Ctx}{nx:Nx}{vs:List V}{G:List Nat}{H1:Hp}(hG:∀a∈G,a<H1.length)(hsrc:∀a∈G,c.H0.length≤a∨c.P a)(hnx:∀K:Hp,(∀a∈G,K[a]?=H1[a]?)→∀i,i≤vs.length→nx i K=some vs[i]?):
  ∀(rs:List T) (ws:List V) (i:Nat) (ρ:Lc) (σ:TL) (K:Hp) (Φ:Nat→List Nat) (Fr:List Nat) (r:Option T×TL),(∀j,vs[i+j]?=ws[j]?)→i+ws.length=vs.length→St c O ρ σ K Φ→H1.length≤K.length→(∀a∈G,K[a]?=H1[a]?)→(∀a∈G,¬Held O σ Φ a)→RFs K ws rs Fr→(∀a∈Fr,a∈G)→Zba pput qb σ rs=some r →
   Aft c O O R fr σ K Φ (ZaW nx put b (rs.length+1) i ρ K) r
 | [],ws,i,ρ,σ,K,Φ,Fr,r,hat,hlen,s,hl,hk,hoff,rr,hfr,h=>by
  cases rr
  cases h
  have e:=hnx K hk i (by simp at hlen;omega)
  have e2:vs[i]?=none:=by have:=hat 0;simpa using this
  exact⟨ρ,K,Φ,Nat.le_refl _,fun _ _ _=>rfl,.inl ⟨rfl,by simp[ZaW,e,e2],s,fun a m=>.inr m⟩⟩
 | t::rs,ws0,i,ρ,σ,K,Φ,Fr0,r,hat,hlen,s,hl,hk,hoff,rr,hfr,h=>by
  cases rr with
  | @cons v _ F1 ws _ F2 a b'=>
  simp only[List.length_cons]at hlen
  obtain⟨σ1,h1,h⟩:=Zz0.mp h
  obtain⟨r1,h2,h⟩:=Zz0.mp h
  have e:=hnx K hk i (by omega)
  have e2:vs[i]?=some v:=by have:=hat 0;simpa using this
  have hat':∀j,vs[i+1+j]?=ws[j]?:=fun j=>by have:=hat (j+1);rw[show i+1+j=i+(j+1)by omega,this];simp
  obtain⟨ρ1,Φ1,p1,s1,p3,p4⟩:=hj c ρ σ K Φ v t F1 σ1 s a (fun x m=>hsrc x (hfr x (Zz4 _ m))) (fun k hk t' e x m q=>hoff x (hfr x (Zz4 _ q)) ⟨k,hk,⟨t',e⟩,m⟩) h1
  have hh:∀x,Held O σ1 Φ1 x→Held O σ Φ x:=fun x ⟨k,hk,⟨t',e⟩,m⟩=>by
   obtain⟨q1,q2⟩:=p3 k fun q=>hJ k q hk
   exact⟨k,hk,⟨t',q1▸e⟩,q2▸m⟩
  obtain⟨ρ2,K2,Φ2,g1,g2,g3⟩:=hb c ρ1 σ1 K Φ1 r1 s1 h2
  have estep:ZaW nx put b ((t::rs).length+1) i ρ K=(b ρ1 K).bind fun q=>match q.1 with
    | some _=>some q
    | none=>ZaW nx put b (rs.length+1) (i+1) q.2.1 q.2.2:=by
   rw[List.length_cons]
   show(nx i K).bind _=_
   rw[e,e2]
   first | (simp only[Option.bind_some,p1];done) | (simp only[Option.bind_some,p1];rfl)
  rcases g3 with⟨k1,k2,k3,k4⟩ | ⟨t',v',F',k1,k2,k3⟩
  ·rw[k1]at h
   have hG2:∀a∈G,K2[a]?=K[a]?:=fun x m=>g2 x (by have:=hG x m;omega) fun q=>hoff x m (hh x q)
   have hoff2:∀a∈G,¬Held O r1.2 Φ2 a:=fun x m q=>by
    rcases k4 x q with q | q
    ·have:=hG x m;omega
    ·exact hoff x m (hh x q)
   have ih:=Zij hj hJ hb hG hsrc hnx rs ws (i+1) ρ2 r1.2 K2 Φ2 F2 r hat' (by omega) k3 (by omega) (fun x m=>(hG2 x m).trans (hk x m)) hoff2 (b'.frame fun x m=>hG2 x (hfr x (Zz3 _ m))) (fun x m=>hfr x (Zz3 _ m)) h
   rw[estep,k2]
   simp only[Option.bind_some]
   obtain⟨ρ3,K3,Φ3,l1,l2,l3⟩:=ih
   refine⟨ρ3,K3,Φ3,by omega,fun x hx hn=>?_,?_⟩
   ·rw[l2 x (by omega) fun q=>(k4 x q).elim (fun q=>by omega) fun q=>hn (hh x q),g2 x hx fun q=>hn (hh x q)]
   ·rcases l3 with⟨m1,m2,m3,m4⟩ | l
    ·refine .inl ⟨m1,m2,m3,fun x q=>?_⟩
     rcases m4 x q with q | q
     ·exact .inl (by omega)
     ·exact(k4 x q).imp id (hh x)
    ·exact .inr l
  ·rw[k1]at h
   cases h
   refine⟨ρ2,K2,Φ2,g1,fun x hx hn=>g2 x hx fun q=>hn (hh x q),.inr ⟨t',v',F',k1,?_,k3⟩⟩
   rw[estep,k2]
   rfl
theorem Zjq{J Ns:List Nat}{g:Src}{q:PG}{put:V→Lc→Option Lc}{pput:T→TL→Option TL}{b:Sm}{qb:PS}(hg:Gs O Ns g q)(hj:PutOk O J put pput)(hJ:∀i∈J,i∉O)(hN:∀i∈Ns,i∉O)(hb:S O O R fr b qb): S O O R fr (ZaE g put b) (Za0 q pput qb):=fun c ρ σ H Φ r s h=>by
 obtain⟨ts,h1,h⟩:=Zz0.mp h
 obtain⟨nx,X,vs,F,G,g1,g2,g3,g4,g5⟩:=hg c ρ σ H Φ ts s h1
 have:=Zij hj hJ hb (H1:=H++X) (fun a m=>(g4 a m).1) (fun a m=>s.from_src (g4 a m).2) g5 ts vs 0 ρ σ (H++X) Φ F r (by simp) (by simp) (s.ext X) (Zz10 _) (fun _ _=>rfl) (fun a m ⟨k,hk,⟨t,e⟩,q⟩=>s.from_off hN (g4 a m).2 hk e q) g2 g3 h
 have eg:ZaE g put b ρ H=ZaW nx put b (ts.length+1) 0 ρ (H++X):=by simp only[ZaE,g1,Option.bind_some]
 rw[eg]
 exact this.grow
noncomputable def Zme(t:PB)(b:PS): Nat→PS
 | 0=>fun _=>none
 | n+1=>fun σ=>(t σ).bind fun p=>if p then(b σ).bind fun q=>(match q.1 with
   | some _=>some q
   | none=>Zme t b n q.2)else some (none,σ)
end
noncomputable def Zbo(n:Nat)(q:PS): List T→Option T:=fun ts=>if ts.length=n then(q fun i=>ts[i]?).map fun r=>r.1.getD .none else none
theorem RFs.slots{H:Hp}: ∀{vs:List V} {ts:List T} {F:List Nat},RFs H vs ts F→∃Φ:Nat→List Nat,∀i t,ts[i]?=some t→∃v,vs[i]?=some v∧RF H v t (Φ i)∧∀a∈Φ i,a∈F
 | _,_,_,.nil=>⟨fun _=>[],fun i t e=>by simp at e⟩
 | _,_,_,.cons (F:=F1) a b=>by
  obtain⟨Φ,h⟩:=b.slots
  refine⟨fun i=>match i with | 0=>F1 | i+1=>Φ i,fun i t e=>?_⟩
  cases i with
  | zero=>simp at e;subst e;exact⟨_,by simp,a,fun x m=>List.mem_append_left _ m⟩
  | succ i=>
   simp at e
   obtain⟨v,h1,h2,h3⟩:=h i t e
   exact⟨v,by simpa using h1,h2,fun x m=>List.mem_append_right _ (h3 x m)⟩
theorem ZeR{H H':Hp}(hl:H.length≤H'.length)(h:∀a,a<H.length→H'[a]?=H[a]?): H'=H++H'.drop H.length:=by
 conv=>lhs;rw[←List.take_append_drop H.length H']
 congr 1
 refine List.ext_getElem? fun i=>?_
 by_cases q:i<H.length
 ·rw[List.getElem?_take_of_lt q,h i q]
 ·rw[List.getElem?_eq_none (by simp;omega),List.getElem?_eq_none (by omega)]
theorem SimF.of{O':List Nat}{fr:Bool}{n:Nat}{g:Sm}{q:PS}(h:S [] O' [] fr g q): SimF fr (Z5 n g) (Zbo n q):=fun H vs ts t F1 hp r e=>by
 unfold Zbo at e
 split at e
 ·rename_i hl
  obtain⟨r1,e1,e2⟩:=Zz1.mp e
  obtain⟨Φ,hΦ⟩:=r.slots
  have st:St ⟨H,[],fun a=>a∈F1⟩ [] (fun i=>vs[i]?) (fun i=>ts[i]?) H Φ:=
   ⟨(fun i t e=>by obtain⟨v,h1,h2,_⟩:=hΦ i t e;exact⟨v,h1,h2⟩),fun i t e a m=>(by obtain⟨v,h1,h2,h3⟩:=hΦ i t e;exact .inr (h3 a m)),(fun i hi=>nomatch hi),Nat.le_refl _,fun a _ _=>rfl,hp,by simp⟩
  obtain⟨ρ',H',Φ',h1,h2,h3⟩:=h _ _ _ _ _ _ st e1
  rcases h3 with⟨k1,k2,k3,k4⟩ | ⟨t',v',F',k1,k2,k3,k4,k5,k6⟩
  ·have eh:=ZeR k3.len fun a ha=>k3.keep a ha (by simp)
   refine⟨.none,H'.drop H.length,[],?_,?_,by simp,by simp⟩
   ·have hv:vs.length=n:=r.length.trans hl
    simp only[Z5,hv,if_true,k2,Option.map_some,Option.getD_none]
    rw[←eh]
   ·rw[k1]at e2
    subst e2
    exact .none
  ·have eh:=ZeR k4.len fun a ha=>k4.keep a ha (by simp)
   refine⟨v',H'.drop H.length,F',?_,?_,k5,fun hf=>⟨(k6 hf).1,fun a m=>((k6 hf).2 a m).elim id fun q=>by cases q⟩⟩
   ·have hv:vs.length=n:=r.length.trans hl
    simp only[Z5,hv,if_true,k2,Option.map_some,Option.getD_some]
    rw[←eh]
   ·rw[k1]at e2
    subst e2
    rw[←eh]
    exact k3
 ·cases e
theorem Zkq{f:List V→Hp→Option (V×Hp)}{p:List T→Option T}{fr:Bool}(h:SimF fr f p)(ns:List Int)(e:p [.lst (ns.map T.int)]=some (.bool true)): ∃H',f [.ref 0] [ns.map V.int]=some (.bool true,H'):=by
 have intsAre:∀l:List Int,RFs [ns.map V.int] (l.map V.int) (l.map T.int) []:=fun l=>by
  induction l with
  | nil=>exact .nil
  | cons a l ih=>exact .cons (.int a) ih
 obtain⟨v,X,F,h1,h2,_⟩:=h [ns.map V.int] [.ref 0] [.lst (ns.map T.int)] _ _ (by simp) (.one (.ref rfl (intsAre ns))) e
 cases h2
 exact⟨_,h1⟩
end TM
end
section
namespace TM
open PySem PM
section
variable {O Ns Ne J:List Nat}
theorem ZiC{u:Bool}{g:Src}{q:PG}{put:V→Lc→Option Lc}{pput:T→TL→Option TL}{tc:Ts}{pc:PB}{f:Ex}{pf:PE}(hg:Gs O Ns g q)(hj:PutOk O J put pput)(hN:∀i∈Ns,i∉O)(hc:Bt O tc pc)(hf:E O Ne u f pf): E O (Ns++Ne) false (ZaX g put tc f) (Zcj q pput pc pf):=
 E.comp hg hj hN hc hf.sh (by simp)
theorem ZiD{g:Src}{q:PG}{put:V→Lc→Option Lc}{pput:T→TL→Option TL}{tc:Ts}{pc:PB}{f:Ex}{pf:PE}(hg:Gs O Ns g q)(hj:PutOk O J put pput)(hN:∀i∈Ns,i∉O)(hc:Bt O tc pc)(hf:E O [] true f pf): E O [] true (ZaX g put tc f) (Zcj q pput pc pf):=
 E.comp hg hj hN hc hf (by simp)
end
end TM
end
section
/-! Forward reckoning over trees. -/
namespace TM
open PySem PM
noncomputable def dec(P:Prop): Bool:=@decide P (Classical.propDecidable P)
theorem dec_iff{P:Prop}: dec P=true↔P:=by unfold dec;exact @decide_eq_true_iff P (Classical.propDecidable P)
theorem Zjr{P:Prop}(h:P): dec P=true:=dec_iff.mpr h
theorem Zjs{P:Prop}(h:¬P): dec P=false:=by
 cases e:dec P with
 | true=>exact absurd (dec_iff.mp e) h
 | false=>rfl
theorem Zmf{P:Prop}{b:Bool}(h:b=true↔P): dec P=b:=by
 cases b with
 | true=>exact Zjr (h.mp rfl)
 | false=>exact Zjs fun p=>by simpa using h.mpr p
noncomputable def tab{α:Type}(n:Nat)(f:Nat→α): List α:=(List.range n).map f
theorem Zcr{α:Type}{n:Nat}{f:Nat→α}: (tab n f).length=n:=by simp[tab]
theorem Zi3{α:Type}{n:Nat}{f:Nat→α}{i:Nat}(h:i<n): (tab n f)[i]?=some (f i):=by simp[tab,h]
theorem Zll{α β:Type}{n:Nat}{f:Nat→α}{g:α→β}: (tab n f).map g=tab n fun i=>g (f i):=by simp[tab]
noncomputable def cn{α:Type}(a:α)(f:Nat→α): Nat→α
 | 0=>a
 | i+1=>f i
def Pk(c:Option T)(Q:T→Prop): Prop:=∃t,c=some t∧Q t
def Pl(c:Option (List T))(Q:List T→Prop): Prop:=∃t,c=some t∧Q t
def Pb(c:Option Bool)(Q:Bool→Prop): Prop:=∃t,c=some t∧Q t
def Psk(c:Option (Option T×TL))(R:T→Prop)(N:TL→Prop): Prop:=∃o σ,c=some (o,σ)∧(∀t,o=some t→R t)∧(o=none→N σ)
theorem Pk.of{c:Option T}{Q:T→Prop}{t:T}(h:c=some t)(k:Q t): Pk c Q:=⟨t,h,k⟩
theorem Pk.eq{c:Option T}{t:T}(h:Pk c fun v=>v=t): c=some t:=by obtain⟨v,e,rfl⟩:=h;exact e
theorem Pk.mono{c:Option T}{Q Q':T→Prop}(h:Pk c Q)(k:∀t,Q t→Q' t): Pk c Q':=by obtain⟨v,e,q⟩:=h;exact⟨v,e,k v q⟩
section
variable {σ:TL} {Q:T→Prop} {L:List T→Prop} {B:Bool→Prop} {R:T→Prop} {N:TL→Prop}
theorem Zhq{k:Int}(h:Q (.int k)): Pk (Zk k σ) Q:=⟨_,rfl,h⟩
theorem Zmg(h:Q .none): Pk (Zc7 σ) Q:=⟨_,rfl,h⟩
theorem Zlm{k:Bool}(h:Q (.bool k)): Pk (ZbH k σ) Q:=⟨_,rfl,h⟩
theorem Zmh{k:Str}(h:Q (.str k)): Pk (Zap k σ) Q:=⟨_,rfl,h⟩
theorem Zi4{i:Nat}{t:T}(e:σ i=some t)(h:Q t): Pk (Zc i σ) Q:=⟨_,e,h⟩
theorem Zmi{q:T→T→Option T}{f g:PE}(h:Pk (f σ) fun x=>Pk (g σ) fun y=>Pk (q x y) Q): Pk (Zn q f g σ) Q:=by
 obtain⟨x,a,y,b,z,c,k⟩:=h
 exact⟨z,by simp only[Zn,a,b,Option.bind_some,c],k⟩
theorem Zm2{q:T→Option T}{f:PE}(h:Pk (f σ) fun x=>Pk (q x) Q): Pk (pUn q f σ) Q:=by
 obtain⟨x,a,z,c,k⟩:=h
 exact⟨z,by simp only[pUn,a,Option.bind_some,c],k⟩
theorem Zln{q:List T→Option T}{f:Z6}(h:Pl (f σ) fun x=>Pk (q x) Q): Pk (ZW q f σ) Q:=by
 obtain⟨x,a,z,c,k⟩:=h
 exact⟨z,by simp only[ZW,a,Option.bind_some,c],k⟩
theorem Zmj(h:L []): Pl (Zo σ) L:=⟨_,rfl,h⟩
theorem Zlo{f:PE}{g:Z6}(h:Pk (f σ) fun x=>Pl (g σ) fun xs=>L (x::xs)): Pl (Zd f g σ) L:=by
 obtain⟨x,a,y,b,k⟩:=h
 exact⟨_,by simp only[Zd,a,b,Option.bind_some],k⟩
theorem Zmk{g:Z6}(h:Pl (g σ) fun xs=>Q (.tup xs)): Pk (ZaA g σ) Q:=by
 obtain⟨x,a,k⟩:=h;exact⟨_,by simp only[ZaA,a,Option.map_some],k⟩
theorem Zlp{g:Z6}(h:Pl (g σ) fun xs=>Q (.lst xs)): Pk (Zao g σ) Q:=by
 obtain⟨x,a,k⟩:=h;exact⟨_,by simp only[Zao,a,Option.map_some],k⟩
theorem Zlq{f:PE}(h:Pk (f σ) fun t=>t.flat=true∧Q t): Pk (Zah f σ) Q:=by
 obtain⟨x,a,b,k⟩:=h;exact⟨_,by simp only[Zah,a,Option.bind_some,b,if_true],k⟩
theorem Zm3{f:PE}(h:Pk (f σ) fun t=>t.flatIn=true∧Q t): Pk (pFl f σ) Q:=by
 obtain⟨x,a,b,k⟩:=h;exact⟨_,by simp only[pFl,a,Option.bind_some,b,if_true],k⟩
theorem Zml{f:PE}(h:Pk (f σ) fun x=>Pb (Zcv x) fun b=>Q (.bool (!b))): Pk (ZfO f σ) Q:=by
 obtain⟨x,a,b,e,q⟩:=h;exact⟨_,by simp only[ZfO,a,Option.bind_some,e,Option.map_some],q⟩
theorem Zmm{f g:PE}(h:Pk (f σ) fun x=>Pb (Zcv x) fun b=>(b=true→Pk (g σ) Q)∧(b=false→Q x)): Pk (ZdE f g σ) Q:=by
 obtain⟨x,a,b,e,h1,h2⟩:=h
 cases b with
 | true=>obtain⟨t,c,q⟩:=h1 rfl;exact⟨t,by simp[ZdE,a,e,c],q⟩
 | false=>exact⟨x,by simp[ZdE,a,e],h2 rfl⟩
theorem Zm4{K:String}{f:PE}(h:Pk (f σ) fun x=>isObT x=false∧Q (.bool (Zff K x))): Pk (pIs K f σ) Q:=by
 obtain⟨x,a,ob,q⟩:=h;exact⟨_,by simp[pIs,a,ob],q⟩
theorem Zmn{f:PE}(h:Pk (f σ) fun x=>Pb (Zcv x) B): Pb (ZX f σ) B:=by
 obtain⟨x,a,b,e,q⟩:=h;exact⟨_,by simp only[ZX,a,Option.bind_some,e],q⟩
theorem Zlr{f:PB}(h:Pb (f σ) fun b=>B (!b)): Pb (ZbK f σ) B:=by
 obtain⟨x,a,q⟩:=h;exact⟨_,by simp only[ZbK,a,Option.map_some],q⟩
theorem Zls(h:B true): Pb (Zbz σ) B:=⟨_,rfl,h⟩
theorem ZkM(h:B false): Pb (Zcw σ) B:=⟨_,rfl,h⟩
theorem Zlt{f g:PB}(h:Pb (f σ) fun b=>(b=true→Pb (g σ) B)∧(b=false→B false)): Pb (Zb2 f g σ) B:=by
 obtain⟨x,a,h1,h2⟩:=h
 cases x with
 | true=>obtain⟨t,c,q⟩:=h1 rfl;exact⟨t,by simp[Zb2,a,c],q⟩
 | false=>exact⟨_,by simp[Zb2,a],h2 rfl⟩
theorem Zmo{f g:PB}(h:Pb (f σ) fun b=>(b=true→B true)∧(b=false→Pb (g σ) B)): Pb (bOr f g σ) B:=by
 obtain⟨x,a,h1,h2⟩:=h
 cases x with
 | false=>obtain⟨t,c,q⟩:=h2 rfl;exact⟨t,by simp[bOr,a,c],q⟩
 | true=>exact⟨_,by simp[bOr,a],h1 rfl⟩
theorem Zj3{b:Bool}(h:B b): Pb (Zcv (.bool b)) B:=⟨_,rfl,h⟩
theorem Zlu(h:N σ): Psk (Zak σ) R N:=⟨_,_,rfl,by simp,fun _=>h⟩
theorem Zmp{f:PE}(h:Pk (f σ) R): Psk (Za5 f σ) R N:=by
 obtain⟨x,a,q⟩:=h;exact⟨some x,σ,by simp only[Za5,a,Option.map_some],fun t e=>by cases e;exact q,by simp⟩
theorem Zmq{a b:PS}(h:Psk (a σ) R fun σ1=>Psk (b σ1) R N): Psk (Zt a b σ) R N:=by
 obtain⟨o,σ1,e,h1,h2⟩:=h
 cases o with
 | some t=>exact⟨some t,σ1,by simp only[Zt,e,Option.bind_some],h1,by simp⟩
 | none=>
  obtain⟨o2,σ2,e2,k1,k2⟩:=h2 rfl
  exact⟨o2,σ2,by simp only[Zt,e,Option.bind_some,e2],k1,k2⟩
theorem Zmr{b:PB}{f g:PS}(h:Pb (b σ) fun x=>(x=true→Psk (f σ) R N)∧(x=false→Psk (g σ) R N)): Psk (qIf b f g σ) R N:=by
 obtain⟨x,a,h1,h2⟩:=h
 cases x with
 | true=>obtain⟨o,s,c,q⟩:=h1 rfl;exact⟨o,s,by simp[qIf,a,c],q⟩
 | false=>obtain⟨o,s,c,q⟩:=h2 rfl;exact⟨o,s,by simp[qIf,a,c],q⟩
theorem Zms{n:Nat}{q:PS}{ts:List T}(hn:ts.length=n)(h:Psk (q fun i=>ts[i]?) Q fun _=>Q .none): Pk (Zbo n q ts) Q:=by
 obtain⟨o,s,e,h1,h2⟩:=h
 cases o with
 | some t=>exact⟨t,by simp only[Zbo,hn,if_true,e,Option.map_some,Option.getD_some],h1 t rfl⟩
 | none=>exact⟨.none,by simp only[Zbo,hn,if_true,e,Option.map_some,Option.getD_none],h2 rfl⟩
theorem Zmt{b:Bool}{A C:Prop}(h:b=true)(k:A): (b=true→A)∧(b=false→C):=⟨fun _=>k,fun e=>(by rw[h]at e;cases e)⟩
theorem Zmu{b:Bool}{A C:Prop}(h:b=false)(k:C): (b=true→A)∧(b=false→C):=⟨fun e=>(by rw[h]at e;cases e),fun _=>k⟩
theorem Zmv{a b:Int}(h:Q (.int (a+b))): Pk (Zad (.int a) (.int b)) Q:=⟨_,rfl,h⟩
theorem Zmw{a b:Int}(h:Q (.int (a-b))): Pk (ZbD (.int a) (.int b)) Q:=⟨_,rfl,h⟩
theorem Zmx{a:Int}(h:Q (.int (-a))): Pk (Zew (.int a)) Q:=⟨_,rfl,h⟩
theorem Zm5{a b:Int}(h:Q (.bool (decide (a<b)))): Pk (qLt (.int a) (.int b)) Q:=⟨_,rfl,h⟩
theorem Zm6{a b:Int}(h:Q (.bool (decide (b<a)))): Pk (qGt (.int a) (.int b)) Q:=⟨_,rfl,h⟩
theorem Zmy{a b:Int}(hb:b≠0)(h:Q (.int (a.fmod b))): Pk (ZdG (.int a) (.int b)) Q:=⟨_,by simp only[ZdG];rw[if_pos hb],h⟩
theorem Zmz{a b:Int}(hb:b≠0)(hd:Builtin.divisionGoesByPylong a b=false)(h:Q (.int (a.fdiv b))): Pk (ZdF (.int a) (.int b)) Q:=⟨_,by simp only[ZdF];rw[if_pos ⟨hb,hd⟩],h⟩
theorem ZmA{a b:Int}(hm:Zci a b=true)(h:Q (.int (a*b))): Pk (Zbq (.int a) (.int b)) Q:=⟨_,by simp only[Zbq];rw[if_pos hm],h⟩
theorem ZmB{a b:Int}(h:Q (.int (if b>a then b else a))): Pk (ZfC [.int a,.int b]) Q:=⟨_,rfl,h⟩
theorem ZmC{a b:Int}(h:Q (.int (if b<a then b else a))): Pk (ZfD [.int a,.int b]) Q:=⟨_,rfl,h⟩
theorem ZiE(a b:Int): Zb4 (.int a) (.int b)=some (decide (a=b)):=by
 simp[Zb4,Zbl,SeqAt.shaped,PyData.canLay0,PyData.depth,PyData.eqv]
 by_cases h:a=b <;> simp[h]
theorem Zm7{a b:Int}(h:Q (.bool (decide (a=b)))): Pk (qEq (.int a) (.int b)) Q:=⟨_,by simp only[qEq,ZiE,Option.map_some],h⟩
theorem Zm8{a b:Int}(h:Q (.bool (decide (a≠b)))): Pk (qNe (.int a) (.int b)) Q:=⟨.bool (decide (a≠b)),by simp only[qNe,ZiE,Option.map_some];simp,h⟩
theorem ZmD{ts:List T}(h:Q (.int ts.length)): Pk (Zbm [.lst ts]) Q:=⟨_,rfl,h⟩
theorem Zlv{ts:List T}(h:Q (.int ts.length)): Pk (Zbm [.tup ts]) Q:=⟨_,rfl,h⟩
theorem Zjt{k:Int}{n:Nat}(h0:0≤k)(h1:k<n): seqIndex? k n=some k.toNat:=by
 unfold seqIndex?
 have:¬k<0:=by omega
 simp[this]
 omega
theorem Za7{ts:List T}{k:Int}{t:T}(h0:0≤k)(e:ts[k.toNat]?=some t)(h:Q t): Pk (Zy (.lst ts) (.int k)) Q:=⟨_,by
 simp only[Zy]
 rw[Zjt h0 (by have:=(Zz6.mp e).1;omega)]
 exact e,h⟩
theorem Zfg{ts:List T}{k:Int}{t:T}(h0:0≤k)(e:ts[k.toNat]?=some t)(h:Q t): Pk (Zy (.tup ts) (.int k)) Q:=⟨_,by
 simp only[Zy]
 rw[Zjt h0 (by have:=(Zz6.mp e).1;omega)]
 exact e,h⟩
theorem Zkr{ts:List T}(h:Q (.lst ts)): Pk (ZcW [.tup ts]) Q:=⟨_,rfl,h⟩
theorem Zlw{ts:List T}(h:Q (.tup ts)): Pk (ZcU [.lst ts]) Q:=⟨_,rfl,h⟩
def SqP(x:T)(L:List T→Prop): Prop:=∃ts,(x=.lst ts∨x=.tup ts)∧L ts
theorem Zlx{f:PE}(h:Pk (f σ) fun t=>SqP t L): Pl (ZaT f σ) L:=by
 obtain⟨t,a,ts,rfl | rfl,q⟩:=h <;> exact⟨_,by simp only[ZaT,a,Option.bind_some],q⟩
theorem Sq.lst{ts:List T}(h:L ts): SqP (.lst ts) L:=⟨ts,.inl rfl,h⟩
theorem Zi5{a b c:Int}{H:Hp}{z:Nx×Nat×Hp}(h:Zbc a b c H=some z): ZbL a b c=some ((List.range (rngN a b c)).map fun(i:Nat)=>.int (a+(i:Int)*c)):=by
 unfold Zbc at h
 split at h
 ·rename_i hc
  unfold ZbL
  rw[if_pos hc]
 ·cases h
theorem ZkN{n:Nat}(hn:n≤1000): ZbL 0 n 1=some (tab n fun i=>.int i):=by
 rw[Zi5 (Zl7 (H:=[]) (b:=n) (by omega) (by omega))]
 have e:rngN 0 n 1=n:=by
  unfold rngN Builtin.Range.rangeSize
  by_cases q:(0:Int)<n
  ·rw[if_pos (by decide),if_pos (by omega)];omega
  ·rw[if_pos (by decide),if_neg (by omega)];omega
 rw[e]
 simp[tab]
theorem Zly{a n:Nat}(ha:0<n)(hn:a+n≤1000): ZbL a (a+n) 1=some (tab n fun i=>.int (a+i)):=by
 rw[Zi5 (Zma (H:=[]) (a:=a) (b:=a+n) (c:=1) (by omega) (by omega) (by omega) (by omega) (by omega))]
 have e:rngN a (a+n) 1=n:=by
  unfold rngN
  rw[Zjl (by omega) (by omega)]
  omega
 rw[e]
 simp[tab]
theorem Zlz{g:Z6}{b:Int}{o:Option (List T)}(e:g σ=some [.int b])(h:ZbL 0 b 1=o): ZbG g σ=o:=by
 subst h;unfold ZbG;rw[e];rfl
theorem ZlA{g:Z6}{a b:Int}{o:Option (List T)}(e:g σ=some [.int a,.int b])(h:ZbL a b 1=o): ZbG g σ=o:=by
 subst h;unfold ZbG;rw[e];rfl
def RnP(xs:List T)(L:List T→Prop): Prop:=(∃n:Nat,xs=[.int n]∧n≤1000∧L (tab n fun i=>.int i))∨∃(a:Nat) (n:Nat),xs=[.int a,.int (a+n)]∧0<n∧a+n≤1000∧L (tab n fun i=>.int (a+i))
theorem ZkO{g:Z6}(h:Pl (g σ) fun xs=>RnP xs L): Pl (ZbG g σ) L:=by
 obtain⟨xs,e,h⟩:=h
 rcases h with⟨n,h0,h1,q⟩ | ⟨a,n,h0,h1,h2,q⟩
 ·subst h0;exact⟨_,Zlz e (ZkN h1),q⟩
 ·subst h0;exact⟨_,ZlA e (Zly h1 h2),q⟩
theorem Rn.one{n:Nat}(hn:n≤1000)(h:L (tab n fun i=>.int i)): RnP [.int n] L:=.inl ⟨n,rfl,hn,h⟩
theorem Zh5{j:Nat}{f:PE}{h:T→T}: ∀{ts:List T},(∀t∈ts,f (updT σ j t)=some (h t))→ZbA (Zav j) Zbz f σ ts=some (ts.map h)
 | [],_=>rfl
 | t::ts,k=>by
  simp only[ZbA,Zav,Zbz,Option.bind_some,if_true,k t Zz5,Zh5 fun t m=>k t (Zz2 _ m),Option.map_some,List.map_cons]
theorem Zi6{put:T→TL→Option TL}{b:PS}: ∀{ts:List T} (P:Nat→TL→Prop) {σ:TL},P 0 σ→(∀(i:Nat) t σ,ts[i]?=some t→P i σ→∃σ1,put t σ=some σ1∧Psk (b σ1) R (P (i+1)))→(∀σ,P ts.length σ→N σ)→Psk (Zba put b σ ts) R N
 | [],P,σ,h0,_,h2=>⟨_,_,rfl,by simp,fun _=>h2 _ h0⟩
 | t::ts,P,σ,h0,h1,h2=>by
  obtain⟨σ1,e1,o,σ2,e2,k1,k2⟩:=h1 0 t σ (by simp) h0
  cases o with
  | some v=>exact⟨some v,σ2,by simp only[Zba,e1,Option.bind_some,e2],k1,by simp⟩
  | none=>
   obtain⟨o3,σ3,e3,l1,l2⟩:=Zi6 (ts:=ts) (fun i=>P (i+1)) (k2 rfl) (fun i t' σ' h3 h4=>h1 (i+1) t' σ' (by simpa using h3) h4) (fun σ' h=>h2 σ' (by simpa using h))
   exact⟨o3,σ3,by simp only[Zba,e1,Option.bind_some,e2,e3],l1,l2⟩
theorem Zfh{g:PG}{j:Nat}{ts:List T}{b:PS}(hg:Pl (g σ) fun us=>us=ts)(P:Nat→TL→Prop)(h0:P 0 σ)(h1:∀(i:Nat) t σ,ts[i]?=some t→P i σ→Psk (b (updT σ j t)) R (P (i+1)))(h2:∀σ,P ts.length σ→N σ): Psk (Za0 g (Zav j) b σ) R N:=by
 obtain⟨us,e,rfl⟩:=hg
 obtain⟨o,s,e2,q⟩:=Zi6 (R:=R) (N:=N) (put:=Zav j) (b:=b) (ts:=us) P h0 (fun i t σ' h3 h4=>⟨_,rfl,h1 i t σ' h3 h4⟩) h2
 exact⟨o,s,by simp only[Za0,e,Option.bind_some,e2],q⟩
theorem ZiF{i j:Nat}{t:T}{o:Option T}(h:j≠i)(e:σ j=o): updT σ i t j=o:=by simp[updT,h,e]
theorem Zik{j:Nat}{J:List Nat}{o:Option T}(h:j∉J)(e:σ j=o): Zaz σ J j=o:=by simp[Zaz,h,e]
end
end TM
end
section
namespace TM
open PySem PM
inductive Pln: Nat→T→Prop where
 | none {n:Nat}:Pln n .none
 | int {n:Nat} {i:Int}:Pln n (.int i)
 | str {n:Nat} {x:Str}:PyData.strOk x=true→Pln n (.str x)
 | tup {n:Nat} {ts:List T}:(∀t∈ts,Pln n t)→Pln (n+1) (.tup ts)
 | lst {n:Nat} {ts:List T}:(∀t∈ts,Pln n t)→Pln (n+1) (.lst ts)
mutual
noncomputable def dd: T→PyData
 | .none=>.none
 | .bool b=>.bool b
 | .int i=>.int i
 | .str x=>.str x
 | .tup ts=>.tuple (dds ts)
 | .lst ts=>.list (dds ts)
 | .ob _ _=>.none
noncomputable def dds: List T→List PyData
 | []=>[]
 | t::ts=>dd t::dds ts
end
theorem Zd2{f:T→Option PyData}: ∀{ts:List T},(∀t∈ts,f t=some (dd t))→Zc3 f ts=some (dds ts)
 | [],_=>rfl
 | t::ts,h=>by simp only[Zc3,h t Zz5,Zd2 fun t m=>h t (Zz2 _ m),Option.bind_some,dds]
theorem Zd5: ∀{ts:List T},(∀t∈ts,PyData.canLay0 (dd t)=true)→PyData.canLayAll0 (dds ts)=true
 | [],_=>rfl
 | t::ts,h=>by simp only[dds,PyData.canLayAll0,h t Zz5,Zd5 fun t m=>h t (Zz2 _ m),Bool.and_self]
theorem Zd6{n:Nat}: ∀{ts:List T},(∀t∈ts,PyData.depth (dd t)≤n)→PyData.depthAll (dds ts)≤n
 | [],_=>by simp[dds,PyData.depthAll]
 | t::ts,h=>by
  have h1:=h t Zz5
  have h2:=Zd6 fun t m=>h t (Zz2 _ m)
  simp only[dds,PyData.depthAll]
  omega
theorem Pln.dat{n:Nat}{t:T}(h:Pln n t): Zbl n t=some (dd t)∧PyData.canLay0 (dd t)=true∧PyData.depth (dd t)≤n:=by
 induction h with
 | @none n=>cases n <;> exact⟨rfl,rfl,by simp[dd,PyData.depth]⟩
 | @int n i=>cases n <;> exact⟨rfl,rfl,by simp[dd,PyData.depth]⟩
 | @str n x h=>cases n <;> exact⟨rfl,by simpa [dd,PyData.canLay0]using h,by simp[dd,PyData.depth]⟩
 | @tup n ts _ ih=>
  refine⟨?_,?_,?_⟩
  ·simp only[Zbl,Zd2 fun t m=>(ih t m).1,Option.map_some,dd]
  ·simp only[dd,PyData.canLay0];exact Zd5 fun t m=>(ih t m).2.1
  ·simp only[dd,PyData.depth]
   have:=Zd6 fun t m=>(ih t m).2.2
   omega
 | @lst n ts _ ih=>
  refine⟨?_,?_,?_⟩
  ·simp only[Zbl,Zd2 fun t m=>(ih t m).1,Option.map_some,dd]
  ·simp only[dd,PyData.canLay0];exact Zd5 fun t m=>(ih t m).2.1
  ·simp only[dd,PyData.depth]
   have:=Zd6 fun t m=>(ih t m).2.2
   omega
theorem Zhe: ∀{ts us:List T},(∀t∈ts,∀u∈us,(PyData.eqv (dd t) (dd u)=true↔t=u))→(PyData.eqvAll (dds ts) (dds us)=true↔ts=us)
 | [],[],_=>by simp[dds,PyData.eqvAll]
 | [],_::_,_=>by simp[dds,PyData.eqvAll]
 | _::_,[],_=>by simp[dds,PyData.eqvAll]
 | t::ts,u::us,h=>by
  simp only[dds,PyData.eqvAll,Bool.and_eq_true,h t Zz5 u Zz5,Zhe fun t m u n=>h t (Zz2 _ m) u (Zz2 _ n),List.cons.injEq]
theorem Pln.eqv{n:Nat}{t:T}(h:Pln n t): ∀{m:Nat} {u:T},Pln m u→(PyData.eqv (dd t) (dd u)=true↔t=u):=by
 induction h with
 | none=>intro m u h;cases h <;> simp[dd,PyData.eqv]
 | int=>intro m u h;cases h <;> simp[dd,PyData.eqv]
 | str _=>intro m u h;cases h <;> simp[dd,PyData.eqv]
 | tup hs ih=>
  intro m u h
  cases h with
  | tup hu=>simp only[dd,PyData.eqv,T.tup.injEq];exact Zhe fun t a u b=>ih t a (hu u b)
  | none=>simp[dd,PyData.eqv]
  | int=>simp[dd,PyData.eqv]
  | str=>simp[dd,PyData.eqv]
  | lst=>simp[dd,PyData.eqv]
 | lst hs ih=>
  intro m u h
  cases h with
  | lst hu=>simp only[dd,PyData.eqv,T.lst.injEq];exact Zhe fun t a u b=>ih t a (hu u b)
  | none=>simp[dd,PyData.eqv]
  | int=>simp[dd,PyData.eqv]
  | str=>simp[dd,PyData.eqv]
  | tup=>simp[dd,PyData.eqv]
theorem Pln.mono{n:Nat}{t:T}(h:Pln n t): ∀{m:Nat},n≤m→Pln m t:=by
 induction h with
 | none=>intro m _;exact .none
 | int=>intro m _;exact .int
 | str h=>intro m _;exact .str h
 | tup hs ih=>
  intro m hm
  cases m with
  | zero=>omega
  | succ m=>exact .tup fun t a=>ih t a (by omega)
 | lst hs ih=>
  intro m hm
  cases m with
  | zero=>omega
  | succ m=>exact .lst fun t a=>ih t a (by omega)
theorem ZlB{n m:Nat}{a b:T}(ha:Pln n a)(hb:Pln m b)(hn:n≤40:=by decide)(hm:m≤40:=by decide): Zb4 a b=some (dec (a=b)):=by
 have ha:=ha.mono hn
 have hb:=hb.mono hm
 obtain⟨a1,a2,a3⟩:=ha.dat
 obtain⟨b1,b2,b3⟩:=hb.dat
 unfold Zb4 ZbC
 rw[a1,b1]
 simp only[Option.bind_some]
 rw[if_pos ⟨by simp only[SeqAt.shaped,a2,Bool.true_and,decide_eq_true_eq];omega,by simp only[SeqAt.shaped,b2,Bool.true_and,decide_eq_true_eq];omega⟩,Zmf (ha.eqv hb)]
section
variable {Q:T→Prop}
theorem Zi7{n m:Nat}{a b:T}(ha:Pln n a)(hb:Pln m b)(h:Q (.bool (dec (a=b))))(hn:n≤40:=by decide)(hm:m≤40:=by decide): Pk (qEq a b) Q:=⟨_,by simp only[qEq,ZlB ha hb hn hm,Option.map_some],h⟩
end
noncomputable def oT: Option Int→T
 | none=>.none
 | some x=>.int x
noncomputable def rowT(n:Nat)(b:Nat→Option Int): T:=.lst (tab n fun j=>oT (b j))
theorem Ze0{σ:TL}{i:Nat}{t:T}: updT σ i t i=some t:=by simp[updT]
end TM
end
section
namespace PM
open PySem PySem.W PySem.Calls PyProof.Rows PyProof PyProof.Rows.LCg PyProof.Rows.LCp
noncomputable def Zef(a:Nat): Nx:=fun i H=>H[a]?.bind fun vs=>match vs[i]? with
 | some x=>some (some (.tup [.int i,x]))
 | none=>if i=vs.length then some none else none
noncomputable def ZfE(f:Ex): Src:=fun ρ H=>(f ρ H).bind fun p=>match p.1 with
 | .ref a=>p.2[a]?.map fun vs=>(Zef a,vs.length+1,p.2)
 | _=>none
section
variable {prog:Program} {w:World} {Γ:Cx}
def ES(e it l:Addr)(i:Nat)(h:Heap): Prop:=(∃old,IsEnum h e it i old)∧h.IsListIter it l i
theorem ES.at{e it l:Addr}{i:Nat}{h h':Heap}(x:ES e it l i h)(k:∀a∈[e,it],∀o,h.get? a=some o→h'.get? a=some o): ES e it l i h':=by
 obtain⟨⟨old,h1⟩,h2⟩:=x
 exact⟨⟨old,k e (by simp) _ h1⟩,h2.at fun o x=>k it (by simp) o x⟩
theorem ES.have{e it l:Addr}{i:Nat}{h:Heap}(x:ES e it l i h): ∀a∈[e,it],∃o,h.get? a=some o:=by
 obtain⟨⟨old,h1⟩,o,h2,_⟩:=x
 intro a ha
 simp at ha
 rcases ha with rfl | rfl
 ·exact⟨_,h1⟩
 ·exact⟨_,h2⟩
def EIt(e it l:Addr)(i:Nat)(fs:List (Addr×Obj)): Prop:=fs.map (·.1)=[e,it]∧∀h:Heap,(∀q∈fs,h.get? q.1=some q.2)→ES e it l i h
theorem ZiG{e it l:Addr}{i:Nat}{h:Heap}(x:ES e it l i h): ∃fs,EIt e it l i fs∧∀q∈fs,h.get? q.1=some q.2:=by
 obtain⟨fs,h1,h2⟩:=Zjv h [e,it] x.have
 refine⟨fs,⟨h1,fun h' k=>x.at fun a ha o ho=>?_⟩,h2⟩
 rw[←h1]at ha
 obtain⟨q,hq,eq⟩:=Zz11.mp ha
 have:=h2 q hq
 rw[eq,ho]at this
 cases this
 exact eq▸k q hq
theorem ZlC{W0:Wd}{e it l:Addr}{a:Nat}(ea:W0.At a l)(hei:e≠it)(hle:l≠e)(hli:l≠it):
  Itr2 prog w Γ W0 (.ref e) [e,it] (EIt e it l) (Zef a):=by
 refine⟨fun i fs h=>h.1,?_,?_,?_,?_⟩
 ·intro i H v hh
  obtain⟨vs,e1,hh⟩:=Zz0.mp hh
  split at hh
  ·cases hh
   exact⟨_,_,rfl⟩
  ·split at hh <;> cases hh
 ·intro i W ρ H fr fs s Q E va vb le r ap hit hn post
  obtain⟨vs,e1,hh⟩:=Zz0.mp hn
  have hv:va=.int i∧vs[i]?=some vb:=by
   split at hh
   ·rename_i x h1
    cases hh
    exact⟨rfl,h1⟩
   ·split at hh <;> cases hh
  obtain⟨_,xs,k1,g1,v1⟩:=r.at e1 (le.at ea)
  obtain⟨x,hx,rx⟩:=v1.at hv.2
  have st:ES e it l i s.heap:=hit.2 _ fun q hq=>r.frAt (Zz4 _ hq)
  have Wk:=WalksT.enumerate (prog:=prog) (w:=w) (A:=Γ.A) Γ.hh e it l hei hle hli xs.toArray
  have isl1:s.heap.IsList l xs.toArray:=⟨_,g1,rfl,k1,rfl⟩
  have hi:i<xs.toArray.size:=by
   have h1:=(Zz6.mp hx).1
   simpa using h1
  refine Wk.item i s Q E hi ⟨st.1,st.2,isl1⟩ fun T vals h1 t1 hp hT hTup hmid keep1=>post T h1 t1 ?_
  intro elts k pos s1 Q1 E1 es1 q1
  subst es1
  have hTw:=Wk.apart i T _ hmid
  refine Wk.go elts k pos i T _ Q1 E1 hmid fun h2 st2 keep2=>?_
  obtain⟨tk,x',hx',ev⟩:=hp
  have ex:x'=x:=by
   have:xs[i]?=some x':=by simpa using hx'
   rw[hx]at this
   exact(Option.some.inj this).symm
  subst ex ev
  obtain⟨fs',hit',at'⟩:=ZiG (h:=h2) (⟨st2.1,st2.2.1⟩:ES e it l (i+1) h2)
  obtain⟨oT,gT,cT,nT,dT⟩:=hTup
  refine q1 fs' h2 (.int i tk) x' hit' ?_ ⟨oT,keep2 T oT hTw gT,cT,nT,dT⟩ (by rw[hv.1];exact .int _ _) rx
  refine r.swap (fs':=fs') (fun q hq t ht=>?_) (fun c o hc e=>?_) fun q hq=>⟨at' q hq,?_⟩
  ·exact ap _ (hit.1▸List.mem_map_of_mem hq) t ht
  ·rw[hit.1]at hc
   exact keep2 c o hc (keep1 c o hc e)
  ·rw[hit.1,←hit'.1]
   exact List.mem_map_of_mem hq
 ·intro i W ρ H fr fs s Q E le r ap hit hn post
  obtain⟨vs,e1,hh⟩:=Zz0.mp hn
  obtain⟨_,xs,k1,g1,v1⟩:=r.at e1 (le.at ea)
  have hi:i=vs.length:=by
   split at hh
   ·cases hh
   ·split at hh
    ·assumption
    ·cases hh
  have st:ES e it l i s.heap:=hit.2 _ fun q hq=>r.frAt (Zz4 _ hq)
  have Wk:=WalksT.enumerate (prog:=prog) (w:=w) (A:=Γ.A) Γ.hh e it l hei hle hli xs.toArray
  have hm:xs.toArray.size=i:=by simp[v1.length,hi]
  refine Wk.done s Q E (by rw[hm];exact⟨st.1,st.2,⟨_,g1,rfl,k1,rfl⟩⟩) fun h' tk keep=>post h' tk ?_
  have:=r.swap (fs':=[]) (fun q hq t ht=>ap _ (hit.1▸List.mem_map_of_mem hq) t ht) (fun c o hc e=>keep c o (by rw[hit.1]at hc;exact hc) e) (fun q hq=>nomatch hq)
  exact this
 ·intro i W ρ H fr fs s Q E o le r hit hn q
  obtain⟨vs,e1,hh⟩:=Zz0.mp hn
  obtain⟨_,xs,k1,g1,v1⟩:=r.at e1 (le.at ea)
  have st:ES e it l i s.heap:=hit.2 _ fun q hq=>r.frAt (Zz4 _ hq)
  have Wk:=WalksT.enumerate (prog:=prog) (w:=w) (A:=Γ.A) Γ.hh e it l hei hle hli xs.toArray
  exact Wk.self i s Q E ⟨st.1,st.2,⟨_,g1,rfl,k1,rfl⟩⟩ q
theorem ZkP{x:Str}{np pos:Pos}{e1:Expr}{f:Ex}(hn:Nm prog w Γ x (.type "enumerate"))(h1:J prog w Γ e1 f)
  (he:starEach [e1] Γ.env=(false,eval e1 Γ.env)::starEach [] Γ.env:=by rfl) (hp:∀pos,(backTo pos (starEach [] Γ.env)).any (·.1)=false:=by intro _;rfl):JI2 prog w Γ (.Call (.Name x np) [e1] [] pos) (ZfE f):=by
 intro W ρ H fr s Q E nx n H' r hf post
 obtain⟨p,a1,hf⟩:=Zz0.mp hf
 refine wpAny_Call_ofName (hn.use r ?_)
 refine PySem.Pv.callWith_type1 (wpAny_items_cons (h1 W ρ H fr s _ E _ _ r a1 fun W1 k1 t1 y1 l1 r1 v1=>wpAny_items_nil ?_) he) he (hp pos)
 obtain⟨u1,H1⟩:=p
 simp only at hf v1 r1
 cases u1 <;> first | (cases hf;done) | skip
 rename_i b1
 obtain⟨vs,c1,c3⟩:=Zz1.mp hf
 cases c3
 cases v1 with
 | @ref _ m1 ea=>
 obtain⟨_,xs,n1,g1,w1⟩:=r1.at c1 ea
 have isl1:k1.IsList m1 xs.toArray:=⟨_,g1,rfl,n1,rfl⟩
 refine call_enumerate_list (s:={ s with heap:=k1,toks:=t1 }) isl1 fun h₁ hE hI hsz up=>?_
 have hlt:m1<k1.objs.size:=Heap.lt_size g1
 have Wk:=WalksT.enumerate (prog:=prog) (w:=w) (A:=Γ.A) Γ.hh (k1.objs.size+1) k1.objs.size m1 (Nat.succ_ne_self _) (Nat.ne_of_lt (Nat.lt_succ_of_lt hlt)) (Nat.ne_of_lt hlt) xs.toArray
 have zs:ES (k1.objs.size+1) k1.objs.size m1 0 h₁:=⟨⟨_,hE⟩,hI⟩
 refine Wk.self 0 _ _ _ ⟨⟨_,hE⟩,hI,isl1.at fun o e=>up _ o e⟩ ?_
 obtain⟨fs,hit,at'⟩:=ZiG zs
 obtain⟨r3,ap3⟩:=r1.more (fs:=fs) (h':=h₁) (fun b o e=>up b o e) (fun q hq=>⟨at' q hq,by
  have:q.1∈fs.map (·.1):=List.mem_map_of_mem hq
  rw[hit.1]at this
  simp at this
  rcases this with e | e <;> rw[e] <;> omega⟩)
 refine post W1 h₁ t1 _ _ _ fs l1 hit r3 (fun b hb t ht=>?_) (ZlC ea (Nat.succ_ne_self _) (Nat.ne_of_lt (Nat.lt_succ_of_lt hlt)) (Nat.ne_of_lt hlt)) ?_
 ·rw[←hit.1]at hb
  obtain⟨q,hq,e⟩:=Zz11.mp hb
  exact e▸ap3 q hq t ht
 ·simp only[Zef,c1,Option.bind_some]
  cases q:vs[0]? with
  | some x=>exact⟨_,rfl⟩
  | none=>
   have:vs.length=0:=by simpa using q
   simp[this]
end
end PM
end
section
namespace TM
open PySem PM
section
variable {Q:T→Prop}
end
noncomputable def Zdt(ts:List T): List T:=List.zipWith (fun i t=>.tup [.int (i:Nat),t]) (List.range ts.length) ts
noncomputable def ZfF(p:PE): PG:=fun σ=>(p σ).bind fun t=>match t with
 | .lst ts=>some (Zdt ts)
 | _=>none
theorem Zil{ts:List T}: (Zdt ts).length=ts.length:=by simp[Zdt]
theorem Zim{H:Hp}: ∀{vs:List V} {ts:List T} {F:List Nat} (k:Nat),RFs H vs ts F→RFs H (List.zipWith (fun i v=>V.tup [.int (i:Nat),v]) (List.range' k ts.length) vs) (List.zipWith (fun i t=>T.tup [.int (i:Nat),t]) (List.range' k ts.length) ts) F
 | _,_,_,_,.nil=>.nil
 | _,_,_,k,.cons a b=>by
  rw[List.length_cons,List.range'_succ]
  have h1:RF H (V.tup [.int (k:Nat),_]) (T.tup [.int (k:Nat),_]) _:=.tup (.cons (.int _) (.one a))
  simpa using RFs.cons h1 (Zim (k+1) b)
theorem ZlD{O N:List Nat}{u:Bool}{e:Ex}{p:PE}(x:E O N u e p): Gs O N (ZfE e) (ZfF p):=fun c ρ σ H Φ ts s h=>by
 obtain⟨t1,h1,h⟩:=Zz0.mp h
 obtain⟨v,X,F,a1,a2,a3,a4⟩:=x c ρ σ H Φ t1 s h1
 have hlt:=a2.lt
 cases a2 with
 | none=>cases h
 | bool=>cases h
 | int=>cases h
 | str=>cases h
 | obj=>cases h
 | tup=>cases h
 | @ref b vs us F' e1 hs=>
  cases h
  have hl:=hs.length
  refine⟨Zef b,X,List.zipWith (fun i v=>V.tup [.int (i:Nat),v]) (List.range us.length) vs,F',b::F',by simp only[ZfE,a1,Option.bind_some,e1,Option.map_some,Zil,hl],?_,fun _ m=>List.mem_cons_of_mem _ m,fun a m=>⟨hlt a m,a3 a m⟩,fun K hK i hi=>?_⟩
  ·have:=Zim 0 hs
   unfold Zdt
   rw[List.range_eq_range']
   exact this
  ·simp only[Zef,hK b Zz5,e1,Option.bind_some,List.getElem?_zipWith]
   simp only[List.length_zipWith,List.length_range]at hi
   by_cases q:i<vs.length
   ·rw[List.getElem?_eq_getElem q,List.getElem?_range (by omega)]
   ·rw[List.getElem?_eq_none (by omega),List.getElem?_eq_none (by simp;omega)]
    simp
    omega
section
variable {σ:TL} {L:List T→Prop}
end
end TM
end
section
namespace TM
open PySem PM
section
variable {O N M K:List Nat} {u u' u'':Bool}
def OIn(o:List V→Hp→Option (V×Hp))(q:List T→Option T): Prop:=∀(H:Hp) (vs:List V) (ts:List T) (t:T) (F1:List Nat),RFs H vs ts F1→q ts=some t→∃v F,o vs H=some (v,H)∧RF H v t F∧F.Sublist F1
theorem ZlE{n:Nat}{es:ZT}{ps:Z6}{q:List T→Option T}{o:List V→Hp→Option (V×Hp)}(k:OIn o q)(x:Es O N u n es ps): E O N u (Zr o es) (ZW q ps):=fun c ρ σ H Φ t s h=>by
 obtain⟨ts,h1,h⟩:=Zz0.mp h
 obtain⟨_,vs,X,F,a1,a2,a3,a4⟩:=x c ρ σ H Φ ts s h1
 obtain⟨w,G,b1,b2,b3⟩:=k _ vs ts t F a2 h
 exact⟨w,X,G,by simp only[Zr,a1,Option.bind_some,b1],b2,fun a m=>a3 a (b3.subset m),fun hu=>(a4 hu).sublist b3⟩
theorem ZkQ: OIn ZbP ZcU:=fun H vs ts t F r h=>by
 unfold ZcU at h
 split at h
 ·obtain⟨v,rfl,r'⟩:=r.one_inv
  cases r' with
  | @ref a vs1 _ F1 e hs=>cases h;exact⟨.tup vs1,F1,by simp only[ZbP,e,Option.map_some],.tup hs,List.sublist_cons_self _ _⟩
 ·obtain⟨v,rfl,r'⟩:=r.one_inv
  cases r' with
  | @tup vs1 _ _ hs=>cases h;exact⟨.tup vs1,_,by simp only[ZbP],.tup hs,List.Sublist.refl _⟩
 ·cases h
end
section
variable {σ:TL} {Q:T→Prop} {B:Bool→Prop} {R:T→Prop} {N:TL→Prop}
end
end TM
end
section
namespace TM
open PySem PM
theorem Zh6{fr:Bool}: SimF fr (fun _ _=>none) (fun _=>none):=by
 intro H vs ts t F1 hp r h
 cases h
end TM
end
section
namespace TM
open PySem PM
def Keep0(g:Sm): Prop:=∀ρ H r,g ρ H=some r→r.2.1 0=ρ 0
theorem Keep0.next: Keep0 Zaj:=fun ρ H r h=>by cases h;rfl
theorem Keep0.ret{e:Ex}: Keep0 (ZK e):=fun ρ H r h=>by
 obtain⟨_,_,q⟩:=Zz1.mp h
 subst q;rfl
theorem Keep0.seq{a b:Sm}(x:Keep0 a)(y:Keep0 b): Keep0 (Zs a b):=fun ρ H r h=>by
 obtain⟨r1,e1,h⟩:=Zz0.mp h
 have h1:=x ρ H r1 e1
 split at h
 ·cases h;exact h1
 ·exact(y _ _ _ h).trans h1
section
variable {O O' R N:List Nat} {fr u:Bool}
end
section
variable {σ:TL} {R:T→Prop} {N:TL→Prop}
end
end TM
end
section
/-! Objects of the text's own classes: fields by their places. -/
namespace PM
open PySem PySem.W PySem.Calls PyProof.Rows PyProof
theorem FE.len{fs:List Str}{xs:List Value}{es:List DictEntry}(h:FE fs xs es): es.length=xs.length∧xs.length≤fs.length:=by
 induction h with
 | nil=>exact⟨rfl,Nat.zero_le _⟩
 | cons _ ih=>exact⟨by simp[ih.1],by simp[ih.2]⟩
theorem FE.noRef{fs:List Str}{xs:List Value}{es:List DictEntry}(h:FE fs xs es): es.any (·.refKey)=false:=by
 induction h with
 | nil=>rfl
 | cons _ ih=>simp only[List.any_cons,ih,Bool.or_false];rfl
theorem FE.find{fs:List Str}{xs:List Value}{es:List DictEntry}{f:Str}(h:FE fs xs es)(nf:f∉fs): es.find? (·.key.isStr f)=none:=by
 induction h with
 | nil=>rfl
 | @cons g fs x xs hs t es _ ih=>
  have n1:g≠f:=fun e=>nf (e▸List.mem_cons_self)
  have:(Value.str g t).isStr f=false:=by simp[Value.isStr,n1]
  rw[List.find?_cons]
  simp only[this]
  exact ih fun m=>nf (Zz2 _ m)
theorem FE.no{fs:List Str}{xs:List Value}{es:List DictEntry}{f:Str}(h:FE fs xs es)(nf:f∉fs): getL f es=some none:=by
 unfold getL
 rw[h.find nf,h.noRef]
 rfl
theorem FE.get{fs:List Str}{xs:List Value}{es:List DictEntry}{f:Str}{x:Value}{j:Nat}(h:FE fs xs es)(nd:fs.Nodup)(hf:fs[j]?=some f)(hx:xs[j]?=some x): getL f es=some (some x):=by
 have key:∃e,es.find? (·.key.isStr f)=some e∧e.val=x:=by
  induction h generalizing j with
  | nil=>simp at hx
  | @cons g fs x' xs hs t es _ ih=>
   cases j with
   | zero=>
    simp at hf hx
    subst hf
    subst hx
    refine⟨⟨hs,.str g t,x'⟩,?_,rfl⟩
    rw[List.find?_cons]
    simp[Value.isStr]
   | succ j=>
    simp at hf hx
    have n1:g≠f:=fun e=>(List.nodup_cons.mp nd).1 (e▸List.mem_of_getElem? hf)
    have:(Value.str g t).isStr f=false:=by simp[Value.isStr,n1]
    rw[List.find?_cons]
    simp only[this]
    exact ih (List.nodup_cons.mp nd).2 hf hx
 obtain⟨e,h1,h2⟩:=key
 unfold getL
 rw[h1]
 simp[h2]
theorem FE.isS{fs:List Str}{xs:List Value}{es:List DictEntry}(h:FE fs xs es)(f:Str): (getL f es).isSome=true:=by
 unfold getL
 split
 ·rfl
 ·rw[h.noRef];rfl
theorem FE.put{fs:List Str}{xs:List Value}{es:List DictEntry}{f:Str}{v:Value}{j:Nat}{hs:Int}{t:Tok}(h:FE fs xs es)(nd:fs.Nodup)(hf:fs[j]?=some f)(hj:j<xs.length): FE fs (xs.set j v) (putL f hs (.str f t) v es):=by
 induction h generalizing j with
 | nil=>simp at hj
 | @cons g fs x xs hs' t' es h' ih=>
  cases j with
  | zero=>
   simp at hf
   subst hf
   have:(Value.str g t').isStr g=true:=by simp[Value.isStr]
   simp only[List.set_cons_zero,putL,this,if_true]
   exact .cons h'
  | succ j=>
   simp at hf hj
   have n1:g≠f:=fun e=>(List.nodup_cons.mp nd).1 (e▸List.mem_of_getElem? hf)
   have:(Value.str g t').isStr f=false:=by simp[Value.isStr,n1]
   simp only[List.set_cons_succ,putL,this,Bool.false_eq_true,if_false]
   exact .cons (ih (List.nodup_cons.mp nd).2 hf hj)
theorem FE.app{fs:List Str}{xs:List Value}{es:List DictEntry}{f:Str}{v:Value}{hs:Int}{t:Tok}(h:FE fs xs es)(nd:fs.Nodup)(hf:fs[xs.length]?=some f): FE fs (xs++[v]) (putL f hs (.str f t) v es):=by
 induction h with
 | @nil fs=>
  cases fs with
  | nil=>simp at hf
  | cons g fs=>simp at hf;subst hf;exact .cons .nil
 | @cons g fs x xs hs' t' es h' ih=>
  simp at hf
  have n1:g≠f:=fun e=>(List.nodup_cons.mp nd).1 (e▸List.mem_of_getElem? hf)
  have:(Value.str g t').isStr f=false:=by simp[Value.isStr,n1]
  simp only[List.cons_append,putL,this,Bool.false_eq_true,if_false]
  exact .cons (ih (List.nodup_cons.mp nd).2 hf)
noncomputable def Zbi(c:Nat×List Str)(j:Nat): V→Hp→Option (V×Hp)
 | .obj c' a,H=>if c'=c then H[a]?.bind fun vs=>vs[j]?.map fun w=>(w,H)else none
 | _,_=>none
noncomputable def Zdk(c:Nat×List Str)(j:Nat): V→V→Hp→Option Hp
 | .obj c' a,w,H=>if c'=c∧a≠0 then H[a]?.bind fun vs=>if j<vs.length then some (H.set a (vs.set j w))else if j=vs.length∧j<c.2.length then some (H.set a (vs++[w]))else none else none
 | _,_,_=>none
noncomputable def Zcp(c:Nat×List Str)(j:Nat)(f o:Ex): Sm:=fun ρ H=>(f ρ H).bind fun p=>(o ρ p.2).bind fun q=>(Zdk c j q.1 p.1 q.2).map fun K=>(none,ρ,K)
noncomputable def ZfP(c:Nat×List Str): V→Bool
 | .obj c' _=>c' == c
 | _=>false
noncomputable def ZaM(c:Nat×List Str)(F:List V→Hp→Option (V×Hp))(f:Ex)(g:ZT): Ex:=fun ρ H=>(f ρ H).bind fun p=>if ZfP c p.1 then(g ρ p.2).bind fun q=>F (p.1::q.1) q.2 else none
noncomputable def ZfQ(c:Nat×List Str)(F:List V→Hp→Option (V×Hp))(g:ZT): Ex:=fun ρ H=>(g ρ H).bind fun p=>(F (.obj c p.2.length::p.1) (p.2++[[]])).bind fun q=>match q.1 with
 | .none=>some (.obj c p.2.length,q.2)
 | _=>none
theorem Rep.objAt{Γ:Cx}{W:Wd}{ρ:Lc}{H:Hp}{fr:List (Addr×Obj)}{h:Heap}{c:Nat×List Str}{i:Nat}{x:Value}{vs:List V}(r:Rep Γ W ρ H fr h)(hx:VR W (.obj c i) x)(e:H[i]?=some vs):
  ∃xa dx es n xs,x=.ref xa∧InstAt h xa ⟨.ref c.1,some dx,.plain,#[]⟩ c.1 (some (dictOf es n))∧FE c.2 xs es∧VRs W vs xs∧vs.length≤c.2.length:=by
 obtain⟨m,cc,led,r⟩:=r
 cases hx with
 | @obj _ _ a xa ox h1 h2 h3 h4=>
  obtain⟨hl,a',od,xs,g1,g2,⟨es,n,eo,fe⟩,g4⟩:=r.R.objs i vs c.2 e h2
  rw[h1]at g1
  cases g1
  subst eo
  have e1:ox=_:=h4
  subst e1
  exact⟨xa,a,es,n,xs,rfl,⟨r.get (r.R.tups _ h3),rfl,rfl,r.get g2⟩,fe,g4,hl⟩
section
variable {prog:Program} {w:World} {Γ:Cx} {K:Frag}
theorem Zeg{o:Expr}{name:Str}{pos:Pos}{f:Ex}{c:Nat×List Str}{j:Nat}{attr:Option Value}(X:K.In Γ.h₀)(ho:J prog w Γ o f)(hj:c.2[j]?=some name)(nd:c.2.Nodup)(hg:plainGet K c.1 name=true)(hh:hasDictIn K c.1=true)(ha:findIn K (.ref c.1) name=some attr)(hn:noGet K attr=true)
  (he:eval (.Attribute o name pos) Γ.env=(do
   let ov ←eval o Γ.env
   standAt pos.atName
   let r ←holding [ov] (getAttr ov name true)
   letTemporaryGo o ov r
   pure r):=by with_unfolding_all rfl):J prog w Γ (.Attribute o name pos) (eUn (Zbi c j) f):=by
 intro W ρ H fr s Q E v H' r hf post
 obtain⟨⟨v0,H1⟩,e1,hf1⟩:=Zz0.mp hf
 clear hf
 refine Attribute_any_ (ho W ρ H fr s _ E _ _ r e1 fun W1 k1 t1 x l1 r1 x1=>?_) he
 cases v0 with
 | none=>cases hf1
 | bool=>cases hf1
 | int=>cases hf1
 | str=>cases hf1
 | tup=>cases hf1
 | ref=>cases hf1
 | obj c' i=>
  simp only[Zbi]at hf1
  split at hf1
  ·rename_i ec
   subst ec
   obtain⟨vs,h1,hf2⟩:=Zz0.mp hf1
   obtain⟨w',h2,hf3⟩:=Zz1.mp hf2
   cases hf3
   obtain⟨xa,dx,es,n,xs,rfl,I,fe,hv,_⟩:=r1.objAt x1 h1
   obtain⟨y,hy,ry⟩:=hv.at h2
   obtain⟨m,cc,led,r1'⟩:=r1
   refine get_own (s:={ s with heap:=k1,toks:=t1 }) r1'.F X I hg hh ha hn (fe.get nd hj hy) (by cases ry <;> rfl) ?_
   exact post W1 k1 (t1+1) y l1 ⟨m,cc,led,r1'⟩ ry
  ·cases hf1
theorem ZjG{A:Around}{E:Value→Shared→Prop}{s:Shared}{env:Env}{o:Expr}{name:Str}{apos pos:Pos}{args:List Expr}{Q:Value→Shared→Prop}
  (hbase:attributeBase o name env (eval o env)=eval o env)
  (hfew:((backTo pos (starEach args env)).all (fun x=>!x.1) && (backToKw pos (keywordEach [] env)).all (fun x=>x.1.isSome)
   && decide (args.length+([]:List Keyword).length+(if([]:List Keyword).isEmpty then 0 else 1)<30))=true)
  (hline:(apos.endLine == pos.line)=true)
  (h:wpAny (model prog w) A (eval o env) (fun ov s₁=>∀pl,wpAny (model prog w) A (getMethod ov name pl) (fun r s₂=>wpAny (model prog w) A (callWith pos r.1 r.2 (backTo pos (starEach args env)) []) Q E s₂) E s₁) E s):
  wpAny (model prog w) A (eval (.Call (.Attribute o name apos) args [] pos) env) Q E s:=by
 rw[arm_eval_Call,hbase]
 refine wpAny_bind (wpAny_mono h (fun ov s₁ h₁=>?_) fun _ _ e=>e)
 refine wpAny_bind (wpAny_standAt ?_)
 have hform:methodCallForm (args.length+([]:List Keyword).length) (backTo pos (starEach args env)) (backToKw pos (keywordEach [] env))=true:=hfew
 have hpos:methodCallPos true o env apos pos=pure pos:=by unfold methodCallPos;simp[hline]
 unfold methodCall
 rw[hform]
 refine wpAny_bind (wpAny_holding (wpAny_mono (h₁ _) (fun r s₂ h₂=>?_) fun _ _ e=>e))
 exact wpAny_bind (wpAny_of_eq hpos h₂)
end
section
variable {prog:Program} {w:World} {K:Frag} {p:Program} {loose:List Str} {mean:ExcName→Option Value} {mg mb:Str→Option Value} {Γ:Cx} {dp un:Nat}
theorem Clr.keep(clr:Clr K p loose mean mg mb Γ dp un): K.In Γ.h₀:=by
 obtain⟨_,_,_,_,_,_,_,_,_,_,_,X,_⟩:=clr
 exact X
theorem Za3{o:Expr}{name:Str}{apos pos:Pos}{e:Expr}{es:List Expr}{f:Ex}{g:ZT}{c:Nat×List Str}{fa:Addr}{room:Nat}{F:List V→Hp→Option (V×Hp)}(clr:Clr K p loose mean mg mb Γ dp un)(ho:J prog w Γ o f)(hm:findIn K (.ref c.1) name=some (some (.ref fa)))(ht:isFn K (.ref fa)=true)(hg:plainGet K c.1 name=true)(nf:name∉c.2)(hkeep:keepIn K (.ref fa)=true)(D:Def prog w K p loose mean mg mb fa room F)(hd:dp+room<recursionLimit)(hu:un+10*room+300<cLine)
  (h:Js prog w Γ (e::es) g) (hbase:attributeBase o name Γ.env (eval o Γ.env)=eval o Γ.env:=by rfl)
  (hfew:((backTo pos (starEach (e::es) Γ.env)).all (fun x=>!x.1) && (backToKw pos (keywordEach [] Γ.env)).all (fun x=>x.1.isSome)
   && decide ((e::es).length+([]:List Keyword).length+(if([]:List Keyword).isEmpty then 0 else 1)<30))=true:=by rfl)
  (hline:(apos.endLine == pos.line)=true:=by rfl) (he:starEach (e::es) Γ.env=(false,eval e Γ.env)::starEach es Γ.env:=by rfl) (hp:∀pos,(backTo pos (starEach es Γ.env)).any (·.1)=false:=by intro _;rfl):J prog w Γ (.Call (.Attribute o name apos) (e::es) [] pos) (ZaM c F f g):=by
 intro W ρ H fr s Q E v H' r hf post
 obtain⟨⟨v0,H1⟩,e1,hf1⟩:=Zz0.mp hf
 clear hf
 simp only at hf1
 split at hf1
 case isFalse=>cases hf1
 rename_i hcl
 obtain⟨q,e2,hf2⟩:=Zz0.mp hf1
 clear hf1
 refine ZjG hbase hfew hline (ho W ρ H fr s _ E _ _ r e1 fun W1 k1 t1 x l1 r1 x1 pl=>?_)
 cases v0 with
 | none=>cases hcl
 | bool=>cases hcl
 | int=>cases hcl
 | str=>cases hcl
 | tup=>cases hcl
 | ref=>cases hcl
 | obj c' i=>
  have ec:c'=c:=by simpa [ZfP]using hcl
  subst ec
  have hi:∃vs,H1[i]?=some vs:=by
   obtain⟨m,cc,led,r1'⟩:=r1
   cases x1 with
   | obj h1 h2 h3 h4=>exact⟨_,List.getElem?_eq_getElem (r1'.R.inlt _ h2)⟩
  obtain⟨vs,hvs⟩:=hi
  obtain⟨xa,dx,es',n,xs,rfl,I,fe,hv,_⟩:=r1.objAt x1 hvs
  obtain⟨m,cc,led,r1'⟩:=id r1
  refine method_inst (s:={ s with heap:=k1,toks:=t1 }) r1'.F clr.keep I hg hm ht (fe.no nf) ?_
  refine callWith_K (first:=[.ref xa]) clr.keep hkeep (h pos W1 ρ _ fr _ _ E _ _ r1 e2 fun W2 k2 t2 ys l2 r2 y2=>⟨?_,?_⟩) he (hp pos)
  ·obtain⟨m,c,led,r2⟩:=r2
   exact clr.keep.keeps r2.F.keep
  ·exact wpAny_call (D Γ dp un clr hd hu W2 ρ _ fr _ Q E _ (.ref xa::ys) v H' r2 (.cons (x1.mono l2) y2) hf2 fun W3 k3 t3 z l3 r3 z3=>post W3 k3 t3 z ((l1.trans l2).trans l3) r3 z3)
end
end PM
end
section
namespace PM
open PySem PySem.W PySem.Calls PyProof.Rows PyProof
theorem Rep'.changedO{Γ:Cx}{W:Wd}{ρ:Lc}{H:Hp}{fr:List (Addr×Obj)}{h h':Heap}{m:Str→Option Value}{c led:List (Addr×Obj)}{i:Nat}{a:Addr}{fs:List Str}{vs us:List V}{od':Obj}{ys:List Value}(r:Rep' Γ W ρ H fr h m c led)(i0:i≠0)(e:H[i]?=some vs)(ea:W.pi[i]?=some a)(hi:(i,fs)∈W.ins)(F':Fr Γ.h₀ Γ.L h' m)(N':News Γ.h₀ Γ.L h' ((a,od')::led.filter (fun q=>decide (q.1≠a))))(hD:Zjh od' fs ys)(hv:VRs W us ys)(hl:us.length≤fs.length):
  Rep Γ W ρ (H.set i us) fr h':=by
 obtain⟨_,b,od,xs,h1,h2,h3,_⟩:=r.R.objs i vs fs e hi
 rw[ea]at h1
 cases h1
 have h2:=r.inLed i0 ea h2
 have hN:=r.N _ h2
 have hm:a∈W.pi:=List.mem_of_getElem? ea
 have hil:i<H.length:=(Zz6.mp e).1
 have other:∀(n:Nat) (d:Addr),n≠i→W.pi[n]?=some d→d≠a:=fun n d hn g1 e=>by
  subst e
  exact hn ((List.getElem?_inj (Zz6.mp g1).1 r.R.nd).mp (g1.trans ea.symm))
 refine⟨m,c,(a,od')::led.filter (fun q=>decide (q.1≠a)),⟨F',N',?_,r.sc,r.sc0,fun q hq=>?_,r.frOff,fun q hq=>?_,r.clOff,r.apart,r.frTup,r.clTup,r.own⟩⟩
 ·refine⟨by simp[r.R.len],r.R.nd,fun n ws en ni=>?_,fun q hq=>?_,r.R.kind,fun n ws gs en hi'=>?_,fun q hq=>by have:=r.R.inlt q hq;simpa using this,r.R.iuni⟩
  ·have hn:n≠i:=fun q=>ni _ hi q.symm
   rw[List.getElem?_set_ne (Ne.symm hn)]at en
   obtain⟨l,d,zs,j',g1,g2,g3⟩:=r.R.lists n ws en ni
   exact⟨l,d,zs,j',g1,Zbf g2 fun g2=>List.mem_cons_of_mem _ (List.mem_filter.mpr ⟨g2,by simpa using other n d hn g1⟩),g3⟩
  ·refine Zbf (r.R.tups q hq) fun g2=>List.mem_cons_of_mem _ (List.mem_filter.mpr ⟨g2,?_⟩)
   have:q.1≠a:=fun e=>by
    have hk:=Zie (r.R.kind q hq)
    have g:=r.get (r.R.tups q hq)
    rw[e,hN.1]at g
    obtain⟨es,n,eo,_⟩:=h3
    have c:=congrArg Obj.cls (Option.some.inj g)
    rw[eo]at c
    exact hk.2 c.symm
   simpa using this
  ·by_cases hn:n=i
   ·subst hn
    have:gs=fs:=congrArg (·.2) (r.R.iuni _ hi' _ hi rfl)
    subst this
    rw[List.getElem?_set_self hil]at en
    cases en
    exact⟨hl,a,od',ys,ea,List.mem_cons_of_mem _ Zz5,hD,hv⟩
   ·rw[List.getElem?_set_ne (Ne.symm hn)]at en
    obtain⟨l,d,od2,zs,g1,g2,g3,g4⟩:=r.R.objs n ws gs en hi'
    exact⟨l,d,od2,zs,g1,Zbf g2 fun g2=>List.mem_cons_of_mem _ (List.mem_filter.mpr ⟨g2,by simpa using other n d hn g1⟩),g3,g4⟩
 ·refine Zz2 _ (List.mem_filter.mpr ⟨r.frIn q hq,?_⟩)
  have:q.1≠a:=fun e=>r.frOff q hq (e▸hm)
  simpa using this
 ·refine Zz2 _ (List.mem_filter.mpr ⟨r.clIn q hq,?_⟩)
  have:q.1≠a:=fun e=>r.clOff q hq (e▸hm)
  simpa using this
theorem Rep'.newObj{Γ:Cx}{W:Wd}{ρ:Lc}{H:Hp}{fr:List (Addr×Obj)}{h h':Heap}{m:Str→Option Value}{cc led:List (Addr×Obj)}{c:Nat×List Str}{x dx:Addr}(r:Rep' Γ W ρ H fr h m cc led)(F':Fr Γ.h₀ Γ.L h' m)(N':News Γ.h₀ Γ.L h' ((x,instObj c.1 dx)::(dx,emptyDict)::led))(ne:∀q∈W.sc::led,q.1≠dx∧q.1≠x):
  ∃W',W.Le W'∧Rep Γ W' ρ (H++[[]]) fr h'∧VR W' (.obj c H.length) (.ref x):=by
 have piNe:∀b∈W.pi,b≠dx:=fun b hb=>by
  obtain⟨o,ho⟩:=r.piIn b hb
  exact(ne _ ho).1
 have le:W.Le ⟨W.pi++[dx],(x,instObj c.1 dx)::W.tups,W.sc,(H.length,c.2)::W.ins⟩:=⟨List.prefix_append _ _,fun q hq=>List.mem_cons_of_mem _ hq,rfl,fun q hq=>List.mem_cons_of_mem _ hq,fun q hq=>by
  rcases Zz7.mp hq with e | hq
  ·exact .inr (by rw[e,r.R.len];exact Zz10 _)
  ·exact .inl hq⟩
 have h0:0<W.pi.length:=(Zz6.mp r.sc0).1
 have at_n:(W.pi++[dx])[H.length]?=some dx:=by rw[←r.R.len];simp
 have up:∀q∈W.sc::led,q∈W.sc::(x,instObj c.1 dx)::(dx,emptyDict)::led:=fun q hq=>Zch hq fun y hy=>List.mem_cons_of_mem _ (Zz2 _ hy)
 refine⟨⟨W.pi++[dx],(x,instObj c.1 dx)::W.tups,W.sc,(H.length,c.2)::W.ins⟩,le,⟨m,cc,(x,instObj c.1 dx)::(dx,emptyDict)::led,⟨F',N',?_,r.sc,(List.getElem?_append_left h0).trans r.sc0,fun q hq=>List.mem_cons_of_mem _ (Zz2 _ (r.frIn q hq)),fun q hq=>?_,fun q hq=>List.mem_cons_of_mem _ (Zz2 _ (r.clIn q hq)),fun q hq=>?_,r.apart,fun q hq t ht=>?_,fun q hq t ht=>?_,Γ.mono le r.own⟩⟩,.obj at_n Zz5 Zz5 rfl⟩
 ·refine⟨by simp[r.R.len],?_,fun i us e ni=>?_,fun q hq=>?_,fun q hq=>?_,fun i us fs e hi=>?_,fun q hq=>?_,fun q hq t ht e=>?_⟩
  ·show(W.pi++[dx]).Nodup
   rw[List.nodup_append]
   refine⟨r.R.nd,by simp,fun a ha b hb e=>?_⟩
   rw[List.mem_singleton.mp hb]at e
   exact piNe a ha e
  ·have hi:i≠H.length:=fun q=>ni _ Zz5 q.symm
   have hi':i<H.length:=by
    have:=(Zz6.mp e).1
    simp at this
    omega
   rw[List.getElem?_append_left hi']at e
   obtain⟨l,a,ys,j,h1,h2,h3⟩:=r.R.lists i us e fun q hq=>ni q (Zz2 _ hq)
   exact⟨l,a,ys,j,le.piAt h1,up _ h2,h3.mono le⟩
  ·rcases Zz7.mp hq with e | hq
   ·rw[e];exact Zz2 _ Zz5
   ·exact up _ (r.R.tups q hq)
  ·rcases Zz7.mp hq with e | hq
   ·rw[e];exact .inr ⟨c.1,dx,rfl⟩
   ·exact r.R.kind q hq
  ·rcases Zz7.mp hi with e1 | hi
   ·cases e1
    simp at e
    subst e
    exact⟨Nat.zero_le _,dx,emptyDict,[],at_n,List.mem_cons_of_mem _ (Zz2 _ Zz5),⟨[],0,rfl,.nil⟩,.nil⟩
   ·have hi':i<H.length:=r.R.inlt _ hi
    rw[List.getElem?_append_left hi']at e
    obtain⟨l,a,od,ys,h1,h2,h3,h4⟩:=r.R.objs i us fs e hi
    exact⟨l,a,od,ys,le.piAt h1,up _ h2,h3,h4.mono le⟩
  ·rcases Zz7.mp hq with e | hq
   ·rw[e];simp
   ·have:=r.R.inlt q hq;simp;omega
  ·rcases Zz7.mp hq with e1 | hq
   ·rcases Zz7.mp ht with e2 | ht
    ·rw[e1,e2]
    ·have:=r.R.inlt t ht;rw[e1]at e;simp at e;omega
   ·rcases Zz7.mp ht with e2 | ht
    ·have:=r.R.inlt q hq;rw[e2]at e;simp at e;omega
    ·exact r.R.iuni q hq t ht e
 ·intro hm
  rcases Zz8.mp hm with hm | hm
  ·exact r.frOff q hq hm
  ·exact(ne q (Zz2 _ (r.frIn q hq))).1 (Zz9.mp hm)
 ·intro hm
  rcases Zz8.mp hm with hm | hm
  ·exact r.clOff q hq hm
  ·exact(ne q (Zz2 _ (r.clIn q hq))).1 (Zz9.mp hm)
 ·rcases Zz7.mp ht with e | ht
  ·rw[e]
   exact(ne q (Zz2 _ (r.frIn q hq))).2
  ·exact r.frTup q hq t ht
 ·rcases Zz7.mp ht with e | ht
  ·rw[e]
   exact(ne q (Zz2 _ (r.clIn q hq))).2
  ·exact r.clTup q hq t ht
section
variable {prog:Program} {w:World} {Γ:Cx} {K:Frag}
theorem Zhf{o value:Expr}{name:Str}{pos' pos:Pos}{f g:Ex}{c:Nat×List Str}{j:Nat}(X:K.In Γ.h₀)(hv:J prog w Γ value f)(ho:J prog w Γ o g)(hj:c.2[j]?=some name)(nd:c.2.Nodup)(hc:c.2.length≤1000)(hs:findIn K (.ref c.1) "__setattr__"=some (some (.builtin "object.__setattr__")))(hp:plainOver K c.1=true)(ht:takerIn K c.1 name=some none)(hh:hasDictIn K c.1=true)
  (hsw:swapsWith value (some (.Attribute o name pos')) pos.line Γ.env=pure false:=by rfl):S1 prog w Γ (.Assign [.Attribute o name pos'] value pos) (Zcp c j f g):=by
 intro W ρ H fr s Q E r rp hx post
 obtain⟨⟨v1,H1⟩,e1,hx1⟩:=Zz0.mp hx
 obtain⟨⟨v2,H2⟩,e2,hx2⟩:=Zz0.mp hx1
 obtain⟨H3,e3,hx3⟩:=Zz1.mp hx2
 subst hx3
 clear hx hx1 hx2
 refine plainObj_wpAny_Assign_Attribute (hv W ρ H fr s _ E _ _ rp e1 fun W1 k1 t1 x l1 r1 x1=>?_) hsw
 refine ho W1 ρ _ fr _ _ E _ _ r1 e2 fun W2 k2 t2 y l2 r2 y2=>?_
 simp only at e3
 cases v2 with
 | none=>cases e3
 | bool=>cases e3
 | int=>cases e3
 | str=>cases e3
 | tup=>cases e3
 | ref=>cases e3
 | obj c' i=>
  simp only[Zdk]at e3
  split at e3
  case isFalse=>cases e3
  rename_i hci
  obtain⟨ec,i0⟩:=hci
  subst ec
  obtain⟨vs,hvs,e4⟩:=Zz0.mp e3
  obtain⟨m,cc,led,r'⟩:=r2
  cases y2 with
  | @obj _ _ a xa ox h1 h2 h3 h4=>
  obtain⟨hl,a',od,xs,g1,g2,⟨es,n,eo,fe⟩,g4⟩:=r'.R.objs i vs c'.2 hvs h2
  rw[h1]at g1
  cases g1
  subst eo
  have e5:ox=_:=h4
  subst e5
  have hin:=r'.inLed i0 h1 g2
  have I:InstAt k2 xa ⟨.ref c'.1,some a,.plain,#[]⟩ c'.1 (some (dictOf es n)):=⟨r'.get (r'.R.tups _ h3),rfl,rfl,r'.get g2⟩
  have N2:News Γ.h₀ Γ.L k2 ((a,dictOf es n)::led.filter (fun q=>decide (q.1≠a))):=by
   intro q hq
   rcases Zz7.mp hq with e | hq
   ·subst e
    exact⟨r'.get g2,(r'.N _ hin).2⟩
   ·exact r'.N q (List.mem_filter.mp hq).1
  have lvx:=g4.length
  have fl:=fe.len
  have fin:∀(us:List V) (ys:List Value),H3=H2.set i us→VRs W2 us ys→us.length≤c'.2.length→FE c'.2 ys (putL name (PyData.keyHash w.params name) (.str name (t2+1)) x es) →
    wpAny (model prog w) Γ.A (setAttr (.ref xa) name x) (fun _=>Q .next) E { s with heap:=k2,toks:=t2 }:=by
   intro us ys eH hv' hl' fe'
   refine set_dict (s:={ s with heap:=k2,toks:=t2 }) r'.F X N2 I rfl hs hp ht hh (fe.isS name) rfl (Upd.head fun q hq=>by simpa using (List.mem_filter.mp hq).2) (Nat.le_trans (Nat.le_of_eq fe'.len.1) (Nat.le_trans fe'.len.2 hc)) fun h' F' N'=>?_
   rw[eH]at post
   exact post W2 h' (t2+2) (l1.trans l2) (r'.changedO i0 hvs h1 h2 F' N' ⟨_,_,rfl,fe'⟩ hv' hl')
  split at e4
  ·rename_i hjl
   cases e4
   exact fin (vs.set j v1) (xs.set j x) rfl (g4.set j (x1.mono l2)) (by simpa using hl) (fe.put nd hj (by rw[lvx];exact hjl))
  ·split at e4
   ·rename_i hjl
    cases e4
    have ej:j=xs.length:=by rw[lvx];exact hjl.1
    refine fin (vs++[v1]) (xs++[x]) rfl (g4.snoc (x1.mono l2)) (by simp;omega) (fe.app nd (by rw[←ej];exact hj))
   ·cases e4
end
section
variable {prog:Program} {w:World} {K:Frag} {p:Program} {loose:List Str} {mean:ExcName→Option Value} {mg mb:Str→Option Value} {Γ:Cx} {dp un:Nat}
theorem ZkR{c:Nat×List Str}{fI:Addr}{room:Nat}{F:List V→Hp→Option (V×Hp)}(clr:Clr K p loose mean mg mb Γ dp un)(hm:makesIn K c.1=true)(hi:findIn K (.ref c.1) "__init__"=some (some (.ref fI)))(hf:typeIn K (.ref fI)=some (.type "function"))(D:Def prog w K p loose mean mg mb fI room F)(hd:dp+(room+1)<recursionLimit)(hu:un+10*(room+1)+300<cLine)
  {W:Wd} {ρ:Lc} {H:Hp} {fr:List (Addr×Obj)} {s:Shared} {Q E:Value→Shared→Prop} {vs:List V} {xs:List Value} {v:V} {H':Hp} (r:Rep Γ W ρ H fr s.heap) (hx:VRs W vs xs) (hF:(F (.obj c H.length::vs) (H++[[]])).bind (fun q=>match q.1 with | .none=>some (V.obj c H.length,q.2) | _=>none)=some (v,H')) (post:Zdz Γ W ρ H' fr s Q v):
  wpAny (model prog w) Γ.A (call (.ref c.1) xs) Q E s:=by
 obtain⟨⟨v1,H1⟩,e1,hF1⟩:=Zz0.mp hF
 simp only at hF1
 cases v1 <;> first | (cases hF1;done) | skip
 cases hF1
 obtain⟨m,cc,led,r'⟩:=id r
 refine wpAny_call (make_K r'.F r'.N (clr.keep.keeps r'.F.keep) hm hi hf fun x dx h' F' N' lt1 lt2=>?_)
 have hne:∀q∈W.sc::led,q.1≠dx∧q.1≠x:=fun q hq=>by
  rcases Zz7.mp hq with e | hq
  ·rw[e]
   refine⟨fun z=>?_,fun z=>?_⟩
   ·have h1:=(N' _ (Zz2 _ Zz5)).2.2
    have h2:=r'.sc
    rw[z]at h2
    simp only at h1
    rw[h1]at h2
    cases h2
   ·have h1:=(N' _ Zz5).2.2
    have h2:=r'.sc
    rw[z]at h2
    simp only at h1
    rw[h1]at h2
    cases h2
  ·exact⟨Nat.ne_of_lt (lt1 q hq),Nat.ne_of_lt (Nat.lt_trans (lt1 q hq) lt2)⟩
 obtain⟨W1,l1,r1,x1⟩:=r'.newObj (c:=c) F' N' hne
 obtain⟨gd,cn,cs,a,ccd,cl,outer,A₀,base,eA,B,X,T,hke⟩:=clr
 let Γ':Cx:={ Γ with A:=ktrTop (dp+1) (un+1) gd cn cs Γ.L a ccd cl outer,hh:=rfl,hu:=by show un+1+200<cLine;omega }
 have clr':Clr K p loose mean mg mb Γ' (dp+1) (un+1):=⟨gd,cn,cs,a,ccd,cl,outer,A₀,base,rfl,B,X,T,hke⟩
 have to:∀{W:Wd} {ρ:Lc} {H:Hp} {fr:List (Addr×Obj)} {h:Heap},Rep Γ W ρ H fr h→Rep Γ' W ρ H fr h:=fun⟨m,c,led,r⟩=>⟨m,c,led,⟨r.F,r.N,r.R,r.sc,r.sc0,r.frIn,r.frOff,r.clIn,r.clOff,r.apart,r.frTup,r.clTup,r.own⟩⟩
 have from':∀{W:Wd} {ρ:Lc} {H:Hp} {fr:List (Addr×Obj)} {h:Heap},Rep Γ' W ρ H fr h→Rep Γ W ρ H fr h:=fun⟨m,c,led,r⟩=>⟨m,c,led,⟨r.F,r.N,r.R,r.sc,r.sc0,r.frIn,r.frOff,r.clIn,r.clOff,r.apart,r.frTup,r.clTup,r.own⟩⟩
 rw[eA]
 exact D Γ' (dp+1) (un+1) clr' (by omega) (by omega) W1 ρ _ fr { s with heap:=h' } (fun v s'=>v=.none∧Q (.ref x) s') E (.obj c H.length::vs) (.ref x::xs) .none _ (to r1) (.cons x1 (hx.mono l1)) e1 fun W2 h2 t2 y l2 r2 y2=>by
  cases y2
  exact⟨rfl,post W2 h2 t2 (.ref x) (l1.trans l2) (from' r2) (x1.mono l2)⟩
theorem ZmE{x:Str}{np pos:Pos}{c:Nat×List Str}{fI:Addr}{room:Nat}{F:List V→Hp→Option (V×Hp)}(clr:Clr K p loose mean mg mb Γ dp un)(hn:Nm prog w Γ x (.ref c.1))(hkeep:keepIn K (.ref c.1)=true)(hm:makesIn K c.1=true)(hi:findIn K (.ref c.1) "__init__"=some (some (.ref fI)))(hf:typeIn K (.ref fI)=some (.type "function"))(D:Def prog w K p loose mean mg mb fI room F)(hd:dp+(room+1)<recursionLimit)(hu:un+10*(room+1)+300<cLine): J prog w Γ (.Call (.Name x np) [] [] pos) (ZfQ c F Zh):=by
 intro W ρ H fr s Q E v H' r hf' post
 obtain⟨q,e1,hf'⟩:=Zz0.mp hf'
 cases e1
 refine wpAny_Call_ofName (hn.use r ?_)
 refine callWith_K0 (first:=[]) ?_ hkeep ?_
 ·obtain⟨m,c,led,r1⟩:=r
  exact clr.keep.keeps r1.F.keep
 ·exact ZkR clr hm hi hf D hd hu r .nil hf' post
end
end PM
end
section
/-! Lists of which only the upper part is own: down to a depth the lists are own, what lies below is lent. -/
namespace TM
open PySem PM
noncomputable def plc: V→Bool
 | .ref _=>true
 | .obj _ _=>true
 | _=>false
mutual
inductive RD(H:Hp): Nat→V→T→List Nat→List Nat→Prop where
 | leaf {d:Nat} {v:V} {t:T} {R:List Nat}:RF H v t R→(d=0∨(plc v=false∧d≠999))→RD H d v t [] R
 | ref {d a:Nat} {vs:List V} {ts:List T} {F R:List Nat}:d≠998→H[a]?=some vs→RDs H d vs ts F R→RD H (d+1) (.ref a) (.lst ts) (a::F) R
 | obj {d a:Nat} {c:Nat×List Str} {vs:List V} {ts:List T} {F R:List Nat}:d≠998→H[a]?=some vs→RDs H d vs ts F R→RD H (d+1) (.obj c a) (.ob c ts) (a::F) R
 | all {v:V} {t:T} {F:List Nat}:RF H v t F→RD H 999 v t F []
inductive RDs(H:Hp): Nat→List V→List T→List Nat→List Nat→Prop where
 | nil {d:Nat}:RDs H d [] [] [] []
 | cons {d:Nat} {v:V} {t:T} {F R:List Nat} {vs:List V} {ts:List T} {G Q:List Nat}:RD H d v t F R→RDs H d vs ts G Q→RDs H d (v::vs) (t::ts) (F++G) (R++Q)
end
theorem Zju{A B C D X Y:List Nat}(h:(A++B).Perm X)(k:(C++D).Perm Y): ((A++C)++(B++D)).Perm (X++Y):=by
 rw[List.perm_iff_count]at *
 intro a
 have h1:=h a
 have h2:=k a
 simp only[List.count_append]at *
 omega
mutual
theorem RD.rf{H:Hp}{d:Nat}{v:V}{t:T}{F R:List Nat}(r:RD H d v t F R): ∃G,RF H v t G∧(F++R).Perm G:=by
 cases r with
 | leaf h _=>exact⟨R,h,List.Perm.refl _⟩
 | ref _ e hs=>
  obtain⟨G,h1,h2⟩:=RDs.rf hs
  exact⟨_,.ref e h1,List.Perm.cons _ h2⟩
 | obj _ e hs=>
  obtain⟨G,h1,h2⟩:=RDs.rf hs
  exact⟨_,.obj e h1,List.Perm.cons _ h2⟩
 | all h=>exact⟨F,h,by rw[List.append_nil]⟩
theorem RDs.rf{H:Hp}{d:Nat}{vs:List V}{ts:List T}{F R:List Nat}(r:RDs H d vs ts F R): ∃G,RFs H vs ts G∧(F++R).Perm G:=by
 cases r with
 | nil=>exact⟨_,.nil,List.Perm.refl _⟩
 | cons a b=>
  obtain⟨G,h1,h2⟩:=RD.rf a
  obtain⟨Q,k1,k2⟩:=RDs.rf b
  exact⟨_,.cons h1 k1,Zju h2 k2⟩
end
mutual
theorem RF.det{H:Hp}{v:V}{t t':T}{F F':List Nat}(r:RF H v t F)(r':RF H v t' F'): t=t'∧F=F':=by
 cases r with
 | none=>cases r';exact⟨rfl,rfl⟩
 | bool b=>cases r';exact⟨rfl,rfl⟩
 | int i=>cases r';exact⟨rfl,rfl⟩
 | str s=>cases r';exact⟨rfl,rfl⟩
 | tup hs=>
  cases r' with
  | tup hs'=>obtain⟨h1,h2⟩:=RFs.det hs hs';exact⟨by rw[h1],h2⟩
 | ref e hs=>
  cases r' with
  | ref e' hs'=>
   rw[e]at e'
   cases e'
   obtain⟨h1,h2⟩:=RFs.det hs hs';exact⟨by rw[h1],by rw[h2]⟩
 | obj e hs=>
  cases r' with
  | obj e' hs'=>
   rw[e]at e'
   cases e'
   obtain⟨h1,h2⟩:=RFs.det hs hs';exact⟨by rw[h1],by rw[h2]⟩
theorem RFs.det{H:Hp}{vs:List V}{ts ts':List T}{F F':List Nat}(r:RFs H vs ts F)(r':RFs H vs ts' F'): ts=ts'∧F=F':=by
 cases r with
 | nil=>cases r';exact⟨rfl,rfl⟩
 | cons a b=>
  cases r' with
  | cons a' b'=>
   obtain⟨h1,h2⟩:=RF.det a a'
   obtain⟨k1,k2⟩:=RFs.det b b'
   exact⟨by rw[h1,k1],by rw[h2,k2]⟩
end
mutual
theorem RD.frame{H H':Hp}{d:Nat}{v:V}{t:T}{F R:List Nat}(r:RD H d v t F R)(h:∀a∈F,H'[a]?=H[a]?)(k:∀a∈R,H'[a]?=H[a]?): RD H' d v t F R:=by
 cases r with
 | leaf q z=>exact .leaf (q.frame k) z
 | ref n e hs=>exact .ref n ((h _ Zz5).trans e) (RDs.frame hs (fun a m=>h a (Zz2 _ m)) k)
 | obj n e hs=>exact .obj n ((h _ Zz5).trans e) (RDs.frame hs (fun a m=>h a (Zz2 _ m)) k)
 | all q=>exact .all (q.frame h)
theorem RDs.frame{H H':Hp}{d:Nat}{vs:List V}{ts:List T}{F R:List Nat}(r:RDs H d vs ts F R)(h:∀a∈F,H'[a]?=H[a]?)(k:∀a∈R,H'[a]?=H[a]?): RDs H' d vs ts F R:=by
 cases r with
 | nil=>exact .nil
 | cons a b=>exact .cons (RD.frame a (fun x m=>h x (Zz4 _ m)) (fun x m=>k x (Zz4 _ m))) (RDs.frame b (fun x m=>h x (Zz3 _ m)) (fun x m=>k x (Zz3 _ m)))
end
mutual
theorem RF.rd{H:Hp}{v:V}{t:T}{G:List Nat}(d:Nat)(r:RF H v t G): ∃F R,RD H d v t F R∧(F++R).Perm G:=by
 by_cases q:d=999
 ·subst q;exact⟨G,[],.all r,by rw[List.append_nil]⟩
 cases r with
 | none=>exact⟨[],[],.leaf .none (.inr ⟨rfl,q⟩),List.Perm.refl _⟩
 | bool b=>exact⟨[],[],.leaf (.bool b) (.inr ⟨rfl,q⟩),List.Perm.refl _⟩
 | int i=>exact⟨[],[],.leaf (.int i) (.inr ⟨rfl,q⟩),List.Perm.refl _⟩
 | str s=>exact⟨[],[],.leaf (.str s) (.inr ⟨rfl,q⟩),List.Perm.refl _⟩
 | tup hs=>exact⟨[],G,.leaf (.tup hs) (.inr ⟨rfl,q⟩),List.Perm.refl _⟩
 | ref e hs=>
  cases d with
  | zero=>exact⟨[],_,.leaf (.ref e hs) (.inl rfl),List.Perm.refl _⟩
  | succ d=>
   obtain⟨F,R,h1,h2⟩:=RFs.rd d hs
   exact⟨_,R,.ref (by omega) e h1,List.Perm.cons _ h2⟩
 | obj e hs=>
  cases d with
  | zero=>exact⟨[],_,.leaf (.obj e hs) (.inl rfl),List.Perm.refl _⟩
  | succ d=>
   obtain⟨F,R,h1,h2⟩:=RFs.rd d hs
   exact⟨_,R,.obj (by omega) e h1,List.Perm.cons _ h2⟩
theorem RFs.rd{H:Hp}{vs:List V}{ts:List T}{G:List Nat}(d:Nat)(r:RFs H vs ts G): ∃F R,RDs H d vs ts F R∧(F++R).Perm G:=by
 cases r with
 | nil=>exact⟨[],[],.nil,List.Perm.refl _⟩
 | cons a b=>
  obtain⟨F,R,h1,h2⟩:=RF.rd d a
  obtain⟨F',R',k1,k2⟩:=RFs.rd d b
  exact⟨_,_,.cons h1 k1,Zju h2 k2⟩
end
theorem ZiH{H:Hp}: ∀{vs:List V} {ts:List T} {G:List Nat},RFs H vs ts G→RDs H 0 vs ts [] G
 | _,_,_,.nil=>.nil
 | _,_,_,.cons a b=>by
  have:=RDs.cons (RD.leaf (d:=0) a (.inl rfl)) (ZiH b)
  simpa using this
theorem RDs.length{H:Hp}{d:Nat}: ∀{vs:List V} {ts:List T} {F R:List Nat},RDs H d vs ts F R→vs.length=ts.length
 | _,_,_,_,.nil=>rfl
 | _,_,_,_,.cons _ r=>by rw[List.length_cons,List.length_cons,r.length]
theorem RDs.append{H:Hp}{d:Nat}: ∀{vs us:List V} {ts ss:List T} {F R G Q:List Nat},RDs H d vs ts F R→RDs H d us ss G Q→RDs H d (vs++us) (ts++ss) (F++G) (R++Q)
 | _,_,_,_,_,_,_,_,.nil,h=>h
 | _,_,_,_,_,_,_,_,.cons a r,h=>by rw[List.append_assoc,List.append_assoc];exact .cons a (r.append h)
theorem RDs.one{H:Hp}{d:Nat}{v:V}{t:T}{F R:List Nat}(r:RD H d v t F R): RDs H d [v] [t] F R:=by
 have:=RDs.cons r RDs.nil
 rwa [List.append_nil,List.append_nil]at this
theorem RDs.split{H:Hp}{d:Nat}: ∀{vs:List V} {ts:List T} {F R:List Nat} {i:Nat} {t:T},RDs H d vs ts F R→ts[i]?=some t →
  ∃v G Q F1 F2 R1 R2,vs[i]?=some v∧RD H d v t G Q∧F=F1++(G++F2)∧R=R1++(Q++R2)∧∀(H':Hp) (w:V) (t':T) (G' Q':List Nat),RD H' d w t' G' Q'→(∀a∈F1++F2,H'[a]?=H[a]?)→(∀a∈R1++R2,H'[a]?=H[a]?)→RDs H' d (vs.set i w) (ts.set i t') (F1++(G'++F2)) (R1++(Q'++R2))
 | _,_,_,_,_,_,.nil,e=>by simp at e
 | _,_,_,_,0,_,.cons (G:=G1) (Q:=Q1) a r,e=>by
  simp at e
  subst e
  exact⟨_,_,_,[],G1,[],Q1,by simp,a,by simp,by simp,fun H' w t' G' Q' x h1 h2=>by simpa using RDs.cons x (r.frame (fun b m=>h1 b (by simpa using m)) (fun b m=>h2 b (by simpa using m)))⟩
 | _,_,_,_,i+1,_,.cons (F:=F0) (R:=R0) a r,e=>by
  simp at e
  obtain⟨v,G,Q,F1,F2,R1,R2,h1,h2,h3,h3',h4⟩:=r.split e
  refine⟨v,G,Q,F0++F1,F2,R0++R1,R2,by simpa using h1,h2,by rw[h3];simp,by rw[h3'];simp,fun H' w t' G' Q' x k1 k2=>?_⟩
  have:=RDs.cons (a.frame (fun b m=>k1 b (by simp[m])) (fun b m=>k2 b (by simp[m]))) (h4 H' w t' G' Q' x (fun b m=>k1 b (by rcases Zz8.mp m with m | m <;> simp[m])) (fun b m=>k2 b (by rcases Zz8.mp m with m | m <;> simp[m])))
  simpa using this
theorem Zg3{H:Hp}: ∀{vs:List V} {ts:List T} {F:List Nat},RFs H vs ts F→RDs H 999 vs ts F []
 | _,_,_,.nil=>.nil
 | _,_,_,.cons a b=>by have:=RDs.cons (RD.all a) (Zg3 b);simpa using this
theorem RDs.unall{H:Hp}: ∀{vs:List V} {ts:List T} {F R:List Nat},RDs H 999 vs ts F R→RFs H vs ts F∧R=[]
 | _,_,_,_,.nil=>⟨.nil,rfl⟩
 | _,_,_,_,.cons a b=>by
  obtain⟨h1,h2⟩:=b.unall
  cases a with
  | leaf _ q=>exact absurd q (by simp)
  | ref q _ _=>exact absurd rfl q
  | obj q _ _=>exact absurd rfl q
  | all h=>exact⟨.cons h h1,by simp[h2]⟩
theorem RD.unall{H:Hp}{v:V}{t:T}{F R:List Nat}(r:RD H 999 v t F R): RF H v t F∧R=[]:=by
 generalize e:999=d at r
 cases r with
 | leaf _ q=>omega
 | ref q _ _=>omega
 | obj q _ _=>omega
 | all h=>exact⟨h,rfl⟩
noncomputable def dn(d:Nat): Nat:=if d=999 then 999 else d-1
theorem RD.inR{H:Hp}{d a:Nat}{t:T}{F R:List Nat}(r:RD H d (.ref a) t F R)(hd:0<d): ∃vs ts F',t=.lst ts∧F=a::F'∧H[a]?=some vs∧RDs H (dn d) vs ts F' R∧∀(H':Hp) (vs':List V) (ts':List T) (G Q:List Nat),H'[a]?=some vs'→RDs H' (dn d) vs' ts' G Q→RD H' d (.ref a) (.lst ts') (a::G) Q:=by
 cases r with
 | leaf h q=>rcases q with q | q;omega;exact absurd q.1 (by simp[plc])
 | @ref d _ vs ts F' _ n e hs=>
  have:dn (d+1)=d:=by unfold dn;rw[if_neg (by omega)];omega
  rw[this]
  exact⟨vs,ts,F',rfl,rfl,e,hs,fun H' vs' ts' G Q e' hs'=>.ref n e' hs'⟩
 | all h=>
  cases h with
  | @ref _ vs ts F' e hs=>
   refine⟨vs,ts,F',rfl,rfl,e,Zg3 hs,fun H' vs' ts' G Q e' hs'=>?_⟩
   obtain⟨h1,h2⟩:=hs'.unall
   subst h2
   exact .all (.ref e' h1)
theorem RD.inO{H:Hp}{d a:Nat}{c:Nat×List Str}{t:T}{F R:List Nat}(r:RD H d (.obj c a) t F R)(hd:0<d): ∃vs ts F',t=.ob c ts∧F=a::F'∧H[a]?=some vs∧RDs H (dn d) vs ts F' R∧∀(H':Hp) (vs':List V) (ts':List T) (G Q:List Nat),H'[a]?=some vs'→RDs H' (dn d) vs' ts' G Q→RD H' d (.obj c a) (.ob c ts') (a::G) Q:=by
 cases r with
 | leaf h q=>rcases q with q | q;omega;exact absurd q.1 (by simp[plc])
 | @obj d _ _ vs ts F' _ n e hs=>
  have:dn (d+1)=d:=by unfold dn;rw[if_neg (by omega)];omega
  rw[this]
  exact⟨vs,ts,F',rfl,rfl,e,hs,fun H' vs' ts' G Q e' hs'=>.obj n e' hs'⟩
 | all h=>
  cases h with
  | @obj _ _ vs ts F' e hs=>
   refine⟨vs,ts,F',rfl,rfl,e,Zg3 hs,fun H' vs' ts' G Q e' hs'=>?_⟩
   obtain⟨h1,h2⟩:=hs'.unall
   subst h2
   exact .all (.obj e' h1)
noncomputable def fld(j:Nat): Int:=-1000000-j
noncomputable def Zep(k:Int): Option Nat:=if k≤-1000000 then some (-1000000-k).toNat else none
theorem Zh7{j:Nat}: Zep (fld j)=some j:=by unfold Zep fld;rw[if_pos (by omega)];congr 1;omega
noncomputable def ZfG(k:Int)(n:Nat): Option Nat:=if k≤-1000000 then none else seqIndex? k n
noncomputable def Zcm(f:List T→Option (List T)): List Int→T→Option T
 | [],.lst ts=>(f ts).map .lst
 | k::ks,.lst ts=>(ZfG k ts.length).bind fun j=>ts[j]?.bind fun t=>(Zcm f ks t).map fun u=>.lst (ts.set j u)
 | k::ks,.ob c ts=>(Zep k).bind fun j=>ts[j]?.bind fun t=>(Zcm f ks t).map fun u=>.ob c (ts.set j u)
 | _,_=>none
inductive LeadU(H:Hp): List Int→V→Nat→Prop where
 | nil {a:Nat}:LeadU H [] (.ref a) a
 | ref {k:Int} {ks:List Int} {b:Nat} {vs:List V} {j:Nat} {v:V} {a:Nat}:H[b]?=some vs→ZfG k vs.length=some j→vs[j]?=some v→LeadU H ks v a→LeadU H (k::ks) (.ref b) a
 | obj {k:Int} {ks:List Int} {c:Nat×List Str} {b:Nat} {vs:List V} {j:Nat} {v:V} {a:Nat}:H[b]?=some vs→Zep k=some j→vs[j]?=some v→LeadU H ks v a→LeadU H (k::ks) (.obj c b) a
noncomputable def dnn(d m:Nat): Nat:=if d=999 then 999 else d-m-1
theorem Zni{d:Nat}: dnn d 0=dn d:=by unfold dnn dn;split <;> simp
theorem Znj{d m:Nat}(h9:d≤999): dnn (dn d) m=dnn d (m+1):=by
 unfold dnn dn
 by_cases h:d=999
 ·simp[h]
 ·rw[if_neg h,if_neg h]
  split
  ·omega
  ·omega
theorem Zeh{H:Hp}{Fn Rn:List Nat}{f:List T→Option (List T)}: ∀(ks:List Int) {d:Nat} {v:V} {t t':T} {F R:List Nat},RD H d v t F R→F.Nodup→(∀a∈F,a∉R)→(∀a∈Fn,a∉F)→ks.length<d→d≤999→Zcm f ks t=some t' →
  ∃a vs ts ts' Fa Ra,LeadU H ks v a∧a∈F∧H[a]?=some vs∧RDs H (dnn d ks.length) vs ts Fa Ra∧f ts=some ts'∧Fa.Nodup∧a∉Fa∧(∀x∈Fa,x∈F)∧(∀x∈Ra,x∈R) ∧
   ∀vs' F' R',RDs H (dnn d ks.length) vs' ts' F' R'→F'.Nodup→a∉F'→a∉R'→(∀x∈F',x∈Fa∨x∈Fn)→(∀x∈R',x∈Ra∨x∈Rn)→∃F2 R2,RD (H.set a vs') d v t' F2 R2∧F2.Nodup∧(∀x∈F2,x∈F∨x∈Fn)∧∀x∈R2,x∈R∨x∈Rn
 | [],d,v,t,t',F,R,r,nd,ds,dnw,hd,h9,e=>by
  cases t with
  | none=>cases e
  | bool=>cases e
  | int=>cases e
  | str=>cases e
  | tup=>cases e
  | ob=>cases e
  | lst ts0=>
  obtain⟨ts',h1,h2⟩:=Zz1.mp e
  subst h2
  have hv:∃a,v=.ref a:=by
   obtain⟨G,rg,_⟩:=r.rf
   cases rg with
   | ref _ _=>exact⟨_,rfl⟩
  obtain⟨a,rfl⟩:=hv
  obtain⟨vs,ts,G,et,eF,e1,hs,back⟩:=r.inR (by simpa using hd)
  cases et
  subst eF
  rw[List.nodup_cons]at nd
  rw[List.length_nil,Zni]
  refine⟨a,vs,ts0,ts',G,R,.nil,List.mem_cons_self,e1,hs,h1,nd.2,nd.1,fun x m=>List.mem_cons_of_mem _ m,fun x m=>m,fun vs' F' R' r' n' na nr sub subR=>⟨a::F',R',?_,?_,?_,subR⟩⟩
  ·have ha:=(Zz6.mp e1).1
   refine back _ _ _ _ _ (List.getElem?_set_self ha) (r'.frame (fun b m=>List.getElem?_set_ne ?_) (fun b m=>List.getElem?_set_ne ?_))
   ·intro q;subst q;exact na m
   ·intro q;subst q;exact nr m
  ·exact List.nodup_cons.mpr ⟨na,n'⟩
  ·intro x m
   rcases Zz7.mp m with rfl | m
   ·exact .inl Zz5
   ·exact(sub x m).imp (Zz2 _) id
 | k::ks,d,v,t,t',F,R,r,nd,ds,dnw,hd,h9,e=>by
  have hlen:ks.length<dn d:=by
   simp only[List.length_cons]at hd
   unfold dn;split <;> omega
  have h9':dn d≤999:=by unfold dn;split <;> omega
  have main:∀(b j:Nat) (vs:List V) (ts:List T) (F':List Nat) (u u':T) (mk:List T→T),F=b::F'→t'=mk (ts.set j u')→H[b]?=some vs→RDs H (dn d) vs ts F' R→ts[j]?=some u→Zcm f ks u=some u'→(∀w a,vs[j]?=some w→LeadU H ks w a→LeadU H (k::ks) v a)→(∀(H':Hp) (vs':List V) (ts':List T) (G Q:List Nat),H'[b]?=some vs'→RDs H' (dn d) vs' ts' G Q→RD H' d v (mk ts') (b::G) Q) →
   ∃a vs ts ts' Fa Ra,LeadU H (k::ks) v a∧a∈F∧H[a]?=some vs∧RDs H (dnn d (k::ks).length) vs ts Fa Ra∧f ts=some ts'∧Fa.Nodup∧a∉Fa∧(∀x∈Fa,x∈F)∧(∀x∈Ra,x∈R) ∧
    ∀vs' F' R',RDs H (dnn d (k::ks).length) vs' ts' F' R'→F'.Nodup→a∉F'→a∉R'→(∀x∈F',x∈Fa∨x∈Fn)→(∀x∈R',x∈Ra∨x∈Rn)→∃F2 R2,RD (H.set a vs') d v t' F2 R2∧F2.Nodup∧(∀x∈F2,x∈F∨x∈Fn)∧∀x∈R2,x∈R∨x∈Rn:=by
   intro b j vs ts F' u u' mk eF et' e0 hs e2 e3 lead back
   subst eF
   subst et'
   obtain⟨w,G1,Q1,F1,F2,R1,R2,e4,g1,eF,eR,rb⟩:=hs.split e2
   subst eF
   subst eR
   rw[List.nodup_cons]at nd
   obtain⟨nb,nd⟩:=nd
   obtain⟨a1,a2,a5⟩:=List.nodup_append.mp nd
   obtain⟨nd1,a3,a4⟩:=List.nodup_append.mp a2
   have hin:∀x∈G1,x∈F1++(G1++F2):=fun x m=>List.mem_append_right _ (Zz4 _ m)
   have hinR:∀x∈Q1,x∈R1++(Q1++R2):=fun x m=>List.mem_append_right _ (Zz4 _ m)
   obtain⟨a,us,qs,qs',Fa,Ra,l,am,ea,hq,hf,gn,na,gs,gr,go⟩:=Zeh ks g1 nd1 (fun x m q=>ds x (Zz2 _ (hin x m)) (hinR x q)) (fun x m q=>dnw x m (Zz2 _ (hin x q))) hlen h9' e3
   have ed:dnn d (k::ks).length=dnn (dn d) ks.length:=by rw[List.length_cons,Znj h9]
   rw[ed]
   refine⟨a,us,qs,qs',Fa,Ra,lead w a e4 l,List.mem_cons_of_mem _ (hin a am),ea,hq,hf,gn,na,fun x m=>List.mem_cons_of_mem _ (hin x (gs x m)),fun x m=>hinR x (gr x m),fun vs' Fx Rx r' n' na' nr' sub subR=>?_⟩
   obtain⟨G2,Q2,f1,f2,f3,f4⟩:=go vs' Fx Rx r' n' na' nr' sub subR
   have aF:a∈b::(F1++(G1++F2)):=Zz2 _ (hin a am)
   have:=rb (H.set a vs') w u' G2 Q2 f1 (fun x m=>List.getElem?_set_ne fun q=>by
    subst q
    rcases Zz8.mp m with m | m
    ·exact a5 a m a (Zz4 _ am) rfl
    ·exact a4 a am a m rfl) (fun x m=>List.getElem?_set_ne fun q=>by
    subst q
    exact ds a aF (by rcases Zz8.mp m with m | m <;> simp[m]))
   rw[Zg0 e4]at this
   have hab:a≠b:=fun q=>nb (hin b (q▸am))
   refine⟨_,_,back _ _ _ _ _ ((List.getElem?_set_ne hab).trans e0) this,List.nodup_cons.mpr ⟨fun q=>?_,nd3 nd f2 f3 (fun x m q=>dnw x m (Zz2 _ q))⟩,fun x m=>?_,in3 f4⟩
   ·rcases in3 f3 b q with m | m
    ·exact nb m
    ·exact dnw b m Zz5
   ·rcases Zz7.mp m with rfl | m
    ·exact .inl Zz5
    ·exact(in3 f3 x m).imp (Zz2 _) id
  have d0:0<d:=by omega
  cases t with
  | none=>cases e
  | bool=>cases e
  | int=>cases e
  | str=>cases e
  | tup=>cases e
  | lst ts0=>
   obtain⟨j,e1,e⟩:=Zz0.mp e
   obtain⟨u,e2,e⟩:=Zz0.mp e
   obtain⟨u',e3,e⟩:=Zz1.mp e
   have hv:∃a,v=.ref a:=by
    obtain⟨G,rg,_⟩:=r.rf
    cases rg with
    | ref _ _=>exact⟨_,rfl⟩
   obtain⟨b,rfl⟩:=hv
   obtain⟨vs,ts,G,et,eF,e0,hs,back⟩:=r.inR d0
   cases et
   exact main b j vs ts0 G u u' .lst eF e.symm e0 hs e2 e3 (fun w a ew l=>.ref e0 (by rw[hs.length];exact e1) ew l) back
  | ob c ts0=>
   obtain⟨j,e1,e⟩:=Zz0.mp e
   obtain⟨u,e2,e⟩:=Zz0.mp e
   obtain⟨u',e3,e⟩:=Zz1.mp e
   have hv:∃a,v=.obj c a:=by
    obtain⟨G,rg,_⟩:=r.rf
    cases rg with
    | obj _ _=>exact⟨_,rfl⟩
   obtain⟨b,rfl⟩:=hv
   obtain⟨vs,ts,G,et,eF,e0,hs,back⟩:=r.inO d0
   cases et
   exact main b j vs ts0 G u u' (.ob c) eF e.symm e0 hs e2 e3 (fun w a ew l=>.obj e0 e1 ew l) back
noncomputable def Zbp: V→Int→Hp→Option V
 | .obj c a,k,H=>(Zep k).bind fun j=>H[a]?.bind fun vs=>vs[j]?
 | v,k,H=>if k≤-1000000 then none else(Zu v (.int k) H).map (·.1)
noncomputable def Zcb(H:Hp): List Int→V→Option V
 | [],v=>some v
 | k::ks,v=>(Zbp v k H).bind fun q=>Zcb H ks q
theorem ZmF{k:Int}{n j:Nat}(h:ZfG k n=some j): ¬k≤-1000000∧seqIndex? k n=some j:=by
 unfold ZfG at h
 split at h
 ·cases h
 ·rename_i q;exact⟨q,h⟩
theorem LeadU.follow{H:Hp}{ks:List Int}{v:V}{a:Nat}(l:LeadU H ks v a): Zcb H ks v=some (.ref a):=by
 induction l with
 | nil=>rfl
 | ref h1 h2 h3 _ ih=>
  obtain⟨q1,q2⟩:=ZmF h2
  simp only[Zcb,Zbp,if_neg q1,Zu,h1,Option.bind_some,q2,h3,Option.map_some,ih]
 | obj h1 h2 h3 _ ih=>simp only[Zcb,Zbp,h1,h2,Option.bind_some,h3,ih]
theorem ZkS{H:Hp}(X:Hp){v w:V}{k:Int}(h:Zbp v k H=some w): Zbp v k (H++X)=some w:=by
 cases v with
 | obj c a=>
  simp only[Zbp]at h ⊢
  obtain⟨j,h1,h⟩:=Zz0.mp h
  obtain⟨vs,h2,h⟩:=Zz0.mp h
  rw[h1,Option.bind_some,List.getElem?_append_left (Zz6.mp h2).1,h2,Option.bind_some,h]
 | none=>simp only[Zbp]at h ⊢;split at h;cases h;rename_i q;rw[if_neg q];cases h
 | bool=>simp only[Zbp]at h ⊢;split at h;cases h;rename_i q;rw[if_neg q];cases h
 | int=>simp only[Zbp]at h ⊢;split at h;cases h;rename_i q;rw[if_neg q];cases h
 | str=>simp only[Zbp]at h ⊢;split at h;cases h;rename_i q;rw[if_neg q];cases h
 | tup vs=>
  simp only[Zbp]at h ⊢
  split at h
  ·cases h
  ·rename_i q
   rw[if_neg q]
   obtain⟨⟨w',K⟩,h1,h2⟩:=Zz1.mp h
   rw[(ZeZ h1 X).2]
   exact congrArg some h2
 | ref a=>
  simp only[Zbp]at h ⊢
  split at h
  ·cases h
  ·rename_i q
   rw[if_neg q]
   obtain⟨⟨w',K⟩,h1,h2⟩:=Zz1.mp h
   rw[(ZeZ h1 X).2]
   exact congrArg some h2
theorem ZdU{H:Hp}(X:Hp): ∀{ks:List Int} {v w:V},Zcb H ks v=some w→Zcb (H++X) ks v=some w
 | [],_,_,h=>h
 | k::ks,v,w,h=>by
  obtain⟨w1,h1,h2⟩:=Zz0.mp h
  simp only[Zcb,ZkS X h1,Option.bind_some]
  exact ZdU X h2
def PaU(O:List Nat)(x:Nat)(e:Ex)(p:PPa): Prop:=∀(c:Ctx) (ρ:Lc) (σ:TL) (H:Hp) (Φ:Nat→List Nat) (ks:List Int) (v w:V),St c O ρ σ H Φ→p σ=some ks→ρ x=some v→Zcb H ks v=some w→∃X,e ρ H=some (w,H++X)
section
variable {O:List Nat}
theorem ZbQ{x:Nat}: PaU O x (Zb x) Zab:=fun c ρ σ H Φ ks v w s h e f=>by
 cases h;cases f
 exact⟨[],by simp[Zb,e]⟩
noncomputable def Zeq(x:Nat)(c:Nat×List Str)(j:Nat): PPa:=fun σ=>match σ x with
 | some (.ob c' _)=>if c'=c then some [fld j]else none
 | _=>none
theorem ZlF{x j:Nat}{cl:Nat×List Str}: PaU O x (eUn (Zbi cl j) (Zb x)) (Zeq x cl j):=fun c ρ σ H Φ ks v w s h ev f=>by
 unfold Zeq at h
 split at h
 ·rename_i c' ts e
  split at h
  ·rename_i ec
   cases h
   subst ec
   obtain⟨v',e1,r⟩:=s.slot x _ e
   rw[ev]at e1
   cases e1
   generalize Φ x=G at r
   cases r with
   | @obj _ a vs _ F ea hs=>
    simp only[Zcb,Zbp,Zh7,Option.bind_some,ea]at f
    obtain⟨q,f1,f2⟩:=Zz0.mp f
    cases f2
    exact⟨[],by simp[eUn,Zb,ev,Zbi,ea,f1]⟩
  ·cases h
 ·cases h
end
def Sp(H:Hp)(d:Nat)(v:V)(t:T)(F:List Nat): Prop:=∃R,RD H d v t F R∧F.Nodup∧∀a∈F,a∉R
theorem Sp.sub{H:Hp}{d:Nat}{v:V}{t:T}{F G:List Nat}(s:Sp H d v t F)(r:RF H v t G): ∀a∈F,a∈G:=fun a m=>by
 obtain⟨R,h1,_⟩:=s
 obtain⟨G',h2,h3⟩:=h1.rf
 obtain⟨_,e⟩:=r.det h2
 rw[e]
 exact h3.subset (Zz4 _ m)
theorem Sp.frame{H H':Hp}{d:Nat}{v:V}{t:T}{F G:List Nat}(s:Sp H d v t F)(r:RF H v t G)(h:∀a∈G,H'[a]?=H[a]?): Sp H' d v t F:=by
 obtain⟨R,h1,h4⟩:=s
 obtain⟨G',h2,h3⟩:=h1.rf
 obtain⟨_,e⟩:=r.det h2
 subst e
 exact⟨R,h1.frame (fun a m=>h a (h3.subset (Zz4 _ m))) (fun a m=>h a (h3.subset (Zz3 _ m))),h4⟩
theorem RF.sp{H:Hp}{v:V}{t:T}{G:List Nat}(d:Nat)(r:RF H v t G)(nd:G.Nodup): ∃F,Sp H d v t F∧∀a∈F,a∈G:=by
 obtain⟨F,R,h1,h2⟩:=r.rd d
 have:=h2.nodup_iff.mpr nd
 obtain⟨n1,n2,n3⟩:=List.nodup_append.mp this
 exact⟨F,⟨R,h1,n1,fun a m q=>n3 a m a q rfl⟩,fun a m=>h2.subset (Zz4 _ m)⟩
end TM
end
section
namespace TM
open PySem PM
noncomputable abbrev PX:=TL→Option (T×TL)
noncomputable abbrev PBX:=TL→Option (Bool×TL)
noncomputable abbrev Z7:=List (Nat×Nat)
structure Cu extends Ctx where
 Fs:Nat→List Nat
 fs:∀i,∀a∈Fs i,a∈F0
structure Su(c:Cu)(O:List Nat)(S:Z7)(ρ:Lc)(σ:TL)(H:Hp)(Φ Ψ:Nat→List Nat): Prop where
 st:St c.toCtx O ρ σ H Φ
 sp:∀i d,(i,d)∈S→∀t,σ i=some t→∃v,ρ i=some v∧Sp H d v t (Ψ i)∧(∀a∈Ψ i,c.H0.length≤a∨a∈c.Fs i)∧∀j u,j≠i→σ j=some u→∀a∈Ψ i,a∉Φ j
 ap:∀i∈O,∀d,(i,d)∉S
 nw:∀i∈O,∀t,σ i=some t→∀a∈Φ i,c.H0.length≤a
def SH(S:Z7)(σ:TL)(Ψ:Nat→List Nat)(a:Nat): Prop:=∃i d,(i,d)∈S∧(∃t,σ i=some t)∧a∈Ψ i
section
variable {c:Cu} {O:List Nat} {S:Z7} {ρ:Lc} {σ:TL} {H:Hp} {Φ Ψ:Nat→List Nat}
theorem Su.low(s:Su c O S ρ σ H Φ Ψ){k:Nat}{t:T}(e:σ k=some t): ∀a∈Φ k,a<H.length:=fun a m=>by
 obtain⟨_,_,r⟩:=s.st.slot k t e
 exact r.lt a m
theorem Su.up(s:Su c O S ρ σ H Φ Ψ){i d:Nat}(hi:(i,d)∈S){t:T}(e:σ i=some t): ∀a∈Ψ i,a∈Φ i:=fun a m=>by
 obtain⟨v,h1,h2,_⟩:=s.sp i d hi t e
 obtain⟨v',k1,k2⟩:=s.st.slot i t e
 rw[h1]at k1
 cases k1
 exact h2.sub k2 a m
theorem Su.shlow(s:Su c O S ρ σ H Φ Ψ){a:Nat}(h:SH S σ Ψ a): a<H.length:=by
 obtain⟨i,d,hi,⟨t,e⟩,m⟩:=h
 exact s.low e a (s.up hi e a m)
theorem Su.shoff(s:Su c O S ρ σ H Φ Ψ){a n:Nat}{t:T}(h:SH S σ Ψ a)(hn:∀d,(n,d)∉S)(e:σ n=some t): a∉Φ n:=by
 obtain⟨i,d,hi,⟨t',e'⟩,m⟩:=h
 obtain⟨_,_,_,_,k⟩:=s.sp i d hi t' e'
 exact k n t (fun q=>hn d (q▸hi)) e a m
theorem Su.ext(s:Su c O S ρ σ H Φ Ψ)(X:Hp): Su c O S ρ σ (H++X) Φ Ψ:=⟨s.st.ext X,fun i d hi t e=>by
 obtain⟨v,h1,h2,h3⟩:=s.sp i d hi t e
 obtain⟨v',k1,k2⟩:=s.st.slot i t e
 rw[h1]at k1
 cases k1
 exact⟨v,h1,h2.frame k2 fun a m=>List.getElem?_append_left (k2.lt a m),h3⟩,s.ap,s.nw⟩
theorem Su.less{O':List Nat}{S':Z7}(s:Su c O S ρ σ H Φ Ψ)(h:∀i∈O',i∈O)(k:∀q∈S',q∈S): Su c O' S' ρ σ H Φ Ψ:=⟨s.st.less h,fun i d hi=>s.sp i d (k _ hi),fun i hi d m=>s.ap i (h i hi) d (k _ m),fun i hi=>s.nw i (h i hi)⟩
theorem Zam{k j:Nat}{t:T}(e:ZA σ k j=some t): j≠k∧σ j=some t:=by
 unfold ZA at e
 split at e
 ·cases e
 ·rename_i h;exact⟨h,e⟩
theorem Zj4{N:List Nat}{j:Nat}{t:T}(e:Zaz σ N j=some t): j∉N∧σ j=some t:=by
 unfold Zaz at e
 split at e
 ·cases e
 ·rename_i h;exact⟨h,e⟩
theorem Su.fewer{τ:TL}(s:Su c O S ρ σ H Φ Ψ)(h:∀j t,τ j=some t→σ j=some t): Su c O S ρ τ H Φ Ψ:=
 ⟨⟨fun i t e=>s.st.slot i t (h _ _ e),fun i t e=>s.st.src i t (h _ _ e),fun i hi t e=>by
  obtain⟨h1,h2,h3⟩:=s.st.own i hi t (h _ _ e)
  exact⟨h1,h2,fun j u hj ej=>h3 j u hj (h _ _ ej)⟩,s.st.len,s.st.keep,s.st.pos,s.st.f0⟩,fun i d hi t e=>by
  obtain⟨v,h1,h2,h3,h4⟩:=s.sp i d hi t (h _ _ e)
  exact⟨v,h1,h2,h3,fun j u hj ej=>h4 j u hj (h _ _ ej)⟩,s.ap,fun i hi t e=>s.nw i hi t (h _ _ e)⟩
theorem Su.del(s:Su c O S ρ σ H Φ Ψ)(k:Nat): Su c O S ρ (ZA σ k) H Φ Ψ:=s.fewer fun j t e=>(Zam e).2
theorem SH.fewer{τ:TL}{a:Nat}(h:∀j t,τ j=some t→σ j=some t)(x:SH S τ Ψ a): SH S σ Ψ a:=by
 obtain⟨i,d,hi,⟨t,e⟩,m⟩:=x
 exact⟨i,d,hi,⟨t,h _ _ e⟩,m⟩
theorem SH.del{k a:Nat}(hS:∀d,(k,d)∉S): SH S (ZA σ k) Ψ a↔SH S σ Ψ a:=by
 constructor
 ·exact SH.fewer fun j t e=>(Zam e).2
 ·rintro⟨i,d,hi,⟨t,e⟩,m⟩
  exact⟨i,d,hi,⟨t,by unfold ZA;rw[if_neg (fun q:i=k=>hS d (q▸hi))];exact e⟩,m⟩
theorem ZdY{k j:Nat}{t u:T}(e:updT σ k t j=some u): (j=k∧u=t)∨(j≠k∧σ j=some u):=by
 unfold updT at e
 split at e
 ·rename_i h;cases e;exact .inl ⟨h,rfl⟩
 ·rename_i h;exact .inr ⟨h,e⟩
theorem Z4{k j:Nat}{t u:T}(e:updT σ k t j=some u)(h:j≠k): σ j=some u:=by
 rcases ZdY e with⟨q,_⟩ | ⟨_,e⟩
 ·exact absurd q h
 ·exact e
theorem Zei{k a:Nat}{t1:T}(hS:∀d,(k,d)∉S): SH S (updT σ k t1) Ψ a↔SH S σ Ψ a:=by
 constructor
 ·rintro⟨i,d,hi,⟨t,e⟩,m⟩
  exact⟨i,d,hi,⟨t,Z4 e fun q=>hS d (q▸hi)⟩,m⟩
 ·rintro⟨i,d,hi,⟨t,e⟩,m⟩
  exact⟨i,d,hi,⟨t,by unfold updT;rw[if_neg (fun q:i=k=>hS d (q▸hi))];exact e⟩,m⟩
theorem Su.putL{k:Nat}{v:V}{t:T}{F:List Nat}(s:Su c O S ρ σ H Φ Ψ)(hk:k∉O)(hS:∀d,(k,d)∉S)(r:RF H v t F)(hs:∀a∈F,c.H0.length≤a∨c.P a)(ho:∀i∈O,∀t',σ i=some t'→∀a∈Φ i,a∉F)(hp:∀a,SH S σ Ψ a→a∉F): Su c O S (upd ρ k v) (updT σ k t) H (Zp Φ k F) Ψ:=
 ⟨s.st.put hk r hs ho,fun i d hi u e=>by
  have ne:i≠k:=fun q=>hS d (q▸hi)
  have e0:=Z4 e ne
  obtain⟨w,h1,h2,h3,h4⟩:=s.sp i d hi u e0
  refine⟨w,by simp[PM.upd,ne,h1],h2,h3,fun j u' hj ej a m=>?_⟩
  by_cases q:j=k
  ·rw[q];simpa [Zp]using hp a ⟨i,d,hi,⟨u,e0⟩,m⟩
  ·simpa [Zp,q]using h4 j u' hj (Z4 ej q) a m,s.ap,fun i hi t e=>by
  have q:i≠k:=fun q=>hk (q▸hi)
  simpa [Zp,q]using s.nw i hi t (Z4 e q)⟩
theorem Su.putO{k:Nat}{v:V}{t:T}{F:List Nat}{O':List Nat}(s:Su c O S ρ σ H Φ Ψ)(hO:∀j∈O',j∈O∨j=k)(hS:∀d,(k,d)∉S)(r:RF H v t F)(nd:F.Nodup)(hn:∀a∈F,c.H0.length≤a)(hd:∀j u,j≠k→σ j=some u→∀a∈F,a∉Φ j): Su c O' S (upd ρ k v) (updT σ k t) H (Zp Φ k F) Ψ:=by
 refine⟨⟨fun i u e=>?_,fun i u e=>?_,fun i hi u e=>?_,s.st.len,s.st.keep,s.st.pos,s.st.f0⟩,fun i d hi u e=>?_,fun i hi d m=>?_,fun i hi u e=>?_⟩
 ·by_cases q:i=k
  ·subst q
   rcases ZdY e with⟨_,q'⟩ | ⟨q',_⟩
   ·subst q';exact⟨v,by simp[PM.upd],by simpa [Zp]using r⟩
   ·exact absurd rfl q'
  ·simpa [PM.upd,Zp,q]using s.st.slot i u (Z4 e q)
 ·by_cases q:i=k
  ·subst q;simpa [Zp]using fun a m=>Or.inl (hn a m)
  ·simpa [Zp,q]using s.st.src i u (Z4 e q)
 ·by_cases q:i=k
  ·subst q
   simp only[Zp,if_true]
   refine⟨nd,fun a m=>.inl (hn a m),fun j w hj ej a m=>?_⟩
   simpa [hj]using hd j w hj (Z4 ej hj) a m
  ·have hi':=(hO i hi).resolve_right q
   have e0:=Z4 e q
   obtain⟨h1,h2,h3⟩:=s.st.own i hi' u e0
   simp only[Zp,q,if_false]
   refine⟨h1,h2,fun j w hj ej a m=>?_⟩
   by_cases q2:j=k
   ·simp only[q2,if_true]
    exact fun m2=>hd i u q e0 a m2 m
   ·simpa [q2]using h3 j w hj (Z4 ej q2) a m
 ·have ne:i≠k:=fun q=>hS d (q▸hi)
  have e0:=Z4 e ne
  obtain⟨w,h1,h2,h3,h4⟩:=s.sp i d hi u e0
  refine⟨w,by simp[PM.upd,ne,h1],h2,h3,fun j u' hj ej a m=>?_⟩
  by_cases q:j=k
  ·simp only[Zp,q,if_true]
   exact fun m2=>hd i u ne e0 a m2 (s.up hi e0 a m)
  ·simpa [Zp,q]using h4 j u' hj (Z4 ej q) a m
 ·rcases hO i hi with q | q
  ·exact s.ap i q d m
  ·exact hS d (q▸m)
 ·by_cases q:i=k
  ·subst q;simpa [Zp]using hn
  ·simpa [Zp,q]using s.nw i ((hO i hi).resolve_right q) u (Z4 e q)
theorem Su.drop{O1:List Nat}{k:Nat}{v:V}(s:Su c O1 S (upd ρ k v) σ H Φ Ψ)(hO:∀i∈O,i∈O1): Su c O S ρ (ZA σ k) H Φ Ψ:=by
 have s:=(s.del k).less hO (fun q h=>h)
 refine⟨⟨fun i t e=>?_,s.st.src,s.st.own,s.st.len,s.st.keep,s.st.pos,s.st.f0⟩,fun i d hi t e=>?_,s.ap,s.nw⟩
 ·obtain⟨w,h1,h2⟩:=s.st.slot i t e
  exact⟨w,by simpa [PM.upd,(Zam e).1]using h1,h2⟩
 ·obtain⟨w,h1,h2⟩:=s.sp i d hi t e
  exact⟨w,by simpa [PM.upd,(Zam e).1]using h1,h2⟩
end
def EX(O:List Nat)(S:Z7)(N:List Nat)(u:Bool)(e:Ex)(p:PX): Prop:=∀(c:Cu) (ρ:Lc) (σ:TL) (H:Hp) (Φ Ψ:Nat→List Nat) (t:T) (σ':TL),Su c O S ρ σ H Φ Ψ→p σ=some (t,σ') →
 ∃v H' Φ' Ψ' F,e ρ H=some (v,H')∧H.length≤H'.length∧(∀a,a<H.length→¬SH S σ Ψ a→H'[a]?=H[a]?)∧Su c O S ρ σ' H' Φ' Ψ'∧(∀j t,(∀d,(j,d)∉S)→σ' j=some t→σ j=some t∧Φ' j=Φ j)∧(∀a,SH S σ' Ψ' a→H.length≤a∨SH S σ Ψ a)∧(∀s d,(s,d)∈S→(∃t,σ' s=some t)→∀a∈Φ' s,H.length≤a∨∃j,(∃t,σ j=some t)∧a∈Φ j)∧RF H' v t F∧(∀a∈F,From H N σ Φ a)∧(∀a,SH S σ' Ψ' a→a∉F) ∧
  (u=true→F.Nodup∧((∀n∈N,n∈O∧∀d,(n,d)∉S)→∀s d,(s,d)∈S→(∃t,σ' s=some t)→∀a∈Φ' s,a∉F))
def BX(O:List Nat)(S:Z7)(e:Ts)(p:PBX): Prop:=∀(c:Cu) (ρ:Lc) (σ:TL) (H:Hp) (Φ Ψ:Nat→List Nat) (b:Bool) (σ':TL),Su c O S ρ σ H Φ Ψ→p σ=some (b,σ') →
 ∃H' Φ' Ψ',e ρ H=some (b,H')∧H.length≤H'.length∧(∀a,a<H.length→¬SH S σ Ψ a→H'[a]?=H[a]?)∧Su c O S ρ σ' H' Φ' Ψ'∧(∀j t,(∀d,(j,d)∉S)→σ' j=some t→σ j=some t∧Φ' j=Φ j)∧(∀a,SH S σ' Ψ' a→H.length≤a∨SH S σ Ψ a)
noncomputable def xP(p:PE): PX:=fun σ=>(p σ).map fun t=>(t,σ)
noncomputable def xB(p:PB): PBX:=fun σ=>(p σ).map fun t=>(t,σ)
section
variable {O N:List Nat} {S:Z7} {u:Bool}
theorem ZJ{e:Ex}{p:PE}(x:E O N u e p)(hN:∀n∈N,∀q∈S,q.1≠n): EX O S N u e (xP p):=fun c ρ σ H Φ Ψ t σ' s h=>by
 have hN:∀n∈N,∀d,(n,d)∉S:=fun n hn d m=>hN n hn _ m rfl
 obtain⟨t',h1,h⟩:=Zz1.mp h
 cases h
 obtain⟨v,X,F,a1,a2,a3,a4⟩:=x c.toCtx ρ σ H Φ t s.st h1
 refine⟨v,H++X,Φ,Ψ,F,a1,by simp,fun a ha _=>List.getElem?_append_left ha,s.ext X,fun j t _ e=>⟨e,rfl⟩,fun a h=>.inr h,fun s' d _ ⟨t,e⟩ a m=>.inr ⟨s',⟨t,e⟩,m⟩,a2,a3,fun a h q=>?_,fun hu=>⟨a4 hu,fun hN' s' d hs ⟨t',e⟩ a m q=>?_⟩⟩
 ·rcases a3 a q with h' | ⟨n,hn,⟨tn,en⟩,mn⟩
  ·have:=s.shlow h;omega
  ·exact s.shoff h (hN n hn) en mn
 ·rcases a3 a q with h' | ⟨n,hn,⟨tn,en⟩,mn⟩
  ·have:=s.low e a m;omega
  ·exact(s.st.own n (hN' n hn).1 tn en).2.2 s' t' (fun q=>hN n hn d (q▸hs)) e a mn m
theorem ZaH{e:Ts}{p:PB}(x:Bt O e p): BX O S e (xB p):=fun c ρ σ H Φ Ψ t σ' s h=>by
 obtain⟨t',h1,h⟩:=Zz1.mp h
 cases h
 obtain⟨X,a1⟩:=x c.toCtx ρ σ H Φ t s.st h1
 exact⟨H++X,Φ,Ψ,a1,by simp,fun a ha _=>List.getElem?_append_left ha,s.ext X,fun j t _ e=>⟨e,rfl⟩,fun a h=>.inr h⟩
theorem ZhY{σ σ1:TL}{H H1 H2:Hp}{Ψ Ψ1:Nat→List Nat}(l:H.length≤H1.length)(a3:∀a,a<H.length→¬SH S σ Ψ a→H1[a]?=H[a]?)(a6:∀a,SH S σ1 Ψ1 a→H.length≤a∨SH S σ Ψ a)(b3:∀a,a<H1.length→¬SH S σ1 Ψ1 a→H2[a]?=H1[a]?): ∀a,a<H.length→¬SH S σ Ψ a→H2[a]?=H[a]?:=fun a ha hn=>by
 rw[b3 a (by omega) fun q=>(a6 a q).elim (fun q=>by omega) hn,a3 a ha hn]
theorem Zh8{σ σ1 σ2:TL}{H H1:Hp}{Ψ Ψ1 Ψ2:Nat→List Nat}(l:H.length≤H1.length)(a6:∀a,SH S σ1 Ψ1 a→H.length≤a∨SH S σ Ψ a)(b6:∀a,SH S σ2 Ψ2 a→H1.length≤a∨SH S σ1 Ψ1 a): ∀a,SH S σ2 Ψ2 a→H.length≤a∨SH S σ Ψ a:=fun a h=>by
 rcases b6 a h with q | q
 ·exact .inl (by omega)
 ·exact a6 a q
end
def Ct(k:Nat)(C:Ex→Ex): Prop:=∀e ρ H,C e ρ H=(e ρ H).bind fun p=>C (Zb k) (upd ρ k p.1) p.2
def Vl(k:Nat)(f:Ex): Prop:=∃g:Lc→Option V,(∀ρ H,f ρ H=(g ρ).map fun v=>(v,H))∧∀ρ v,g (upd ρ k v)=g ρ
def Of(k:Nat)(f:Ex): Prop:=∀ρ v H,f (upd ρ k v) H=f ρ H
def Ofs(k:Nat)(f:ZT): Prop:=∀ρ v H,f (upd ρ k v) H=f ρ H
def Cts(k:Nat)(C:Ex→ZT): Prop:=∀e ρ H,C e ρ H=(e ρ H).bind fun p=>C (Zb k) (upd ρ k p.1) p.2
section
variable {k:Nat}
theorem Zae: Ct k fun e=>e:=fun e ρ H=>by
 show e ρ H=(e ρ H).bind fun p=>Zb k (upd ρ k p.1) p.2
 cases e ρ H with
 | none=>rfl
 | some p=>simp[Zb,upd]
theorem Zcs{o:V→V→Hp→Option (V×Hp)}{C:Ex→Ex}{g:Ex}(h:Ct k C)(hg:Of k g): Ct k fun e=>Zj o (C e) g:=fun e ρ H=>by
 simp only[Zj]
 rw[h e ρ H]
 cases e ρ H with
 | none=>rfl
 | some p=>simp only[Option.bind_some,hg ρ p.1]
theorem Zcc{o:V→V→Hp→Option (V×Hp)}{C:Ex→Ex}{f:Ex}(h:Ct k C)(hf:Vl k f): Ct k fun e=>Zj o f (C e):=fun e ρ H=>by
 obtain⟨g,h1,h2⟩:=hf
 simp only[Zj,h1,h2]
 cases g ρ with
 | none=>cases e ρ H <;> rfl
 | some v=>
  simp only[Option.map_some,Option.bind_some]
  rw[h e ρ H]
  cases e ρ H with
  | none=>rfl
  | some p=>rfl
theorem Zm9{o:V→Hp→Option (V×Hp)}{C:Ex→Ex}(h:Ct k C): Ct k fun e=>eUn o (C e):=fun e ρ H=>by
 simp only[eUn]
 rw[h e ρ H]
 cases e ρ H with
 | none=>rfl
 | some p=>rfl
theorem Cts.head{C:Ex→Ex}{g:ZT}(h:Ct k C)(hg:Ofs k g): Cts k fun e=>Za (C e) g:=fun e ρ H=>by
 simp only[Za]
 rw[h e ρ H]
 cases e ρ H with
 | none=>rfl
 | some p=>simp only[Option.bind_some,hg ρ p.1]
theorem Z0{C:Ex→ZT}{f:Ex}(h:Cts k C)(hf:Vl k f): Cts k fun e=>Za f (C e):=fun e ρ H=>by
 obtain⟨g,h1,h2⟩:=hf
 simp only[Za,h1,h2]
 cases g ρ with
 | none=>cases e ρ H <;> rfl
 | some v=>
  simp only[Option.map_some,Option.bind_some]
  rw[h e ρ H]
  cases e ρ H with
  | none=>rfl
  | some p=>rfl
theorem Ct.tup{C:Ex→ZT}(h:Cts k C): Ct k fun e=>Z1 (C e):=fun e ρ H=>by
 simp only[Z1]
 rw[h e ρ H]
 cases e ρ H with
 | none=>rfl
 | some p=>rfl
theorem Ct.list{C:Ex→ZT}(h:Cts k C): Ct k fun e=>ZY (C e):=fun e ρ H=>by
 simp only[ZY]
 rw[h e ρ H]
 cases e ρ H with
 | none=>rfl
 | some p=>rfl
theorem Ct.call{f:List V→Hp→Option (V×Hp)}{C:Ex→ZT}(h:Cts k C): Ct k fun e=>Zr f (C e):=fun e ρ H=>by
 simp only[Zr]
 rw[h e ρ H]
 cases e ρ H with
 | none=>rfl
 | some p=>rfl
theorem Z8{i:Nat}(h:i≠k): Vl k (Zb i):=⟨fun ρ=>ρ i,fun ρ H=>rfl,fun ρ v=>by simp[upd,h]⟩
theorem Vl.int{i:Int}: Vl k (Zg i):=⟨fun _=>some (.int i),fun ρ H=>rfl,fun ρ v=>rfl⟩
theorem Vl.none: Vl k ZbT:=⟨fun _=>some .none,fun ρ H=>rfl,fun ρ v=>rfl⟩
theorem Vl.str{i:Str}: Vl k (Zaa i):=⟨fun _=>some (.str i),fun ρ H=>rfl,fun ρ v=>rfl⟩
end
noncomputable def Zac(k:Nat)(p1 p2:PX): PX:=fun σ=>(p1 (ZA σ k)).bind fun r=>(p2 (updT r.2 k r.1)).map fun r2=>(r2.1,ZA r2.2 k)
section
variable {O N:List Nat} {S:Z7} {u:Bool}
theorem Zh9{O1 N1:List Nat}{u1:Bool}{k:Nat}{C:Ex→Ex}{e:Ex}{p1 p2:PX}(hC:Ct k C)(x:EX O S N1 u1 e p1)(y:EX O1 S N u (C (Zb k)) p2)(hO1:∀i∈O,i∈O1)(hS:∀d,(k,d)∉S)(hN:∀n∈N,∀d,(n,d)∉S)
  (go:∀(c:Cu) (ρ:Lc) (σ σ1:TL) (H H1:Hp) (Φ Ψ Φ1 Ψ1:Nat→List Nat) (v:V) (t:T) (F:List Nat),Su c O S ρ σ H Φ Ψ→H.length≤H1.length→Su c O S ρ σ1 H1 Φ1 Ψ1→(∀j t,(∀d,(j,d)∉S)→σ1 j=some t→σ j=some t∧Φ1 j=Φ j)→RF H1 v t F→(∀a∈F,From H N1 σ Φ a)→(∀a,SH S σ1 Ψ1 a→a∉F)→(u1=true→F.Nodup∧((∀n∈N1,n∈O∧∀d,(n,d)∉S)→∀s d,(s,d)∈S→(∃t,σ1 s=some t)→∀a∈Φ1 s,a∉F))→Su c O1 S (upd ρ k v) (updT σ1 k t) H1 (Zp Φ1 k F) Ψ1)
  (c:Cu) (ρ:Lc) (σ:TL) (H:Hp) (Φ Ψ:Nat→List Nat) (t:T) (σ':TL) (s:Su c O S ρ σ H Φ Ψ) (h:Zac k p1 p2 σ=some (t,σ')):
  ∃v H' Φ' Ψ' F,C e ρ H=some (v,H')∧H.length≤H'.length∧(∀a,a<H.length→¬SH S σ Ψ a→H'[a]?=H[a]?)∧Su c O S ρ σ' H' Φ' Ψ'∧(∀j t,(∀d,(j,d)∉S)→σ' j=some t→σ j=some t∧Φ' j=Φ j)∧(∀a,SH S σ' Ψ' a→H.length≤a∨SH S σ Ψ a)∧(∀s d,(s,d)∈S→(∃t,σ' s=some t)→∀a∈Φ' s,H.length≤a∨∃j,(∃t,σ j=some t)∧a∈Φ j)∧RF H' v t F∧(∀a∈F,H.length≤a∨∃n∈N.filter (fun n=>n != k)++(if k∈N then N1 else []),(∃t,σ n=some t)∧a∈Φ n)∧(∀a,SH S σ' Ψ' a→a∉F) ∧
   (u=true→F.Nodup∧((∀n∈N,n∈O1∧∀d,(n,d)∉S)→∀s d,(s,d)∈S→(∃t,σ' s=some t)→∀a∈Φ' s,a∉F)):=by
 obtain⟨⟨t1,σ1⟩,h1,h⟩:=Zz0.mp h
 obtain⟨⟨t2,σ2⟩,h2,h⟩:=Zz1.mp h
 cases h
 have sd:=s.del k
 obtain⟨v1,H1,Φ1,Ψ1,F1,a1,a2,a3,a4,a5,a6,a11,a7,a8,a9,a10⟩:=x c ρ (ZA σ k) H Φ Ψ t1 σ1 sd h1
 have s1:=go c ρ (ZA σ k) σ1 H H1 Φ Ψ Φ1 Ψ1 v1 t1 F1 sd a2 a4 a5 a7 a8 a9 a10
 simp only[SH.del hS]at a3 a6
 obtain⟨v2,H2,Φ2,Ψ2,F2,b1,b2,b3,b4,b5,b6,b11,b7,b8,b9,b10⟩:=y c (upd ρ k v1) (updT σ1 k t1) H1 (Zp Φ1 k F1) Ψ1 t2 σ2 s1 h2
 simp only[Zei hS]at b3 b6
 have shd2:∀a,SH S (ZA σ2 k) Ψ2 a→SH S σ2 Ψ2 a:=fun a=>(SH.del hS).mp
 refine⟨v2,H2,Φ2,Ψ2,F2,by rw[hC e ρ H,a1];exact b1,by omega,ZhY a2 a3 a6 b3,b4.drop hO1,fun j w hj ej=>?_,fun a h=>Zh8 a2 a6 b6 a (shd2 a h),fun s' d hs ⟨w,ew⟩ a m=>?_,b7,fun a m=>?_,fun a h=>b9 a (shd2 a h),fun hu=>⟨(b10 hu).1,fun hn s' d hs hw=>?_⟩⟩
 ·obtain⟨q,ej⟩:=Zam ej
  obtain⟨e1,e2⟩:=b5 j w hj ej
  obtain⟨e3,e4⟩:=a5 j w hj (Z4 e1 q)
  exact⟨(Zam e3).2,by rw[e2];simpa [Zp,q]using e4⟩
 ·rcases b11 s' d hs ⟨w,(Zam ew).2⟩ a m with q | ⟨j,⟨w',e'⟩,mj⟩
  ·exact .inl (by omega)
  ·by_cases q:j=k
   ·subst q
    simp only[Zp,if_true]at mj
    rcases a8 a mj with q | ⟨n',_,⟨w',e'⟩,mn'⟩
    ·exact .inl q
    ·exact .inr ⟨n',⟨w',(Zam e').2⟩,mn'⟩
   ·simp only[Zp,q,if_false]at mj
    have e1:=Z4 e' q
    by_cases hjs:∀d,(j,d)∉S
    ·obtain⟨e3,e4⟩:=a5 j w' hjs e1
     exact .inr ⟨j,⟨w',(Zam e3).2⟩,e4▸mj⟩
    ·obtain⟨d',hd⟩:=Classical.not_forall.mp hjs
     rcases a11 j d' (Classical.not_not.mp hd) ⟨w',e1⟩ a mj with q | ⟨j',⟨w2,e2⟩,m2⟩
     ·exact .inl q
     ·exact .inr ⟨j',⟨w2,(Zam e2).2⟩,m2⟩
 ·rcases b8 a m with q | ⟨n,hn,⟨w,e⟩,mn⟩
  ·exact .inl (by omega)
  ·by_cases q:n=k
   ·subst q
    simp only[Zp,if_true]at mn
    rcases a8 a mn with q | ⟨n',hn',⟨w',e'⟩,mn'⟩
    ·exact .inl q
    ·refine .inr ⟨n',List.mem_append_right _ ?_,⟨w',(Zam e').2⟩,mn'⟩
     rw[if_pos hn];exact hn'
   ·simp only[Zp,q,if_false]at mn
    obtain⟨e3,e4⟩:=a5 n w (hN n hn) (Z4 e q)
    exact .inr ⟨n,List.mem_append_left _ (List.mem_filter.mpr ⟨hn,by simpa using q⟩),⟨w,(Zam e3).2⟩,e4▸mn⟩
 ·obtain⟨w,ew⟩:=hw
  exact(b10 hu).2 hn s' d hs ⟨w,(Zam ew).2⟩
theorem Zau{k:Nat}{C:Ex→Ex}{e:Ex}{p1 p2:PX}(hC:Ct k C)(x:EX O S [] true e p1)(y:EX (k::O) S N u (C (Zb k)) p2)(hS:∀q∈S,q.1≠k)(hN:∀n∈N,∀q∈S,q.1≠n): EX O S (N.filter (fun n=>n != k)) u (C e) (Zac k p1 p2):=fun c ρ σ H Φ Ψ t σ' s h=>by
 have hS:∀d,(k,d)∉S:=fun d m=>hS _ m rfl
 have hN:∀n∈N,∀d,(n,d)∉S:=fun n hn d m=>hN n hn _ m rfl
 obtain⟨v,H',Φ',Ψ',F,a1,a2,a3,a4,a5,a6,a11,a7,a8,a9,a10⟩:=Zh9 hC x y (fun i hi=>List.mem_cons_of_mem _ hi) hS hN (fun c ρ σ σ1 H H1 Φ Ψ Φ1 Ψ1 v t F s l s1 old r fr sh un=>by
  have new1:∀a∈F,H.length≤a:=fun a m=>(fr a m).nil
  obtain⟨nd1,of1⟩:=un rfl
  refine s1.putO (fun j hj=>by rcases Zz7.mp hj with h | h;exact .inr h;exact .inl h) hS r nd1 (fun a m=>Nat.le_trans s.st.len (new1 a m)) (fun j w hj ej a m q=>?_)
  by_cases hjs:∀d,(j,d)∉S
  ·obtain⟨e1,e2⟩:=old j w hjs ej
   have:=s.low e1 a (e2▸q)
   have:=new1 a m
   omega
  ·obtain⟨d,hd⟩:=Classical.not_forall.mp hjs
   exact of1 (by simp) j d (Classical.not_not.mp hd) ⟨w,ej⟩ a q m) c ρ σ H Φ Ψ t σ' s h
 refine⟨v,H',Φ',Ψ',F,a1,a2,a3,a4,a5,a6,a11,a7,fun a m=>?_,a9,fun hu=>⟨(a10 hu).1,fun hn=>(a10 hu).2 fun n hn'=>?_⟩⟩
 ·have:=a8 a m
  have e0:(if k∈N then([]:List Nat)else [])=[]:=by split <;> rfl
  rw[e0,List.append_nil]at this
  exact this
 ·by_cases q:n=k
  ·subst q;exact⟨Zz5,hS⟩
  ·obtain⟨k1,k2⟩:=hn n (List.mem_filter.mpr ⟨hn',by simpa using q⟩)
   exact⟨Zz2 _ k1,k2⟩
theorem Zg4{k:Nat}{N1:List Nat}{u1:Bool}{C:Ex→Ex}{e:Ex}{p1 p2:PX}(hC:Ct k C)(x:EX O S N1 u1 e p1)(y:EX O S N u (C (Zb k)) p2)(hk:k∉O)(hS:∀q∈S,q.1≠k)(hN1:∀n∈N1,n∉O∧∀q∈S,q.1≠n)(hN:∀n∈N,∀q∈S,q.1≠n): EX O S (N.filter (fun n=>n != k)++(if k∈N then N1 else [])) (u && !(N.contains k)) (C e) (Zac k p1 p2):=fun c ρ σ H Φ Ψ t σ' s h=>by
 have hS:∀d,(k,d)∉S:=fun d m=>hS _ m rfl
 have hN:∀n∈N,∀d,(n,d)∉S:=fun n hn d m=>hN n hn _ m rfl
 have hN1':∀n∈N1,∀d,(n,d)∉S:=fun n hn d m=>(hN1 n hn).2 _ m rfl
 obtain⟨v,H',Φ',Ψ',F,a1,a2,a3,a4,a5,a6,a11,a7,a8,a9,a10⟩:=Zh9 hC x y (fun i hi=>hi) hS hN (fun c ρ σ σ1 H H1 Φ Ψ Φ1 Ψ1 v t F s l s1 old r fr sh un=>by
  refine s1.putL hk hS r (fun a m=>s.st.from_src (fr a m)) (fun i hi w e a m q=>?_) sh
  obtain⟨e1,e2⟩:=old i w (s.ap i hi) e
  rw[e2]at m
  rcases fr a q with q | ⟨n,hn,⟨w',e'⟩,mn⟩
  ·have:=s.low e1 a m;omega
  ·exact(s.st.own i hi w e1).2.2 n w' (fun q=>(hN1 n hn).1 (q▸hi)) e' a m mn) c ρ σ H Φ Ψ t σ' s h
 refine⟨v,H',Φ',Ψ',F,a1,a2,a3,a4,a5,a6,a11,a7,a8,a9,fun hu=>?_⟩
 simp only[Bool.and_eq_true,Bool.not_eq_true',List.contains_eq_mem,decide_eq_false_iff_not]at hu
 refine⟨(a10 hu.1).1,fun hn=>(a10 hu.1).2 fun n hn'=>hn n ?_⟩
 exact Zz4 _ (List.mem_filter.mpr ⟨hn',by simpa using fun q:n=k=>hu.2 (q▸hn')⟩)
end
end TM
end
section
namespace TM
open PySem PM
def SimX(n:Nat)(sd:Z7)(fr:Bool)(f:List V→Hp→Option (V×Hp))(p:List T→Option (T×List T)): Prop:=
 ∀(H:Hp) (vs:List V) (ts:List T) (t:T) (us:List T) (Φ Ψ:Nat→List Nat),0<H.length→vs.length=n→ts.length=n →
 (∀(i:Nat) (t:T),ts[i]?=some t→∃v,vs[i]?=some v∧RF H v t (Φ i)) →
 (∀(i d:Nat),(i,d)∈sd→∀(v:V) (t:T),vs[i]?=some v→ts[i]?=some t→Sp H d v t (Ψ i)∧0∉Ψ i∧∀(j:Nat) (u:T),j≠i→ts[j]?=some u→∀a∈Ψ i,a∉Φ j) →
 p ts=some (t,us) →
 ∃(v:V) (H':Hp) (Φ' Ψ':Nat→List Nat) (F:List Nat),f vs H=some (v,H')∧H.length≤H'.length∧(∀a,a<H.length→(∀i d,(i,d)∈sd→a∉Ψ i)→H'[a]?=H[a]?)∧us.length=sd.length ∧
 (∀(k i d:Nat) (v:V) (u:T),sd[k]?=some (i,d)→vs[i]?=some v→us[k]?=some u→RF H' v u (Φ' i)∧Sp H' d v u (Ψ' i)∧(∀a∈Ψ' i,H.length≤a∨a∈Ψ i)∧(∀a∈Φ' i,H.length≤a∨∃j,j<n∧a∈Φ j)∧(∀a∈Ψ' i,a∉F)∧(∀j d',j≠i→(j,d')∈sd→∀a∈Ψ' i,a∉Φ' j)∧(fr=true→∀a∈Φ' i,a∉F)) ∧
 RF H' v t F∧(∀a∈F,H.length≤a∨∃j,j<n∧a∈Φ j)∧(fr=true→F.Nodup∧∀a∈F,H.length≤a)
def XAs(O M:List Nat)(as:List (Option Nat))(es:ZT)(ps:Z6): Prop:=∀(c:Ctx) (ρ:Lc) (σ:TL) (H:Hp) (Φ:Nat→List Nat) (ts:List T),St c O ρ σ H Φ→ps σ=some ts→ts.length=as.length∧∃(vs:List V) (X:Hp),es ρ H=some (vs,H++X)∧vs.length=as.length∧(∀(i x:Nat),as[i]?=some (some x)→vs[i]?=ρ x∧ts[i]?=σ x)∧∀(i:Nat) (t:T),as[i]?=some none→ts[i]?=some t→∃v F,vs[i]?=some v∧RF (H++X) v t F∧∀a∈F,From H M σ Φ a
section
variable {O M:List Nat}
theorem XAs.nil: XAs O M [] Zh Zo:=fun c ρ σ H Φ ts s h=>by
 cases h
 exact⟨rfl,[],[],by simp[Zh],rfl,by simp,by simp⟩
theorem XAs.slot{x:Nat}{as:List (Option Nat)}{es:ZT}{ps:Z6}(y:XAs O M as es ps): XAs O M (some x::as) (Za (Zb x) es) (Zd (Zc x) ps):=fun c ρ σ H Φ ts s h=>by
 obtain⟨t,h1,h⟩:=Zz0.mp h
 obtain⟨rs,h2,h⟩:=Zz0.mp h
 cases h
 obtain⟨v,e1,_⟩:=s.slot x t h1
 obtain⟨l,vs,X,a1,a2,a3,a4⟩:=y c ρ σ H Φ rs s h2
 refine⟨by simp[l],v::vs,X,by simp[Za,Zb,e1,a1],by simp[a2],fun i z e=>?_,fun i t' e e'=>?_⟩
 ·cases i with
  | zero=>simp at e;subst e;exact⟨by simp[e1],by rw[List.getElem?_cons_zero];exact h1.symm⟩
  | succ i=>simpa using a3 i z (by simpa using e)
 ·cases i with
  | zero=>simp at e
  | succ i=>simpa using a4 i t' (by simpa using e) (by simpa using e')
theorem Zz{N:List Nat}{u:Bool}{e:Ex}{p:PE}{as:List (Option Nat)}{es:ZT}{ps:Z6}(x:E O N u e p)(hN:∀n∈N,n∈M)(y:XAs O M as es ps): XAs O M (none::as) (Za e es) (Zd p ps):=fun c ρ σ H Φ ts s h=>by
 obtain⟨t,h1,h⟩:=Zz0.mp h
 obtain⟨rs,h2,h⟩:=Zz0.mp h
 cases h
 obtain⟨v,X,F,e1,e2,e3,_⟩:=x c ρ σ H Φ t s h1
 obtain⟨l,vs,Y,a1,a2,a3,a4⟩:=y c ρ σ (H++X) Φ rs (s.ext X) h2
 refine⟨by simp[l],v::vs,X++Y,by simp[Za,e1,a1],by simp[a2],fun i z e=>?_,fun i t' e e'=>?_⟩
 ·cases i with
  | zero=>simp at e
  | succ i=>simpa using a3 i z (by simpa using e)
 ·cases i with
  | zero=>
   simp at e'
   subst e'
   exact⟨v,F,by simp,by rw[←List.append_assoc];exact e2.ext Y,fun a m=>(e3 a m).mono hN⟩
  | succ i=>
   obtain⟨w,G,k1,k2,k3⟩:=a4 i t' (by simpa using e) (by simpa using e')
   exact⟨w,G,by simpa using k1,by rw[←List.append_assoc];exact k2,fun a m=>(k3 a m).back⟩
end
noncomputable def pick{α:Type}: List Nat→List α→(Nat→α)→Nat→α
 | x::xs,u::us,g=>fun j=>if j=x then u else pick xs us g j
 | _,_,g=>g
theorem Zb9{α:Type}{g:Nat→α}: ∀{xs:List Nat} {us:List α},xs.length=us.length→∀j,(∃(k:Nat) (u:α),xs[k]?=some j∧us[k]?=some u∧pick xs us g j=u)∨(j∉xs∧pick xs us g j=g j)
 | [],[],_,j=>.inr ⟨by simp,rfl⟩
 | x::xs,u::us,h,j=>by
  by_cases q:j=x
  ·exact .inl ⟨0,u,by simp[q],by simp,by simp[pick,q]⟩
  ·rcases Zb9 (g:=g) (xs:=xs) (us:=us) (by simpa using h) j with⟨k,w,h1,h2,h3⟩ | ⟨h1,h2⟩
   ·exact .inl ⟨k+1,w,by simpa using h1,by simpa using h2,by simpa [pick,q]using h3⟩
   ·exact .inr ⟨by simp[q,h1],by simpa [pick,q]using h2⟩
theorem Zd7{α:Type}{g:Nat→α}: ∀{xs:List Nat} {us:List α} {k j:Nat} {u:α},xs.Nodup→xs[k]?=some j→us[k]?=some u→pick xs us g j=u
 | [],_,_,_,_,_,h,_=>by simp at h
 | x::xs,[],_,_,_,_,_,h=>by simp at h
 | x::xs,w::us,0,j,u,nd,h1,h2=>by
  simp at h1 h2
  simp[pick,h1,h2]
 | x::xs,w::us,k+1,j,u,nd,h1,h2=>by
  simp at h1 h2
  have:j≠x:=fun q=>(List.nodup_cons.mp nd).1 (q▸List.mem_of_getElem? h1)
  simp only[pick,this,if_false]
  exact Zd7 (List.nodup_cons.mp nd).2 h1 h2
noncomputable def ZH(b:Bool)(xs:List Nat)(p:List T→Option (T×List T))(ps:Z6): PX:=fun σ=>(ps σ).bind fun ts=>(p ts).bind fun r=>if b=true→r.1.flat=true then some (r.1,pick xs (r.2.map some) σ)else none
section
variable {O M:List Nat} {S:Z7}
theorem EX.call{n:Nat}{sd:Z7}{fr b:Bool}{f:List V→Hp→Option (V×Hp)}{p:List T→Option (T×List T)}{as:List (Option Nat)}{es:ZT}{ps:Z6}{xs:List Nat}(k:SimX n sd fr f p)(y:XAs O M as es ps)(hb:fr=true∨b=true)(hn:as.length=n)
  (hx:xs.length=sd.length) (nd:xs.Nodup) (hS:∀k,k<sd.length→(xs.getD k 0,(sd.getD k (0,0)).2)∈S∧as[(sd.getD k (0,0)).1]?=some (some (xs.getD k 0))) (ha:∀i,i<as.length→(as.getD i none=none∨i∈sd.map (·.1))) (nds:(sd.map (·.1)).Nodup)
  (uq:∀q∈S,∀r∈S,q.1=r.1→q.2=r.2) (hM:∀m∈M,m∉O∧∀q∈S,q.1≠m):EX O S [] true (Zr f es) (ZH b xs p ps):=fun c ρ σ H Φ Ψ t σ' s h=>by
 have hM':∀m∈M,∀d,(m,d)∉S:=fun m hm d q=>(hM m hm).2 _ q rfl
 have at_k:∀(k i d:Nat),sd[k]?=some (i,d)→∃x,xs[k]?=some x∧(x,d)∈S∧as[i]?=some (some x):=fun k i d e=>by
  have hk:=(Zz6.mp e).1
  obtain⟨h1,h2⟩:=hS k hk
  have e1:sd.getD k (0,0)=(i,d):=by simp[List.getD,e]
  rw[e1]at h1 h2
  have:k<xs.length:=by omega
  refine⟨xs[k],List.getElem?_eq_getElem this,?_,?_⟩
  ·simpa [List.getD,List.getElem?_eq_getElem this]using h1
  ·simpa [List.getD,List.getElem?_eq_getElem this]using h2
 have slotS:∀(i x:Nat),as[i]?=some (some x)→∃(k d:Nat),sd[k]?=some (i,d)∧xs[k]?=some x∧(x,d)∈S:=fun i x e=>by
  have hi:=(Zz6.mp e).1
  rcases ha i hi with q | q
  ·simp[List.getD,e]at q
  ·obtain⟨k,hk,q⟩:=List.getElem_of_mem q
   rw[List.length_map]at hk
   have q:(sd.getD k (0,0)).1=i:=by simpa [List.getD,List.getElem?_eq_getElem hk]using q
   have e1:sd[k]?=some (i,(sd.getD k (0,0)).2):=by
    rw[List.getElem?_eq_getElem hk]
    have:sd.getD k (0,0)=sd[k]:=by simp[List.getD,List.getElem?_eq_getElem hk]
    rw[this]at q ⊢
    rw[←q]
   obtain⟨x',h1,h2,h3⟩:=at_k k i _ e1
   rw[e]at h3
   cases h3
   exact⟨k,_,e1,h1,h2⟩
 obtain⟨ts,h1,h⟩:=Zz0.mp h
 obtain⟨⟨t0,us⟩,h2,h⟩:=Zz0.mp h
 split at h
 case isFalse=>cases h
 rename_i hfl
 cases h
 obtain⟨l,vs,X,a1,a2,a3,a4⟩:=y c.toCtx ρ σ H Φ ts s.st h1
 have sX:=s.ext X
 have len:(H++X).length=H.length+X.length:=List.length_append
 have ex:∀i:Nat,∃G:List Nat,∀t:T,ts[i]?=some t→∃v,vs[i]?=some v∧RF (H++X) v t G∧(as[i]?=some none→∀a∈G,From H M σ Φ a)∧∀x,as[i]?=some (some x)→G=Φ x:=fun i=>by
  cases e:as[i]? with
  | none=>exact⟨[],fun t et=>by
    have:=(Zz6.mp et).1
    have:=List.getElem?_eq_none_iff.mp e
    omega⟩
  | some o=>
   cases o with
   | none=>
    cases et:ts[i]? with
    | none=>exact⟨[],fun t q=>by cases q⟩
    | some t=>
     obtain⟨v,F,k1,k2,k3⟩:=a4 i t e et
     exact⟨F,fun t' q=>by cases q;exact⟨v,k1,k2,(fun _=>k3),(fun x q=>by cases q)⟩⟩
   | some x=>
    obtain⟨k1,k2⟩:=a3 i x e
    refine⟨Φ x,fun t q=>?_⟩
    rw[k2]at q
    obtain⟨v,e1,e2⟩:=sX.st.slot x t q
    exact⟨v,k1.trans e1,e2,(fun q=>by cases q),(fun x' q=>by cases q;rfl)⟩
 let Φc:Nat→List Nat:=fun i=>Classical.choose (ex i)
 have hΦ:∀(i:Nat) (t:T),ts[i]?=some t→∃v,vs[i]?=some v∧RF (H++X) v t (Φc i)∧(as[i]?=some none→∀a∈Φc i,From H M σ Φ a)∧∀x,as[i]?=some (some x)→Φc i=Φ x:=fun i=>Classical.choose_spec (ex i)
 let Ψc:Nat→List Nat:=fun i=>match as[i]? with
  | some (some x)=>Ψ x
  | _=>[]
 have hΨ:∀(i x:Nat),as[i]?=some (some x)→Ψc i=Ψ x:=fun i x e=>by simp only[Ψc,e]
 have hp:0<(H++X).length:=by have:=s.st.pos;have:=s.st.len;omega
 have argsrc:∀j,j<n→∀a∈Φc j,H.length≤a∨(∃x d,(x,d)∈S∧x∈xs∧(∃t,σ x=some t)∧a∈Φ x)∨∃m∈M,(∃t,σ m=some t)∧a∈Φ m:=fun j hj a m=>by
  have hjt:j<ts.length:=by omega
  obtain⟨v,k1,k2,k3,k4⟩:=hΦ j ts[j] (List.getElem?_eq_getElem hjt)
  have hja:j<as.length:=by omega
  cases e:as[j]? with
  | none=>have:=List.getElem?_eq_none_iff.mp e;omega
  | some o=>
   cases o with
   | none=>
    rcases k3 e a m with q | q
    ·exact .inl q
    ·exact .inr (.inr q)
   | some x=>
    obtain⟨k,d,q1,q2,q3⟩:=slotS j x e
    have:=k4 x e
    rw[this]at m
    obtain⟨_,et⟩:=a3 j x e
    exact .inr (.inl ⟨x,d,q3,List.mem_of_getElem? q2,⟨ts[j],by rw[←et];exact List.getElem?_eq_getElem hjt⟩,m⟩)
 obtain⟨v,H',Φ',Ψ',F,b1,b2,b3,b4,b5,b6,b7,b8⟩:=k (H++X) vs ts t0 us Φc Ψc hp (by omega) (by omega) (fun i t e=>by
   obtain⟨v,k1,k2,_⟩:=hΦ i t e
   exact⟨v,k1,k2⟩) (fun i d hi v t ev et=>by
   obtain⟨k,hk,ek⟩:=List.getElem_of_mem hi
   obtain⟨x,x1,x2,x3⟩:=at_k k i d (by rw[List.getElem?_eq_getElem hk,ek])
   obtain⟨e1,e2⟩:=a3 i x x3
   rw[e1]at ev
   rw[e2]at et
   obtain⟨v',q1,q2,q3,q4⟩:=sX.sp x d x2 t et
   rw[ev]at q1
   cases q1
   rw[hΨ i x x3]
   refine⟨q2,fun m=>?_,fun j u hj ej a m q=>?_⟩
   ·have:=s.st.pos
    rcases q3 0 m with q | q
    ·omega
    ·exact s.st.f0 (c.fs _ _ q)
   ·obtain⟨v',k1,k2,k3,k4⟩:=hΦ j u ej
    have hjn:j<as.length:=by have:=(Zz6.mp ej).1;omega
    cases e:as[j]? with
    | none=>have:=List.getElem?_eq_none_iff.mp e;omega
    | some o=>
     cases o with
     | none=>
      rcases k3 e a q with q | ⟨m',hm',⟨tm,em⟩,mm⟩
      ·have:=s.low et a (s.up x2 et a m);omega
      ·exact q4 m' tm (fun q=>hM' m' hm' d (q▸x2)) em a m mm
     | some z=>
      rw[k4 z e]at q
      obtain⟨_,ez⟩:=a3 j z e
      obtain⟨k',d',z1,z2,z3⟩:=slotS j z e
      have:z≠x:=fun q=>by
       subst q
       have hk1:=(Zz6.mp z2).1
       have:k'=k:=(List.getElem?_inj hk1 nd).mp (z2.trans x1.symm)
       subst this
       rw[List.getElem?_eq_getElem hk,ek]at z1
       cases z1
       exact hj rfl
      exact q4 z u this (by rw[←ez];exact ej) a m q) h2
 have same:∀a,a<H.length→(∀x∈xs,a∉Ψ x)→H'[a]?=H[a]?:=fun a ha hn=>by
  rw[b3 a (by omega) fun i d hi m=>?_,List.getElem?_append_left ha]
  obtain⟨k,hk,ek⟩:=List.getElem_of_mem hi
  obtain⟨x,x1,x2,x3⟩:=at_k k i d (by rw[List.getElem?_eq_getElem hk,ek])
  rw[hΨ i x x3]at m
  exact hn x (List.mem_of_getElem? x1) m
 have lus:xs.length=(us.map some).length:=by simp[b4,hx]
 have lsd1:xs.length=(sd.map fun q=>Φ' q.1).length:=by simp[hx]
 have lsd2:xs.length=(sd.map fun q=>Ψ' q.1).length:=by simp[hx]
 have chg:∀(kk x:Nat) (w:T),xs[kk]?=some x→us[kk]?=some w→∃(i d:Nat) (v0:V) (t0:T),sd[kk]?=some (i,d)∧(x,d)∈S∧as[i]?=some (some x)∧ρ x=some v0∧σ x=some t0∧vs[i]?=some v0∧pick xs (sd.map fun q=>Φ' q.1) Φ x=Φ' i∧pick xs (sd.map fun q=>Ψ' q.1) Ψ x=Ψ' i:=fun kk x w ex' ew=>by
  have hk:kk<sd.length:=by have:=(Zz6.mp ex').1;omega
  obtain⟨x',x1,x2,x3⟩:=at_k kk sd[kk].1 sd[kk].2 (List.getElem?_eq_getElem hk)
  rw[ex']at x1
  cases x1
  obtain⟨e1,e2⟩:=a3 _ x x3
  have hi:sd[kk].1<as.length:=(Zz6.mp x3).1
  have et:σ x=some ts[sd[kk].1]:=by rw[←e2];exact List.getElem?_eq_getElem (by omega)
  obtain⟨v0,ev0,_⟩:=s.st.slot x _ et
  refine⟨sd[kk].1,sd[kk].2,v0,_,List.getElem?_eq_getElem hk,x2,x3,ev0,et,e1.trans ev0,Zd7 nd ex' (by simp[List.getElem?_eq_getElem hk]),Zd7 nd ex' (by simp[List.getElem?_eq_getElem hk])⟩
 have unch:∀j,j∉xs→pick xs (us.map some) σ j=σ j∧pick xs (sd.map fun q=>Φ' q.1) Φ j=Φ j∧pick xs (sd.map fun q=>Ψ' q.1) Ψ j=Ψ j:=fun j hj=>by
  refine⟨?_,?_,?_⟩
  ·rcases Zb9 (g:=σ) lus j with⟨k,u,q,_⟩ | ⟨_,q⟩
   ·exact absurd (List.mem_of_getElem? q) hj
   ·exact q
  ·rcases Zb9 (g:=Φ) lsd1 j with⟨k,u,q,_⟩ | ⟨_,q⟩
   ·exact absurd (List.mem_of_getElem? q) hj
   ·exact q
  ·rcases Zb9 (g:=Ψ) lsd2 j with⟨k,u,q,_⟩ | ⟨_,q⟩
   ·exact absurd (List.mem_of_getElem? q) hj
   ·exact q
 have slot_cases:∀(j:Nat) (w:T),pick xs (us.map some) σ j=some w→(∃kk:Nat,xs[kk]?=some j∧us[kk]?=some w)∨(j∉xs∧σ j=some w):=fun j w e=>by
  rcases Zb9 (g:=σ) lus j with⟨k,u,q1,q2,q3⟩ | ⟨q1,q2⟩
  ·rw[q3]at e
   subst e
   rw[List.getElem?_map]at q2
   obtain⟨z,z1,z2⟩:=Zz1.mp q2
   cases z2
   exact .inl ⟨k,q1,z1⟩
  ·exact .inr ⟨q1,by rw[←q2];exact e⟩
 have xsS:∀x∈xs,∃d,(x,d)∈S:=fun x hx'=>by
  obtain⟨k,hk,e⟩:=List.getElem_of_mem hx'
  obtain⟨x',x1,x2,x3⟩:=at_k k sd[k].1 sd[k].2 (List.getElem?_eq_getElem (by omega))
  rw[List.getElem?_eq_getElem hk,e]at x1
  cases x1
  exact⟨_,x2⟩
 have xsσ:∀x∈xs,∃t,σ x=some t:=fun x hx'=>by
  obtain⟨k,hk,e⟩:=List.getElem_of_mem hx'
  have hu:k<us.length:=by omega
  obtain⟨_,_,_,t',_,_,_,_,q,_⟩:=chg k x us[k] (by rw[List.getElem?_eq_getElem hk,e]) (List.getElem?_eq_getElem hu)
  exact⟨t',q⟩
 have xsΨ:∀x∈xs,∀j u,j≠x→σ j=some u→∀a∈Ψ x,a∉Φ j:=fun x hx' j u hj ej a m=>by
  obtain⟨d,hd⟩:=xsS x hx'
  obtain⟨t',et⟩:=xsσ x hx'
  exact(s.sp x d hd t' et).choose_spec.2.2.2 j u hj ej a m
 have spsrc:∀i' d',(i',d')∈sd→∀a∈Ψc i',∃x∈xs,a∈Ψ x:=fun i' d' hi a m=>by
  obtain⟨k,hk,ek⟩:=List.getElem_of_mem hi
  obtain⟨x,x1,x2,x3⟩:=at_k k i' d' (by rw[List.getElem?_eq_getElem hk,ek])
  rw[hΨ i' x x3]at m
  exact⟨x,List.mem_of_getElem? x1,m⟩
 have fnew:∀a∈F,H.length≤a:=fun a m=>by
  rcases hb with q | q
  ·have:=(b8 q).2 a m;omega
  ·have:=b6.flat (hfl q);rw[this]at m;cases m
 have keepsl:∀j w,j∉xs→σ j=some w→∀a∈Φ j,H'[a]?=H[a]?:=fun j w hj ej a m=>same a (s.low ej a m) fun x hx' q=>xsΨ x hx' j w (fun e=>hj (e▸hx')) ej a q m
 have foff:∀x∈xs,∀(kk:Nat) (w:T),xs[kk]?=some x→us[kk]?=some w→∀a∈pick xs (sd.map fun q=>Φ' q.1) Φ x,H.length≤a∨(∃x d,(x,d)∈S∧x∈xs∧(∃t,σ x=some t)∧a∈Φ x)∨∃m∈M,(∃t,σ m=some t)∧a∈Φ m:=fun x hx' kk w ex' ew a m=>by
  obtain⟨i,d,v0,t1,q1,q2,q3,q4,q5,q6,q7,q8⟩:=chg kk x w ex' ew
  rw[q7]at m
  rcases(b5 kk i d v0 w q1 q6 ew).2.2.2.1 a m with q | ⟨j,hj,q⟩
  ·exact .inl (by omega)
  ·exact argsrc j hj a q
 refine⟨v,H',pick xs (sd.map fun q=>Φ' q.1) Φ,pick xs (sd.map fun q=>Ψ' q.1) Ψ,F,by simp only[Zr,a1,Option.bind_some,b1],by omega,fun a ha hn=>same a ha fun x hx' m=>?_,?_,fun j w hj ej=>?_,fun a hh=>?_,fun s' d hs ⟨w,ew⟩ a m=>?_,b6,fun a m=>.inl (fnew a m),fun a hh m=>?_,fun _=>⟨?_,fun _ s' d hs ⟨w,ew⟩ a m q=>?_⟩⟩
 ·obtain⟨d,hd⟩:=xsS x hx'
  exact hn ⟨x,d,hd,xsσ x hx',m⟩
 ·refine⟨⟨fun j w ej=>?_,fun j w ej a m=>?_,fun i hi w ei=>?_,by have:=s.st.len;omega,fun a ha hn=>?_,s.st.pos,s.st.f0⟩,fun i d hi w ei=>?_,s.ap,fun i hi w ei=>?_⟩
  ·rcases slot_cases j w ej with⟨kk,e1,e2⟩ | ⟨e1,e2⟩
   ·obtain⟨i,d,v0,t1,q1,q2,q3,q4,q5,q6,q7,q8⟩:=chg kk j w e1 e2
    rw[q7]
    exact⟨v0,q4,(b5 kk i d v0 w q1 q6 e2).1⟩
   ·obtain⟨v0,r1,r2⟩:=s.st.slot j w e2
    rw[(unch j e1).2.1]
    exact⟨v0,r1,r2.frame (keepsl j w e1 e2)⟩
  ·rcases slot_cases j w ej with⟨kk,e1,e2⟩ | ⟨e1,e2⟩
   ·rcases foff j (List.mem_of_getElem? e1) kk w e1 e2 a m with q | ⟨x,d,_,_,⟨t1,et⟩,mx⟩ | ⟨m',_,⟨tm,em⟩,mm⟩
    ·exact .inl (by have:=s.st.len;omega)
    ·exact s.st.src x t1 et a mx
    ·exact s.st.src m' tm em a mm
   ·rw[(unch j e1).2.1]at m
    exact s.st.src j w e2 a m
  ·have hix:i∉xs:=fun q=>by obtain⟨d,hd⟩:=xsS i q;exact s.ap i hi d hd
   obtain⟨u1,u2,_⟩:=unch i hix
   rw[u1]at ei
   rw[u2]
   obtain⟨o1,o2,o3⟩:=s.st.own i hi w ei
   refine⟨o1,o2,fun j z hj ej a m q=>?_⟩
   rcases slot_cases j z ej with⟨kk,e1,e2⟩ | ⟨e1,e2⟩
   ·rcases foff j (List.mem_of_getElem? e1) kk z e1 e2 a q with q | ⟨x,d,_,hxx,⟨t1,et⟩,mx⟩ | ⟨m',hm',⟨tm,em⟩,mm⟩
    ·have:=s.low ei a m;omega
    ·exact o3 x t1 (fun q=>hix (q▸hxx)) et a m mx
    ·exact o3 m' tm (fun q=>(hM m' hm').1 (q▸hi)) em a m mm
   ·rw[(unch j e1).2.1]at q
    exact o3 j z hj e2 a m q
  ·rw[same a (by have:=s.st.len;omega) fun x hx' m=>?_]
   ·exact s.st.keep a ha hn
   ·obtain⟨d,hd⟩:=xsS x hx'
    obtain⟨t',et⟩:=xsσ x hx'
    rcases(s.sp x d hd t' et).choose_spec.2.2.1 a m with q | q
    ·omega
    ·exact hn (c.fs _ _ q)
  ·rcases slot_cases i w ei with⟨kk,e1,e2⟩ | ⟨e1,e2⟩
   ·obtain⟨i',d',v0,t1,q1,q2,q3,q4,q5,q6,q7,q8⟩:=chg kk i w e1 e2
    have:d=d':=uq _ hi _ q2 rfl
    subst this
    obtain⟨c1,c2,c3,c4,c5,c6,c7⟩:=b5 kk i' d v0 w q1 q6 e2
    rw[q8]
    refine⟨v0,q4,c2,fun a m=>?_,fun j z hj ej a m q=>?_⟩
    ·rcases c3 a m with q | q
     ·exact .inl (by have:=s.st.len;omega)
     ·rw[hΨ i' i q3]at q
      exact(s.sp i d hi t1 q5).choose_spec.2.2.1 a q
    ·rcases slot_cases j z ej with⟨kj,f1,f2⟩ | ⟨f1,f2⟩
     ·obtain⟨ij,dj,vj,tj,r1,r2,r3,r4,r5,r6,r7,r8⟩:=chg kj j z f1 f2
      rw[r7]at q
      have hne:ij≠i':=fun e=>by
       subst e
       have hk1:kj<(sd.map (·.1)).length:=by simp;exact(Zz6.mp r1).1
       have:kj=kk:=(List.getElem?_inj hk1 nds).mp (by simp[List.getElem?_map,r1,q1])
       subst this
       rw[e1]at f1
       cases f1
       exact hj rfl
      exact c6 ij dj hne (List.mem_of_getElem? r1) a m q
     ·rw[(unch j f1).2.1]at q
      rcases c3 a m with q' | q'
      ·have:=s.low f2 a q;omega
      ·rw[hΨ i' i q3]at q'
       exact xsΨ i (List.mem_of_getElem? e1) j z hj f2 a q' q
   ·obtain⟨u1,u2,u3⟩:=unch i e1
    rw[u3]
    obtain⟨v0,p1,p2,p3,p4⟩:=s.sp i d hi w e2
    obtain⟨v0',r1,r2⟩:=s.st.slot i w e2
    rw[p1]at r1
    cases r1
    refine⟨v0,p1,p2.frame r2 (keepsl i w e1 e2),p3,fun j z hj ej a m q=>?_⟩
    rcases slot_cases j z ej with⟨kj,f1,f2⟩ | ⟨f1,f2⟩
    ·rcases foff j (List.mem_of_getElem? f1) kj z f1 f2 a q with q | ⟨x,dx,_,hxx,⟨t1,et⟩,mx⟩ | ⟨m',hm',⟨tm,em⟩,mm⟩
     ·have:=s.low e2 a (s.up hi e2 a m);omega
     ·exact p4 x t1 (fun q=>e1 (q▸hxx)) et a m mx
     ·exact p4 m' tm (fun q=>hM' m' hm' d (q▸hi)) em a m mm
    ·rw[(unch j f1).2.1]at q
     exact p4 j z hj f2 a m q
  ·have hix:i∉xs:=fun q=>by obtain⟨d,hd⟩:=xsS i q;exact s.ap i hi d hd
   obtain⟨u1,u2,_⟩:=unch i hix
   rw[u1]at ei
   rw[u2]
   exact s.nw i hi w ei
 ·have hjx:j∉xs:=fun q=>by obtain⟨d,hd⟩:=xsS j q;exact hj d hd
  obtain⟨u1,u2,u3⟩:=unch j hjx
  exact⟨by rw[←u1];exact ej,u2⟩
 ·obtain⟨i,d,hi,⟨w,ei⟩,m⟩:=hh
  rcases slot_cases i w ei with⟨kk,e1,e2⟩ | ⟨e1,e2⟩
  ·obtain⟨i',d',v0,t1,q1,q2,q3,q4,q5,q6,q7,q8⟩:=chg kk i w e1 e2
   rw[q8]at m
   rcases(b5 kk i' d' v0 w q1 q6 e2).2.2.1 a m with q | q
   ·exact .inl (by omega)
   ·rw[hΨ i' i q3]at q
    exact .inr ⟨i,d',q2,⟨t1,q5⟩,q⟩
  ·rw[(unch i e1).2.2]at m
   exact .inr ⟨i,d,hi,⟨w,e2⟩,m⟩
 ·rcases slot_cases s' w ew with⟨kk,e1,e2⟩ | ⟨e1,e2⟩
  ·rcases foff s' (List.mem_of_getElem? e1) kk w e1 e2 a m with q | ⟨x,d,_,_,ht,mx⟩ | ⟨m',_,ht,mm⟩
   ·exact .inl q
   ·exact .inr ⟨x,ht,mx⟩
   ·exact .inr ⟨m',ht,mm⟩
  ·rw[(unch s' e1).2.1]at m
   exact .inr ⟨s',⟨w,e2⟩,m⟩
 ·obtain⟨i,d,hi,⟨w,ei⟩,m'⟩:=hh
  rcases slot_cases i w ei with⟨kk,e1,e2⟩ | ⟨e1,e2⟩
  ·obtain⟨i',d',v0,t1,q1,q2,q3,q4,q5,q6,q7,q8⟩:=chg kk i w e1 e2
   rw[q8]at m'
   exact(b5 kk i' d' v0 w q1 q6 e2).2.2.2.2.1 a m' m
  ·rw[(unch i e1).2.2]at m'
   have:=s.low e2 a (s.up hi e2 a m')
   have:=fnew a m
   omega
 ·rcases hb with q | q
  ·exact(b8 q).1
  ·have:=b6.flat (hfl q);rw[this];exact List.nodup_nil
 ·rcases slot_cases s' w ew with⟨kk,e1,e2⟩ | ⟨e1,e2⟩
  ·obtain⟨i',d',v0,t1,q1,q2,q3,q4,q5,q6,q7,q8⟩:=chg kk s' w e1 e2
   rw[q7]at m
   rcases hb with qb | qb
   ·exact(b5 kk i' d' v0 w q1 q6 e2).2.2.2.2.2.2 qb a m q
   ·have:=b6.flat (hfl qb);rw[this]at q;cases q
  ·rw[(unch s' e1).2.1]at m
   have:=s.low e2 a m
   have:=fnew a q
   omega
end
end TM
end
section
namespace TM
open PySem PM
def HU(O:List Nat)(S:Z7)(σ:TL)(Φ Ψ:Nat→List Nat)(a:Nat): Prop:=Held O σ Φ a∨SH S σ Ψ a
def AftU(c:Cu)(O:List Nat)(S:Z7)(O':List Nat)(S' SR:Z7)(fr:Bool)(ρ:Lc)(σ:TL)(H:Hp)(Φ Ψ:Nat→List Nat)(g:Option (Option V×Lc×Hp))(r:Option T×TL): Prop:=
 ∃(ρ':Lc) (H':Hp) (Φ' Ψ':Nat→List Nat),H.length≤H'.length∧(∀a,a<H.length→¬HU O S σ Φ Ψ a→H'[a]?=H[a]?)∧(∀q∈SR,ρ' q.1=ρ q.1) ∧
  ((r.1=none∧g=some (none,ρ',H')∧Su c O' S' ρ' r.2 H' Φ' Ψ'∧∀a,HU O' S' r.2 Φ' Ψ' a→H.length≤a∨HU O S σ Φ Ψ a) ∨
  ∃t v F,r.1=some t∧g=some (some v,ρ',H')∧RF H' v t F∧Su c [] SR ρ' r.2 H' Φ' Ψ'∧(∀a∈F,c.H0.length≤a∨c.P a)∧(∀a,SH SR r.2 Ψ' a→a∉F)∧(fr=true→F.Nodup∧(∀a∈F,c.H0.length≤a)∧∀s d,(s,d)∈SR→(∃t,r.2 s=some t)→∀a∈Φ' s,a∉F))
def SU(O:List Nat)(S:Z7)(O':List Nat)(S' SR:Z7)(fr:Bool)(g:Sm)(q:PS): Prop:=∀(c:Cu) (ρ:Lc) (σ:TL) (H:Hp) (Φ Ψ:Nat→List Nat) (r:Option T×TL),(∀i,(∀q∈SR,q.1≠i)→c.Fs i=[])→Su c O S ρ σ H Φ Ψ→q σ=some r→AftU c O S O' S' SR fr ρ σ H Φ Ψ (g ρ H) r
section
variable {O O':List Nat} {S S' SR:Z7} {fr:Bool}
theorem HU.mono{O1:List Nat}{S1:Z7}{σ:TL}{Φ Ψ:Nat→List Nat}{a:Nat}(h:HU O S σ Φ Ψ a)(ho:∀i∈O,i∈O1)(hs:∀q∈S,q∈S1): HU O1 S1 σ Φ Ψ a:=by
 rcases h with h | ⟨i,d,hi,h⟩
 ·exact .inl (h.mono ho)
 ·exact .inr ⟨i,d,hs _ hi,h⟩
theorem HU.lt{c:Cu}{ρ:Lc}{σ:TL}{H:Hp}{Φ Ψ:Nat→List Nat}{a:Nat}(s:Su c O S ρ σ H Φ Ψ)(h:HU O S σ Φ Ψ a): a<H.length:=by
 rcases h with h | h
 ·exact h.lt s.st
 ·exact s.shlow h
theorem Zi8{O0:List Nat}{S0:Z7}{g:Sm}{q:PS}(x:SU O0 S0 O' S' SR fr g q)(h:∀i∈O0,i∈O)(k:∀q∈S0,q∈S): SU O S O' S' SR fr g q:=fun c ρ σ H Φ Ψ r hc s e=>by
 obtain⟨ρ',H',Φ',Ψ',h1,h2,hr,h3⟩:=x c ρ σ H Φ Ψ r hc (s.less h k) e
 refine⟨ρ',H',Φ',Ψ',h1,fun a ha hn=>h2 a ha fun q=>hn (q.mono h k),hr,?_⟩
 rcases h3 with⟨k1,k2,k3,k4⟩ | k'
 ·exact .inl ⟨k1,k2,k3,fun a m=>(k4 a m).imp id fun q=>q.mono h k⟩
 ·exact .inr k'
theorem ZiI{O1:List Nat}{S1:Z7}{g:Sm}{q:PS}(x:SU O S O1 S1 SR fr g q)(h:∀i∈O',i∈O1)(k:∀q∈S',q∈S1): SU O S O' S' SR fr g q:=fun c ρ σ H Φ Ψ r hc s e=>by
 obtain⟨ρ',H',Φ',Ψ',h1,h2,hr,h3⟩:=x c ρ σ H Φ Ψ r hc s e
 refine⟨ρ',H',Φ',Ψ',h1,h2,hr,?_⟩
 rcases h3 with⟨k1,k2,k3,k4⟩ | k'
 ·exact .inl ⟨k1,k2,k3.less h k,fun a m=>k4 a (m.mono h k)⟩
 ·exact .inr k'
theorem SU.next: SU O S O S SR fr Zaj Zak:=fun c ρ σ H Φ Ψ r hc s e=>by
 cases e
 exact⟨ρ,H,Φ,Ψ,Nat.le_refl _,fun _ _ _=>rfl,fun _ _=>rfl,.inl ⟨rfl,rfl,s,fun a m=>.inr m⟩⟩
theorem SU.seq{O1:List Nat}{S1:Z7}{a b:Sm}{p q:PS}(x:SU O S O1 S1 SR fr a p)(y:SU O1 S1 O' S' SR fr b q): SU O S O' S' SR fr (Zs a b) (Zt p q):=fun c ρ σ H Φ Ψ r hc s e=>by
 obtain⟨r1,e1,e⟩:=Zz0.mp e
 obtain⟨ρ1,H1,Φ1,Ψ1,h1,h2,hr,h3⟩:=x c ρ σ H Φ Ψ r1 hc s e1
 rcases h3 with⟨k1,k2,k3,k4⟩ | ⟨t,v,F,k1,k2,k3⟩
 ·rw[k1]at e
  obtain⟨ρ2,H2,Φ2,Ψ2,g1,g2,gr,g3⟩:=y c ρ1 r1.2 H1 Φ1 Ψ1 r hc k3 e
  refine⟨ρ2,H2,Φ2,Ψ2,Nat.le_trans h1 g1,fun a ha hn=>?_,fun q hq=>(gr q hq).trans (hr q hq),?_⟩
  ·rw[g2 a (by omega) fun q=>(k4 a q).elim (fun q=>by omega) hn,h2 a ha hn]
  ·have eg:Zs a b ρ H=b ρ1 H1:=by simp only[Zs,k2,Option.bind_some]
   rw[eg]
   rcases g3 with⟨l1,l2,l3,l4⟩ | l
   ·refine .inl ⟨l1,l2,l3,fun a m=>?_⟩
    rcases l4 a m with q | q
    ·exact .inl (by omega)
    ·exact k4 a q
   ·exact .inr l
 ·rw[k1]at e
  cases e
  exact⟨ρ1,H1,Φ1,Ψ1,h1,h2,hr,.inr ⟨t,v,F,k1,by simp only[Zs,k2,Option.bind_some],k3⟩⟩
noncomputable def Z9(p:PX): PS:=fun σ=>(p σ).map fun r=>(some r.1,r.2)
theorem Zin{N:List Nat}{u:Bool}{e:Ex}{p:PX}(x:EX O S N u e p)(hR:∀q∈SR,q∈S)(hf:fr=true→u=true∧∀n∈N,n∈O∧∀d,(n,d)∉S): SU O S O' S' SR fr (ZK e) (Z9 p):=fun c ρ σ H Φ Ψ r hc s q=>by
 obtain⟨⟨t,σ1⟩,h1,h⟩:=Zz1.mp q
 subst h
 obtain⟨v,H1,Φ1,Ψ1,F,a1,a2,a3,a4,a5,a6,a11,a7,a8,a9,a10⟩:=x c ρ σ H Φ Ψ t σ1 s h1
 refine⟨ρ,H1,Φ1,Ψ1,a2,fun a ha hn=>a3 a ha fun q=>hn (.inr q),fun _ _=>rfl,.inr ⟨t,v,F,rfl,by simp only[ZK,a1,Option.map_some],a7,a4.less (by simp) hR,fun a m=>s.st.from_src (a8 a m),fun a h=>a9 a ?_,fun hfr=>?_⟩⟩
 ·obtain⟨i,d,hi,h⟩:=h
  exact⟨i,d,hR _ hi,h⟩
 ·obtain⟨hu,hN⟩:=hf hfr
  refine⟨(a10 hu).1,fun a m=>?_,fun s' d hs=>(a10 hu).2 hN s' d (hR _ hs)⟩
  rcases a8 a m with q | ⟨n,hn,⟨w,e⟩,mn⟩
  ·exact Nat.le_trans s.st.len q
  ·exact s.nw n (hN n hn).1 w e a mn
theorem SU.ret{N:List Nat}{u:Bool}{e:Ex}{p:PX}(x:EX O S N u e p)(hR:∀q∈SR,q∈S): SU O S O' S' SR false (ZK e) (Z9 p):=Zin x hR (by simp)
theorem Zai{N:List Nat}{e:Ex}{p:PX}(x:EX O S N true e p)(hR:∀q∈SR,q∈S)(hN:∀n∈N,n∈O∧∀q∈S,q.1≠n): SU O S O' S' SR fr (ZK e) (Z9 p):=Zin x hR fun _=>⟨rfl,fun n hn=>⟨(hN n hn).1,fun d m=>(hN n hn).2 _ m rfl⟩⟩
noncomputable def ZQ(i:Nat)(p:PX): PS:=fun σ=>(p σ).map fun r=>(none,updT r.2 i r.1)
theorem SU.set{N:List Nat}{u:Bool}{i:Nat}{e:Ex}{p:PX}(x:EX O S N u e p)(hi:i∉O'∧(∀q∈S',q.1≠i)∧∀q∈SR,q.1≠i)(hN:∀n∈N,n∉O'∧∀q∈S',q.1≠n)(hO:(∀j∈O',j∈O)∧∀q∈S',q∈S): SU O S O' S' SR fr (ZM i e) (ZQ i p):=fun c ρ σ H Φ Ψ r hc s q=>by
 obtain⟨⟨t,σ1⟩,h1,h⟩:=Zz1.mp q
 subst h
 obtain⟨v,H1,Φ1,Ψ1,F,a1,a2,a3,a4,a5,a6,a11,a7,a8,a9,a10⟩:=x c ρ σ H Φ Ψ t σ1 s h1
 have s1:=a4.less hO.1 hO.2
 have hS':∀d,(i,d)∉S':=fun d m=>hi.2.1 _ m rfl
 refine⟨upd ρ i v,H1,Zp Φ1 i F,Ψ1,a2,fun a ha hn=>a3 a ha fun q=>hn (.inr q),fun q hq=>by simp[upd,hi.2.2 q hq],.inl ⟨rfl,by simp only[ZM,a1,Option.map_some],s1.putL hi.1 hS' a7 (fun a m=>s.st.from_src (a8 a m)) (fun k hk w ek a m q=>?_) (fun a h=>?_),fun a h=>?_⟩⟩
 ·obtain⟨e1,e2⟩:=a5 k w (s.ap k (hO.1 k hk)) ek
  rw[e2]at m
  rcases a8 a q with q | ⟨n,hn,⟨w',e'⟩,mn⟩
  ·have:=s.low e1 a m;omega
  ·exact(s.st.own k (hO.1 k hk) w e1).2.2 n w' (fun q=>(hN n hn).1 (q▸hk)) e' a m mn
 ·obtain⟨k,d,hk,h⟩:=h
  exact a9 a ⟨k,d,hO.2 _ hk,h⟩
 ·rcases h with⟨k,hk,⟨w,ek⟩,m⟩ | h
  ·have ne:k≠i:=fun q=>hi.1 (q▸hk)
   have ek:=Z4 ek ne
   simp only[Zp,ne,if_false]at m
   obtain⟨e1,e2⟩:=a5 k w (s.ap k (hO.1 k hk)) ek
   exact .inr (.inl ⟨k,hO.1 k hk,⟨w,e1⟩,e2▸m⟩)
  ·obtain⟨k,d,hk,h⟩:=(Zei hS').mp h
   exact(a6 a ⟨k,d,hO.2 _ hk,h⟩).imp id .inr
theorem Zd8{c:Cu}{ρ:Lc}{σ σ1:TL}{H:Hp}{Φ Ψ Φ1:Nat→List Nat}{F:List Nat}(s:Su c O S ρ σ H Φ Ψ)(a5:∀j t,(∀d,(j,d)∉S)→σ1 j=some t→σ j=some t∧Φ1 j=Φ j)(new1:∀a∈F,H.length≤a)(of1:∀s d,(s,d)∈S→(∃t,σ1 s=some t)→∀a∈Φ1 s,a∉F)(j:Nat)(w:T)(ej:σ1 j=some w): ∀a∈F,a∉Φ1 j:=fun a m q=>by
 by_cases hjs:∀d,(j,d)∉S
 ·obtain⟨e1,e2⟩:=a5 j w hjs ej
  have:=s.low e1 a (e2▸q)
  have:=new1 a m
  omega
 ·obtain⟨d,hd⟩:=Classical.not_forall.mp hjs
  exact of1 j d (Classical.not_not.mp hd) ⟨w,ej⟩ a q m
theorem Za1{i:Nat}{e:Ex}{p:PX}(x:EX O S [] true e p)(hi:(∀q∈S',q.1≠i)∧∀q∈SR,q.1≠i)(hO:(∀j∈O',j∈O∨j=i)∧∀q∈S',q∈S): SU O S O' S' SR fr (ZM i e) (ZQ i p):=fun c ρ σ H Φ Ψ r hc s q=>by
 obtain⟨⟨t,σ1⟩,h1,h⟩:=Zz1.mp q
 subst h
 obtain⟨v,H1,Φ1,Ψ1,F,a1,a2,a3,a4,a5,a6,a11,a7,a8,a9,a10⟩:=x c ρ σ H Φ Ψ t σ1 s h1
 have hS':∀d,(i,d)∉S':=fun d m=>hi.1 _ m rfl
 have new1:∀a∈F,H.length≤a:=fun a m=>(a8 a m).nil
 have s1:=a4.less (O':=O) (S':=S') (fun _ h=>h) hO.2
 refine⟨upd ρ i v,H1,Zp Φ1 i F,Ψ1,a2,fun a ha hn=>a3 a ha fun q=>hn (.inr q),fun q hq=>by simp[upd,hi.2 q hq],.inl ⟨rfl,by simp only[ZM,a1,Option.map_some],s1.putO hO.1 hS' a7 (a10 rfl).1 (fun a m=>Nat.le_trans s.st.len (new1 a m)) (fun j w _ ej=>Zd8 s a5 new1 ((a10 rfl).2 (by simp)) j w ej),fun a h=>?_⟩⟩
 rcases h with⟨k,hk,⟨w,ek⟩,m⟩ | h
 ·by_cases q:k=i
  ·subst q
   simp only[Zp,if_true]at m
   exact .inl (new1 a m)
  ·have ek:=Z4 ek q
   simp only[Zp,q,if_false]at m
   have hk:=(hO.1 k hk).resolve_right q
   obtain⟨e1,e2⟩:=a5 k w (s.ap k hk) ek
   exact .inr (.inl ⟨k,hk,⟨w,e1⟩,e2▸m⟩)
 ·obtain⟨k,d,hk,h⟩:=(Zei hS').mp h
  exact(a6 a ⟨k,d,hO.2 _ hk,h⟩).imp id .inr
theorem Su.putS{c:Cu}{ρ:Lc}{σ:TL}{H:Hp}{Φ Ψ:Nat→List Nat}{k d:Nat}{v:V}{t:T}{F F1:List Nat}(s:Su c O S ρ σ H Φ Ψ)(hk:k∉O)(kS:∀d,(k,d)∉S)(r:RF H v t F)(p:Sp H d v t F1)(new:∀a∈F1,c.H0.length≤a)(dis:∀j u,j≠k→σ j=some u→∀a∈F1,a∉Φ j)(hs:∀a∈F,c.H0.length≤a∨c.P a)(ho:∀i∈O,∀t',σ i=some t'→∀a∈Φ i,a∉F)(hp:∀a,SH S σ Ψ a→a∉F): Su c O ((k,d)::S) (upd ρ k v) (updT σ k t) H (Zp Φ k F) (Zp Ψ k F1):=by
 have s1:=s.putL (v:=v) (t:=t) hk kS r hs ho hp
 refine⟨s1.st,fun i d' hi u e=>?_,fun i hi d' m=>?_,s1.nw⟩
 ·by_cases q:i=k
  ·subst q
   have:d'=d:=by
    rcases Zz7.mp hi with h | h
    ·exact(Prod.mk.inj h).2
    ·exact absurd h (kS d')
   subst this
   rcases ZdY e with⟨_,q'⟩ | ⟨q',_⟩
   ·subst q'
    refine⟨v,by simp[upd],by simpa [Zp]using p,by simpa [Zp]using fun a m=>Or.inl (new a m),fun j w hj ej a m=>?_⟩
    simp only[Zp,if_true]at m
    simpa [Zp,hj]using dis j w hj (Z4 ej hj) a m
   ·exact absurd rfl q'
  ·have hi':(i,d')∈S:=(Zz7.mp hi).resolve_left fun h=>q (Prod.mk.inj h).1
   obtain⟨w,h1,h2,h3,h4⟩:=s1.sp i d' hi' u e
   exact⟨w,h1,by simpa [Zp,q]using h2,by simpa [Zp,q]using h3,by simpa [Zp,q]using h4⟩
 ·rcases Zz7.mp m with h | h
  ·exact hk ((Prod.mk.inj h).1▸hi)
  ·exact s.ap i hi d' h
theorem ZiJ{i d:Nat}{e:Ex}{p:PX}(x:EX O S [] true e p)(hi:i∉O'∧(∀q∈S',q.1≠i)∧∀q∈SR,q.1≠i)(hO:(∀j∈O',j∈O)∧∀q∈S',q∈S): SU O S O' ((i,d)::S') SR fr (ZM i e) (ZQ i p):=fun c ρ σ H Φ Ψ r hc s q=>by
 obtain⟨⟨t,σ1⟩,h1,h⟩:=Zz1.mp q
 subst h
 obtain⟨v,H1,Φ1,Ψ1,F,a1,a2,a3,a4,a5,a6,a11,a7,a8,a9,a10⟩:=x c ρ σ H Φ Ψ t σ1 s h1
 have hS':∀d,(i,d)∉S':=fun d m=>hi.2.1 _ m rfl
 have new1:∀a∈F,H.length≤a:=fun a m=>(a8 a m).nil
 have s1:=a4.less hO.1 hO.2
 obtain⟨F1,p1,p2⟩:=a7.sp d (a10 rfl).1
 have off:=Zd8 s a5 new1 ((a10 rfl).2 (by simp))
 refine⟨upd ρ i v,H1,Zp Φ1 i F,Zp Ψ1 i F1,a2,fun a ha hn=>a3 a ha fun q=>hn (.inr q),fun q hq=>by simp[upd,hi.2.2 q hq],.inl ⟨rfl,by simp only[ZM,a1,Option.map_some],s1.putS hi.1 hS' a7 p1 (fun a m=>Nat.le_trans s.st.len (new1 a (p2 a m))) (fun j w _ ej a m=>off j w ej a (p2 a m)) (fun a m=>.inl (Nat.le_trans s.st.len (new1 a m))) (fun k hk w ek a m q=>off k w ek a q m) (fun a h q=>?_),fun a h=>?_⟩⟩
 ·obtain⟨k,d',hk,h⟩:=h
  exact a9 a ⟨k,d',hO.2 _ hk,h⟩ q
 ·rcases h with⟨k,hk,⟨w,ek⟩,m⟩ | ⟨k,d',hk,⟨w,ek⟩,m⟩
  ·have q:k≠i:=fun q=>hi.1 (q▸hk)
   have ek:=Z4 ek q
   simp only[Zp,q,if_false]at m
   obtain⟨e1,e2⟩:=a5 k w (s.ap k (hO.1 k hk)) ek
   exact .inr (.inl ⟨k,hO.1 k hk,⟨w,e1⟩,e2▸m⟩)
  ·by_cases q:k=i
   ·subst q
    simp only[Zp,if_true]at m
    exact .inl (new1 a (p2 a m))
   ·simp only[Zp,q,if_false]at m
    have hk':(k,d')∈S':=(Zz7.mp hk).resolve_left fun h=>q (Prod.mk.inj h).1
    exact(a6 a ⟨k,d',hO.2 _ hk',⟨w,Z4 ek q⟩,m⟩).imp id .inr
theorem ZiK{N:List Nat}{u:Bool}{n i:Nat}{es:ZT}{ps:Z6}(x:Es O N u n es ps)(hn:n≤ZN)(hi:i∉O'∧(∀q∈S',q.1≠i)∧∀q∈SR,q.1≠i)(hN:∀n∈N,n∉O'∧∀q∈S',q.1≠n)(hO:(∀j∈O',j∈O)∧∀q∈S',q∈S): SU O S O' ((i,1)::S') SR fr (ZM i (ZY es)) (Zez i (Zao ps)):=fun c ρ σ H Φ Ψ r hc s q=>by
 obtain⟨t,h1,h⟩:=Zz1.mp q
 subst h
 obtain⟨ts,h1',h2⟩:=Zz1.mp h1
 subst h2
 obtain⟨hl,vs,X,G,b1,b2,b3,b4⟩:=x c.toCtx ρ σ H Φ ts s.st h1'
 have hS':∀d,(i,d)∉S':=fun d m=>hi.2.1 _ m rfl
 have lvs:=b2.length
 have e1:ZY es ρ H=some (.ref (H++X).length,(H++X)++[vs]):=by
  simp only[ZY,b1,Option.bind_some]
  rw[if_pos (by omega)]
 have s1:=((s.ext X).ext [vs]).less hO.1 hO.2
 have hb:((H++X)++[vs])[(H++X).length]?=some vs:=by simp
 have rf:=RF.ref hb (b2.ext [vs])
 have g1:∀a∈G,a<(H++X).length:=b2.lt
 have p1:Sp ((H++X)++[vs]) 1 (.ref (H++X).length) (.lst ts) [(H++X).length]:=⟨G,RD.ref (by decide) hb (ZiH (b2.ext [vs])),by simp,fun a m q=>by
  have:=g1 a q
  rw[List.mem_singleton.mp m]at this
  omega⟩
 have ll:(H++X).length=H.length+X.length:=List.length_append
 have s1:=s1.putS (k:=i) (d:=1) hi.1 hS' rf p1 (fun a m=>by have:=s.st.len;rw[List.mem_singleton.mp m];omega) (fun j w _ ej a m q=>by
   have:=s.low ej a q
   rw[List.mem_singleton.mp m]at this
   omega) (fun a m=>by
   rcases Zz7.mp m with q | q
   ·exact .inl (by have:=s.st.len;omega)
   ·exact s.st.from_src (b3 a q)) (fun k hk w ek a m q=>by
   have lo:=s.low ek a m
   rcases Zz7.mp q with q | q
   ·omega
   ·rcases b3 a q with q | ⟨n',hn',⟨w',e'⟩,mn⟩
    ·omega
    ·exact(s.st.own k (hO.1 k hk) w ek).2.2 n' w' (fun q=>(hN n' hn').1 (q▸hk)) e' a m mn) (fun a h q=>by
   obtain⟨k,d',hk,⟨w,ek⟩,m⟩:=h
   have lo:=s.low ek a (s.up (hO.2 _ hk) ek a m)
   rcases Zz7.mp q with q | q
   ·omega
   ·rcases b3 a q with q | ⟨n',hn',⟨w',e'⟩,mn⟩
    ·omega
    ·exact(s.sp k d' (hO.2 _ hk) w ek).choose_spec.2.2.2 n' w' (fun q=>(hN n' hn').2 _ hk q.symm) e' a m mn)
 refine⟨upd ρ i (.ref (H++X).length),(H++X)++[vs],_,_,by simp,fun a ha hn=>by rw[List.append_assoc,List.getElem?_append_left ha],fun q hq=>by simp[upd,hi.2.2 q hq],.inl ⟨rfl,by simp only[ZM,e1,Option.map_some],s1,fun a h=>?_⟩⟩
 rcases h with⟨k,hk,⟨w,ek⟩,m⟩ | ⟨k,d',hk,⟨w,ek⟩,m⟩
 ·have q:k≠i:=fun q=>hi.1 (q▸hk)
  simp only[Zp,q,if_false]at m
  exact .inr (.inl ⟨k,hO.1 k hk,⟨w,Z4 ek q⟩,m⟩)
 ·by_cases q:k=i
  ·subst q
   simp only[Zp,if_true]at m
   exact .inl (by rw[List.mem_singleton.mp m];omega)
  ·simp only[Zp,q,if_false]at m
   have hk':(k,d')∈S':=(Zz7.mp hk).resolve_left fun h=>q (Prod.mk.inj h).1
   exact .inr (.inr ⟨k,d',hO.2 _ hk',⟨w,Z4 ek q⟩,m⟩)
noncomputable def ZaB(b:PBX)(p q:PS): PS:=fun σ=>(b σ).bind fun x=>if x.1 then p x.2 else q x.2
theorem AftU.step{c:Cu}{ρ:Lc}{σ σ1:TL}{H H1:Hp}{Φ Ψ Φ1 Ψ1:Nat→List Nat}{g:Option (Option V×Lc×Hp)}{r:Option T×TL}(s:Su c O S ρ σ H Φ Ψ)(l:H.length≤H1.length)(a3:∀a,a<H.length→¬SH S σ Ψ a→H1[a]?=H[a]?)(a5:∀j t,(∀d,(j,d)∉S)→σ1 j=some t→σ j=some t∧Φ1 j=Φ j)(a6:∀a,SH S σ1 Ψ1 a→H.length≤a∨SH S σ Ψ a)(x:AftU c O S O' S' SR fr ρ σ1 H1 Φ1 Ψ1 g r): AftU c O S O' S' SR fr ρ σ H Φ Ψ g r:=by
 obtain⟨ρ',H',Φ',Ψ',h1,h2,hr,h3⟩:=x
 have up:∀a,HU O S σ1 Φ1 Ψ1 a→H.length≤a∨HU O S σ Φ Ψ a:=fun a h=>by
  rcases h with⟨j,hj,⟨t,e⟩,m⟩ | h
  ·obtain⟨e1,e2⟩:=a5 j t (s.ap j hj) e
   exact .inr (.inl ⟨j,hj,⟨t,e1⟩,e2▸m⟩)
  ·exact(a6 a h).imp id .inr
 refine⟨ρ',H',Φ',Ψ',by omega,fun a ha hn=>?_,hr,?_⟩
 ·rw[h2 a (by omega) fun q=>(up a q).elim (fun q=>by omega) hn,a3 a ha fun q=>hn (.inr q)]
 ·rcases h3 with⟨k1,k2,k3,k4⟩ | k
  ·refine .inl ⟨k1,k2,k3,fun a m=>?_⟩
   rcases k4 a m with q | q
   ·exact .inl (by omega)
   ·exact up a q
  ·exact .inr k
theorem ZaI{t:Ts}{pb:PBX}{a b:Sm}{p q:PS}(z:BX O S t pb)(x:SU O S O' S' SR fr a p)(y:SU O S O' S' SR fr b q): SU O S O' S' SR fr (Z2 t a b) (ZaB pb p q):=fun c ρ σ H Φ Ψ r hc s e=>by
 obtain⟨⟨bb,σ1⟩,e1,e⟩:=Zz0.mp e
 obtain⟨H1,Φ1,Ψ1,a1,a2,a3,a4,a5,a6⟩:=z c ρ σ H Φ Ψ bb σ1 s e1
 cases bb with
 | true=>
  have:=x c ρ σ1 H1 Φ1 Ψ1 r hc a4 (by simpa using e)
  have eg:Z2 t a b ρ H=a ρ H1:=by simp[Z2,a1]
  rw[eg]
  exact this.step s a2 a3 a5 a6
 | false=>
  have:=y c ρ σ1 H1 Φ1 Ψ1 r hc a4 (by simpa using e)
  have eg:Z2 t a b ρ H=b ρ H1:=by simp[Z2,a1]
  rw[eg]
  exact this.step s a2 a3 a5 a6
noncomputable def ZbX(p:PX): PS:=fun σ=>(p σ).map fun r=>(none,r.2)
theorem ZcX{N:List Nat}{u:Bool}{e:Ex}{p:PX}(x:EX O S N u e p): SU O S O S SR fr (Zaf e) (ZbX p):=fun c ρ σ H Φ Ψ r hc s q=>by
 obtain⟨⟨t,σ1⟩,h1,h⟩:=Zz1.mp q
 subst h
 obtain⟨v,H1,Φ1,Ψ1,F,a1,a2,a3,a4,a5,a6,_⟩:=x c ρ σ H Φ Ψ t σ1 s h1
 have:AftU c O S O S SR fr ρ σ1 H1 Φ1 Ψ1 (some (none,ρ,H1)) (none,σ1):=⟨ρ,H1,Φ1,Ψ1,Nat.le_refl _,fun _ _ _=>rfl,fun _ _=>rfl,.inl ⟨rfl,rfl,a4,fun a m=>.inr m⟩⟩
 have eg:Zaf e ρ H=some (none,ρ,H1):=by simp only[Zaf,a1,Option.map_some]
 rw[eg]
 exact this.step s a2 a3 a5 a6
def Cs(k:Nat)(K:Ex→Sm): Prop:=∀e ρ H,K e ρ H=(e ρ H).bind fun p=>(K (Zb k) (upd ρ k p.1) p.2).map fun r=>(r.1,ρ,r.2.2)
def Kp(g:Sm): Prop:=∀ρ H r,g ρ H=some r→r.1=none∧r.2.1=ρ
noncomputable def Zc4(k:Nat)(p:PX)(q:PS): PS:=fun σ=>(p (ZA σ k)).bind fun r=>(q (updT r.2 k r.1)).map fun r2=>(r2.1,ZA r2.2 k)
theorem Zhg{k:Nat}{K:Ex→Sm}{e:Ex}{p:PX}{q:PS}(hC:Cs k K)(hK:Kp (K (Zb k)))(x:EX O S [] true e p)(y:SU (k::O) S O' S' SR fr (K (Zb k)) q)(hk:(∀q∈S,q.1≠k)∧(∀q∈S',q.1≠k)∧k∉O∧k∉O')(hR:∀q∈SR,q.1≠k): SU O S O' S' SR fr (K e) (Zc4 k p q):=fun c ρ σ H Φ Ψ r hc s h=>by
 have hS:∀d,(k,d)∉S:=fun d m=>hk.1 _ m rfl
 have hS':∀d,(k,d)∉S':=fun d m=>hk.2.1 _ m rfl
 obtain⟨⟨t1,σ1⟩,h1,h⟩:=Zz0.mp h
 obtain⟨⟨o,σ2⟩,h2,h⟩:=Zz1.mp h
 subst h
 have sd:=s.del k
 obtain⟨v1,H1,Φ1,Ψ1,F1,a1,a2,a3,a4,a5,a6,a11,a7,a8,a9,a10⟩:=x c ρ (ZA σ k) H Φ Ψ t1 σ1 sd h1
 have new1:∀a∈F1,H.length≤a:=fun a m=>(a8 a m).nil
 have s1:Su c (k::O) S (upd ρ k v1) (updT σ1 k t1) H1 (Zp Φ1 k F1) Ψ1:=a4.putO (fun j hj=>by rcases Zz7.mp hj with h | h;exact .inr h;exact .inl h) hS a7 (a10 rfl).1 (fun a m=>Nat.le_trans s.st.len (new1 a m)) (fun j w _ ej=>Zd8 sd a5 new1 ((a10 rfl).2 (by simp)) j w ej)
 obtain⟨ρ',H',Φ',Ψ',g1,g2,gr,g3⟩:=y c (upd ρ k v1) (updT σ1 k t1) H1 (Zp Φ1 k F1) Ψ1 (o,σ2) hc s1 h2
 have up:∀a,HU (k::O) S (updT σ1 k t1) (Zp Φ1 k F1) Ψ1 a→H.length≤a∨HU O S σ Φ Ψ a:=fun a h=>by
  rcases h with⟨j,hj,⟨t,e⟩,m⟩ | h
  ·by_cases q:j=k
   ·subst q
    simp only[Zp,if_true]at m
    exact .inl (new1 a m)
   ·simp only[Zp,q,if_false]at m
    have hj:=(Zz7.mp hj).resolve_left q
    obtain⟨e1,e2⟩:=a5 j t (s.ap j hj) (Z4 e q)
    exact .inr (.inl ⟨j,hj,⟨t,(Zam e1).2⟩,e2▸m⟩)
  ·rcases a6 a ((Zei hS).mp h)with q | q
   ·exact .inl q
   ·exact .inr (.inr ((SH.del hS).mp q))
 rcases g3 with⟨k1,k2,k3,k4⟩ | ⟨t,v,F,k1,k2,_⟩
 ·have hρ:ρ'=upd ρ k v1:=(hK _ _ _ k2).2
  rw[hρ]at k2 k3
  refine⟨ρ,H',Φ',Ψ',by omega,fun a ha hn=>?_,fun _ _=>rfl,.inl ⟨k1,?_,k3.drop fun _ h=>h,fun a h=>?_⟩⟩
  ·rw[g2 a (by omega) fun q=>(up a q).elim (fun q=>by omega) hn,a3 a ha fun q=>hn (.inr ((SH.del hS).mp q))]
  ·rw[hC e ρ H,a1]
   simp only[Option.bind_some,k2,Option.map_some]
  ·have h':HU O' S' σ2 Φ' Ψ' a:=by
    rcases h with⟨j,hj,⟨t,e⟩,m⟩ | h
    ·exact .inl ⟨j,hj,⟨t,(Zam e).2⟩,m⟩
    ·exact .inr ((SH.del hS').mp h)
   rcases k4 a h' with q | q
   ·exact .inl (by omega)
   ·exact up a q
 ·have:=(hK _ _ _ k2).1
  cases this
theorem Cs.put{k:Nat}{C:Ex→Ex}{o i:Ex}(h:Ct k C)(ho:Of k o)(hi:Of k i): Cs k fun e=>ZaK (C e) o i:=fun e ρ H=>by
 simp only[ZaK]
 rw[h e ρ H]
 cases e ρ H with
 | none=>rfl
 | some p=>
  simp only[Option.bind_some,ho ρ p.1,hi ρ p.1]
  cases C (Zb k) (upd ρ k p.1) p.2 with
  | none=>rfl
  | some q=>
   simp only[Option.bind_some]
   cases o ρ q.2 with
   | none=>rfl
   | some u=>
    simp only[Option.bind_some]
    cases i ρ u.2 with
    | none=>rfl
    | some w=>
     simp only[Option.bind_some]
     cases Zev u.1 w.1 q.1 w.2 <;> rfl
theorem Kp.put{f o i:Ex}: Kp (ZaK f o i):=fun ρ H r h=>by
 obtain⟨_,_,h⟩:=Zz0.mp h
 obtain⟨_,_,h⟩:=Zz0.mp h
 obtain⟨_,_,h⟩:=Zz0.mp h
 obtain⟨_,_,q⟩:=Zz1.mp h
 subst q;exact⟨rfl,rfl⟩
theorem Zi9{k:Nat}{C:Ex→Ex}(h:Ct k C): Cs k fun e=>Zaf (C e):=fun e ρ H=>by
 simp only[Zaf]
 rw[h e ρ H]
 cases e ρ H with
 | none=>rfl
 | some p=>
  simp only[Option.bind_some]
  cases C (Zb k) (upd ρ k p.1) p.2 <;> rfl
theorem Zej{f:Ex}: Kp (Zaf f):=fun ρ H r h=>by
 obtain⟨_,_,q⟩:=Zz1.mp h
 subst q;exact⟨rfl,rfl⟩
theorem Ct.append{k:Nat}{C:Ex→Ex}{f:Ex}(h:Ct k C)(hf:Vl k f): Ct k fun e=>ZaU f (C e):=fun e ρ H=>by
 obtain⟨g,h1,h2⟩:=hf
 simp only[ZaU,h1,h2]
 cases g ρ with
 | none=>cases e ρ H <;> rfl
 | some v=>
  simp only[Option.map_some,Option.bind_some]
  rw[h e ρ H]
  cases e ρ H with
  | none=>rfl
  | some p=>rfl
theorem Zhr{N R:List Nat}{x:Nat}{g:Sm}{q:PS}(y:TM.S O O' R fr g q)(hK:Kp g)(hq:∀σ r,q σ=some r→∃t',r.2=Zaz (updT σ x t') N)(hx:x∈O∧x∈O')(hO:∀j∈O,j∈O'∨j∈N)(hO':∀j∈O',j∈O): SU O S O' S SR fr g q:=fun c ρ σ H Φ Ψ r hc s h=>by
 obtain⟨ρ',H',Φ',h1,h2,h3⟩:=y c.toCtx ρ σ H Φ r s.st h
 obtain⟨t',er⟩:=hq σ r h
 have xS:∀d,(x,d)∉S:=s.ap x hx.1
 have old:∀j u,j≠x→r.2 j=some u→σ j=some u∧j∉N:=fun j u hj e=>by
  rw[er]at e
  obtain⟨k1,k2⟩:=Zj4 e
  exact⟨Z4 k2 hj,k1⟩
 rcases h3 with⟨k1,k2,k3,k4⟩ | ⟨t,v,F,k1,k2,_⟩
 ·have hρ:ρ'=ρ:=(hK _ _ _ k2).2
  subst hρ
  have frameL:∀j u,j∉O→σ j=some u→∀a∈Φ j,H'[a]?=H[a]?:=fun j u hj ej a m=>h2 a (s.low ej a m) fun⟨i,hi,⟨w,ei⟩,mi⟩=>(s.st.own i hi w ei).2.2 j u (fun q=>hj (q▸hi)) ej a mi m
  refine⟨ρ',H',Φ',Ψ,h1,fun a ha hn=>h2 a ha fun q=>hn (.inl q),fun _ _=>rfl,.inl ⟨k1,k2,⟨k3,fun i d hi t e=>?_,fun i hi d=>s.ap i (hO' i hi) d,fun i hi t e a m=>?_⟩,fun a h=>?_⟩⟩
  ·have ix:i≠x:=fun q=>xS d (q▸hi)
   have iO:i∉O:=fun q=>s.ap i q d hi
   obtain⟨e1,_⟩:=old i t ix e
   obtain⟨v,q1,q2,q3,q4⟩:=s.sp i d hi t e1
   obtain⟨v',w1,w2⟩:=s.st.slot i t e1
   rw[q1]at w1
   cases w1
   refine⟨v,q1,q2.frame w2 (frameL i t iO e1),q3,fun j u hj ej a m q=>?_⟩
   have lo:=s.low e1 a (s.up hi e1 a m)
   have inO:∀w,r.2 j=some w→j∈O'→False:=fun w ew hjO=>by
    rcases k4 a ⟨j,hjO,⟨w,ew⟩,q⟩with q | ⟨z,hz,⟨tz,ez⟩,mz⟩
    ·omega
    ·exact q4 z tz (fun q=>iO (q▸hz)) ez a m mz
   by_cases jx:j=x
   ·exact inO u ej (jx▸hx.2)
   ·obtain⟨e2,jN⟩:=old j u jx ej
    by_cases jO:j∈O
    ·rcases hO j jO with z | z
     ·exact inO u ej z
     ·exact jN z
    ·obtain⟨vj,w1,w2⟩:=s.st.slot j u e2
     obtain⟨vj',w3,w4⟩:=k3.slot j u ej
     rw[w1]at w3
     cases w3
     obtain⟨_,ef⟩:=w4.det (w2.frame (frameL j u jO e2))
     rw[ef]at q
     exact q4 j u hj e2 a m q
  ·rcases k4 a ⟨i,hi,⟨t,e⟩,m⟩with q | ⟨j,hj,⟨w,ej⟩,mj⟩
   ·exact Nat.le_trans s.st.len q
   ·exact s.nw j hj w ej a mj
  ·rcases h with h | ⟨i,d,hi,⟨t,e⟩,m⟩
   ·exact(k4 a h).imp id .inl
   ·have ix:i≠x:=fun q=>xS d (q▸hi)
    exact .inr (.inr ⟨i,d,hi,⟨t,(old i t ix e).1⟩,m⟩)
 ·have:=(hK _ _ _ k2).1
  cases this
theorem Zfi{x:Nat}{N:List Nat}{o e:Ex}{po:PPa}{p:PE}(hx:x∈O∧x∈O')(y:Pa O x o po)(z:E O N true e p)(hN:∀j∈N,j∈O∧j≠x)(hO:∀j∈O',j∈O∧j∉N)(hO2:∀j∈O,j∈O'∨j∈N): SU O S O' S SR fr (Zaf (ZaU o e)) (Zbn x N po p):=
 Zhr (R:=[]) (TM.S.app hx.1 y z hN hO) Zej (fun σ r h=>by
  obtain⟨ks,_,h⟩:=Zz0.mp h
  obtain⟨w,_,h⟩:=Zz0.mp h
  obtain⟨t,_,h⟩:=Zz0.mp h
  obtain⟨t',_,h⟩:=Zz1.mp h
  subst h
  exact⟨t',rfl⟩) hx hO2 (fun j hj=>(hO j hj).1)
theorem SU.putO{x:Nat}{N M:List Nat}{u:Bool}{o e i:Ex}{po:PPa}{p pi:PE}(hx:x∈O∧x∈O')(z:E O N true e p)(y:Pa O x o po)(zi:E O M u i pi)(hN:∀j∈N,j∈O∧j≠x)(hO:∀j∈O',j∈O∧j∉N)(hO2:∀j∈O,j∈O'∨j∈N): SU O S O' S SR fr (ZaK e o i) (Zbr x N p po pi):=
 Zhr (R:=[]) (TM.S.put hx.1 z y zi hN hO) Kp.put (fun σ r h=>by
  obtain⟨w,_,h⟩:=Zz0.mp h
  obtain⟨ks,_,h⟩:=Zz0.mp h
  obtain⟨k,_,h⟩:=Zz0.mp h
  cases k <;> first | (cases h;done) | skip
  obtain⟨t,_,h⟩:=Zz0.mp h
  obtain⟨t',_,h⟩:=Zz1.mp h
  subst h
  exact⟨t',rfl⟩) hx hO2 (fun j hj=>(hO j hj).1)
end
end TM
end
section
namespace TM
open PySem PM
section
variable {O O':List Nat} {S S' SR:Z7} {fr:Bool}
theorem Zhh{c:Cu}{ρ:Lc}{σ:TL}{H:Hp}{Φ Ψ:Nat→List Nat}{x d a b:Nat}{t t':T}{v:V}{vs':List V}{F2 R2 Fn Rn N:List Nat}(s:Su c O S ρ σ H Φ Ψ)(hx:(x,d)∈S)(uq:∀q∈S,∀r∈S,q.1=r.1→q.2=r.2)(ex:σ x=some t)(ev:ρ x=some v)(hb:c.H0.length≤b)(hlow:∀k t,σ k=some t→∀a∈Φ k,a<b)
  (ha:a∈Ψ x) (r:RD (H.set a vs') d v t' F2 R2) (nd:F2.Nodup) (dj:∀y∈F2,y∉R2) (f2:∀y∈F2,y∈Ψ x∨y∈Fn) (r2:∀y∈R2,y∈Φ x∨y∈Rn) (hFn:∀y∈Fn,b≤y) (hRn:∀y∈Rn,b≤y∨∃j∈N,(∃t,σ j=some t)∧y∈Φ j) (hN:∀n∈N,n∉O'∧∀d,(n,d)∉S') (hO:∀j∈O',j∈O) (hS:∀q∈S',q∈S):
  ∃G,Su c O' S' ρ (updT σ x t') (H.set a vs') (Zp Φ x G) (Zp Ψ x F2)∧(∀y,HU O' S' (updT σ x t') (Zp Φ x G) (Zp Ψ x F2) y→b≤y∨HU O S σ Φ Ψ y):=by
 obtain⟨G,rf,perm⟩:=r.rf
 obtain⟨v',q1,q2,q3,q4⟩:=s.sp x d hx t ex
 have xO:x∉O:=fun q=>s.ap x q d hx
 have gsub:∀y∈G,y∈Φ x∨b≤y∨∃j∈N,(∃t,σ j=some t)∧y∈Φ j:=fun y m=>by
  rcases Zz8.mp (perm.symm.subset m)with m | m
  ·rcases f2 y m with q | q
   ·exact .inl (s.up hx ex y q)
   ·exact .inr (.inl (hFn y q))
  ·rcases r2 y m with q | q
   ·exact .inl q
   ·exact .inr (hRn y q)
 have aoff:∀k u,k≠x→σ k=some u→a∉Φ k:=fun k u hk e=>q4 k u hk e a ha
 have fr:∀k u,k≠x→σ k=some u→∀y∈Φ k,(H.set a vs')[y]?=H[y]?:=fun k u hk e y m=>List.getElem?_set_ne fun q:a=y=>aoff k u hk e (q▸m)
 refine⟨G,⟨⟨fun k u e=>?_,fun k u e y m=>?_,fun k hk u e=>?_,by simpa using s.st.len,fun y hy hn=>?_,s.st.pos,s.st.f0⟩,fun k d' hk u e=>?_,fun k hk d' m=>s.ap k (hO k hk) d' (hS _ m),fun k hk u e=>?_⟩,fun y h=>?_⟩
 ·by_cases q:k=x
  ·subst q
   rcases ZdY e with⟨_,q'⟩ | ⟨q',_⟩
   ·subst q';exact⟨v,ev,by simpa [Zp]using rf⟩
   ·exact absurd rfl q'
  ·have e0:=Z4 e q
   obtain⟨w,h1,h2⟩:=s.st.slot k u e0
   exact⟨w,h1,by simpa [Zp,q]using h2.frame (fr k u q e0)⟩
 ·by_cases q:k=x
  ·subst q
   simp only[Zp,if_true]at m
   rcases gsub y m with q | q | ⟨j,_,⟨tj,ej⟩,mj⟩
   ·exact s.st.src k t ex y q
   ·exact .inl (by omega)
   ·exact s.st.src j tj ej y mj
  ·simp only[Zp,q,if_false]at m
   exact s.st.src k u (Z4 e q) y m
 ·have q:k≠x:=fun q=>xO (q▸hO k hk)
  have e0:=Z4 e q
  obtain⟨o1,o2,o3⟩:=s.st.own k (hO k hk) u e0
  simp only[Zp,q,if_false]
  refine⟨o1,o2,fun j w hj ej y m=>?_⟩
  by_cases q2:j=x
  ·simp only[q2,if_true]
   intro m2
   rcases gsub y m2 with z | z | ⟨j',hj',⟨tj,ej'⟩,mj⟩
   ·exact o3 x t (Ne.symm q) ex y m z
   ·have:=hlow k u e0 y m;omega
   ·exact o3 j' tj (fun z=>(hN j' hj').1 (z▸hk)) ej' y m mj
  ·simpa [q2]using o3 j w hj (Z4 ej q2) y m
 ·rw[List.getElem?_set_ne fun q=>?_]
  ·exact s.st.keep y hy hn
  ·subst q
   rcases q3 a ha with z | z
   ·omega
   ·exact hn (c.fs _ _ z)
 ·by_cases q:k=x
  ·subst q
   have:d'=d:=uq _ (hS _ hk) _ hx rfl
   subst this
   rcases ZdY e with⟨_,q'⟩ | ⟨q',_⟩
   ·subst q'
    refine⟨v,ev,by simpa [Zp]using ⟨R2,r,nd,dj⟩,fun y m=>?_,fun j w hj ej y m=>?_⟩
    ·simp only[Zp,if_true]at m
     rcases f2 y m with z | z
     ·exact q3 y z
     ·exact .inl (by have:=hFn y z;omega)
    ·simp only[Zp,if_true]at m
     simp only[Zp,hj,if_false]
     have ej:=Z4 ej hj
     rcases f2 y m with z | z
     ·exact q4 j w hj ej y z
     ·intro m2
      have:=hlow j w ej y m2
      have:=hFn y z
      omega
   ·exact absurd rfl q'
  ·have e0:=Z4 e q
   obtain⟨w,h1,h2,h3,h4⟩:=s.sp k d' (hS _ hk) u e0
   obtain⟨w',k1,k2⟩:=s.st.slot k u e0
   rw[h1]at k1
   cases k1
   simp only[Zp,q,if_false]
   refine⟨w,h1,h2.frame k2 (fr k u q e0),h3,fun j z hj ej y m=>?_⟩
   by_cases q2:j=x
   ·simp only[q2,if_true]
    intro m2
    rcases gsub y m2 with z | z | ⟨j',hj',⟨tj,ej'⟩,mj⟩
    ·exact h4 x t (Ne.symm q) ex y m z
    ·have:=hlow k u e0 y (s.up (hS _ hk) e0 y m);omega
    ·exact h4 j' tj (fun z=>(hN j' hj').2 d' (z▸hk)) ej' y m mj
   ·simpa [q2]using h4 j z hj (Z4 ej q2) y m
 ·have q:k≠x:=fun q=>xO (q▸hO k hk)
  simpa [Zp,q]using s.nw k (hO k hk) u (Z4 e q)
 ·rcases h with⟨k,hk,⟨w,ek⟩,m⟩ | ⟨k,d',hk,⟨w,ek⟩,m⟩
  ·have q:k≠x:=fun q=>xO (q▸hO k hk)
   simp only[Zp,q,if_false]at m
   exact .inr (.inl ⟨k,hO k hk,⟨w,Z4 ek q⟩,m⟩)
  ·by_cases q:k=x
   ·subst q
    simp only[Zp,if_true]at m
    rcases f2 y m with z | z
    ·exact .inr (.inr ⟨k,d,hx,⟨t,ex⟩,z⟩)
    ·exact .inl (hFn y z)
   ·simp only[Zp,q,if_false]at m
    exact .inr (.inr ⟨k,d',hS _ hk,⟨w,Z4 ek q⟩,m⟩)
theorem Zhs{c:Cu}{ρ:Lc}{σ:TL}{H H3:Hp}{Φ Ψ:Nat→List Nat}{N Fw:List Nat}{u own:Bool}{d:Nat}{vw:V}{w:T}(r:RF H3 vw w Fw)(b3:∀a∈Fw,From H N σ Φ a)(b4:u=true→Fw.Nodup)(hm:own=true→u=true∧N=[])(hd:own=true∨d=0):
  ∃Fn Rn,RD H3 d vw w Fn Rn∧(∀y∈Fn,H.length≤y)∧Fn.Nodup∧(∀y∈Fn,y∉Rn)∧∀y∈Rn,From H N σ Φ y:=by
 cases own with
 | false=>
  have:d=0:=hd.resolve_left (by simp)
  subst this
  exact⟨[],Fw,.leaf r (.inl rfl),by simp,by simp,by simp,b3⟩
 | true=>
  obtain⟨hu,hN⟩:=hm rfl
  subst hN
  obtain⟨F,R,h1,h2⟩:=r.rd d
  have:=h2.nodup_iff.mpr (b4 hu)
  obtain⟨n1,n2,n3⟩:=List.nodup_append.mp this
  exact⟨F,R,h1,fun y m=>(b3 y (h2.subset (Zz4 _ m))).nil,n1,fun y m q=>n3 y m y q rfl,fun y m=>b3 y (h2.subset (Zz3 _ m))⟩
noncomputable def ZcB(x d:Nat)(own:Bool)(po:PPa)(p:PE): PS:=fun σ=>(po σ).bind fun ks=>(p σ).bind fun w=>(σ x).bind fun t=>if ks.length<d∧d≤999∧(own=true∨dnn d ks.length=0)then(Zcm (Zb5 w) ks t).map fun t'=>(none,updT σ x t')else none
noncomputable def ZbB(x d:Nat)(own:Bool)(p:PE)(po:PPa)(pi:PE): PS:=fun σ=>(p σ).bind fun w=>(po σ).bind fun ks=>(pi σ).bind fun k=>match k with
 | .int k=>(σ x).bind fun t=>if ks.length<d∧d≤999∧(own=true∨dnn d ks.length=0)then(Zcm (Zco k w) ks t).map fun t'=>(none,updT σ x t')else none
 | _=>none
theorem ZgL{c:Cu}{ρ:Lc}{σ:TL}{H:Hp}{Φ Ψ:Nat→List Nat}{x d a:Nat}{t:T}(s:Su c O S ρ σ H Φ Ψ)(hx:(x,d)∈S)(ex:σ x=some t)(ha:a∈Ψ x): a≠0:=by
 have:=s.st.pos
 obtain⟨_,_,_,q,_⟩:=s.sp x d hx t ex
 rcases q a ha with q | q
 ·omega
 ·exact fun e=>s.st.f0 (e▸c.fs _ _ q)
theorem Zhi{x d:Nat}{N:List Nat}{u own:Bool}{o e:Ex}{po:PPa}{p:PE}(hx:(x,d)∈S∧(x,d)∈S')(uq:∀q∈S,∀r∈S,q.1=r.1→q.2=r.2)(y:PaU O x o po)(z:E O N u e p)(hm:own=true→u=true∧N=[])(hN:∀n∈N,n∉O'∧∀q∈S',q.1≠n)(hO:(∀j∈O',j∈O)∧∀q∈S',q∈S): SU O S O' S' SR fr (Zaf (ZaU o e)) (ZcB x d own po p):=fun c ρ σ H Φ Ψ r hc s q=>by
 have hN':∀n∈N,n∉O'∧∀d,(n,d)∉S':=fun n hn=>⟨(hN n hn).1,fun d m=>(hN n hn).2 _ m rfl⟩
 obtain⟨ks,h1,q⟩:=Zz0.mp q
 obtain⟨w,h2,q⟩:=Zz0.mp q
 obtain⟨t,h3,q⟩:=Zz0.mp q
 split at q
 case isFalse=>cases q
 rename_i hc
 obtain⟨t',h4,q⟩:=Zz1.mp q
 subst q
 obtain⟨v,ev,⟨R,rd,nd,dj⟩,p3,p4⟩:=s.sp x d hx.1 t h3
 obtain⟨v',ev',rv⟩:=s.st.slot x t h3
 rw[ev]at ev'
 cases ev'
 obtain⟨Gx,rg,pg⟩:=rd.rf
 obtain⟨_,eG⟩:=rv.det rg
 have hlow:∀k t,σ k=some t→∀a∈Φ k,a<H.length:=fun k t e=>s.low e
 have inF:∀a∈Ψ x,a∈Φ x:=fun a m=>by rw[eG];exact pg.subset (Zz4 _ m)
 have inR:∀a∈R,a∈Φ x:=fun a m=>by rw[eG];exact pg.subset (Zz3 _ m)
 obtain⟨a,_,_,_,_,_,l0,_⟩:=Zeh (Fn:=[]) (Rn:=[]) ks rd nd dj (by simp) hc.1 hc.2.1 h4
 obtain⟨X,a1⟩:=y c.toCtx ρ σ H Φ ks v (.ref a) s.st h1 ev l0.follow
 obtain⟨vw,Y,Fw,b1,b2,b3,b4⟩:=z c.toCtx ρ σ (H++X) Φ w (s.st.ext X) h2
 have s2:=(s.ext X).ext Y
 have grow:∀b,b<H.length→(H++X++Y)[b]?=H[b]?:=fun b hb=>by rw[List.append_assoc,List.getElem?_append_left hb]
 have rd2:RD (H++X++Y) d v t (Ψ x) R:=rd.frame (fun b m=>grow b (hlow x t h3 b (inF b m))) (fun b m=>grow b (hlow x t h3 b (inR b m)))
 obtain⟨Fn,Rn,w1,w2,w3,w4,w5⟩:=Zhs (d:=dnn d ks.length) (c:=c) (ρ:=ρ) (Ψ:=Ψ) b2 (fun a m=>(b3 a m).back) b4 hm hc.2.2
 have xN:∀n∈N,n≠x:=fun n hn q=>(hN' n hn).2 d (q▸hx.2)
 have psR:∀b∈Ψ x,b∉Rn:=fun b m q=>by
  rcases w5 b q with h | ⟨n,hn,⟨tn,en⟩,mn⟩
  ·have:=hlow x t h3 b (inF b m);omega
  ·exact p4 n tn (xN n hn) en b m mn
 obtain⟨a',vs,ts,ts',Fa,Ra,l,am,ea,hs,hf,gn,na,gs,gr,go⟩:=Zeh (Fn:=Fn) (Rn:=Rn) ks rd2 nd dj (fun b m q=>by have:=w2 b m;have:=hlow x t h3 b (inF b q);omega) hc.1 hc.2.1 h4
 have haa:a'=a:=by
  have f2:=ZdU Y (ZdU X l0.follow)
  rw[l.follow]at f2
  cases f2
  rfl
 subst haa
 unfold Zb5 at hf
 split at hf
 ·rename_i hl
  cases hf
  have lowF:∀b∈Ψ x,b<H.length:=fun b m=>hlow x t h3 b (inF b m)
  obtain⟨F2,R2,r',n',sub',subR'⟩:=go (vs++[vw]) (Fa++Fn) (Ra++Rn) (hs.append (.one w1)) (by
   rw[List.nodup_append]
   exact⟨gn,w3,fun y hy z hz e=>by have:=lowF y (gs y hy);have:=w2 z hz;omega⟩) (fun m=>(Zz8.mp m).elim na fun m=>by have:=lowF _ am;have:=w2 _ m;omega) (fun m=>(Zz8.mp m).elim (fun m=>dj _ am (gr _ m)) (psR _ am)) (fun y m=>List.mem_append.mp m) (fun y m=>List.mem_append.mp m)
  obtain⟨G,st,com⟩:=Zhh (O':=O') (S':=S') (b:=H.length) (N:=N) s2 hx.1 uq h3 ev s.st.len hlow am r' n' (fun y m q=>by
   rcases sub' y m with m | m
   ·rcases subR' y q with q | q
    ·exact dj y m q
    ·exact psR y m q
   ·rcases subR' y q with q | q
    ·have:=w2 y m;have:=hlow x t h3 y (inR y q);omega
    ·exact w4 y m q) sub' (fun y m=>(subR' y m).imp (inR y) id) w2 (fun y m=>w5 y m) hN' hO.1 hO.2
  refine⟨ρ,(H++X++Y).set a' (vs++[vw]),Zp Φ x G,Zp Ψ x F2,by simp,fun y hy hn=>?_,fun _ _=>rfl,.inl ⟨rfl,?_,st,com⟩⟩
  ·have:a'≠y:=fun q=>hn (.inr ⟨x,d,hx.1,⟨t,h3⟩,q▸am⟩)
   rw[List.getElem?_set_ne this,grow y hy]
  ·simp only[Zaf,ZaU,a1,Option.bind_some,b1,ZcS,ea]
   rw[if_pos ⟨ZgL s hx.1 h3 am,by rw[hs.length];exact hl⟩]
   rfl
 ·cases hf
theorem SU.putS{x d:Nat}{N M:List Nat}{u u' own:Bool}{o e i:Ex}{po:PPa}{p pi:PE}(hx:(x,d)∈S∧(x,d)∈S')(uq:∀q∈S,∀r∈S,q.1=r.1→q.2=r.2)(z:E O N u e p)(y:PaU O x o po)(zi:E O M u' i pi)(hm:own=true→u=true∧N=[])(hN:∀n∈N,n∉O'∧∀q∈S',q.1≠n)(hO:(∀j∈O',j∈O)∧∀q∈S',q∈S): SU O S O' S' SR fr (ZaK e o i) (ZbB x d own p po pi):=fun c ρ σ H Φ Ψ r hc s q=>by
 have hN':∀n∈N,n∉O'∧∀d,(n,d)∉S':=fun n hn=>⟨(hN n hn).1,fun d m=>(hN n hn).2 _ m rfl⟩
 obtain⟨w,h2,q⟩:=Zz0.mp q
 obtain⟨ks,h1,q⟩:=Zz0.mp q
 obtain⟨tk,h5,q⟩:=Zz0.mp q
 cases tk <;> first | (cases q;done) | skip
 rename_i k
 obtain⟨t,h3,q⟩:=Zz0.mp q
 split at q
 case isFalse=>cases q
 rename_i hc
 obtain⟨t',h4,q⟩:=Zz1.mp q
 subst q
 obtain⟨v,ev,⟨R,rd,nd,dj⟩,p3,p4⟩:=s.sp x d hx.1 t h3
 obtain⟨v',ev',rv⟩:=s.st.slot x t h3
 rw[ev]at ev'
 cases ev'
 obtain⟨Gx,rg,pg⟩:=rd.rf
 obtain⟨_,eG⟩:=rv.det rg
 have hlow:∀k t,σ k=some t→∀a∈Φ k,a<H.length:=fun k t e=>s.low e
 have inF:∀a∈Ψ x,a∈Φ x:=fun a m=>by rw[eG];exact pg.subset (Zz4 _ m)
 have inR:∀a∈R,a∈Φ x:=fun a m=>by rw[eG];exact pg.subset (Zz3 _ m)
 obtain⟨vw,X,Fw,b1,b2,b3,b4⟩:=z c.toCtx ρ σ H Φ w s.st h2
 have growX:∀b,b<H.length→(H++X)[b]?=H[b]?:=fun b hb=>List.getElem?_append_left hb
 have rdX:RD (H++X) d v t (Ψ x) R:=rd.frame (fun b m=>growX b (hlow x t h3 b (inF b m))) (fun b m=>growX b (hlow x t h3 b (inR b m)))
 obtain⟨a,_,_,_,_,_,l0,_⟩:=Zeh (Fn:=[]) (Rn:=[]) ks rdX nd dj (by simp) hc.1 hc.2.1 h4
 obtain⟨Y,a1⟩:=y c.toCtx ρ σ (H++X) Φ ks v (.ref a) (s.st.ext X) h1 ev l0.follow
 obtain⟨vk,Z,Fk,d1,d2,d3,d4⟩:=zi c.toCtx ρ σ (H++X++Y) Φ _ ((s.st.ext X).ext Y) h5
 cases d2
 have s2:=((s.ext X).ext Y).ext Z
 have grow:∀b,b<H.length→(H++X++Y++Z)[b]?=H[b]?:=fun b hb=>by rw[List.append_assoc,List.append_assoc,List.getElem?_append_left hb]
 have rd2:RD (H++X++Y++Z) d v t (Ψ x) R:=rd.frame (fun b m=>grow b (hlow x t h3 b (inF b m))) (fun b m=>grow b (hlow x t h3 b (inR b m)))
 obtain⟨Fn,Rn,w1,w2,w3,w4,w5⟩:=Zhs (d:=dnn d ks.length) (c:=c) (ρ:=ρ) (Ψ:=Ψ) ((b2.ext Y).ext Z) b3 b4 hm hc.2.2
 have xN:∀n∈N,n≠x:=fun n hn q=>(hN' n hn).2 d (q▸hx.2)
 have psR:∀b∈Ψ x,b∉Rn:=fun b m q=>by
  rcases w5 b q with h | ⟨n,hn,⟨tn,en⟩,mn⟩
  ·have:=hlow x t h3 b (inF b m);omega
  ·exact p4 n tn (xN n hn) en b m mn
 have lowF:∀b∈Ψ x,b<H.length:=fun b m=>hlow x t h3 b (inF b m)
 obtain⟨a',vs,ts,ts',Fa,Ra,l,am,ea,hs,hf,gn,na,gs,gr,go⟩:=Zeh (Fn:=Fn) (Rn:=Rn) ks rd2 nd dj (fun b m q=>by have:=w2 b m;have:=lowF b q;omega) hc.1 hc.2.1 h4
 have haa:a'=a:=by
  have f2:=ZdU Z (ZdU Y l0.follow)
  rw[l.follow]at f2
  cases f2
  rfl
 subst haa
 unfold Zco at hf
 split at hf
 ·rename_i hl
  cases hf
  have hk:k.toNat<ts.length:=by omega
  obtain⟨v0,Gk,Qk,F1,F2,R1,R2,e0,r0,eG',eR',rb⟩:=hs.split (List.getElem?_eq_getElem hk)
  have rs:=rb (H++X++Y++Z) vw w Fn Rn w1 (fun _ _=>rfl) (fun _ _=>rfl)
  have sub0:∀a∈Fn,a∈Gk∨a∈Fn:=fun a m=>.inr m
  have subR0:∀a∈Rn,a∈Qk∨a∈Rn:=fun a m=>.inr m
  subst eG'
  subst eR'
  obtain⟨F2',R2',r',n',sub',subR'⟩:=go _ _ _ rs (nd3 gn w3 sub0 fun a m q=>by have:=w2 a m;have:=lowF a (gs a q);omega) (fun m=>by
   rcases in3 (G:=Gk) sub0 _ m with m | m
   ·exact na m
   ·have:=w2 _ m;have:=lowF _ am;omega) (fun m=>by
   rcases in3 (G:=Qk) subR0 _ m with m | m
   ·exact dj _ am (gr _ m)
   ·exact psR _ am m) (in3 sub0) (in3 subR0)
  obtain⟨G,st,com⟩:=Zhh (O':=O') (S':=S') (b:=H.length) (N:=N) s2 hx.1 uq h3 ev s.st.len hlow am r' n' (fun y m q=>by
   rcases sub' y m with m | m
   ·rcases subR' y q with q | q
    ·exact dj y m q
    ·exact psR y m q
   ·rcases subR' y q with q | q
    ·have:=w2 y m;have:=hlow x t h3 y (inR y q);omega
    ·exact w4 y m q) sub' (fun y m=>(subR' y m).imp (inR y) id) w2 (fun y m=>w5 y m) hN' hO.1 hO.2
  refine⟨ρ,(H++X++Y++Z).set a' (vs.set k.toNat vw),Zp Φ x G,Zp Ψ x F2',by simp,fun y hy hn=>?_,fun _ _=>rfl,.inl ⟨rfl,?_,st,com⟩⟩
  ·have:a'≠y:=fun q=>hn (.inr ⟨x,d,hx.1,⟨t,h3⟩,q▸am⟩)
   rw[List.getElem?_set_ne this,grow y hy]
  ·simp only[ZaK,b1,Option.bind_some,a1,d1,Zev,ea]
   rw[if_pos ⟨ZgL s hx.1 h3 am,by rw[hs.length];exact hl⟩]
   rfl
 ·cases hf
def PutK(J:List Nat)(put:V→Lc→Option Lc): Prop:=∀v ρ ρ1,put v ρ=some ρ1→∀i,i∉J→ρ1 i=ρ i
theorem PutK.one{j:Nat}: PutK [j] (put1 j):=fun v ρ ρ1 h i hi=>by
 cases h
 have:i≠j:=fun q=>hi (by simp[q])
 simp[upd,this]
theorem PutK.two{j k:Nat}: PutK [j,k] (Zb0 j k):=fun v ρ ρ1 h i hi=>by
 have h1:i≠j:=fun q=>hi (by simp[q])
 have h2:i≠k:=fun q=>hi (by simp[q])
 unfold Zb0 at h
 split at h
 ·cases h;simp[upd,h1,h2]
 ·cases h
theorem ZlG{J:List Nat}{put:V→Lc→Option Lc}{pput:T→TL→Option TL}(hj:PutOk O J put pput)(hk:PutK J put)(hJ:∀i∈J,i∉O∧∀d,(i,d)∉S){c:Cu}{ρ:Lc}{σ σ1:TL}{K:Hp}{Φ Ψ:Nat→List Nat}{v:V}{t:T}{F:List Nat}(s:Su c O S ρ σ K Φ Ψ)(r:RF K v t F)(hs:∀a∈F,c.H0.length≤a∨c.P a)(ho:∀i∈O,∀t',σ i=some t'→∀a∈Φ i,a∉F)(hp:∀a,SH S σ Ψ a→a∉F)(h:pput t σ=some σ1):
  ∃ρ1 Φ1,put v ρ=some ρ1∧Su c O S ρ1 σ1 K Φ1 Ψ∧(∀i,i∉J→σ1 i=σ i∧Φ1 i=Φ i)∧∀i∈J,∀a∈Φ1 i,a∈F:=by
 obtain⟨ρ1,Φ1,p1,s1,p3,p4⟩:=hj c.toCtx ρ σ K Φ v t F σ1 s.st r hs ho h
 refine⟨ρ1,Φ1,p1,⟨s1,fun i d hi u e=>?_,s.ap,fun i hi u e=>?_⟩,p3,p4⟩
 ·have iJ:i∉J:=fun q=>(hJ i q).2 d hi
  obtain⟨e1,e2⟩:=p3 i iJ
  rw[e1]at e
  obtain⟨w,h1,h2,h3,h4⟩:=s.sp i d hi u e
  refine⟨w,by rw[hk v ρ ρ1 p1 i iJ];exact h1,h2,h3,fun j z hj' ej a m q=>?_⟩
  by_cases jJ:j∈J
  ·exact hp a ⟨i,d,hi,⟨u,e⟩,m⟩ (p4 j jJ a q)
  ·obtain⟨f1,f2⟩:=p3 j jJ
   rw[f1]at ej
   rw[f2]at q
   exact h4 j z hj' ej a m q
 ·have iJ:i∉J:=fun q=>(hJ i q).1 hi
  obtain⟨e1,e2⟩:=p3 i iJ
  rw[e1]at e
  rw[e2]
  exact s.nw i hi u e
theorem ZgM{J:List Nat}{put:V→Lc→Option Lc}{pput:T→TL→Option TL}{b:Sm}{qb:PS}(hj:PutOk O J put pput)(hkp:PutK J put)(hJ:∀i∈J,i∉O∧∀d,(i,d)∉S)(hJR:∀q∈SR,q.1∉J)(hb:SU O S O S SR fr b qb){c:Cu}(hc:∀i,(∀q∈SR,q.1≠i)→c.Fs i=[]){nx:Nx}{vs:List V}{G:List Nat}{H1:Hp}(hG:∀a∈G,a<H1.length)(hsrc:∀a∈G,c.H0.length≤a∨c.P a)(hnx:∀K:Hp,(∀a∈G,K[a]?=H1[a]?)→∀i,i≤vs.length→nx i K=some vs[i]?):
  ∀(rs:List T) (ws:List V) (i:Nat) (ρ:Lc) (σ:TL) (K:Hp) (Φ Ψ:Nat→List Nat) (Fr:List Nat) (r:Option T×TL),(∀j,vs[i+j]?=ws[j]?)→i+ws.length=vs.length→Su c O S ρ σ K Φ Ψ→H1.length≤K.length→(∀a∈G,K[a]?=H1[a]?)→(∀a∈G,¬HU O S σ Φ Ψ a)→RFs K ws rs Fr→(∀a∈Fr,a∈G)→Zba pput qb σ rs=some r →
   AftU c O S O S SR fr ρ σ K Φ Ψ (ZaW nx put b (rs.length+1) i ρ K) r
 | [],ws,i,ρ,σ,K,Φ,Ψ,Fr,r,hat,hlen,s,hl,hk,hoff,rr,hfr,h=>by
  cases rr
  cases h
  have e:=hnx K hk i (by simp at hlen;omega)
  have e2:vs[i]?=none:=by have:=hat 0;simpa using this
  exact⟨ρ,K,Φ,Ψ,Nat.le_refl _,fun _ _ _=>rfl,fun _ _=>rfl,.inl ⟨rfl,by simp[ZaW,e,e2],s,fun a m=>.inr m⟩⟩
 | t::rs,ws0,i,ρ,σ,K,Φ,Ψ,Fr0,r,hat,hlen,s,hl,hk,hoff,rr,hfr,h=>by
  cases rr with
  | @cons v _ F1 ws _ F2 a b'=>
  simp only[List.length_cons]at hlen
  obtain⟨σ1,h1,h⟩:=Zz0.mp h
  obtain⟨r1,h2,h⟩:=Zz0.mp h
  have e:=hnx K hk i (by omega)
  have e2:vs[i]?=some v:=by have:=hat 0;simpa using this
  have hat':∀j,vs[i+1+j]?=ws[j]?:=fun j=>by have:=hat (j+1);rw[show i+1+j=i+(j+1)by omega,this];simp
  obtain⟨ρ1,Φ1,p1,s1,p3,p4⟩:=ZlG hj hkp hJ s a (fun x m=>hsrc x (hfr x (Zz4 _ m))) (fun k hk t' e x m q=>hoff x (hfr x (Zz4 _ q)) (.inl ⟨k,hk,⟨t',e⟩,m⟩)) (fun x h q=>hoff x (hfr x (Zz4 _ q)) (.inr h)) h1
  have hh:∀x,HU O S σ1 Φ1 Ψ x→HU O S σ Φ Ψ x:=fun x h=>by
   rcases h with⟨k,hk,⟨t',e⟩,m⟩ | ⟨k,d,hk,⟨t',e⟩,m⟩
   ·obtain⟨q1,q2⟩:=p3 k fun q=>(hJ k q).1 hk
    exact .inl ⟨k,hk,⟨t',q1▸e⟩,q2▸m⟩
   ·obtain⟨q1,q2⟩:=p3 k fun q=>(hJ k q).2 d hk
    exact .inr ⟨k,d,hk,⟨t',q1▸e⟩,m⟩
  obtain⟨ρ2,K2,Φ2,Ψ2,g1,g2,gr,g3⟩:=hb c ρ1 σ1 K Φ1 Ψ r1 hc s1 h2
  have gr':∀q∈SR,ρ2 q.1=ρ q.1:=fun q hq=>(gr q hq).trans (hkp v ρ ρ1 p1 q.1 (hJR q hq))
  have estep:ZaW nx put b ((t::rs).length+1) i ρ K=(b ρ1 K).bind fun q=>match q.1 with
    | some _=>some q
    | none=>ZaW nx put b (rs.length+1) (i+1) q.2.1 q.2.2:=by
   rw[List.length_cons]
   show(nx i K).bind _=_
   rw[e,e2]
   first | (simp only[Option.bind_some,p1];done) | (simp only[Option.bind_some,p1];rfl)
  rcases g3 with⟨k1,k2,k3,k4⟩ | ⟨t',v',F',k1,k2,k3⟩
  ·rw[k1]at h
   have hG2:∀a∈G,K2[a]?=K[a]?:=fun x m=>g2 x (by have:=hG x m;omega) fun q=>hoff x m (hh x q)
   have hoff2:∀a∈G,¬HU O S r1.2 Φ2 Ψ2 a:=fun x m q=>by
    rcases k4 x q with q | q
    ·have:=hG x m;omega
    ·exact hoff x m (hh x q)
   have ih:=ZgM hj hkp hJ hJR hb hc hG hsrc hnx rs ws (i+1) ρ2 r1.2 K2 Φ2 Ψ2 F2 r hat' (by omega) k3 (by omega) (fun x m=>(hG2 x m).trans (hk x m)) hoff2 (b'.frame fun x m=>hG2 x (hfr x (Zz3 _ m))) (fun x m=>hfr x (Zz3 _ m)) h
   rw[estep,k2]
   simp only[Option.bind_some]
   obtain⟨ρ3,K3,Φ3,Ψ3,l1,l2,lr,l3⟩:=ih
   refine⟨ρ3,K3,Φ3,Ψ3,by omega,fun x hx hn=>?_,fun q hq=>(lr q hq).trans (gr' q hq),?_⟩
   ·rw[l2 x (by omega) fun q=>(k4 x q).elim (fun q=>by omega) fun q=>hn (hh x q),g2 x hx fun q=>hn (hh x q)]
   ·rcases l3 with⟨m1,m2,m3,m4⟩ | l
    ·refine .inl ⟨m1,m2,m3,fun x q=>?_⟩
     rcases m4 x q with q | q
     ·exact .inl (by omega)
     ·exact(k4 x q).imp id (hh x)
    ·exact .inr l
  ·rw[k1]at h
   cases h
   refine⟨ρ2,K2,Φ2,Ψ2,g1,fun x hx hn=>g2 x hx fun q=>hn (hh x q),gr',.inr ⟨t',v',F',k1,?_,k3⟩⟩
   rw[estep,k2]
   rfl
theorem ZcY{J Ns:List Nat}{g:Src}{q:PG}{put:V→Lc→Option Lc}{pput:T→TL→Option TL}{b:Sm}{qb:PS}(hg:Gs O Ns g q)(hj:PutOk O J put pput)(hkp:PutK J put)(hJ:∀i∈J,i∉O∧(∀q∈S,q.1≠i)∧∀q∈SR,q.1≠i)(hN:∀i∈Ns,i∉O∧∀q∈S,q.1≠i)(hb:SU O S O S SR fr b qb): SU O S O S SR fr (ZaE g put b) (Za0 q pput qb):=fun c ρ σ H Φ Ψ r hc s h=>by
 obtain⟨ts,h1,h⟩:=Zz0.mp h
 obtain⟨nx,X,vs,F,G,g1,g2,g3,g4,g5⟩:=hg c.toCtx ρ σ H Φ ts s.st h1
 have:=ZgM hj hkp (fun i hi=>⟨(hJ i hi).1,fun d m=>(hJ i hi).2.1 _ m rfl⟩) (fun q hq m=>(hJ q.1 m).2.2 q hq rfl) hb hc (H1:=H++X) (fun a m=>(g4 a m).1) (fun a m=>s.st.from_src (g4 a m).2) g5 ts vs 0 ρ σ (H++X) Φ Ψ F r (by simp) (by simp) (s.ext X) (Zz10 _) (fun _ _=>rfl) (fun a m q=>by
  rcases q with⟨k,hk,⟨t,e⟩,q⟩ | q
  ·exact s.st.from_off (fun i hi=>(hN i hi).1) (g4 a m).2 hk e q
  ·rcases(g4 a m).2 with z | ⟨n,hn,⟨tn,en⟩,mn⟩
   ·have:=s.shlow q;omega
   ·exact s.shoff q (fun d m=>(hN n hn).2 _ m rfl) en mn) g2 g3 h
 have eg:ZaE g put b ρ H=ZaW nx put b (ts.length+1) 0 ρ (H++X):=by simp only[ZaE,g1,Option.bind_some]
 rw[eg]
 exact this.step s (by simp) (fun a ha _=>List.getElem?_append_left ha) (fun j t _ e=>⟨e,rfl⟩) (fun a h=>.inr h)
end
end TM
end
section
namespace TM
open PySem PM
noncomputable def Zb6(σ:TL): Z7→Option (List T)
 | []=>some []
 | q::sd=>(σ q.1).bind fun t=>(Zb6 σ sd).map fun us=>t::us
theorem ZiL{σ:TL}: ∀{sd:Z7} {us:List T},Zb6 σ sd=some us→us.length=sd.length∧(∀(k i d:Nat) (u:T),sd[k]?=some (i,d)→us[k]?=some u→σ i=some u)∧∀q∈sd,∃t,σ q.1=some t
 | [],us,h=>by cases h;exact⟨rfl,by simp,by simp⟩
 | q::sd,us,h=>by
  obtain⟨t,h1,h⟩:=Zz0.mp h
  obtain⟨ts,h2,h⟩:=Zz1.mp h
  subst h
  obtain⟨k1,k2,k3⟩:=ZiL h2
  refine⟨by simp[k1],fun k i d u e1 e2=>?_,fun r hr=>?_⟩
  ·cases k with
   | zero=>simp at e1 e2;subst e2;rw[e1]at h1;exact h1
   | succ k=>exact k2 k i d u (by simpa using e1) (by simpa using e2)
  ·rcases Zz7.mp hr with z | z
   ·subst z;exact⟨t,h1⟩
   ·exact k3 r z
noncomputable def Zaq(n:Nat)(sd:Z7)(q:PS): List T→Option (T×List T):=fun ts=>if ts.length=n then(q fun i=>ts[i]?).bind fun r=>(Zb6 r.2 sd).map fun us=>(r.1.getD .none,us)else none
theorem SimX.of{n:Nat}{sd:Z7}{fr:Bool}{g:Sm}{q:PS}{O':List Nat}{S':Z7}(h:SU [] sd O' S' sd fr g q)(hn:∀q∈sd,q.1<n)(hS':∀q∈sd,q∈S'): SimX n sd fr (Z5 n g) (Zaq n sd q):=fun H vs ts t us Φ Ψ hp hv ht hargs hsp e=>by
 unfold Zaq at e
 rw[if_pos ht]at e
 obtain⟨r,e1,e⟩:=Zz0.mp e
 obtain⟨us',e2,e⟩:=Zz1.mp e
 cases e
 obtain⟨lk1,lk2,lk3⟩:=ZiL e2
 have at_:∀i d,(i,d)∈sd→∃v t,vs[i]?=some v∧ts[i]?=some t:=fun i d hi=>by
  have:i<n:=hn _ hi
  exact⟨vs[i],ts[i],List.getElem?_eq_getElem (by omega),List.getElem?_eq_getElem (by omega)⟩
 let Fs:Nat→List Nat:=fun i=>if i∈sd.map (·.1)then Ψ i else []
 have fsm:∀i d,(i,d)∈sd→Fs i=Ψ i:=fun i d hi=>by simp only[Fs];rw[if_pos (List.mem_map_of_mem hi)]
 let c:Cu:=⟨⟨H,sd.flatMap fun q=>Ψ q.1,fun a=>∃j,j<n∧a∈Φ j⟩,Fs,fun i a m=>by
  simp only[Fs]at m
  split at m
  ·rename_i hi
   obtain⟨q,hq,e⟩:=Zz11.mp hi
   exact List.mem_flatMap.mpr ⟨q,hq,e▸m⟩
  ·cases m⟩
 have hc:∀i,(∀q∈sd,q.1≠i)→c.Fs i=[]:=fun i hi=>by
  show(if i∈sd.map (·.1)then Ψ i else [])=[]
  rw[if_neg fun m=>by obtain⟨q,hq,e⟩:=Zz11.mp m;exact hi q hq e]
 have memF0:∀a,a∈c.F0↔∃i d,(i,d)∈sd∧a∈Ψ i:=fun a=>by
  simp only[c,List.mem_flatMap]
  constructor
  ·rintro⟨⟨i,d⟩,h1,h2⟩;exact⟨i,d,h1,h2⟩
  ·rintro⟨i,d,h1,h2⟩;exact⟨(i,d),h1,h2⟩
 have st:Su c [] sd (fun i=>vs[i]?) (fun i=>ts[i]?) H Φ Ψ:=by
  refine⟨⟨fun i t e=>?_,fun i t e a m=>.inr ⟨i,?_,m⟩,(fun i hi=>nomatch hi),Nat.le_refl _,fun a _ _=>rfl,hp,fun m=>?_⟩,fun i d hi t e=>?_,(fun i hi=>nomatch hi),(fun i hi=>nomatch hi)⟩
  ·exact hargs i t e
  ·have:=(Zz6.mp e).1;omega
  ·obtain⟨i,d,hi,m⟩:=(memF0 0).mp m
   obtain⟨v,t,h1,h2⟩:=at_ i d hi
   exact(hsp i d hi v t h1 h2).2.1 m
  ·obtain⟨v,t',h1,h2⟩:=at_ i d hi
   obtain⟨p1,p2,p3⟩:=hsp i d hi v t h1 e
   exact⟨v,h1,p1,fun a m=>.inr (by show a∈Fs i;rw[fsm i d hi];exact m),p3⟩
 obtain⟨ρ',H',Φ',Ψ',h1,h2,hr,h3⟩:=h c _ _ H Φ Ψ r hc st e1
 have frm:∀a,a<H.length→(∀i d,(i,d)∈sd→a∉Ψ i)→H'[a]?=H[a]?:=fun a ha hn=>h2 a ha fun q=>by
  rcases q with⟨j,hj,_⟩ | ⟨i,d,hi,_,m⟩
  ·cases hj
  ·exact hn i d hi m
 have go:∀(O2:List Nat) (S2:Z7) (F:List Nat),(∀q∈sd,q∈S2)→Su c O2 S2 ρ' r.2 H' Φ' Ψ'→(∀a,SH sd r.2 Ψ' a→a∉F)→(fr=true→∀s d,(s,d)∈sd→(∃t,r.2 s=some t)→∀a∈Φ' s,a∉F) →
   ∀(k i d:Nat) (v:V) (u:T),sd[k]?=some (i,d)→vs[i]?=some v→us[k]?=some u→RF H' v u (Φ' i)∧Sp H' d v u (Ψ' i)∧(∀a∈Ψ' i,H.length≤a∨a∈Ψ i)∧(∀a∈Φ' i,H.length≤a∨∃j,j<n∧a∈Φ j)∧(∀a∈Ψ' i,a∉F)∧(∀j d',j≠i→(j,d')∈sd→∀a∈Ψ' i,a∉Φ' j)∧(fr=true→∀a∈Φ' i,a∉F):=by
  intro O2 S2 F hsub s2 shF frF k i d v u ek ev eu
  have hi:=List.mem_of_getElem? ek
  have eσ:=lk2 k i d u ek eu
  obtain⟨v',w1,w2⟩:=s2.st.slot i u eσ
  have:ρ' i=some v:=(hr _ hi).trans ev
  rw[w1]at this
  cases this
  obtain⟨v2,q1,q2,q3,q4⟩:=s2.sp i d (hsub _ hi) u eσ
  rw[w1]at q1
  cases q1
  refine⟨w2,q2,fun a m=>?_,fun a m=>s2.st.src i u eσ a m,fun a m=>shF a ⟨i,d,hi,⟨u,eσ⟩,m⟩,fun j d' hj hjs a m=>?_,fun hf a m=>frF hf i d hi ⟨u,eσ⟩ a m⟩
  ·rcases q3 a m with z | z
   ·exact .inl z
   ·exact .inr (fsm i d hi▸z)
  ·obtain⟨tj,ej⟩:=lk3 _ hjs
   exact q4 j tj hj ej a m
 rcases h3 with⟨k1,k2,k3,k4⟩ | ⟨t',v',F',k1,k2,k3,k4,k5,k6,k7⟩
 ·refine⟨.none,H',Φ',Ψ',[],by simp only[Z5,hv,if_true,k2,Option.map_some,Option.getD_none],h1,frm,lk1,go O' S' [] hS' k3 (by simp) (by simp),by rw[k1];exact .none,by simp,by simp⟩
 ·refine⟨v',H',Φ',Ψ',F',by simp only[Z5,hv,if_true,k2,Option.map_some,Option.getD_some],h1,frm,lk1,go [] sd F' (fun _ h=>h) k4 k6 (fun hf=>(k7 hf).2.2),by rw[k1];exact k3,k5,fun hf=>⟨(k7 hf).1,(k7 hf).2.1⟩⟩
theorem SimX.sim{n:Nat}{fr:Bool}{f:List V→Hp→Option (V×Hp)}{p:List T→Option (T×List T)}(h:SimX n [] fr f p): SimF fr f (fun ts=>if ts.length=n then(p ts).map (·.1)else none):=fun H vs ts t F1 hp r e=>by
 simp only at e
 split at e
 case isFalse=>cases e
 rename_i hl
 obtain⟨⟨t1,us⟩,e1,e2⟩:=Zz1.mp e
 cases e2
 obtain⟨Φ,hΦ⟩:=r.slots
 obtain⟨v,H',Φ',Ψ',F,b1,b2,b3,b4,b5,b6,b7,b8⟩:=h H vs ts t1 us (fun i=>if i<n then Φ i else []) (fun _=>[]) hp (by rw[r.length,hl]) hl (fun i t e=>by
  obtain⟨v,h1,h2,_⟩:=hΦ i t e
  have:=(Zz6.mp e).1
  exact⟨v,h1,by simpa [show i<n by omega]using h2⟩) (fun i d hi=>nomatch hi) e1
 have eh:=ZeR b2 fun a ha=>b3 a ha fun i d hi=>nomatch hi
 refine⟨v,H'.drop H.length,F,by rw[←eh];exact b1,by rw[←eh];exact b6,fun a m=>?_,b8⟩
 rcases b7 a m with q | ⟨j,hj,q⟩
 ·exact .inl q
 ·simp only[hj,if_true]at q
  have:j<ts.length:=by omega
  obtain⟨_,_,_,h3⟩:=hΦ j ts[j] (List.getElem?_eq_getElem this)
  exact .inr (h3 a q)
theorem Zj5{f:List V→Hp→Option (V×Hp)}{p:List T→Option (T×List T)}{fr:Bool}(h:SimX 1 [] fr f p)(ns:List Int)(e:∃us,p [.lst (ns.map T.int)]=some (.bool true,us)): ∃H',f [.ref 0] [ns.map V.int]=some (.bool true,H'):=
 Zkq h.sim ns (by obtain⟨us,e⟩:=e;simp[e])
noncomputable def Zer(j:Nat)(f:PX): TL→List T→Option (List T×TL)
 | σ,[]=>some ([],σ)
 | σ,t::ts=>(f (updT σ j t)).bind fun r=>(Zer j f (ZA r.2 j) ts).map fun q=>(r.1::q.1,q.2)
noncomputable def ZfH(g:PG)(j:Nat)(f:PX): PX:=fun σ=>(g (ZA σ j)).bind fun ts=>if ts.length≤ZN then(Zer j f (ZA σ j) ts).map fun r=>(.lst r.1,r.2)else none
section
variable {O Ns:List Nat} {S:Z7}
theorem ZhZ{j:Nat}{f:Ex}{pf:PX}(hj:j∉O)(hS:∀d,(j,d)∉S)(hf:EX O S [] true f pf){c:Cu}{ρ:Lc}{nx:Nx}{vs:List V}{G:List Nat}{H1:Hp}(hG:∀a∈G,a<H1.length)(hsrc:∀a∈G,c.H0.length≤a∨c.P a)(hnx:∀K:Hp,(∀a∈G,K[a]?=H1[a]?)→∀i,i≤vs.length→nx i K=some vs[i]?):
  ∀(rs:List T) (ws:List V) (i:Nat) (acc:List V) (σ:TL) (K:Hp) (Φ Ψ:Nat→List Nat) (Fr:List Nat) (out:List T) (σ':TL),(∀k,vs[i+k]?=ws[k]?)→i+ws.length=vs.length→Su c O S ρ σ K Φ Ψ→H1.length≤K.length→(∀a∈G,K[a]?=H1[a]?)→(∀a∈G,¬HU O S σ Φ Ψ a)→RFs K ws rs Fr→(∀a∈Fr,a∈G)→acc.length+rs.length≤ZN→Zer j pf σ rs=some (out,σ') →
   ∃xs K' Φ' Ψ' F,ZaL nx (put1 j) ZaR f ρ (rs.length+1) i acc K=some (acc++xs,K')∧K.length≤K'.length∧(∀a,a<K.length→¬SH S σ Ψ a→K'[a]?=K[a]?)∧Su c O S ρ σ' K' Φ' Ψ'∧(∀j t,(∀d,(j,d)∉S)→σ' j=some t→σ j=some t∧Φ' j=Φ j)∧(∀a,SH S σ' Ψ' a→K.length≤a∨SH S σ Ψ a)∧(∀s d,(s,d)∈S→(∃t,σ' s=some t)→∀a∈Φ' s,K.length≤a∨(∃j,(∃t,σ j=some t)∧a∈Φ j)∨a∈G)∧RFs K' xs out F∧(∀a∈F,K.length≤a)∧F.Nodup∧(∀a,SH S σ' Ψ' a→a∉F)∧(∀s d,(s,d)∈S→(∃t,σ' s=some t)→∀a∈Φ' s,a∉F)
 | [],ws,i,acc,σ,K,Φ,Ψ,Fr,out,σ',hat,hlen,s,hl,hk,hoff,rr,hfr,hacc,h=>by
  cases rr
  cases h
  have e:=hnx K hk i (by simp at hlen;omega)
  have e2:vs[i]?=none:=by have:=hat 0;simpa using this
  exact⟨[],K,Φ,Ψ,[],by simp[ZaL,e,e2],Nat.le_refl _,fun _ _ _=>rfl,s,fun j t _ e=>⟨e,rfl⟩,fun a h=>.inr h,fun s' d _ ht a m=>.inr (.inl ⟨s',ht,m⟩),.nil,by simp,by simp,by simp,by simp⟩
 | t::rs,ws0,i,acc,σ,K,Φ,Ψ,Fr0,out,σ',hat,hlen,s,hl,hk,hoff,rr,hfr,hacc,h=>by
  cases rr with
  | @cons v _ F1 ws _ F2 a b'=>
  simp only[List.length_cons]at hlen hacc
  obtain⟨⟨w,σ1⟩,h1,h⟩:=Zz0.mp h
  obtain⟨⟨ys,σ2⟩,h2,h⟩:=Zz1.mp h
  cases h
  have e:=hnx K hk i (by omega)
  have e2:vs[i]?=some v:=by have:=hat 0;simpa using this
  have hat':∀k,vs[i+1+k]?=ws[k]?:=fun k=>by have:=hat (k+1);rw[show i+1+k=i+(k+1)by omega,this];simp
  have s1:Su c O S (upd ρ j v) (updT σ j t) K (Zp Φ j F1) Ψ:=s.putL hj hS a (fun x m=>hsrc x (hfr x (Zz4 _ m))) (fun k hk t' e x m q=>hoff x (hfr x (Zz4 _ q)) (.inl ⟨k,hk,⟨t',e⟩,m⟩)) (fun x h q=>hoff x (hfr x (Zz4 _ q)) (.inr h))
  obtain⟨vw,K1,Φ1,Ψ1,Fw,a1,a2,a3,a4,a5,a6,a11,a7,a8,a9,a10⟩:=hf c (upd ρ j v) (updT σ j t) K (Zp Φ j F1) Ψ w σ1 s1 h1
  have new1:∀a∈Fw,K.length≤a:=fun a m=>(a8 a m).nil
  have off1:=Zd8 s1 a5 new1 ((a10 rfl).2 (by simp))
  simp only[Zei hS]at a3 a6
  have s2:Su c O S ρ (ZA σ1 j) K1 Φ1 Ψ1:=a4.drop fun _ h=>h
  have old1:∀k u,(∀d,(k,d)∉S)→ZA σ1 j k=some u→σ k=some u∧Φ1 k=Φ k:=fun k u hk e=>by
   obtain⟨q,e⟩:=Zam e
   obtain⟨e1,e2⟩:=a5 k u hk e
   exact⟨Z4 e1 q,by rw[e2];simp[Zp,q]⟩
  have held1:∀a,SH S (ZA σ1 j) Ψ1 a→K.length≤a∨SH S σ Ψ a:=fun a h=>a6 a ((SH.del hS).mp h)
  have hG2:∀a∈G,K1[a]?=K[a]?:=fun x m=>a3 x (by have:=hG x m;omega) fun q=>hoff x m (.inr q)
  have hoff2:∀a∈G,¬HU O S (ZA σ1 j) Φ1 Ψ1 a:=fun x m q=>by
   rcases q with⟨k,hk,⟨u,e⟩,q⟩ | q
   ·obtain⟨e1,e2⟩:=old1 k u (s.ap k hk) e
    exact hoff x m (.inl ⟨k,hk,⟨u,e1⟩,e2▸q⟩)
   ·rcases held1 x q with q | q
    ·have:=hG x m;omega
    ·exact hoff x m (.inr q)
  obtain⟨xs,K2,Φ2,Ψ2,F3,f1,f2,f3,f4,f5,f6,f7,f8,f9,f10,f11,f12⟩:=ZhZ hj hS hf hG hsrc hnx rs ws (i+1) (acc++[vw]) (ZA σ1 j) K1 Φ1 Ψ1 F2 ys σ2 hat' (by omega) s2 (by omega) (fun x m=>(hG2 x m).trans (hk x m)) hoff2 (b'.frame fun x m=>hG2 x (hfr x (Zz3 _ m))) (fun x m=>hfr x (Zz3 _ m)) (by simp;omega) h2
  have offw:∀a∈Fw,¬SH S (ZA σ1 j) Ψ1 a:=fun a m q=>a9 a ((SH.del hS).mp q) m
  refine⟨vw::xs,K2,Φ2,Ψ2,Fw++F3,?_,by omega,ZhY a2 a3 held1 f3,f4,fun k u hk e=>?_,Zh8 a2 held1 f6,fun s' d hs ht x m=>?_,.cons (a7.frame fun x m=>f3 x (a7.lt x m) (offw x m)) f8,fun x m=>?_,?_,fun x h q=>?_,fun s' d hs ht x m q=>?_⟩
  ·rw[List.length_cons,ZaL,e,e2]
   simp only[Option.bind_some,put1,ZaR,a1,if_true]
   rw[if_pos (by omega)]
   simpa using f1
  ·obtain⟨e1,e2⟩:=f5 k u hk e
   obtain⟨e3,e4⟩:=old1 k u hk e1
   exact⟨e3,e2.trans e4⟩
  ·rcases f7 s' d hs ht x m with q | ⟨k,⟨u,eu⟩,mk⟩ | q
   ·exact .inl (by omega)
   ·by_cases hks:∀d,(k,d)∉S
    ·obtain⟨e1,e2⟩:=old1 k u hks eu
     exact .inr (.inl ⟨k,⟨u,e1⟩,e2▸mk⟩)
    ·obtain⟨d',hd⟩:=Classical.not_forall.mp hks
     rcases a11 k d' (Classical.not_not.mp hd) ⟨u,(Zam eu).2⟩ x mk with q | ⟨k',⟨u',e'⟩,mk'⟩
     ·exact .inl q
     ·by_cases q:k'=j
      ·subst q
       simp only[Zp,if_true]at mk'
       exact .inr (.inr (hfr x (Zz4 _ mk')))
      ·simp only[Zp,q,if_false]at mk'
       exact .inr (.inl ⟨k',⟨u',Z4 e' q⟩,mk'⟩)
   ·exact .inr (.inr q)
  ·rcases Zz8.mp m with m | m
   ·exact new1 x m
   ·have:=f9 x m;omega
  ·rw[List.nodup_append]
   refine⟨(a10 rfl).1,f10,fun x hx y hy e=>?_⟩
   have:=a7.lt x hx
   have:=f9 y hy
   omega
  ·rcases Zz8.mp q with q | q
   ·rcases f6 x h with z | z
    ·have:=a7.lt x q;omega
    ·exact offw x q z
   ·exact f11 x h q
  ·rcases Zz8.mp q with q | q
   ·rcases f7 s' d hs ht x m with z | ⟨k,⟨u,eu⟩,mk⟩ | z
    ·have:=a7.lt x q;omega
    ·exact off1 k u (Zam eu).2 x q mk
    ·have:=hG x z;have:=new1 x q;omega
   ·exact f12 s' d hs ht x m q
theorem EX.comp{g:Src}{q:PG}{j:Nat}{f:Ex}{pf:PX}(hg:Gs O Ns g q)(hj:j∉O∧∀q∈S,q.1≠j)(hN:∀i∈Ns,i∉O∧∀q∈S,q.1≠i)(hf:EX O S [] true f pf): EX O S [] true (ZaX g (put1 j) ZaR f) (ZfH q j pf):=fun c ρ σ H Φ Ψ t σ' s h=>by
 have hS:∀d,(j,d)∉S:=fun d m=>hj.2 _ m rfl
 obtain⟨ts,h1,h⟩:=Zz0.mp h
 split at h
 ·rename_i hl
  obtain⟨⟨out,σ2⟩,h2,h⟩:=Zz1.mp h
  cases h
  have sd:=s.del j
  obtain⟨nx,X,vs,F,G,g1,g2,g3,g4,g5⟩:=hg c.toCtx ρ (ZA σ j) H Φ ts sd.st h1
  obtain⟨xs,K,Φ',Ψ',F',d1,d2,d3,d4,d5,d6,d7,d8,d9,d10,d11,d12⟩:=ZhZ hj.1 hS hf (c:=c) (ρ:=ρ) (H1:=H++X) (fun a m=>(g4 a m).1) (fun a m=>sd.st.from_src (g4 a m).2) g5 ts vs 0 [] (ZA σ j) (H++X) Φ Ψ F out σ2 (by simp) (by simp) (sd.ext X) (Zz10 _) (fun _ _=>rfl) (fun a m q=>by
   rcases q with⟨k,hk,⟨t,e⟩,q⟩ | q
   ·exact sd.st.from_off (fun i hi=>(hN i hi).1) (g4 a m).2 hk e q
   ·rcases(g4 a m).2 with z | ⟨n,hn,⟨tn,en⟩,mn⟩
    ·have:=sd.shlow q;omega
    ·exact sd.shoff q (fun d m=>(hN n hn).2 _ m rfl) en mn) g2 g3 (by simpa using hl) h2
  have lx:(H++X).length=H.length+X.length:=List.length_append
  simp only[SH.del hS]at d3 d6
  refine⟨.ref K.length,K++[xs],Φ',Ψ',K.length::F',?_,by simp;omega,fun a ha hn=>?_,d4.ext [xs],fun k u hk e=>?_,fun a h=>?_,fun s' d hs ht a m=>?_,Zcn d8,fun a m=>.inl ?_,fun a h m=>?_,fun _=>⟨?_,fun _ s' d hs ht a m q=>?_⟩⟩
  ·simp only[ZaX,g1,Option.bind_some,d1,Option.map_some,List.nil_append]
  ·rw[List.getElem?_append_left (by omega),d3 a (by omega) hn,List.getElem?_append_left ha]
  ·obtain⟨e1,e2⟩:=d5 k u hk e
   exact⟨(Zam e1).2,e2⟩
  ·rcases d6 a h with z | z
   ·exact .inl (by omega)
   ·exact .inr z
  ·rcases d7 s' d hs ht a m with z | ⟨k,⟨u,eu⟩,mk⟩ | z
   ·exact .inl (by omega)
   ·exact .inr ⟨k,⟨u,(Zam eu).2⟩,mk⟩
   ·rcases(g4 a z).2 with z | ⟨n,_,⟨tn,en⟩,mn⟩
    ·exact .inl z
    ·exact .inr ⟨n,⟨tn,(Zam en).2⟩,mn⟩
  ·rcases Zz7.mp m with z | z
   ·omega
   ·have:=d9 a z;omega
  ·rcases Zz7.mp m with z | z
   ·have:=d4.shlow h;omega
   ·exact d11 a h z
  ·rw[List.nodup_cons]
   exact⟨fun m=>Nat.lt_irrefl _ (d8.lt _ m),d10⟩
  ·rcases Zz7.mp q with z | z
   ·obtain⟨u,eu⟩:=ht
    have:=d4.low eu a m
    omega
   ·exact d12 s' d hs ht a m z
 ·cases h
end
end TM
end
section
namespace TM
open PySem PM
noncomputable def ZfI(k:Nat)(p:PX)(g:PG)(put:T→TL→Option TL)(b:PS): PS:=fun σ=>(p (ZA σ k)).bind fun r=>(g (updT r.2 k r.1)).bind fun ts=>Zba put b r.2 ts
def Cg(k:Nat)(g:Ex→Src): Prop:=∀e ρ H,g e ρ H=(e ρ H).bind fun r=>g (Zb k) (upd ρ k r.1) r.2
theorem Cg.range{k:Nat}{C:Ex→ZT}(h:Cts k C): Cg k fun e=>Zbj (C e):=fun e ρ H=>by
 simp only[Zbj]
 rw[h e ρ H]
 cases e ρ H with
 | none=>rfl
 | some p=>rfl
section
variable {O:List Nat} {S SR:Z7} {fr:Bool}
theorem ZlH{k:Nat}{J:List Nat}{g:Ex→Src}{e:Ex}{p:PX}{q:PG}{put:V→Lc→Option Lc}{pput:T→TL→Option TL}{b:Sm}{qb:PS}(hC:Cg k g)(x:EX O S [] true e p)(hg:Gs (k::O) [] (g (Zb k)) q)(hk:∀q∈S,q.1≠k)(hj:PutOk O J put pput)(hkp:PutK J put)(hJ:∀i∈J,i∉O∧(∀q∈S,q.1≠i)∧∀q∈SR,q.1≠i)(hb:SU O S O S SR fr b qb): SU O S O S SR fr (ZaE (g e) put b) (ZfI k p q pput qb):=fun c ρ σ H Φ Ψ r hc s h=>by
 have hS:∀d,(k,d)∉S:=fun d m=>hk _ m rfl
 obtain⟨⟨t1,σ1⟩,h1,h⟩:=Zz0.mp h
 obtain⟨ts,h2,h⟩:=Zz0.mp h
 have sd:=s.del k
 obtain⟨v1,H1,Φ1,Ψ1,F1,a1,a2,a3,a4,a5,a6,a11,a7,a8,a9,a10⟩:=x c ρ (ZA σ k) H Φ Ψ t1 σ1 sd h1
 have new1:∀a∈F1,H.length≤a:=fun a m=>(a8 a m).nil
 have s1:Su c (k::O) S (upd ρ k v1) (updT σ1 k t1) H1 (Zp Φ1 k F1) Ψ1:=a4.putO (fun j hj=>by rcases Zz7.mp hj with h | h;exact .inr h;exact .inl h) hS a7 (a10 rfl).1 (fun a m=>Nat.le_trans s.st.len (new1 a m)) (fun j w _ ej=>Zd8 sd a5 new1 ((a10 rfl).2 (by simp)) j w ej)
 obtain⟨nx,X,vs,F,G,g1,g2,g3,g4,g5⟩:=hg c.toCtx (upd ρ k v1) (updT σ1 k t1) H1 (Zp Φ1 k F1) ts s1.st h2
 have gnew:∀a∈G,H1.length≤a:=fun a m=>(g4 a m).2.nil
 have:=ZgM hj hkp (fun i hi=>⟨(hJ i hi).1,fun d m=>(hJ i hi).2.1 _ m rfl⟩) (fun q hq m=>(hJ q.1 m).2.2 q hq rfl) hb hc (H1:=H1++X) (fun a m=>(g4 a m).1) (fun a m=>.inl (by have:=gnew a m;have:=s.st.len;omega)) g5 ts vs 0 ρ σ1 (H1++X) Φ1 Ψ1 F r (by simp) (by simp) (a4.ext X) (Zz10 _) (fun _ _=>rfl) (fun a m q=>by have:=HU.lt a4 q;have:=gnew a m;omega) g2 g3 h
 have eg:ZaE (g e) put b ρ H=ZaW nx put b (ts.length+1) 0 ρ (H1++X):=by
  simp only[ZaE]
  rw[hC e ρ H,a1]
  simp only[Option.bind_some,g1]
 rw[eg]
 have:=this.step a4 (by simp) (fun a ha _=>List.getElem?_append_left ha) (fun j t _ e=>⟨e,rfl⟩) (fun a h=>.inr h)
 refine this.step s a2 (fun a ha hn=>a3 a ha fun q=>hn ((SH.del hS).mp q)) (fun j t hj e=>?_) (fun a h=>(a6 a h).imp id (SH.del hS).mp)
 obtain⟨e1,e2⟩:=a5 j t hj e
 exact⟨(Zam e1).2,e2⟩
end
def Px(c:Option (T×TL))(Q:T→TL→Prop): Prop:=∃t σ,c=some (t,σ)∧Q t σ
def Pbx(c:Option (Bool×TL))(Q:Bool→TL→Prop): Prop:=∃t σ,c=some (t,σ)∧Q t σ
def Pr(c:Option (T×List T))(Q:T→List T→Prop): Prop:=∃t us,c=some (t,us)∧Q t us
def Z3(c:Option (Option T×TL))(R:T→TL→Prop)(N:TL→Prop): Prop:=∃o σ,c=some (o,σ)∧(∀t,o=some t→R t σ)∧(o=none→N σ)
section
variable {σ:TL} {Q:T→TL→Prop} {B:Bool→TL→Prop} {R:T→TL→Prop} {N:TL→Prop}
theorem Zjw{p:PE}(h:Pk (p σ) fun t=>Q t σ): Px (xP p σ) Q:=by
 obtain⟨t,e,q⟩:=h;exact⟨t,σ,by simp[xP,e],q⟩
theorem Znk{p:PB}(h:Pb (p σ) fun t=>B t σ): Pbx (xB p σ) B:=by
 obtain⟨t,e,q⟩:=h;exact⟨t,σ,by simp[xB,e],q⟩
theorem ZlI{k:Nat}{p1 p2:PX}(h:Px (p1 (ZA σ k)) fun t σ1=>Px (p2 (updT σ1 k t)) fun u σ2=>Q u (ZA σ2 k)): Px (Zac k p1 p2 σ) Q:=by
 obtain⟨t,σ1,e,u,σ2,e2,q⟩:=h
 exact⟨u,ZA σ2 k,by simp[Zac,e,e2],q⟩
theorem ZkT{xs:List Nat}{p:List T→Option (T×List T)}{ps:Z6}(h:Pl (ps σ) fun ts=>Pr (p ts) fun t us=>Q t (pick xs (us.map some) σ)): Px (ZH false xs p ps σ) Q:=by
 obtain⟨ts,e,t,us,e2,q⟩:=h
 exact⟨t,_,by simp[ZH,e,e2],q⟩
theorem ZlJ{g:PG}{j n:Nat}{a:Nat→T}{f:PX}{β:Type}(enc:β→T)(d:β)(P:Nat→β→Prop)(I:Nat→TL→Prop)(hn:n<10000)(hg:Pl (g (ZA σ j)) fun ts=>ts=tab n a)(h0:I 0 (ZA σ j))(hf:∀i τ,i<n→I i τ→Px (f (updT τ j (a i))) fun t τ1=>(∃y,t=enc y∧P i y)∧I (i+1) (ZA τ1 j))(h:∀(y:Nat→β) (τ:TL),(∀i,i<n→P i (y i))→I n τ→Q (.lst (tab n fun i=>enc (y i))) τ): Px (ZfH g j f σ) Q:=by
 obtain⟨ts,e,rfl⟩:=hg
 have key:∀(m k:Nat) (τ:TL),k+m=n→I k τ→∃(ys:Nat→β) (τ1:TL),Zer j f τ ((List.range m).map fun i=>a (k+i))=some ((List.range m).map fun i=>enc (ys (k+i)),τ1)∧(∀i,i<m→P (k+i) (ys (k+i)))∧I n τ1:=by
  intro m
  induction m with
  | zero=>
   intro k τ hk hi
   have hkn:k=n:=by omega
   subst hkn
   exact⟨fun _=>d,τ,rfl,by simp,hi⟩
  | succ m ih=>
   intro k τ hk hi
   obtain⟨t,τ1,e1,⟨y,ey,py⟩,i1⟩:=hf k τ (by omega) hi
   obtain⟨ys,τ2,e2,p2,i2⟩:=ih (k+1) (ZA τ1 j) (by omega) i1
   refine⟨fun i=>if i=k then y else ys i,τ2,?_,fun i hi'=>?_,i2⟩
   ·rw[List.range_succ_eq_map]
    simp only[List.map_cons,List.map_map,Zer,Nat.add_zero,e1,Option.bind_some]
    have ea:List.map ((fun i=>a (k+i))∘Nat.succ) (List.range m)=(List.range m).map fun i=>a (k+1+i):=List.map_congr_left fun i _=>by simp only[Function.comp];congr 1;omega
    rw[ea,e2]
    simp only[Option.map_some,if_true,ey]
    congr 3
    refine List.map_congr_left fun i _=>?_
    have:k+Nat.succ i≠k:=by omega
    simp only[Function.comp,if_neg this]
    congr 2;omega
   ·by_cases q:i=0
    ·subst q;simpa using py
    ·have:=p2 (i-1) (by omega)
     have e3:k+1+(i-1)=k+i:=by omega
     rw[e3]at this
     have e4:k+i≠k:=by omega
     show P (k+i) (if k+i=k then y else ys (k+i))
     rw[if_neg e4]
     exact this
 obtain⟨ys,τ,e2,p2,i2⟩:=key n 0 (ZA σ j) (by omega) h0
 simp only[Nat.zero_add]at e2 p2
 refine⟨.lst (tab n fun i=>enc (ys i)),τ,?_,h ys τ p2 i2⟩
 simp only[ZfH,e,Option.bind_some,Zcr]
 rw[if_pos (by rw[Zas];omega)]
 unfold tab
 rw[e2]
 rfl
theorem ZlK(h:N σ): Z3 (Zak σ) R N:=⟨none,σ,rfl,by simp,fun _=>h⟩
theorem ZcZ{a b:PS}(h:Z3 (a σ) R fun σ1=>Z3 (b σ1) R N): Z3 (Zt a b σ) R N:=by
 obtain⟨o,σ1,e,h1,h2⟩:=h
 cases o with
 | none=>
  obtain⟨o2,σ2,e2,k1,k2⟩:=h2 rfl
  exact⟨o2,σ2,by simp[Zt,e,e2],k1,k2⟩
 | some t=>exact⟨some t,σ1,by simp[Zt,e],h1,by simp⟩
theorem ZmG{p:PX}(h:Px (p σ) R): Z3 (Z9 p σ) R N:=by
 obtain⟨t,σ1,e,q⟩:=h
 exact⟨some t,σ1,by simp[Z9,e],fun _ h=>by cases h;exact q,by simp⟩
theorem Zja{i:Nat}{p:PX}(h:Px (p σ) fun t σ1=>N (updT σ1 i t)): Z3 (ZQ i p σ) R N:=by
 obtain⟨t,σ1,e,q⟩:=h
 exact⟨none,_,by simp[ZQ,e],by simp,fun _=>q⟩
theorem ZlL{i:Nat}{p:PE}(h:Pk (p σ) fun t=>N (updT σ i t)): Z3 (Zez i p σ) R N:=by
 obtain⟨t,e,q⟩:=h
 exact⟨none,_,by simp[Zez,e],by simp,fun _=>q⟩
theorem Zna{b:PBX}{p q:PS}(h:Pbx (b σ) fun x σ1=>(x=true→Z3 (p σ1) R N)∧(x=false→Z3 (q σ1) R N)): Z3 (ZaB b p q σ) R N:=by
 obtain⟨x,σ1,e,h1,h2⟩:=h
 cases x with
 | true=>obtain⟨o,σ2,e2,k⟩:=h1 rfl;exact⟨o,σ2,by simp[ZaB,e,e2],k⟩
 | false=>obtain⟨o,σ2,e2,k⟩:=h2 rfl;exact⟨o,σ2,by simp[ZaB,e,e2],k⟩
theorem ZmH{p:PX}(h:Px (p σ) fun _ σ1=>N σ1): Z3 (ZbX p σ) R N:=by
 obtain⟨t,σ1,e,q⟩:=h
 exact⟨none,σ1,by simp[ZbX,e],by simp,fun _=>q⟩
theorem ZkU{k:Nat}{p:PX}{q:PS}(h:Px (p (ZA σ k)) fun t σ1=>Z3 (q (updT σ1 k t)) (fun t σ2=>R t (ZA σ2 k)) fun σ2=>N (ZA σ2 k)): Z3 (Zc4 k p q σ) R N:=by
 obtain⟨t,σ1,e,o,σ2,e2,k1,k2⟩:=h
 exact⟨o,ZA σ2 k,by simp[Zc4,e,e2],k1,k2⟩
theorem ZmI{x:Nat}{M:List Nat}{f:PE}(h:Pk (f σ) fun w=>∃ts,σ x=some (.lst ts)∧ts.length<10000∧N (Zaz (updT σ x (.lst (ts++[w]))) M)): Z3 (Zbn x M Zab f σ) R N:=by
 obtain⟨w,e,ts,e2,hl,q⟩:=h
 refine⟨none,_,?_,by simp,fun _=>q⟩
 simp only[Zbn,Zab,e,e2,Option.bind_some,ZbJ,Zb5]
 rw[if_pos (by rw[Zas];omega)]
 rfl
theorem ZmJ{x:Nat}{M:List Nat}{f i:PE}(h:Pk (f σ) fun w=>Pk (i σ) fun k=>∃ts m,k=.int m∧σ x=some (.lst ts)∧0≤m∧m<ts.length∧N (Zaz (updT σ x (.lst (ts.set m.toNat w))) M)): Z3 (Zbr x M f Zab i σ) R N:=by
 obtain⟨w,e,k,e3,ts,m,ek,e2,h0,h1,q⟩:=h
 subst ek
 refine⟨none,_,?_,by simp,fun _=>q⟩
 simp only[Zbr,Zab,e,e2,e3,Option.bind_some,ZbJ,Zco]
 rw[if_pos ⟨h0,h1⟩]
 rfl
theorem ZlM{x d:Nat}{own:Bool}{f:PE}(hd:0<d∧d≤999∧(own=true∨dnn d 0=0))(h:Pk (f σ) fun w=>∃ts,σ x=some (.lst ts)∧ts.length<10000∧N (updT σ x (.lst (ts++[w])))): Z3 (ZcB x d own Zab f σ) R N:=by
 obtain⟨w,e,ts,e2,hl,q⟩:=h
 refine⟨none,_,?_,by simp,fun _=>q⟩
 simp only[ZcB,Zab,e,e2,Option.bind_some,Zcm,Zb5,List.length_nil]
 rw[if_pos hd,if_pos (by rw[Zas];omega)]
 rfl
theorem ZiM{x d:Nat}{own:Bool}{f i:PE}(hd:0<d∧d≤999∧(own=true∨dnn d 0=0))(h:Pk (f σ) fun w=>Pk (i σ) fun k=>∃ts m,k=.int m∧σ x=some (.lst ts)∧0≤m∧m<ts.length∧N (updT σ x (.lst (ts.set m.toNat w)))): Z3 (ZbB x d own f Zab i σ) R N:=by
 obtain⟨w,e,k,e3,ts,m,ek,e2,h0,h1,q⟩:=h
 subst ek
 refine⟨none,_,?_,by simp,fun _=>q⟩
 simp only[ZbB,Zab,e,e2,e3,Option.bind_some,Zcm,Zco,List.length_nil]
 rw[if_pos hd,if_pos ⟨h0,h1⟩]
 rfl
theorem Zhj{j:Nat}{b:PS}(P:Nat→TL→Prop): ∀(ts:List T) (k:Nat) {σ:TL},P k σ→(∀i t τ,ts[i]?=some t→P (k+i) τ→Z3 (b (updT τ j t)) R (P (k+i+1)))→(∀τ,P (k+ts.length) τ→N τ)→Z3 (Zba (Zav j) b σ ts) R N
 | [],k,σ,h0,_,h2=>⟨none,σ,rfl,by simp,fun _=>h2 σ (by simpa using h0)⟩
 | t::ts,k,σ,h0,h1,h2=>by
  obtain⟨o,σ1,e,k1,k2⟩:=h1 0 t σ (by simp) (by simpa using h0)
  cases o with
  | some u=>exact⟨some u,σ1,by simp[Zba,Zav,e],k1,by simp⟩
  | none=>
   obtain⟨o2,σ2,e2,l⟩:=Zhj P ts (k+1) (k2 rfl) (fun i u τ eu p=>by
    have:=h1 (i+1) u τ (by simpa using eu) (by rw[show k+(i+1)=k+1+i by omega];exact p)
    rw[show k+(i+1)+1=k+1+i+1 by omega]at this
    exact this) (fun τ p=>h2 τ (by rw[List.length_cons,show k+(ts.length+1)=k+1+ts.length by omega];exact p))
   exact⟨o2,σ2,by simp[Zba,Zav,e,e2],l⟩
theorem Zfu{g:PG}{j:Nat}{b:PS}{ts:List T}(P:Nat→TL→Prop)(hg:Pl (g σ) fun us=>us=ts)(h0:P 0 σ)(h1:∀i t τ,ts[i]?=some t→P i τ→Z3 (b (updT τ j t)) R (P (i+1)))(h2:∀τ,P ts.length τ→N τ): Z3 (Za0 g (Zav j) b σ) R N:=by
 obtain⟨us,e,rfl⟩:=hg
 obtain⟨o,σ1,e2,l⟩:=Zhj (R:=R) (N:=N) (j:=j) (b:=b) P us 0 h0 (fun i t τ ei p=>by simpa using h1 i t τ ei (by simpa using p)) (fun τ p=>h2 τ (by simpa using p))
 exact⟨o,σ1,by simp only[Za0,e,Option.bind_some,e2],l⟩
theorem Zhk{g:PG}{j n:Nat}{a:Nat→T}{b:PS}(P:Nat→TL→Prop)(hg:Pl (g σ) fun us=>us=tab n a)(h0:P 0 σ)(h1:∀i τ,i<n→P i τ→Z3 (b (updT τ j (a i))) R (P (i+1)))(h2:∀τ,P n τ→N τ): Z3 (Za0 g (Zav j) b σ) R N:=
 Zfu P hg h0 (fun i t τ e p=>by
  have hi:i<n:=by have:=(Zz6.mp e).1;rwa [Zcr]at this
  rw[Zi3 hi]at e
  cases e
  exact h1 i τ hi p) (fun τ p=>h2 τ (by rwa [Zcr]at p))
theorem ZlN{k:Nat}{p:PX}{g:PG}{j:Nat}{b:PS}(h:Px (p (ZA σ k)) fun t σ1=>Pl (g (updT σ1 k t)) fun ts=>Z3 (Zba (Zav j) b σ1 ts) R N): Z3 (ZfI k p g (Zav j) b σ) R N:=by
 obtain⟨t,σ1,e,ts,e2,o,σ2,e3,l⟩:=h
 exact⟨o,σ2,by simp only[ZfI,e,Option.bind_some,e2,e3],l⟩
theorem ZkV{j n:Nat}{a:Nat→T}{b:PS}(P:Nat→TL→Prop)(h0:P 0 σ)(h1:∀i τ,i<n→P i τ→Z3 (b (updT τ j (a i))) R (P (i+1)))(h2:∀τ,P n τ→N τ): Z3 (Zba (Zav j) b σ (tab n a)) R N:=
 Zhj P (tab n a) 0 h0 (fun i t τ e p=>by
  have hi:i<n:=by have:=(Zz6.mp e).1;rwa [Zcr]at this
  rw[Zi3 hi]at e
  cases e
  simpa using h1 i τ hi (by simpa using p)) (fun τ p=>h2 τ (by simpa [Zcr]using p))
theorem ZmK{n:Nat}{sd:Z7}{q:PS}{ts:List T}{Q:T→List T→Prop}(hn:ts.length=n)(h:Z3 (q fun i=>ts[i]?) (fun t σ=>Pl (Zb6 σ sd) fun us=>Q t us) fun σ=>Pl (Zb6 σ sd) fun us=>Q .none us): Pr (Zaq n sd q ts) Q:=by
 obtain⟨o,σ,e,h1,h2⟩:=h
 cases o with
 | none=>obtain⟨us,e2,q⟩:=h2 rfl;exact⟨.none,us,by simp[Zaq,hn,e,e2],q⟩
 | some t=>obtain⟨us,e2,q⟩:=h1 t rfl;exact⟨t,us,by simp[Zaq,hn,e,e2],q⟩
theorem ZkW{L:List T→Prop}(h:L []): Pl (Zb6 σ []) L:=⟨[],rfl,h⟩
theorem ZlO{L:List T→Prop}{i d:Nat}{sd:Z7}{t:T}(e:σ i=some t)(h:Pl (Zb6 σ sd) fun us=>L (t::us)): Pl (Zb6 σ ((i,d)::sd)) L:=by
 obtain⟨us,e2,q⟩:=h
 exact⟨t::us,by simp[Zb6,e,e2],q⟩
theorem ZlP{j k:Nat}{o:Option T}(h:j≠k)(e:σ j=o): ZA σ k j=o:=by simp[ZA,h,e]
theorem Zks{x:Nat}{xs:List Nat}{u:T}{us:List T}: pick (x::xs) (List.map some (u::us)) σ x=some u:=by simp[pick]
theorem Zj6{j x:Nat}{xs:List Nat}{u:T}{us:List T}{o:Option T}(h:j≠x)(e:pick xs (List.map some us) σ j=o): pick (x::xs) (List.map some (u::us)) σ j=o:=by simp[pick,h,e]
theorem ZkX{j:Nat}{us:List T}{o:Option T}(e:σ j=o): pick [] (List.map some us) σ j=o:=by simp[pick,e]
end
end TM
end
section
/-! Objects in the layer of changes. -/
namespace TM
open PySem PM
noncomputable def ZeA(c:Nat×List Str)(j:Nat): T→Option T
 | .ob c' ts=>if c'=c then ts[j]? else none
 | _=>none
section
variable {O N:List Nat} {u:Bool}
theorem Znb{e:Ex}{p:PE}{c:Nat×List Str}{j:Nat}(x:E O N u e p): E O N u (eUn (Zbi c j) e) (pUn (ZeA c j) p):=fun cc ρ σ H Φ t s h=>by
 obtain⟨t1,h1,h'⟩:=Zz0.mp h
 clear h
 obtain⟨v,X,F,a1,a2,a3,a4⟩:=x cc ρ σ H Φ t1 s h1
 cases a2 with
 | none=>cases h'
 | bool=>cases h'
 | int=>cases h'
 | str=>cases h'
 | tup=>cases h'
 | ref=>cases h'
 | @obj c' a vs ts F' ea hs=>
  simp only[ZeA]at h'
  split at h'
  ·rename_i ec
   subst ec
   obtain⟨w,G,k1,k2,k3⟩:=hs.at h'
   refine⟨w,X,G,by simp only[eUn,a1,Option.bind_some,Zbi,if_true,ea,k1,Option.map_some],k2,fun b m=>a3 b (Zz2 _ (k3.subset m)),fun hu=>(List.nodup_cons.mp (a4 hu)).2.sublist k3⟩
  ·cases h'
noncomputable def ZfR(c:Nat×List Str)(p:List T→Option (T×List T))(ps:Z6): PE:=fun σ=>(ps σ).bind fun ts=>(p (.ob c []::ts)).bind fun r=>match r.1,r.2 with
 | .none,[t]=>some t
 | _,_=>none
theorem E.new{n:Nat}{fr:Bool}{F:List V→Hp→Option (V×Hp)}{p:List T→Option (T×List T)}{c:Nat×List Str}{g:ZT}{ps:Z6}(k:SimX (n+1) [(0,999)] fr F p)(y:Es O N u n g ps): E O [] true (ZfQ c F g) (ZfR c p ps):=fun cc ρ σ H Φ t s h=>by
 obtain⟨ts,h1,h⟩:=Zz0.mp h
 obtain⟨⟨t0,us⟩,h2,h⟩:=Zz0.mp h
 have hq:t0=.none∧us=[t]:=by
  simp only at h
  split at h
  ·cases h;exact⟨rfl,rfl⟩
  ·cases h
 obtain⟨e1,e2⟩:=hq
 subst e1
 subst e2
 obtain⟨hl,vs,X,G,a1,a2,a3,_⟩:=y cc ρ σ H Φ ts s h1
 obtain⟨Φ1,hΦ⟩:=a2.slots
 have hp:0<((H++X)++[[]]).length:=by simp;omega
 have ap:((H++X)++[([]:List V)])[(H++X).length]?=some []:=by simp
 have rf0:RF ((H++X)++[[]]) (.obj c (H++X).length) (.ob c []) [(H++X).length]:=.obj ap .nil
 have hpos:=s.pos
 have hlen:=s.len
 have ll:(H++X).length=H.length+X.length:=List.length_append
 obtain⟨v,H',Φ',Ψ',F',b1,b2,b3,b4,b5,b6,b7,b8⟩:=k ((H++X)++[[]]) (.obj c (H++X).length::vs) (.ob c []::ts) .none [t] (fun i=>match i with | 0=>[(H++X).length] | i+1=>Φ1 i) (fun _=>[(H++X).length]) hp (by have:=a2.length;simp;omega) (by simp;omega) (fun i t' e=>by
   cases i with
   | zero=>simp at e;subst e;exact⟨_,rfl,rf0⟩
   | succ i=>
    simp at e
    obtain⟨w,q1,q2,_⟩:=hΦ i t' e
    exact⟨w,by simpa using q1,q2.ext _⟩) (fun i d hi v' t' ev et=>by
   have hi:i=0∧d=999:=by simpa using hi
   obtain⟨rfl,rfl⟩:=hi
   have ev:V.obj c (H++X).length=v':=Option.some.inj ev
   have et:T.ob c []=t':=Option.some.inj et
   subst ev
   subst et
   refine⟨⟨[],.all rf0,by simp,by simp⟩,by simp;omega,fun j u' hj ej a m q=>?_⟩
   cases j with
   | zero=>exact absurd rfl hj
   | succ j=>
    simp at ej
    obtain⟨w,q1,q2,_⟩:=hΦ j u' ej
    have:=q2.lt a q
    rw[List.mem_singleton.mp m]at this
    omega) h2
 cases b6
 obtain⟨c1,⟨R,c2,c2',c2''⟩,c3,c4,_⟩:=b5 0 0 999 (.obj c (H++X).length) t (by simp) (by simp) (by simp)
 have ll2:((H++X)++[([]:List V)]).length=(H++X).length+1:=by simp;omega
 have eh:H'=H++H'.drop H.length:=ZeR (by omega) fun a ha=>by
  rw[b3 a (by omega) (fun i d hi m=>by have:=Zz9.mp m;omega),List.append_assoc,List.getElem?_append_left ha]
 have hR:RF H' (.obj c (H++X).length) t (Ψ' 0):=c2.unall.1
 refine⟨.obj c (H++X).length,H'.drop H.length,Ψ' 0,?_,by rw[←eh];exact hR,fun a m=>.inl ?_,fun _=>c2'⟩
 ·simp only[ZfQ,a1,Option.bind_some,b1]
  rw[←eh]
 ·rcases c3 a m with q | q
  ·omega
  ·rw[List.mem_singleton.mp q];omega
end
noncomputable def ZaN(x:Nat)(c:Nat×List Str)(p:PX): PX:=fun σ=>match σ x with
 | some (.ob c' _)=>if c'=c then p σ else none
 | _=>none
section
variable {O O' N:List Nat} {S S' SR:Z7} {u fr:Bool}
theorem Za8{x:Nat}{c:Nat×List Str}{F:List V→Hp→Option (V×Hp)}{g:ZT}{p:PX}(k:EX O S N u (Zr F (Za (Zb x) g)) p): EX O S N u (ZaM c F (Zb x) g) (ZaN x c p):=fun cc ρ σ H Φ Ψ t σ' s h=>by
 unfold ZaN at h
 split at h
 ·rename_i c' ts e
  split at h
  ·rename_i ec
   subst ec
   obtain⟨v,e1,r⟩:=s.st.slot x _ e
   obtain⟨v',H',Φ',Ψ',F',a1,a2⟩:=k cc ρ σ H Φ Ψ t σ' s h
   refine⟨v',H',Φ',Ψ',F',?_,a2⟩
   generalize Φ x=G at r
   cases r with
   | @obj _ a vs _ _ ea hs=>
    rw[←a1]
    simp only[ZaM,Zr,Za,Zb,e1,Option.map_some,Option.bind_some,ZfP,beq_self_eq_true,if_true]
    cases g ρ H <;> rfl
  ·cases h
 ·cases h
theorem Su.s2o{c:Cu}{ρ:Lc}{σ:TL}{H:Hp}{Φ Ψ:Nat→List Nat}{x:Nat}(s:Su c O S ρ σ H Φ Ψ)(hx:(x,999)∈S)(hf:c.Fs x=[])(hS:∀q∈S',q∈S∧q.1≠x): Su c (x::O) S' ρ σ H Φ Ψ∧∀t,σ x=some t→Φ x=Ψ x:=by
 have all:∀t,σ x=some t→Φ x=Ψ x∧(Ψ x).Nodup:=fun t e=>by
  obtain⟨v,h1,⟨R,h2,h3,h4⟩,_⟩:=s.sp x 999 hx t e
  obtain⟨v',k1,k2⟩:=s.st.slot x t e
  rw[h1]at k1
  cases k1
  exact⟨(k2.det h2.unall.1).2,h3⟩
 refine⟨⟨⟨s.st.slot,s.st.src,fun i hi t e=>?_,s.st.len,s.st.keep,s.st.pos,s.st.f0⟩,fun i d hi=>s.sp i d (hS _ hi).1,fun i hi d m=>?_,fun i hi t e a m=>?_⟩,fun t e=>(all t e).1⟩
 ·rcases Zz7.mp hi with q | q
  ·subst q
   obtain⟨e1,e2⟩:=all t e
   obtain⟨_,_,_,k3,k4⟩:=s.sp i 999 hx t e
   rw[e1]
   refine⟨e2,(fun a m=>(k3 a m).imp id fun q=>by rw[hf]at q;cases q),k4⟩
  ·exact s.st.own i q t e
 ·rcases Zz7.mp hi with q | q
  ·exact(hS _ m).2 q
  ·exact s.ap i q d (hS _ m).1
 ·rcases Zz7.mp hi with q | q
  ·subst q
   obtain⟨e1,e2⟩:=all t e
   obtain⟨_,_,_,k3,_⟩:=s.sp i 999 hx t e
   rw[e1]at m
   rcases k3 a m with q | q
   ·exact q
   ·rw[hf]at q;cases q
  ·exact s.nw i q t e a m
theorem SU.s2o{x:Nat}{S1:Z7}{g:Sm}{q:PS}(hx:(x,999)∈S)(hR:∀q∈SR,q.1≠x)(hS:∀q∈S1,q∈S∧q.1≠x)(y:SU (x::O) S1 O' S' SR fr g q): SU O S O' S' SR fr g q:=fun c ρ σ H Φ Ψ r hc s h=>by
 obtain⟨s1,e1⟩:=s.s2o hx (hc x hR) hS
 obtain⟨ρ',H',Φ',Ψ',h1,h2,hr,h3⟩:=y c ρ σ H Φ Ψ r hc s1 h
 have up:∀a,HU (x::O) S1 σ Φ Ψ a→HU O S σ Φ Ψ a:=fun a h=>by
  rcases h with⟨j,hj,⟨t,e⟩,m⟩ | ⟨j,d,hj,ht,m⟩
  ·rcases Zz7.mp hj with q | q
   ·subst q
    exact .inr ⟨j,999,hx,⟨t,e⟩,e1 t e▸m⟩
   ·exact .inl ⟨j,q,⟨t,e⟩,m⟩
  ·exact .inr ⟨j,d,(hS _ hj).1,ht,m⟩
 refine⟨ρ',H',Φ',Ψ',h1,fun a ha hn=>h2 a ha fun q=>hn (up a q),hr,?_⟩
 rcases h3 with⟨k1,k2,k3,k4⟩ | k
 ·exact .inl ⟨k1,k2,k3,fun a m=>(k4 a m).imp id (up a)⟩
 ·exact .inr k
noncomputable def ZhD(c:Nat×List Str)(j:Nat)(w:T)(ts:List T): Option (List T):=if j<ts.length then some (ts.set j w)else if j=ts.length∧j<c.2.length then some (ts++[w])else none
noncomputable def Zes(x d:Nat)(own:Bool)(c:Nat×List Str)(j:Nat)(p:PE): PS:=fun σ=>(p σ).bind fun w=>match σ x with
 | some (.ob c' ts)=>if c'=c∧0<d∧d≤999∧(own=true∨dn d=0)then(ZhD c j w ts).map fun ts'=>(none,updT σ x (.ob c ts'))else none
 | _=>none
theorem ZiN{x d j:Nat}{N:List Nat}{u own:Bool}{c:Nat×List Str}{e:Ex}{p:PE}(hx:(x,d)∈S∧(x,d)∈S')(uq:∀q∈S,∀r∈S,q.1=r.1→q.2=r.2)(z:E O N u e p)(hm:own=true→u=true∧N=[])(hN:∀n∈N,n∉O'∧∀q∈S',q.1≠n)(hO:(∀j∈O',j∈O)∧∀q∈S',q∈S): SU O S O' S' SR fr (Zcp c j e (Zb x)) (Zes x d own c j p):=fun cc ρ σ H Φ Ψ r hc s q=>by
 have hN':∀n∈N,n∉O'∧∀d,(n,d)∉S':=fun n hn=>⟨(hN n hn).1,fun d m=>(hN n hn).2 _ m rfl⟩
 obtain⟨w,h2,q⟩:=Zz0.mp q
 split at q
 case h_2=>cases q
 rename_i c' ts0 h3
 split at q
 case isFalse=>cases q
 rename_i hcd
 obtain⟨ec,hd0,hd9,hown⟩:=hcd
 subst ec
 obtain⟨ts',hf,q⟩:=Zz1.mp q
 subst q
 obtain⟨v,ev,⟨R,rd,nd,dj⟩,p3,p4⟩:=s.sp x d hx.1 _ h3
 obtain⟨v',ev',rv⟩:=s.st.slot x _ h3
 rw[ev]at ev'
 cases ev'
 obtain⟨Gx,rg,pg⟩:=rd.rf
 obtain⟨_,eG⟩:=rv.det rg
 have hlow:∀k t,σ k=some t→∀a∈Φ k,a<H.length:=fun k t e=>s.low e
 have inF:∀a∈Ψ x,a∈Φ x:=fun a m=>by rw[eG];exact pg.subset (Zz4 _ m)
 have inR:∀a∈R,a∈Φ x:=fun a m=>by rw[eG];exact pg.subset (Zz3 _ m)
 have lowF:∀b∈Ψ x,b<H.length:=fun b m=>hlow x _ h3 b (inF b m)
 have hv:∃a,v=.obj c' a:=by
  cases rg with
  | obj _ _=>exact⟨_,rfl⟩
 obtain⟨a,rfl⟩:=hv
 obtain⟨vw,X,Fw,b1,b2,b3,b4⟩:=z cc.toCtx ρ σ H Φ w s.st h2
 have growX:∀b,b<H.length→(H++X)[b]?=H[b]?:=fun b hb=>List.getElem?_append_left hb
 have rdX:RD (H++X) d (.obj c' a) (.ob c' ts0) (Ψ x) R:=rd.frame (fun b m=>growX b (lowF b m)) (fun b m=>growX b (hlow x _ h3 b (inR b m)))
 obtain⟨vs,ts,Fa,et,eF,ea,hs,back⟩:=rdX.inO hd0
 cases et
 obtain⟨Fn,Rn,w1,w2,w3,w4,w5⟩:=Zhs (d:=dn d) (c:=cc) (ρ:=ρ) (Ψ:=Ψ) b2 b3 b4 hm hown
 have xN:∀n∈N,n≠x:=fun n hn q=>(hN' n hn).2 d (q▸hx.2)
 have psR:∀b∈Ψ x,b∉Rn:=fun b m q=>by
  rcases w5 b q with h | ⟨n,hn,⟨tn,en⟩,mn⟩
  ·have:=lowF b m;omega
  ·exact p4 n tn (xN n hn) en b m mn
 have am:a∈Ψ x:=by rw[eF];exact Zz5
 have ndF:a∉Fa∧Fa.Nodup:=by rw[eF]at nd;exact List.nodup_cons.mp nd
 have faIn:∀b∈Fa,b∈Ψ x:=fun b m=>by rw[eF];exact Zz2 _ m
 have fin:∀(vs':List V) (F' R':List Nat),RDs (H++X) (dn d) vs' ts' F' R'→F'.Nodup→(∀b∈F',b∈Fa∨b∈Fn)→(∀b∈R',b∈R∨b∈Rn)→Zdk c' j (.obj c' a) vw (H++X)=some ((H++X).set a vs') →
   AftU cc O S O' S' SR fr ρ σ H Φ Ψ (Zcp c' j e (Zb x) ρ H) (none,updT σ x (.ob c' ts')):=by
  intro vs' F' R' hs' n' sub subR eput
  have aF':a∉F':=fun m=>(sub a m).elim ndF.1 fun m=>by have:=w2 a m;have:=lowF a am;omega
  have aR':a∉R':=fun m=>(subR a m).elim (dj a am) (psR a am)
  have ha:=(Zz6.mp ea).1
  have r':RD ((H++X).set a vs') d (.obj c' a) (.ob c' ts') (a::F') R':=back _ _ _ _ _ (List.getElem?_set_self ha) (hs'.frame (fun b m=>List.getElem?_set_ne fun q:a=b=>aF' (q▸m)) (fun b m=>List.getElem?_set_ne fun q:a=b=>aR' (q▸m)))
  have sub2:∀b∈a::F',b∈Ψ x∨b∈Fn:=fun b m=>by
   rcases Zz7.mp m with q | q
   ·exact .inl (q▸am)
   ·exact(sub b q).imp (faIn b) id
  obtain⟨G,st,com⟩:=Zhh (O':=O') (S':=S') (b:=H.length) (N:=N) (s.ext X) hx.1 uq h3 ev s.st.len hlow am r' (List.nodup_cons.mpr ⟨aF',n'⟩) (fun y m q=>by
   rcases sub2 y m with m | m
   ·rcases subR y q with q | q
    ·exact dj y m q
    ·exact psR y m q
   ·rcases subR y q with q | q
    ·have:=w2 y m;have:=hlow x _ h3 y (inR y q);omega
    ·exact w4 y m q) sub2 (fun y m=>(subR y m).imp (inR y) id) w2 (fun y m=>w5 y m) hN' hO.1 hO.2
  refine⟨ρ,(H++X).set a vs',Zp Φ x G,Zp Ψ x (a::F'),by simp,fun y hy hn=>?_,fun _ _=>rfl,.inl ⟨rfl,?_,st,com⟩⟩
  ·have:a≠y:=fun q=>hn (.inr ⟨x,d,hx.1,⟨_,h3⟩,q▸am⟩)
   rw[List.getElem?_set_ne this,growX y hy]
  ·simp only[Zcp,b1,Option.bind_some,Zb,ev,Option.map_some,eput]
 have a0:=ZgL s hx.1 h3 am
 unfold ZhD at hf
 split at hf
 ·rename_i hj
  cases hf
  obtain⟨v0,Gk,Qk,F1,F2,R1,R2,e0,r0,eG',eR',rb⟩:=hs.split (List.getElem?_eq_getElem hj)
  have rs:=rb (H++X) vw w Fn Rn w1 (fun _ _=>rfl) (fun _ _=>rfl)
  have sub0:∀a∈Fn,a∈Gk∨a∈Fn:=fun a m=>.inr m
  have subR0:∀a∈Rn,a∈Qk∨a∈Rn:=fun a m=>.inr m
  refine fin (vs.set j vw) _ _ rs ?_ (fun b m=>?_) (fun b m=>?_) ?_
  ·exact nd3 (eG'▸ndF.2) w3 sub0 fun b m q=>by have:=w2 b m;have:=lowF b (faIn b (by rw[eG'];exact q));omega
  ·rw[eG'];exact in3 sub0 b m
  ·rw[eR'];exact in3 subR0 b m
  ·simp only[Zdk,ea,Option.bind_some]
   rw[if_pos ⟨trivial,a0⟩,if_pos (by rw[hs.length];exact hj)]
 ·split at hf
  ·rename_i hj1 hj2
   cases hf
   refine fin (vs++[vw]) (Fa++Fn) (R++Rn) (hs.append (.one w1)) ?_ (fun b m=>List.mem_append.mp m) (fun b m=>List.mem_append.mp m) ?_
   ·rw[List.nodup_append]
    exact⟨ndF.2,w3,fun y hy z hz e=>by have:=lowF y (faIn y hy);have:=w2 z hz;omega⟩
   ·simp only[Zdk,ea,Option.bind_some]
    rw[if_pos ⟨trivial,a0⟩,if_neg (by rw[hs.length];exact hj1),if_pos (by rw[hs.length];exact hj2)]
  ·cases hf
end
section
variable {σ:TL} {Q:T→Prop} {Q2:T→TL→Prop} {R:T→TL→Prop} {N:TL→Prop}
theorem ZmL{c:Nat×List Str}{j:Nat}{ts:List T}{t:T}(e:ts[j]?=some t)(h:Q t): Pk (ZeA c j (.ob c ts)) Q:=⟨t,by simp[ZeA,e],h⟩
theorem ZlQ{x:Nat}{c:Nat×List Str}{p:PX}{ts:List T}(e:σ x=some (.ob c ts))(h:Px (p σ) Q2): Px (ZaN x c p σ) Q2:=by
 obtain⟨t,σ1,e1,q⟩:=h
 exact⟨t,σ1,by simp[ZaN,e,e1],q⟩
theorem ZmM{c:Nat×List Str}{p:List T→Option (T×List T)}{ps:Z6}(h:Pl (ps σ) fun ts=>Pr (p (.ob c []::ts)) fun t us=>t=.none∧∃u,us=[u]∧Q u): Pk (ZfR c p ps σ) Q:=by
 obtain⟨ts,e,t,us,e2,rfl,u,rfl,q⟩:=h
 exact⟨u,by simp[ZfR,e,e2],q⟩
theorem ZiO{x d j:Nat}{own:Bool}{c:Nat×List Str}{p:PE}(hd:0<d∧d≤999∧(own=true∨dn d=0))(h:Pk (p σ) fun w=>∃ts ts',σ x=some (.ob c ts)∧ZhD c j w ts=some ts'∧N (updT σ x (.ob c ts'))): Z3 (Zes x d own c j p σ) R N:=by
 obtain⟨w,e,ts,ts',e2,e3,q⟩:=h
 refine⟨none,_,?_,by simp,fun _=>q⟩
 simp only[Zes,e,Option.bind_some,e2]
 rw[if_pos ⟨trivial,hd⟩,e3]
 rfl
theorem ZlR{x d j:Nat}{own:Bool}{c:Nat×List Str}{f:PE}(hd:1<d∧d≤999∧(own=true∨dnn d 1=0))(h:Pk (f σ) fun w=>∃ts us,σ x=some (.ob c ts)∧ts[j]?=some (.lst us)∧us.length<10000∧N (updT σ x (.ob c (ts.set j (.lst (us++[w])))))): Z3 (ZcB x d own (Zeq x c j) f σ) R N:=by
 obtain⟨w,e,ts,us,e2,e4,hl,q⟩:=h
 refine⟨none,_,?_,by simp,fun _=>q⟩
 simp only[ZcB,Zeq,e,e2,Option.bind_some,if_true,List.length_cons,List.length_nil]
 rw[if_pos hd]
 simp only[Zcm,Zh7,Option.bind_some,e4,Zb5]
 rw[if_pos (by rw[Zas];omega)]
 rfl
end
end TM
end
section
namespace PM
open PySem PySem.W PySem.Calls PyProof.Rows PyProof PyProof.Rows.LCg PyProof.Rows.LCp
section
variable {M:Model} {A:Around} {E:Value→Shared→Prop} {s:Shared} {env:Env}
end
section
variable {prog:Program} {w:World} {Γ:Cx}
def ES1(e it l:Addr)(i:Nat)(h:Heap): Prop:=(∃old,IsEnum h e it ((i+1:Nat):Int) old)∧h.IsListIter it l i
theorem ES1.at{e it l:Addr}{i:Nat}{h h':Heap}(x:ES1 e it l i h)(k:∀a∈[e,it],∀o,h.get? a=some o→h'.get? a=some o): ES1 e it l i h':=by
 obtain⟨⟨old,h1⟩,h2⟩:=x
 exact⟨⟨old,k e (by simp) _ h1⟩,h2.at fun o x=>k it (by simp) o x⟩
end
end PM
end
section
namespace TM
open PySem PM
theorem ZgN{n:Nat}{sd:Z7}{fr:Bool}: SimX n sd fr (fun _ _=>none) (fun _=>none):=fun H vs ts t us Φ Ψ _ _ _ _ _ e=>by cases e
theorem Ofs.nil{k:Nat}: Ofs k Zh:=fun ρ v H=>rfl
end TM
end
section
namespace TM
open PySem PM
def Zjx(n:Nat)(sd:Z7)(mv:List Nat)(fr:Bool)(f:List V→Hp→Option (V×Hp))(p:List T→Option (T×List T)): Prop:=
 ∀(b:Nat) (H:Hp) (vs:List V) (ts:List T) (t:T) (us:List T) (Φ Ψ:Nat→List Nat),0<b→b≤H.length→vs.length=n→ts.length=n →
 (∀(i:Nat) (t:T),ts[i]?=some t→∃v,vs[i]?=some v∧RF H v t (Φ i)) →
 (∀(i d:Nat),(i,d)∈sd→∀(v:V) (t:T),vs[i]?=some v→ts[i]?=some t→Sp H d v t (Ψ i)∧0∉Ψ i∧∀(j:Nat) (u:T),j≠i→ts[j]?=some u→∀a∈Ψ i,a∉Φ j) →
 (∀i∈mv,∀t,ts[i]?=some t→(Φ i).Nodup∧(∀a∈Φ i,b≤a)∧∀(j:Nat) (u:T),j≠i→ts[j]?=some u→∀a∈Φ i,a∉Φ j) →
 p ts=some (t,us) →
 ∃(v:V) (H':Hp) (Φ' Ψ':Nat→List Nat) (F:List Nat),f vs H=some (v,H')∧H.length≤H'.length∧(∀a,a<H.length→(∀i d,(i,d)∈sd→a∉Ψ i)→(∀i∈mv,a∉Φ i)→H'[a]?=H[a]?)∧us.length=sd.length ∧
 (∀(k i d:Nat) (v:V) (u:T),sd[k]?=some (i,d)→vs[i]?=some v→us[k]?=some u→RF H' v u (Φ' i)∧Sp H' d v u (Ψ' i)∧(∀a∈Ψ' i,b≤a∨a∈Ψ i)∧(∀a∈Φ' i,b≤a∨∃j,j<n∧a∈Φ j)∧(∀a∈Ψ' i,a∉F)∧(∀j d',j≠i→(j,d')∈sd→∀a∈Ψ' i,a∉Φ' j)∧(fr=true→∀a∈Φ' i,a∉F)) ∧
 RF H' v t F∧(∀a∈F,b≤a∨∃j,j<n∧a∈Φ j)∧(fr=true→F.Nodup∧∀a∈F,b≤a)
def XAm(O M:List Nat)(as:List (Option Nat))(ms:List Bool)(es:ZT)(ps:Z6): Prop:=∀(c:Ctx) (ρ:Lc) (σ:TL) (H:Hp) (Φ:Nat→List Nat) (ts:List T),St c O ρ σ H Φ→ps σ=some ts→ts.length=as.length∧∃(vs:List V) (X:Hp),es ρ H=some (vs,H++X)∧vs.length=as.length∧(∀(i x:Nat),as[i]?=some (some x)→vs[i]?=ρ x∧ts[i]?=σ x)∧(∀(i:Nat) (t:T),as[i]?=some none→ts[i]?=some t→∃(v:V) (F:List Nat),vs[i]?=some v∧RF (H++X) v t F∧∀a∈F,From H M σ Φ a) ∧
 ∀(i:Nat),ms[i]?=some true→∀(t:T) (v:V) (F:List Nat),ts[i]?=some t→vs[i]?=some v→RF (H++X) v t F→F.Nodup∧(∀a∈F,H.length≤a)∧∀(j:Nat) (u:T) (w:V) (G:List Nat),j≠i→ts[j]?=some u→vs[j]?=some w→RF (H++X) w u G→∀a∈F,a∉G
section
variable {O M:List Nat} {S:Z7}
theorem ZcN{n:Nat}{sd:Z7}{mv:List Nat}{ms:List Bool}{fr b:Bool}{f:List V→Hp→Option (V×Hp)}{p:List T→Option (T×List T)}{as:List (Option Nat)}{es:ZT}{ps:Z6}{xs:List Nat}(k:Zjx n sd mv fr f p)(y:XAm O M as ms es ps)(hb:fr=true∨b=true)(hn:as.length=n)
  (hx:xs.length=sd.length) (nd:xs.Nodup) (hS:∀k,k<sd.length→(xs.getD k 0,(sd.getD k (0,0)).2)∈S∧as[(sd.getD k (0,0)).1]?=some (some (xs.getD k 0))) (ha:∀i,i<as.length→(as.getD i none=none∨i∈sd.map (·.1))) (nds:(sd.map (·.1)).Nodup)
  (uq:∀q∈S,∀r∈S,q.1=r.1→q.2=r.2) (hM:∀m∈M,m∉O∧∀q∈S,q.1≠m) (hmv:∀i∈mv,i<n∧ms.getD i false=true):EX O S [] true (Zr f es) (ZH b xs p ps):=fun c ρ σ H Φ Ψ t σ' s h=>by
 have hM':∀m∈M,∀d,(m,d)∉S:=fun m hm d q=>(hM m hm).2 _ q rfl
 have at_k:∀(k i d:Nat),sd[k]?=some (i,d)→∃x,xs[k]?=some x∧(x,d)∈S∧as[i]?=some (some x):=fun k i d e=>by
  have hk:=(Zz6.mp e).1
  obtain⟨h1,h2⟩:=hS k hk
  have e1:sd.getD k (0,0)=(i,d):=by simp[List.getD,e]
  rw[e1]at h1 h2
  have:k<xs.length:=by omega
  refine⟨xs[k],List.getElem?_eq_getElem this,?_,?_⟩
  ·simpa [List.getD,List.getElem?_eq_getElem this]using h1
  ·simpa [List.getD,List.getElem?_eq_getElem this]using h2
 have slotS:∀(i x:Nat),as[i]?=some (some x)→∃(k d:Nat),sd[k]?=some (i,d)∧xs[k]?=some x∧(x,d)∈S:=fun i x e=>by
  have hi:=(Zz6.mp e).1
  rcases ha i hi with q | q
  ·simp[List.getD,e]at q
  ·obtain⟨k,hk,q⟩:=List.getElem_of_mem q
   rw[List.length_map]at hk
   have q:(sd.getD k (0,0)).1=i:=by simpa [List.getD,List.getElem?_eq_getElem hk]using q
   have e1:sd[k]?=some (i,(sd.getD k (0,0)).2):=by
    rw[List.getElem?_eq_getElem hk]
    have:sd.getD k (0,0)=sd[k]:=by simp[List.getD,List.getElem?_eq_getElem hk]
    rw[this]at q ⊢
    rw[←q]
   obtain⟨x',h1,h2,h3⟩:=at_k k i _ e1
   rw[e]at h3
   cases h3
   exact⟨k,_,e1,h1,h2⟩
 obtain⟨ts,h1,h⟩:=Zz0.mp h
 obtain⟨⟨t0,us⟩,h2,h⟩:=Zz0.mp h
 split at h
 case isFalse=>cases h
 rename_i hfl
 cases h
 obtain⟨l,vs,X,a1,a2,a3,a4,a5⟩:=y c.toCtx ρ σ H Φ ts s.st h1
 have sX:=s.ext X
 have len:(H++X).length=H.length+X.length:=List.length_append
 have ex:∀i:Nat,∃G:List Nat,∀t:T,ts[i]?=some t→∃v,vs[i]?=some v∧RF (H++X) v t G∧(as[i]?=some none→∀a∈G,From H M σ Φ a)∧∀x,as[i]?=some (some x)→G=Φ x:=fun i=>by
  cases e:as[i]? with
  | none=>exact⟨[],fun t et=>by
    have:=(Zz6.mp et).1
    have:=List.getElem?_eq_none_iff.mp e
    omega⟩
  | some o=>
   cases o with
   | none=>
    cases et:ts[i]? with
    | none=>exact⟨[],fun t q=>by cases q⟩
    | some t=>
     obtain⟨v,F,k1,k2,k3⟩:=a4 i t e et
     exact⟨F,fun t' q=>by cases q;exact⟨v,k1,k2,(fun _=>k3),(fun x q=>by cases q)⟩⟩
   | some x=>
    obtain⟨k1,k2⟩:=a3 i x e
    refine⟨Φ x,fun t q=>?_⟩
    rw[k2]at q
    obtain⟨v,e1,e2⟩:=sX.st.slot x t q
    exact⟨v,k1.trans e1,e2,(fun q=>by cases q),(fun x' q=>by cases q;rfl)⟩
 let Φc:Nat→List Nat:=fun i=>Classical.choose (ex i)
 have hΦ:∀(i:Nat) (t:T),ts[i]?=some t→∃v,vs[i]?=some v∧RF (H++X) v t (Φc i)∧(as[i]?=some none→∀a∈Φc i,From H M σ Φ a)∧∀x,as[i]?=some (some x)→Φc i=Φ x:=fun i=>Classical.choose_spec (ex i)
 let Ψc:Nat→List Nat:=fun i=>match as[i]? with
  | some (some x)=>Ψ x
  | _=>[]
 have hΨ:∀(i x:Nat),as[i]?=some (some x)→Ψc i=Ψ x:=fun i x e=>by simp only[Ψc,e]
 have hp:0<(H++X).length:=by have:=s.st.pos;have:=s.st.len;omega
 have argsrc:∀j,j<n→∀a∈Φc j,H.length≤a∨(∃x d,(x,d)∈S∧x∈xs∧(∃t,σ x=some t)∧a∈Φ x)∨∃m∈M,(∃t,σ m=some t)∧a∈Φ m:=fun j hj a m=>by
  have hjt:j<ts.length:=by omega
  obtain⟨v,k1,k2,k3,k4⟩:=hΦ j ts[j] (List.getElem?_eq_getElem hjt)
  have hja:j<as.length:=by omega
  cases e:as[j]? with
  | none=>have:=List.getElem?_eq_none_iff.mp e;omega
  | some o=>
   cases o with
   | none=>
    rcases k3 e a m with q | q
    ·exact .inl q
    ·exact .inr (.inr q)
   | some x=>
    obtain⟨k,d,q1,q2,q3⟩:=slotS j x e
    have:=k4 x e
    rw[this]at m
    obtain⟨_,et⟩:=a3 j x e
    exact .inr (.inl ⟨x,d,q3,List.mem_of_getElem? q2,⟨ts[j],by rw[←et];exact List.getElem?_eq_getElem hjt⟩,m⟩)
 have mvo:∀i∈mv,∀t,ts[i]?=some t→(Φc i).Nodup∧(∀a∈Φc i,H.length≤a)∧∀(j:Nat) (u:T),j≠i→ts[j]?=some u→∀a∈Φc i,a∉Φc j:=fun i hi t et=>by
  obtain⟨v,k1,k2,_⟩:=hΦ i t et
  have hms:ms[i]?=some true:=by
   have:=(hmv i hi).2
   cases e:ms[i]? with
   | none=>simp[List.getD,e]at this
   | some z=>simp[List.getD,e]at this;rw[this]
  obtain⟨m1,m2,m3⟩:=a5 i hms t v (Φc i) et k1 k2
  refine⟨m1,m2,fun j u hj ej=>?_⟩
  obtain⟨w,l1,l2,_⟩:=hΦ j u ej
  exact m3 j u w (Φc j) hj ej l1 l2
 obtain⟨v,H',Φ',Ψ',F,b1,b2,b3,b4,b5,b6,b7,b8⟩:=k H.length (H++X) vs ts t0 us Φc Ψc (by have:=s.st.pos;have:=s.st.len;omega) (by omega) (by omega) (by omega) (fun i t e=>by
   obtain⟨v,k1,k2,_⟩:=hΦ i t e
   exact⟨v,k1,k2⟩) (fun i d hi v t ev et=>by
   obtain⟨k,hk,ek⟩:=List.getElem_of_mem hi
   obtain⟨x,x1,x2,x3⟩:=at_k k i d (by rw[List.getElem?_eq_getElem hk,ek])
   obtain⟨e1,e2⟩:=a3 i x x3
   rw[e1]at ev
   rw[e2]at et
   obtain⟨v',q1,q2,q3,q4⟩:=sX.sp x d x2 t et
   rw[ev]at q1
   cases q1
   rw[hΨ i x x3]
   refine⟨q2,fun m=>?_,fun j u hj ej a m q=>?_⟩
   ·have:=s.st.pos
    rcases q3 0 m with q | q
    ·omega
    ·exact s.st.f0 (c.fs _ _ q)
   ·obtain⟨v',k1,k2,k3,k4⟩:=hΦ j u ej
    have hjn:j<as.length:=by have:=(Zz6.mp ej).1;omega
    cases e:as[j]? with
    | none=>have:=List.getElem?_eq_none_iff.mp e;omega
    | some o=>
     cases o with
     | none=>
      rcases k3 e a q with q | ⟨m',hm',⟨tm,em⟩,mm⟩
      ·have:=s.low et a (s.up x2 et a m);omega
      ·exact q4 m' tm (fun q=>hM' m' hm' d (q▸x2)) em a m mm
     | some z=>
      rw[k4 z e]at q
      obtain⟨_,ez⟩:=a3 j z e
      obtain⟨k',d',z1,z2,z3⟩:=slotS j z e
      have:z≠x:=fun q=>by
       subst q
       have hk1:=(Zz6.mp z2).1
       have:k'=k:=(List.getElem?_inj hk1 nd).mp (z2.trans x1.symm)
       subst this
       rw[List.getElem?_eq_getElem hk,ek]at z1
       cases z1
       exact hj rfl
      exact q4 z u this (by rw[←ez];exact ej) a m q) mvo h2
 have same:∀a,a<H.length→(∀x∈xs,a∉Ψ x)→H'[a]?=H[a]?:=fun a ha hn=>by
  rw[b3 a (by omega) (fun i d hi m=>?_) (fun i hi m=>?_),List.getElem?_append_left ha]
  rotate_left
  ·have hit:i<ts.length∨ts.length≤i:=by omega
   rcases hit with hit | hit
   ·have:=(mvo i hi ts[i] (List.getElem?_eq_getElem hit)).2.1 a m
    omega
   ·have:=(hmv i hi).1
    omega
  obtain⟨k,hk,ek⟩:=List.getElem_of_mem hi
  obtain⟨x,x1,x2,x3⟩:=at_k k i d (by rw[List.getElem?_eq_getElem hk,ek])
  rw[hΨ i x x3]at m
  exact hn x (List.mem_of_getElem? x1) m
 have lus:xs.length=(us.map some).length:=by simp[b4,hx]
 have lsd1:xs.length=(sd.map fun q=>Φ' q.1).length:=by simp[hx]
 have lsd2:xs.length=(sd.map fun q=>Ψ' q.1).length:=by simp[hx]
 have chg:∀(kk x:Nat) (w:T),xs[kk]?=some x→us[kk]?=some w→∃(i d:Nat) (v0:V) (t0:T),sd[kk]?=some (i,d)∧(x,d)∈S∧as[i]?=some (some x)∧ρ x=some v0∧σ x=some t0∧vs[i]?=some v0∧pick xs (sd.map fun q=>Φ' q.1) Φ x=Φ' i∧pick xs (sd.map fun q=>Ψ' q.1) Ψ x=Ψ' i:=fun kk x w ex' ew=>by
  have hk:kk<sd.length:=by have:=(Zz6.mp ex').1;omega
  obtain⟨x',x1,x2,x3⟩:=at_k kk sd[kk].1 sd[kk].2 (List.getElem?_eq_getElem hk)
  rw[ex']at x1
  cases x1
  obtain⟨e1,e2⟩:=a3 _ x x3
  have hi:sd[kk].1<as.length:=(Zz6.mp x3).1
  have et:σ x=some ts[sd[kk].1]:=by rw[←e2];exact List.getElem?_eq_getElem (by omega)
  obtain⟨v0,ev0,_⟩:=s.st.slot x _ et
  refine⟨sd[kk].1,sd[kk].2,v0,_,List.getElem?_eq_getElem hk,x2,x3,ev0,et,e1.trans ev0,Zd7 nd ex' (by simp[List.getElem?_eq_getElem hk]),Zd7 nd ex' (by simp[List.getElem?_eq_getElem hk])⟩
 have unch:∀j,j∉xs→pick xs (us.map some) σ j=σ j∧pick xs (sd.map fun q=>Φ' q.1) Φ j=Φ j∧pick xs (sd.map fun q=>Ψ' q.1) Ψ j=Ψ j:=fun j hj=>by
  refine⟨?_,?_,?_⟩
  ·rcases Zb9 (g:=σ) lus j with⟨k,u,q,_⟩ | ⟨_,q⟩
   ·exact absurd (List.mem_of_getElem? q) hj
   ·exact q
  ·rcases Zb9 (g:=Φ) lsd1 j with⟨k,u,q,_⟩ | ⟨_,q⟩
   ·exact absurd (List.mem_of_getElem? q) hj
   ·exact q
  ·rcases Zb9 (g:=Ψ) lsd2 j with⟨k,u,q,_⟩ | ⟨_,q⟩
   ·exact absurd (List.mem_of_getElem? q) hj
   ·exact q
 have slot_cases:∀(j:Nat) (w:T),pick xs (us.map some) σ j=some w→(∃kk:Nat,xs[kk]?=some j∧us[kk]?=some w)∨(j∉xs∧σ j=some w):=fun j w e=>by
  rcases Zb9 (g:=σ) lus j with⟨k,u,q1,q2,q3⟩ | ⟨q1,q2⟩
  ·rw[q3]at e
   subst e
   rw[List.getElem?_map]at q2
   obtain⟨z,z1,z2⟩:=Zz1.mp q2
   cases z2
   exact .inl ⟨k,q1,z1⟩
  ·exact .inr ⟨q1,by rw[←q2];exact e⟩
 have xsS:∀x∈xs,∃d,(x,d)∈S:=fun x hx'=>by
  obtain⟨k,hk,e⟩:=List.getElem_of_mem hx'
  obtain⟨x',x1,x2,x3⟩:=at_k k sd[k].1 sd[k].2 (List.getElem?_eq_getElem (by omega))
  rw[List.getElem?_eq_getElem hk,e]at x1
  cases x1
  exact⟨_,x2⟩
 have xsσ:∀x∈xs,∃t,σ x=some t:=fun x hx'=>by
  obtain⟨k,hk,e⟩:=List.getElem_of_mem hx'
  have hu:k<us.length:=by omega
  obtain⟨_,_,_,t',_,_,_,_,q,_⟩:=chg k x us[k] (by rw[List.getElem?_eq_getElem hk,e]) (List.getElem?_eq_getElem hu)
  exact⟨t',q⟩
 have xsΨ:∀x∈xs,∀j u,j≠x→σ j=some u→∀a∈Ψ x,a∉Φ j:=fun x hx' j u hj ej a m=>by
  obtain⟨d,hd⟩:=xsS x hx'
  obtain⟨t',et⟩:=xsσ x hx'
  exact(s.sp x d hd t' et).choose_spec.2.2.2 j u hj ej a m
 have spsrc:∀i' d',(i',d')∈sd→∀a∈Ψc i',∃x∈xs,a∈Ψ x:=fun i' d' hi a m=>by
  obtain⟨k,hk,ek⟩:=List.getElem_of_mem hi
  obtain⟨x,x1,x2,x3⟩:=at_k k i' d' (by rw[List.getElem?_eq_getElem hk,ek])
  rw[hΨ i' x x3]at m
  exact⟨x,List.mem_of_getElem? x1,m⟩
 have fnew:∀a∈F,H.length≤a:=fun a m=>by
  rcases hb with q | q
  ·have:=(b8 q).2 a m;omega
  ·have:=b6.flat (hfl q);rw[this]at m;cases m
 have keepsl:∀j w,j∉xs→σ j=some w→∀a∈Φ j,H'[a]?=H[a]?:=fun j w hj ej a m=>same a (s.low ej a m) fun x hx' q=>xsΨ x hx' j w (fun e=>hj (e▸hx')) ej a q m
 have foff:∀x∈xs,∀(kk:Nat) (w:T),xs[kk]?=some x→us[kk]?=some w→∀a∈pick xs (sd.map fun q=>Φ' q.1) Φ x,H.length≤a∨(∃x d,(x,d)∈S∧x∈xs∧(∃t,σ x=some t)∧a∈Φ x)∨∃m∈M,(∃t,σ m=some t)∧a∈Φ m:=fun x hx' kk w ex' ew a m=>by
  obtain⟨i,d,v0,t1,q1,q2,q3,q4,q5,q6,q7,q8⟩:=chg kk x w ex' ew
  rw[q7]at m
  rcases(b5 kk i d v0 w q1 q6 ew).2.2.2.1 a m with q | ⟨j,hj,q⟩
  ·exact .inl (by omega)
  ·exact argsrc j hj a q
 refine⟨v,H',pick xs (sd.map fun q=>Φ' q.1) Φ,pick xs (sd.map fun q=>Ψ' q.1) Ψ,F,by simp only[Zr,a1,Option.bind_some,b1],by omega,fun a ha hn=>same a ha fun x hx' m=>?_,?_,fun j w hj ej=>?_,fun a hh=>?_,fun s' d hs ⟨w,ew⟩ a m=>?_,b6,fun a m=>.inl (fnew a m),fun a hh m=>?_,fun _=>⟨?_,fun _ s' d hs ⟨w,ew⟩ a m q=>?_⟩⟩
 ·obtain⟨d,hd⟩:=xsS x hx'
  exact hn ⟨x,d,hd,xsσ x hx',m⟩
 ·refine⟨⟨fun j w ej=>?_,fun j w ej a m=>?_,fun i hi w ei=>?_,by have:=s.st.len;omega,fun a ha hn=>?_,s.st.pos,s.st.f0⟩,fun i d hi w ei=>?_,s.ap,fun i hi w ei=>?_⟩
  ·rcases slot_cases j w ej with⟨kk,e1,e2⟩ | ⟨e1,e2⟩
   ·obtain⟨i,d,v0,t1,q1,q2,q3,q4,q5,q6,q7,q8⟩:=chg kk j w e1 e2
    rw[q7]
    exact⟨v0,q4,(b5 kk i d v0 w q1 q6 e2).1⟩
   ·obtain⟨v0,r1,r2⟩:=s.st.slot j w e2
    rw[(unch j e1).2.1]
    exact⟨v0,r1,r2.frame (keepsl j w e1 e2)⟩
  ·rcases slot_cases j w ej with⟨kk,e1,e2⟩ | ⟨e1,e2⟩
   ·rcases foff j (List.mem_of_getElem? e1) kk w e1 e2 a m with q | ⟨x,d,_,_,⟨t1,et⟩,mx⟩ | ⟨m',_,⟨tm,em⟩,mm⟩
    ·exact .inl (by have:=s.st.len;omega)
    ·exact s.st.src x t1 et a mx
    ·exact s.st.src m' tm em a mm
   ·rw[(unch j e1).2.1]at m
    exact s.st.src j w e2 a m
  ·have hix:i∉xs:=fun q=>by obtain⟨d,hd⟩:=xsS i q;exact s.ap i hi d hd
   obtain⟨u1,u2,_⟩:=unch i hix
   rw[u1]at ei
   rw[u2]
   obtain⟨o1,o2,o3⟩:=s.st.own i hi w ei
   refine⟨o1,o2,fun j z hj ej a m q=>?_⟩
   rcases slot_cases j z ej with⟨kk,e1,e2⟩ | ⟨e1,e2⟩
   ·rcases foff j (List.mem_of_getElem? e1) kk z e1 e2 a q with q | ⟨x,d,_,hxx,⟨t1,et⟩,mx⟩ | ⟨m',hm',⟨tm,em⟩,mm⟩
    ·have:=s.low ei a m;omega
    ·exact o3 x t1 (fun q=>hix (q▸hxx)) et a m mx
    ·exact o3 m' tm (fun q=>(hM m' hm').1 (q▸hi)) em a m mm
   ·rw[(unch j e1).2.1]at q
    exact o3 j z hj e2 a m q
  ·rw[same a (by have:=s.st.len;omega) fun x hx' m=>?_]
   ·exact s.st.keep a ha hn
   ·obtain⟨d,hd⟩:=xsS x hx'
    obtain⟨t',et⟩:=xsσ x hx'
    rcases(s.sp x d hd t' et).choose_spec.2.2.1 a m with q | q
    ·omega
    ·exact hn (c.fs _ _ q)
  ·rcases slot_cases i w ei with⟨kk,e1,e2⟩ | ⟨e1,e2⟩
   ·obtain⟨i',d',v0,t1,q1,q2,q3,q4,q5,q6,q7,q8⟩:=chg kk i w e1 e2
    have:d=d':=uq _ hi _ q2 rfl
    subst this
    obtain⟨c1,c2,c3,c4,c5,c6,c7⟩:=b5 kk i' d v0 w q1 q6 e2
    rw[q8]
    refine⟨v0,q4,c2,fun a m=>?_,fun j z hj ej a m q=>?_⟩
    ·rcases c3 a m with q | q
     ·exact .inl (by have:=s.st.len;omega)
     ·rw[hΨ i' i q3]at q
      exact(s.sp i d hi t1 q5).choose_spec.2.2.1 a q
    ·rcases slot_cases j z ej with⟨kj,f1,f2⟩ | ⟨f1,f2⟩
     ·obtain⟨ij,dj,vj,tj,r1,r2,r3,r4,r5,r6,r7,r8⟩:=chg kj j z f1 f2
      rw[r7]at q
      have hne:ij≠i':=fun e=>by
       subst e
       have hk1:kj<(sd.map (·.1)).length:=by simp;exact(Zz6.mp r1).1
       have:kj=kk:=(List.getElem?_inj hk1 nds).mp (by simp[List.getElem?_map,r1,q1])
       subst this
       rw[e1]at f1
       cases f1
       exact hj rfl
      exact c6 ij dj hne (List.mem_of_getElem? r1) a m q
     ·rw[(unch j f1).2.1]at q
      rcases c3 a m with q' | q'
      ·have:=s.low f2 a q;omega
      ·rw[hΨ i' i q3]at q'
       exact xsΨ i (List.mem_of_getElem? e1) j z hj f2 a q' q
   ·obtain⟨u1,u2,u3⟩:=unch i e1
    rw[u3]
    obtain⟨v0,p1,p2,p3,p4⟩:=s.sp i d hi w e2
    obtain⟨v0',r1,r2⟩:=s.st.slot i w e2
    rw[p1]at r1
    cases r1
    refine⟨v0,p1,p2.frame r2 (keepsl i w e1 e2),p3,fun j z hj ej a m q=>?_⟩
    rcases slot_cases j z ej with⟨kj,f1,f2⟩ | ⟨f1,f2⟩
    ·rcases foff j (List.mem_of_getElem? f1) kj z f1 f2 a q with q | ⟨x,dx,_,hxx,⟨t1,et⟩,mx⟩ | ⟨m',hm',⟨tm,em⟩,mm⟩
     ·have:=s.low e2 a (s.up hi e2 a m);omega
     ·exact p4 x t1 (fun q=>e1 (q▸hxx)) et a m mx
     ·exact p4 m' tm (fun q=>hM' m' hm' d (q▸hi)) em a m mm
    ·rw[(unch j f1).2.1]at q
     exact p4 j z hj f2 a m q
  ·have hix:i∉xs:=fun q=>by obtain⟨d,hd⟩:=xsS i q;exact s.ap i hi d hd
   obtain⟨u1,u2,_⟩:=unch i hix
   rw[u1]at ei
   rw[u2]
   exact s.nw i hi w ei
 ·have hjx:j∉xs:=fun q=>by obtain⟨d,hd⟩:=xsS j q;exact hj d hd
  obtain⟨u1,u2,u3⟩:=unch j hjx
  exact⟨by rw[←u1];exact ej,u2⟩
 ·obtain⟨i,d,hi,⟨w,ei⟩,m⟩:=hh
  rcases slot_cases i w ei with⟨kk,e1,e2⟩ | ⟨e1,e2⟩
  ·obtain⟨i',d',v0,t1,q1,q2,q3,q4,q5,q6,q7,q8⟩:=chg kk i w e1 e2
   rw[q8]at m
   rcases(b5 kk i' d' v0 w q1 q6 e2).2.2.1 a m with q | q
   ·exact .inl (by omega)
   ·rw[hΨ i' i q3]at q
    exact .inr ⟨i,d',q2,⟨t1,q5⟩,q⟩
  ·rw[(unch i e1).2.2]at m
   exact .inr ⟨i,d,hi,⟨w,e2⟩,m⟩
 ·rcases slot_cases s' w ew with⟨kk,e1,e2⟩ | ⟨e1,e2⟩
  ·rcases foff s' (List.mem_of_getElem? e1) kk w e1 e2 a m with q | ⟨x,d,_,_,ht,mx⟩ | ⟨m',_,ht,mm⟩
   ·exact .inl q
   ·exact .inr ⟨x,ht,mx⟩
   ·exact .inr ⟨m',ht,mm⟩
  ·rw[(unch s' e1).2.1]at m
   exact .inr ⟨s',⟨w,e2⟩,m⟩
 ·obtain⟨i,d,hi,⟨w,ei⟩,m'⟩:=hh
  rcases slot_cases i w ei with⟨kk,e1,e2⟩ | ⟨e1,e2⟩
  ·obtain⟨i',d',v0,t1,q1,q2,q3,q4,q5,q6,q7,q8⟩:=chg kk i w e1 e2
   rw[q8]at m'
   exact(b5 kk i' d' v0 w q1 q6 e2).2.2.2.2.1 a m' m
  ·rw[(unch i e1).2.2]at m'
   have:=s.low e2 a (s.up hi e2 a m')
   have:=fnew a m
   omega
 ·rcases hb with q | q
  ·exact(b8 q).1
  ·have:=b6.flat (hfl q);rw[this];exact List.nodup_nil
 ·rcases slot_cases s' w ew with⟨kk,e1,e2⟩ | ⟨e1,e2⟩
  ·obtain⟨i',d',v0,t1,q1,q2,q3,q4,q5,q6,q7,q8⟩:=chg kk s' w e1 e2
   rw[q7]at m
   rcases hb with qb | qb
   ·exact(b5 kk i' d' v0 w q1 q6 e2).2.2.2.2.2.2 qb a m q
   ·have:=b6.flat (hfl qb);rw[this]at q;cases q
  ·rw[(unch s' e1).2.1]at m
   have:=s.low e2 a m
   have:=fnew a q
   omega
end
end TM
end
section
namespace TM
open PySem PM
section
variable {O M:List Nat}
theorem XAm.nil: XAm O M [] [] Zh Zo:=fun c ρ σ H Φ ts s h=>by
 cases h
 exact⟨rfl,[],[],by simp[Zh],rfl,by simp,by simp,by simp⟩
theorem XAm.slot{x:Nat}{as:List (Option Nat)}{ms:List Bool}{es:ZT}{ps:Z6}(y:XAm O M as ms es ps): XAm O M (some x::as) (false::ms) (Za (Zb x) es) (Zd (Zc x) ps):=fun c ρ σ H Φ ts s h=>by
 obtain⟨t,h1,h⟩:=Zz0.mp h
 obtain⟨rs,h2,h⟩:=Zz0.mp h
 cases h
 obtain⟨v,e1,r1⟩:=s.slot x t h1
 obtain⟨l,vs,X,a1,a2,a3,a4,a5⟩:=y c ρ σ H Φ rs s h2
 refine⟨by simp[l],v::vs,X,by simp[Za,Zb,e1,a1],by simp[a2],fun i z e=>?_,fun i t' e e'=>?_,fun i e t' v' F et ev rF=>?_⟩
 ·cases i with
  | zero=>simp at e;subst e;exact⟨by simp[e1],by rw[List.getElem?_cons_zero];exact h1.symm⟩
  | succ i=>simpa using a3 i z (by simpa using e)
 ·cases i with
  | zero=>simp at e
  | succ i=>simpa using a4 i t' (by simpa using e) (by simpa using e')
 ·cases i with
  | zero=>simp at e
  | succ i=>
   obtain⟨m1,m2,m3⟩:=a5 i (by simpa using e) t' v' F (by simpa using et) (by simpa using ev) rF
   refine⟨m1,m2,fun j u w G hj eu ew rG=>?_⟩
   cases j with
   | zero=>
    simp at eu ew
    subst eu;subst ew
    obtain⟨_,e⟩:=rG.det (r1.ext X)
    subst e
    exact fun a m q=>by have:=m2 a m;have:=r1.lt a q;omega
   | succ j=>exact m3 j u w G (by omega) (by simpa using eu) (by simpa using ew) rG
theorem ZcO{N:List Nat}{u:Bool}{e:Ex}{p:PE}{as:List (Option Nat)}{ms:List Bool}{es:ZT}{ps:Z6}(x:E O N u e p)(hN:∀n∈N,n∈M)(y:XAm O M as ms es ps): XAm O M (none::as) (false::ms) (Za e es) (Zd p ps):=fun c ρ σ H Φ ts s h=>by
 obtain⟨t,h1,h⟩:=Zz0.mp h
 obtain⟨rs,h2,h⟩:=Zz0.mp h
 cases h
 obtain⟨v,X,F,e1,e2,e3,_⟩:=x c ρ σ H Φ t s h1
 obtain⟨l,vs,Y,a1,a2,a3,a4,a5⟩:=y c ρ σ (H++X) Φ rs (s.ext X) h2
 have ll:(H++X).length=H.length+X.length:=List.length_append
 refine⟨by simp[l],v::vs,X++Y,by simp[Za,e1,a1],by simp[a2],fun i z e=>?_,fun i t' e e'=>?_,fun i e t' v' F' et ev rF=>?_⟩
 ·cases i with
  | zero=>simp at e
  | succ i=>simpa using a3 i z (by simpa using e)
 ·cases i with
  | zero=>
   simp at e'
   subst e'
   exact⟨v,F,by simp,by rw[←List.append_assoc];exact e2.ext Y,fun a m=>(e3 a m).mono hN⟩
  | succ i=>
   obtain⟨w,G,k1,k2,k3⟩:=a4 i t' (by simpa using e) (by simpa using e')
   exact⟨w,G,by simpa using k1,by rw[←List.append_assoc];exact k2,fun a m=>(k3 a m).back⟩
 ·rw[←List.append_assoc]at rF ⊢
  cases i with
  | zero=>simp at e
  | succ i=>
   obtain⟨m1,m2,m3⟩:=a5 i (by simpa using e) t' v' F' (by simpa using et) (by simpa using ev) rF
   refine⟨m1,fun a m=>by have:=m2 a m;omega,fun j u w G hj eu ew rG=>?_⟩
   cases j with
   | zero=>
    simp at eu ew
    subst eu;subst ew
    obtain⟨_,e⟩:=rG.det (e2.ext Y)
    subst e
    exact fun a m q=>by have:=m2 a m;have:=e2.lt a q;omega
   | succ j=>exact m3 j u w G (by omega) (by simpa using eu) (by simpa using ew) rG
theorem XAm.own{e:Ex}{p:PE}{as:List (Option Nat)}{ms:List Bool}{es:ZT}{ps:Z6}(x:E O [] true e p)(y:XAm O M as ms es ps): XAm O M (none::as) (true::ms) (Za e es) (Zd p ps):=fun c ρ σ H Φ ts s h=>by
 obtain⟨t,h1,h⟩:=Zz0.mp h
 obtain⟨rs,h2,h⟩:=Zz0.mp h
 cases h
 obtain⟨v,X,F,e1,e2,e3,e4⟩:=x c ρ σ H Φ t s h1
 obtain⟨l,vs,Y,a1,a2,a3,a4,a5⟩:=y c ρ σ (H++X) Φ rs (s.ext X) h2
 have ll:(H++X).length=H.length+X.length:=List.length_append
 refine⟨by simp[l],v::vs,X++Y,by simp[Za,e1,a1],by simp[a2],fun i z e=>?_,fun i t' e e'=>?_,fun i e t' v' F' et ev rF=>?_⟩
 ·cases i with
  | zero=>simp at e
  | succ i=>simpa using a3 i z (by simpa using e)
 ·cases i with
  | zero=>
   simp at e'
   subst e'
   exact⟨v,F,by simp,by rw[←List.append_assoc];exact e2.ext Y,fun a m=>(e3 a m).mono (by simp)⟩
  | succ i=>
   obtain⟨w,G,k1,k2,k3⟩:=a4 i t' (by simpa using e) (by simpa using e')
   exact⟨w,G,by simpa using k1,by rw[←List.append_assoc];exact k2,fun a m=>(k3 a m).back⟩
 ·rw[←List.append_assoc]at rF ⊢
  cases i with
  | zero=>
   simp at et ev
   subst et;subst ev
   obtain⟨_,eq⟩:=rF.det (e2.ext Y)
   subst eq
   refine⟨e4 rfl,fun a m=>?_,fun j u w G hj eu ew rG a m q=>?_⟩
   ·rcases e3 a m with z | ⟨n,hn,_⟩
    ·exact z
    ·cases hn
   ·have lt:=e2.lt a m
    have ge:H.length≤a:=by
     rcases e3 a m with z | ⟨n,hn,_⟩
     ·exact z
     ·cases hn
    cases j with
    | zero=>exact hj rfl
    | succ j=>
     simp at eu ew
     have hja:j<as.length:=by have:=(Zz6.mp eu).1;omega
     cases eo:as[j]? with
     | none=>have:=List.getElem?_eq_none_iff.mp eo;omega
     | some o=>
      cases o with
      | none=>
       obtain⟨w',G',k1,k2,k3⟩:=a4 j u eo eu
       rw[ew]at k1
       cases k1
       obtain⟨_,eq⟩:=rG.det k2
       subst eq
       rcases k3 a q with z | ⟨n,hn,⟨tn,en⟩,mn⟩
       ·omega
       ·obtain⟨_,_,rn⟩:=s.slot n tn en
        have:=rn.lt a mn
        omega
      | some z=>
       obtain⟨k1,k2⟩:=a3 j z eo
       rw[eu]at k2
       rw[ew]at k1
       obtain⟨w',f1,f2⟩:=s.slot z u k2.symm
       rw[f1]at k1
       cases k1
       obtain⟨_,eq⟩:=rG.det ((f2.ext X).ext Y)
       subst eq
       have:=f2.lt a q
       omega
  | succ i=>
   obtain⟨m1,m2,m3⟩:=a5 i (by simpa using e) t' v' F' (by simpa using et) (by simpa using ev) rF
   refine⟨m1,fun a m=>by have:=m2 a m;omega,fun j u w G hj eu ew rG=>?_⟩
   cases j with
   | zero=>
    simp at eu ew
    subst eu;subst ew
    obtain⟨_,eq⟩:=rG.det (e2.ext Y)
    subst eq
    exact fun a m q=>by have:=m2 a m;have:=e2.lt a q;omega
   | succ j=>exact m3 j u w G (by omega) (by simpa using eu) (by simpa using ew) rG
end
end TM
end
section
namespace TM
open PySem PM
section
variable {O N:List Nat} {S:Z7} {u:Bool}
theorem Zio{k d:Nat}{C:Ex→Ex}{e:Ex}{p1 p2:PX}(hC:Ct k C)(x:EX O S [] true e p1)(y:EX O ((k,d)::S) N u (C (Zb k)) p2)(hk:k∉O)(hS:∀q∈S,q.1≠k)(hN:∀n∈N,n≠k∧∀q∈S,q.1≠n): EX O S N u (C e) (Zac k p1 p2):=fun c ρ σ H Φ Ψ t σ' s h=>by
 have hS:∀d,(k,d)∉S:=fun d m=>hS _ m rfl
 have hN':∀n∈N,∀d,(n,d)∉S:=fun n hn d m=>(hN n hn).2 _ m rfl
 obtain⟨⟨t1,σ1⟩,h1,h⟩:=Zz0.mp h
 obtain⟨⟨t2,σ2⟩,h2,h⟩:=Zz1.mp h
 cases h
 have sd:=s.del k
 obtain⟨v1,H1,Φ1,Ψ1,F1,a1,a2,a3,a4,a5,a6,a11,a7,a8,a9,a10⟩:=x c ρ (ZA σ k) H Φ Ψ t1 σ1 sd h1
 have new1:∀a∈F1,H.length≤a:=fun a m=>(a8 a m).nil
 obtain⟨nd1,of1⟩:=a10 rfl
 obtain⟨G1,sp1,sub1⟩:=a7.sp d nd1
 have dis1:∀j w,σ1 j=some w→∀a∈F1,a∉Φ1 j:=fun j w ej a m q=>by
  by_cases hjs:∀d,(j,d)∉S
  ·obtain⟨e1,e2⟩:=a5 j w hjs ej
   have:=sd.low e1 a (e2▸q)
   have:=new1 a m
   omega
  ·obtain⟨d,hd⟩:=Classical.not_forall.mp hjs
   exact of1 (by simp) j d (Classical.not_not.mp hd) ⟨w,ej⟩ a q m
 have s1:Su c O ((k,d)::S) (upd ρ k v1) (updT σ1 k t1) H1 (Zp Φ1 k F1) (Zp Ψ1 k G1):=a4.putS hk hS a7 sp1 (fun a m=>Nat.le_trans s.st.len (new1 a (sub1 a m))) (fun j w _ ej a m=>dis1 j w ej a (sub1 a m)) (fun a m=>.inl (Nat.le_trans s.st.len (new1 a m))) (fun i _ w ei a m q=>dis1 i w ei a q m) a9
 simp only[SH.del hS]at a3 a6
 obtain⟨v2,H2,Φ2,Ψ2,F2,b1,b2,b3,b4,b5,b6,b11,b7,b8,b9,b10⟩:=y c (upd ρ k v1) (updT σ1 k t1) H1 (Zp Φ1 k F1) (Zp Ψ1 k G1) t2 σ2 s1 h2
 have back:∀a,SH ((k,d)::S) (updT σ1 k t1) (Zp Ψ1 k G1) a→H.length≤a∨SH S σ Ψ a:=fun a hh=>by
  obtain⟨i,d',hi,⟨w,ei⟩,m⟩:=hh
  rcases Zz7.mp hi with q | q
  ·cases q
   simp only[Zp,if_true]at m
   exact .inl (new1 a (sub1 a m))
  ·have ik:i≠k:=fun z=>hS d' (z▸q)
   simp only[Zp,ik,if_false]at m
   exact a6 a ⟨i,d',q,⟨w,Z4 ei ik⟩,m⟩
 have upS:∀a,SH S (ZA σ2 k) Ψ2 a→SH ((k,d)::S) σ2 Ψ2 a:=fun a hh=>by
  obtain⟨i,d',hi,⟨w,ei⟩,m⟩:=hh
  exact⟨i,d',List.mem_cons_of_mem _ hi,⟨w,(Zam ei).2⟩,m⟩
 refine⟨v2,H2,Φ2,Ψ2,F2,by rw[hC e ρ H,a1];exact b1,by omega,fun a ha hn=>?_,(b4.less (fun _ h=>h) (fun q h=>List.mem_cons_of_mem _ h)).drop (fun _ h=>h),fun j w hj ej=>?_,fun a hh=>?_,fun s' d' hs ⟨w,ew⟩ a m=>?_,b7,fun a m=>?_,fun a hh=>b9 a (upS a hh),fun hu=>⟨(b10 hu).1,fun hn s' d' hs hw=>?_⟩⟩
 ·rw[b3 a (by omega) fun q=>?_]
  ·exact a3 a ha hn
  ·rcases back a q with z | z
   ·omega
   ·exact hn z
 ·obtain⟨q,ej⟩:=Zam ej
  obtain⟨e1,e2⟩:=b5 j w (fun d' m=>by rcases Zz7.mp m with z | z;cases z;exact q rfl;exact hj d' z) ej
  obtain⟨e3,e4⟩:=a5 j w hj (Z4 e1 q)
  exact⟨(Zam e3).2,by rw[e2];simpa [Zp,q]using e4⟩
 ·rcases b6 a (upS a hh)with z | z
  ·exact .inl (by omega)
  ·exact back a z
 ·rcases b11 s' d' (Zz2 _ hs) ⟨w,(Zam ew).2⟩ a m with q | ⟨j,⟨w',e'⟩,mj⟩
  ·exact .inl (by omega)
  ·by_cases q:j=k
   ·subst q
    simp only[Zp,if_true]at mj
    exact .inl (new1 a mj)
   ·simp only[Zp,q,if_false]at mj
    have e1:=Z4 e' q
    by_cases hjs:∀d,(j,d)∉S
    ·obtain⟨e3,e4⟩:=a5 j w' hjs e1
     exact .inr ⟨j,⟨w',(Zam e3).2⟩,e4▸mj⟩
    ·obtain⟨d',hd⟩:=Classical.not_forall.mp hjs
     rcases a11 j d' (Classical.not_not.mp hd) ⟨w',e1⟩ a mj with q | ⟨j',⟨w2,e2⟩,m2⟩
     ·exact .inl q
     ·exact .inr ⟨j',⟨w2,(Zam e2).2⟩,m2⟩
 ·rcases b8 a m with q | ⟨n,hn,⟨w,e⟩,mn⟩
  ·exact .inl (by omega)
  ·have q:=(hN n hn).1
   simp only[Zp,q,if_false]at mn
   obtain⟨e3,e4⟩:=a5 n w (hN' n hn) (Z4 e q)
   exact .inr ⟨n,hn,⟨w,(Zam e3).2⟩,e4▸mn⟩
 ·obtain⟨w,ew⟩:=hw
  exact(b10 hu).2 (fun n hn'=>⟨(hn n hn').1,fun d'' m=>by rcases Zz7.mp m with z | z;cases z;exact(hN _ hn').1 rfl;exact(hn n hn').2 d'' z⟩) s' d' (Zz2 _ hs) ⟨w,(Zam ew).2⟩
end
end TM
end
section
namespace TM
open PySem PM
section
variable {O N M:List Nat}
theorem ZmN{e1 e2:Ex}{p1 p2:PE}(x:E O N true e1 p1)(y:E O M true e2 p2)(hN:∀i∈N,i∈O)(hM:∀i∈N,i∉M): E O (N++M) true (Zj ZL e1 e2) (Zn Zad p1 p2):=fun c ρ σ H Φ t s h=>by
 obtain⟨t1,h1,h⟩:=Zz0.mp h
 obtain⟨t2,h2,h⟩:=Zz0.mp h
 obtain⟨v1,X,F1,a1,a2,a3,a4⟩:=x c ρ σ H Φ t1 s h1
 obtain⟨v2,Y,F2,b1,b2,b3,b4⟩:=y c ρ σ (H++X) Φ t2 (s.ext X) h2
 have a2':=a2.ext Y
 have dj:∀a∈F1,a∉F2:=fun a ha hb=>by
  have hlt:=a2.lt a ha
  rcases b3 a hb with h | ⟨j,hj,⟨tj,ej⟩,mj⟩
  ·omega
  ·obtain⟨vj,_,rj⟩:=s.slot j tj ej
   have:=rj.lt a mj
   rcases a3 a ha with h | ⟨i,hi,⟨ti,ei⟩,mi⟩
   ·omega
   ·exact(s.own i (hN i hi) ti ei).2.2 j tj (fun q=>hM i hi (q▸hj)) ej a mi mj
 have nd1:=a4 rfl
 have nd2:=b4 rfl
 have f1:∀a∈F1,From H (N++M) σ Φ a:=fun a m=>(a3 a m).mono fun i hi=>List.mem_append_left _ hi
 have f2:∀a∈F2,From H (N++M) σ Φ a:=fun a m=>(b3 a m).back.mono fun i hi=>List.mem_append_right _ hi
 have ev:∀r,ZL v1 v2 (H++X++Y)=some r→Zj ZL e1 e2 ρ H=some r:=fun r hr=>by simp only[Zj,a1,b1,Option.bind_some,hr]
 have ndA:∀{A B:List Nat},A.Nodup→B.Nodup→(∀a∈A,a∉B)→(A++B).Nodup:=fun ha hb hd=>by
  rw[List.nodup_append]
  exact⟨ha,hb,fun a m b m' e=>hd a m (e▸m')⟩
 cases a2' with
 | none=>cases h
 | bool=>cases h
 | str=>cases h
 | obj=>cases h
 | int a=>
  cases b2 <;> first | (cases h;done) | skip
  cases h
  exact⟨_,X++Y,[],ev _ (by simp[ZL]),.int _,by simp,by simp⟩
 | tup hs1=>
  cases b2 with
  | none=>cases h
  | bool=>cases h
  | str=>cases h
  | obj=>cases h
  | int=>cases h
  | ref=>cases h
  | tup hs2=>
   simp only[Zad]at h
   split at h
   ·rename_i hl
    cases h
    refine⟨_,X++Y,_,ev _ ?_,.tup (by rw[←List.append_assoc];exact hs1.append hs2),fun a m=>?_,fun _=>ndA nd1 nd2 dj⟩
    ·simp only[ZL]
     rw[if_pos (by rw[List.length_append]at hl ⊢;rw[hs1.length,hs2.length];exact hl),List.append_assoc]
    ·rcases Zz8.mp m with m | m
     ·exact f1 a m
     ·exact f2 a m
   ·cases h
 | @ref r1 vs1 _ G1 e1' hs1=>
  cases b2 with
  | none=>cases h
  | bool=>cases h
  | str=>cases h
  | obj=>cases h
  | int=>cases h
  | tup=>cases h
  | @ref r2 vs2 _ G2 e2' hs2=>
   simp only[Zad]at h
   split at h
   ·rename_i hl
    cases h
    have hR:=hs1.append hs2
    refine⟨.ref (H++X++Y).length,X++Y++[vs1++vs2],(H++X++Y).length::(G1++G2),ev _ ?_,?_,fun a m=>?_,fun _=>?_⟩
    ·simp only[ZL,e1',e2',Option.bind_some]
     rw[if_pos (by rw[List.length_append]at hl ⊢;rw[hs1.length,hs2.length];exact hl)]
     simp
    ·rw[show H++(X++Y++[vs1++vs2])=H++X++Y++[vs1++vs2]by simp]
     exact .ref (by simp) (hR.ext _)
    ·rcases Zz7.mp m with rfl | m
     ·exact .inl (by simp)
     ·rcases Zz8.mp m with m | m
      ·exact f1 a (Zz2 _ m)
      ·exact f2 a (Zz2 _ m)
    ·refine List.nodup_cons.mpr ⟨fun m=>?_,ndA (List.nodup_cons.mp nd1).2 (List.nodup_cons.mp nd2).2 fun a m m'=>dj a (Zz2 _ m) (Zz2 _ m')⟩
     have:=hR.lt _ m
     omega
   ·cases h
end
end TM
end
section
namespace PM
open PySem PySem.W PySem.Calls PyProof.Rows PyProof
noncomputable def KIn{α:Type}(n:Nat)(P:α→Prop): KasT α→Prop
 | .ret a=>P a
 | .ask i j k=>i<n∧j<n∧∀b,KIn n P (k b)
theorem KIn.bind{α β:Type}{n:Nat}{P:α→Prop}{P':β→Prop}{f:α→KasT β}(h:∀a,P a→KIn n P' (f a)): ∀{t:KasT α},KIn n P t→KIn n P' (t.bind f)
 | .ret a,z=>h a z
 | .ask i j k,z=>⟨z.1,z.2.1,fun b=>KIn.bind h (z.2.2 b)⟩
section
variable {n:Nat}
end
theorem VRs.getD{W:Wd}{vs:List V}{xs:List Value}(h:VRs W vs xs)(i:Nat): VR W (vs.getD i .none) (xs.getD i .none):=by
 by_cases hi:i<vs.length
 ·obtain⟨x,e,r⟩:=h.at (List.getElem?_eq_getElem hi)
  rw[List.getD_eq_getElem?_getD,List.getD_eq_getElem?_getD,List.getElem?_eq_getElem hi,e]
  exact r
 ·have l:=h.length
  rw[List.getD_eq_getElem?_getD,List.getD_eq_getElem?_getD,List.getElem?_eq_none (by omega),List.getElem?_eq_none (by omega)]
  exact .none
section
variable {prog:Program} {w:World} {A:Around} {E:Value→Shared→Prop} {s:Shared}
end
end PM
namespace PM
open PySem PySem.W PySem.Calls PyProof.Rows PyProof
section
variable {prog:Program} {w:World}
end
end PM
end
section
namespace PM
open PySem PySem.W PySem.Calls PyProof.Rows PyProof PyProof.Rows.LCg PySem.SeqAt
open SeqRoads2 MeetsSeq3 MeetsSeq2 MeetsSeq AutoSeq1
noncomputable def Zfj: V→V→Hp→Option (V×Hp)
 | .ref a,.ref b,H=>H[a]?.bind fun vs=>H[b]?.bind fun us=>if a≠0∧a≠b∧vs.length+us.length≤ZN then some (.none,H.set a (vs++us))else none
 | _,_,_=>none
noncomputable def Zd9(o f:Ex): Ex:=fun ρ H=>(o ρ H).bind fun p=>(f ρ p.2).bind fun q=>Zfj p.1 q.1 q.2
theorem ZjU{a b x:V}{H K:Hp}(h:Zfj a b H=some (x,K)): ∃i j vs us,a=.ref i∧b=.ref j∧H[i]?=some vs∧H[j]?=some us∧i≠0∧i≠j∧vs.length+us.length≤ZN∧x=.none∧K=H.set i (vs++us):=by
 unfold Zfj at h
 split at h
 ·obtain⟨vs,e1,h⟩:=Zz0.mp h
  obtain⟨us,e2,h⟩:=Zz0.mp h
  split at h
  ·rename_i q
   cases h
   exact⟨_,_,vs,us,rfl,rfl,e1,e2,q.1,q.2.1,q.2.2,rfl,rfl⟩
  ·cases h
 ·cases h
section
variable {prog:Program} {w:World} {Γ:Cx}
theorem J.extend{o e1:Expr}{apos pos:Pos}{f g:Ex}(ho:J prog w Γ o f)(h1:J prog w Γ e1 g)(hbase:attributeBase o "extend" Γ.env (eval o Γ.env)=eval o Γ.env:=by rfl)
  (hline:(apos.endLine == pos.line)=true:=by rfl) (htrees:backTo pos (starEach [e1] Γ.env)=[(false,eval e1 Γ.env)]:=by rfl):J prog w Γ (.Call (.Attribute o "extend" apos) [e1] [] pos) (Zd9 f g):=by
 intro W ρ H fr s Q E v H' r hx post
 obtain⟨p,x1,hx⟩:=Zz0.mp hx
 obtain⟨q,x2,x3⟩:=Zz0.mp hx
 obtain⟨i,j,vs,us,ea,eb,hvs,hus,i0,ij,hl,er,eK⟩:=ZjU x3
 refine wpAny_Call_method1_late hbase hline htrees (ho W ρ H fr s _ E _ _ r x1 fun W1 k1 t1 x l1 r1 y1=>?_)
 rw[ea]at y1
 have hin:=r1.refIn y1
 cases y1 with
 | @ref _ a aa=>
 obtain⟨_,xs,n,hg,hv⟩:=r1.at (List.getElem?_eq_getElem hin) aa
 refine⟨"list","list.extend",PySem.F.plainAttrs_list,PySem.F.slot_list_extend,PySem.F.type_list_extend,(show k1.IsList a xs.toArray from⟨_,hg,rfl,n,rfl⟩).typeIs,fun b eb=>by cases eb;exact⟨_,hg,rfl⟩,?_⟩
 refine Calls.callWith_builtin rfl (Calls.evalArgs_plain (Calls.spliced_cons ?_))
 refine h1 W1 ρ _ fr _ _ E _ _ r1 x2 fun W2 k2 t2 y l2 r2 y2=>Calls.spliced_nil ?_
 rw[eb]at y2
 cases y2 with
 | @ref _ b bb=>
 obtain⟨hl2,xs2,n2,hg2,hv2⟩:=r2.at hvs (l2.at aa)
 obtain⟨hl3,xs3,n3,hg3,hv3⟩:=r2.at hus bb
 have z2:=hv2.length
 have z3:=hv3.length
 rw[Zas]at hl hl2 hl3
 have szl:sizeLine=2 ^ 24:=rfl
 refine call_meets PySem.F.slot_list_extend ⟨_,hg2,rfl⟩ PySem.F.entry_list_extend (PySem.F.args_list_extend_2 _ _) (list_extend_list_list_0 a xs2.toArray n2 b xs3.toArray n3 ?_ (by rw[List.size_toArray,szl];omega) (by rw[List.size_toArray,List.size_toArray,szl];omega)) ⟨hg2,hg3,?_⟩
 ·simp only[Builtin.List.listTooLong,List.size_toArray]
  simp
  intro _
  omega
 ·obtain⟨c2,hc2⟩:∃c2,(k2.update a (Obj.mapSeq fun x=>x++xs3.toArray)).get? a=some (ZaO (xs2++xs3) c2):=⟨_,by rw[get?_update_seq hg2 fun x=>x++xs3.toArray];simp[ZaO];rfl⟩
  cases er
  have sb:=Heap.SameBut.update k2 a (Obj.mapSeq fun x=>x++xs3.toArray)
  rw[eK]at post
  exact post W2 _ t2 .none (l1.trans l2) (r2.change i0 hvs (l2.at aa) sb hc2 (hv2.append hv3) (by rw[List.length_append,Zas];omega)) .none
end
end PM
end
section
namespace PM
open PySem PySem.W PySem.Calls PyProof.Rows PyProof PyProof.Rows.LCg
noncomputable def Zb7(i j k:Nat): V→Lc→Option Lc
 | .tup [a,b,c],ρ=>some (upd (upd (upd ρ i a) j b) k c)
 | _,_=>none
theorem Zkt{i j k:Nat}{v:V}{ρ ρ':Lc}(h:Zb7 i j k v ρ=some ρ'): ∃a b c,v=.tup [a,b,c]∧ρ'=upd (upd (upd ρ i a) j b) k c:=by
 unfold Zb7 at h
 split at h
 ·cases h;exact⟨_,_,_,rfl,rfl⟩
 ·cases h
noncomputable def ZfS(f:Ex): Src:=fun ρ H=>(f ρ H).bind fun p=>match p.1 with
 | .ref a=>p.2[a]?.map fun vs=>(Zbw a,vs.length+1,p.2)
 | _=>none
def Znc(prog:Program)(w:World)(Γ:Cx)(it:Value)(It:Nat→List (Addr×Obj)→Prop): Prop:=∀(i:Nat) (W:Wd) (ρ:Lc) (H:Hp) (fr fs:List (Addr×Obj)) (s:Shared) (Q:Unit→Shared→Prop) (E:Value→Shared→Prop) (elts:List Expr) (x1:Nat) (tp:Pos) (T:Addr),Rep Γ W ρ H (fs++fr) s.heap→It i fs→Q () s→wpAny (model prog w) Γ.A (letOwnedTupleGo (.Tuple elts x1 tp) it (.ref T)) Q E s
def JIL(prog:Program)(w:World)(Γ:Cx)(e:Expr)(g:Src): Prop:=∀(W:Wd) (ρ:Lc) (H:Hp) (fr:List (Addr×Obj)) (s:Shared) (Q E:Value→Shared→Prop) (nx:Nx) (n:Nat) (H':Hp),
 Rep Γ W ρ H fr s.heap→g ρ H=some (nx,n,H') →
 (∀(W':Wd) (h':Heap) (tk':Nat) (it:Value) (as:List Addr) (It:Nat→List (Addr×Obj)→Prop) (fs:List (Addr×Obj)),W.Le W'→It 0 fs→Rep Γ W' ρ H' (fs++fr) h'→(∀a∈as,∀t∈fr,a≠t.1)→Itr prog w Γ W' it as It nx→Znc prog w Γ it It→Q it { s with heap:=h',toks:=tk' }) →
 wpAny (model prog w) Γ.A (eval e Γ.env) (fun xv s₁=>wpAny (model prog w) Γ.A (pyIter xv) Q E s₁) E s
section
variable {prog:Program} {w:World} {Γ:Cx}
theorem JIL.seq{e:Expr}{f:Ex}(h:J prog w Γ e f): JIL prog w Γ e (ZfS f):=by
 intro W ρ H fr s Q E nx n H' r hf post
 obtain⟨p,e1,hf⟩:=Zz0.mp hf
 refine h W ρ H fr s _ E _ _ r e1 fun W1 k1 t1 x l1 r1 x1=>?_
 obtain⟨v,H1⟩:=p
 cases x1 with
 | none=>cases hf
 | bool _=>cases hf
 | int _ _=>cases hf
 | str _ _=>cases hf
 | obj _ _ _ _=>cases hf
 | tup _ _ _=>cases hf
 | @ref i0 a ea=>
  obtain⟨vs,e2,e3⟩:=Zz1.mp hf
  cases e3
  obtain⟨hl,xs,k,hg,hv⟩:=r1.at e2 ea
  have isl:k1.IsList a xs.toArray:=⟨_,hg,rfl,k,rfl⟩
  refine wpAny_pyIter_list isl ?_
  obtain⟨r2,ap⟩:=r1.more (fs:=[(k1.objs.size,{ cls:=.type "list_iterator",data:=.fields #[.ref a,.int 0 0] })]) (fun b o e=>Heap.get?_push_of_some { cls:=.type "list_iterator",data:=.fields #[.ref a,.int 0 0] } e) (fun q hq=>by rw[List.mem_singleton.mp hq];exact⟨Heap.get?_push_size _ rfl,Nat.le_refl _⟩)
  refine post W1 _ t1 _ [k1.objs.size] _ _ l1 ⟨_,rfl,?_⟩ r2 (fun b hb t ht=>by rw[List.mem_singleton.mp hb];exact ap _ Zz5 t ht)
   (Zfp (fun i ob=>ob.cls=.type "list_iterator"∧ob.data=.fields #[.ref a,.int i 0]) ?_ ?_) ?_
  ·intro i W ρ H fr ob s Q E o le r hp hn post
   obtain⟨us,eu,e4⟩:=Zz1.mp hn
   subst e4
   obtain⟨hl2,ys,k2,hg2,hv2⟩:=r.at eu (le.at ea)
   have g1:s.heap.IsListIter k1.objs.size a i:=⟨ob,r.frAt Zz5,hp.1,hp.2⟩
   have g2:s.heap.IsList a ys.toArray:=⟨_,hg2,rfl,k2,rfl⟩
   cases ev:us[i]? with
   | none=>
    rw[ev]at post
    have hi:ys.toArray[i]?=none:=by have:=List.getElem?_eq_none_iff.mp ev;rw[←hv2.length]at this;simpa using this
    exact wpAny_pyNext_list_end Γ.hh g1 g2 hi fun h' he'=>post h' s.toks fun b o hb e=>he' b o hb e
   | some v=>
    rw[ev]at post
    obtain⟨y,hy,ry⟩:=hv2.at ev
    refine wpAny_pyNext_list_item g1 g2 (x:=y) (by simpa using hy) fun h' hit' hs'=>?_
    obtain⟨ob',h1,h2,h3⟩:=hit'
    exact post ob' h' s.toks y ⟨h2,h3⟩ h1 (fun b o hb e=>hs'.extBut b o hb e) ry
  ·intro i W ρ H fr ob s Q E le r hp q
   exact wpAny_pyIter_listiter (⟨ob,r.frAt Zz5,hp.1,hp.2⟩:s.heap.IsListIter k1.objs.size a i) q
  ·intro i W ρ H fr fs s Q E elts x1 tp T r hp q
   obtain⟨ob,rfl,hp⟩:=hp
   exact wpAny_letOwnedTupleGo_listiter (⟨ob,r.frAt (Zz4 _ Zz5),hp.1,hp.2⟩:s.heap.IsListIter k1.objs.size a i) q
  ·exact⟨rfl,rfl⟩
theorem Zj7{elt iter:Expr}{x x₂ x₃:Str}{px px₂ px₃ tp:Pos}{kt:Nat}{ifs:List Expr}{scope:Scope}{pos:Pos}{cl:List (Str×Addr)}{t t₂ t₃:Nat}{g:Src}{c:Ts}{f:Ex}(hg:JIL prog w Γ iter g)(hel:∀C ρ,J prog w (ZaS Γ scope cl C [(x,t),(x₂,t₂),(x₃,t₃)] ρ) elt f)(hif:∀C ρ,JF prog w (ZaS Γ scope cl C [(x,t),(x₂,t₂),(x₃,t₃)] ρ) ifs c)
  (hcell:∀y∈scope.names,y.2≠.cell) (hkind:scope.kind=.function) (hx:scope.names.lookup x=some .local) (hx₂:scope.names.lookup x₂=some .local) (hx₃:scope.names.lookup x₃=some .local) (hxx:x≠x₂∧x≠x₃∧x₂≠x₃) (htt:t≠t₂∧t≠t₃∧t₂≠t₃)
  {W:Wd} {ρ:Lc} {H:Hp} {fr:List (Addr×Obj)} {s:Shared} {E:Value→Shared→Prop} {q:List V×Hp} {RR:Value→Addr→Result→Shared→Prop} (r:Rep Γ W ρ H fr s.heap) (hf:((g ρ H).bind fun z=>ZaL z.1 (Zb7 t t₂ t₃) c f ρ z.2.1 0 [] z.2.2)=some q)
  (hR:∀(W':Wd) (h':Heap) (tk':Nat) (C D:Addr) (oC:Obj) (m₂:Str→Option Value) (ys:List Value),W.Le W'→NsObj oC m₂→VRs W' q.1 ys→q.1.length≤ZN→(∀t∈fr,D≠t.1)→(∀t∈fr,C≠t.1)→C≠D→Rep Γ W' ρ q.2 ((C,oC)::(D,lst ys)::fr) h'→RR (.ref D) C (.ok .next) { s with heap:=h',toks:=tk' }):
  wpAny (model prog w) Γ.A (eval iter Γ.env) (fun xv s₁=>wpAny (model prog w) Γ.A (pyIter xv) (fun it s₂=>wpAny (model prog w) Γ.A (newList []) (fun acc s₃=>wpAny (model prog w) Γ.A (newFunctionEnv scope Γ.env.globals cl [] Γ.env.qual none .none (some Γ.env)) (fun cenv s₄=>
   codeAny (model prog w) Γ.A (.compStart (.ListComp elt [⟨.Tuple [.Name x px,.Name x₂ px₂,.Name x₃ px₃] kt tp,iter,ifs,0⟩] scope pos) 0 it acc { cenv with scope:=relabel scope Γ.env }) (RR acc cenv.locals) s₄) E s₃) E s₂) E s₁) E s:=by
 obtain⟨z,e1,e2⟩:=Zz0.mp hf
 obtain⟨nx,n,H0⟩:=z
 refine hg W ρ H fr s _ E nx n H0 r e1 fun W1 k1 t1 itv as It fs l1 i1 r1 ap I1 lt1=>?_
 refine wpAny_newObj_type (wpAny_newFunctionEnv hcell (fun y hy=>by simp at hy) (fun h₂ hns hsb=>?_) hkind)
 dsimp only at hns hsb ⊢
 obtain⟨rD,aD⟩:=r1.more (fs:=[(k1.objs.size,lst [])]) (fun b o e=>Heap.get?_push_of_some (lst []) e) (fun q hq=>by rw[List.mem_singleton.mp hq];exact⟨Heap.get?_push_size _ rfl,Nat.le_refl _⟩)
 generalize eH:k1.push { cls:=.type "list",dict:=none,data:=.seq ([]:List Value).toArray } = K at hns hsb ⊢
 have eK:k1.push (lst [])=K:=eH
 rw[eK]at rD
 obtain⟨oC,gC,nC⟩:=ns_obj hns
 have up:∀b o,K.get? b=some o→h₂.get? b=some o:=fun b o e=>hsb.extBut b o (Nat.ne_of_lt (Heap.lt_size e)) (Heap.get?_push_of_some _ e)
 obtain⟨rC,aC⟩:=rD.more (fs:=[(K.objs.size,oC)]) up (fun q hq=>by rw[List.mem_singleton.mp hq];exact⟨gC,Nat.le_refl _⟩)
 have adr0:=I1.adr 0 fs i1
 have offs:∀b∈as,b≠k1.objs.size∧b≠K.objs.size:=fun b hb=>by
  rw[←adr0]at hb
  obtain⟨q,hq,e⟩:=Zz11.mp hb
  exact⟨e▸(aD _ Zz5 q (Zz4 _ hq)).symm,e▸(aC _ Zz5 q (Zz3 _ (Zz4 _ hq))).symm⟩
 have cd:K.objs.size≠k1.objs.size:=aC _ Zz5 (k1.objs.size,lst []) (Zz4 _ Zz5)
 have cfr:∀t∈fr,K.objs.size≠t.1:=fun t ht=>aC _ Zz5 t (Zz3 _ (Zz3 _ ht))
 have dfr:∀t∈fr,k1.objs.size≠t.1:=fun t ht=>aD _ Zz5 t (Zz3 _ ht)
 generalize k1.objs.size=D at *
 generalize K.objs.size=C at *
 have loop:∀s₃:Shared,s₃ = { s with heap:=h₂,toks:=t1+([]:List (Str×Value)).length } →
   codeAny (model prog w) Γ.A (.compLoop (.ListComp elt [⟨.Tuple [.Name x px,.Name x₂ px₂,.Name x₃ px₃] kt tp,iter,ifs,0⟩] scope pos) 0 itv (.ref D) (compEnvC scope cl C Γ.env)) (RR (.ref D) C) s₃:=by
  intro s₃ hs₃
  subst hs₃
  refine codeAny_loop rfl (ZdD Γ W1 ρ fr C D It nx (Zb7 t t₂ t₃) c f q s) ?_ n ⟨W1,H0,h₂,_,0,fs,[],[],oC,_,rfl,.refl _,i1,nC,.nil,Nat.zero_le _,rC,e2⟩
  rintro k s' ⟨W2,H2,k2,t2,j,fs2,acc,ys,oC2,m₂,rfl,l2,i2,hC2,hv2,hl2,r2,e⟩
  cases k with
  | zero=>cases e
  | succ k=>
   obtain⟨o,e4,e⟩:=Zz0.mp e
   have r2':Rep Γ W2 ρ H2 (fs2++((C,oC2)::(D,lst ys)::fr)) k2:=r2.less fun q hq=>by
    rcases Zz8.mp hq with hq | hq
    ·exact Zz2 _ (Zz2 _ (Zz4 _ hq))
    ·rcases Zz7.mp hq with e | hq
     ·exact e▸List.mem_cons_self
     ·rcases Zz7.mp hq with e | hq
      ·exact e▸List.mem_cons_of_mem _ Zz5
      ·exact Zz2 _ (Zz2 _ (Zz3 _ hq))
   have ap2:∀b∈as,∀t∈(C,oC2)::(D,lst ys)::fr,b≠t.1:=fun b hb t ht=>by
    rcases Zz7.mp ht with e | ht
    ·rw[e]
     exact(offs b hb).2
    ·rcases Zz7.mp ht with e | ht
     ·rw[e]
      exact(offs b hb).1
     ·exact ap b hb t ht
   refine wpAny_noted (m:=compTurn (.ListComp elt [⟨.Tuple [.Name x px,.Name x₂ px₂,.Name x₃ px₃] kt tp,iter,ifs,0⟩] scope pos) 0 itv (.ref D) (compEnvC scope cl C Γ.env)) ?_
   rw[compTurn_list]
   refine wpAny_bind (wpAny_standAt (wpAny_bind (I1.next j W2 ρ H2 _ fs2 _ _ _ o l2 r2' ap2 i2 e4 ?_)))
   cases o with
   | none=>
    cases e
    intro h' tk' r3
    refine wpAny_pure ?_
    exact hR W2 h' tk' C D oC2 m₂ ys (l1.trans l2) hC2 hv2 hl2 dfr cfr cd r3
   | some v=>
    intro fs3 k3 t3 y i3 r3 y3
    obtain⟨ρ3,e5,e⟩:=Zz0.mp e
    obtain⟨va,vb,vc,ev,eρ⟩:=Zkt e5
    subst ev
    subst eρ
    have a3:∀t∈fs3,t.1∈as:=fun t ht=>by
     rw[←I1.adr _ _ i3]
     exact List.mem_map_of_mem ht
    cases y3 with
    | @tup _ T xs3 n3 hm3 _ hs3=>
    cases hs3 with
    | @cons _ y1 _ _ w1 hs3=>
    cases hs3 with
    | @cons _ y2 _ _ w2 hs3=>
    cases hs3 with
    | @cons _ y3 _ _ w3 hs3=>
    cases hs3
    refine wpAny_bind (lt1 _ _ _ _ _ _ _ _ _ _ _ _ _ r3 i3 ?_)
    have htup:IsTup k3 T #[y1,y2,y3]:=⟨_,r3.tupAt hm3,rfl,n3,rfl⟩
    refine wpAny_bind ?_
    refine assign_Tuple_tuple (s:={ s with heap:=k3,toks:=t3 }) Γ.hh htup rfl rfl fun g₄ he=>?_
    have r3g:=r3.grown (h':=g₄) fun b o e=>he b o (Nat.ne_of_lt (Heap.lt_size e)) e
    have gC3:g₄.get? C=some oC2:=r3g.frAt (q:=(C,oC2)) (Zz3 _ Zz5)
    have nC3:g₄.Ns C m₂:=hC2.ns gC3
    refine assignInOrder_cons (wpAny_assign_Name (wpAny_storeName_local (lookup_relabel_local hx) nC3 (fun h5 hn5 sb5=>?_) (by simp[compEnvC,relabel,hkind])))
    refine assignInOrder_cons (wpAny_assign_Name (wpAny_storeName_local (lookup_relabel_local hx₂) hn5 (fun h6 hn6 sb6=>?_) (by simp[compEnvC,relabel,hkind])))
    refine assignInOrder_cons (wpAny_assign_Name (wpAny_storeName_local (lookup_relabel_local hx₃) hn6 (fun h4 hn4 sb4=>?_) (by simp[compEnvC,relabel,hkind])))
    refine assignInOrder_nil ?_
    obtain⟨oC4,gC4,nC4⟩:=ns_obj hn4
    have r3':Rep Γ W2 ρ H2 ([(C,oC2)]++((D,lst ys)::(fs3++fr))) g₄:=r3g.less fun q hq=>by
     rcases Zz8.mp hq with hq | hq
     ·rw[List.mem_singleton.mp hq]
      exact Zz3 _ Zz5
     ·rcases Zz7.mp hq with e | hq
      ·exact e▸List.mem_append_right _ (Zz2 _ Zz5)
      ·rcases Zz8.mp hq with hq | hq
       ·exact Zz4 _ hq
       ·exact Zz3 _ (Zz2 _ (Zz2 _ hq))
    have aC3:∀t∈(D,lst ys)::(fs3++fr),C≠t.1:=fun t ht=>by
     rcases Zz7.mp ht with e | ht
     ·rw[e]
      exact cd
     ·rcases Zz8.mp ht with ht | ht
      ·exact(offs _ (a3 t ht)).2.symm
      ·exact cfr t ht
    have aD3:∀t∈fs3++fr,D≠t.1:=fun t ht=>by
     rcases Zz8.mp ht with ht | ht
     ·exact(offs _ (a3 t ht)).1.symm
     ·exact dfr t ht
    have r4:Rep Γ W2 ρ H2 ([(C,oC4)]++((D,lst ys)::(fs3++fr))) h4:=by
     refine r3'.swap (fun q hq t ht=>?_) (fun b o hb e=>sb4.extBut b o (fun z=>hb (by simp[z,compEnvC])) (sb6.extBut b o (fun z=>hb (by simp[z,compEnvC])) (sb5.extBut b o (fun z=>hb (by simp[z,compEnvC])) e))) fun q hq=>?_
     ·rw[List.mem_singleton.mp hq]
      exact aC3 t ht
     ·rw[List.mem_singleton.mp hq]
      exact⟨gC4,by simp⟩
    refine wpAny_bind (wpAny_mono (Zih (hel C ρ) (hif C ρ) ⟨h4,_,rfl⟩ aC3 aD3 l2 i3 nC4 hv2 hl2 r4 (fun p hp=>?_) (fun i hi=>?_) e) (fun b s5 h5=>?_) fun _ _ q=>q)
    rotate_left 2
    ·by_cases hb:b=true
     ·subst hb
      rw[if_pos rfl]at h5 ⊢
      refine wpAny_bind (wpAny_bind (wpAny_mono h5 (fun y s6 h6=>?_) fun _ _ q=>q))
      exact wpAny_bind (wpAny_mono h6 (fun _ s7 h7=>wpAny_pure (wpAny_pure ⟨rfl,h7⟩)) fun _ _ q=>q)
     ·rw[if_neg hb]at h5 ⊢
      exact wpAny_pure ⟨rfl,h5⟩
    ·simp only[List.mem_cons,List.not_mem_nil,or_false]at hp
     rcases hp with rfl | rfl | rfl
     ·exact⟨va,y1,by simp[upd,htt.1,htt.2.1],by simp[hxx.1,hxx.2.1],w1⟩
     ·exact⟨vb,y2,by simp[upd,htt.2.2],by simp[hxx.2.2],w2⟩
     ·exact⟨vc,y3,by simp[upd],by simp,w3⟩
    ·have h1:i≠t:=fun e=>hi (x,t) (by simp) e.symm
     have h2:i≠t₂:=fun e=>hi (x₂,t₂) (by simp) e.symm
     have h3:i≠t₃:=fun e=>hi (x₃,t₃) (by simp) e.symm
     simp[upd,h1,h2,h3]
 refine codeAny_compStart_list (loop _ rfl) ?_
 exact I1.self 0 W1 ρ H0 (([(C,oC)]++[(D,lst [])])++fr) fs _ _ _ (.refl _) (rC.less fun q hq=>by
  rcases Zz8.mp hq with hq | hq
  ·exact Zz3 _ (Zz3 _ (Zz4 _ hq))
  ·rcases Zz8.mp hq with hq | hq
   ·rcases Zz8.mp hq with hq | hq
    ·exact Zz4 _ hq
    ·exact Zz3 _ (Zz4 _ hq)
   ·exact Zz3 _ (Zz3 _ (Zz3 _ hq))) i1 (loop _ rfl)
theorem ZlS{elt iter:Expr}{x x₂ x₃:Str}{px px₂ px₃ tp:Pos}{kt:Nat}{ifs:List Expr}{scope:Scope}{pos:Pos}{cl:List (Str×Addr)}{t t₂ t₃:Nat}{g:Src}{c:Ts}{f:Ex}(hg:JIL prog w Γ iter g)(hel:∀C ρ,J prog w (ZaS Γ scope cl C [(x,t),(x₂,t₂),(x₃,t₃)] ρ) elt f)(hif:∀C ρ,JF prog w (ZaS Γ scope cl C [(x,t),(x₂,t₂),(x₃,t₃)] ρ) ifs c)
  (hclos:closureFor scope Γ.env=pure cl) (hcell:∀y∈scope.names,y.2≠.cell) (hkind:scope.kind=.function) (hnames:∀y∈scope.names,y.2=.local→scope.names.lookup y.1=some .local) (hx:scope.names.lookup x=some .local) (hx₂:scope.names.lookup x₂=some .local) (hx₃:scope.names.lookup x₃=some .local) (hxx:x≠x₂∧x≠x₃∧x₂≠x₃) (htt:t≠t₂∧t≠t₃∧t₂≠t₃) (hs:∀x,foldedSetIterable iter Γ.env x=pure x:=by intro _;rfl):
  J prog w Γ (.ListComp elt [⟨.Tuple [.Name x px,.Name x₂ px₂,.Name x₃ px₃] kt tp,iter,ifs,0⟩] scope pos) (ZaX g (Zb7 t t₂ t₃) c f):=by
 intro W ρ H fr s Q E v H' r hf post
 obtain⟨z,e1,hf⟩:=Zz0.mp hf
 obtain⟨q,e2,e3⟩:=Zz1.mp hf
 cases e3
 rw[eval_ListComp]
 refine wpAny_comprehension_free (use:=Option.none) rfl hs hclos hkind hnames ?_
 refine Zj7 (RR:=fun acc C=>compPost (model prog w) Γ.A E Option.none Q acc C) hg hel hif hcell hkind hx hx₂ hx₃ hxx htt r (q:=q) (by rw[e1];exact e2) fun W2 h' tk' C D oC m₂ ys l2 hC hv hl aD aC cd r3=>?_
 refine⟨m₂,hC.ns (r3.frAt (q:=(C,oC)) Zz5),fun h'' sb=>?_⟩
 obtain⟨W5,l5,r5,v5⟩:=ZgZ hv hl aD aC cd r3 sb
 exact post W5 h'' tk' _ (l2.trans l5) r5 v5
end
end PM
end
section
namespace TM
open PySem PM
noncomputable def Zet(i j k:Nat): T→TL→Option TL
 | .tup [a,b,c],σ=>some (updT (updT (updT σ i a) j b) k c)
 | _,_=>none
theorem Zj8{i j k:Nat}{t:T}{σ σ':TL}(h:Zet i j k t σ=some σ'): ∃a b c,t=.tup [a,b,c]∧σ'=updT (updT (updT σ i a) j b) k c:=by
 unfold Zet at h
 split at h
 ·cases h;exact⟨_,_,_,rfl,rfl⟩
 ·cases h
theorem St.putOwn{c:Ctx}{O:List Nat}{ρ:Lc}{σ:TL}{H:Hp}{Φ:Nat→List Nat}(s:St c O ρ σ H Φ){i:Nat}{v:V}{t:T}{F:List Nat}(r:RF H v t F)(nd:F.Nodup)(hsrc:∀a∈F,c.H0.length≤a∨c.P a)(hnew:∀a∈F,c.H0.length≤a∨a∈c.F0)(hoff:∀n u,n≠i→σ n=some u→∀a∈F,a∉Φ n): St c (i::O) (upd ρ i v) (updT σ i t) H (Zp Φ i F):=by
 refine⟨fun k t' e'=>?_,fun k t' e'=>?_,fun k hk t' e'=>?_,s.len,s.keep,s.pos,s.f0⟩
 ·by_cases q:k=i
  ·subst q
   simp[updT]at e'
   subst e'
   exact⟨v,by simp[upd],by simpa [Zp]using r⟩
  ·simp[updT,q]at e'
   simpa [upd,Zp,q]using s.slot k t' e'
 ·by_cases q:k=i
  ·subst q;simpa [Zp]using hsrc
  ·simp[updT,q]at e'
   simpa [Zp,q]using s.src k t' e'
 ·by_cases q:k=i
  ·subst q
   simp only[Zp,if_true]
   refine⟨nd,hnew,fun j w hj ej a m=>?_⟩
   simp[updT,hj]at ej
   rw[if_neg hj]
   exact hoff j w hj ej a m
  ·have hk':k∈O:=(Zz7.mp hk).resolve_left q
   simp[updT,q]at e'
   obtain⟨o1,o2,o3⟩:=s.own k hk' t' e'
   refine⟨by simpa [Zp,q]using o1,by simpa [Zp,q]using o2,fun j w hj ej a m=>?_⟩
   simp[Zp,q]at m
   by_cases q2:j=i
   ·subst q2
    simp only[Zp,if_true]
    intro m2
    exact hoff k t' q e' a m2 m
   ·simp[updT,q2]at ej
    simpa [Zp,q2]using o3 j w hj ej a m
theorem St.drop{c:Ctx}{O:List Nat}{ρ:Lc}{σ:TL}{H:Hp}{Φ:Nat→List Nat}(s:St c O ρ σ H Φ)(x:Nat): St c O ρ (ZA σ x) H Φ:=by
 have o:∀k t,ZA σ x k=some t→k≠x∧σ k=some t:=fun k t e=>by
  unfold ZA at e
  split at e
  ·cases e
  ·rename_i q;exact⟨q,e⟩
 exact⟨fun k t e=>s.slot k t (o k t e).2,fun k t e=>s.src k t (o k t e).2,fun k hk t e=>by
  obtain⟨o1,o2,o3⟩:=s.own k hk t (o k t e).2
  exact⟨o1,o2,fun j w hj ej=>o3 j w hj (o j w ej).2⟩,s.len,s.keep,s.pos,s.f0⟩
theorem RF.grown{H K:Hp}{v:V}{t:T}{F:List Nat}(r:RF H v t F)(h:∀b,b<H.length→K[b]?=H[b]?): RF K v t F:=r.frame fun a m=>h a (r.lt a m)
theorem St.grown{c:Ctx}{O:List Nat}{ρ:Lc}{σ:TL}{H K:Hp}{Φ:Nat→List Nat}(s:St c O ρ σ H Φ)(hl:H.length≤K.length)(h:∀b,b<H.length→K[b]?=H[b]?): St c O ρ σ K Φ:=
 ⟨fun k t e=>by obtain⟨v,h1,h2⟩:=s.slot k t e;exact⟨v,h1,h2.grown h⟩,s.src,s.own,Nat.le_trans s.len hl,fun a ha hn=>by rw[h a (Nat.lt_of_lt_of_le ha s.len)];exact s.keep a ha hn,s.pos,s.f0⟩
theorem St.parts3{c:Ctx}{O:List Nat}{ρ:Lc}{σ:TL}{H:Hp}{Φ:Nat→List Nat}{x i j k:Nat}{tx:T}(s:St c O ρ σ H Φ)(hx:x∈O)(ex:σ x=some tx)(hij:i≠j)(hik:i≠k)(hjk:j≠k){va vb vc:V}{ta tb tc:T}{Fa Fb Fc:List Nat}(ra:RF H va ta Fa)(rb:RF H vb tb Fb)(rc:RF H vc tc Fc)(nd:(Fa++(Fb++Fc)).Nodup)(sub:∀a∈Fa++(Fb++Fc),a∈Φ x):
  St c [k,j,i] (upd (upd (upd ρ i va) j vb) k vc) (updT (updT (updT (ZA σ x) i ta) j tb) k tc) H (Zp (Zp (Zp Φ i Fa) j Fb) k Fc):=by
 obtain⟨o1,o2,o3⟩:=s.own x hx tx ex
 have old:∀n u,ZA σ x n=some u→n≠x∧σ n=some u:=fun n u e=>by
  unfold ZA at e
  split at e
  ·cases e
  ·rename_i q;exact⟨q,e⟩
 rw[List.nodup_append]at nd
 obtain⟨na,nbc,dab⟩:=nd
 rw[List.nodup_append]at nbc
 obtain⟨nb,nc,dbc⟩:=nbc
 have ia:∀a∈Fa,a∈Φ x:=fun a m=>sub a (Zz4 _ m)
 have ib:∀a∈Fb,a∈Φ x:=fun a m=>sub a (Zz3 _ (Zz4 _ m))
 have ic:∀a∈Fc,a∈Φ x:=fun a m=>sub a (Zz3 _ (Zz3 _ m))
 have s1:=((s.drop x).less (O':=[]) (by simp)).putOwn (i:=i) ra na (fun a m=>s.src x tx ex a (ia a m)) (fun a m=>o2 a (ia a m)) (fun n u hn e a m=>by
  obtain⟨q,e⟩:=old n u e
  exact o3 n u q e a (ia a m))
 have s2:=s1.putOwn (i:=j) rb nb (fun a m=>s.src x tx ex a (ib a m)) (fun a m=>o2 a (ib a m)) (fun n u hn e a m=>by
  by_cases q:n=i
  ·subst q
   simp only[Zp,if_true]
   exact fun m2=>dab a m2 a (Zz4 _ m) rfl
  ·simp[updT,q]at e
   obtain⟨q2,e⟩:=old n u e
   simp only[Zp,q,if_false]
   exact o3 n u q2 e a (ib a m))
 exact s2.putOwn (i:=k) rc nc (fun a m=>s.src x tx ex a (ic a m)) (fun a m=>o2 a (ic a m)) (fun n u hn e a m=>by
  by_cases q:n=j
  ·subst q
   simp only[Zp,if_true]
   exact fun m2=>dbc a m2 a m rfl
  ·by_cases q2:n=i
   ·subst q2
    simp only[Zp,q,if_false,if_true]
    exact fun m2=>dab a m2 a (Zz3 _ m) rfl
   ·simp[updT,q,q2]at e
    obtain⟨q3,e⟩:=old n u e
    simp only[Zp,q,q2,if_false]
    exact o3 n u q3 e a (ic a m))
noncomputable def ZfJ(x:Nat)(put:T→TL→Option TL)(c:PB)(f:PE): PE:=fun σ=>(σ x).bind fun t=>match t with
 | .lst ts=>if ts.length≤ZN then(ZbA put c f (ZA σ x) ts).map .lst else none
 | _=>none
theorem RF.tup3{H:Hp}{v:V}{a b c:T}{F:List Nat}(r:RF H v (.tup [a,b,c]) F): ∃va vb vc Fa Fb Fc,v=.tup [va,vb,vc]∧RF H va a Fa∧RF H vb b Fb∧RF H vc c Fc∧F=Fa++(Fb++Fc):=by
 cases r with
 | tup h=>
  cases h with
  | cons h1 h=>
   cases h with
   | cons h2 h=>
    cases h with
    | cons h3 h=>
     cases h
     exact⟨_,_,_,_,_,_,rfl,h1,h2,h3,by simp⟩
section
variable {O Ne:List Nat} {x i j k:Nat}
theorem ZgO{tc:Ts}{pc:PB}{f:Ex}{pf:PE}(hij:i≠j)(hik:i≠k)(hjk:j≠k)(hc:Bt [] tc pc)(hf:E [k,j,i] Ne true f pf)(hNe:∀n∈Ne,n=i∨n=j∨n=k)
  {c:Ctx} {ρ:Lc} {σ:TL} {Φ:Nat→List Nat} {H:Hp} {a:Nat} {vs:List V} {tx:T} (s:St c O ρ σ H Φ) (hx:x∈O) (ex:σ x=some tx) (ha:H[a]?=some vs):
  ∀(rs:List T) (ws:List V) (n:Nat) (acc:List V) (K:Hp) (Fr:List Nat) (out:List T),(∀m,vs[n+m]?=ws[m]?)→H.length≤K.length→(∀b,b<H.length→K[b]?=H[b]?)→RFs K ws rs Fr→Fr.Nodup→(∀b∈Fr,b∈Φ x)→acc.length+rs.length≤ZN→ZbA (Zet i j k) pc pf (ZA σ x) rs=some out →
   ∃xs X F,ZaL (Zbw a) (Zb7 i j k) tc f ρ (rs.length+1) n acc K=some (acc++xs,K++X)∧RFs (K++X) xs out F∧(∀b∈F,K.length≤b∨b∈Fr)∧F.Nodup
 | [],ws,n,acc,K,Fr,out,hat,hl,hk,r,nd,sub,hacc,h=>by
  cases r
  cases h
  have e2:vs[n]?=none:=by have:=hat 0;simpa using this
  refine⟨[],[],[],?_,.nil,by simp,by simp⟩
  have hlt:a<H.length:=(Zz6.mp ha).1
  simp[ZaL,Zbw,hk a hlt,ha,e2]
 | t::rs,ws0,n,acc,K,Fr0,out,hat,hl,hk,r,nd,sub,hacc,h=>by
  cases r with
  | @cons v _ F1 ws _ F2 r1 r2=>
  simp only[List.length_cons]at hacc
  obtain⟨σ1,h1,h⟩:=Zz0.mp h
  obtain⟨bb,h2,h⟩:=Zz0.mp h
  obtain⟨ta,tb,tc',rfl,rfl⟩:=Zj8 h1
  obtain⟨va,vb,vc,Fa,Fb,Fc,rfl,ra,rb,rc,rfl⟩:=r1.tup3
  have hlt:a<H.length:=(Zz6.mp ha).1
  have e:Zbw a n K=some (some (.tup [va,vb,vc])):=by
   have:=hat 0
   simp only[Nat.add_zero,List.getElem?_cons_zero]at this
   simp[Zbw,hk a hlt,ha,this]
  have hat':∀m,vs[n+1+m]?=ws[m]?:=fun m=>by have:=hat (m+1);rw[show n+1+m=n+(m+1)by omega,this];simp
  rw[List.nodup_append]at nd
  obtain⟨nd1,nd2,dis⟩:=nd
  have s1:=(s.grown hl hk).parts3 hx ex hij hik hjk ra rb rc nd1 (fun b m=>sub b (Zz4 _ m))
  obtain⟨X1,c1⟩:=hc c _ _ K _ bb (s1.less (by simp)) h2
  have inF:∀m∈Ne,∀b,b∈Zp (Zp (Zp Φ i Fa) j Fb) k Fc m→b∈Fa++(Fb++Fc):=fun m hm b hb=>by
   rcases hNe m hm with rfl | rfl | rfl
   ·simp[Zp,hij,hik]at hb;simp[hb]
   ·simp[Zp,hjk]at hb;simp[hb]
   ·simp[Zp]at hb;simp[hb]
  cases bb with
  | true=>
   obtain⟨y,h3,h⟩:=Zz0.mp h
   obtain⟨ys,h4,h⟩:=Zz1.mp h
   subst h
   obtain⟨w,X2,Fw,d1,d2,d3,d4⟩:=hf c _ _ (K++X1) _ y (s1.ext X1) h3
   have hk2:∀b,b<H.length→(K++X1++X2)[b]?=H[b]?:=fun b hb=>by
    rw[List.append_assoc,List.getElem?_append_left (by omega)];exact hk b hb
   obtain⟨xs,X3,F3,f1,f2,f3,f4⟩:=ZgO hij hik hjk hc hf hNe s hx ex ha rs ws (n+1) (acc++[w]) (K++X1++X2) F2 ys hat' (by simp;omega) hk2 (by rw[List.append_assoc];exact r2.ext _) nd2 (fun b m=>sub b (Zz3 _ m)) (by simp;omega) h4
   have hFw:∀b∈Fw,K.length≤b∨b∈Fa++(Fb++Fc):=fun b m=>by
    rcases d3 b m with q | ⟨m',hm',_,mb⟩
    ·exact .inl (by simp at q;omega)
    ·exact .inr (inF m' hm' b mb)
   refine⟨w::xs,X1++X2++X3,Fw++F3,?_,?_,fun b m=>?_,?_⟩
   ·rw[List.length_cons,ZaL,e]
    simp only[Option.bind_some,Zb7,c1,d1,if_true]
    rw[if_pos (by omega)]
    simpa using f1
   ·have:=RFs.cons (d2.ext X3) f2
    simpa using this
   ·rcases Zz8.mp m with m | m
    ·exact(hFw b m).imp id fun q=>List.mem_append_left _ q
    ·exact(f3 b m).imp (fun q=>by simp at q;omega) fun q=>List.mem_append_right _ q
   ·rw[List.nodup_append]
    refine⟨d4 rfl,f4,fun b hb b' hb' e=>?_⟩
    subst e
    have l1:=d2.lt b hb
    rcases f3 b hb' with q | q
    ·omega
    ·rcases hFw b hb with q2 | q2
     ·have:=r2.lt b q;omega
     ·exact dis b q2 b q rfl
  | false=>
   have hk2:∀b,b<H.length→(K++X1)[b]?=H[b]?:=fun b hb=>by
    rw[List.getElem?_append_left (by omega)];exact hk b hb
   obtain⟨xs,X3,F3,f1,f2,f3,f4⟩:=ZgO hij hik hjk hc hf hNe s hx ex ha rs ws (n+1) acc (K++X1) F2 out hat' (by simp;omega) hk2 (r2.ext _) nd2 (fun b m=>sub b (Zz3 _ m)) (by omega) (by simpa using h)
   refine⟨xs,X1++X3,F3,?_,by simpa using f2,fun b m=>?_,f4⟩
   ·rw[List.length_cons,ZaL,e]
    simp only[Option.bind_some,Zb7,c1]
    simpa using f1
   ·exact(f3 b m).imp (fun q=>by simp at q;omega) fun q=>List.mem_append_right _ q
theorem E.take{tc:Ts}{pc:PB}{f:Ex}{pf:PE}(hx:x∈O)(hijk:i≠j∧i≠k∧j≠k)(hc:Bt [] tc pc)(hf:E [k,j,i] Ne true f pf)(hNe:∀n∈Ne,n=i∨n=j∨n=k): E O [x] true (ZaX (ZfS (Zb x)) (Zb7 i j k) tc f) (ZfJ x (Zet i j k) pc pf):=fun c ρ σ H Φ t s h=>by
 obtain⟨tx,ex,h⟩:=Zz0.mp h
 split at h
 ·rename_i ts
  split at h
  ·rename_i hl
   obtain⟨out,h2,h⟩:=Zz1.mp h
   subst h
   obtain⟨v,ev,rv⟩:=s.slot x _ ex
   obtain⟨o1,o2,o3⟩:=s.own x hx _ ex
   generalize hΦ:Φ x=Fx at *
   cases rv with
   | @ref a vs _ F ha rs=>
    rw[List.nodup_cons]at o1
    obtain⟨xs,X,F',f1,f2,f3,f4⟩:=ZgO (O:=O) (x:=x) (Φ:=Φ) hijk.1 hijk.2.1 hijk.2.2 hc hf hNe s hx ex ha ts vs 0 [] H F out (by simp) (Zz10 _) (fun _ _=>rfl) rs o1.2 (fun b m=>by rw[hΦ];exact Zz2 _ m) (by simpa using hl) h2
    have hvl:=rs.length
    refine⟨.ref (H++X).length,X++[xs],(H++X).length::F',?_,?_,fun b m=>?_,fun _=>?_⟩
    ·simp only[ZaX,ZfS,Zb,ev,Option.map_some,Option.bind_some,ha,hvl,f1,List.nil_append,List.append_assoc]
    ·have:=Zcn f2
     simpa using this
    ·rcases Zz7.mp m with rfl | m
     ·exact .inl (by simp)
     ·rcases f3 b m with q | q
      ·exact .inl q
      ·exact .inr ⟨x,List.mem_cons_self,⟨_,ex⟩,by rw[hΦ];exact Zz2 _ q⟩
    ·rw[List.nodup_cons]
     exact⟨fun m=>Nat.lt_irrefl _ (f2.lt _ m),f4⟩
  ·cases h
 ·cases h
end
end TM
end
section
namespace TM
open PySem PM
noncomputable def ZdI(x:Nat)(N:List Nat)(p:PE): PS:=fun σ=>(p σ).bind fun w=>(σ x).bind fun t=>match t,w with
 | .lst ts,.lst us=>if ts.length+us.length≤ZN then some (none,Zaz (updT σ x (.lst (ts++us))) N)else none
 | _,_=>none
section
variable {O O' R:List Nat} {fr:Bool}
theorem S.extL{x:Nat}{N:List Nat}{e:Ex}{p:PE}(hx:x∈O)(z:E O N true e p)(hN:∀j∈N,j∈O∧j≠x)(hO:∀j∈O',j∈O∧j∉N): S O O' R fr (Zaf (Zd9 (Zb x) e)) (ZdI x N p):=fun c ρ σ H Φ r s q=>by
 obtain⟨w,h2,q⟩:=Zz0.mp q
 obtain⟨t,h3,q⟩:=Zz0.mp q
 split at q
 ·rename_i ts us _
  split at q
  ·rename_i hl
   cases q
   obtain⟨v,ev,rv⟩:=s.slot x _ h3
   obtain⟨o1,o2,o3⟩:=s.own x hx _ h3
   have hlow:∀k t,σ k=some t→∀a∈Φ k,a<H.length:=fun k t e a m=>by
    obtain⟨_,_,r⟩:=s.slot k t e
    exact r.lt a m
   obtain⟨vw,X,Fw,b1,b2,b3,b4⟩:=z c ρ σ H Φ _ s h2
   have hFw:∀a∈Fw,H.length≤a∨∃j∈N,(∃t,σ j=some t)∧a∈Φ j:=b3
   have dsj:∀a∈Fw,a∉Φ x:=fun a m q=>by
    rcases hFw a m with h | ⟨j,hj,⟨tj,ej⟩,mj⟩
    ·have:=hlow x _ h3 a q;omega
    ·exact o3 j tj (hN j hj).2 ej a q mj
   have nw:=b4 rfl
   generalize hΦ:Φ x=Fx at *
   cases rv with
   | @ref a vs _ G ea hs=>
    cases b2 with
    | @ref b ws _ G2 eb hs2=>
     have ab:a≠b:=fun q=>dsj b Zz5 (q▸List.mem_cons_self)
     have aG2:a∉G2:=fun m=>dsj a (Zz2 _ m) Zz5
     rw[List.nodup_cons]at o1 nw
     have aH:a<H.length:=(Zz6.mp ea).1
     have ea2:(H++X)[a]?=some vs:=by rw[List.getElem?_append_left aH];exact ea
     have r':RF ((H++X).set a (vs++ws)) (.ref a) (.lst (ts++us)) (a::(G++G2)):=by
      refine .ref (List.getElem?_set_self (by simp;omega)) (RFs.append ((hs.ext X).frame fun y hy=>List.getElem?_set_ne fun q=>o1.1 (by rw[q];exact hy)) (hs2.frame fun y hy=>List.getElem?_set_ne fun q=>aG2 (by rw[q];exact hy)))
     have nd:(a::(G++G2)).Nodup:=by
      rw[List.nodup_cons,List.nodup_append]
      refine⟨fun m=>(Zz8.mp m).elim o1.1 aG2,o1.2,nw.2,fun y hy y' hy' e=>?_⟩
      subst e
      exact dsj y (Zz2 _ hy') (Zz2 _ hy)
     have sub:∀y∈a::(G++G2),y∈Φ x∨y∈b::G2:=fun y hy=>by
      rw[hΦ]
      rcases Zz7.mp hy with rfl | hy
      ·exact .inl Zz5
      ·exact(Zz8.mp hy).imp (Zz2 _) (Zz2 _)
     obtain⟨st,com⟩:=Zhp (O':=O') (b:=H.length) (s.ext X) hx h3 ev s.len hlow hFw hN (by rw[hΦ];exact Zz5) r' nd sub hO
     refine⟨ρ,(H++X).set a (vs++ws),Zp Φ x (a::(G++G2)),by simp,fun y hy hn=>?_,.inl ⟨rfl,?_,st,com⟩⟩
     ·have:a≠y:=fun q=>hn ⟨x,hx,⟨_,h3⟩,by rw[hΦ];exact q▸List.mem_cons_self⟩
      rw[List.getElem?_set_ne this,List.getElem?_append_left hy]
     ·have l1:=hs.length
      have l2:=hs2.length
      have a0:=Zhd s hx h3 (a:=a) (by rw[hΦ];exact Zz5)
      simp only[Zaf,Zd9,Zb,ev,Option.map_some,Option.bind_some,b1,Zfj,ea2,eb]
      rw[if_pos ⟨a0,ab,by omega⟩]
      rfl
  ·cases q
 ·cases q
noncomputable def Zc5(x:Nat)(qb:PS)(σ:TL): List T→Option (List T)
 | []=>some []
 | t::ts=>(qb (updT σ x t)).bind fun r=>(r.2 x).bind fun t'=>(Zc5 x qb σ ts).map (t'::·)
noncomputable def Zdu(c x:Nat)(qb:PS): PS:=fun σ=>(σ c).bind fun t=>match t with
 | .lst ts=>(Zc5 x qb (ZA (ZA σ c) x) ts).map fun us=>(none,ZA (updT σ c (.lst us)) x)
 | _=>none
theorem ZhE{σ:TL}{c x k:Nat}{u:T}(e:ZA (ZA σ c) x k=some u): k≠x∧k≠c∧σ k=some u:=by
 unfold ZA at e
 split at e
 ·cases e
 ·rename_i q
  split at e
  ·cases e
  ·rename_i q2;exact⟨q,q2,e⟩
theorem Zia{c0 x:Nat}{b:Sm}{qb:PS}(hcx:c0≠x)(hb:S [x] [x] R fr b qb)(hK:∀ρ H r,b ρ H=some r→r.1=none∧r.2.1=ρ)(hq:∀σ r,qb σ=some r→∃t',r=(none,updT σ x t'))
  {c:Ctx} {ρ0:Lc} {σ:TL} {Φ:Nat→List Nat} {H:Hp} {a:Nat} {vs:List V} {ts0:List T} {F0:List Nat} (s:St c O ρ0 σ H Φ) (hc:c0∈O) (ex:σ c0=some (.lst ts0)) (hΦ:Φ c0=a::F0) (ha:H[a]?=some vs) (na:a∉F0):
  ∀(rs:List T) (dvs ws:List V) (dts:List T) (K:Hp) (ρ:Lc) (Fd Fr:List Nat) (out:List T),vs=dvs++ws→H.length≤K.length→(∀y,y<H.length→y∉Φ c0→K[y]?=H[y]?)→K[a]?=some vs→(∀i,i≠x→ρ i=ρ0 i) →
   RFs K dvs dts Fd→Fd.Nodup→a∉Fd→(∀y∈Fd,y∉Fr)→(∀y∈Fd,y∈F0∨H.length≤y)→RFs K ws rs Fr→Fr.Nodup→(∀y∈Fr,y∈F0)→Zc5 x qb (ZA (ZA σ c0) x) rs=some out →
   ∃ρ' K' F',ZaW (Zbw a) (put1 x) b (rs.length+1) dvs.length ρ K=some (none,ρ',K')∧H.length≤K'.length∧(∀y,y<H.length→y∉Φ c0→K'[y]?=H[y]?)∧K'[a]?=some vs∧(∀i,i≠x→ρ' i=ρ0 i)∧RFs K' vs (dts++out) F'∧F'.Nodup∧a∉F'∧(∀y∈F',y∈F0∨H.length≤y)
 | [],dvs,ws,dts,K,ρ,Fd,Fr,out,ev,hl,hk,hka,hρ,rd,nd,nad,dis,subd,rw',ndr,subr,h=>by
  cases rw'
  cases h
  refine⟨ρ,K,Fd,?_,hl,hk,hka,hρ,by simpa [ev]using rd,nd,nad,subd⟩
  have:vs[dvs.length]?=none:=by rw[ev];simp
  simp[ZaW,Zbw,hka,this]
 | t::rs,dvs,ws0,dts,K,ρ,Fd,Fr0,out,ev,hl,hk,hka,hρ,rd,nd,nad,dis,subd,rw',ndr,subr,h=>by
  cases rw' with
  | @cons v _ F1 ws _ F2 r1 r2=>
  obtain⟨r,h1,h⟩:=Zz0.mp h
  obtain⟨t',h2,h⟩:=Zz0.mp h
  obtain⟨us,h3,h⟩:=Zz1.mp h
  subst h
  obtain⟨t2,rfl⟩:=hq _ _ h1
  simp[updT]at h2
  subst h2
  obtain⟨o1,o2,o3⟩:=s.own c0 hc _ ex
  rw[List.nodup_append]at ndr
  obtain⟨n1,n2,d12⟩:=ndr
  have sub1:∀y∈F1,y∈Φ c0:=fun y m=>by rw[hΦ];exact Zz2 _ (subr y (Zz4 _ m))
  have s0:St c [] ρ (ZA (ZA σ c0) x) K Φ:=by
   refine⟨fun k u e=>?_,fun k u e=>s.src k u (ZhE e).2.2,(fun k hk=>(List.not_mem_nil hk).elim),Nat.le_trans s.len hl,fun y hy hn=>?_,s.pos,s.f0⟩
   ·obtain⟨q1,q2,e⟩:=ZhE e
    obtain⟨w,e1,e2⟩:=s.slot k u e
    refine⟨w,(hρ k q1).trans e1,e2.frame fun y m=>hk y (e2.lt y m) fun m2=>o3 k u q2 e y m2 m⟩
   ·have hyH:=Nat.lt_of_lt_of_le hy s.len
    rw[hk y hyH fun m=>(o2 y m).elim (fun q=>by omega) hn]
    exact s.keep y hy hn
  have s1:=s0.putOwn (i:=x) r1 n1 (fun y m=>s.src c0 _ ex y (sub1 y m)) (fun y m=>o2 y (sub1 y m)) (fun n u hn e y m=>by
   obtain⟨q1,q2,e⟩:=ZhE e
   exact o3 n u q2 e y (sub1 y m))
  obtain⟨ρ1,H1,Φ1,g1,g2,g3⟩:=hb c _ _ K _ _ s1 h1
  have held:∀y,Held [x] (updT (ZA (ZA σ c0) x) x t) (Zp Φ x F1) y→y∈F1:=fun y hy=>by
   obtain⟨j,hj,_,m⟩:=hy
   rw[List.mem_singleton.mp hj]at m
   simpa [Zp]using m
  have keep:∀y,y<K.length→y∉F1→H1[y]?=K[y]?:=fun y hy hn=>g2 y hy fun q=>hn (held y q)
  rcases g3 with⟨_,k2,k3,k4⟩ | ⟨t9,v9,F9,k1,_⟩
  ·obtain⟨_,e9⟩:=hK _ _ _ k2
   simp only at e9
   subst e9
   obtain⟨w,w1,w2⟩:=k3.slot x t2 (by simp[updT])
   simp[upd]at w1
   subst w1
   obtain⟨p1,p2,p3⟩:=k3.own x (by simp) t2 (by simp[updT])
   have new:∀y∈Φ1 x,K.length≤y∨y∈F1:=fun y m=>(k4 y ⟨x,by simp,⟨t2,by simp[updT]⟩,m⟩).imp id fun q=>held y q
   have aF1:a∉F1:=fun m=>na (subr a (Zz4 _ m))
   have aK:a<K.length:=(Zz6.mp hka).1
   have rd':RFs H1 dvs dts Fd:=rd.frame fun y m=>keep y (rd.lt y m) fun q=>dis y m (Zz4 _ q)
   have r2':RFs H1 ws rs F2:=r2.frame fun y m=>keep y (r2.lt y m) fun q=>d12 y q y m rfl
   have ih:=Zia hcx hb hK hq s hc ex hΦ ha na rs (dvs++[v]) ws (dts++[t2]) H1 (upd ρ x v) (Fd++Φ1 x) F2 us (by rw[ev];simp) (by omega) (fun y hy hn=>by
     rw[keep y (by omega) fun m=>hn (sub1 y m)]
     exact hk y hy hn) (by rw[keep a aK aF1];exact hka) (fun i hi=>by simp[upd,hi];exact hρ i hi) (rd'.snoc w2) (by
     rw[List.nodup_append]
     refine⟨nd,p1,fun y hy y' hy' e=>?_⟩
     subst e
     rcases new y hy' with q | q
     ·have:=rd.lt y hy;omega
     ·exact dis y hy (Zz4 _ q)) (fun m=>(Zz8.mp m).elim nad fun m=>(new a m).elim (fun q=>by omega) aF1) (fun y m m2=>(Zz8.mp m).elim (fun m=>dis y m (Zz3 _ m2)) fun m=>(new y m).elim (fun q=>by have:=r2.lt y m2;omega) fun q=>d12 y q y m2 rfl) (fun y m=>(Zz8.mp m).elim (subd y) fun m=>(new y m).elim (fun q=>.inr (by omega)) fun q=>.inl (subr y (Zz4 _ q))) r2' n2 (fun y m=>subr y (Zz3 _ m)) h3
   obtain⟨ρ',K',F',f1,f2⟩:=ih
   refine⟨ρ',K',F',?_,by simpa using f2⟩
   have e5:vs[dvs.length]?=some v:=by rw[ev];simp
   rw[List.length_cons,ZaW]
   simp only[Zbw,hka,Option.map_some,e5,Option.bind_some,put1,k2]
   simpa using f1
  ·cases k1
theorem S.each{c0 x:Nat}{b:Sm}{qb:PS}(hc:c0∈O)(hx:x∉O)(hb:S [x] [x] R fr b qb)(hK:∀ρ H r,b ρ H=some r→r.1=none∧r.2.1=ρ)(hq:∀σ r,qb σ=some r→∃t',r=(none,updT σ x t')): S O O R fr (ZaE (Za4 (Zb c0)) (put1 x) b) (Zdu c0 x qb):=fun c ρ σ H Φ r s q=>by
 obtain⟨tx,ex,h⟩:=Zz0.mp q
 split at h
 ·rename_i ts
  obtain⟨us,h2,h⟩:=Zz1.mp h
  subst h
  have hcx:c0≠x:=fun q=>hx (q▸hc)
  obtain⟨v,ev,rv⟩:=s.slot c0 _ ex
  obtain⟨o1,o2,o3⟩:=s.own c0 hc _ ex
  generalize hΦ:Φ c0=Fx at rv o1
  cases rv with
  | @ref a vs _ F ha rs=>
   rw[List.nodup_cons]at o1
   obtain⟨ρ',K',F',f1,f2,f3,f4,f5,f6,f7,f8,f9⟩:=Zia hcx hb hK hq s hc ex hΦ ha o1.1 ts [] vs [] H ρ [] F us rfl (Zz10 _) (fun _ _ _=>rfl) ha (fun _ _=>rfl) .nil (by simp) (by simp) (by simp) (by simp) rs o1.2 (fun _ m=>m) h2
   have hlow:∀k t,σ k=some t→∀y∈Φ k,y<H.length:=fun k t e y m=>by
    obtain⟨_,_,r⟩:=s.slot k t e
    exact r.lt y m
   have fin:∀y∈a::F',y∈Φ c0∨H.length≤y:=fun y m=>by
    rw[hΦ]
    rcases Zz7.mp m with rfl | m
    ·exact .inl Zz5
    ·exact(f9 y m).imp (Zz2 _) id
   have old:∀k u,k≠c0→ZA (updT σ c0 (.lst us)) x k=some u→k≠x∧σ k=some u:=fun k u hk e=>by
    unfold ZA at e
    split at e
    ·cases e
    ·rename_i q;simp[updT,hk]at e;exact⟨q,e⟩
   have self:∀u,ZA (updT σ c0 (.lst us)) x c0=some u→u=.lst us:=fun u e=>by
    unfold ZA at e
    rw[if_neg hcx]at e
    simp[updT]at e
    exact e.symm
   have hvl:=rs.length
   refine⟨ρ',K',Zp Φ c0 (a::F'),f2,fun y hy hn=>f3 y hy fun m=>hn ⟨c0,hc,⟨_,ex⟩,m⟩,.inl ⟨rfl,?_,⟨fun k u e=>?_,fun k u e=>?_,fun k hk u e=>?_,Nat.le_trans s.len f2,fun y hy hn=>?_,s.pos,s.f0⟩,fun y hy=>?_⟩⟩
   ·have f1':ZaW (Zbw a) (put1 x) b (ts.length+1) 0 ρ H=some (none,ρ',K'):=f1
    simp only[ZaE,Za4,Zb,ev,Option.map_some,Option.bind_some,ha,hvl,f1']
   ·by_cases q:k=c0
    ·subst q
     rw[self u e]
     refine⟨.ref a,(f5 _ hcx).trans ev,?_⟩
     simp only[Zp,if_true]
     exact .ref f4 (by simpa using f6)
    ·obtain⟨q1,e⟩:=old k u q e
     obtain⟨w,w1,w2⟩:=s.slot k u e
     refine⟨w,(f5 k q1).trans w1,?_⟩
     simp only[Zp,q,if_false]
     exact w2.frame fun y m=>f3 y (w2.lt y m) fun m2=>o3 k u q e y m2 m
   ·by_cases q:k=c0
    ·subst q
     simp only[Zp,if_true]
     intro y m
     rcases fin y m with q | q
     ·exact s.src k _ ex y q
     ·exact .inl (Nat.le_trans s.len q)
    ·obtain⟨q1,e⟩:=old k u q e
     simpa [Zp,q]using s.src k u e
   ·by_cases q:k=c0
    ·subst q
     simp only[Zp,if_true]
     refine⟨by rw[List.nodup_cons];exact⟨f8,f7⟩,fun y m=>?_,fun j w hj ej y m=>?_⟩
     ·rcases fin y m with q | q
      ·exact o2 y q
      ·exact .inl (Nat.le_trans s.len q)
     ·obtain⟨q1,e1⟩:=old j w hj ej
      rw[if_neg hj]
      rcases fin y m with q | q
      ·exact o3 j w hj e1 y q
      ·exact fun m2=>by have:=hlow j w e1 y m2;omega
    ·obtain⟨q1,e4⟩:=old k u q e
     obtain⟨p1,p2,p3⟩:=s.own k hk u e4
     simp only[Zp,q,if_false]
     refine⟨p1,p2,fun j w hj ej y m=>?_⟩
     by_cases q2:j=c0
     ·subst q2
      simp only[if_true]
      intro m2
      rcases fin y m2 with q3 | q3
      ·exact p3 j _ hj ex y m q3
      ·have:=hlow k u e4 y m;omega
     ·obtain⟨q3,e3⟩:=old j w q2 ej
      simpa [q2]using p3 j w hj e3 y m
   ·have hyH:=Nat.lt_of_lt_of_le hy s.len
    rw[f3 y hyH fun m=>(o2 y m).elim (fun q=>by omega) hn]
    exact s.keep y hy hn
   ·obtain⟨k,hk,⟨u,e⟩,m⟩:=hy
    by_cases q:k=c0
    ·subst q
     simp only[Zp,if_true]at m
     rcases fin y m with q | q
     ·exact .inr ⟨k,hk,⟨_,ex⟩,q⟩
     ·exact .inl q
    ·obtain⟨q1,e⟩:=old k u q e
     simp only[Zp,q,if_false]at m
     exact .inr ⟨k,hk,⟨u,e⟩,m⟩
 ·cases h
end
end TM
end
section
namespace TM
open PySem PM
section
variable {O O':List Nat} {S S' SR:Z7} {fr:Bool}
theorem ZlT{R:List Nat}{g:Sm}{q:PS}(y:TM.S O O' R fr g q)(hn:∀σ r,q σ=some r→r.1=none): SU O [] O' [] [] fr g q:=fun c ρ σ H Φ Ψ r hc s h=>by
 obtain⟨ρ',H',Φ',h1,h2,h3⟩:=y c.toCtx ρ σ H Φ r s.st h
 have e:=hn σ r h
 rcases h3 with⟨k1,k2,k3,k4⟩ | ⟨t,v,F,k1,k2,_⟩
 ·refine⟨ρ',H',Φ',Ψ,h1,fun a ha q=>h2 a ha fun z=>q (.inl z),fun _ q=>(List.not_mem_nil q).elim,.inl ⟨k1,k2,⟨k3,fun i d hi=>(List.not_mem_nil hi).elim,fun i _ d q=>(List.not_mem_nil q).elim,fun i hi t e a m=>?_⟩,fun a z=>?_⟩⟩
  ·rcases k4 a ⟨i,hi,⟨t,e⟩,m⟩with q | ⟨j,hj,⟨w,ej⟩,mj⟩
   ·exact Nat.le_trans s.st.len q
   ·exact s.nw j hj w ej a mj
  ·rcases z with z | ⟨i,d,hi,_⟩
   ·exact(k4 a z).imp id .inl
   ·exact(List.not_mem_nil hi).elim
 ·rw[e]at k1
  cases k1
theorem Zku{x:Nat}{N:List Nat}{p:PE}{σ:TL}{r:Option T×TL}(h:ZdI x N p σ=some r): ∃t',r=(none,Zaz (updT σ x t') N):=by
 obtain⟨w,_,h⟩:=Zz0.mp h
 obtain⟨t,_,h⟩:=Zz0.mp h
 split at h
 ·split at h
  ·cases h;exact⟨_,rfl⟩
  ·cases h
 ·cases h
theorem ZlU{x:Nat}{N:List Nat}{e:Ex}{p:PE}(hx:x∈O∧x∈O')(z:E O N true e p)(hN:∀j∈N,j∈O∧j≠x)(hO:∀j∈O',j∈O∧j∉N)(hO2:∀j∈O,j∈O'∨j∈N): SU O S O' S SR fr (Zaf (Zd9 (Zb x) e)) (ZdI x N p):=
 Zhr (R:=[]) (TM.S.extL hx.1 z hN hO) Zej (fun σ r h=>by obtain⟨t',e⟩:=Zku h;rw[e];exact⟨t',rfl⟩) hx hO2 (fun j hj=>(hO j hj).1)
theorem Zj9{c x:Nat}{qb:PS}{σ:TL}{r:Option T×TL}(h:Zdu c x qb σ=some r): r.1=none:=by
 obtain⟨t,_,h⟩:=Zz0.mp h
 split at h
 ·obtain⟨us,_,h⟩:=Zz1.mp h
  subst h
  rfl
 ·cases h
theorem ZlV{c0 x:Nat}{b:Sm}{qb:PS}(hc:c0∈O)(hx:x∉O)(hb:TM.S [x] [x] [] fr b qb)(hK:∀ρ H r,b ρ H=some r→r.1=none∧r.2.1=ρ)(hq:∀σ r,qb σ=some r→∃t',r=(none,updT σ x t')): SU O [] O [] [] fr (ZaE (Za4 (Zb c0)) (put1 x) b) (Zdu c0 x qb):=
 ZlT (TM.S.each hc hx hb hK hq) fun σ r h=>Zj9 h
theorem ZmO{a b:Sm}(ha:Kp a)(hb:Kp b): Kp (Zs a b):=fun ρ H r h=>by
 obtain⟨r1,e1,h2⟩:=Zz0.mp h
 obtain⟨p1,p2⟩:=ha ρ H r1 e1
 obtain⟨o,ρ1,H1⟩:=r1
 have p1:o=none:=p1
 have p2:ρ1=ρ:=p2
 rw[p1,p2]at h2
 exact hb _ _ r h2
theorem ZkY{x:Nat}{p pi:PE}{po:PPa}{σ:TL}{r:Option T×TL}(h:Zbr x [] p po pi σ=some r): ∃t',r=(none,updT σ x t'):=by
 obtain⟨w,_,h⟩:=Zz0.mp h
 obtain⟨ks,_,h⟩:=Zz0.mp h
 obtain⟨k,_,h⟩:=Zz0.mp h
 cases k <;> first | (cases h;done) | skip
 obtain⟨t,_,h⟩:=Zz0.mp h
 obtain⟨t',_,h⟩:=Zz1.mp h
 subst h
 exact⟨t',by rw[show Zaz (updT σ x t') []=updT σ x t' from funext fun j=>by simp[Zaz]]⟩
theorem ZkZ{x:Nat}{p:PE}{po:PPa}{σ:TL}{r:Option T×TL}(h:Zbn x [] po p σ=some r): ∃t',r=(none,updT σ x t'):=by
 obtain⟨ks,_,h⟩:=Zz0.mp h
 obtain⟨w,_,h⟩:=Zz0.mp h
 obtain⟨t,_,h⟩:=Zz0.mp h
 obtain⟨t',_,h⟩:=Zz1.mp h
 subst h
 exact⟨t',by rw[show Zaz (updT σ x t') []=updT σ x t' from funext fun j=>by simp[Zaz]]⟩
theorem Zk0{x:Nat}{a b:PS}(ha:∀σ r,a σ=some r→∃t',r=(none,updT σ x t'))(hb:∀σ r,b σ=some r→∃t',r=(none,updT σ x t')): ∀σ r,Zt a b σ=some r→∃t',r=(none,updT σ x t'):=fun σ r h=>by
 obtain⟨r1,e1,h⟩:=Zz0.mp h
 obtain⟨t1,rfl⟩:=ha σ r1 e1
 obtain⟨t2,rfl⟩:=hb _ r h
 exact⟨t2,by rw[show updT (updT σ x t1) x t2=updT σ x t2 from funext fun j=>by simp only[updT];split <;> rfl]⟩
end
section
variable {σ:TL} {R:T→TL→Prop} {N:TL→Prop} {Q:T→Prop}
theorem ZmP{x:Nat}{M:List Nat}{p:PE}(h:Pk (p σ) fun w=>∃ts us,w=.lst us∧σ x=some (.lst ts)∧ts.length+us.length≤10000∧N (Zaz (updT σ x (.lst (ts++us))) M)): Z3 (ZdI x M p σ) R N:=by
 obtain⟨w,e,ts,us,rfl,e2,hl,q⟩:=h
 refine⟨none,_,?_,by simp,fun _=>q⟩
 simp only[ZdI,e,e2,Option.bind_some]
 rw[if_pos (by rw[Zas];omega)]
theorem ZlW{x:Nat}{put:T→TL→Option TL}{c:PB}{f:PE}{ts us:List T}(e:σ x=some (.lst ts))(hl:ts.length≤10000)(h:ZbA put c f (ZA σ x) ts=some us)(q:Q (.lst us)): Pk (ZfJ x put c f σ) Q:=by
 refine⟨_,?_,q⟩
 simp only[ZfJ,e,Option.bind_some]
 rw[if_pos (by rw[Zas];omega),h]
 rfl
theorem ZlX{c x:Nat}{qb:PS}{ts us:List T}(e:σ c=some (.lst ts))(h:Zc5 x qb (ZA (ZA σ c) x) ts=some us)(q:N (ZA (updT σ c (.lst us)) x)): Z3 (Zdu c x qb σ) R N:=by
 refine⟨none,_,?_,by simp,fun _=>q⟩
 simp only[Zdu,e,Option.bind_some,h,Option.map_some]
end
end TM
end
section
open PySem PySem.W PySem.Calls PyProof.Rows
namespace PM
section
variable {prog:Program} {w:World} {Γ:Cx}
theorem Zk1{e:Expr}{lo hi:Option Expr}{p pos:Pos}{f:Ex}{a b:Pt}(h:J prog w Γ e f)(hlo:JP prog w Γ lo a)(hhi:JP prog w Γ hi b)(hs:∀a c,subscripted (.Slice lo hi Option.none p) false (.ref a) (.ref c)=operate [.ref c,.ref a] (getItem (.ref a) (.ref c)):=by intros;with_unfolding_all rfl): J prog w Γ (.Subscript e (.Slice lo hi Option.none p) pos) (Zcf f a b):=by
 intro W ρ H fr s Q E v H' r hf post
 obtain⟨p,e1,hf⟩:=Zz0.mp hf
 obtain⟨q,e2,hf⟩:=Zz0.mp hf
 obtain⟨u,e3,hf⟩:=Zz0.mp hf
 obtain⟨ka,e4,hf⟩:=Zz0.mp hf
 obtain⟨kb,e5,hf⟩:=Zz0.mp hf
 refine Subscript_ (h W ρ H fr s _ E _ _ r e1 fun W1 k1 t1 x l1 r1 x1=>?_)
 refine wpAny_Slice (hlo W1 ρ _ fr _ _ E _ _ r1 e2 fun W2 k2 t2 y l2 r2 y2=>?_)
 refine hhi W2 ρ _ fr _ _ E _ _ r2 e3 fun W3 k3 t3 z l3 r3 z3=>?_
 have x3:=x1.mono (l2.trans l3)
 obtain⟨v1,H1⟩:=p
 simp only at hf x3
 cases x3 with
 | none=>cases hf
 | bool _=>cases hf
 | int _ _=>cases hf
 | str _ _=>cases hf
 | tup _ _ _=>cases hf
 | obj _ _ _ _=>cases hf
 | @ref i a ea=>
  obtain⟨vs,hvs,e6⟩:=Zz0.mp hf
  cases e6
  obtain⟨hl,xs,kk,hg,hv⟩:=r3.at hvs ea
  have isl:k3.IsList a xs.toArray:=⟨_,hg,rfl,kk,rfl⟩
  have hp:VRs W3 (ZaJ vs ka kb) (ZaJ xs ka kb):=by
   unfold ZaJ
   rw[hv.length]
   exact hv.pick _
  have hx:slicePick xs.toArray ka kb Option.none=(ZaJ xs ka kb).toArray:=by
   unfold slicePick ZaJ
   simp
  obtain⟨W4,l4,r4,v4⟩:=(r3.push { cls:=.type "slice",data:=.fields #[y,z,.none] }).list (k:=0) hp (Nat.le_trans (Zif vs ka kb) hl)
  have hQ:=post W4 _ t3 _ (((l1.trans l2).trans l3).trans l4) r4 v4
  rw[evalPart_none]
  refine wpAny_pure (kba_turn (value':=.Name (Str.ofString "_") ⟨0,0,0,0⟩) (fun _=>rfl) ?_)
  refine subscriptTail_ops (T:="list") ((isl.push _).typeIs) list_getitem_lookup ?_ (hs _ _) (fun _=>rfl)
  refine wpAny_getItem_list_slice (isl.push _) (Heap.IsSliceOf.new ..) ((y2.mono l3).part e4) (z3.part e5) .none (by simp) ?_ (Zbt (by simp[hv.length];exact hl))
  rw[hx]
  exact hQ
end
end PM
end
section
namespace PM
open PySem PySem.W PySem.Calls PyProof.Rows PyProof PySem.Spec
section
variable {prog:Program} {w:World} {Γ:Cx}
end
section
variable {prog:Program} {w:World} {K:Frag} {p:Program} {loose:List Str} {mean:ExcName→Option Value} {mg mb:Str→Option Value}
theorem Zd3{f:Addr}{room:Nat}: Def prog w K p loose mean mg mb f room (fun _ _=>none):=by
 intro Γ dp un clr hd hu W ρ H fr s Q E as xs v H' r hx hF post
 cases hF
end
end PM
end
section
namespace PM
open PySem PySem.W PySem.Calls PyProof.Rows PyProof PySem.Spec
section
variable {prog:Program} {w:World} {K:Frag} {p:Program} {loose:List Str} {mean:ExcName→Option Value} {mg mb:Str→Option Value}
theorem Zk2{P:Params}{h₀:Heap}{s:Shared}{sa fa:Addr}{cd:Value}{ns:List Int}{qual pname:Str}{scope:Scope}{body:List Stmt}{names:List Str}{g:Sm}{Q:Flow→Shared→Prop}{E:Value→Shared→Prop}{room:Nat}{H':Hp}
  (hbody:∀(dp un:Nat) (gd:Option (List Code)) (L a:Addr) (ccd:Value) (outer:List Env) (h₀:Heap) (hu:un+200<cLine),Clr K p loose mean mg mb (Za9 dp un gd qual scope L a ccd (cellsFrom (L+1) scope.names []) outer h₀ hu names) dp un→dp+room<recursionLimit→un+10*room+300<cLine →
   Ss prog w (Za9 dp un gd qual scope L a ccd (cellsFrom (L+1) scope.names []) outer h₀ hu names) body g)
  (hd:callerA.depth+1+room<recursionLimit) (hun:callerA.units+3+10*room+300<cLine) (hk:scope.kind=.function) (h0:names[0]?=some pname) (hc:∀n,cellsFrom n scope.names []=[]) (hl:(envOfC qual scope h₀.objs.size fa cd).kindOf pname=some .local)
  (KX:K.In h₀) (T:Top p loose mean mg mb h₀) (w1:Well P h₀ (.ref sa) (ofPy (.list (ns.map PyData.int)))) (hlen:ns.length≤ZN)
  (F:Fr h₀ h₀.objs.size s.heap (fun x=>List.lookup x [(pname,Value.ref sa)].reverse)) (N:News h₀ h₀.objs.size s.heap [])
  (hg:Z5 1 g [.ref 0] [ns.map V.int]=some (.bool true,H')) (post:∀h' tk' m',Fr h₀ h₀.objs.size h' m'→Q (.ret (.bool true)) { s with heap:=h',toks:=tk' }):
  wpAny (model prog w) (callerA.deeper (envOf qual scope h₀.objs.size fa cd)) (execs body (envOf qual scope h₀.objs.size fa cd)) Q E s:=by
 have e:envOf qual scope h₀.objs.size fa cd=envOfC qual scope h₀.objs.size fa cd:=by unfold envOf envOfC;rw[hc]
 have eb:(fun x=>List.lookup x [(pname,Value.ref sa)].reverse)=bindL (envOfC qual scope h₀.objs.size fa cd).kindOf [(pname,.ref sa)] fun _=>none:=by
  funext x
  simp only[bindL,hl,if_true,List.reverse_cons,List.reverse_nil,List.nil_append,List.lookup]
  by_cases q:x=pname
  ·subst q;simp
  ·rw[if_neg q]
   have:(x == pname)=false:=by simpa using q
   rw[this]
 rw[e]
 exact Zlh hbody hd hun hk h0 KX T w1 hlen (eb▸F) N (by rw[hc];exact CellsAre.nil) hg post
end
end PM
end
section
namespace PM
open PySem PySem.W PySem.Calls PyProof.Rows PyProof PySem.Spec
section
variable {prog:Program} {w:World} {Γ:Cx}
theorem jN{n:Nat}{pos:Pos}: J prog w Γ (.Constant .none n pos) ZbT:=J.none _ _
theorem cT{elt iter:Expr}{x x₂:Str}{px px₂ tp:Pos}{kt:Nat}{scope:Scope}{pos:Pos}{cl:List (Str×Addr)}{t t₂:Nat}{g:Src}{f:Ex}(hg:JI2 prog w Γ iter g)(hel:∀C ρ,J prog w (ZaS Γ scope cl C [(x,t),(x₂,t₂)] ρ) elt f)
  (hclos:closureFor scope Γ.env=pure cl:=by with_unfolding_all rfl) (hcell:∀y∈scope.names,y.2≠.cell:=by decide) (hkind:scope.kind=.function:=by exact rfl) (hnames:∀y∈scope.names,y.2=.local→scope.names.lookup y.1=some .local:=by decide) (hx:scope.names.lookup x=some .local:=by exact rfl) (hx₂:scope.names.lookup x₂=some .local:=by exact rfl) (hxx:x≠x₂:=by decide) (htt:t≠t₂:=by decide) (hs:∀x,foldedSetIterable iter Γ.env x=pure x:=by intro _;rfl):
  J prog w Γ (.ListComp elt [⟨.Tuple [.Name x px,.Name x₂ px₂] kt tp,iter,[],0⟩] scope pos) (ZaX g (Zb0 t t₂) ZaR f):=Zlg hg hel hclos hcell hkind hnames hx hx₂ hxx htt hs
end
section
variable {prog:Program} {w:World} {dp un:Nat} {gd:Option (List Code)} {cn:Str} {cs:Scope} {L a:Addr} {ccd:Value} {cl:List (Str×Addr)} {outer:List Env} {h₀:Heap} {hu:un+200<cLine} {names:List Str}
end
section
variable {prog:Program} {w:World} {K:Frag} {p:Program} {loose:List Str} {mean:ExcName→Option Value} {mg mb:Str→Option Value} {Γ:Cx} {dp un:Nat}
end
section
variable {prog:Program} {w:World} {Γ:Cx} {scope:Scope} {cl:List (Str×Addr)} {C:Addr} {ts:List (Str×Nat)} {ρ0:Lc}
end
section
variable {prog:Program} {w:World} {dp un:Nat} {gd:Option (List Code)} {cn:Str} {cs:Scope} {L a:Addr} {ccd:Value} {clf:List (Str×Addr)} {outer:List Env} {h₀:Heap} {hu:un+200<cLine} {names:List Str} {scope:Scope} {cl:List (Str×Addr)} {C:Addr} {ts:List (Str×Nat)} {ρ0:Lc}
end
end PM
end
section
namespace PM
open PySem PySem.W PySem.Calls PyProof.Rows PyProof
section
variable {prog:Program} {w:World} {Γ:Cx}
theorem ZlY{e lo:Expr}{p pos:Pos}{f:Ex}{k:Nat}(h:J prog w Γ e f)(hlo:J prog w Γ lo (Zg k))(hs:∀a c,subscripted (.Slice (Option.some lo) Option.none Option.none p) false (.ref a) (.ref c)=operate [.ref c,.ref a] (getItem (.ref a) (.ref c)):=by intros;with_unfolding_all rfl): J prog w Γ (.Subscript e (.Slice (Option.some lo) Option.none Option.none p) pos) (Zdr f k):=by
 intro W ρ H fr s Q E v H' r hf post
 obtain⟨⟨v1,H1⟩,e1,hf⟩:=Zz0.mp hf
 cases v1 with
 | none=>cases hf
 | bool _=>cases hf
 | int _=>cases hf
 | str _=>cases hf
 | obj _ _=>cases hf
 | ref i=>
  obtain⟨vs,e2,e3⟩:=Zz0.mp hf
  refine Zk1 h (JP.some hlo) JP.none hs W ρ H fr s Q E v H' r ?_ post
  rw[Zli (n:=k) e1 Zl9 e2 rfl]
  exact e3
 | tup vs=>
  simp only at hf
  by_cases c:1≤k∧k≤vs.length
  ·rw[if_pos c]at hf
   cases hf
   refine Subscript_ (h W ρ H fr s _ E _ _ r e1 fun W1 k1 t1 x l1 r1 x1=>?_)
   refine wpAny_Slice ?_
   refine wpAny_evalPart_some (hlo W1 ρ _ fr _ _ E _ _ r1 rfl fun W2 k2 t2 y l2 r2 y2=>?_)
   refine wpAny_evalPart_none ?_
   refine wpAny_evalPart_none ?_
   cases y2 with
   | int _ u=>
    have x2:=x1.mono l2
    cases x2 with
    | @tup _ a ys kk hm hl hs'=>
     have it:IsTup k2 a ys.toArray:=⟨_,r2.tupAt hm,rfl,kk,rfl⟩
     have it':IsTup (k2.push { cls:=.type "slice",data:=.fields #[.int k u,.none,.none] }) a ys.toArray:=it.keeps fun _ _ e=>Heap.get?_push_of_some _ e
     have hlen:=hs'.length
     rw[Zas]at hl
     refine kba_turn (value':=.Name (Str.ofString "_") ⟨0,0,0,0⟩) (fun _=>rfl) ?_
     refine subscriptTail_ops (T:="tuple") it'.typeIs slot_tuple_getitem.lookup ?_ (hs _ _) (fun _=>rfl)
     refine getItem_tuple_from it' (Heap.IsSliceOf.new ..) c.1 (by simp[hlen];exact c.2) ?_ (Zbt (by simp[hlen];rw[Zas];exact hl))
     obtain⟨W4,l4,r4,v4⟩:=(r2.push { cls:=.type "slice",data:=.fields #[.int k u,.none,.none] }).tuple (k:=0) (hs'.drop k) (by rw[Zas];simp;omega)
     have:=post W4 _ t2 _ ((l1.trans l2).trans l4) r4 v4
     simpa using this
  ·rw[if_neg c]at hf
   cases hf
end
end PM
end
noncomputable section
open PySem PM TM
namespace L
variable {F:List V→Hp→Option (V×Hp)} {P:List T→Option (T×List T)}
def ZgB: Sm:=Zs (ZM 2 (Zj Zu (Zb 0) (Zg 1))) (Zs (ZaK (Zj ZL (Zb 2) (Zg 1)) (Zb 0) (Zg 1)) (Zs (Z2 (ZZ (Zj oEq (Zr Zbg (Za (Zj Zu (Zb 0) (Zg 0)) Zh)) (Zg 0))) (ZK (Zg 0)) Zaj) (ZK (Zj oMod (Zj ZL (Zj Zu (Zj Zu (Zb 0) (Zg 0)) (Zj oMod (Zb 2) (Zr Zbg (Za (Zj Zu (Zb 0) (Zg 0)) Zh)))) (Zj oDiv (Zb 2) (Zr Zbg (Za (Zj Zu (Zb 0) (Zg 0)) Zh)))) (Zb 1)))))
def ZR:=Z5 2 ZgB
def ZgC: PS:=(Zt (ZQ 2 (xP (Zah (Zn Zy (Zc 0) (Zk 1))))) (Zt (ZbB 0 1 false (Zn Zad (Zc 2) (Zk 1)) Zab (Zk 1)) (Zt (ZaB (xB (ZX (Zn qEq (ZW Zbm (Zd (Zn Zy (Zc 0) (Zk 0)) Zo)) (Zk 0)))) (Z9 (xP (Zk 0))) Zak) (Z9 (xP (Zn ZdG (Zn Zad (Zn Zy (Zn Zy (Zc 0) (Zk 0)) (Zn ZdG (Zc 2) (ZW Zbm (Zd (Zn Zy (Zc 0) (Zk 0)) Zo)))) (Zn ZdF (Zc 2) (ZW Zbm (Zd (Zn Zy (Zc 0) (Zk 0)) Zo)))) (Zc 1)))))))
def Zar: List T→Option (T×List T):=Zaq 2 [(0,1)] ZgC
theorem ZaC: SimX 2 [(0,1)] true ZR Zar:=SimX.of (show SU [] [(0,1)] [] [(0,1)] [(0,1)] true ZgB ZgC from(SU.seq (SU.set (i:=2) (O':=[]) (S':=[(0,1)]) (ZJ (E.flat (ZD ZE (Zl 0) (Zm _))) (by decide)) (by decide) (by decide) (by decide)) (SU.seq (SU.putS (x:=0) (d:=1) (own:=false) (O':=[]) (S':=[(0,1)]) (by decide) (by decide) (ZaZ ZaF (Zl 2) (Zm _)) ZbQ (Zm _) (by decide) (by decide) (by decide)) (SU.seq (ZaI (ZaH (Bt.val (ZO ZaY (Zbv ZbW (Zw (ZD ZE (Zl 0) (Zm _)) Zx)) (Zm _)))) (Zai (O':=[]) (S':=[(0,1)]) (ZJ (Zm _) (by decide)) (by decide) (by decide)) SU.next) (Zai (O':=[]) (S':=[(0,1)]) (ZJ (ZO Zjn (ZaZ ZaF (ZD ZE (ZD ZE (Zl 0) (Zm _)) (ZO Zjn (Zl 2) (Zbv ZbW (Zw (ZD ZE (Zl 0) (Zm _)) Zx)))) (ZO Zm1 (Zl 2) (Zbv ZbW (Zw (ZD ZE (Zl 0) (Zm _)) Zx)))) (Zl 1)) (by decide)) (by decide) (by decide)))))) (by decide) (by decide)
def Zf1: Sm:=Zs (ZM 1 (Zr ZR (Za (Zb 0) (Za (Zg 16) Zh)))) (Zs (Z2 (ZZ (Zj oLt (Zb 1) (Zg 13))) (ZK (Zj ZaP (Zr ZR (Za (Zb 0) (Za (Zg 25) Zh))) (Zg 8))) Zaj) (Zs (Z2 (ZZ (Zj oEq (Zb 1) (Zg 13))) (ZK (Zj ZaP (Zr ZR (Za (Zb 0) (Za (Zj ZL (Zj Zbh (Zg 2) (Zj oPow (Zg 10) (Zg 60))) (Zg 1)) Zh))) (Zj oPow (Zg 10) (Zg 60)))) Zaj) (ZK (Zj ZaP (Zr ZR (Za (Zb 0) (Za (Zj ZL (Zj Zbh (Zg 2) (Zj oPow (Zg 10) (Zg 9))) (Zg 1)) Zh))) (Zj oPow (Zg 10) (Zg 9))))))
def ZdL:=Z5 1 Zf1
def Zf2: PS:=(Zt (ZQ 1 (ZH false [0] Zar (Zd (Zc 0) (Zd (Zk 16) Zo)))) (Zt (ZaB (xB (ZX (Zn qLt (Zc 1) (Zk 13)))) (Z9 (Zac 1000 (ZH false [0] Zar (Zd (Zc 0) (Zd (Zk 25) Zo))) (xP (Zn ZbD (Zc 1000) (Zk 8))))) Zak) (Zt (ZaB (xB (ZX (Zn qEq (Zc 1) (Zk 13)))) (Z9 (Zac 1001 (ZH false [0] Zar (Zd (Zc 0) (Zd (Zn Zad (Zn Zbq (Zk 2) (Zn Zbk (Zk 10) (Zk 60))) (Zk 1)) Zo))) (xP (Zn ZbD (Zc 1001) (Zn Zbk (Zk 10) (Zk 60)))))) Zak) (Z9 (Zac 1002 (ZH false [0] Zar (Zd (Zc 0) (Zd (Zn Zad (Zn Zbq (Zk 2) (Zn Zbk (Zk 10) (Zk 9))) (Zk 1)) Zo))) (xP (Zn ZbD (Zc 1002) (Zn Zbk (Zk 10) (Zk 9)))))))))
def ZdM: List T→Option (T×List T):=Zaq 1 [(0,1)] Zf2
theorem ZhH: SimX 1 [(0,1)] true ZdL ZdM:=SimX.of (show SU [] [(0,1)] [] [(0,1)] [(0,1)] true Zf1 Zf2 from(SU.seq (SU.set (i:=1) (O':=[]) (S':=[(0,1)]) (EX.call (b:=false) (xs:=[0]) (as:=[some 0,none]) (M:=[]) ZaC (XAs.slot (Zz (Zm _) (by decide) XAs.nil)) (by decide) (by decide) (by decide) (by decide) (by decide) (by decide) (by decide) (by decide) (by decide)) (by decide) (by decide) (by decide)) (SU.seq (ZaI (ZaH (Bt.val (ZO Zex (Zl 1) (Zm _)))) (Zai (O':=[]) (S':=[(0,1)]) (Zau (k:=1000) (C:=fun e=>(Zj ZaP (e) (Zg 8))) (e:=(Zr ZR (Za (Zb 0) (Za (Zg 25) Zh)))) (Zcs (Zae) (fun ρ v H=>rfl)) (EX.call (b:=false) (xs:=[0]) (as:=[some 0,none]) (M:=[]) ZaC (XAs.slot (Zz (Zm _) (by decide) XAs.nil)) (by decide) (by decide) (by decide) (by decide) (by decide) (by decide) (by decide) (by decide) (by decide)) (ZJ (ZO ZbV (Zl 1000) (Zm _)) (by decide)) (by decide) (by decide)) (by decide) (by decide)) SU.next) (SU.seq (ZaI (ZaH (Bt.val (ZO ZaY (Zl 1) (Zm _)))) (Zai (O':=[]) (S':=[(0,1)]) (Zau (k:=1001) (C:=fun e=>(Zj ZaP (e) (Zj oPow (Zg 10) (Zg 60)))) (e:=(Zr ZR (Za (Zb 0) (Za (Zj ZL (Zj Zbh (Zg 2) (Zj oPow (Zg 10) (Zg 60))) (Zg 1)) Zh)))) (Zcs (Zae) (fun ρ v H=>rfl)) (EX.call (b:=false) (xs:=[0]) (as:=[some 0,none]) (M:=[]) ZaC (XAs.slot (Zz (ZaZ ZaF (ZaZ Zen (Zm _) (ZO Zcz (Zm _) (Zm _))) (Zm _)) (by decide) XAs.nil)) (by decide) (by decide) (by decide) (by decide) (by decide) (by decide) (by decide) (by decide) (by decide)) (ZJ (ZO ZbV (Zl 1001) (ZO Zcz (Zm _) (Zm _))) (by decide)) (by decide) (by decide)) (by decide) (by decide)) SU.next) (Zai (O':=[]) (S':=[(0,1)]) (Zau (k:=1002) (C:=fun e=>(Zj ZaP (e) (Zj oPow (Zg 10) (Zg 9)))) (e:=(Zr ZR (Za (Zb 0) (Za (Zj ZL (Zj Zbh (Zg 2) (Zj oPow (Zg 10) (Zg 9))) (Zg 1)) Zh)))) (Zcs (Zae) (fun ρ v H=>rfl)) (EX.call (b:=false) (xs:=[0]) (as:=[some 0,none]) (M:=[]) ZaC (XAs.slot (Zz (ZaZ ZaF (ZaZ Zen (Zm _) (ZO Zcz (Zm _) (Zm _))) (Zm _)) (by decide) XAs.nil)) (by decide) (by decide) (by decide) (by decide) (by decide) (by decide) (by decide) (by decide) (by decide)) (ZJ (ZO ZbV (Zl 1002) (ZO Zcz (Zm _) (Zm _))) (by decide)) (by decide) (by decide)) (by decide) (by decide)))))) (by decide) (by decide)
def Zgs: Sm:=Zs (ZM 2 (ZY (Za (Zr ZdL (Za (Zb 0) Zh)) Zh))) (Zs (ZaE (Zbj (Za (Zb 1) Zh)) (put1 3) (Zs (ZM 4 (Zr ZR (Za (Zb 0) (Za (Zg 12) Zh)))) (Zs (Zaf (ZaU (Zb 2) (Zj Zu (ZY (Za (Zg 0) (Za (Zg 0) (Za (Zg 0) (Za (Zg 0) (Za (Zg 1) (Za (Zg 1) (Za (Zg 1) (Za (eUn ZdB (Zg 1)) (Za (Zg 2) (Za (eUn ZdB (Zg 3)) (Za (Zg 1) (Za (Zg 0) Zh))))))))))))) (Zb 4)))) (Z2 (ZZ (Zj oEq (Zb 4) (Zg 11))) (ZaK (Zj ZaP (Zr ZR (Za (Zb 0) (Za (Zj ZL (Zj Zbh (Zg 2) (Zj oPow (Zg 10) (Zg 9))) (Zg 1)) Zh))) (Zj oPow (Zg 10) (Zg 9))) (Zb 2) (Zj ZL (Zb 3) (Zg 1))) Zaj)))) (ZK (Zb 2)))
def ZbN:=Z5 2 Zgs
def Zgt: PS:=(Zt (ZQ 2 (Zac 1000 (ZH false [0] ZdM (Zd (Zc 0) Zo)) (xP (Zao (Zd (Zc 1000) Zo))))) (Zt (Za0 (ZbG (Zd (Zc 1) Zo)) (Zav 3) (Zt (ZQ 4 (ZH false [0] Zar (Zd (Zc 0) (Zd (Zk 12) Zo)))) (Zt (Zbn 2 [] Zab (Zah (Zn Zy (Zao (Zd (Zk 0) (Zd (Zk 0) (Zd (Zk 0) (Zd (Zk 0) (Zd (Zk 1) (Zd (Zk 1) (Zd (Zk 1) (Zd (pUn Zew (Zk 1)) (Zd (Zk 2) (Zd (pUn Zew (Zk 3)) (Zd (Zk 1) (Zd (Zk 0) Zo))))))))))))) (Zc 4)))) (ZaB (xB (ZX (Zn qEq (Zc 4) (Zk 11)))) (Zc4 1001 (ZH false [0] Zar (Zd (Zc 0) (Zd (Zn Zad (Zn Zbq (Zk 2) (Zn Zbk (Zk 10) (Zk 9))) (Zk 1)) Zo))) (Zbr 2 [] (Zn ZbD (Zc 1001) (Zn Zbk (Zk 10) (Zk 9))) Zab (Zn Zad (Zc 3) (Zk 1)))) Zak)))) (Z9 (xP (Zc 2)))))
def ZcJ: List T→Option (T×List T):=Zaq 2 [(0,1)] Zgt
theorem ZeL: SimX 2 [(0,1)] true ZbN ZcJ:=SimX.of (show SU [] [(0,1)] [2] [(0,1)] [(0,1)] true Zgs Zgt from(SU.seq (Za1 (i:=2) (O':=[2]) (S':=[(0,1)]) (Zau (k:=1000) (C:=fun e=>(ZY (Za (e) Zh))) (e:=(Zr ZdL (Za (Zb 0) Zh))) (Ct.list (Cts.head (Zae) (fun ρ v H=>rfl))) (EX.call (b:=false) (xs:=[0]) (as:=[some 0]) (M:=[]) ZhH (XAs.slot XAs.nil) (by decide) (by decide) (by decide) (by decide) (by decide) (by decide) (by decide) (by decide) (by decide)) (ZJ (E.list (ZF (E.own (by decide)) Zx (by decide) (by decide))) (by decide)) (by decide) (by decide)) (by decide) (by decide)) (SU.seq (ZcY (Gs.range (Zw (Zl 1) Zx)) (PutOk.one (j:=3)) PutK.one (by decide) (by decide) (SU.seq (SU.set (i:=4) (O':=[2]) (S':=[(0,1)]) (EX.call (b:=false) (xs:=[0]) (as:=[some 0,none]) (M:=[]) ZaC (XAs.slot (Zz (Zm _) (by decide) XAs.nil)) (by decide) (by decide) (by decide) (by decide) (by decide) (by decide) (by decide) (by decide) (by decide)) (by decide) (by decide) (by decide)) (SU.seq (Zfi (x:=2) (N:=[]) (O':=[2]) (by decide) Zcg (Zby (O':=[]) (E.flat (ZD ZE (E.list (Zw (Zm _) (Zw (Zm _) (Zw (Zm _) (Zw (Zm _) (Zw (Zm _) (Zw (Zm _) (Zw (Zm _) (Zw (Zhw Zhx (Zm _)) (Zw (Zm _) (Zw (Zhw Zhx (Zm _)) (Zw (Zm _) (Zw (Zm _) Zx))))))))))))) (Zl 4)))) (by decide) (by decide) (by decide)) (ZaI (ZaH (Bt.val (ZO ZaY (Zl 4) (Zm _)))) (Zhg (k:=1001) (K:=fun e=>ZaK (Zj ZaP (e) (Zj oPow (Zg 10) (Zg 9))) (Zb 2) (Zj ZL (Zb 3) (Zg 1))) (e:=(Zr ZR (Za (Zb 0) (Za (Zj ZL (Zj Zbh (Zg 2) (Zj oPow (Zg 10) (Zg 9))) (Zg 1)) Zh)))) (Cs.put (Zcs (Zae) (fun ρ v H=>rfl)) (fun ρ v H=>rfl) (fun ρ v H=>rfl)) Kp.put (EX.call (b:=false) (xs:=[0]) (as:=[some 0,none]) (M:=[]) ZaC (XAs.slot (Zz (ZaZ ZaF (ZaZ Zen (Zm _) (ZO Zcz (Zm _) (Zm _))) (Zm _)) (by decide) XAs.nil)) (by decide) (by decide) (by decide) (by decide) (by decide) (by decide) (by decide) (by decide) (by decide)) ((ZiI (O1:=[1001,2]) (S1:=[(0,1)]) (SU.putO (x:=2) (N:=[]) (O':=[1001,2]) (by decide) (Zby (O':=[1001]) (ZO ZbV (Zl 1001) (ZO Zcz (Zm _) (Zm _)))) Zcg (ZaZ ZaF (Zl 3) (Zm _)) (by decide) (by decide) (by decide)) (by decide) (by decide))) (by decide) (by decide)) SU.next)))) (Zai (O':=[2]) (S':=[(0,1)]) (ZJ (E.own (by decide)) (by decide)) (by decide) (by decide))))) (by decide) (by decide)
def Zgh: Sm:=Zs (ZM 1 (Zr ZR (Za (Zb 0) (Za (Zg 8) Zh)))) (Zs (Z2 (ZZ (Zj oLt (Zb 1) (Zg 5))) (ZK (Zj Zu (ZY (Za (Zg 2) (Za (Zg 3) (Za (Zg 2) (Za (Zg 4) (Za (Zg 1) Zh)))))) (Zb 1))) Zaj) (Zs (Z2 (ZZ (Zj oEq (Zb 1) (Zg 5))) (ZK (Zj ZL (Zg 1) (Zr ZR (Za (Zb 0) (Za (Zj oPow (Zg 10) (Zg 60)) Zh))))) Zaj) (ZK (Zj ZL (Zg 1) (Zr ZR (Za (Zb 0) (Za (Zg 12) Zh)))))))
def Zcq:=Z5 1 Zgh
def Zgi: PS:=(Zt (ZQ 1 (ZH false [0] Zar (Zd (Zc 0) (Zd (Zk 8) Zo)))) (Zt (ZaB (xB (ZX (Zn qLt (Zc 1) (Zk 5)))) (Z9 (xP (Zah (Zn Zy (Zao (Zd (Zk 2) (Zd (Zk 3) (Zd (Zk 2) (Zd (Zk 4) (Zd (Zk 1) Zo)))))) (Zc 1))))) Zak) (Zt (ZaB (xB (ZX (Zn qEq (Zc 1) (Zk 5)))) (Z9 (Zac 1000 (ZH false [0] Zar (Zd (Zc 0) (Zd (Zn Zbk (Zk 10) (Zk 60)) Zo))) (xP (pFl (Zn Zad (Zk 1) (Zc 1000)))))) Zak) (Z9 (Zac 1001 (ZH false [0] Zar (Zd (Zc 0) (Zd (Zk 12) Zo))) (xP (pFl (Zn Zad (Zk 1) (Zc 1001)))))))))
def ZdR: List T→Option (T×List T):=Zaq 1 [(0,1)] Zgi
theorem ZhO: SimX 1 [(0,1)] true Zcq ZdR:=SimX.of (show SU [] [(0,1)] [] [(0,1)] [(0,1)] true Zgh Zgi from(SU.seq (SU.set (i:=1) (O':=[]) (S':=[(0,1)]) (EX.call (b:=false) (xs:=[0]) (as:=[some 0,none]) (M:=[]) ZaC (XAs.slot (Zz (Zm _) (by decide) XAs.nil)) (by decide) (by decide) (by decide) (by decide) (by decide) (by decide) (by decide) (by decide) (by decide)) (by decide) (by decide) (by decide)) (SU.seq (ZaI (ZaH (Bt.val (ZO Zex (Zl 1) (Zm _)))) (Zai (O':=[]) (S':=[(0,1)]) (ZJ (E.flat (ZD ZE (E.list (Zw (Zm _) (Zw (Zm _) (Zw (Zm _) (Zw (Zm _) (Zw (Zm _) Zx)))))) (Zl 1))) (by decide)) (by decide) (by decide)) SU.next) (SU.seq (ZaI (ZaH (Bt.val (ZO ZaY (Zl 1) (Zm _)))) (Zai (O':=[]) (S':=[(0,1)]) (Zau (k:=1000) (C:=fun e=>(Zj ZL (Zg 1) (e))) (e:=(Zr ZR (Za (Zb 0) (Za (Zj oPow (Zg 10) (Zg 60)) Zh)))) (Zcc (Zae) Vl.int) (EX.call (b:=false) (xs:=[0]) (as:=[some 0,none]) (M:=[]) ZaC (XAs.slot (Zz (ZO Zcz (Zm _) (Zm _)) (by decide) XAs.nil)) (by decide) (by decide) (by decide) (by decide) (by decide) (by decide) (by decide) (by decide) (by decide)) (ZJ (ZbF ZaF (Zm _) (Zl 1000)) (by decide)) (by decide) (by decide)) (by decide) (by decide)) SU.next) (Zai (O':=[]) (S':=[(0,1)]) (Zau (k:=1001) (C:=fun e=>(Zj ZL (Zg 1) (e))) (e:=(Zr ZR (Za (Zb 0) (Za (Zg 12) Zh)))) (Zcc (Zae) Vl.int) (EX.call (b:=false) (xs:=[0]) (as:=[some 0,none]) (M:=[]) ZaC (XAs.slot (Zz (Zm _) (by decide) XAs.nil)) (by decide) (by decide) (by decide) (by decide) (by decide) (by decide) (by decide) (by decide) (by decide)) (ZJ (ZbF ZaF (Zm _) (Zl 1001)) (by decide)) (by decide) (by decide)) (by decide) (by decide)))))) (by decide) (by decide)
def Zf5: Sm:=Zs (ZM 2 (Zr ZR (Za (Zb 0) (Za (Zg 5) Zh)))) (Zs (ZM 3 (Zr ZbN (Za (Zb 0) (Za (Zb 1) Zh)))) (Zs (Z2 (ZZ (Zj oGt (Zb 2) (Zg 2))) (ZK (Z1 (Za (Zaa (Str.ofString "even")) (Za (Zb 3) (Za (Zr Zcq (Za (Zb 0) Zh)) Zh))))) Zaj) (ZK (Z1 (Za (Zj Zu (ZY (Za (Zaa (Str.ofString "under")) (Za (Zaa (Str.ofString "under")) (Za (Zaa (Str.ofString "same")) Zh)))) (Zb 2)) (Za (Zb 3) Zh))))))
def ZdN:=Z5 2 Zf5
def Zf6: PS:=(Zt (ZQ 2 (ZH false [0] Zar (Zd (Zc 0) (Zd (Zk 5) Zo)))) (Zt (ZQ 3 (ZH false [0] ZcJ (Zd (Zc 0) (Zd (Zc 1) Zo)))) (Zt (ZaB (xB (ZX (Zn qGt (Zc 2) (Zk 2)))) (Z9 (Zac 1000 (ZH false [0] ZdR (Zd (Zc 0) Zo)) (xP (ZaA (Zd (Zap (Str.ofString "even")) (Zd (Zc 3) (Zd (Zc 1000) Zo))))))) Zak) (Z9 (xP (ZaA (Zd (Zah (Zn Zy (Zao (Zd (Zap (Str.ofString "under")) (Zd (Zap (Str.ofString "under")) (Zd (Zap (Str.ofString "same")) Zo)))) (Zc 2))) (Zd (Zc 3) Zo))))))))
def ZdO: List T→Option (T×List T):=Zaq 2 [(0,1)] Zf6
theorem ZhK: SimX 2 [(0,1)] true ZdN ZdO:=SimX.of (show SU [] [(0,1)] [3] [(0,1)] [(0,1)] true Zf5 Zf6 from(SU.seq (SU.set (i:=2) (O':=[]) (S':=[(0,1)]) (EX.call (b:=false) (xs:=[0]) (as:=[some 0,none]) (M:=[]) ZaC (XAs.slot (Zz (Zm _) (by decide) XAs.nil)) (by decide) (by decide) (by decide) (by decide) (by decide) (by decide) (by decide) (by decide) (by decide)) (by decide) (by decide) (by decide)) (SU.seq (Za1 (i:=3) (O':=[3]) (S':=[(0,1)]) (EX.call (b:=false) (xs:=[0]) (as:=[some 0,none]) (M:=[1]) ZeL (XAs.slot (Zz (Zl 1) (by decide) XAs.nil)) (by decide) (by decide) (by decide) (by decide) (by decide) (by decide) (by decide) (by decide) (by decide)) (by decide) (by decide)) (SU.seq (ZaI (ZaH (Bt.val (ZO ZdH (Zl 2) (Zm _)))) (Zai (O':=[3]) (S':=[(0,1)]) (Zau (k:=1000) (C:=fun e=>(Z1 (Za (Zaa (Str.ofString "even")) (Za (Zb 3) (Za (e) Zh))))) (e:=(Zr Zcq (Za (Zb 0) Zh))) (Ct.tup (Z0 (Z0 (Cts.head (Zae) (fun ρ v H=>rfl)) (Z8 (by decide))) Vl.str)) (EX.call (b:=false) (xs:=[0]) (as:=[some 0]) (M:=[]) ZhO (XAs.slot XAs.nil) (by decide) (by decide) (by decide) (by decide) (by decide) (by decide) (by decide) (by decide) (by decide)) (ZJ (E.tup (ZF (E.str _) (ZF (E.own (by decide)) (ZF (E.own (by decide)) Zx (by decide) (by decide)) (by decide) (by decide)) (by decide) (by decide))) (by decide)) (by decide) (by decide)) (by decide) (by decide)) SU.next) (Zai (O':=[3]) (S':=[(0,1)]) (ZJ (E.tup (ZF (E.flat (ZD ZE (E.list (Zw (E.str _) (Zw (E.str _) (Zw (E.str _) Zx)))) (Zl 2))) (ZF (E.own (by decide)) Zx (by decide) (by decide)) (by decide) (by decide))) (by decide)) (by decide) (by decide)))))) (by decide) (by decide)
def ZgD(F:List V→Hp→Option (V×Hp)): Sm:=Zs (ZM 5 (Zr ZR (Za (Zb 0) (Za (Zg 3) Zh)))) (Zs (ZM 6 (Zr ZdN (Za (Zb 0) (Za (Zj Zu (Zb 1) (Zg 1)) Zh)))) (Zs (ZM 7 (Zr F (Za (Zb 0) (Za (Zb 1) (Za (Zb 2) (Za (Zj ZaP (Zb 3) (Zg 1)) (Za (Zr ZR (Za (Zb 0) (Za (Zg 3) Zh))) Zh))))))) (Zs (Z2 (tOr (ZZ (Zj oEq (Zb 5) (Zg 0))) (tOr (ZZ (Zj oEq (Zj Zu (Zb 2) (Zg 1)) (Zg 0))) Zce)) (ZK (Z1 (Za (Zaa (Str.ofString "if")) (Za (Zb 6) (Za (Zb 7) (Za (Zr F (Za (Zb 0) (Za (Zb 1) (Za (Zb 2) (Za (Zj ZaP (Zb 3) (Zg 1)) (Za (Zr ZR (Za (Zb 0) (Za (Zg 3) Zh))) Zh)))))) Zh)))))) Zaj) (Zs (ZaK (Zj ZaP (Zj Zu (Zb 2) (Zg 1)) (Zg 1)) (Zb 2) (Zg 1)) (Zs (Z2 (ZbZ (ZZ (Zj oEq (Zb 5) (Zg 2))) (ZbZ (ZZ (Zj oGt (Zb 4) (Zg 0))) ZaR)) (Zs (ZM 8 (Zj ZL (ZY (Za (eUn ZdB (Zr ZR (Za (Zb 0) (Za (Zg 9) Zh)))) Zh)) (Zj Zbh (ZY (Za (Zg 0) Zh)) (Zj Zu (Zb 1) (Zg 1))))) (Zs (ZaK (Zg 1) (Zb 8) (Zb 4)) (Zs (ZM 9 (Zj ZL (ZY (Za (Zj ZL (Zg 1) (Zr ZR (Za (Zb 0) (Za (Zg 3) Zh)))) Zh)) (Zj Zbh (ZY (Za (Zg 0) Zh)) (Zj Zu (Zb 1) (Zg 1))))) (Zs (ZaK (Zg 1) (Zb 9) (Zb 4)) (ZK (Z1 (Za (Zaa (Str.ofString "while")) (Za (Z1 (Za (Zaa (Str.ofString "under")) (Za (Zb 8) Zh))) (Za (Zj ZL (Zb 7) (ZY (Za (Z1 (Za (Zaa (Str.ofString "set")) (Za (Zb 4) (Za (Zb 9) Zh)))) Zh))) Zh))))))))) Zaj) (ZK (Z1 (Za (Zaa (Str.ofString "while")) (Za (Zb 6) (Za (Zb 7) Zh))))))))))
def ZgE(F:List V→Hp→Option (V×Hp)): List V→Hp→Option (V×Hp):=Z5 5 (ZgD F)
def ZgF(P:List T→Option (T×List T)): PS:=(Zt (ZQ 5 (ZH false [0] Zar (Zd (Zc 0) (Zd (Zk 3) Zo)))) (Zt (ZQ 6 (ZH false [0] ZdO (Zd (Zc 0) (Zd (Zn Zy (Zc 1) (Zk 1)) Zo)))) (Zt (ZQ 7 (Zac 1000 (xP (Zn ZbD (Zc 3) (Zk 1))) (Zac 1001 (ZH false [0] Zar (Zd (Zc 0) (Zd (Zk 3) Zo))) (ZH false [0,2] P (Zd (Zc 0) (Zd (Zc 1) (Zd (Zc 2) (Zd (Zah ((Zc 1000))) (Zd (Zah ((Zc 1001))) Zo))))))))) (Zt (ZaB (xB (bOr (ZX (Zn qEq (Zc 5) (Zk 0))) (bOr (ZX (Zn qEq (Zn Zy (Zc 2) (Zk 1)) (Zk 0))) Zcw))) (Z9 (Zac 1002 (xP (Zn ZbD (Zc 3) (Zk 1))) (Zac 1003 (ZH false [0] Zar (Zd (Zc 0) (Zd (Zk 3) Zo))) (Zac 1004 (ZH false [0,2] P (Zd (Zc 0) (Zd (Zc 1) (Zd (Zc 2) (Zd (Zah ((Zc 1002))) (Zd (Zah ((Zc 1003))) Zo)))))) (xP (ZaA (Zd (Zap (Str.ofString "if")) (Zd (Zc 6) (Zd (Zc 7) (Zd (Zc 1004) Zo)))))))))) Zak) (Zt (ZbB 2 1 false (Zn ZbD (Zn Zy (Zc 2) (Zk 1)) (Zk 1)) Zab (Zk 1)) (Zt (ZaB (xB (Zb2 (ZX (Zn qEq (Zc 5) (Zk 2))) (Zb2 (ZX (Zn qGt (Zc 4) (Zk 0))) Zbz))) (Zt (ZQ 8 (Zac 1005 (ZH false [0] Zar (Zd (Zc 0) (Zd (Zk 9) Zo))) (xP (pFl (Zn Zad (Zao (Zd (pUn Zew (Zc 1005)) Zo)) (Zn Zbq (Zao (Zd (Zk 0) Zo)) (Zn Zy (Zc 1) (Zk 1)))))))) (Zt (Zbr 8 [] (Zk 1) Zab (Zc 4)) (Zt (ZQ 9 (Zac 1006 (ZH false [0] Zar (Zd (Zc 0) (Zd (Zk 3) Zo))) (xP (pFl (Zn Zad (Zao (Zd (Zn Zad (Zk 1) (Zc 1006)) Zo)) (Zn Zbq (Zao (Zd (Zk 0) Zo)) (Zn Zy (Zc 1) (Zk 1)))))))) (Zt (Zbr 9 [] (Zk 1) Zab (Zc 4)) (Z9 (xP (ZaA (Zd (Zap (Str.ofString "while")) (Zd (ZaA (Zd (Zap (Str.ofString "under")) (Zd (Zc 8) Zo))) (Zd (Zn Zad (Zc 7) (Zao (Zd (ZaA (Zd (Zap (Str.ofString "set")) (Zd (Zah (Zc 4)) (Zd (Zc 9) Zo)))) Zo))) Zo)))))))))) Zak) (Z9 (xP (ZaA (Zd (Zap (Str.ofString "while")) (Zd (Zc 6) (Zd (Zc 7) Zo))))))))))))
def ZeS(P:List T→Option (T×List T)): List T→Option (T×List T):=Zaq 5 [(0,1),(2,1)] (ZgF P)
theorem Zka(ih:SimX 5 [(0,1),(2,1)] true F P): SimX 5 [(0,1),(2,1)] true (ZgE F) (ZeS P):=SimX.of (show SU [] [(0,1),(2,1)] [6,7] [(0,1),(2,1)] [(0,1),(2,1)] true (ZgD F) (ZgF P)from(SU.seq (SU.set (i:=5) (O':=[]) (S':=[(0,1),(2,1)]) (EX.call (b:=false) (xs:=[0]) (as:=[some 0,none]) (M:=[]) ZaC (XAs.slot (Zz (Zm _) (by decide) XAs.nil)) (by decide) (by decide) (by decide) (by decide) (by decide) (by decide) (by decide) (by decide) (by decide)) (by decide) (by decide) (by decide)) (SU.seq (Za1 (i:=6) (O':=[6]) (S':=[(0,1),(2,1)]) (EX.call (b:=false) (xs:=[0]) (as:=[some 0,none]) (M:=[1]) ZhK (XAs.slot (Zz (ZD ZE (Zl 1) (Zm _)) (by decide) XAs.nil)) (by decide) (by decide) (by decide) (by decide) (by decide) (by decide) (by decide) (by decide) (by decide)) (by decide) (by decide)) (SU.seq (Za1 (i:=7) (O':=[6,7]) (S':=[(0,1),(2,1)]) (Zau (k:=1000) (C:=fun e=>(Zr F (Za (Zb 0) (Za (Zb 1) (Za (Zb 2) (Za (e) (Za (Zr ZR (Za (Zb 0) (Za (Zg 3) Zh))) Zh))))))) (e:=(Zj ZaP (Zb 3) (Zg 1))) (Ct.call (Z0 (Z0 (Z0 (Cts.head (Zae) (fun ρ v H=>rfl)) (Z8 (by decide))) (Z8 (by decide))) (Z8 (by decide)))) (ZJ (ZO ZbV (Zl 3) (Zm _)) (by decide)) (Zau (k:=1001) (C:=fun e=>(Zr F (Za (Zb 0) (Za (Zb 1) (Za (Zb 2) (Za (Zb 1000) (Za (e) Zh))))))) (e:=(Zr ZR (Za (Zb 0) (Za (Zg 3) Zh)))) (Ct.call (Z0 (Z0 (Z0 (Z0 (Cts.head (Zae) (fun ρ v H=>rfl)) (Z8 (by decide))) (Z8 (by decide))) (Z8 (by decide))) (Z8 (by decide)))) (EX.call (b:=false) (xs:=[0]) (as:=[some 0,none]) (M:=[]) ZaC (XAs.slot (Zz (Zm _) (by decide) XAs.nil)) (by decide) (by decide) (by decide) (by decide) (by decide) (by decide) (by decide) (by decide) (by decide)) (EX.call (b:=false) (xs:=[0,2]) (as:=[some 0,none,some 2,none,none]) (M:=[1]) ih (XAs.slot (Zz (Zl 1) (by decide) (XAs.slot (Zz (E.flat ((Zl 1000))) (by decide) (Zz (E.flat ((Zl 1001))) (by decide) XAs.nil))))) (by decide) (by decide) (by decide) (by decide) (by decide) (by decide) (by decide) (by decide) (by decide)) (by decide) (by decide)) (by decide) (by decide)) (by decide) (by decide)) (SU.seq (ZaI (ZaH (Zbd (Bt.val (ZO ZaY (Zl 5) (Zm _))) (Zbd (Bt.val (ZO ZaY (ZD ZE (Zl 2) (Zm _)) (Zm _))) Zdh))) (Zai (O':=[6,7]) (S':=[(0,1),(2,1)]) (Zau (k:=1002) (C:=fun e=>(Z1 (Za (Zaa (Str.ofString "if")) (Za (Zb 6) (Za (Zb 7) (Za (Zr F (Za (Zb 0) (Za (Zb 1) (Za (Zb 2) (Za (e) (Za (Zr ZR (Za (Zb 0) (Za (Zg 3) Zh))) Zh)))))) Zh)))))) (e:=(Zj ZaP (Zb 3) (Zg 1))) (Ct.tup (Z0 (Z0 (Z0 (Cts.head (Ct.call (Z0 (Z0 (Z0 (Cts.head (Zae) (fun ρ v H=>rfl)) (Z8 (by decide))) (Z8 (by decide))) (Z8 (by decide)))) (fun ρ v H=>rfl)) (Z8 (by decide))) (Z8 (by decide))) Vl.str)) (ZJ (ZO ZbV (Zl 3) (Zm _)) (by decide)) (Zau (k:=1003) (C:=fun e=>(Z1 (Za (Zaa (Str.ofString "if")) (Za (Zb 6) (Za (Zb 7) (Za (Zr F (Za (Zb 0) (Za (Zb 1) (Za (Zb 2) (Za (Zb 1002) (Za (e) Zh)))))) Zh)))))) (e:=(Zr ZR (Za (Zb 0) (Za (Zg 3) Zh)))) (Ct.tup (Z0 (Z0 (Z0 (Cts.head (Ct.call (Z0 (Z0 (Z0 (Z0 (Cts.head (Zae) (fun ρ v H=>rfl)) (Z8 (by decide))) (Z8 (by decide))) (Z8 (by decide))) (Z8 (by decide)))) (fun ρ v H=>rfl)) (Z8 (by decide))) (Z8 (by decide))) Vl.str)) (EX.call (b:=false) (xs:=[0]) (as:=[some 0,none]) (M:=[]) ZaC (XAs.slot (Zz (Zm _) (by decide) XAs.nil)) (by decide) (by decide) (by decide) (by decide) (by decide) (by decide) (by decide) (by decide) (by decide)) (Zau (k:=1004) (C:=fun e=>(Z1 (Za (Zaa (Str.ofString "if")) (Za (Zb 6) (Za (Zb 7) (Za (e) Zh)))))) (e:=(Zr F (Za (Zb 0) (Za (Zb 1) (Za (Zb 2) (Za (Zb 1002) (Za (Zb 1003) Zh))))))) (Ct.tup (Z0 (Z0 (Z0 (Cts.head (Zae) (fun ρ v H=>rfl)) (Z8 (by decide))) (Z8 (by decide))) Vl.str)) (EX.call (b:=false) (xs:=[0,2]) (as:=[some 0,none,some 2,none,none]) (M:=[1]) ih (XAs.slot (Zz (Zl 1) (by decide) (XAs.slot (Zz (E.flat ((Zl 1002))) (by decide) (Zz (E.flat ((Zl 1003))) (by decide) XAs.nil))))) (by decide) (by decide) (by decide) (by decide) (by decide) (by decide) (by decide) (by decide) (by decide)) (ZJ (E.tup (ZF (E.str _) (ZF (E.own (by decide)) (ZF (E.own (by decide)) (ZF (E.own (by decide)) Zx (by decide) (by decide)) (by decide) (by decide)) (by decide) (by decide)) (by decide) (by decide))) (by decide)) (by decide) (by decide)) (by decide) (by decide)) (by decide) (by decide)) (by decide) (by decide)) SU.next) (SU.seq (SU.putS (x:=2) (d:=1) (own:=false) (O':=[6,7]) (S':=[(0,1),(2,1)]) (by decide) (by decide) (ZO ZbV (ZD ZE (Zl 2) (Zm _)) (Zm _)) ZbQ (Zm _) (by decide) (by decide) (by decide)) (SU.seq (ZaI (ZaH (Zdp (Bt.val (ZO ZaY (Zl 5) (Zm _))) (Zdp (Bt.val (ZO ZdH (Zl 4) (Zm _))) ZcT))) (SU.seq (Za1 (i:=8) (O':=[6,7,8]) (S':=[(0,1),(2,1)]) (Zau (k:=1005) (C:=fun e=>(Zj ZL (ZY (Za (eUn ZdB (e)) Zh)) (Zj Zbh (ZY (Za (Zg 0) Zh)) (Zj Zu (Zb 1) (Zg 1))))) (e:=(Zr ZR (Za (Zb 0) (Za (Zg 9) Zh)))) (Zcs (Ct.list (Cts.head (Zm9 (Zae)) (fun ρ v H=>rfl))) (fun ρ v H=>rfl)) (EX.call (b:=false) (xs:=[0]) (as:=[some 0,none]) (M:=[]) ZaC (XAs.slot (Zz (Zm _) (by decide) XAs.nil)) (by decide) (by decide) (by decide) (by decide) (by decide) (by decide) (by decide) (by decide) (by decide)) (ZJ (ZbF ZaF (E.list (Zw (Zhw Zhx (Zl 1005)) Zx)) (ZaZ Zen (E.list (Zw (Zm _) Zx)) (ZD ZE (Zl 1) (Zm _)))) (by decide)) (by decide) (by decide)) (by decide) (by decide)) (SU.seq (SU.putO (x:=8) (N:=[]) (O':=[6,7,8]) (by decide) (Zby (O':=[6,7]) (Zm _)) Zcg (Zl 4) (by decide) (by decide) (by decide)) (SU.seq (Za1 (i:=9) (O':=[6,7,8,9]) (S':=[(0,1),(2,1)]) (Zau (k:=1006) (C:=fun e=>(Zj ZL (ZY (Za (Zj ZL (Zg 1) (e)) Zh)) (Zj Zbh (ZY (Za (Zg 0) Zh)) (Zj Zu (Zb 1) (Zg 1))))) (e:=(Zr ZR (Za (Zb 0) (Za (Zg 3) Zh)))) (Zcs (Ct.list (Cts.head (Zcc (Zae) Vl.int) (fun ρ v H=>rfl))) (fun ρ v H=>rfl)) (EX.call (b:=false) (xs:=[0]) (as:=[some 0,none]) (M:=[]) ZaC (XAs.slot (Zz (Zm _) (by decide) XAs.nil)) (by decide) (by decide) (by decide) (by decide) (by decide) (by decide) (by decide) (by decide) (by decide)) (ZJ (ZbF ZaF (E.list (Zw (ZaZ ZaF (Zm _) (Zl 1006)) Zx)) (ZaZ Zen (E.list (Zw (Zm _) Zx)) (ZD ZE (Zl 1) (Zm _)))) (by decide)) (by decide) (by decide)) (by decide) (by decide)) (SU.seq (SU.putO (x:=9) (N:=[]) (O':=[6,7,8,9]) (by decide) (Zby (O':=[6,7,8]) (Zm _)) Zcg (Zl 4) (by decide) (by decide) (by decide)) (Zai (O':=[6,7]) (S':=[(0,1),(2,1)]) (ZJ (E.tup (ZF (E.str _) (ZF (E.tup (ZF (E.str _) (ZF (E.own (by decide)) Zx (by decide) (by decide)) (by decide) (by decide))) (ZF (ZmN (E.own (by decide)) (E.list (ZF (E.tup (ZF (E.str _) (ZF (E.flat (Zl 4)) (ZF (E.own (by decide)) Zx (by decide) (by decide)) (by decide) (by decide)) (by decide) (by decide))) Zx (by decide) (by decide))) (by decide) (by decide)) Zx (by decide) (by decide)) (by decide) (by decide)) (by decide) (by decide))) (by decide)) (by decide) (by decide)))))) SU.next) (Zai (O':=[6,7]) (S':=[(0,1),(2,1)]) (ZJ (E.tup (ZF (E.str _) (ZF (E.own (by decide)) (ZF (E.own (by decide)) Zx (by decide) (by decide)) (by decide) (by decide)) (by decide) (by decide))) (by decide)) (by decide) (by decide))))))))) (by decide) (by decide)
def ZgP: Sm:=Zs (ZM 2 (Zr ZdL (Za (Zb 0) Zh))) (Zs (ZM 3 (Zr Zdq (Za (Zj oPow (Zg 10) (Zg 60)) (Za (Zj ZL (Zb 2) (Zr ZR (Za (Zb 0) (Za (Zg 20) Zh)))) Zh)))) (Zs (ZM 4 (Zr ZR (Za (Zb 0) (Za (Zg 6) Zh)))) (ZK (Z1 (Za (Zaa (Str.ofString "any")) (Za (Zb 1) (Za (Zj Zu (ZY (Za (Zb 2) (Za (Zb 2) (Za (Zb 2) (Za (Zb 2) (Za (ZbT) (Za (ZbT) Zh))))))) (Zb 4)) (Za (Zj Zu (ZY (Za (Zb 3) (Za (Zb 3) (Za (Zb 3) (Za (ZbT) (Za (Zb 3) (Za (ZbT) Zh))))))) (Zb 4)) Zh))))))))
def ZgQ:=Z5 2 ZgP
def ZgR: PS:=(Zt (ZQ 2 (ZH false [0] ZdM (Zd (Zc 0) Zo))) (Zt (ZQ 3 (Zac 1000 (xP (Zn Zbk (Zk 10) (Zk 60))) (Zac 1001 (ZH false [0] Zar (Zd (Zc 0) (Zd (Zk 20) Zo))) (xP (ZW ZfD (Zd (Zc 1000) (Zd (Zn Zad (Zc 2) (Zc 1001)) Zo))))))) (Zt (ZQ 4 (ZH false [0] Zar (Zd (Zc 0) (Zd (Zk 6) Zo)))) (Z9 (xP (ZaA (Zd (Zap (Str.ofString "any")) (Zd (Zah (Zc 1)) (Zd (Zah (Zn Zy (Zao (Zd (Zc 2) (Zd (Zc 2) (Zd (Zc 2) (Zd (Zc 2) (Zd (Zc7) (Zd (Zc7) Zo))))))) (Zc 4))) (Zd (Zah (Zn Zy (Zao (Zd (Zc 3) (Zd (Zc 3) (Zd (Zc 3) (Zd (Zc7) (Zd (Zc 3) (Zd (Zc7) Zo))))))) (Zc 4))) Zo))))))))))
def Ze1: List T→Option (T×List T):=Zaq 2 [(0,1)] ZgR
theorem Zkv: SimX 2 [(0,1)] true ZgQ Ze1:=SimX.of (show SU [] [(0,1)] [] [(0,1)] [(0,1)] true ZgP ZgR from(SU.seq (SU.set (i:=2) (O':=[]) (S':=[(0,1)]) (EX.call (b:=false) (xs:=[0]) (as:=[some 0]) (M:=[]) ZhH (XAs.slot XAs.nil) (by decide) (by decide) (by decide) (by decide) (by decide) (by decide) (by decide) (by decide) (by decide)) (by decide) (by decide) (by decide)) (SU.seq (SU.set (i:=3) (O':=[]) (S':=[(0,1)]) (Zau (k:=1000) (C:=fun e=>(Zr Zdq (Za (e) (Za (Zj ZL (Zb 2) (Zr ZR (Za (Zb 0) (Za (Zg 20) Zh)))) Zh)))) (e:=(Zj oPow (Zg 10) (Zg 60))) (Ct.call (Cts.head (Zae) (fun ρ v H=>rfl))) (ZJ (ZO Zcz (Zm _) (Zm _)) (by decide)) (Zau (k:=1001) (C:=fun e=>(Zr Zdq (Za (Zb 1000) (Za (Zj ZL (Zb 2) (e)) Zh)))) (e:=(Zr ZR (Za (Zb 0) (Za (Zg 20) Zh)))) (Ct.call (Z0 (Cts.head (Zcc (Zae) (Z8 (by decide))) (fun ρ v H=>rfl)) (Z8 (by decide)))) (EX.call (b:=false) (xs:=[0]) (as:=[some 0,none]) (M:=[]) ZaC (XAs.slot (Zz (Zm _) (by decide) XAs.nil)) (by decide) (by decide) (by decide) (by decide) (by decide) (by decide) (by decide) (by decide) (by decide)) (ZJ (Zbv Zmc (Zw (Zl 1000) (Zw (ZaZ ZaF (Zl 2) (Zl 1001)) Zx))) (by decide)) (by decide) (by decide)) (by decide) (by decide)) (by decide) (by decide) (by decide)) (SU.seq (SU.set (i:=4) (O':=[]) (S':=[(0,1)]) (EX.call (b:=false) (xs:=[0]) (as:=[some 0,none]) (M:=[]) ZaC (XAs.slot (Zz (Zm _) (by decide) XAs.nil)) (by decide) (by decide) (by decide) (by decide) (by decide) (by decide) (by decide) (by decide) (by decide)) (by decide) (by decide) (by decide)) (Zai (O':=[]) (S':=[(0,1)]) (ZJ (E.tup (ZF (E.str _) (ZF (E.flat (Zl 1)) (ZF (E.flat (ZD ZE (E.list (Zw (Zl 2) (Zw (Zl 2) (Zw (Zl 2) (Zw (Zl 2) (Zw (Zed) (Zw (Zed) Zx))))))) (Zl 4))) (ZF (E.flat (ZD ZE (E.list (Zw (Zl 3) (Zw (Zl 3) (Zw (Zl 3) (Zw (Zed) (Zw (Zl 3) (Zw (Zed) Zx))))))) (Zl 4))) Zx (by decide) (by decide)) (by decide) (by decide)) (by decide) (by decide)) (by decide) (by decide))) (by decide)) (by decide) (by decide)))))) (by decide) (by decide)
def Zf7(F:List V→Hp→Option (V×Hp)): Sm:=Zs (ZM 4 (Zj Zu (Zb 1) (Zg 1))) (Zs (ZM 5 (Zr ZR (Za (Zb 0) (Za (Zg 11) Zh)))) (Zs (ZM 6 (Zg 0)) (Zs (Z2 (ZZ (Zj oLt (Zj Zu (Zb 1) (Zg 0)) (Zb 4))) (ZM 6 (Zj ZL (Zj ZL (Zj Zu (Zb 1) (Zg 0)) (Zg 1)) (Zr ZR (Za (Zb 0) (Za (Zj ZaP (Zb 4) (Zj Zu (Zb 1) (Zg 0))) Zh))))) Zaj) (Zs (Z2 (ZbZ (ZZ (Zj oLt (Zb 5) (Zg 4))) (ZbZ (ZZ (Zj oGt (Zb 3) (Zg 0))) ZaR)) (ZK (Zr (ZgE F) (Za (Zb 0) (Za (Zb 1) (Za (Zb 2) (Za (Zb 3) (Za (Zb 6) Zh))))))) Zaj) (Zs (Z2 (tOr (ZZ (Zj oEq (Zb 5) (Zg 4))) (tOr (ZZ (Zj oEq (Zb 6) (Zg 0))) Zce)) (ZK (Z1 (Za (Zaa (Str.ofString "say")) (Za (Zr ZdN (Za (Zb 0) (Za (Zb 4) Zh))) Zh)))) Zaj) (Zs (Z2 (ZbZ (ZZ (Zj oEq (Zb 5) (Zg 5))) (ZbZ (ZZ (Zj oGt (Zr Zbg (Za (Zj Zu (Zb 1) (Zg 2)) Zh)) (Zg 0))) ZaR)) (Zs (ZM 7 (Zr ZR (Za (Zb 0) (Za (Zr Zbg (Za (Zj Zu (Zb 1) (Zg 2)) Zh)) Zh)))) (ZK (Z1 (Za (Zaa (Str.ofString "call")) (Za (Zb 6) (Za (Zb 7) (Za (ZaX (Zbj (Za (Zj Zu (Zj Zu (Zb 1) (Zg 2)) (Zb 7)) Zh)) (put1 100) ZaR (Zr ZbN (Za (Zb 0) (Za (Zb 4) Zh)))) Zh))))))) Zaj) (Zs (Z2 (ZZ (Zj oEq (Zb 5) (Zg 6))) (ZK (Zr ZgQ (Za (Zb 0) (Za (Zb 6) Zh)))) Zaj) (Zs (Z2 (ZZ (Zj oGt (Zb 5) (Zg 8))) (ZK (Z1 (Za (Zj Zu (ZY (Za (Zaa (Str.ofString "part")) (Za (Zaa (Str.ofString "rest")) Zh))) (Zj ZaP (Zb 5) (Zg 9))) (Za (Zb 6) (Za (Zr ZbN (Za (Zb 0) (Za (Zb 4) Zh))) (Za (Zr Zcq (Za (Zb 0) Zh)) Zh)))))) Zaj) (ZK (Z1 (Za (Zaa (Str.ofString "set")) (Za (Zb 6) (Za (Zr ZbN (Za (Zb 0) (Za (Zb 4) Zh))) Zh)))))))))))))
def ZeG(F:List V→Hp→Option (V×Hp)): List V→Hp→Option (V×Hp):=Z5 4 (Zf7 F)
def Zf8(P:List T→Option (T×List T)): PS:=(Zt (ZQ 4 (xP (Zn Zy (Zc 1) (Zk 1)))) (Zt (ZQ 5 (ZH false [0] Zar (Zd (Zc 0) (Zd (Zk 11) Zo)))) (Zt (ZQ 6 (xP (Zk 0))) (Zt (ZaB (xB (ZX (Zn qLt (Zn Zy (Zc 1) (Zk 0)) (Zc 4)))) (ZQ 6 (Zac 1000 (xP (Zn Zad (Zn Zy (Zc 1) (Zk 0)) (Zk 1))) (Zac 1001 (ZH false [0] Zar (Zd (Zc 0) (Zd (Zn ZbD (Zc 4) (Zn Zy (Zc 1) (Zk 0))) Zo))) (xP (pFl (Zn Zad (Zc 1000) (Zc 1001))))))) Zak) (Zt (ZaB (xB (Zb2 (ZX (Zn qLt (Zc 5) (Zk 4))) (Zb2 (ZX (Zn qGt (Zc 3) (Zk 0))) Zbz))) (Z9 (ZH false [0,2] (ZeS P) (Zd (Zc 0) (Zd (Zc 1) (Zd (Zc 2) (Zd (Zc 3) (Zd (Zah ((Zc 6))) Zo))))))) Zak) (Zt (ZaB (xB (bOr (ZX (Zn qEq (Zc 5) (Zk 4))) (bOr (ZX (Zn qEq (Zc 6) (Zk 0))) Zcw))) (Z9 (Zac 1002 (ZH false [0] ZdO (Zd (Zc 0) (Zd (Zc 4) Zo))) (xP (ZaA (Zd (Zap (Str.ofString "say")) (Zd (Zc 1002) Zo)))))) Zak) (Zt (ZaB (xB (Zb2 (ZX (Zn qEq (Zc 5) (Zk 5))) (Zb2 (ZX (Zn qGt (ZW Zbm (Zd (Zn Zy (Zc 1) (Zk 2)) Zo)) (Zk 0))) Zbz))) (Zt (ZQ 7 (ZH false [0] Zar (Zd (Zc 0) (Zd (ZW Zbm (Zd (Zn Zy (Zc 1) (Zk 2)) Zo)) Zo)))) (Z9 (Zac 1003 (ZfH (ZbG (Zd (Zn Zy (Zn Zy (Zc 1) (Zk 2)) (Zc 7)) Zo)) 100 (ZH false [0] ZcJ (Zd (Zc 0) (Zd (Zc 4) Zo)))) (xP (ZaA (Zd (Zap (Str.ofString "call")) (Zd (Zc 6) (Zd (Zc 7) (Zd (Zc 1003) Zo))))))))) Zak) (Zt (ZaB (xB (ZX (Zn qEq (Zc 5) (Zk 6)))) (Z9 (ZH false [0] Ze1 (Zd (Zc 0) (Zd (Zah ((Zc 6))) Zo)))) Zak) (Zt (ZaB (xB (ZX (Zn qGt (Zc 5) (Zk 8)))) (Z9 (Zac 1004 (xP (Zn Zy (Zao (Zd (Zap (Str.ofString "part")) (Zd (Zap (Str.ofString "rest")) Zo))) (Zn ZbD (Zc 5) (Zk 9)))) (Zac 1005 (ZH false [0] ZcJ (Zd (Zc 0) (Zd (Zc 4) Zo))) (Zac 1006 (ZH false [0] ZdR (Zd (Zc 0) Zo)) (xP (ZaA (Zd (Zah (Zc 1004)) (Zd (Zc 6) (Zd (Zc 1005) (Zd (Zc 1006) Zo)))))))))) Zak) (Z9 (Zac 1007 (ZH false [0] ZcJ (Zd (Zc 0) (Zd (Zc 4) Zo))) (xP (ZaA (Zd (Zap (Str.ofString "set")) (Zd (Zc 6) (Zd (Zc 1007) Zo))))))))))))))))
def ZeH(P:List T→Option (T×List T)): List T→Option (T×List T):=Zaq 4 [(0,1),(2,1)] (Zf8 P)
theorem ZjH(ih:SimX 5 [(0,1),(2,1)] true F P): SimX 4 [(0,1),(2,1)] true (ZeG F) (ZeH P):=SimX.of (show SU [] [(0,1),(2,1)] [6] [(0,1),(2,1)] [(0,1),(2,1)] true (Zf7 F) (Zf8 P)from(SU.seq (SU.set (i:=4) (O':=[]) (S':=[(0,1),(2,1)]) (ZJ (ZD ZE (Zl 1) (Zm _)) (by decide)) (by decide) (by decide) (by decide)) (SU.seq (SU.set (i:=5) (O':=[]) (S':=[(0,1),(2,1)]) (EX.call (b:=false) (xs:=[0]) (as:=[some 0,none]) (M:=[]) ZaC (XAs.slot (Zz (Zm _) (by decide) XAs.nil)) (by decide) (by decide) (by decide) (by decide) (by decide) (by decide) (by decide) (by decide) (by decide)) (by decide) (by decide) (by decide)) (SU.seq (Za1 (i:=6) (O':=[6]) (S':=[(0,1),(2,1)]) (ZJ (Zm _) (by decide)) (by decide) (by decide)) (SU.seq (ZaI (ZaH (Bt.val (ZO Zex (ZD ZE (Zl 1) (Zm _)) (Zl 4)))) (Za1 (i:=6) (O':=[6]) (S':=[(0,1),(2,1)]) (Zg4 (k:=1000) (C:=fun e=>(Zj ZL (e) (Zr ZR (Za (Zb 0) (Za (Zj ZaP (Zb 4) (Zj Zu (Zb 1) (Zg 0))) Zh))))) (e:=(Zj ZL (Zj Zu (Zb 1) (Zg 0)) (Zg 1))) (Zcs (Zae) (fun ρ v H=>rfl)) (ZJ (ZaZ ZaF (ZD ZE (Zl 1) (Zm _)) (Zm _)) (by decide)) (Zau (k:=1001) (C:=fun e=>(Zj ZL (Zb 1000) (e))) (e:=(Zr ZR (Za (Zb 0) (Za (Zj ZaP (Zb 4) (Zj Zu (Zb 1) (Zg 0))) Zh)))) (Zcc (Zae) (Z8 (by decide))) (EX.call (b:=false) (xs:=[0]) (as:=[some 0,none]) (M:=[]) ZaC (XAs.slot (Zz (ZO ZbV (Zl 4) (ZD ZE (Zl 1) (Zm _))) (by decide) XAs.nil)) (by decide) (by decide) (by decide) (by decide) (by decide) (by decide) (by decide) (by decide) (by decide)) (ZJ (ZbF ZaF (Zl 1000) (Zl 1001)) (by decide)) (by decide) (by decide)) (by decide) (by decide) (by decide) (by decide)) (by decide) (by decide)) SU.next) (SU.seq (ZaI (ZaH (Zdp (Bt.val (ZO Zex (Zl 5) (Zm _))) (Zdp (Bt.val (ZO ZdH (Zl 3) (Zm _))) ZcT))) (Zai (O':=[6]) (S':=[(0,1),(2,1)]) (EX.call (b:=false) (xs:=[0,2]) (as:=[some 0,none,some 2,none,none]) (M:=[1,3]) (Zka ih) (XAs.slot (Zz (Zl 1) (by decide) (XAs.slot (Zz (Zl 3) (by decide) (Zz (E.flat ((Zl 6))) (by decide) XAs.nil))))) (by decide) (by decide) (by decide) (by decide) (by decide) (by decide) (by decide) (by decide) (by decide)) (by decide) (by decide)) SU.next) (SU.seq (ZaI (ZaH (Zbd (Bt.val (ZO ZaY (Zl 5) (Zm _))) (Zbd (Bt.val (ZO ZaY (Zl 6) (Zm _))) Zdh))) (Zai (O':=[6]) (S':=[(0,1),(2,1)]) (Zau (k:=1002) (C:=fun e=>(Z1 (Za (Zaa (Str.ofString "say")) (Za (e) Zh)))) (e:=(Zr ZdN (Za (Zb 0) (Za (Zb 4) Zh)))) (Ct.tup (Z0 (Cts.head (Zae) (fun ρ v H=>rfl)) Vl.str)) (EX.call (b:=false) (xs:=[0]) (as:=[some 0,none]) (M:=[4]) ZhK (XAs.slot (Zz (Zl 4) (by decide) XAs.nil)) (by decide) (by decide) (by decide) (by decide) (by decide) (by decide) (by decide) (by decide) (by decide)) (ZJ (E.tup (ZF (E.str _) (ZF (E.own (by decide)) Zx (by decide) (by decide)) (by decide) (by decide))) (by decide)) (by decide) (by decide)) (by decide) (by decide)) SU.next) (SU.seq (ZaI (ZaH (Zdp (Bt.val (ZO ZaY (Zl 5) (Zm _))) (Zdp (Bt.val (ZO ZdH (Zbv ZbW (Zw (ZD ZE (Zl 1) (Zm _)) Zx)) (Zm _))) ZcT))) (SU.seq (Za1 (i:=7) (O':=[6,7]) (S':=[(0,1),(2,1)]) (EX.call (b:=false) (xs:=[0]) (as:=[some 0,none]) (M:=[]) ZaC (XAs.slot (Zz (Zbv ZbW (Zw (ZD ZE (Zl 1) (Zm _)) Zx)) (by decide) XAs.nil)) (by decide) (by decide) (by decide) (by decide) (by decide) (by decide) (by decide) (by decide) (by decide)) (by decide) (by decide)) (Zai (O':=[6]) (S':=[(0,1),(2,1)]) (Zau (k:=1003) (C:=fun e=>(Z1 (Za (Zaa (Str.ofString "call")) (Za (Zb 6) (Za (Zb 7) (Za (e) Zh)))))) (e:=(ZaX (Zbj (Za (Zj Zu (Zj Zu (Zb 1) (Zg 2)) (Zb 7)) Zh)) (put1 100) ZaR (Zr ZbN (Za (Zb 0) (Za (Zb 4) Zh))))) (Ct.tup (Z0 (Z0 (Z0 (Cts.head (Zae) (fun ρ v H=>rfl)) (Z8 (by decide))) (Z8 (by decide))) Vl.str)) (EX.comp (Gs.range (Zw (ZD ZE (ZD ZE (Zl 1) (Zm _)) (Zl 7)) Zx)) (by decide) (by decide) (EX.call (b:=false) (xs:=[0]) (as:=[some 0,none]) (M:=[4]) ZeL (XAs.slot (Zz (Zl 4) (by decide) XAs.nil)) (by decide) (by decide) (by decide) (by decide) (by decide) (by decide) (by decide) (by decide) (by decide))) (ZJ (E.tup (ZF (E.str _) (ZF (E.own (by decide)) (ZF (E.own (by decide)) (ZF (E.own (by decide)) Zx (by decide) (by decide)) (by decide) (by decide)) (by decide) (by decide)) (by decide) (by decide))) (by decide)) (by decide) (by decide)) (by decide) (by decide))) SU.next) (SU.seq (ZaI (ZaH (Bt.val (ZO ZaY (Zl 5) (Zm _)))) (Zai (O':=[6]) (S':=[(0,1),(2,1)]) (EX.call (b:=false) (xs:=[0]) (as:=[some 0,none]) (M:=[]) Zkv (XAs.slot (Zz (E.flat ((Zl 6))) (by decide) XAs.nil)) (by decide) (by decide) (by decide) (by decide) (by decide) (by decide) (by decide) (by decide) (by decide)) (by decide) (by decide)) SU.next) (SU.seq (ZaI (ZaH (Bt.val (ZO ZdH (Zl 5) (Zm _)))) (Zai (O':=[6]) (S':=[(0,1),(2,1)]) (Zg4 (k:=1004) (C:=fun e=>(Z1 (Za (e) (Za (Zb 6) (Za (Zr ZbN (Za (Zb 0) (Za (Zb 4) Zh))) (Za (Zr Zcq (Za (Zb 0) Zh)) Zh)))))) (e:=(Zj Zu (ZY (Za (Zaa (Str.ofString "part")) (Za (Zaa (Str.ofString "rest")) Zh))) (Zj ZaP (Zb 5) (Zg 9)))) (Ct.tup (Cts.head (Zae) (fun ρ v H=>rfl))) (ZJ (ZD ZE (E.list (Zw (E.str _) (Zw (E.str _) Zx))) (ZO ZbV (Zl 5) (Zm _))) (by decide)) (Zau (k:=1005) (C:=fun e=>(Z1 (Za (Zb 1004) (Za (Zb 6) (Za (e) (Za (Zr Zcq (Za (Zb 0) Zh)) Zh)))))) (e:=(Zr ZbN (Za (Zb 0) (Za (Zb 4) Zh)))) (Ct.tup (Z0 (Z0 (Cts.head (Zae) (fun ρ v H=>rfl)) (Z8 (by decide))) (Z8 (by decide)))) (EX.call (b:=false) (xs:=[0]) (as:=[some 0,none]) (M:=[4]) ZeL (XAs.slot (Zz (Zl 4) (by decide) XAs.nil)) (by decide) (by decide) (by decide) (by decide) (by decide) (by decide) (by decide) (by decide) (by decide)) (Zau (k:=1006) (C:=fun e=>(Z1 (Za (Zb 1004) (Za (Zb 6) (Za (Zb 1005) (Za (e) Zh)))))) (e:=(Zr Zcq (Za (Zb 0) Zh))) (Ct.tup (Z0 (Z0 (Z0 (Cts.head (Zae) (fun ρ v H=>rfl)) (Z8 (by decide))) (Z8 (by decide))) (Z8 (by decide)))) (EX.call (b:=false) (xs:=[0]) (as:=[some 0]) (M:=[]) ZhO (XAs.slot XAs.nil) (by decide) (by decide) (by decide) (by decide) (by decide) (by decide) (by decide) (by decide) (by decide)) (ZJ (E.tup (ZF (E.flat (Zl 1004)) (ZF (E.own (by decide)) (ZF (E.own (by decide)) (ZF (E.own (by decide)) Zx (by decide) (by decide)) (by decide) (by decide)) (by decide) (by decide)) (by decide) (by decide))) (by decide)) (by decide) (by decide)) (by decide) (by decide)) (by decide) (by decide) (by decide) (by decide)) (by decide) (by decide)) SU.next) (Zai (O':=[6]) (S':=[(0,1),(2,1)]) (Zau (k:=1007) (C:=fun e=>(Z1 (Za (Zaa (Str.ofString "set")) (Za (Zb 6) (Za (e) Zh))))) (e:=(Zr ZbN (Za (Zb 0) (Za (Zb 4) Zh)))) (Ct.tup (Z0 (Z0 (Cts.head (Zae) (fun ρ v H=>rfl)) (Z8 (by decide))) Vl.str)) (EX.call (b:=false) (xs:=[0]) (as:=[some 0,none]) (M:=[4]) ZeL (XAs.slot (Zz (Zl 4) (by decide) XAs.nil)) (by decide) (by decide) (by decide) (by decide) (by decide) (by decide) (by decide) (by decide) (by decide)) (ZJ (E.tup (ZF (E.str _) (ZF (E.own (by decide)) (ZF (E.own (by decide)) Zx (by decide) (by decide)) (by decide) (by decide)) (by decide) (by decide))) (by decide)) (by decide) (by decide)) (by decide) (by decide)))))))))))) (by decide) (by decide)
def ZgG(F:List V→Hp→Option (V×Hp)): Sm:=Zs (ZM 5 (ZY Zh)) (Zs (ZaE (Zbj (Za (Zb 4) Zh)) (put1 6) (Z2 (ZZ (Zj oGt (Zj Zu (Zb 2) (Zg 0)) (Zg 0))) (Zs (ZaK (Zj ZaP (Zj Zu (Zb 2) (Zg 0)) (Zg 1)) (Zb 2) (Zg 0)) (Zaf (ZaU (Zb 5) (Zr (ZeG F) (Za (Zb 0) (Za (Zb 1) (Za (Zb 2) (Za (Zb 3) Zh)))))))) Zaj)) (ZK (Zb 5)))
def ZcK: Nat→List V→Hp→Option (V×Hp)
 | 0=>fun _ _=>none
 | n+1=>Z5 5 (ZgG (ZcK n))
def ZeT: List V→Hp→Option (V×Hp):=ZcK 9
def ZeU(P:List T→Option (T×List T)): PS:=(Zt (ZQ 5 (xP (Zao Zo))) (Zt (Za0 (ZbG (Zd (Zc 4) Zo)) (Zav 6) (ZaB (xB (ZX (Zn qGt (Zn Zy (Zc 2) (Zk 0)) (Zk 0)))) (Zt (ZbB 2 1 false (Zn ZbD (Zn Zy (Zc 2) (Zk 0)) (Zk 1)) Zab (Zk 0)) (Zc4 1000 (ZH false [0,2] (ZeH P) (Zd (Zc 0) (Zd (Zc 1) (Zd (Zc 2) (Zd (Zc 3) Zo))))) (Zbn 5 [1000] Zab (Zc 1000)))) Zak)) (Z9 (xP (Zc 5)))))
def ZdV: Nat→List T→Option (T×List T)
 | 0=>fun _=>none
 | n+1=>Zaq 5 [(0,1),(2,1)] (ZeU (ZdV n))
def Zh0: List T→Option (T×List T):=ZdV 9
theorem ZhV: ∀n:Nat,SimX 5 [(0,1),(2,1)] true (ZcK n) (ZdV n)
 | 0=>ZgN
 | n+1=>by
  have ih:=ZhV n
  exact SimX.of (show SU [] [(0,1),(2,1)] [5] [(0,1),(2,1)] [(0,1),(2,1)] true (ZgG (ZcK n)) (ZeU (ZdV n))from(SU.seq (Za1 (i:=5) (O':=[5]) (S':=[(0,1),(2,1)]) (ZJ (E.list Zx) (by decide)) (by decide) (by decide)) (SU.seq (ZcY (Gs.range (Zw (Zl 4) Zx)) (PutOk.one (j:=6)) PutK.one (by decide) (by decide) (ZaI (ZaH (Bt.val (ZO ZdH (ZD ZE (Zl 2) (Zm _)) (Zm _)))) (SU.seq (SU.putS (x:=2) (d:=1) (own:=false) (O':=[5]) (S':=[(0,1),(2,1)]) (by decide) (by decide) (ZO ZbV (ZD ZE (Zl 2) (Zm _)) (Zm _)) ZbQ (Zm _) (by decide) (by decide) (by decide)) (Zhg (k:=1000) (K:=fun e=>Zaf (ZaU (Zb 5) (e))) (e:=(Zr (ZeG (ZcK n)) (Za (Zb 0) (Za (Zb 1) (Za (Zb 2) (Za (Zb 3) Zh)))))) (Zi9 (Ct.append (Zae) (Z8 (by decide)))) Zej (EX.call (b:=false) (xs:=[0,2]) (as:=[some 0,none,some 2,none]) (M:=[1,3]) (ZjH ih) (XAs.slot (Zz (Zl 1) (by decide) (XAs.slot (Zz (Zl 3) (by decide) XAs.nil)))) (by decide) (by decide) (by decide) (by decide) (by decide) (by decide) (by decide) (by decide) (by decide)) (Zfi (x:=5) (N:=[1000]) (O':=[5]) (by decide) Zcg (Zby (O':=[1000]) (E.own (by decide))) (by decide) (by decide) (by decide)) (by decide) (by decide))) SU.next)) (Zai (O':=[5]) (S':=[(0,1),(2,1)]) (ZJ (E.own (by decide)) (by decide)) (by decide) (by decide))))) (by decide) (by decide)
theorem Zkb: SimX 5 [(0,1),(2,1)] true ZeT Zh0:=ZhV 9
def ZfW: Sm:=Zs (ZM 1 (ZY Zh)) (Zs (ZM 2 (ZY Zh)) (Zs (ZaE (Zbj (Za (Zj ZL (Zg 1) (Zr ZR (Za (Zb 0) (Za (Zg 5) Zh)))) Zh)) (put1 3) (Zs (ZM 4 (Zr ZR (Za (Zb 0) (Za (Zg 3) Zh)))) (Zs (ZM 5 (Zr Zem (Za (Zb 4) (Za (Zj ZL (Zg 1) (Zr ZR (Za (Zb 0) (Za (Zg 4) Zh)))) Zh)))) (Zs (ZM 6 (Zj Zu (ZY (Za (ZY (Za (Zg 4) (Za (Zg 2) Zh))) (Za (ZY (Za (Zg 4) (Za (Zg 2) Zh))) (Za (ZY (Za (Zg 20) (Za (Zg 6) Zh))) Zh)))) (Zr ZR (Za (Zb 0) (Za (Zg 3) Zh))))) (Zs (ZM 7 (Zj ZL (Zg 1) (Zr ZR (Za (Zb 0) (Za (Zg 8) Zh))))) (Zs (Zaf (ZaU (Zb 1) (Z1 (Za (Zb 4) (Za (Zb 5) (Za (Zr ZeT (Za (Zb 0) (Za (Z1 (Za (Zb 4) (Za (Zb 5) (Za (Zb 2) Zh)))) (Za (Zb 6) (Za (Zg 4) (Za (Zb 7) Zh)))))) Zh)))))) (ZM 2 (Zj ZL (Zb 2) (ZY (Za (Zb 4) Zh)))))))))) (ZK (Zb 1))))
def ZeC:=Z5 1 ZfW
def ZfX: PS:=(Zt (ZQ 1 (xP (Zao Zo))) (Zt (ZQ 2 (xP (Zao Zo))) (Zt (ZfI 1005 (Zac 1006 (ZH false [0] Zar (Zd (Zc 0) (Zd (Zk 5) Zo))) (xP (pFl (Zn Zad (Zk 1) (Zc 1006))))) (ZbG (Zd (Zc 1005) Zo)) (Zav 3) (Zt (ZQ 4 (ZH false [0] Zar (Zd (Zc 0) (Zd (Zk 3) Zo)))) (Zt (ZQ 5 (Zac 1000 (ZH false [0] Zar (Zd (Zc 0) (Zd (Zk 4) Zo))) (xP (ZW ZfC (Zd (Zc 4) (Zd (Zn Zad (Zk 1) (Zc 1000)) Zo)))))) (Zt (ZQ 6 (Zac 1001 (xP (Zao (Zd (Zao (Zd (Zk 4) (Zd (Zk 2) Zo))) (Zd (Zao (Zd (Zk 4) (Zd (Zk 2) Zo))) (Zd (Zao (Zd (Zk 20) (Zd (Zk 6) Zo))) Zo))))) (Zac 1002 (ZH false [0] Zar (Zd (Zc 0) (Zd (Zk 3) Zo))) (xP (Zn Zy (Zc 1001) (Zc 1002)))))) (Zt (ZQ 7 (Zac 1003 (ZH false [0] Zar (Zd (Zc 0) (Zd (Zk 8) Zo))) (xP (Zn Zad (Zk 1) (Zc 1003))))) (Zt (Zc4 1004 (ZH false [0,6] Zh0 (Zd (Zc 0) (Zd (ZaA (Zd (Zc 4) (Zd (Zc 5) (Zd (Zc 2) Zo)))) (Zd (Zc 6) (Zd (Zk 4) (Zd (Zc 7) Zo)))))) (Zbn 1 [1004] Zab (ZaA (Zd (Zah (Zc 4)) (Zd (Zah (Zc 5)) (Zd (Zc 1004) Zo)))))) (ZQ 2 (xP (Zn Zad (Zc 2) (Zao (Zd (Zc 4) Zo))))))))))) (Z9 (xP (Zc 1))))))
def ZeD: List T→Option (T×List T):=Zaq 1 [(0,1)] ZfX
theorem ZjB: SimX 1 [(0,1)] true ZeC ZeD:=SimX.of (show SU [] [(0,1)] [1] [(0,1)] [(0,1)] true ZfW ZfX from(SU.seq (Za1 (i:=1) (O':=[1]) (S':=[(0,1)]) (ZJ (E.list Zx) (by decide)) (by decide) (by decide)) (SU.seq (SU.set (i:=2) (O':=[1]) (S':=[(0,1)]) (ZJ (E.list Zx) (by decide)) (by decide) (by decide) (by decide)) (SU.seq (ZlH (k:=1005) (g:=fun e=>Zbj (Za e Zh)) (e:=(Zj ZL (Zg 1) (Zr ZR (Za (Zb 0) (Za (Zg 5) Zh))))) (Cg.range (Cts.head Zae (fun ρ v H=>rfl))) (Zau (k:=1006) (C:=fun e=>(Zj ZL (Zg 1) (e))) (e:=(Zr ZR (Za (Zb 0) (Za (Zg 5) Zh)))) (Zcc (Zae) Vl.int) (EX.call (b:=false) (xs:=[0]) (as:=[some 0,none]) (M:=[]) ZaC (XAs.slot (Zz (Zm _) (by decide) XAs.nil)) (by decide) (by decide) (by decide) (by decide) (by decide) (by decide) (by decide) (by decide) (by decide)) (ZJ (ZbF ZaF (Zm _) (Zl 1006)) (by decide)) (by decide) (by decide)) (Gs.range (Zw (Zl 1005) Zx)) (by decide) (PutOk.one (j:=3)) PutK.one (by decide) (ZiI (O1:=[1]) (S1:=[(6,1),(0,1)]) (SU.seq (SU.set (i:=4) (O':=[1]) (S':=[(0,1)]) (EX.call (b:=false) (xs:=[0]) (as:=[some 0,none]) (M:=[]) ZaC (XAs.slot (Zz (Zm _) (by decide) XAs.nil)) (by decide) (by decide) (by decide) (by decide) (by decide) (by decide) (by decide) (by decide) (by decide)) (by decide) (by decide) (by decide)) (SU.seq (SU.set (i:=5) (O':=[1]) (S':=[(0,1)]) (Zau (k:=1000) (C:=fun e=>(Zr Zem (Za (Zb 4) (Za (Zj ZL (Zg 1) (e)) Zh)))) (e:=(Zr ZR (Za (Zb 0) (Za (Zg 4) Zh)))) (Ct.call (Z0 (Cts.head (Zcc (Zae) Vl.int) (fun ρ v H=>rfl)) (Z8 (by decide)))) (EX.call (b:=false) (xs:=[0]) (as:=[some 0,none]) (M:=[]) ZaC (XAs.slot (Zz (Zm _) (by decide) XAs.nil)) (by decide) (by decide) (by decide) (by decide) (by decide) (by decide) (by decide) (by decide) (by decide)) (ZJ (Zbv Zmb (Zw (Zl 4) (Zw (ZaZ ZaF (Zm _) (Zl 1000)) Zx))) (by decide)) (by decide) (by decide)) (by decide) (by decide) (by decide)) (SU.seq (ZiJ (i:=6) (d:=1) (O':=[1]) (S':=[(0,1)]) (Zau (k:=1001) (C:=fun e=>(Zj Zu (e) (Zr ZR (Za (Zb 0) (Za (Zg 3) Zh))))) (e:=(ZY (Za (ZY (Za (Zg 4) (Za (Zg 2) Zh))) (Za (ZY (Za (Zg 4) (Za (Zg 2) Zh))) (Za (ZY (Za (Zg 20) (Za (Zg 6) Zh))) Zh))))) (Zcs (Zae) (fun ρ v H=>rfl)) (ZJ (E.list (ZF (E.list (ZF (Zm _) (ZF (Zm _) Zx (by decide) (by decide)) (by decide) (by decide))) (ZF (E.list (ZF (Zm _) (ZF (Zm _) Zx (by decide) (by decide)) (by decide) (by decide))) (ZF (E.list (ZF (Zm _) (ZF (Zm _) Zx (by decide) (by decide)) (by decide) (by decide))) Zx (by decide) (by decide)) (by decide) (by decide)) (by decide) (by decide))) (by decide)) (Zau (k:=1002) (C:=fun e=>(Zj Zu (Zb 1001) (e))) (e:=(Zr ZR (Za (Zb 0) (Za (Zg 3) Zh)))) (Zcc (Zae) (Z8 (by decide))) (EX.call (b:=false) (xs:=[0]) (as:=[some 0,none]) (M:=[]) ZaC (XAs.slot (Zz (Zm _) (by decide) XAs.nil)) (by decide) (by decide) (by decide) (by decide) (by decide) (by decide) (by decide) (by decide) (by decide)) (ZJ (ZD ZE (E.own (by decide)) (Zl 1002)) (by decide)) (by decide) (by decide)) (by decide) (by decide)) (by decide) (by decide)) (SU.seq (SU.set (i:=7) (O':=[1]) (S':=[(6,1),(0,1)]) (Zau (k:=1003) (C:=fun e=>(Zj ZL (Zg 1) (e))) (e:=(Zr ZR (Za (Zb 0) (Za (Zg 8) Zh)))) (Zcc (Zae) Vl.int) (EX.call (b:=false) (xs:=[0]) (as:=[some 0,none]) (M:=[]) ZaC (XAs.slot (Zz (Zm _) (by decide) XAs.nil)) (by decide) (by decide) (by decide) (by decide) (by decide) (by decide) (by decide) (by decide) (by decide)) (ZJ (ZaZ ZaF (Zm _) (Zl 1003)) (by decide)) (by decide) (by decide)) (by decide) (by decide) (by decide)) (SU.seq (Zhg (k:=1004) (K:=fun e=>Zaf (ZaU (Zb 1) (Z1 (Za (Zb 4) (Za (Zb 5) (Za (e) Zh)))))) (e:=(Zr ZeT (Za (Zb 0) (Za (Z1 (Za (Zb 4) (Za (Zb 5) (Za (Zb 2) Zh)))) (Za (Zb 6) (Za (Zg 4) (Za (Zb 7) Zh))))))) (Zi9 (Ct.append (Ct.tup (Z0 (Z0 (Cts.head (Zae) (fun ρ v H=>rfl)) (Z8 (by decide))) (Z8 (by decide)))) (Z8 (by decide)))) Zej (EX.call (b:=false) (xs:=[0,6]) (as:=[some 0,none,some 6,none,none]) (M:=[4,5,2,7]) Zkb (XAs.slot (Zz (E.tup (Zw (Zl 4) (Zw (Zl 5) (Zw (Zl 2) Zx)))) (by decide) (XAs.slot (Zz (Zm _) (by decide) (Zz (Zl 7) (by decide) XAs.nil))))) (by decide) (by decide) (by decide) (by decide) (by decide) (by decide) (by decide) (by decide) (by decide)) (Zfi (x:=1) (N:=[1004]) (O':=[1]) (by decide) Zcg (Zby (O':=[1004]) (E.tup (ZF (E.flat (Zl 4)) (ZF (E.flat (Zl 5)) (ZF (E.own (by decide)) Zx (by decide) (by decide)) (by decide) (by decide)) (by decide) (by decide)))) (by decide) (by decide) (by decide)) (by decide) (by decide)) (SU.set (i:=2) (O':=[1]) (S':=[(6,1),(0,1)]) (ZJ (ZaZ ZaF (Zl 2) (E.list (Zw (Zl 4) Zx))) (by decide)) (by decide) (by decide) (by decide))))))) (by decide) (by decide))) (Zai (O':=[1]) (S':=[(0,1)]) (ZJ (E.own (by decide)) (by decide)) (by decide) (by decide)))))) (by decide) (by decide)
def Zgj(F:List V→Hp→Option (V×Hp)): Sm:=Zs (Z2 (ZZ (eIs "list" (Zb 0))) (ZK (ZaX (Za4 (Zb 0)) (put1 100) ZaR (Zr F (Za (Zb 100) Zh)))) Zaj) (Zs (Z2 (ZZ (eIs "tuple" (Zb 0))) (ZK (Zr ZbP (Za (ZaX (Za4 (Zb 0)) (put1 102) ZaR (Zr F (Za (Zb 102) Zh))) Zh))) Zaj) (ZK (Zb 0)))
def Zc9: Nat→List V→Hp→Option (V×Hp)
 | 0=>fun _ _=>none
 | n+1=>Z5 1 (Zgj (Zc9 n))
def Zgk: List V→Hp→Option (V×Hp):=Zc9 24
def Zdb(F:List T→Option T): PS:=(Zt (qIf (ZX (pIs "list" (Zc 0))) (Za5 (Zcj (ZaT (Zc 0)) (Zav 100) Zbz (ZW F (Zd (Zc 100) Zo)))) Zak) (Zt (qIf (ZX (pIs "tuple" (Zc 0))) (Za5 (ZW ZcU (Zd (Zcj (ZaT (Zc 0)) (Zav 102) Zbz (ZW F (Zd (Zc 102) Zo))) Zo))) Zak) (Za5 (Zc 0))))
def ZcG: Nat→List T→Option T
 | 0=>fun _=>none
 | n+1=>Zbo 1 (Zdb (ZcG n))
def ZhP: List T→Option T:=ZcG 24
theorem Zf9: ∀n:Nat,SimF false (Zc9 n) (ZcG n)
 | 0=>Zh6
 | n+1=>SimF.of (show S [] [] [] false (Zgj (Zc9 n)) (Zdb (ZcG n))from(Zck (ZcA (Bt.val (Zb3 (Zl 0))) (Zcl (ZiC (Gs.seq (Zl 0)) PutOk.one (by decide) ZcT (Zb1 (Zf9 n) (Zw (Zl 100) Zx)))) Zcy) (Zck (ZcA (Bt.val (Zb3 (Zl 0))) (Zcl (ZiB ZkK (Zw (ZiC (Gs.seq (Zl 0)) PutOk.one (by decide) ZcT (Zb1 (Zf9 n) (Zw (Zl 102) Zx))) Zx))) Zcy) (Zcl (Zl 0)))))
theorem ZjJ: SimF false Zgk ZhP:=Zf9 24
def Zgu(F:List V→Hp→Option (V×Hp)): Sm:=ZaE (Za4 (Zb 0)) (put1 4) (Zs (ZaK (Zj ZL (Zj Zu (Zb 2) (Zg 0)) (Zg 1)) (Zb 2) (Zg 0)) (Zs (Z2 (ZZ (Zj oEq (Zj Zu (Zb 4) (Zg 0)) (Zaa (Str.ofString "if")))) (Zs (Zaf (Zr F (Za (Zj Zu (Zb 4) (Zg 2)) (Za (Zj Zu (Zb 2) (Zg 0)) (Za (Zb 2) (Za (Zb 3) Zh)))))) (Zs (ZaK (Zj ZL (Zj Zu (Zb 2) (Zg 0)) (Zg 1)) (Zb 2) (Zg 0)) (Zs (Zaf (Zr F (Za (Zj Zu (Zb 4) (Zg 3)) (Za (Zj Zu (Zb 2) (Zg 0)) (Za (Zb 2) (Za (Zb 3) Zh)))))) (ZaK (Zj ZL (Zj Zu (Zb 2) (Zg 0)) (Zg 1)) (Zb 2) (Zg 0))))) (Z2 (ZZ (Zj oEq (Zj Zu (Zb 4) (Zg 0)) (Zaa (Str.ofString "while")))) (Zs (ZaK (Zj ZL (Zj Zu (Zb 2) (Zg 0)) (Zg 1)) (Zb 2) (Zg 0)) (Zs (Zaf (Zr F (Za (Zj Zu (Zb 4) (Zg 2)) (Za (Zj Zu (Zb 2) (Zg 0)) (Za (Zb 2) (Za (Zb 3) Zh)))))) (ZaK (Zj ZL (Zj Zu (Zb 2) (Zg 0)) (Zg 1)) (Zb 2) (Zg 0)))) (Z2 (ZZ (Zj oEq (Zj Zu (Zb 4) (Zg 0)) (Zaa (Str.ofString "say")))) (Zaf (ZaU (Zb 3) (Z1 (Za (Zb 1) (Za (Zj Zu (Zb 4) (Zg 1)) Zh))))) Zaj))) (ZM 1 (Zj Zu (Zb 2) (Zg 0)))))
def Zdc: Nat→List V→Hp→Option (V×Hp)
 | 0=>fun _ _=>none
 | n+1=>Z5 4 (Zgu (Zdc n))
def ZdT: List V→Hp→Option (V×Hp):=Zdc 24
def ZeM(P:List T→Option (T×List T)): PS:=(Za0 (ZaT (Zc 0)) (Zav 4) (Zt (ZbB 2 1 false (pFl (Zn Zad (Zn Zy (Zc 2) (Zk 0)) (Zk 1))) Zab (Zk 0)) (Zt (ZaB (xB (ZX (Zn qEq (Zn Zy (Zc 4) (Zk 0)) (Zap (Str.ofString "if"))))) (Zt (ZbX (ZH false [2,3] P (Zd (Zn Zy (Zc 4) (Zk 2)) (Zd (Zah ((Zn Zy (Zc 2) (Zk 0)))) (Zd (Zc 2) (Zd (Zc 3) Zo)))))) (Zt (ZbB 2 1 false (pFl (Zn Zad (Zn Zy (Zc 2) (Zk 0)) (Zk 1))) Zab (Zk 0)) (Zt (ZbX (ZH false [2,3] P (Zd (Zn Zy (Zc 4) (Zk 3)) (Zd (Zah ((Zn Zy (Zc 2) (Zk 0)))) (Zd (Zc 2) (Zd (Zc 3) Zo)))))) (ZbB 2 1 false (pFl (Zn Zad (Zn Zy (Zc 2) (Zk 0)) (Zk 1))) Zab (Zk 0))))) (ZaB (xB (ZX (Zn qEq (Zn Zy (Zc 4) (Zk 0)) (Zap (Str.ofString "while"))))) (Zt (ZbB 2 1 false (pFl (Zn Zad (Zn Zy (Zc 2) (Zk 0)) (Zk 1))) Zab (Zk 0)) (Zt (ZbX (ZH false [2,3] P (Zd (Zn Zy (Zc 4) (Zk 2)) (Zd (Zah ((Zn Zy (Zc 2) (Zk 0)))) (Zd (Zc 2) (Zd (Zc 3) Zo)))))) (ZbB 2 1 false (pFl (Zn Zad (Zn Zy (Zc 2) (Zk 0)) (Zk 1))) Zab (Zk 0)))) (ZaB (xB (ZX (Zn qEq (Zn Zy (Zc 4) (Zk 0)) (Zap (Str.ofString "say"))))) (ZcB 3 1 false Zab (ZaA (Zd (Zc 1) (Zd (Zn Zy (Zc 4) (Zk 1)) Zo)))) Zak))) (ZQ 1 (xP (Zah (Zn Zy (Zc 2) (Zk 0))))))))
def ZdS: Nat→List T→Option (T×List T)
 | 0=>fun _=>none
 | n+1=>Zaq 4 [(2,1),(3,1)] (ZeM (ZdS n))
def ZhS: List T→Option (T×List T):=ZdS 24
theorem ZhQ: ∀n:Nat,SimX 4 [(2,1),(3,1)] true (Zdc n) (ZdS n)
 | 0=>ZgN
 | n+1=>by
  have ih:=ZhQ n
  exact SimX.of (show SU [] [(2,1),(3,1)] [] [(2,1),(3,1)] [(2,1),(3,1)] true (Zgu (Zdc n)) (ZeM (ZdS n))from(ZcY (Gs.seq (Zl 0)) (PutOk.one (j:=4)) PutK.one (by decide) (by decide) (SU.seq (SU.putS (x:=2) (d:=1) (own:=false) (O':=[]) (S':=[(2,1),(3,1)]) (by decide) (by decide) (ZbF ZaF (ZD ZE (Zl 2) (Zm _)) (Zm _)) ZbQ (Zm _) (by decide) (by decide) (by decide)) (SU.seq (ZaI (ZaH (Bt.val (ZO ZaY (ZD ZE (Zl 4) (Zm _)) (E.str _)))) (SU.seq (ZcX (EX.call (b:=false) (xs:=[2,3]) (as:=[none,none,some 2,some 3]) (M:=[4]) ih (Zz (ZD ZE (Zl 4) (Zm _)) (by decide) (Zz (E.flat ((ZD ZE (Zl 2) (Zm _)))) (by decide) (XAs.slot (XAs.slot XAs.nil)))) (by decide) (by decide) (by decide) (by decide) (by decide) (by decide) (by decide) (by decide) (by decide))) (SU.seq (SU.putS (x:=2) (d:=1) (own:=false) (O':=[]) (S':=[(2,1),(3,1)]) (by decide) (by decide) (ZbF ZaF (ZD ZE (Zl 2) (Zm _)) (Zm _)) ZbQ (Zm _) (by decide) (by decide) (by decide)) (SU.seq (ZcX (EX.call (b:=false) (xs:=[2,3]) (as:=[none,none,some 2,some 3]) (M:=[4]) ih (Zz (ZD ZE (Zl 4) (Zm _)) (by decide) (Zz (E.flat ((ZD ZE (Zl 2) (Zm _)))) (by decide) (XAs.slot (XAs.slot XAs.nil)))) (by decide) (by decide) (by decide) (by decide) (by decide) (by decide) (by decide) (by decide) (by decide))) (SU.putS (x:=2) (d:=1) (own:=false) (O':=[]) (S':=[(2,1),(3,1)]) (by decide) (by decide) (ZbF ZaF (ZD ZE (Zl 2) (Zm _)) (Zm _)) ZbQ (Zm _) (by decide) (by decide) (by decide))))) (ZaI (ZaH (Bt.val (ZO ZaY (ZD ZE (Zl 4) (Zm _)) (E.str _)))) (SU.seq (SU.putS (x:=2) (d:=1) (own:=false) (O':=[]) (S':=[(2,1),(3,1)]) (by decide) (by decide) (ZbF ZaF (ZD ZE (Zl 2) (Zm _)) (Zm _)) ZbQ (Zm _) (by decide) (by decide) (by decide)) (SU.seq (ZcX (EX.call (b:=false) (xs:=[2,3]) (as:=[none,none,some 2,some 3]) (M:=[4]) ih (Zz (ZD ZE (Zl 4) (Zm _)) (by decide) (Zz (E.flat ((ZD ZE (Zl 2) (Zm _)))) (by decide) (XAs.slot (XAs.slot XAs.nil)))) (by decide) (by decide) (by decide) (by decide) (by decide) (by decide) (by decide) (by decide) (by decide))) (SU.putS (x:=2) (d:=1) (own:=false) (O':=[]) (S':=[(2,1),(3,1)]) (by decide) (by decide) (ZbF ZaF (ZD ZE (Zl 2) (Zm _)) (Zm _)) ZbQ (Zm _) (by decide) (by decide) (by decide)))) (ZaI (ZaH (Bt.val (ZO ZaY (ZD ZE (Zl 4) (Zm _)) (E.str _)))) (Zhi (x:=3) (d:=1) (own:=false) (O':=[]) (S':=[(2,1),(3,1)]) (by decide) (by decide) ZbQ (E.tup (Zw (Zl 1) (Zw (ZD ZE (Zl 4) (Zm _)) Zx))) (by decide) (by decide) (by decide)) SU.next))) (SU.set (i:=1) (O':=[]) (S':=[(2,1),(3,1)]) (ZJ (E.flat (ZD ZE (Zl 2) (Zm _))) (by decide)) (by decide) (by decide) (by decide)))))) (by decide) (by decide)
theorem ZjP: SimX 4 [(2,1),(3,1)] true ZdT ZhS:=ZhQ 24
def Zgv: Sm:=Zs (ZM 1 (ZY Zh)) (Zs (ZaE (Zbj (Za (Zr Zbg (Za (Zb 0) Zh)) Zh)) (put1 2) (Zs (ZM 3 (ZY Zh)) (Zs (Zaf (Zr ZdT (Za (Zj Zu (Zj Zu (Zb 0) (Zb 2)) (Zg 2)) (Za (Zg 0) (Za (ZY (Za (Zg 0) Zh)) (Za (Zb 3) Zh)))))) (ZaE (Za4 (Zb 3)) (put1 4) (Zaf (ZaU (Zb 1) (Z1 (Za (Zb 2) (Za (Zj Zu (Zb 4) (Zg 0)) (Za (Zj Zu (Zb 4) (Zg 1)) Zh)))))))))) (ZK (Zb 1)))
def ZeN:=Z5 1 Zgv
def Zgw: PS:=(Zt (Zez 1 (Zao Zo)) (Zt (Za0 (ZbG (Zd (ZW Zbm (Zd (Zc 0) Zo)) Zo)) (Zav 2) (Zt (Zez 3 (Zao Zo)) (Zt (ZbX (Zac 1000 (xP (Zn Zy (Zn Zy (Zc 0) (Zc 2)) (Zk 2))) (Zac 1001 (xP (Zao (Zd (Zk 0) Zo))) (ZH false [1001,3] ZhS (Zd (Zc 1000) (Zd (Zk 0) (Zd (Zc 1001) (Zd (Zc 3) Zo)))))))) (Za0 (ZaT (Zc 3)) (Zav 4) (ZcB 1 1 false Zab (ZaA (Zd (Zc 2) (Zd (Zn Zy (Zc 4) (Zk 0)) (Zd (Zn Zy (Zc 4) (Zk 1)) Zo))))))))) (Z9 (xP (Zc 1)))))
def ZeO: List T→Option (T×List T):=Zaq 1 [] Zgw
theorem ZjQ: SimX 1 [] false ZeN ZeO:=SimX.of (show SU [] [] [] [(1,1)] [] false Zgv Zgw from(SU.seq (ZiK (i:=1) (O':=[]) (S':=[]) Zx (by decide) (by decide) (by decide) (by decide)) (SU.seq (ZcY (Gs.range (Zw (Zbv ZbW (Zw (Zl 0) Zx)) Zx)) (PutOk.one (j:=2)) PutK.one (by decide) (by decide) (SU.seq (ZiK (i:=3) (O':=[]) (S':=[(1,1)]) Zx (by decide) (by decide) (by decide) (by decide)) (SU.seq (ZcX (Zg4 (k:=1000) (C:=fun e=>(Zr ZdT (Za (e) (Za (Zg 0) (Za (ZY (Za (Zg 0) Zh)) (Za (Zb 3) Zh)))))) (e:=(Zj Zu (Zj Zu (Zb 0) (Zb 2)) (Zg 2))) (Ct.call (Cts.head (Zae) (fun ρ v H=>rfl))) (ZJ (ZD ZE (ZD ZE (Zl 0) (Zl 2)) (Zm _)) (by decide)) (Zio (k:=1001) (d:=1) (C:=fun e=>(Zr ZdT (Za (Zb 1000) (Za (Zg 0) (Za (e) (Za (Zb 3) Zh)))))) (e:=(ZY (Za (Zg 0) Zh))) (Ct.call (Z0 (Z0 (Cts.head (Zae) (fun ρ v H=>rfl)) Vl.int) (Z8 (by decide)))) (ZJ (E.list (ZF (Zm _) Zx (by decide) (by decide))) (by decide)) (EX.call (b:=false) (xs:=[1001,3]) (as:=[none,none,some 1001,some 3]) (M:=[1000]) ZjP (Zz (Zl 1000) (by decide) (Zz (Zm _) (by decide) (XAs.slot (XAs.slot XAs.nil)))) (by decide) (by decide) (by decide) (by decide) (by decide) (by decide) (by decide) (by decide) (by decide)) (by decide) (by decide) (by decide)) (by decide) (by decide) (by decide) (by decide))) (Zi8 (O0:=[]) (S0:=[(1,1)]) (ZcY (Gs.seq (Zl 3)) (PutOk.one (j:=4)) PutK.one (by decide) (by decide) (Zhi (x:=1) (d:=1) (own:=false) (O':=[]) (S':=[(1,1)]) (by decide) (by decide) ZbQ (E.tup (Zw (Zl 2) (Zw (ZD ZE (Zl 4) (Zm _)) (Zw (ZD ZE (Zl 4) (Zm _)) Zx)))) (by decide) (by decide) (by decide))) (by decide) (by decide))))) (Zi8 (O0:=[]) (S0:=[]) (SU.ret (O':=[]) (S':=[(1,1)]) (ZJ (Zl 1) (by decide)) (by decide)) (by decide) (by decide))))) (by decide) (by decide)
def ZeP: List T→Option T:=fun ts=>if ts.length=1 then(ZeO ts).map (·.1)else none
theorem ZjK: SimF false ZeN ZeP:=SimX.sim ZjQ
def ZI: Nat×List Str:=(78,[Str.ofString "rows",Str.ofString "used"])
def Zgl: Sm:=Zs (Zcp (ZI) 0 (ZY Zh) (Zb 0)) (Zcp (ZI) 1 (Zg 0) (Zb 0))
def Zgm:=Z5 1 Zgl
def Zgn: PS:=(Zt (Zes 0 999 true (ZI) 0 (Zao Zo)) (Zes 0 999 true (ZI) 1 (Zk 0)))
def ZeJ: List T→Option (T×List T):=Zaq 1 [(0,999)] Zgn
theorem ZjL: SimX 1 [(0,999)] true Zgm ZeJ:=SimX.of (show SU [] [(0,999)] [] [(0,999)] [(0,999)] true Zgl Zgn from(SU.seq (ZiN (x:=0) (d:=999) (own:=true) (c:=(ZI)) (j:=0) (O':=[]) (S':=[(0,999)]) (by decide) (by decide) (E.list Zx) (by decide) (by decide) (by decide)) (ZiN (x:=0) (d:=999) (own:=true) (c:=(ZI)) (j:=1) (O':=[]) (S':=[(0,999)]) (by decide) (by decide) (Zm _) (by decide) (by decide) (by decide)))) (by decide) (by decide)
def ZeQ: Sm:=Zaf (ZaU (eUn (Zbi (ZI) 0) (Zb 0)) (Z1 (Za (Zb 1) (Za (Zb 2) (Za (Zb 3) Zh)))))
def ZcL:=Z5 4 ZeQ
def Zgx: PS:=(ZcB 0 999 true (Zeq 0 (ZI) 0) (ZaA (Zd (Zah (Zc 1)) (Zd (Zah (Zc 2)) (Zd (Zah (Zc 3)) Zo)))))
def ZdW: List T→Option (T×List T):=Zaq 4 [(0,999)] Zgx
theorem ZhW: SimX 4 [(0,999)] true ZcL ZdW:=SimX.of (show SU [] [(0,999)] [] [(0,999)] [(0,999)] true ZeQ Zgx from(Zhi (x:=0) (d:=999) (own:=true) (O':=[]) (S':=[(0,999)]) (by decide) (by decide) (ZlF (cl:=(ZI)) (j:=0)) (E.tup (ZF (E.flat (Zl 1)) (ZF (E.flat (Zl 2)) (ZF (E.flat (Zl 3)) Zx (by decide) (by decide)) (by decide) (by decide)) (by decide) (by decide))) (by decide) (by decide) (by decide))) (by decide) (by decide)
def Zga: Sm:=Zs (Zcp (ZI) 1 (Zj ZL (eUn (Zbi (ZI) 1) (Zb 0)) (Zg 1)) (Zb 0)) (Zs (Zaf (ZaM (ZI) ZcL (Zb 0) (Za (Zb 1) (Za (Zb 2) (Za (eUn (Zbi (ZI) 1) (Zb 0)) Zh))))) (ZK (eUn (Zbi (ZI) 1) (Zb 0))))
def ZbE:=Z5 3 Zga
def ZaQ(rows:List T)(used:Int): T:=.ob ZI [.lst rows,.int used]
def ZbM: List T→Option (T×List T)
 | [.ob c [.lst rows,.int used],.int h,act]=>if c=ZI∧rows.length<10000 then some (.int (used+1),[ZaQ (rows++[.tup [.int h,act,.int (used+1)]]) (used+1)])else none
 | _=>none
theorem ZjX{H:Hp}{o r:Nat}{rv:List V}{used h:Int}{va:V}(h1:H[o]?=some [.ref r,.int used])(h2:H[r]?=some rv)(ho:o≠0)(hr:r≠0)(hor:r≠o)(hl:rv.length<ZN):
  ZbE [.obj ZI o,.int h,va] H=some (.int (used+1),(H.set o [.ref r,.int (used+1)]).set r (rv++[.tup [.int h,va,.int (used+1)]])):=by
 have hl':rv.length<100000:=by rw[←Zas];exact hl
 have lo:o<H.length:=(Zz6.mp h1).1
 have e1:(H.set o [.ref r,.int (used+1)])[o]?=some [.ref r,.int (used+1)]:=by rw[List.getElem?_set_self lo]
 have e2:(H.set o [.ref r,.int (used+1)])[r]?=some rv:=by rw[List.getElem?_set_ne (Ne.symm hor)];exact h2
 have e3:((H.set o [.ref r,.int (used+1)]).set r (rv++[.tup [.int h,va,.int (used+1)]]))[o]?=some [.ref r,.int (used+1)]:=by rw[List.getElem?_set_ne hor];exact e1
 have lay:ZcL [.obj ZI o,.int h,va,.int (used+1)] (H.set o [.ref r,.int (used+1)])=some (.none,(H.set o [.ref r,.int (used+1)]).set r (rv++[.tup [.int h,va,.int (used+1)]])):=by
  unfold ZcL ZeQ Z5
  simp[Zaf,ZaU,eUn,Zbi,Zb,e1,Z1,Za,Zh,ZcS,e2,hr,hl',Zas]
 have fst:Zcp ZI 1 (Zj ZL (eUn (Zbi ZI 1) (Zb 0)) (Zg 1)) (Zb 0) (fun i=>[V.obj ZI o,.int h,va][i]?) H=some (none,(fun i=>[V.obj ZI o,.int h,va][i]?),H.set o [.ref r,.int (used+1)]):=by
  simp[Zcp,Zj,eUn,Zbi,Zb,h1,Zg,ZL,Zdk,ho]
 unfold ZbE Zga Z5
 rw[if_pos (by rfl)]
 simp only[Zs,fst,Option.bind_some]
 simp[Zaf,ZaM,Zb,ZfP,Za,eUn,Zbi,e1,Zh,lay,ZK,e3]
theorem ZcH: Zjx 3 [(0,999)] [2] true ZbE ZbM:=fun b H vs ts t us Φ Ψ hp hbl hv ht hargs hsp hmo e=>by
 unfold ZbM at e
 split at e
 case h_2=>cases e
 rename_i cc rows used h act
 split at e
 case isFalse=>cases e
 rename_i hc
 obtain⟨rfl,hlen⟩:=hc
 cases e
 obtain⟨v0,ev0,r0⟩:=hargs 0 _ rfl
 obtain⟨v1,ev1,r1⟩:=hargs 1 _ rfl
 obtain⟨v2,ev2,r2⟩:=hargs 2 _ rfl
 match vs,hv with
 | [w0,w1,w2],_=>
 cases ev0;cases ev1;cases ev2
 obtain⟨⟨R,s1,s2,s3⟩,s4,s5⟩:=hsp 0 999 Zz5 _ _ rfl rfl
 obtain⟨s6,_⟩:=s1.unall
 obtain⟨_,eF⟩:=r0.det s6
 obtain⟨m1,m2,m3⟩:=hmo 2 Zz5 _ rfl
 have dj2:∀a∈Ψ 0,a∉Φ 2:=s5 2 _ (by decide) rfl
 obtain rfl:v1=V.int h:=by
  generalize Φ 1=q at r1
  cases r1
  rfl
 generalize hP:Ψ 0=P at *
 cases s6 with
 | @obj _ o vs0 _ F0 eo hs=>
  cases hs with
  | @cons a ta F1 vs1 ts1 F2 ra rb=>
   cases rb with
   | @cons b' tb F3 vs2 ts2 F4 rc rd=>
    cases rd
    cases rc
    cases ra with
    | @ref r rv _ Fr er hrs=>
     have no:o∉(r::Fr)++([]++[]):=(List.nodup_cons.mp s2).1
     have n1:((r::Fr)++([]++[])).Nodup:=(List.nodup_cons.mp s2).2
     simp only[List.append_nil]at no n1
     obtain⟨nr,nF⟩:=List.nodup_cons.mp n1
     have o0:o≠0:=fun q=>s4 (by rw[q];exact Zz5)
     have r0':r≠0:=fun q=>s4 (by rw[q];simp)
     have hor:r≠o:=fun q=>no (by rw[q];exact Zz5)
     have lo:o<H.length:=(Zz6.mp eo).1
     have lr:r<H.length:=(Zz6.mp er).1
     have hl:rv.length<ZN:=by rw[hrs.length,Zas];omega
     have run:=ZjX (h:=h) (va:=v2) eo er o0 r0' hor hl
     generalize hH':(H.set o [.ref r,.int (used+1)]).set r (rv++[.tup [.int h,v2,.int (used+1)]])=H' at run
     have ho':H'[o]?=some [.ref r,.int (used+1)]:=by rw[←hH',List.getElem?_set_ne hor,List.getElem?_set_self lo]
     have hr':H'[r]?=some (rv++[.tup [.int h,v2,.int (used+1)]]):=by rw[←hH',List.getElem?_set_self (by simpa using lr)]
     have fr:∀a,a≠o→a≠r→H'[a]?=H[a]?:=fun a h1 h2=>by rw[←hH',List.getElem?_set_ne (Ne.symm h2),List.getElem?_set_ne (Ne.symm h1)]
     have dF:∀a∈Fr,a∉Φ 2:=fun a m=>dj2 a (by simp[m])
     have rrows:RFs H' (rv++[.tup [.int h,v2,.int (used+1)]]) (rows++[.tup [.int h,act,.int (used+1)]]) (Fr++Φ 2):=by
      have k1:RFs H' rv rows Fr:=hrs.frame fun a m=>fr a (fun q=>no (by rw[←q];exact Zz2 _ m)) (fun q=>nr (by rw[←q];exact m))
      have k2:RF H' v2 act (Φ 2):=r2.frame fun a m=>fr a (fun q=>dj2 o Zz5 (q▸m)) (fun q=>dj2 r (by simp) (q▸m))
      have k3:RFs H' [.int h,v2,.int (used+1)] [.int h,act,.int (used+1)] (Φ 2):=by
       have:=RFs.cons (RF.int (H:=H') h) (RFs.cons k2 (RFs.one (RF.int (H:=H') (used+1))))
       simpa using this
      exact k1.append (RFs.one (.tup k3))
     have rnew:RF H' (.obj ZI o) (ZaQ (rows++[.tup [.int h,act,.int (used+1)]]) (used+1)) (o::r::(Fr++Φ 2)):=by
      have:=RF.obj (c:=ZI) ho' (RFs.cons (RF.ref hr' rrows) (RFs.one (RF.int (used+1))))
      unfold ZaQ
      simpa using this
     have ndn:(o::r::(Fr++Φ 2)).Nodup:=by
      refine List.nodup_cons.mpr ⟨fun q=>?_,List.nodup_cons.mpr ⟨fun q=>?_,List.nodup_append.mpr ⟨nF,m1,fun a m c mc q=>dF a m (q▸mc)⟩⟩⟩
      ·rcases Zz7.mp q with q | q
       ·exact hor q.symm
       ·rcases Zz8.mp q with q | q
        ·exact no (Zz2 _ q)
        ·exact dj2 o Zz5 q
      ·rcases Zz8.mp q with q | q
       ·exact nr q
       ·exact dj2 r (by simp) q
     refine⟨_,H',fun i=>o::r::(Fr++Φ 2),fun i=>o::r::(Fr++Φ 2),[],run,by rw[←hH'];simp,fun a _ hn _=>?_,rfl,fun k i d v u hk hv hu=>?_,.int _,fun a m=>(List.not_mem_nil m).elim,fun _=>⟨List.nodup_nil,fun a m=>(List.not_mem_nil m).elim⟩⟩
     ·have:=hn 0 999 Zz5
      rw[hP]at this
      exact fr a (fun q=>this (by rw[q];exact Zz5)) (fun q=>this (by rw[q];simp))
     ·match k,hk with
      | 0,hk=>
       cases hk
       cases hv
       cases hu
       refine⟨rnew,⟨[],.all rnew,ndn,fun _ _ q=>List.not_mem_nil q⟩,fun a m=>?_,fun a m=>?_,fun a _ q=>List.not_mem_nil q,fun j d' hj m=>?_,fun _ a _ q=>List.not_mem_nil q⟩
       ·rw[hP]
        rcases Zz7.mp m with q | q
        ·exact .inr (by rw[q];exact Zz5)
        ·rcases Zz7.mp q with q | q
         ·exact .inr (by rw[q];simp)
         ·rcases Zz8.mp q with q | q
          ·exact .inr (by simp[q])
          ·exact .inl (m2 a q)
       ·rcases Zz7.mp m with q | q
        ·exact .inr ⟨0,by omega,by rw[eF,q];exact Zz5⟩
        ·rcases Zz7.mp q with q | q
         ·exact .inr ⟨0,by omega,by rw[eF,q];simp⟩
         ·rcases Zz8.mp q with q | q
          ·exact .inr ⟨0,by omega,by rw[eF];simp[q]⟩
          ·exact .inl (m2 a q)
       ·simp at m
        exact absurd m.1 hj
def Zhl(F:List V→Hp→Option (V×Hp)): Sm:=Zs (Z2 (ZZ (eIs "list" (Zb 0))) (ZK (ZaX (Za4 (Zb 0)) (put1 100) ZaR (Zr F (Za (Zb 100) Zh)))) Zaj) (Zs (Z2 (ZZ (eIs "tuple" (Zb 0))) (ZK (Zr ZbP (Za (ZaX (Za4 (Zb 0)) (put1 102) ZaR (Zr F (Za (Zb 102) Zh))) Zh))) Zaj) (ZK (Zb 0)))
def Zdi: Nat→List V→Hp→Option (V×Hp)
 | 0=>fun _ _=>none
 | n+1=>Z5 1 (Zhl (Zdi n))
def Zfk: List V→Hp→Option (V×Hp):=Zdi 24
def Zdl(F:List T→Option T): PS:=(Zt (qIf (ZX (pIs "list" (Zc 0))) (Za5 (Zcj (ZaT (Zc 0)) (Zav 100) Zbz (ZW F (Zd (Zc 100) Zo)))) Zak) (Zt (qIf (ZX (pIs "tuple" (Zc 0))) (Za5 (ZW ZcU (Zd (Zcj (ZaT (Zc 0)) (Zav 102) Zbz (ZW F (Zd (Zc 102) Zo))) Zo))) Zak) (Za5 (Zah (Zc 0)))))
def ZcP: Nat→List T→Option T
 | 0=>fun _=>none
 | n+1=>Zbo 1 (Zdl (ZcP n))
def Zfl: List T→Option T:=ZcP 24
theorem Zg5: ∀n:Nat,SimF true (Zdi n) (ZcP n)
 | 0=>Zh6
 | n+1=>SimF.of (show S [] [] [] true (Zhl (Zdi n)) (Zdl (ZcP n))from(Zck (ZcA (Bt.val (Zb3 (Zl 0))) (Zfs (ZiD (Gs.seq (Zl 0)) PutOk.one (by decide) ZcT (ZbU (Zg5 n) (Zw (Zl 100) Zx)))) Zcy) (Zck (ZcA (Bt.val (Zb3 (Zl 0))) (Zfs (ZlE ZkQ (ZF (ZiD (Gs.seq (Zl 0)) PutOk.one (by decide) ZcT (ZbU (Zg5 n) (Zw (Zl 102) Zx))) Zx (by decide) (by decide)))) Zcy) (Zfs (E.flat (Zl 0))))))
theorem ZiP: SimF true Zfk Zfl:=Zg5 24
def ZgH: Sm:=ZK (Z1 (Za (Zaa (Str.ofString "when")) (Za (Zr Zfk (Za (Zb 0) Zh)) (Za (Zb 1) Zh))))
def Zde:=Z5 2 ZgH
def ZgI: PS:=(Za5 (ZaA (Zd (Zap (Str.ofString "when")) (Zd (ZW Zfl (Zd (Zc 0) Zo)) (Zd (Zah (Zc 1)) Zo)))))
def ZcM:=Zbo 2 ZgI
theorem ZeV: SimF true Zde ZcM:=SimF.of (show S [] [] [] true ZgH ZgI from(Zfs (E.tup (ZF (E.str _) (ZF (ZbU ZiP (Zw (Zl 0) Zx)) (ZF (E.flat (Zl 1)) Zx (by decide) (by decide)) (by decide) (by decide)) (by decide) (by decide)))))
def Zgo(F:List V→Hp→Option (V×Hp)): Sm:=Zs (ZM 3 (ZaM (ZI) ZbE (Zb 0) (Za (Zb 2) (Za (Zr Zde (Za (Zj Zu (Zb 1) (Zg 1)) (Za (Zbx true) Zh))) Zh)))) (Zs (ZM 4 (ZaM (ZI) F (Zb 0) (Za (Zj Zu (Zb 1) (Zg 2)) (Za (Zb 3) Zh)))) (Zs (ZM 5 (ZaM (ZI) ZbE (Zb 0) (Za (Zb 2) (Za (Zr Zde (Za (Zj Zu (Zb 1) (Zg 1)) (Za (Zbx false) Zh))) Zh)))) (Zs (ZM 6 (ZaM (ZI) F (Zb 0) (Za (Zj Zu (Zb 1) (Zg 3)) (Za (Zb 5) Zh)))) (Zs (ZM 7 (ZaM (ZI) ZbE (Zb 0) (Za (Zb 4) (Za (Z1 (Za (Zaa (Str.ofString "go")) Zh)) Zh)))) (Zs (Zaf (ZaM (ZI) ZcL (Zb 0) (Za (Zb 6) (Za (Z1 (Za (Zaa (Str.ofString "go")) Zh)) (Za (Zb 7) Zh))))) (ZK (Zb 7)))))))
def Zgp(F:List V→Hp→Option (V×Hp)): List V→Hp→Option (V×Hp):=Z5 3 (Zgo F)
def Zgq(P:List T→Option (T×List T)): PS:=(Zt (ZQ 3 (ZaN 0 (ZI) (ZH false [0] ZbM (Zd (Zc 0) (Zd (Zc 2) (Zd (ZW ZcM (Zd (Zn Zy (Zc 1) (Zk 1)) (Zd (ZbH true) Zo))) Zo)))))) (Zt (ZQ 4 (ZaN 0 (ZI) (ZH false [0] P (Zd (Zc 0) (Zd (Zn Zy (Zc 1) (Zk 2)) (Zd (Zc 3) Zo)))))) (Zt (ZQ 5 (ZaN 0 (ZI) (ZH false [0] ZbM (Zd (Zc 0) (Zd (Zc 2) (Zd (ZW ZcM (Zd (Zn Zy (Zc 1) (Zk 1)) (Zd (ZbH false) Zo))) Zo)))))) (Zt (ZQ 6 (ZaN 0 (ZI) (ZH false [0] P (Zd (Zc 0) (Zd (Zn Zy (Zc 1) (Zk 3)) (Zd (Zc 5) Zo)))))) (Zt (ZQ 7 (ZaN 0 (ZI) (ZH false [0] ZbM (Zd (Zc 0) (Zd (Zc 4) (Zd (ZaA (Zd (Zap (Str.ofString "go")) Zo)) Zo)))))) (Zt (ZbX (ZaN 0 (ZI) (ZH false [0] ZdW (Zd (Zc 0) (Zd (Zc 6) (Zd (ZaA (Zd (Zap (Str.ofString "go")) Zo)) (Zd (Zah ((Zc 7))) Zo))))))) (Z9 (xP (Zc 7)))))))))
def ZeK(P:List T→Option (T×List T)): List T→Option (T×List T):=Zaq 3 [(0,999)] (Zgq P)
theorem ZjM(ih:SimX 3 [(0,999)] true F P): SimX 3 [(0,999)] true (Zgp F) (ZeK P):=SimX.of (show SU [] [(0,999)] [7] [(0,999)] [(0,999)] true (Zgo F) (Zgq P)from(SU.seq (SU.set (i:=3) (O':=[]) (S':=[(0,999)]) (Za8 (ZcN (mv:=[2]) (ms:=[false,false,true]) (b:=false) (xs:=[0]) (as:=[some 0,none,none]) (M:=[2]) ZcH (XAm.slot (ZcO (Zl 2) (by decide) (XAm.own (ZbU ZeV (Zw (ZD ZE (Zl 1) (Zm _)) (Zw (E.bool _) Zx))) XAm.nil))) (by decide) (by decide) (by decide) (by decide) (by decide) (by decide) (by decide) (by decide) (by decide) (by decide))) (by decide) (by decide) (by decide)) (SU.seq (SU.set (i:=4) (O':=[]) (S':=[(0,999)]) (Za8 (EX.call (b:=false) (xs:=[0]) (as:=[some 0,none,none]) (M:=[1,3]) ih (XAs.slot (Zz (ZD ZE (Zl 1) (Zm _)) (by decide) (Zz (Zl 3) (by decide) XAs.nil))) (by decide) (by decide) (by decide) (by decide) (by decide) (by decide) (by decide) (by decide) (by decide))) (by decide) (by decide) (by decide)) (SU.seq (SU.set (i:=5) (O':=[]) (S':=[(0,999)]) (Za8 (ZcN (mv:=[2]) (ms:=[false,false,true]) (b:=false) (xs:=[0]) (as:=[some 0,none,none]) (M:=[2]) ZcH (XAm.slot (ZcO (Zl 2) (by decide) (XAm.own (ZbU ZeV (Zw (ZD ZE (Zl 1) (Zm _)) (Zw (E.bool _) Zx))) XAm.nil))) (by decide) (by decide) (by decide) (by decide) (by decide) (by decide) (by decide) (by decide) (by decide) (by decide))) (by decide) (by decide) (by decide)) (SU.seq (SU.set (i:=6) (O':=[]) (S':=[(0,999)]) (Za8 (EX.call (b:=false) (xs:=[0]) (as:=[some 0,none,none]) (M:=[1,5]) ih (XAs.slot (Zz (ZD ZE (Zl 1) (Zm _)) (by decide) (Zz (Zl 5) (by decide) XAs.nil))) (by decide) (by decide) (by decide) (by decide) (by decide) (by decide) (by decide) (by decide) (by decide))) (by decide) (by decide) (by decide)) (SU.seq (Za1 (i:=7) (O':=[7]) (S':=[(0,999)]) (Za8 (ZcN (mv:=[2]) (ms:=[false,false,true]) (b:=false) (xs:=[0]) (as:=[some 0,none,none]) (M:=[4]) ZcH (XAm.slot (ZcO (Zl 4) (by decide) (XAm.own (E.tup (ZF (E.str _) Zx (by decide) (by decide))) XAm.nil))) (by decide) (by decide) (by decide) (by decide) (by decide) (by decide) (by decide) (by decide) (by decide) (by decide))) (by decide) (by decide)) (SU.seq (ZcX (Za8 (EX.call (b:=false) (xs:=[0]) (as:=[some 0,none,none,none]) (M:=[6]) ZhW (XAs.slot (Zz (Zl 6) (by decide) (Zz (E.tup (Zw (E.str _) Zx)) (by decide) (Zz (E.flat ((Zl 7))) (by decide) XAs.nil)))) (by decide) (by decide) (by decide) (by decide) (by decide) (by decide) (by decide) (by decide) (by decide)))) (Zai (O':=[7]) (S':=[(0,999)]) (ZJ (E.own (by decide)) (by decide)) (by decide) (by decide))))))))) (by decide) (by decide)
def ZfY(F:List V→Hp→Option (V×Hp)): Sm:=Zs (ZM 3 (ZaM (ZI) ZbE (Zb 0) (Za (Zb 2) (Za (Z1 (Za (Zaa (Str.ofString "go")) Zh)) Zh)))) (Zs (ZM 4 (ZaM (ZI) ZbE (Zb 0) (Za (Zb 3) (Za (Zr Zde (Za (Zj Zu (Zb 1) (Zg 1)) (Za (Zbx true) Zh))) Zh)))) (Zs (ZM 5 (ZaM (ZI) F (Zb 0) (Za (Zj Zu (Zb 1) (Zg 2)) (Za (Zb 4) Zh)))) (Zs (Zaf (ZaM (ZI) ZcL (Zb 0) (Za (Zb 5) (Za (Z1 (Za (Zaa (Str.ofString "go")) Zh)) (Za (Zb 3) Zh))))) (ZK (ZaM (ZI) ZbE (Zb 0) (Za (Zb 3) (Za (Zr Zde (Za (Zj Zu (Zb 1) (Zg 1)) (Za (Zbx false) Zh))) Zh)))))))
def ZfZ(F:List V→Hp→Option (V×Hp)): List V→Hp→Option (V×Hp):=Z5 3 (ZfY F)
def Zf0(P:List T→Option (T×List T)): PS:=(Zt (ZQ 3 (ZaN 0 (ZI) (ZH false [0] ZbM (Zd (Zc 0) (Zd (Zc 2) (Zd (ZaA (Zd (Zap (Str.ofString "go")) Zo)) Zo)))))) (Zt (ZQ 4 (ZaN 0 (ZI) (ZH false [0] ZbM (Zd (Zc 0) (Zd (Zc 3) (Zd (ZW ZcM (Zd (Zn Zy (Zc 1) (Zk 1)) (Zd (ZbH true) Zo))) Zo)))))) (Zt (ZQ 5 (ZaN 0 (ZI) (ZH false [0] P (Zd (Zc 0) (Zd (Zn Zy (Zc 1) (Zk 2)) (Zd (Zc 4) Zo)))))) (Zt (ZbX (ZaN 0 (ZI) (ZH false [0] ZdW (Zd (Zc 0) (Zd (Zc 5) (Zd (ZaA (Zd (Zap (Str.ofString "go")) Zo)) (Zd (Zc 3) Zo))))))) (Z9 (ZaN 0 (ZI) (ZH false [0] ZbM (Zd (Zc 0) (Zd (Zc 3) (Zd (ZW ZcM (Zd (Zn Zy (Zc 1) (Zk 1)) (Zd (ZbH false) Zo))) Zo))))))))))
def ZeE(P:List T→Option (T×List T)): List T→Option (T×List T):=Zaq 3 [(0,999)] (Zf0 P)
theorem ZjC(ih:SimX 3 [(0,999)] true F P): SimX 3 [(0,999)] true (ZfZ F) (ZeE P):=SimX.of (show SU [] [(0,999)] [] [(0,999)] [(0,999)] true (ZfY F) (Zf0 P)from(SU.seq (SU.set (i:=3) (O':=[]) (S':=[(0,999)]) (Za8 (ZcN (mv:=[2]) (ms:=[false,false,true]) (b:=false) (xs:=[0]) (as:=[some 0,none,none]) (M:=[2]) ZcH (XAm.slot (ZcO (Zl 2) (by decide) (XAm.own (E.tup (ZF (E.str _) Zx (by decide) (by decide))) XAm.nil))) (by decide) (by decide) (by decide) (by decide) (by decide) (by decide) (by decide) (by decide) (by decide) (by decide))) (by decide) (by decide) (by decide)) (SU.seq (SU.set (i:=4) (O':=[]) (S':=[(0,999)]) (Za8 (ZcN (mv:=[2]) (ms:=[false,false,true]) (b:=false) (xs:=[0]) (as:=[some 0,none,none]) (M:=[3]) ZcH (XAm.slot (ZcO (Zl 3) (by decide) (XAm.own (ZbU ZeV (Zw (ZD ZE (Zl 1) (Zm _)) (Zw (E.bool _) Zx))) XAm.nil))) (by decide) (by decide) (by decide) (by decide) (by decide) (by decide) (by decide) (by decide) (by decide) (by decide))) (by decide) (by decide) (by decide)) (SU.seq (SU.set (i:=5) (O':=[]) (S':=[(0,999)]) (Za8 (EX.call (b:=false) (xs:=[0]) (as:=[some 0,none,none]) (M:=[1,4]) ih (XAs.slot (Zz (ZD ZE (Zl 1) (Zm _)) (by decide) (Zz (Zl 4) (by decide) XAs.nil))) (by decide) (by decide) (by decide) (by decide) (by decide) (by decide) (by decide) (by decide) (by decide))) (by decide) (by decide) (by decide)) (SU.seq (ZcX (Za8 (EX.call (b:=false) (xs:=[0]) (as:=[some 0,none,none,none]) (M:=[5,3]) ZhW (XAs.slot (Zz (Zl 5) (by decide) (Zz (E.tup (Zw (E.str _) Zx)) (by decide) (Zz (Zl 3) (by decide) XAs.nil)))) (by decide) (by decide) (by decide) (by decide) (by decide) (by decide) (by decide) (by decide) (by decide)))) (Zai (O':=[]) (S':=[(0,999)]) (Za8 (ZcN (mv:=[2]) (ms:=[false,false,true]) (b:=false) (xs:=[0]) (as:=[some 0,none,none]) (M:=[3]) ZcH (XAm.slot (ZcO (Zl 3) (by decide) (XAm.own (ZbU ZeV (Zw (ZD ZE (Zl 1) (Zm _)) (Zw (E.bool _) Zx))) XAm.nil))) (by decide) (by decide) (by decide) (by decide) (by decide) (by decide) (by decide) (by decide) (by decide) (by decide))) (by decide) (by decide))))))) (by decide) (by decide)
def ZfU(F:List V→Hp→Option (V×Hp)): Sm:=Zs (Z2 (ZZ (Zj oEq (Zj Zu (Zb 1) (Zg 0)) (Zaa (Str.ofString "if")))) (ZK (ZaM (ZI) (Zgp F) (Zb 0) (Za (Zb 1) (Za (Zb 2) Zh)))) Zaj) (Zs (Z2 (ZZ (Zj oEq (Zj Zu (Zb 1) (Zg 0)) (Zaa (Str.ofString "while")))) (ZK (ZaM (ZI) (ZfZ F) (Zb 0) (Za (Zb 1) (Za (Zb 2) Zh)))) Zaj) (ZK (ZaM (ZI) ZbE (Zb 0) (Za (Zb 2) (Za (Zr Zfk (Za (Zb 1) Zh)) Zh)))))
def ZfV(F:List V→Hp→Option (V×Hp)): List V→Hp→Option (V×Hp):=Z5 3 (ZfU F)
def ZdJ(P:List T→Option (T×List T)): PS:=(Zt (ZaB (xB (ZX (Zn qEq (Zn Zy (Zc 1) (Zk 0)) (Zap (Str.ofString "if"))))) (Z9 (ZaN 0 (ZI) (ZH false [0] (ZeK P) (Zd (Zc 0) (Zd (Zc 1) (Zd (Zc 2) Zo)))))) Zak) (Zt (ZaB (xB (ZX (Zn qEq (Zn Zy (Zc 1) (Zk 0)) (Zap (Str.ofString "while"))))) (Z9 (ZaN 0 (ZI) (ZH false [0] (ZeE P) (Zd (Zc 0) (Zd (Zc 1) (Zd (Zc 2) Zo)))))) Zak) (Z9 (ZaN 0 (ZI) (ZH false [0] ZbM (Zd (Zc 0) (Zd (Zc 2) (Zd (ZW Zfl (Zd (Zc 1) Zo)) Zo))))))))
def ZcF(P:List T→Option (T×List T)): List T→Option (T×List T):=Zaq 3 [(0,999)] (ZdJ P)
theorem Zjz(ih:SimX 3 [(0,999)] true F P): SimX 3 [(0,999)] true (ZfV F) (ZcF P):=SimX.of (show SU [] [(0,999)] [] [(0,999)] [(0,999)] true (ZfU F) (ZdJ P)from(SU.seq (ZaI (ZaH (Bt.val (ZO ZaY (ZD ZE (Zl 1) (Zm _)) (E.str _)))) (Zai (O':=[]) (S':=[(0,999)]) (Za8 (EX.call (b:=false) (xs:=[0]) (as:=[some 0,none,none]) (M:=[1,2]) (ZjM ih) (XAs.slot (Zz (Zl 1) (by decide) (Zz (Zl 2) (by decide) XAs.nil))) (by decide) (by decide) (by decide) (by decide) (by decide) (by decide) (by decide) (by decide) (by decide))) (by decide) (by decide)) SU.next) (SU.seq (ZaI (ZaH (Bt.val (ZO ZaY (ZD ZE (Zl 1) (Zm _)) (E.str _)))) (Zai (O':=[]) (S':=[(0,999)]) (Za8 (EX.call (b:=false) (xs:=[0]) (as:=[some 0,none,none]) (M:=[1,2]) (ZjC ih) (XAs.slot (Zz (Zl 1) (by decide) (Zz (Zl 2) (by decide) XAs.nil))) (by decide) (by decide) (by decide) (by decide) (by decide) (by decide) (by decide) (by decide) (by decide))) (by decide) (by decide)) SU.next) (Zai (O':=[]) (S':=[(0,999)]) (Za8 (ZcN (mv:=[2]) (ms:=[false,false,true]) (b:=false) (xs:=[0]) (as:=[some 0,none,none]) (M:=[2]) ZcH (XAm.slot (ZcO (Zl 2) (by decide) (XAm.own (ZbU ZiP (Zw (Zl 1) Zx)) XAm.nil))) (by decide) (by decide) (by decide) (by decide) (by decide) (by decide) (by decide) (by decide) (by decide) (by decide))) (by decide) (by decide))))) (by decide) (by decide)
def Zf3(F:List V→Hp→Option (V×Hp)): Sm:=Zs (ZM 3 (Zb 2)) (Zs (ZaE (Za4 (Zb 1)) (put1 4) (ZM 3 (ZaM (ZI) (ZfV F) (Zb 0) (Za (Zb 4) (Za (Zb 3) Zh))))) (ZK (Zb 3)))
def Zc8: Nat→List V→Hp→Option (V×Hp)
 | 0=>fun _ _=>none
 | n+1=>Z5 3 (Zf3 (Zc8 n))
def Zf4: List V→Hp→Option (V×Hp):=Zc8 9
def ZeF(P:List T→Option (T×List T)): PS:=(Zt (ZQ 3 (xP (Zah (Zc 2)))) (Zt (Za0 (ZaT (Zc 1)) (Zav 4) (ZQ 3 (ZaN 0 (ZI) (ZH false [0] (ZcF P) (Zd (Zc 0) (Zd (Zc 4) (Zd (Zah ((Zc 3))) Zo))))))) (Z9 (xP (Zc 3)))))
def ZdK: Nat→List T→Option (T×List T)
 | 0=>fun _=>none
 | n+1=>Zaq 3 [(0,999)] (ZeF (ZdK n))
def ZhI: List T→Option (T×List T):=ZdK 9
theorem ZhF: ∀n:Nat,SimX 3 [(0,999)] true (Zc8 n) (ZdK n)
 | 0=>ZgN
 | n+1=>by
  have ih:=ZhF n
  exact SimX.of (show SU [] [(0,999)] [3] [(0,999)] [(0,999)] true (Zf3 (Zc8 n)) (ZeF (ZdK n))from(SU.seq (Za1 (i:=3) (O':=[3]) (S':=[(0,999)]) (ZJ (E.flat (Zl 2)) (by decide)) (by decide) (by decide)) (SU.seq (ZcY (Gs.seq (Zl 1)) (PutOk.one (j:=4)) PutK.one (by decide) (by decide) (Za1 (i:=3) (O':=[3]) (S':=[(0,999)]) (Za8 (EX.call (b:=false) (xs:=[0]) (as:=[some 0,none,none]) (M:=[4]) (Zjz ih) (XAs.slot (Zz (Zl 4) (by decide) (Zz (E.flat ((Zl 3))) (by decide) XAs.nil))) (by decide) (by decide) (by decide) (by decide) (by decide) (by decide) (by decide) (by decide) (by decide))) (by decide) (by decide))) (Zai (O':=[3]) (S':=[(0,999)]) (ZJ (E.own (by decide)) (by decide)) (by decide) (by decide))))) (by decide) (by decide)
theorem ZjE: SimX 3 [(0,999)] true Zf4 ZhI:=ZhF 9
def ZgS: Sm:=Zs (ZM 1 (ZfQ (ZI) Zgm Zh)) (Zs (Zaf (ZaM (ZI) Zf4 (Zb 1) (Za (Zb 0) (Za (Zg 0) Zh)))) (ZK (eUn (Zbi (ZI) 0) (Zb 1))))
def Ze2:=Z5 1 ZgS
def ZgT: PS:=(Zt (ZQ 1 (xP (ZfR (ZI) ZeJ Zo))) (Zt (ZbX (ZaN 1 (ZI) (ZH false [1] ZhI (Zd (Zc 1) (Zd (Zc 0) (Zd (Zk 0) Zo)))))) (Z9 (xP (pUn (ZeA (ZI) 0) (Zc 1))))))
def Ze3: List T→Option (T×List T):=Zaq 1 [] ZgT
theorem Zkw: SimX 1 [] true Ze2 Ze3:=SimX.of (show SU [] [] [] [(1,999)] [] true ZgS ZgT from(SU.seq (ZiJ (i:=1) (d:=999) (O':=[]) (S':=[]) (ZJ (E.new ZjL Zx) (by decide)) (by decide) (by decide)) (SU.seq (ZcX (Za8 (EX.call (b:=false) (xs:=[1]) (as:=[some 1,none,none]) (M:=[0]) ZjE (XAs.slot (Zz (Zl 0) (by decide) (Zz (Zm _) (by decide) XAs.nil))) (by decide) (by decide) (by decide) (by decide) (by decide) (by decide) (by decide) (by decide) (by decide)))) (SU.s2o (x:=1) (S1:=[]) (by decide) (by decide) (by decide) (Zai (O':=[]) (S':=[(1,999)]) (ZJ (Znb (E.own (by decide))) (by decide)) (by decide) (by decide)))))) (by decide) (by decide)
def ZdZ: List T→Option T:=fun ts=>if ts.length=1 then(Ze3 ts).map (·.1)else none
theorem Zkc: SimF true Ze2 ZdZ:=SimX.sim Zkw
def ZgU: Sm:=Zs (ZM 1 (ZY Zh)) (Zs (ZaE (ZfE (Zb 0)) (Zb0 2 3) (Zs (ZM 4 (Zr Ze2 (Za (Zj Zu (Zb 3) (Zg 2)) Zh))) (Zaf (Zd9 (Zb 1) (ZaX (ZfS (Zb 4)) (Zb7 100 101 102) (ZZ (Zj oEq (Zj Zu (Zb 101) (Zg 0)) (Zaa (Str.ofString "say")))) (Z1 (Za (Zb 2) (Za (Zb 100) (Za (Zj Zu (Zb 101) (Zg 1)) Zh))))))))) (ZK (Zb 1)))
def Zd0:=Z5 1 ZgU
def ZgV: PS:=(Zt (ZQ 1 (xP (Zao Zo))) (Zt (Za0 (ZfF (Zc 0)) (Zeo 2 3) (Zt (ZQ 4 (xP (ZW ZdZ (Zd (Zn Zy (Zc 3) (Zk 2)) Zo)))) (ZdI 1 [4] (ZfJ 4 (Zet 100 101 102) (ZX (Zn qEq (Zn Zy (Zc 101) (Zk 0)) (Zap (Str.ofString "say")))) (ZaA (Zd (Zah (Zc 2)) (Zd (Zc 100) (Zd (Zn Zy (Zc 101) (Zk 1)) Zo)))))))) (Z9 (xP (Zc 1)))))
def Ze4: List T→Option (T×List T):=Zaq 1 [] ZgV
theorem Zkx: SimX 1 [] true Zd0 Ze4:=SimX.of (show SU [] [] [1] [] [] true ZgU ZgV from(SU.seq (Za1 (i:=1) (O':=[1]) (S':=[]) (ZJ (E.list Zx) (by decide)) (by decide) (by decide)) (SU.seq (ZcY (ZlD (Zl 0)) (PutOk.two (i:=2) (j:=3)) PutK.two (by decide) (by decide) (SU.seq (Za1 (i:=4) (O':=[1,4]) (S':=[]) (ZJ (Zby (O':=[]) (ZbU Zkc (Zw (ZD ZE (Zl 3) (Zm _)) Zx))) (by decide)) (by decide) (by decide)) (ZlU (x:=1) (N:=[4]) (O':=[1]) (by decide) (Zby (O':=[4]) (E.take (x:=4) (Ne:=[100,101]) (by decide) (by decide) (Bt.val (ZO ZaY (ZD ZE (Zl 101) (Zm _)) (E.str _))) (E.tup (ZF (E.flat (Zl 2)) (ZF (E.own (by decide)) (ZF (ZD ZE (E.own (by decide)) (Zm _)) Zx (by decide) (by decide)) (by decide) (by decide)) (by decide) (by decide))) (by decide))) (by decide) (by decide) (by decide)))) (Zai (O':=[1]) (S':=[]) (ZJ (E.own (by decide)) (by decide)) (by decide) (by decide))))) (by decide) (by decide)
def Zd1: List T→Option T:=fun ts=>if ts.length=1 then(Ze4 ts).map (·.1)else none
theorem Zh1: SimF true Zd0 Zd1:=SimX.sim Zkx
def Zgb: Sm:=ZK (ZdA (eIs "int" (Zb 0)) (ZfM (eIs "bool" (Zb 0))))
def ZdP:=Z5 1 Zgb
def Zgc: PS:=(Za5 ((ZdE (pIs "int" (Zc 0)) (ZfO (pIs "bool" (Zc 0))))))
def Zda:=Zbo 1 Zgc
theorem Zgd: SimF false ZdP Zda:=SimF.of (show S [] [] [] false Zgb Zgc from(Zcl ((Zjm (E.sh (Zb3 (Zl 0))) (E.sh (Zm0 (Zb3 (Zl 0))))))))
def Zge: Sm:=Zs (Z2 (tOr (ZbI (ZZ (eIs "list" (Zb 0)))) (tOr (ZZ (Zj oNe (Zr Zbg (Za (Zb 0) Zh)) (Zr Zbg (Za (Zb 1) Zh)))) Zce)) (ZK (Zbx false)) Zaj) (Zs (ZaE (Za4 (Zb 0)) (put1 2) (Zs (Z2 (tOr (ZbI (ZZ (eIs "tuple" (Zb 2)))) (tOr (ZZ (Zj oNe (Zr Zbg (Za (Zb 2) Zh)) (Zg 3))) (tOr (ZbI (ZZ (Zr ZdP (Za (Zj Zu (Zb 2) (Zg 0)) Zh)))) (tOr (ZbI (ZZ (Zr ZdP (Za (Zj Zu (Zb 2) (Zg 1)) Zh)))) Zce)))) (ZK (Zbx false)) Zaj) (Zs (Z2 (tOr (ZbI (ZZ (eIs "tuple" (Zj Zu (Zb 2) (Zg 2))))) (tOr (ZZ (Zj oLt (Zr Zbg (Za (Zj Zu (Zb 2) (Zg 2)) Zh)) (Zg 2))) (tOr (ZbI (ZZ (eIs "list" (Zj Zu (Zj Zu (Zb 2) (Zg 2)) (Zg 1))))) Zce))) (ZK (Zbx false)) Zaj) (ZaE (Za4 (Zj ZL (Zj Zu (Zj Zu (Zb 2) (Zg 2)) (Zg 1)) (Zr Zdn (Za (Zdr (Zj Zu (Zb 2) (Zg 2)) 2) Zh)))) (put1 3) (Z2 (ZbI (ZZ (Zr ZdP (Za (Zb 3) Zh)))) (ZK (Zbx false)) Zaj))))) (ZK (Zj oEq (Zb 0) (Zb 1))))
def ZeI:=Z5 2 Zge
def Zgf: PS:=(Zt (qIf (bOr (ZbK (ZX (pIs "list" (Zc 0)))) (bOr (ZX (Zn qNe (ZW Zbm (Zd (Zc 0) Zo)) (ZW Zbm (Zd (Zc 1) Zo)))) Zcw)) (Za5 (ZbH false)) Zak) (Zt (Za0 (ZaT (Zc 0)) (Zav 2) (Zt (qIf (bOr (ZbK (ZX (pIs "tuple" (Zc 2)))) (bOr (ZX (Zn qNe (ZW Zbm (Zd (Zc 2) Zo)) (Zk 3))) (bOr (ZbK (ZX (ZW Zda (Zd (Zn Zy (Zc 2) (Zk 0)) Zo)))) (bOr (ZbK (ZX (ZW Zda (Zd (Zn Zy (Zc 2) (Zk 1)) Zo)))) Zcw)))) (Za5 (ZbH false)) Zak) (Zt (qIf (bOr (ZbK (ZX (pIs "tuple" (Zn Zy (Zc 2) (Zk 2))))) (bOr (ZX (Zn qLt (ZW Zbm (Zd (Zn Zy (Zc 2) (Zk 2)) Zo)) (Zk 2))) (bOr (ZbK (ZX (pIs "list" (Zn Zy (Zn Zy (Zc 2) (Zk 2)) (Zk 1))))) Zcw))) (Za5 (ZbH false)) Zak) (Za0 (ZaT (Zn Zad (Zn Zy (Zn Zy (Zc 2) (Zk 2)) (Zk 1)) (ZW ZcW (Zd (Zds (Zn Zy (Zc 2) (Zk 2)) 2) Zo)))) (Zav 3) (qIf (ZbK (ZX (ZW Zda (Zd (Zc 3) Zo)))) (Za5 (ZbH false)) Zak))))) (Za5 (Zn qEq (Zc 0) (Zc 1)))))
def ZdQ:=Zbo 2 Zgf
theorem ZhL: SimF false ZeI ZdQ:=SimF.of (show S [] [] [] false Zge Zgf from(Zck (ZcA (Zbd (Zcx (Bt.val (Zb3 (Zl 0)))) (Zbd (Bt.val (ZO ZhC (Zbv ZbW (Zw (Zl 0) Zx)) (Zbv ZbW (Zw (Zl 1) Zx)))) Zdh)) (Zcl (E.bool _)) Zcy) (Zck (Zjq (Gs.seq (Zl 0)) PutOk.one (by decide) (by decide) (Zck (ZcA (Zbd (Zcx (Bt.val (Zb3 (Zl 2)))) (Zbd (Bt.val (ZO ZhC (Zbv ZbW (Zw (Zl 2) Zx)) (Zm _))) (Zbd (Zcx (Bt.val (Zb1 Zgd (Zw (ZD ZE (Zl 2) (Zm _)) Zx)))) (Zbd (Zcx (Bt.val (Zb1 Zgd (Zw (ZD ZE (Zl 2) (Zm _)) Zx)))) Zdh)))) (Zcl (E.bool _)) Zcy) (Zck (ZcA (Zbd (Zcx (Bt.val (Zb3 (ZD ZE (Zl 2) (Zm _))))) (Zbd (Bt.val (ZO Zex (Zbv ZbW (Zw (ZD ZE (Zl 2) (Zm _)) Zx)) (Zm _))) (Zbd (Zcx (Bt.val (Zb3 (ZD ZE (ZD ZE (Zl 2) (Zm _)) (Zm _))))) Zdh))) (Zcl (E.bool _)) Zcy) (Zjq (Gs.seq (ZaZ ZaF (ZD ZE (ZD ZE (Zl 2) (Zm _)) (Zm _)) (ZiB Zlk (Zw (Zmd (ZD ZE (Zl 2) (Zm _))) Zx)))) PutOk.one (by decide) (by decide) (ZcA (Zcx (Bt.val (Zb1 Zgd (Zw (Zl 3) Zx)))) (Zcl (E.bool _)) Zcy))))) (Zcl (ZO ZaY (Zl 0) (Zl 1))))))
def Zg6: Sm:=Zs (ZM 1 (Zr ZeC (Za (ZY (Za (Zcf (Zb 0) Zc1 (Zc2 (Zg 84))) (Za (Zg 0) Zh))) Zh))) (Zs (ZM 2 (Zr Zgk (Za (Zb 1) Zh))) (Zs (ZM 3 (Zr ZeN (Za (Zb 1) Zh))) (Zs (ZM 4 (Zr Zd0 (Za (Zb 2) Zh))) (Zs (Z2 (tOr (ZbI (ZZ (Zr ZeI (Za (Zb 4) (Za (Zb 3) Zh))))) (tOr (ZZ (Zj oNe (Zb 2) (Zb 1))) Zce)) (ZK (Zbx false)) Zaj) (Zs (ZaE (Za4 (Zb 4)) (put1 5) (Zs (ZaK (Zg 11) (Zj Zu (Zj Zu (Zb 5) (Zg 2)) (Zg 1)) (Zg 0)) (Zaf (ZaU (Zj Zu (Zj Zu (Zb 5) (Zg 2)) (Zg 1)) (Zg 12))))) (Zs (Zaf (ZaU (Zb 4) (ZbT))) (ZK (ZdA (Zj oEq (Zb 2) (Zb 1)) (Zr ZeI (Za (Zr Zd0 (Za (Zb 2) Zh)) (Za (Zb 3) Zh)))))))))))
def Zip:=Z5 1 Zg6
def Zg7: PS:=(Zt (ZQ 1 (Zac 1000 (xP (Zao (Zd (pFl (Zee (Zc 0) Zfq (Zfr (Zk 84)))) (Zd (Zk 0) Zo)))) (ZH false [1000] ZeD (Zd (Zc 1000) Zo)))) (Zt (ZQ 2 (xP (ZW ZhP (Zd (Zc 1) Zo)))) (Zt (ZQ 3 (xP (ZW ZeP (Zd (Zc 1) Zo)))) (Zt (ZQ 4 (xP (ZW Zd1 (Zd (Zc 2) Zo)))) (Zt (ZaB (xB (bOr (ZbK (ZX (ZW ZdQ (Zd (Zc 4) (Zd (Zc 3) Zo))))) (bOr (ZX (Zn qNe (Zc 2) (Zc 1))) Zcw))) (Z9 (xP (ZbH false))) Zak) (Zt (Zdu 4 5 (Zt (Zbr 5 [] (Zk 11) (ZaV (ZaV Zab (Zk 2)) (Zk 1)) (Zk 0)) (Zbn 5 [] (ZaV (ZaV Zab (Zk 2)) (Zk 1)) (Zk 12)))) (Zt (Zbn 4 [] Zab (Zc7)) (Z9 (xP ((ZdE (Zn qEq (Zc 2) (Zc 1)) (Zah (ZW ZdQ (Zd (ZW Zd1 (Zd (Zc 2) Zo)) (Zd (Zc 3) Zo)))))))))))))))
def Ze8: List T→Option (T×List T):=Zaq 1 [] Zg7
theorem Zk3: SimX 1 [] true Zip Ze8:=SimX.of (show SU [] [] [4] [] [] true Zg6 Zg7 from(SU.seq (SU.set (i:=1) (O':=[]) (S':=[]) (Zio (k:=1000) (d:=1) (C:=fun e=>(Zr ZeC (Za (e) Zh))) (e:=(ZY (Za (Zcf (Zb 0) Zc1 (Zc2 (Zg 84))) (Za (Zg 0) Zh)))) (Ct.call (Cts.head (Zae) (fun ρ v H=>rfl))) (ZJ (E.list (ZF (ZkL (Zl 0) Pe.none (Pe.some (Zm _))) (ZF (Zm _) Zx (by decide) (by decide)) (by decide) (by decide))) (by decide)) (EX.call (b:=false) (xs:=[1000]) (as:=[some 1000]) (M:=[]) ZjB (XAs.slot XAs.nil) (by decide) (by decide) (by decide) (by decide) (by decide) (by decide) (by decide) (by decide) (by decide)) (by decide) (by decide) (by decide)) (by decide) (by decide) (by decide)) (SU.seq (SU.set (i:=2) (O':=[]) (S':=[]) (ZJ (Zb1 ZjJ (Zw (Zl 1) Zx)) (by decide)) (by decide) (by decide) (by decide)) (SU.seq (SU.set (i:=3) (O':=[]) (S':=[]) (ZJ (Zb1 ZjK (Zw (Zl 1) Zx)) (by decide)) (by decide) (by decide) (by decide)) (SU.seq (Za1 (i:=4) (O':=[4]) (S':=[]) (ZJ (ZbU Zh1 (Zw (Zl 2) Zx)) (by decide)) (by decide) (by decide)) (SU.seq (ZaI (ZaH (Zbd (Zcx (Bt.val (Zb1 ZhL (Zw (Zl 4) (Zw (Zl 3) Zx))))) (Zbd (Bt.val (ZO ZhC (Zl 2) (Zl 1))) Zdh))) (Zai (O':=[4]) (S':=[]) (ZJ (E.bool _) (by decide)) (by decide) (by decide)) SU.next) (SU.seq (ZlV (c0:=4) (x:=5) (by decide) (by decide) (Zck (S.put (x:=5) (N:=[]) (O':=[5]) (by decide) (Zby (O':=[]) (Zm _)) (Zft (Zft Zcg (Zm _)) (Zm _)) (Zby (O':=[]) (Zm _)) (by decide) (by decide)) (S.app (x:=5) (N:=[]) (O':=[5]) (by decide) (Zft (Zft Zcg (Zm _)) (Zm _)) (Zby (O':=[]) (Zm _)) (by decide) (by decide))) (ZmO Kp.put Zej) (Zk0 (fun _ _=>ZkY) (fun _ _=>ZkZ))) (SU.seq (Zfi (x:=4) (N:=[]) (O':=[4]) (by decide) Zcg (Zby (O':=[]) (Zed)) (by decide) (by decide) (by decide)) (Zai (O':=[4]) (S':=[]) (ZJ ((Zjm (ZO ZaY (Zl 2) (Zl 1)) (E.flat (Zb1 ZhL (Zw (Zb1 Zh1 (Zw (Zl 2) Zx)) (Zw (Zl 3) Zx)))))) (by decide)) (by decide) (by decide)))))))))) (by decide) (by decide)
end L
end
section
open PySem PySem.W PyProof.Rows PM TM My
local macro_rules | `(tactic| tm_at "r")=>`(tactic| assumption)
local macro_rules | `(tactic| tm_at "r")=>`(tactic| exact rfl)
local macro_rules | `(tactic| tm_at "r")=>`(tactic| ((with_reducible apply Zik);decide;tm_at "r"))
local macro_rules | `(tactic| tm_at "r")=>`(tactic| ((with_reducible apply ZiF);decide;tm_at "r"))
local macro_rules | `(tactic| tm_at "r")=>`(tactic| with_reducible exact Ze0)
local macro_rules | `(tactic| tm_at "r")=>`(tactic| with_reducible assumption)
local macro_rules|`(tactic|walk_at "r")=>`(tactic|first | tm_at "r" | fail)
local macro_rules | `(tactic| tm_at "y")=>`(tactic| (simp only[Bool.not_eq_true',Bool.not_eq_false',decide_eq_true_eq,decide_eq_false_iff_not,beq_iff_eq,beq_eq_false_iff_ne,ne_eq,Bool.not_true,Bool.not_false,not_false_eq_true,not_true_eq_false,bne_iff_ne,Decidable.not_not,List.length_map] <;> first | done | omega | assumption))
local macro_rules | `(tactic| tm_at "y")=>`(tactic| (with_reducible assumption))
local macro_rules | `(tactic| tm_at "y")=>`(tactic| rfl)
local macro_rules|`(tactic|walk_at "y")=>`(tactic|first | tm_at "y" | fail)
local macro_rules | `(tactic| tm_at "f")=>`(tactic| exact flatIn_tab fun i hi=>by(first | rfl | exact flat_oT | exact flat_prT))
local macro_rules | `(tactic| tm_at "f")=>`(tactic| exact flat_prT)
local macro_rules | `(tactic| tm_at "f")=>`(tactic| exact flat_oT)
local macro_rules | `(tactic| tm_at "f")=>`(tactic| rfl)
local macro_rules|`(tactic|walk_at "f")=>`(tactic|first | tm_at "f" | fail)
local macro_rules | `(tactic| tm_at "o")=>`(tactic| ((with_reducible apply Zmy);(first | decide | omega)))
local macro_rules | `(tactic| tm_at "o")=>`(tactic| with_reducible refine tk_any ?_)
local macro_rules | `(tactic| tm_at "o")=>`(tactic| with_reducible refine tk_all ?_)
local macro_rules | `(tactic| tm_at "o")=>`(tactic| with_reducible refine Zlw ?_)
local macro_rules | `(tactic| tm_at "o")=>`(tactic| with_reducible refine Zkr ?_)
local macro_rules | `(tactic| tm_at "o")=>`(tactic| with_reducible refine tk_list1 ?_)
local macro_rules | `(tactic| tm_at "o")=>`(tactic| ((with_reducible apply tk_addC);omega))
local macro_rules | `(tactic| tm_at "o")=>`(tactic| ((with_reducible apply Za7);(first | decide | omega);rfl))
local macro_rules | `(tactic| tm_at "o")=>`(tactic| ((with_reducible apply Zfg);(first | decide | omega);rfl))
local macro_rules | `(tactic| tm_at "o")=>`(tactic| ((with_reducible apply tk_idxT);(first | decide | omega);(first | decide | omega)))
local macro_rules | `(tactic| tm_at "o")=>`(tactic| ((with_reducible apply tk_idxN);(first | assumption | omega)))
local macro_rules | `(tactic| tm_at "o")=>`(tactic| with_reducible refine Zlv ?_)
local macro_rules | `(tactic| tm_at "o")=>`(tactic| with_reducible refine ZmD ?_)
local macro_rules | `(tactic| tm_at "o")=>`(tactic| with_reducible refine tk_lenT ?_)
local macro_rules | `(tactic| tm_at "o")=>`(tactic| with_reducible refine tk_nott ?_)
local macro_rules | `(tactic| tm_at "o")=>`(tactic| with_reducible refine tk_notl ?_)
local macro_rules | `(tactic| tm_at "o")=>`(tactic| with_reducible refine tk_noti ?_)
local macro_rules | `(tactic| tm_at "o")=>`(tactic| with_reducible refine tk_notn ?_)
local macro_rules | `(tactic| tm_at "o")=>`(tactic| with_reducible refine tk_ist ?_)
local macro_rules | `(tactic| tm_at "o")=>`(tactic| with_reducible refine tk_isl ?_)
local macro_rules | `(tactic| tm_at "o")=>`(tactic| with_reducible refine tk_isi ?_)
local macro_rules | `(tactic| tm_at "o")=>`(tactic| with_reducible refine tk_isn ?_)
local macro_rules | `(tactic| tm_at "o")=>`(tactic| with_reducible refine tk_neb ?_)
local macro_rules | `(tactic| tm_at "o")=>`(tactic| with_reducible refine tk_eqb ?_)
local macro_rules | `(tactic| tm_at "o")=>`(tactic| with_reducible refine Zm8 ?_)
local macro_rules | `(tactic| tm_at "o")=>`(tactic| with_reducible refine Zm7 ?_)
local macro_rules | `(tactic| tm_at "o")=>`(tactic| with_reducible refine ZmC ?_)
local macro_rules | `(tactic| tm_at "o")=>`(tactic| with_reducible refine ZmB ?_)
local macro_rules | `(tactic| tm_at "o")=>`(tactic| with_reducible refine tk_abs ?_)
local macro_rules | `(tactic| tm_at "o")=>`(tactic| with_reducible refine tk_ge ?_)
local macro_rules | `(tactic| tm_at "o")=>`(tactic| with_reducible refine Zm6 ?_)
local macro_rules | `(tactic| tm_at "o")=>`(tactic| with_reducible refine tk_le ?_)
local macro_rules | `(tactic| tm_at "o")=>`(tactic| with_reducible refine Zm5 ?_)
local macro_rules | `(tactic| tm_at "o")=>`(tactic| with_reducible refine Zmx ?_)
local macro_rules | `(tactic| tm_at "o")=>`(tactic| with_reducible refine Zmw ?_)
local macro_rules | `(tactic| tm_at "o")=>`(tactic| with_reducible refine Zmv ?_)
local macro_rules|`(tactic|walk_at "o")=>`(tactic|first | tm_at "o" | fail)
local macro_rules | `(tactic| tm_at "1")=>`(tactic| tm_at "o")
local macro_rules | `(tactic| tm_at "1")=>`(tactic| ((with_reducible apply Put2.tab);tm_at "r";(first | assumption | omega);(first | assumption | omega)))
local macro_rules | `(tactic| tm_at "1")=>`(tactic| ((with_reducible apply PutP.tab);tm_at "r";(first | assumption | omega)))
local macro_rules | `(tactic| tm_at "1")=>`(tactic| ((with_reducible apply AppQ.of);tm_at "r";(first | (rw[Zcr];omega) | (simp;done))))
local macro_rules | `(tactic| tm_at "1")=>`(tactic| ((with_reducible apply AppP.of);tm_at "r";(first | (rw[Zcr];omega) | (simp;done))))
local macro_rules | `(tactic| tm_at "1")=>`(tactic| with_reducible refine tk_put2 ?_)
local macro_rules | `(tactic| tm_at "1")=>`(tactic| with_reducible refine tk_put ?_)
local macro_rules | `(tactic| tm_at "1")=>`(tactic| with_reducible refine tk_appM ?_)
local macro_rules | `(tactic| tm_at "1")=>`(tactic| with_reducible refine tk_app ?_)
local macro_rules | `(tactic| tm_at "1")=>`(tactic| with_reducible refine Zi.mn ?_)
local macro_rules | `(tactic| tm_at "1")=>`(tactic| with_reducible refine Zi.eq ?_)
local macro_rules | `(tactic| tm_at "1")=>`(tactic| with_reducible refine tk_chain ?_)
local macro_rules | `(tactic| tm_at "1")=>`(tactic| with_reducible refine EnP.tab ?_)
local macro_rules | `(tactic| tm_at "1")=>`(tactic| with_reducible refine tk_enum ?_)
local macro_rules | `(tactic| tm_at "1")=>`(tactic| with_reducible refine tk_zip ?_)
local macro_rules | `(tactic| tm_at "1")=>`(tactic| ((with_reducible apply Rn.one);omega))
local macro_rules | `(tactic| tm_at "1")=>`(tactic| with_reducible refine ZkO ?_)
local macro_rules | `(tactic| tm_at "1")=>`(tactic| with_reducible refine Sq.tup ?_)
local macro_rules | `(tactic| tm_at "1")=>`(tactic| with_reducible refine Sq.lst ?_)
local macro_rules | `(tactic| tm_at "1")=>`(tactic| with_reducible refine Zlx ?_)
local macro_rules|`(tactic|tm_at "1")=>`(tactic|(refine And.intro (show T.flatIn _ = true by walk_at "f") ?_))
local macro_rules|`(tactic|tm_at "1")=>`(tactic|(refine And.intro (show T.flat _ = true by walk_at "f") ?_))
local macro_rules | `(tactic| tm_at "1")=>`(tactic| (refine And.intro (show isObT _=false from rfl) ?_))
local macro_rules | `(tactic| tm_at "1")=>`(tactic| ((with_reducible apply Zms);rfl))
local macro_rules | `(tactic| tm_at "1")=>`(tactic| ((with_reducible apply Zmu);tm_at "y"))
local macro_rules | `(tactic| tm_at "1")=>`(tactic| ((with_reducible apply Zmt);tm_at "y"))
local macro_rules | `(tactic| tm_at "1")=>`(tactic| ((with_reducible apply Zi4);tm_at "r"))
local macro_rules | `(tactic| tm_at "1")=>`(tactic| with_reducible refine Zmh ?_)
local macro_rules | `(tactic| tm_at "1")=>`(tactic| with_reducible refine Zlm ?_)
local macro_rules | `(tactic| tm_at "1")=>`(tactic| with_reducible refine Zmg ?_)
local macro_rules | `(tactic| tm_at "1")=>`(tactic| with_reducible refine Zhq ?_)
local macro_rules | `(tactic| tm_at "1")=>`(tactic| with_reducible refine Zmr ?_)
local macro_rules | `(tactic| tm_at "1")=>`(tactic| with_reducible refine Zmq ?_)
local macro_rules | `(tactic| tm_at "1")=>`(tactic| with_reducible refine tk_exp ?_)
local macro_rules | `(tactic| tm_at "1")=>`(tactic| with_reducible refine tk_set ?_)
local macro_rules | `(tactic| tm_at "1")=>`(tactic| with_reducible refine Zmp ?_)
local macro_rules | `(tactic| tm_at "1")=>`(tactic| with_reducible refine Zlu ?_)
local macro_rules | `(tactic| tm_at "1")=>`(tactic| with_reducible refine tk_truth_n ?_)
local macro_rules | `(tactic| tm_at "1")=>`(tactic| with_reducible refine Zj3 ?_)
local macro_rules | `(tactic| tm_at "1")=>`(tactic| with_reducible refine Zmo ?_)
local macro_rules | `(tactic| tm_at "1")=>`(tactic| with_reducible refine Zlt ?_)
local macro_rules | `(tactic| tm_at "1")=>`(tactic| with_reducible refine ZkM ?_)
local macro_rules | `(tactic| tm_at "1")=>`(tactic| with_reducible refine Zls ?_)
local macro_rules | `(tactic| tm_at "1")=>`(tactic| with_reducible refine Zlr ?_)
local macro_rules | `(tactic| tm_at "1")=>`(tactic| with_reducible refine Zmn ?_)
local macro_rules | `(tactic| tm_at "1")=>`(tactic| with_reducible refine Zm4 ?_)
local macro_rules | `(tactic| tm_at "1")=>`(tactic| with_reducible refine tk_or ?_)
local macro_rules | `(tactic| tm_at "1")=>`(tactic| with_reducible refine Zmm ?_)
local macro_rules | `(tactic| tm_at "1")=>`(tactic| with_reducible refine Zml ?_)
local macro_rules | `(tactic| tm_at "1")=>`(tactic| with_reducible refine tk_if ?_)
local macro_rules | `(tactic| tm_at "1")=>`(tactic| with_reducible refine Zm3 ?_)
local macro_rules | `(tactic| tm_at "1")=>`(tactic| with_reducible refine Zlq ?_)
local macro_rules | `(tactic| tm_at "1")=>`(tactic| with_reducible refine Zln ?_)
local macro_rules | `(tactic| tm_at "1")=>`(tactic| with_reducible refine Zlp ?_)
local macro_rules | `(tactic| tm_at "1")=>`(tactic| with_reducible refine Zmk ?_)
local macro_rules | `(tactic| tm_at "1")=>`(tactic| with_reducible refine Zmj ?_)
local macro_rules | `(tactic| tm_at "1")=>`(tactic| with_reducible refine Zlo ?_)
local macro_rules | `(tactic| tm_at "1")=>`(tactic| with_reducible refine Zm2 ?_)
local macro_rules | `(tactic| tm_at "1")=>`(tactic| with_reducible refine Zmi ?_)
local macro_rules|`(tactic|walk_at "1")=>`(tactic|first | tm_at "1" | fail)
local macro_rules | `(tactic| tm_at "tr")=>`(tactic| assumption)
local macro_rules | `(tactic| tm_at "tr")=>`(tactic| exact rfl)
local macro_rules | `(tactic| tm_at "tr")=>`(tactic| ((with_reducible apply Zik);decide;tm_at "tr"))
local macro_rules | `(tactic| tm_at "tr")=>`(tactic| ((with_reducible apply ZkX);tm_at "tr"))
local macro_rules | `(tactic| tm_at "tr")=>`(tactic| ((with_reducible apply Zj6);decide;tm_at "tr"))
local macro_rules | `(tactic| tm_at "tr")=>`(tactic| ((with_reducible apply ZlP);decide;tm_at "tr"))
local macro_rules | `(tactic| tm_at "tr")=>`(tactic| ((with_reducible apply ZiF);decide;tm_at "tr"))
local macro_rules | `(tactic| tm_at "tr")=>`(tactic| with_reducible exact Zks)
local macro_rules | `(tactic| tm_at "tr")=>`(tactic| with_reducible exact Ze0)
local macro_rules | `(tactic| tm_at "tr")=>`(tactic| with_reducible assumption)
local macro_rules|`(tactic|walk_at "tr")=>`(tactic|first | tm_at "tr" | fail)
local macro_rules | `(tactic| tm_at "t1")=>`(tactic| tm_at "1")
local macro_rules | `(tactic| tm_at "t1")=>`(tactic| ((with_reducible apply ZmK);rfl))
local macro_rules | `(tactic| tm_at "t1")=>`(tactic| ((with_reducible apply Zi4);tm_at "tr"))
local macro_rules | `(tactic| tm_at "t1")=>`(tactic| with_reducible refine ZmJ ?_)
local macro_rules | `(tactic| tm_at "t1")=>`(tactic| with_reducible refine ZmI ?_)
local macro_rules | `(tactic| tm_at "t1")=>`(tactic| ((with_reducible refine ZiM ?hd ?h);(case hd=>decide)))
local macro_rules | `(tactic| tm_at "t1")=>`(tactic| ((with_reducible refine ZlM ?hd ?h);(case hd=>decide)))
local macro_rules | `(tactic| tm_at "t1")=>`(tactic| ((with_reducible apply ZlO);tm_at "tr"))
local macro_rules | `(tactic| tm_at "t1")=>`(tactic| with_reducible refine ZkW ?_)
local macro_rules | `(tactic| tm_at "t1")=>`(tactic| with_reducible refine tx_callT ?_)
local macro_rules | `(tactic| tm_at "t1")=>`(tactic| with_reducible refine ZkT ?_)
local macro_rules | `(tactic| tm_at "t1")=>`(tactic| with_reducible refine ZlI ?_)
local macro_rules | `(tactic| tm_at "t1")=>`(tactic| with_reducible refine tx_or ?_)
local macro_rules | `(tactic| tm_at "t1")=>`(tactic| with_reducible refine tx_and ?_)
local macro_rules | `(tactic| tm_at "t1")=>`(tactic| with_reducible refine tx_not ?_)
local macro_rules | `(tactic| tm_at "t1")=>`(tactic| with_reducible refine tx_val ?_)
local macro_rules | `(tactic| tm_at "t1")=>`(tactic| with_reducible refine Znk ?_)
local macro_rules | `(tactic| tm_at "t1")=>`(tactic| with_reducible refine Zjw ?_)
local macro_rules | `(tactic| tm_at "t1")=>`(tactic| with_reducible refine ZkU ?_)
local macro_rules | `(tactic| tm_at "t1")=>`(tactic| with_reducible refine ZlL ?_)
local macro_rules | `(tactic| tm_at "t1")=>`(tactic| with_reducible refine ZlK ?_)
local macro_rules | `(tactic| tm_at "t1")=>`(tactic| with_reducible refine ZmH ?_)
local macro_rules | `(tactic| tm_at "t1")=>`(tactic| with_reducible refine Zna ?_)
local macro_rules | `(tactic| tm_at "t1")=>`(tactic| with_reducible refine ZmG ?_)
local macro_rules | `(tactic| tm_at "t1")=>`(tactic| with_reducible refine Zja ?_)
local macro_rules | `(tactic| tm_at "t1")=>`(tactic| with_reducible refine ZcZ ?_)
local macro_rules|`(tactic|walk_at "t1")=>`(tactic|first | tm_at "t1" | fail)
local macro_rules|`(tactic|walk_at "z")=>`(tactic|repeat' (first | tm_at "1" | fail))
local macro_rules|`(tactic|walk_at "tz")=>`(tactic|repeat' (first | tm_at "t1" | fail))
namespace L
open PySem PySem.W PyProof.Rows PM TM My
variable {R:T→TL→Prop} {a b e u:Int} {d i k n p x:Nat} {c t:T} {fs r ra rows ts:List T} {S:Nat→T→Prop} {σ:TL} {Q:T→Prop} {P:List T→Option (T×List T)} {N:TL→Prop} {rs:List (List T)}
noncomputable def tpT(ns:List Int)(p:Nat): T:=.lst [.lst (ns.map T.int),.int p]
section
variable {Q:T→List T→Prop}
theorem ZlZ{R:T→Prop}{a:Nat}{b:Nat}(hb:0<b)(h2:b<2 ^ 30)(h:R (.int ((a:Int).fdiv b))): Pk (ZdF (.int a) (.int b)) R:=Zmz (by omega) (PyProof.noPylong_small (by omega)) h
theorem Zay{ns:List Int}{m:Int}(hl:ns.length≤200)(hm:0<m)(h:∀v,0≤v→v<m→Q (.int v) [tpT ns (p+1)]): Pr (Zar [tpT ns p,.int m]) Q:=by
 unfold Zar ZgC tpT
 have e:(ns.map T.int).length=ns.length:=by simp
 walk_at "tz"
 refine⟨_,1,rfl,rfl,by decide,(by simp),?_⟩
 show Z3 (Zt _ _ (updT _ 0 (tpT ns (p+1)))) _ _
 unfold tpT
 walk_at "tz"
 rw[e]
 refine⟨fun c=>?_,fun c=>?_⟩
 ·walk_at "tz"
  exact h 0 (by omega) hm
 ·have c:=of_decide_eq_false c
  have hp:0<ns.length:=by omega
  have i0:=Int.fmod_nonneg_of_pos (p:Int) (show(0:Int)<ns.length by omega)
  have i1:=Int.fmod_lt_of_pos (p:Int) (show(0:Int)<ns.length by omega)
  have hne:((ns.length:Nat):Int)≠0:=by omega
  walk_at "tz"
  rw[e]
  refine Za7 (t:=.int (cellAt ns ((p:Int).fmod ns.length) 0)) i0 ?_ ?_
  ·rw[List.getElem?_map,List.getElem?_eq_getElem (by omega),cellAt_def]
   simp only[Option.map_some,T.int.injEq,Option.some.injEq]
   rw[List.getD_eq_getElem?_getD,List.getElem?_eq_getElem (by omega)]
   rfl
  walk_at "tz"
  rw[e]
  refine ZlZ hp (by omega) ?_
  walk_at "tz"
  exact h _ (Int.fmod_nonneg_of_pos _ hm) (Int.fmod_lt_of_pos _ hm)
end
inductive Bl: Nat→T→Prop where
 | none {n:Nat}:Bl n .none
 | bool {n:Nat} {b:Bool}:Bl n (.bool b)
 | int {n:Nat} {i:Int}:Bl n (.int i)
 | str {n:Nat} {x:Str}:PyData.strOk x=true→Bl n (.str x)
 | tup {n:Nat} {ts:List T}:(∀t∈ts,Bl n t)→ts.length≤10000→Bl (n+1) (.tup ts)
 | lst {n:Nat} {ts:List T}:(∀t∈ts,Bl n t)→ts.length≤10000→Bl (n+1) (.lst ts)
theorem Bl.mono(h:Bl n t): ∀{m:Nat},n≤m→Bl m t:=by
 induction h with
 | none=>intro m _;exact .none
 | bool=>intro m _;exact .bool
 | int=>intro m _;exact .int
 | str h=>intro m _;exact .str h
 | tup hs hl ih=>
  intro m hm
  cases m with
  | zero=>omega
  | succ m=>exact .tup (fun t a=>ih t a (by omega)) hl
 | lst hs hl ih=>
  intro m hm
  cases m with
  | zero=>omega
  | succ m=>exact .lst (fun t a=>ih t a (by omega)) hl
theorem Bl.dat(h:Bl n t): Zbl n t=some (dd t)∧PyData.canLay0 (dd t)=true∧PyData.depth (dd t)≤n:=by
 induction h with
 | @none n=>cases n <;> exact⟨rfl,rfl,by simp[dd,PyData.depth]⟩
 | @bool n b=>cases n <;> exact⟨rfl,rfl,by simp[dd,PyData.depth]⟩
 | @int n i=>cases n <;> exact⟨rfl,rfl,by simp[dd,PyData.depth]⟩
 | @str n x h=>cases n <;> exact⟨rfl,by simpa [dd,PyData.canLay0]using h,by simp[dd,PyData.depth]⟩
 | @tup n ts _ _ ih=>
  refine⟨?_,?_,?_⟩
  ·simp only[Zbl,Zd2 fun t m=>(ih t m).1,Option.map_some,dd]
  ·simp only[dd,PyData.canLay0];exact Zd5 fun t m=>(ih t m).2.1
  ·simp only[dd,PyData.depth]
   have:=Zd6 fun t m=>(ih t m).2.2
   omega
 | @lst n ts _ _ ih=>
  refine⟨?_,?_,?_⟩
  ·simp only[Zbl,Zd2 fun t m=>(ih t m).1,Option.map_some,dd]
  ·simp only[dd,PyData.canLay0];exact Zd5 fun t m=>(ih t m).2.1
  ·simp only[dd,PyData.depth]
   have:=Zd6 fun t m=>(ih t m).2.2
   omega
theorem ZgW: ∀{ts:List T},(∀t∈ts,PyData.eqv (dd t) (dd t)=true)→PyData.eqvAll (dds ts) (dds ts)=true
 | [],_=>by simp[dds,PyData.eqvAll]
 | t::ts,h=>by
  simp only[dds,PyData.eqvAll,Bool.and_eq_true,h t Zz5,ZgW fun t m=>h t (Zz2 _ m),and_self]
theorem Bl.eqv(h:Bl n t): PyData.eqv (dd t) (dd t)=true:=by
 induction h with
 | none=>simp[dd,PyData.eqv]
 | bool=>simp[dd,PyData.eqv]
 | int=>simp[dd,PyData.eqv]
 | str _=>simp[dd,PyData.eqv]
 | tup hs _ ih=>simp only[dd,PyData.eqv];exact ZgW ih
 | lst hs _ ih=>simp only[dd,PyData.eqv];exact ZgW ih
theorem Ziq{a:T}(ha:Bl n a)(hn:n≤40:=by decide): Zb4 a a=some true:=by
 have ha:=ha.mono hn
 obtain⟨a1,a2,a3⟩:=ha.dat
 unfold Zb4 ZbC
 rw[a1]
 simp only[Option.bind_some]
 have hs:SeqAt.shaped (dd a)=true:=by simp only[SeqAt.shaped,a2,Bool.true_and,decide_eq_true_eq];omega
 rw[if_pos ⟨hs,hs⟩,ha.eqv]
section
variable {Q:T→Prop}
theorem Zjb{a:T}(ha:Bl n a)(h:Q (.bool true))(hn:n≤40:=by decide): Pk (qEq a a) Q:=⟨_,by simp only[qEq,Ziq ha hn,Option.map_some],h⟩
theorem ZmQ{a:T}(ha:Bl n a)(h:Q (.bool false))(hn:n≤40:=by decide): Pk (qNe a a) Q:=⟨_,by simp only[qNe,Ziq ha hn,Option.map_some];rfl,h⟩
end
theorem bl0: ∀t∈([]:List T),Bl n t:=fun t h=>(List.not_mem_nil h).elim
theorem blc(h:Bl n t)(k:∀t∈ts,Bl n t): ∀u∈t::ts,Bl n u:=fun u m=>by
 rcases Zz7.mp m with rfl | m
 ·exact h
 ·exact k u m
section
variable {Q:T→Prop}
theorem Zg8(h1:-(2 ^ 64)<a)(h2:a<2 ^ 64)(h:Q (.int (a*b))): Pk (Zbq (.int a) (.int b)) Q:=ZmA (Zj1 h1 h2) h
theorem ZfT(h:Q (.int 1000000000)): Pk (Zbk (.int 10) (.int 9)) Q:=⟨_,by simp only[Zbk];rw[if_pos (by decide +kernel)];rfl,h⟩
end
section
variable {ns:List Int} {p:Nat} {Q:T→List T→Prop}
end
section
variable {Q:T→Prop}
theorem ZfK(h:Q (.int T60)): Pk (Zbk (.int 10) (.int 60)) Q:=by
 have:=Zl8 []
 simp only[oPow]at this
 split at this
 ·rename_i hc
  refine⟨_,by simp only[Zbk];rw[if_pos hc],?_⟩
  simp only[Option.some.injEq,Prod.mk.injEq,V.int.injEq,and_true]at this
  rw[this];exact h
 ·cases this
theorem ZmR{a b:Str}(h:a≠b): T.str a≠T.str b:=fun e=>h (by cases e;rfl)
theorem Zdv{a:Str}(ha:PyData.strOk a=true)(h:Q (.bool true)): Pk (qEq (.str a) (.str a)) Q:=Zi7 (n:=1) (m:=1) (.str ha) (.str ha) (by rw[Zjr rfl];exact h)
theorem ZcC{a b:Str}(hab:(PyData.strOk a && PyData.strOk b && decide (a≠b))=true)(h:Q (.bool false)): Pk (qEq (.str a) (.str b)) Q:=by
 simp only[Bool.and_eq_true,decide_eq_true_eq]at hab
 exact Zi7 (n:=1) (m:=1) (.str hab.1.1) (.str hab.1.2) (by rw[Zjs (ZmR hab.2)];exact h)
end
section
variable {ns:List Int} {p:Nat} {r:Int} {Q:T→List T→Prop}
end
inductive Nice: Nat→T→Prop where
 | none {n:Nat}:Nice n .none
 | bool {n:Nat} (b:Bool):Nice n (.bool b)
 | int {n:Nat} (i:Int):Nice n (.int i)
 | str {n:Nat} {s:Str}:PyData.strOk s=true→Nice n (.str s)
 | tup {n:Nat} {ts:List T}:ts.length≤1000→(∀t∈ts,Nice n t)→Nice (n+1) (.tup ts)
 | lst {n:Nat} {ts:List T}:ts.length≤1000→(∀t∈ts,Nice n t)→Nice (n+1) (.lst ts)
theorem Nice.mono{m:Nat}(h:Nice n t)(k:n≤m): Nice m t:=by
 induction h generalizing m with
 | none=>exact .none
 | bool b=>exact .bool b
 | int i=>exact .int i
 | str h=>exact .str h
 | tup h1 h2 ih=>
  match m,k with
  | m+1,k=>exact .tup h1 fun t ht=>ih t ht (by omega)
 | lst h1 h2 ih=>
  match m,k with
  | m+1,k=>exact .lst h1 fun t ht=>ih t ht (by omega)
theorem nl0: ∀t∈([]:List T),Nice n t:=fun t h=>(List.not_mem_nil h).elim
theorem nlc(h:Nice n t)(k:∀t∈ts,Nice n t): ∀u∈t::ts,Nice n u:=fun u m=>by
 rcases Zz7.mp m with rfl | m
 ·exact h
 ·exact k u m
section
variable {ns:List Int} {p:Nat} {r:Int} {Q:T→List T→Prop}
end
noncomputable def iF: Str:=Str.ofString "if"
noncomputable def wH: Str:=Str.ofString "while"
def Zbs(t:T): Prop:=Nice 3 t∧∃w rest,t=.tup (.str w::rest)∧(PyData.strOk w && PyData.strOk iF && decide (w≠iF))=true∧(PyData.strOk w && PyData.strOk wH && decide (w≠wH))=true
theorem Zdw{w:Str}{rest:List T}(h:rest.length≤10)(k:∀t∈rest,Nice 2 t)(h1:(PyData.strOk w && PyData.strOk iF && decide (w≠iF))=true)(h2:(PyData.strOk w && PyData.strOk wH && decide (w≠wH))=true): Zbs (.tup (.str w::rest)):=by
 refine⟨.tup (by simp;omega) (nlc (.str ?_) k),w,rest,rfl,h1,h2⟩
 simp only[Bool.and_eq_true]at h1
 exact h1.1.1
section
variable {ns:List Int} {p:Nat} {r:Int} {Q:T→List T→Prop}
end
noncomputable def ifT(c:T)(a b:List T): T:=.tup [.str iF,c,.lst a,.lst b]
noncomputable def whT(c:T)(a:List T): T:=.tup [.str wH,c,.lst a]
inductive Bs(S:Nat→T→Prop): Nat→List T→Prop where
 | nil:Bs S 0 []
 | cons {k m:Nat} {t:T} {ts:List T}:S k t→Bs S m ts→Bs S (k+m) (t::ts)
theorem Bs.append{m:Nat}{us:List T}(h:Bs S k ts)(g:Bs S m us): Bs S (k+m) (ts++us):=by
 induction h with
 | nil=>rw[Nat.zero_add];exact g
 | cons a _ ih=>rw[Nat.add_assoc];exact .cons a ih
theorem Bs.one(h:S k t): Bs S k [t]:=.cons (m:=0) h .nil
theorem Bs.mono{S':Nat→T→Prop}(h:Bs S k ts)(g:∀k t,S k t→S' k t): Bs S' k ts:=by
 induction h with
 | nil=>exact .nil
 | cons a _ ih=>exact .cons (g _ _ a) ih
noncomputable def St: Nat→Nat→T→Prop
 | 0=>fun k t=>k=1∧Zbs t
 | n+1=>fun k t=>(k=1∧Zbs t)∨(∃c a b ka kb,t=ifT c a b∧Nice 2 c∧Bs (St n) ka a∧Bs (St n) kb b∧a.length≤4∧b.length≤4∧k=ka+kb+1)∨(∃c a ka,t=whT c a∧Nice 2 c∧Bs (St n) ka a∧a.length≤4∧k=ka+1)
section
variable {ns:List Int} {p:Nat} {r:Int} {Q:T→List T→Prop}
end
theorem Ze5{j:Nat}{F:List T→Option T}{g:PE}(hg:ZaT g σ=some ts)(hl:ts.length≤1000)(h:∀t∈ts,F [t]=some t)(q:Q (.lst ts)): Pk (Zcj (ZaT g) (Zav j) Zbz (ZW F (Zd (Zc j) Zo)) σ) Q:=by
 refine⟨.lst ts,?_,q⟩
 have:=Zh5 (σ:=σ) (j:=j) (f:=ZW F (Zd (Zc j) Zo)) (h:=fun t=>t) (ts:=ts) fun t m=>by
  simp only[ZW,Zd,Zc,Zo,Ze0,Option.bind_some,Option.map_some]
  exact h t m
 simp only[Zcj,hg,Option.bind_some,this]
 rw[if_pos (by rw[Zas];omega)]
 simp
theorem Zkd(h:Nice n t): ZcP (n+1) [t]=some t:=by
 induction h with
 | none=>rfl
 | bool b=>rfl
 | int i=>rfl
 | str h=>rfl
 | @tup n ts hl hs ih=>
  apply Pk.eq
  show Pk (Zbo 1 (Zdl (ZcP (n+1))) [.tup ts]) _
  unfold Zdl
  walk_at "z"
  refine Ze5 (ts:=ts) rfl hl ih ?_
  walk_at "z"
  rfl
 | @lst n ts hl hs ih=>
  apply Pk.eq
  show Pk (Zbo 1 (Zdl (ZcP (n+1))) [.lst ts]) _
  unfold Zdl
  walk_at "z"
  exact Ze5 (ts:=ts) rfl hl ih rfl
theorem Zh2(h:Nice 23 t): Zfl [t]=some t:=Zkd h
noncomputable def goT: T:=.tup [.str (Str.ofString "go")]
noncomputable def Zaw(c:T)(b:Bool): T:=.tup [.str (Str.ofString "when"),c,.bool b]
noncomputable def rowT(a:Int)(t:T)(b:Int): T:=.tup [.int a,t,.int b]
inductive LyB(L:T→Int→List T→Int→Prop): List T→Int→List T→Int→Prop where
 | nil {u:Int}:LyB L [] u [] u
 | cons {t:T} {ts:List T} {u e e':Int} {r r':List T}:L t u r e→LyB L ts e r' e'→LyB L (t::ts) u (r++r') e'
noncomputable def LyS: Nat→T→Int→List T→Int→Prop
 | 0=>fun t u r e=>Zbs t∧r=[rowT u t (u+1)]∧e=u+1
 | n+1=>fun t u r e=>(Zbs t∧r=[rowT u t (u+1)]∧e=u+1) ∨
   (∃c a b ra ea rb eb,t=ifT c a b∧Nice 2 c∧LyB (LyS n) a (u+1) ra ea∧LyB (LyS n) b (ea+1) rb eb∧r=rowT u (Zaw c true) (u+1)::(ra++rowT u (Zaw c false) (ea+1)::(rb++[rowT ea goT (eb+1),rowT eb goT (eb+1)]))∧e=eb+1) ∨
   (∃c a ra ea,t=whT c a∧Nice 2 c∧LyB (LyS n) a (u+2) ra ea∧r=rowT u goT (u+1)::rowT (u+1) (Zaw c true) (u+2)::(ra++[rowT ea goT (u+1),rowT (u+1) (Zaw c false) (ea+1)])∧e=ea+1)
section
variable {Q:T→List T→Prop}
theorem Zc0{h:Int}{act:T}(hl:rows.length<10000)(q:Q (.int (u+1)) [ZaQ (rows++[rowT h act (u+1)]) (u+1)]): Pr (ZbM [ZaQ rows u,.int h,act]) Q:=by
 refine⟨_,_,?_,q⟩
 show(if ZI=ZI∧rows.length<10000 then _ else _)=_
 rw[if_pos ⟨rfl,hl⟩]
 rfl
theorem Zjc{h:Int}{act:T}(hl:rows.length<10000)(hf:act.flat=true)(q:Q .none [ZaQ (rows++[rowT h act b]) u]): Pr (ZdW [ZaQ rows u,.int h,act,.int b]) Q:=by
 unfold ZdW Zgx
 walk_at "tz"
 refine ZlR (by decide) ?_
 walk_at "tz"
 refine⟨hf,?_⟩
 walk_at "tz"
 refine⟨_,rows,rfl,rfl,hl,?_⟩
 show Pl (Zb6 (updT _ 0 (ZaQ (rows++[rowT h act b]) u)) [(0,999)]) _
 walk_at "tz"
 exact q
theorem Zfm{b:Bool}(h:Nice 2 c): ZcM [c,.bool b]=some (Zaw c b):=by
 apply Pk.eq
 unfold ZcM ZgI
 walk_at "z"
 refine Pk.of (Zh2 (h.mono (by decide))) ?_
 walk_at "z"
 rfl
theorem Za6{Q2:T→TL→Prop}{p:PX}(e:σ x=some (ZaQ rows u))(h:Px (p σ) Q2): Px (ZaN x ZI p σ) Q2:=ZlQ e h
def Zdx(n:Nat)(P:List T→Option (T×List T)): Prop:=∀(ts rows r:List T) (u e:Int) (Q:T→List T→Prop),LyB (LyS n) ts u r e→rows.length+r.length≤9000→Q (.int e) [ZaQ (rows++r) e]→Pr (P [ZaQ rows u,.lst ts,.int u]) Q
theorem Znd(hP:Zdx n P){a b rb:List T}{ea eb:Int}(hc:Nice 2 c)(ha:LyB (LyS n) a (u+1) ra ea)(hb:LyB (LyS n) b (ea+1) rb eb)(hl:rows.length+ra.length+rb.length+4≤9000)
  (q:Q (.int (eb+1)) [ZaQ (rows++(rowT u (Zaw c true) (u+1)::(ra++rowT u (Zaw c false) (ea+1)::(rb++[rowT ea goT (eb+1),rowT eb goT (eb+1)])))) (eb+1)]):Pr (ZeK P [ZaQ rows u,ifT c a b,.int u]) Q:=by
 unfold ZeK Zgq ifT
 walk_at "tz"
 refine Za6 rfl ?_
 walk_at "tz"
 refine Pk.of (Zfm hc) ?_
 walk_at "tz"
 refine Zc0 (by omega) ?_
 walk_at "tz"
 apply Za6
 ·walk_at "tr"
 walk_at "tz"
 refine hP _ _ _ _ _ _ ha (by simp;omega) ?_
 walk_at "tz"
 apply Za6
 ·walk_at "tr"
 walk_at "tz"
 refine Pk.of (Zfm hc) ?_
 walk_at "tz"
 refine Zc0 (by simp;omega) ?_
 walk_at "tz"
 apply Za6
 ·walk_at "tr"
 walk_at "tz"
 refine hP _ _ _ _ _ _ hb (by simp;omega) ?_
 walk_at "tz"
 apply Za6
 ·walk_at "tr"
 walk_at "tz"
 refine Zc0 (by simp;omega) ?_
 walk_at "tz"
 apply Za6
 ·walk_at "tr"
 walk_at "tz"
 refine Zjc (by simp;omega) rfl ?_
 walk_at "tz"
 simpa [goT,List.append_assoc]using q
theorem Zk4(hP:Zdx n P){a:List T}{ea:Int}(hc:Nice 2 c)(ha:LyB (LyS n) a (u+2) ra ea)(hl:rows.length+ra.length+4≤9000)
  (q:Q (.int (ea+1)) [ZaQ (rows++(rowT u goT (u+1)::rowT (u+1) (Zaw c true) (u+2)::(ra++[rowT ea goT (u+1),rowT (u+1) (Zaw c false) (ea+1)]))) (ea+1)]):Pr (ZeE P [ZaQ rows u,whT c a,.int u]) Q:=by
 unfold ZeE Zf0 whT
 have e2:u+1+1=u+2:=by omega
 walk_at "tz"
 refine Za6 rfl ?_
 walk_at "tz"
 refine Zc0 (by omega) ?_
 walk_at "tz"
 apply Za6
 ·walk_at "tr"
 walk_at "tz"
 refine Pk.of (Zfm hc) ?_
 walk_at "tz"
 refine Zc0 (by simp;omega) ?_
 rw[e2]
 walk_at "tz"
 apply Za6
 ·walk_at "tr"
 walk_at "tz"
 refine hP _ _ _ _ _ _ ha (by simp;omega) ?_
 walk_at "tz"
 apply Za6
 ·walk_at "tr"
 walk_at "tz"
 refine Zjc (by simp;omega) rfl ?_
 walk_at "tz"
 apply Za6
 ·walk_at "tr"
 walk_at "tz"
 refine Pk.of (Zfm hc) ?_
 walk_at "tz"
 refine Zc0 (by simp;omega) ?_
 walk_at "tz"
 simpa [goT,List.append_assoc]using q
theorem Zjd(h:Zbs t)(hl:rows.length+1≤9000)(q:Q (.int (u+1)) [ZaQ (rows++[rowT u t (u+1)]) (u+1)]): Pr (ZcF P [ZaQ rows u,t,.int u]) Q:=by
 obtain⟨hn,w,rest,rfl,h1,h2⟩:=h
 unfold ZcF ZdJ
 walk_at "tz"
 refine ZcC h1 ?_
 walk_at "tz"
 refine ZcC h2 ?_
 walk_at "tz"
 refine Za6 rfl ?_
 walk_at "tz"
 refine Pk.of (Zh2 (hn.mono (by decide))) ?_
 walk_at "tz"
 refine Zc0 (by omega) ?_
 walk_at "tz"
 exact q
theorem ZmS: ∀{n:Nat} {P:List T→Option (T×List T)},(∀m,n=m+1→Zdx m P)→∀{t:T} {rows r:List T} {u e:Int},LyS n t u r e→rows.length+r.length≤9000→Q (.int e) [ZaQ (rows++r) e]→Pr (ZcF P [ZaQ rows u,t,.int u]) Q
 | 0,P,hP,t,rows,r,u,e,h,hl,q=>by
  obtain⟨h1,rfl,rfl⟩:=h
  exact Zjd h1 (by simpa using hl) q
 | n+1,P,hP,t,rows,r,u,e,h,hl,q=>by
  rcases h with⟨h1,rfl,rfl⟩ | ⟨c,a,b,ra,ea,rb,eb,rfl,hc,ha,hb,rfl,rfl⟩ | ⟨c,a,ra,ea,rfl,hc,ha,rfl,rfl⟩
  ·exact Zjd h1 (by simpa using hl) q
  ·unfold ZcF ZdJ
   walk_at "tz"
   refine Zfg (t:=.str iF) (by decide) rfl ?_
   walk_at "tz"
   refine Zdv (by decide +kernel) ?_
   walk_at "tz"
   refine Za6 rfl ?_
   walk_at "tz"
   refine Znd (hP n rfl) hc ha hb (by simp at hl;omega) ?_
   walk_at "tz"
   exact q
  ·unfold ZcF ZdJ
   walk_at "tz"
   refine Zfg (t:=.str wH) (by decide) rfl ?_
   walk_at "tz"
   refine ZcC (by decide +kernel) ?_
   walk_at "tz"
   refine Zfg (t:=.str wH) (by decide) rfl ?_
   walk_at "tz"
   refine Zdv (by decide +kernel) ?_
   walk_at "tz"
   refine Za6 rfl ?_
   walk_at "tz"
   refine Zk4 (hP n rfl) hc ha (by simp at hl;omega) ?_
   walk_at "tz"
   exact q
theorem Zk5(hP:∀m,n=m+1→Zdx m P): Zdx n (Zaq 3 [(0,999)] (ZeF P)):=fun ts rows r u e Q h hl q=>by
 unfold ZeF
 walk_at "tz"
 refine Zfu (ts:=ts) (fun i τ=>∃r1 r2 e1,r=r1++r2∧LyB (LyS n) (ts.drop i) e1 r2 e∧τ 0=some (ZaQ (rows++r1) e1)∧τ 3=some (.int e1)) ?_ ⟨[],r,u,rfl,h,?_,?_⟩ (fun i t τ hi hI=>?_) fun τ hI=>?_
 ·walk_at "tz"
  rfl
 ·rw[List.append_nil]
  walk_at "tr"
 ·walk_at "tr"
 ·obtain⟨r1,r2,e1,rfl,hB,e0,e3⟩:=hI
  have hd:ts.drop i=t::ts.drop (i+1):=by
   have:=(Zz6.mp hi)
   obtain⟨hlt,e⟩:=this
   rw[List.drop_eq_getElem_cons hlt,e]
  rw[hd]at hB
  cases hB with
  | @cons _ _ _ e2 _ ra rb hS hB=>
   walk_at "tz"
   apply Za6
   ·walk_at "tr"
   walk_at "tz"
   refine ZmS hP hS (by simp at hl ⊢;omega) ?_
   walk_at "tz"
   refine⟨r1++ra,rb,e2,by simp,hB,?_,?_⟩
   ·rw[←List.append_assoc]
    walk_at "tr"
   ·walk_at "tr"
 ·obtain⟨r1,r2,e1,rfl,hB,e0,e3⟩:=hI
  rw[List.drop_length]at hB
  cases hB
  walk_at "tz"
  simpa using q
theorem ZiQ: ∀(f n:Nat),n<f→Zdx n (ZdK f)
 | 0,n,h=>absurd h (by omega)
 | f+1,n,h=>Zk5 fun m e=>ZiQ f m (by omega)
end
theorem Zfv{L:T→Int→List T→Int→Prop}(hS:∀k t,S k t→∀u,∃r e,L t u r e∧r.length≤4*k)(h:Bs S k ts): ∀u,∃r e,LyB L ts u r e∧r.length≤4*k:=by
 induction h with
 | nil=>intro u;exact⟨[],u,.nil,by simp⟩
 | cons a _ ih=>
  intro u
  obtain⟨r,e,h1,h2⟩:=hS _ _ a u
  obtain⟨r',e',h3,h4⟩:=ih e
  exact⟨r++r',e',.cons h1 h3,by simp;omega⟩
theorem Zl0{Q:T→List T→Prop}(q:Q .none [ZaQ [] 0]): Pr (ZeJ [.ob ZI []]) Q:=by
 unfold ZeJ Zgn
 walk_at "tz"
 refine ZiO (by decide) ?_
 walk_at "tz"
 refine⟨[],_,rfl,rfl,?_⟩
 walk_at "tz"
 refine ZiO (by decide) ?_
 walk_at "tz"
 refine⟨_,_,rfl,rfl,?_⟩
 walk_at "tz"
 exact q
theorem Zl1(hn:n<9)(h:LyB (LyS n) ts 0 r e)(hl:r.length≤9000): ZdZ [.lst ts]=some (.lst r):=by
 have:Pr (Ze3 [.lst ts]) fun t _=>t=.lst r:=by
  unfold Ze3 ZgT
  walk_at "tz"
  refine ZmM ?_
  walk_at "tz"
  refine Zl0 ⟨rfl,_,rfl,?_⟩
  walk_at "tz"
  apply Za6
  ·walk_at "tr"
  walk_at "tz"
  refine ZiQ 9 n hn _ _ _ _ _ _ h (by simpa using hl) ?_
  walk_at "tz"
  refine ZmL (ts:=[.lst r,.int e]) rfl ?_
  walk_at "tz"
  rfl
 obtain⟨t,us,e1,rfl⟩:=this
 simp[ZdZ,e1]
def B60(v:Int): Prop:=-T60≤v∧v≤T60
def B9(v:Int): Prop:=-1000000000≤v∧v≤1000000000
def SumOk(n:Nat)(s:List Int): Prop:=s.length=n+1∧(∀k∈s.take 1,B60 k)∧∀k∈s.drop 1,B9 k
noncomputable def smT(s:List Int): T:=.lst (s.map T.int)
noncomputable def wU: Str:=Str.ofString "under"
noncomputable def wS: Str:=Str.ofString "same"
noncomputable def wE: Str:=Str.ofString "even"
noncomputable def wY: Str:=Str.ofString "say"
def Zbe(n:Nat)(c:T): Prop:=∃s,SumOk n s∧(c=.tup [.str wU,smT s]∨c=.tup [.str wS,smT s]∨∃d,1≤d∧d≤T60∧c=.tup [.str wE,smT s,.int d])
section
variable {ns:List Int} {p:Nat} {Q:T→List T→Prop}
theorem Zir(hl:ns.length≤200)(h:∀v p',B60 v→Q (.int v) [tpT ns p']): Pr (ZdM [tpT ns p]) Q:=by
 have e60:=T60_eq
 unfold ZdM Zf2
 walk_at "tz"
 refine Zay hl (by decide) fun v v0 v1=>?_
 walk_at "tz"
 refine⟨fun c=>?_,fun c=>?_⟩
 ·walk_at "tz"
  refine Zay hl (by decide) fun v v0 v1=>?_
  walk_at "tz"
  exact h _ _ (by unfold B60;omega)
 walk_at "tz"
 refine⟨fun c=>?_,fun c=>?_⟩
 ·walk_at "tz"
  refine ZfK ?_
  walk_at "tz"
  refine Zg8 (by decide) (by decide) ?_
  walk_at "tz"
  refine Zay hl (by omega) fun v v0 v1=>?_
  walk_at "tz"
  refine ZfK ?_
  walk_at "tz"
  exact h _ _ (by unfold B60;omega)
 ·walk_at "tz"
  refine ZfT ?_
  walk_at "tz"
  refine Zg8 (by decide) (by decide) ?_
  walk_at "tz"
  refine Zay hl (by decide) fun v v0 v1=>?_
  walk_at "tz"
  refine ZfT ?_
  walk_at "tz"
  exact h _ _ (by unfold B60;omega)
theorem Zne{v:Int}(h0:0≤v)(h1:v<12): ∃z,B9 z∧[T.int 0,T.int 0,T.int 0,T.int 0,T.int 1,T.int 1,T.int 1,T.int (-1),T.int 2,T.int (-3),T.int 1,T.int 0][v.toNat]?=some (.int z):=by
 have hv:v=0∨v=1∨v=2∨v=3∨v=4∨v=5∨v=6∨v=7∨v=8∨v=9∨v=10∨v=11:=by omega
 rcases hv with rfl | rfl | rfl | rfl | rfl | rfl | rfl | rfl | rfl | rfl | rfl | rfl <;> exact⟨_,by unfold B9;omega,rfl⟩
theorem Zdy(hl:ns.length≤200)(hn:n≤100)(h:∀s p',SumOk n s→Q (smT s) [tpT ns p']): Pr (ZcJ [tpT ns p,.int n]) Q:=by
 unfold ZcJ Zgt
 walk_at "tz"
 refine Zir hl fun v p1 hv=>?_
 walk_at "tz"
 refine Zhk (n:=n) (a:=fun i=>.int (i:Nat)) (fun i τ=>∃s p',τ 0=some (tpT ns p')∧τ 2=some (smT s)∧SumOk i s) ?_ ⟨[v],p1,?_,?_,rfl,?_,?_⟩ (fun i τ hi hI=>?_) (fun τ hI=>?_)
 ·walk_at "tz"
  rfl
 ·walk_at "tr"
 ·walk_at "tr"
 ·intro k hk;simp at hk;rw[hk];exact hv
 ·intro k hk;simp at hk
 ·obtain⟨s,p',e0,e2,h1,h2,h3⟩:=hI
  walk_at "tz"
  refine Zay hl (by decide) fun v v0 v1=>?_
  obtain⟨z,hz,ez⟩:=Zne v0 v1
  walk_at "tz"
  refine Za7 (t:=.int z) v0 ez ?_
  walk_at "tz"
  refine⟨s.map T.int,by walk_at "tr",by simp;omega,?_⟩
  walk_at "tz"
  have app:∀w,B9 w→SumOk (i+1) (s++[w]):=fun w hw=>by
   cases s with
   | nil=>simp at h1
   | cons a s=>
    refine⟨by simp at h1 ⊢;omega,by simpa using h2,fun k hk=>?_⟩
    simp only[List.cons_append,List.drop_succ_cons,List.drop_zero,List.mem_append,List.mem_singleton]at hk
    rcases hk with hk | rfl
    ·exact h3 k (by simpa using hk)
    ·exact hw
  refine⟨fun c=>?_,fun c=>?_⟩
  ·walk_at "tz"
   refine ZfT ?_
   walk_at "tz"
   refine Zg8 (by decide) (by decide) ?_
   walk_at "tz"
   refine Zay hl (by decide) fun w w0 w1=>?_
   walk_at "tz"
   refine ZfT ?_
   walk_at "tz"
   refine⟨(s++[z]).map T.int,(i:Int)+1,rfl,by rw[List.map_append];walk_at "tr",by omega,by simp;omega,?_⟩
   walk_at "tz"
   refine⟨s++[w-1000000000],p'+1+1,?_,?_,app _ (by unfold B9;omega)⟩
   ·walk_at "tr"
   ·have:T.lst (((s++[z]).map T.int).set ((i:Int)+1).toNat (.int (w-1000000000)))=smT (s++[w-1000000000]):=by
     unfold smT
     rw[show((i:Int)+1).toNat=s.length by omega,List.map_append,List.map_append,List.set_append_right _ _ (by simp)]
     simp
    rw[←this]
    walk_at "tr"
  ·walk_at "tz"
   refine⟨s++[z],p'+1,?_,?_,app z hz⟩
   ·walk_at "tr"
   ·unfold smT
    rw[List.map_append]
    walk_at "tr"
 ·obtain⟨s,p',e0,e2,hs⟩:=hI
  walk_at "tz"
  exact h s p' hs
theorem Zht(hl:ns.length≤200)(h:∀d p',1≤d→d≤T60→Q (.int d) [tpT ns p']): Pr (ZdR [tpT ns p]) Q:=by
 have e60:=T60_eq
 unfold ZdR Zgi
 walk_at "tz"
 refine Zay hl (by decide) fun v v0 v1=>?_
 walk_at "tz"
 refine⟨fun c=>?_,fun c=>?_⟩
 ·have c:=of_decide_eq_true c
  obtain⟨z,z0,z1,ez⟩:∃z:Int,1≤z∧z≤4∧[T.int 2,T.int 3,T.int 2,T.int 4,T.int 1][v.toNat]?=some (.int z):=by
   have hv:v=0∨v=1∨v=2∨v=3∨v=4:=by omega
   rcases hv with rfl | rfl | rfl | rfl | rfl <;> exact⟨_,by omega,by omega,rfl⟩
  walk_at "tz"
  refine Za7 (t:=.int z) v0 ez ?_
  walk_at "tz"
  exact h _ _ (by omega) (by omega)
 walk_at "tz"
 refine⟨fun c=>?_,fun c=>?_⟩
 ·walk_at "tz"
  refine ZfK ?_
  walk_at "tz"
  refine Zay hl (by omega) fun w w0 w1=>?_
  walk_at "tz"
  exact h _ _ (by omega) (by omega)
 ·walk_at "tz"
  refine Zay hl (by decide) fun w w0 w1=>?_
  walk_at "tz"
  exact h _ _ (by omega) (by omega)
theorem Zhm(hl:ns.length≤200)(hn:n≤100)(h:∀c p',Zbe n c→Q c [tpT ns p']): Pr (ZdO [tpT ns p,.int n]) Q:=by
 unfold ZdO Zf6
 walk_at "tz"
 refine Zay hl (by decide) fun v v0 v1=>?_
 walk_at "tz"
 refine Zdy hl hn fun s p1 hs=>?_
 walk_at "tz"
 refine⟨fun c=>?_,fun c=>?_⟩
 ·walk_at "tz"
  refine Zht hl fun d p2 d0 d1=>?_
  walk_at "tz"
  exact h _ _ ⟨s,hs,.inr (.inr ⟨d,d0,d1,rfl⟩)⟩
 ·have c:=of_decide_eq_false c
  have hv:v=0∨v=1∨v=2:=by omega
  walk_at "tz"
  rcases hv with rfl | rfl | rfl
  ·refine Za7 (t:=.str wU) (by decide) rfl ?_
   walk_at "tz"
   exact h _ _ ⟨s,hs,.inl rfl⟩
  ·refine Za7 (t:=.str wU) (by decide) rfl ?_
   walk_at "tz"
   exact h _ _ ⟨s,hs,.inl rfl⟩
  ·refine Za7 (t:=.str wS) (by decide) rfl ?_
   walk_at "tz"
   exact h _ _ ⟨s,hs,.inr (.inl rfl)⟩
def OB(o:Option Int): Prop:=∀v,o=some v→B60 v
noncomputable def oT': Option Int→T
 | none=>.none
 | some v=>.int v
theorem Znf{x:Int}(hl:ns.length≤200)(h:∀lo hi p',OB lo→OB hi→(∀a b,lo=some a→hi=some b→a≤b)→Q (.tup [.str (Str.ofString "any"),.int x,oT' lo,oT' hi]) [tpT ns p']): Pr (Ze1 [tpT ns p,.int x]) Q:=by
 have e60:=T60_eq
 unfold Ze1 ZgR
 walk_at "tz"
 refine Zir hl fun v p1 hv=>?_
 unfold B60 at hv
 walk_at "tz"
 refine ZfK ?_
 walk_at "tz"
 refine Zay hl (by decide) fun w w0 w1=>?_
 walk_at "tz"
 refine Zay hl (by decide) fun k k0 k1=>?_
 walk_at "tz"
 have bb:∀z,z=v∨z=(if v+w<T60 then v+w else T60)→B60 z:=fun z hz=>by
  unfold B60
  rcases hz with rfl | rfl
  ·omega
  ·split <;> omega
 have le:v≤(if v+w<T60 then v+w else T60):=by split <;> omega
 have b1:OB (some v):=fun z e=>by cases e;exact bb _ (.inl rfl)
 have b2:OB (some (if v+w<T60 then v+w else T60)):=fun z e=>by cases e;exact bb _ (.inr rfl)
 have b0:OB none:=fun z e=>by cases e
 have hk:k=0∨k=1∨k=2∨k=3∨k=4∨k=5:=by omega
 rcases hk with rfl | rfl | rfl | rfl | rfl | rfl
 ·refine Za7 (t:=.int v) (by decide) rfl ?_
  walk_at "tz"
  exact h (some v) (some (if v+w<T60 then v+w else T60)) _ b1 b2 (fun a b e1 e2=>by cases e1;cases e2;exact le)
 ·refine Za7 (t:=.int v) (by decide) rfl ?_
  walk_at "tz"
  exact h (some v) (some (if v+w<T60 then v+w else T60)) _ b1 b2 (fun a b e1 e2=>by cases e1;cases e2;exact le)
 ·refine Za7 (t:=.int v) (by decide) rfl ?_
  walk_at "tz"
  exact h (some v) (some (if v+w<T60 then v+w else T60)) _ b1 b2 (fun a b e1 e2=>by cases e1;cases e2;exact le)
 ·refine Za7 (t:=.int v) (by decide) rfl ?_
  walk_at "tz"
  exact h (some v) (none) _ b1 b0 (fun a b e1 e2=>by cases e2)
 ·refine Za7 (t:=.none) (by decide) rfl ?_
  walk_at "tz"
  exact h (none) (some (if v+w<T60 then v+w else T60)) _ b0 b2 (fun a b e1 e2=>by cases e1)
 ·refine Za7 (t:=.none) (by decide) rfl ?_
  walk_at "tz"
  exact h (none) (none) _ b0 b0 (fun a b e1 e2=>by cases e1)
end
def Pl7(p n:Nat)(ps:List Nat)(t:T): Prop:=
 (∃c,Zbe n c∧t=.tup [.str wY,c]) ∨
 (∃(x:Nat) (s:List Int),p<x∧x≤n∧SumOk n s∧t=.tup [.str (Str.ofString "set"),.int x,smT s]) ∨
 (∃(w:Str) (x:Nat) (s:List Int) (d:Int),(w=Str.ofString "part"∨w=Str.ofString "rest")∧p<x∧x≤n∧SumOk n s∧1≤d∧d≤T60∧t=.tup [.str w,.int x,smT s,.int d]) ∨
 (∃(x:Nat) (lo hi:Option Int),p<x∧x≤n∧OB lo∧OB hi∧(∀a b,lo=some a→hi=some b→a≤b)∧t=.tup [.str (Str.ofString "any"),.int x,oT' lo,oT' hi]) ∨
 (∃(x f:Nat) (ss:List (List Int)) (q:Nat),p<x∧x≤n∧ps[f]?=some q∧ss.length=q∧(∀s∈ss,SumOk n s)∧t=.tup [.str (Str.ofString "call"),.int x,.int f,.lst (ss.map smT)])
noncomputable def StP(P C:T→Prop): Nat→Nat→T→Prop
 | 0=>fun k t=>k=1∧P t
 | n+1=>fun k t=>(k=1∧P t)∨(∃c a b ka kb,t=ifT c a b∧C c∧Bs (StP P C n) ka a∧Bs (StP P C n) kb b∧a.length≤4∧b.length≤4∧k=ka+kb+1)∨(∃c a ka,t=whT c a∧C c∧Bs (StP P C n) ka a∧a.length≤4∧k=ka+1)
theorem StP.plain{P C:T→Prop}(h:P t): StP P C n 1 t:=by
 cases n with
 | zero=>exact⟨rfl,h⟩
 | succ n=>exact .inl ⟨rfl,h⟩
theorem StP.st{P C:T→Prop}(hP:∀t,P t→Zbs t)(hC:∀c,C c→Nice 2 c): ∀(n k:Nat) (t:T),StP P C n k t→St n k t
 | 0,k,t,h=>⟨h.1,hP t h.2⟩
 | n+1,k,t,h=>by
  rcases h with⟨h1,h2⟩ | ⟨c,a,b,ka,kb,h1,h2,h3,h4,h5⟩ | ⟨c,a,ka,h1,h2,h3,h4⟩
  ·exact .inl ⟨h1,hP t h2⟩
  ·exact .inr (.inl ⟨c,a,b,ka,kb,h1,hC c h2,h3.mono (StP.st hP hC n),h4.mono (StP.st hP hC n),h5⟩)
  ·exact .inr (.inr ⟨c,a,ka,h1,hC c h2,h3.mono (StP.st hP hC n),h4⟩)
noncomputable abbrev szT(p n:Nat)(ps:List Nat): T:=.tup [.int p,.int n,.lst (ps.map fun i=>T.int (i:Nat))]
noncomputable abbrev rm2(a b:Nat): T:=.lst [.int a,.int b]
def Zeu(d:Nat)(P:List T→Option (T×List T)): Prop:=∀(ns:List Int) (t0 c p n:Nat) (ps:List Nat) (r0 r1:Nat) (Q:T→List T→Prop),ns.length≤200→c≤8→p≤n→n≤100→ps.length≤100→(∀q∈ps,q≤100) →
 (∀ts k r0' r1' t',Bs (StP (Pl7 p n ps) (Zbe n) d) k ts→ts.length≤c→k+r0'+r1'≤r0+r1→Q (.lst ts) [tpT ns t',rm2 r0' r1'])→Pr (P [tpT ns t0,szT p n ps,rm2 r0 r1,.int d,.int c]) Q
theorem SumOk.at{v:Int}(h0:0<x)(hx:x≤n)(ha:B60 a)(hv:B9 v): SumOk n ((a::List.replicate n 0).set x v):=by
 cases x with
 | zero=>omega
 | succ x=>
  refine⟨by simp,by simpa using ha,fun k hk=>?_⟩
  simp only[List.set_cons_succ,List.drop_succ_cons,List.drop_zero]at hk
  rcases List.mem_or_eq_of_mem_set hk with q | q
  ·rw[(List.mem_replicate.mp q).2];unfold B9;omega
  ·rw[q];exact hv
theorem Zk6(n:Nat): Zey [T.int 0] n=(List.replicate n (0:Int)).map T.int:=by
 induction n with
 | zero=>rfl
 | succ n ih=>rw[Zey,ih,List.replicate_succ',List.map_append];rfl
theorem ZiR(hn:n≤100)(h:Q (.lst ((List.replicate n (0:Int)).map T.int))): Pk (Zbq (.lst [.int 0]) (.int n)) Q:=by
 refine⟨_,?_,h⟩
 simp only[Zbq]
 rw[if_pos (by rw[Zas];simp;omega),Int.toNat_natCast,Zk6]
theorem ZcQ{a b:List T}(hl:a.length+b.length≤10000)(h:Q (.lst (a++b))): Pk (Zad (.lst a) (.lst b)) Q:=by
 refine⟨_,?_,h⟩
 simp only[Zad]
 rw[if_pos (by rw[Zas,List.length_append];omega)]
theorem ZgX(s:List Int): T.flatIn (.lst (s.map T.int))=true:=by
 show T.flats (s.map T.int)=true
 induction s with
 | nil=>rfl
 | cons n ns ih=>simp[T.flats,T.flat,ih]
section
variable {ns:List Int} {t0 p n:Nat} {ps:List Nat} {Q:T→List T→Prop}
theorem ZmT{r0 r1:Nat}(hl:ns.length≤200)(hpn:p≤n)(hn:n≤100)(hps:ps.length≤100)(hq:∀q∈ps,q≤100)(hx:x=0∨(p<x∧x≤n))(hP:Zeu d P)
  (h:∀t k r0' r1' t',StP (Pl7 p n ps) (Zbe n) (d+1) k t→k+r0'+r1'≤r0+r1+1→Q t [tpT ns t',rm2 r0' r1']):Pr (ZeS P [tpT ns t0,szT p n ps,rm2 r0 r1,.int (d+1:Nat),.int x]) Q:=by
 unfold ZeS ZgF
 have ed:((d+1:Nat):Int)-1=d:=by omega
 walk_at "tz"
 refine Zay hl (by decide) fun v v0 v1=>?_
 walk_at "tz"
 refine Zhm hl hn fun cl t1 hc=>?_
 walk_at "tz"
 refine Zay hl (by decide) fun m m0 m1=>?_
 obtain⟨m,rfl⟩:∃k:Nat,m=k:=⟨_,(Int.toNat_of_nonneg m0).symm⟩
 walk_at "tz"
 simp only[ed]
 refine hP _ _ _ _ _ _ _ _ _ hl (by omega) hpn hn hps hq fun a ka s0 s1 t2 ha la hk=>?_
 by_cases c0:v=0
 ·subst c0
  walk_at "tz"
  refine Zay hl (by decide) fun m2 m20 m21=>?_
  obtain⟨m2,rfl⟩:∃k:Nat,m2=k:=⟨_,(Int.toNat_of_nonneg m20).symm⟩
  walk_at "tz"
  simp only[ed]
  refine hP _ _ _ _ _ _ _ _ _ hl (by omega) hpn hn hps hq fun b kb u0 u1 t3 hb lb hk2=>?_
  walk_at "tz"
  exact h (ifT cl a b) (ka+kb+1) u0 u1 t3 (.inr (.inl ⟨cl,a,b,ka,kb,rfl,hc,ha,hb,by omega,by omega,rfl⟩)) (by omega)
 by_cases c1:s1=0
 ·subst c1
  walk_at "tz"
  refine Zay hl (by decide) fun m2 m20 m21=>?_
  obtain⟨m2,rfl⟩:∃k:Nat,m2=k:=⟨_,(Int.toNat_of_nonneg m20).symm⟩
  walk_at "tz"
  simp only[ed]
  refine hP _ _ _ _ _ _ _ _ _ hl (by omega) hpn hn hps hq fun b kb u0 u1 t3 hb lb hk2=>?_
  walk_at "tz"
  exact h (ifT cl a b) (ka+kb+1) u0 u1 t3 (.inr (.inl ⟨cl,a,b,ka,kb,rfl,hc,ha,hb,by omega,by omega,rfl⟩)) (by omega)
 obtain⟨s1,rfl⟩:∃k,s1=k+1:=⟨s1-1,by omega⟩
 have e1:((s1+1:Nat):Int)-1=(s1:Int):=by omega
 have e2:rm2 s0 s1=T.lst ([T.int (s0:Nat),T.int ((s1+1:Nat):Int)].set (Int.toNat 1) (T.int (((s1+1:Nat):Int)-1))):=by rw[e1];rfl
 by_cases c2:v=2∧0<x
 ·obtain⟨rfl,x0⟩:=c2
  have hx':p<x∧x≤n:=by omega
  have cons_rep:∀z:Int,[T.int z]++(List.replicate n (0:Int)).map T.int=(z::List.replicate n 0).map T.int:=fun z=>rfl
  walk_at "tz"
  refine⟨[.int s0,.int ((s1+1:Nat):Int)],1,rfl,by walk_at "tr",by decide,(by simp),?_⟩
  walk_at "tz"
  refine Zay hl (by decide) fun w w0 w1=>?_
  walk_at "tz"
  refine ZiR hn ?_
  walk_at "tz"
  refine ZcQ (by simp;omega) ?_
  rw[cons_rep]
  refine⟨ZgX _,?_⟩
  walk_at "tz"
  refine⟨_,x,rfl,by walk_at "tr",by omega,(by simp;omega),?_⟩
  rw[Int.toNat_natCast,←List.map_set]
  walk_at "tz"
  refine Zay hl (by decide) fun y y0 y1=>?_
  walk_at "tz"
  refine ZiR hn ?_
  walk_at "tz"
  refine ZcQ (by simp;omega) ?_
  rw[cons_rep]
  refine⟨ZgX _,?_⟩
  walk_at "tz"
  refine⟨_,x,rfl,by walk_at "tr",by omega,(by simp;omega),?_⟩
  rw[Int.toNat_natCast,←List.map_set]
  walk_at "tz"
  refine ZcQ (by simp;omega) ?_
  walk_at "tz"
  have e60:=T60_eq
  have k1:SumOk n ((-w::List.replicate n 0).set x 1):=SumOk.at x0 hx'.2 (by unfold B60;omega) (by unfold B9;omega)
  have k2:SumOk n (((1+y)::List.replicate n 0).set x 1):=SumOk.at x0 hx'.2 (by unfold B60;omega) (by unfold B9;omega)
  have:=h (whT (.tup [.str wU,smT ((-w::List.replicate n 0).set x 1)]) (a++[.tup [.str (Str.ofString "set"),.int x,smT (((1+y)::List.replicate n 0).set x 1)]])) (ka+1+1) s0 s1 (t2+1+1) (.inr (.inr ⟨_,_,ka+1,rfl,⟨_,k1,.inl rfl⟩,ha.append (.one (StP.plain (.inr (.inl ⟨x,_,hx'.1,hx'.2,k2,rfl⟩)))),by simp;omega,rfl⟩)) (by omega)
  rw[e2]at this
  exact this
 ·have c2':¬(v=2)∨x=0:=by omega
  rcases c2' with c2' | rfl
  ·walk_at "tz"
   refine⟨[.int s0,.int ((s1+1:Nat):Int)],1,rfl,by walk_at "tr",by decide,(by simp),?_⟩
   walk_at "tz"
   have:=h (whT cl a) (ka+1) s0 s1 t2 (.inr (.inr ⟨_,_,ka,rfl,hc,ha,by omega,rfl⟩)) (by omega)
   rw[e2]at this
   exact this
  ·walk_at "tz"
   refine⟨[.int s0,.int ((s1+1:Nat):Int)],1,rfl,by walk_at "tr",by decide,(by simp),?_⟩
   by_cases c3:v=2
   ·subst c3
    walk_at "tz"
    have:=h (whT cl a) (ka+1) s0 s1 t2 (.inr (.inr ⟨_,_,ka,rfl,hc,ha,by omega,rfl⟩)) (by omega)
    rw[e2]at this
    exact this
   ·walk_at "tz"
    have:=h (whT cl a) (ka+1) s0 s1 t2 (.inr (.inr ⟨_,_,ka,rfl,hc,ha,by omega,rfl⟩)) (by omega)
    rw[e2]at this
    exact this
end
theorem Zis{c:Option (Option T×TL)}{N':TL→Prop}(h:Z3 c R N')(k:∀σ,N' σ→N σ): Z3 c R N:=by
 obtain⟨o,σ,h1,h2,h3⟩:=h
 exact⟨o,σ,h1,h2,fun e=>k σ (h3 e)⟩
section
variable {ns:List Int} {t0 p n:Nat} {ps:List Nat} {Q:T→List T→Prop}
theorem ZjY{r0 r1:Nat}(hl:ns.length≤200)(hpn:p≤n)(hn:n≤100)(hps:ps.length≤100)(hq:∀q∈ps,q≤100)(hP:∀d',d=d'+1→Zeu d' P)
  (h:∀t k r0' r1' t',StP (Pl7 p n ps) (Zbe n) d k t→k+r0'+r1'≤r0+r1+1→Q t [tpT ns t',rm2 r0' r1']):Pr (ZeH P [tpT ns t0,szT p n ps,rm2 r0 r1,.int d]) Q:=by
 unfold ZeH Zf8
 have plain:∀t t',Pl7 p n ps t→Q t [tpT ns t',rm2 r0 r1]:=fun t t' ht=>h t 1 r0 r1 t' (StP.plain ht) (by omega)
 walk_at "tz"
 refine Zay hl (by decide) fun v v0 v1=>?_
 refine ZcZ (Zja (Zjw (Zhq ?_)))
 refine ZcZ (Zis (N':=fun τ=>∃(x:Nat) (t':Nat),(x=0∨(p<x∧x≤n))∧τ 0=some (tpT ns t')∧τ 1=some (szT p n ps)∧τ 2=some (rm2 r0 r1)∧τ 3=some (.int d)∧τ 4=some (.int n)∧τ 5=some (.int v)∧τ 6=some (.int x)) ?_ fun τ hτ=>?_)
 ·by_cases c:p<n
  ·walk_at "tz"
   refine Zay hl (by omega) fun w w0 w1=>?_
   walk_at "tz"
   refine⟨p+1+w.toNat,t0+1+1,.inr (by omega),?_,?_,?_,?_,?_,?_,?_⟩
   ·walk_at "tr"
   ·walk_at "tr"
   ·walk_at "tr"
   ·walk_at "tr"
   ·walk_at "tr"
   ·walk_at "tr"
   ·rw[show((p+1+w.toNat:Nat):Int)=(p:Int)+1+w by omega]
    walk_at "tr"
  ·walk_at "tz"
   refine⟨0,t0+1,.inl rfl,?_,?_,?_,?_,?_,?_,?_⟩
   ·walk_at "tr"
   ·walk_at "tr"
   ·walk_at "tr"
   ·walk_at "tr"
   ·walk_at "tr"
   ·walk_at "tr"
   ·walk_at "tr"
 ·obtain⟨x,t1,hx,e0,e1,e2,e3,e4,e5,e6⟩:=hτ
  by_cases cn:v<4∧0<d
  ·obtain⟨d',rfl⟩:∃d',d=d'+1:=⟨d-1,by omega⟩
   obtain⟨c4,_⟩:=cn
   walk_at "tz"
   exact ZmT hl hpn hn hps hq hx (hP d' rfl) fun t k r0' r1' t' ht hk=>by
    walk_at "tz"
    exact h t k r0' r1' t' ht hk
  have cn':(v<4∧d=0)∨4≤v:=by omega
  refine ZcZ (Zis (N':=fun τ'=>τ'=τ) ?_ fun τ' hτ=>?_)
  ·rcases cn' with⟨c,rfl⟩ | c
   ·walk_at "tz"
    rfl
   ·walk_at "tz"
    rfl
  subst hτ
  by_cases cs:v=4
  ·subst cs
   walk_at "tz"
   refine Zhm hl hn fun c t2 hc=>?_
   walk_at "tz"
   exact plain _ _ (.inl ⟨c,hc,rfl⟩)
  by_cases cx:x=0
  ·subst cx
   walk_at "tz"
   refine Zhm hl hn fun c t2 hc=>?_
   walk_at "tz"
   exact plain _ _ (.inl ⟨c,hc,rfl⟩)
  have hx':p<x∧x≤n:=by omega
  by_cases c5:v=5∧0<ps.length
  ·obtain⟨rfl,c5⟩:=c5
   have lenps:(ps.map fun i=>T.int (i:Nat)).length=ps.length:=by simp
   walk_at "tz"
   rw[lenps]
   refine Zay hl (by omega) fun f f0 f1=>?_
   obtain⟨f,rfl⟩:∃k:Nat,f=k:=⟨_,(Int.toNat_of_nonneg f0).symm⟩
   have hf:f<ps.length:=by omega
   walk_at "tz"
   refine ZlJ (n:=ps[f]) (a:=fun i=>.int (i:Nat)) (fun s:List Int=>smT s) [] (fun _ s=>SumOk n s) (fun _ τ=>(∃p',τ 0=some (tpT ns p'))∧τ 2=some (rm2 r0 r1)∧τ 4=some (.int n)∧τ 6=some (.int x)∧τ 7=some (.int f)) (by have:=hq _ (List.getElem_mem hf);omega) ?_ ⟨⟨t1+1,?_⟩,?_,?_,?_,?_⟩ (fun i τ hi hI=>?_) fun y τ hy hI=>?_
   ·walk_at "tz"
    refine Za7 (t:=.int (ps[f]:Nat)) (by omega) (by rw[Int.toNat_natCast,List.getElem?_map,List.getElem?_eq_getElem hf];rfl) ?_
    walk_at "tz"
    exact Rn.one (by have:=hq _ (List.getElem_mem hf);omega) rfl
   ·walk_at "tr"
   ·walk_at "tr"
   ·walk_at "tr"
   ·walk_at "tr"
   ·walk_at "tr"
   ·obtain⟨⟨p',g0⟩,g2,g4,g6,g7⟩:=hI
    walk_at "tz"
    refine Zdy hl hn fun s p2 hs=>?_
    refine⟨⟨s,rfl,hs⟩,⟨p2,?_⟩,?_,?_,?_,?_⟩
    ·walk_at "tr"
    ·walk_at "tr"
    ·walk_at "tr"
    ·walk_at "tr"
    ·walk_at "tr"
   ·obtain⟨⟨p',g0⟩,g2,g4,g6,g7⟩:=hI
    walk_at "tz"
    refine plain _ _ (.inr (.inr (.inr (.inr ⟨x,f,tab ps[f] y,ps[f],hx'.1,hx'.2,List.getElem?_eq_getElem hf,Zcr,fun s hs=>?_,?_⟩))))
    ·obtain⟨i,hi,rfl⟩:∃i,i<ps[f]∧y i=s:=by
      simp only[tab,List.mem_map,List.mem_range]at hs
      exact hs
     exact hy i hi
    ·rw[TM.Zll]
  by_cases c6:v=6
  ·subst c6
   walk_at "tz"
   refine Znf hl fun lo hi t2 b1 b2 b3=>?_
   walk_at "tz"
   exact plain _ _ (.inr (.inr (.inr (.inl ⟨x,lo,hi,hx'.1,hx'.2,b1,b2,b3,rfl⟩))))
  by_cases c8:8<v
  ·have hv:v=9∨v=10:=by omega
   rcases hv with rfl | rfl
   ·walk_at "tz"
    refine Zdy hl hn fun s p2 hs=>?_
    walk_at "tz"
    refine Zht hl fun dd p3 d0 d1=>?_
    walk_at "tz"
    exact plain _ _ (.inr (.inr (.inl ⟨_,x,s,dd,.inl rfl,hx'.1,hx'.2,hs,d0,d1,rfl⟩)))
   ·walk_at "tz"
    refine Zdy hl hn fun s p2 hs=>?_
    walk_at "tz"
    refine Zht hl fun dd p3 d0 d1=>?_
    walk_at "tz"
    exact plain _ _ (.inr (.inr (.inl ⟨_,x,s,dd,.inr rfl,hx'.1,hx'.2,hs,d0,d1,rfl⟩)))
  by_cases c5':v=5
  ·subst c5'
   have c0:ps=[]:=by
    cases ps with
    | nil=>rfl
    | cons q qs=>simp at c5
   subst c0
   walk_at "tz"
   refine Zdy hl hn fun s p2 hs=>?_
   walk_at "tz"
   exact plain _ _ (.inr (.inl ⟨x,s,hx'.1,hx'.2,hs,rfl⟩))
  ·walk_at "tz"
   refine Zdy hl hn fun s p2 hs=>?_
   walk_at "tz"
   exact plain _ _ (.inr (.inl ⟨x,s,hx'.1,hx'.2,hs,rfl⟩))
theorem Zke(hP:∀d',d=d'+1→Zeu d' P): Zeu d (Zaq 5 [(0,1),(2,1)] (ZeU P)):=fun ns t0 c p n ps r0 r1 Q hl hc hpn hn hps hq h=>by
 unfold ZeU
 walk_at "tz"
 refine Zhk (n:=c) (a:=fun i=>.int (i:Nat)) (fun i τ=>∃ts k s0 s1 t',τ 0=some (tpT ns t')∧τ 1=some (szT p n ps)∧τ 2=some (rm2 s0 s1)∧τ 3=some (.int d)∧τ 5=some (.lst ts)∧Bs (StP (Pl7 p n ps) (Zbe n) d) k ts∧ts.length≤i∧k+s0+s1≤r0+r1) ?_ ⟨[],0,r0,r1,t0,?_,?_,?_,?_,?_,.nil,by simp,by omega⟩ (fun i τ hi hI=>?_) (fun τ hI=>?_)
 ·walk_at "tz"
  rfl
 ·walk_at "tr"
 ·walk_at "tr"
 ·walk_at "tr"
 ·walk_at "tr"
 ·walk_at "tr"
 ·obtain⟨ts,k,s0,s1,t',e0,e1,e2,e3,e5,hb,hlen,hk⟩:=hI
  cases s0 with
  | zero=>
   walk_at "tz"
   exact⟨ts,k,0,s1,t',by walk_at "tr",by walk_at "tr",by walk_at "tr",by walk_at "tr",by walk_at "tr",hb,by omega,hk⟩
  | succ s0=>
   have es:((s0+1:Nat):Int)-1=(s0:Int):=by omega
   walk_at "tz"
   refine⟨[.int ((s0+1:Nat):Int),.int s1],0,rfl,by walk_at "tr",by decide,(by simp),?_⟩
   show Z3 (Zc4 _ _ _ (updT _ 2 (T.lst [T.int (((s0+1:Nat):Int)-1),T.int s1]))) _ _
   rw[es]
   walk_at "tz"
   refine ZjY hl hpn hn hps hq hP fun t k2 u0 u1 t2 ht hk2=>?_
   walk_at "tz"
   refine⟨ts,?_,by omega,ts++[t],k+k2,u0,u1,t2,?_,?_,?_,?_,?_,hb.append (.one ht),by simp;omega,by omega⟩
   ·walk_at "tr"
   ·walk_at "tr"
   ·walk_at "tr"
   ·walk_at "tr"
   ·walk_at "tr"
   ·walk_at "tr"
 ·obtain⟨ts,k,s0,s1,t',e0,e1,e2,e3,e5,hb,hlen,hk⟩:=hI
  walk_at "tz"
  exact h ts k s0 s1 t' hb hlen hk
theorem Zje: ∀(f d:Nat),d<f→Zeu d (ZdV f)
 | 0,d,h=>absurd h (by omega)
 | f+1,d,h=>Zke fun d' e=>Zje f d' (by omega)
end
theorem ZcV{s:List Int}(h:SumOk n s)(hn:n≤100): Nice (k+1) (smT s):=.lst (by simp;have:=h.1;omega) fun t m=>by
 obtain⟨v,_,rfl⟩:=Zz11.mp m
 exact .int v
theorem ZgJ(h:Zbe n c)(hn:n≤100): Nice (k+2) c:=by
 obtain⟨s,hs,h⟩:=h
 rcases h with rfl | rfl | ⟨d,_,_,rfl⟩
 ·exact .tup (by simp) (nlc (.str (by decide +kernel)) (nlc (ZcV hs hn) nl0))
 ·exact .tup (by simp) (nlc (.str (by decide +kernel)) (nlc (ZcV hs hn) nl0))
 ·exact .tup (by simp) (nlc (.str (by decide +kernel)) (nlc (ZcV hs hn) (nlc (.int _) nl0)))
theorem Zjf{o:Option Int}: Nice k (oT' o):=by
 cases o with
 | none=>exact .none
 | some v=>exact .int v
theorem Zfw{ps:List Nat}(hn:n≤100)(hq:∀q∈ps,q≤100)(h:Pl7 p n ps t): Zbs t:=by
 rcases h with⟨c,hc,rfl⟩ | ⟨x,s,_,_,hs,rfl⟩ | ⟨w,x,s,d,hw,_,_,hs,_,_,rfl⟩ | ⟨x,lo,hi,_,_,_,_,_,rfl⟩ | ⟨x,f,ss,q,_,_,e,hl,hs,rfl⟩
 ·exact Zdw (by simp) (nlc (ZgJ hc hn) nl0) (by decide +kernel) (by decide +kernel)
 ·exact Zdw (by simp) (nlc (.int _) (nlc (ZcV hs hn) nl0)) (by decide +kernel) (by decide +kernel)
 ·rcases hw with rfl | rfl
  ·exact Zdw (by simp) (nlc (.int _) (nlc (ZcV hs hn) (nlc (.int _) nl0))) (by decide +kernel) (by decide +kernel)
  ·exact Zdw (by simp) (nlc (.int _) (nlc (ZcV hs hn) (nlc (.int _) nl0))) (by decide +kernel) (by decide +kernel)
 ·exact Zdw (by simp) (nlc (.int _) (nlc Zjf (nlc Zjf nl0))) (by decide +kernel) (by decide +kernel)
 ·refine Zdw (by simp) (nlc (.int _) (nlc (.int _) (nlc (.lst ?_ fun t m=>?_) nl0))) (by decide +kernel) (by decide +kernel)
  ·have:=hq q (List.mem_of_getElem? e);simp;omega
  ·obtain⟨s,hm,rfl⟩:=Zz11.mp m
   exact ZcV (hs s hm) hn
noncomputable def LyP(P C:T→Prop): Nat→T→Int→List T→Int→Prop
 | 0=>fun t u r e=>P t∧r=[rowT u t (u+1)]∧e=u+1
 | n+1=>fun t u r e=>(P t∧r=[rowT u t (u+1)]∧e=u+1) ∨
   (∃c a b ra ea rb eb,t=ifT c a b∧C c∧LyB (LyP P C n) a (u+1) ra ea∧LyB (LyP P C n) b (ea+1) rb eb∧r=rowT u (Zaw c true) (u+1)::(ra++rowT u (Zaw c false) (ea+1)::(rb++[rowT ea goT (eb+1),rowT eb goT (eb+1)]))∧e=eb+1) ∨
   (∃c a ra ea,t=whT c a∧C c∧LyB (LyP P C n) a (u+2) ra ea∧r=rowT u goT (u+1)::rowT (u+1) (Zaw c true) (u+2)::(ra++[rowT ea goT (u+1),rowT (u+1) (Zaw c false) (ea+1)])∧e=ea+1)
theorem LyB.mono{L L':T→Int→List T→Int→Prop}(h:LyB L ts u r e)(g:∀t u r e,L t u r e→L' t u r e): LyB L' ts u r e:=by
 induction h with
 | nil=>exact .nil
 | cons a _ ih=>exact .cons (g _ _ _ _ a) ih
theorem Zfx{P C:T→Prop}(hP:∀t,P t→Zbs t)(hC:∀c,C c→Nice 2 c): ∀(n:Nat) (t:T) (u:Int) (r:List T) (e:Int),LyP P C n t u r e→LyS n t u r e
 | 0,t,u,r,e,h=>⟨hP t h.1,h.2⟩
 | n+1,t,u,r,e,h=>by
  rcases h with⟨h1,h2⟩ | ⟨c,a,b,ra,ea,rb,eb,h1,h2,h3,h4,h5⟩ | ⟨c,a,ra,ea,h1,h2,h3,h4⟩
  ·exact .inl ⟨hP t h1,h2⟩
  ·exact .inr (.inl ⟨c,a,b,ra,ea,rb,eb,h1,hC c h2,h3.mono (Zfx hP hC n),h4.mono (Zfx hP hC n),h5⟩)
  ·exact .inr (.inr ⟨c,a,ra,ea,h1,hC c h2,h3.mono (Zfx hP hC n),h4⟩)
theorem Zfy{P C:T→Prop}: ∀(n k:Nat) (t:T),StP P C n k t→∀u,∃r e,LyP P C n t u r e∧r.length≤4*k
 | 0,k,t,h,u=>by
  obtain⟨rfl,h⟩:=h
  exact⟨_,_,⟨h,rfl,rfl⟩,by simp⟩
 | n+1,k,t,h,u=>by
  rcases h with⟨rfl,h⟩ | ⟨c,a,b,ka,kb,rfl,hc,ha,hb,_,_,rfl⟩ | ⟨c,a,ka,rfl,hc,ha,_,rfl⟩
  ·exact⟨_,_,.inl ⟨h,rfl,rfl⟩,by simp⟩
  ·obtain⟨ra,ea,h1,h2⟩:=Zfv (Zfy n) ha (u+1)
   obtain⟨rb,eb,h3,h4⟩:=Zfv (Zfy n) hb (ea+1)
   exact⟨_,_,.inr (.inl ⟨c,a,b,ra,ea,rb,eb,rfl,hc,h1,h3,rfl,rfl⟩),by simp;omega⟩
  ·obtain⟨ra,ea,h1,h2⟩:=Zfv (Zfy n) ha (u+2)
   exact⟨_,_,.inr (.inr ⟨c,a,ra,ea,rfl,hc,h1,rfl,rfl⟩),by simp;omega⟩
theorem Zky{P C:T→Prop}(h:LyP P C n t u r e): (P t∧r=[rowT u t (u+1)]∧e=u+1) ∨
   (∃m c a b ra ea rb eb,n=m+1∧t=ifT c a b∧C c∧LyB (LyP P C m) a (u+1) ra ea∧LyB (LyP P C m) b (ea+1) rb eb∧r=rowT u (Zaw c true) (u+1)::(ra++rowT u (Zaw c false) (ea+1)::(rb++[rowT ea goT (eb+1),rowT eb goT (eb+1)]))∧e=eb+1) ∨
   (∃m c a ra ea,n=m+1∧t=whT c a∧C c∧LyB (LyP P C m) a (u+2) ra ea∧r=rowT u goT (u+1)::rowT (u+1) (Zaw c true) (u+2)::(ra++[rowT ea goT (u+1),rowT (u+1) (Zaw c false) (ea+1)])∧e=ea+1):=by
 cases n with
 | zero=>exact .inl h
 | succ n=>
  rcases h with h | ⟨c,a,b,ra,ea,rb,eb,h⟩ | ⟨c,a,ra,ea,h⟩
  ·exact .inl h
  ·exact .inr (.inl ⟨n,c,a,b,ra,ea,rb,eb,rfl,h⟩)
  ·exact .inr (.inr ⟨n,c,a,ra,ea,rfl,h⟩)
noncomputable def ZbY: T→Option (Int×T)
 | .tup [.int a,.tup (.str w::c::_),.int _]=>if w=wY then some (a,c)else none
 | _=>none
noncomputable def Zag(r:List T): List (Int×T):=r.filterMap ZbY
theorem ZcR(r s:List T): Zag (r++s)=Zag r++Zag s:=List.filterMap_append
theorem Zcd(h:ZbY (rowT a t b)=none): Zag (rowT a t b::r)=Zag r:=by
 unfold Zag
 rw[List.filterMap_cons,h]
theorem Zk7: Zag (rowT a (.tup [.str wY,c]) b::r)=(a,c)::Zag r:=by
 unfold Zag
 have:ZbY (rowT a (.tup [.str wY,c]) b)=some (a,c):=by
  show(if wY=wY then some (a,c)else none)=_
  rw[if_pos rfl]
 rw[List.filterMap_cons,this]
theorem Zfz: ZbY (rowT a goT b)=none:=rfl
theorem Ze9{q:Bool}: ZbY (rowT a (Zaw c q) b)=none:=by
 show(if Str.ofString "when"=wY then some (a,c)else none)=_
 rw[if_neg (by decide +kernel)]
theorem Zk8{e1 e2 e3 e4 e5:Int}{rb:List T}: Zag (rowT u (Zaw c true) e1::(ra++rowT u (Zaw c false) e2::(rb++[rowT e3 goT e4,rowT e5 goT e4])))=Zag ra++Zag rb:=by
 rw[Zcd Ze9,ZcR,Zcd Ze9,ZcR,Zcd Zfz,Zcd Zfz]
 simp[Zag]
theorem Zl2{e1 e2 e3 e4:Int}: Zag (rowT u goT e1::rowT e1 (Zaw c true) e2::(ra++[rowT e3 goT e1,rowT e1 (Zaw c false) e4]))=Zag ra:=by
 rw[Zcd Zfz,Zcd Ze9,ZcR,Zcd Zfz,Zcd Ze9]
 simp[Zag]
def ZeB(t:T): Prop:=(∃n c,Zbe n c∧n≤100∧t=.tup [.str wY,c])∨∃w rest,t=.tup (.str w::rest)∧(PyData.strOk w && PyData.strOk wY && decide (w≠wY))=true
theorem ZiS{ps:List Nat}(hn:n≤100)(h:Pl7 p n ps t): ZeB t:=by
 rcases h with⟨c,hc,rfl⟩ | ⟨x,s,_,_,hs,rfl⟩ | ⟨w,x,s,d,hw,_,_,hs,_,_,rfl⟩ | ⟨x,lo,hi,_,_,_,_,_,rfl⟩ | ⟨x,f,ss,q,_,_,e,hl,hs,rfl⟩
 ·exact .inl ⟨n,c,hc,hn,rfl⟩
 ·exact .inr ⟨_,_,rfl,by decide +kernel⟩
 ·rcases hw with rfl | rfl
  ·exact .inr ⟨_,_,rfl,by decide +kernel⟩
  ·exact .inr ⟨_,_,rfl,by decide +kernel⟩
 ·exact .inr ⟨_,_,rfl,by decide +kernel⟩
 ·exact .inr ⟨_,_,rfl,by decide +kernel⟩
theorem ZgY{w:Str}{rest:List T}(h:w≠wY): ZbY (rowT a (.tup (.str w::rest)) b)=none:=by
 cases rest with
 | nil=>rfl
 | cons c r=>
  show(if w=wY then some (a,c)else none)=_
  rw[if_neg h]
noncomputable def pcT(x:Int×T): T:=.tup [.int x.1,x.2]
section
variable {P C:T→Prop}
noncomputable abbrev l1T(u:Int): T:=.lst [.int u]
def Zhu(P C:T→Prop)(n:Nat)(F:List T→Option (T×List T)): Prop:=∀(ts r:List T) (u e:Int) (ss:List (Int×T)) (Q:T→List T→Prop),LyB (LyP P C n) ts u r e→ss.length+r.length≤9000→Q .none [l1T e,.lst ((ss++Zag r).map pcT)]→Pr (F [.lst ts,.int u,l1T u,.lst (ss.map pcT)]) Q
theorem Zdm(r:List T): (Zag r).length≤r.length:=List.length_filterMap_le _ _
theorem put1{f:PE}(e:σ 2=some (l1T u))(h:Pk (f σ) fun w=>N (updT σ 2 (.lst [w]))): Z3 (ZbB 2 1 false f Zab (Zk 0) σ) R N:=by
 refine ZiM (by decide) (h.mono fun w hw=>Zhq ⟨[.int u],0,rfl,e,by decide,by simp,hw⟩)
theorem ZjV(hS:∀t,P t→ZeB t∧Zbs t){F:List T→Option (T×List T)}(hF:∀m,n=m+1→Zhu P C m F): Zhu P C n (Zaq 4 [(2,1),(3,1)] (ZeM F)):=fun ts r u e ss Q h hl q=>by
 unfold ZeM
 walk_at "tz"
 refine Zfu (ts:=ts) (fun i τ=>∃r1 r2 e1,r=r1++r2∧LyB (LyP P C n) (ts.drop i) e1 r2 e∧τ 1=some (.int e1)∧τ 2=some (l1T e1)∧τ 3=some (.lst ((ss++Zag r1).map pcT))) ?_ ⟨[],r,u,rfl,h,?_,?_,?_⟩ (fun i t τ hi hI=>?_) fun τ hI=>?_
 ·walk_at "tz"
  rfl
 ·walk_at "tr"
 ·walk_at "tr"
 ·rw[show Zag []=[]from rfl,List.append_nil]
  walk_at "tr"
 ·obtain⟨r1,r2,e1,rfl,hB,x1,x2,x3⟩:=hI
  have hd:ts.drop i=t::ts.drop (i+1):=by
   have:=(Zz6.mp hi)
   obtain⟨hlt,e⟩:=this
   rw[List.drop_eq_getElem_cons hlt,e]
  rw[hd]at hB
  cases hB with
  | @cons _ _ _ e' _ ra rb hS' hB=>
   have l1:=Zdm r1
   rcases Zky hS' with⟨hp,rfl,rfl⟩ | ⟨m,c,a,b,xa,ea,xb,eb,hm,rfl,hc,ha,hb,rfl,rfl⟩ | ⟨m,c,a,xa,ea,hm,rfl,hc,ha,rfl,rfl⟩
   ·obtain⟨hsay,hn,w,rest,rfl,k1,k2⟩:=hS t hp
    refine ZcZ (put1 (u:=e1) (by walk_at "tr") ?_)
    walk_at "tz"
    refine ZcC k1 ?_
    walk_at "tz"
    refine ZcC k2 ?_
    walk_at "tz"
    rcases hsay with⟨n',c,hc,hn',e9⟩ | ⟨w',rest',e9,hw⟩
    ·cases e9
     refine Zdv (by decide +kernel) ?_
     walk_at "tz"
     refine⟨(ss++Zag r1).map pcT,by walk_at "tr",by simp at hl ⊢;omega,?_⟩
     walk_at "tz"
     refine⟨r1++[rowT e1 (.tup [.str wY,c]) (e1+1)],rb,e1+1,by simp,hB,by walk_at "tr",by walk_at "tr",?_⟩
     have:(ss++Zag (r1++[rowT e1 (.tup [.str wY,c]) (e1+1)])).map pcT=(ss++Zag r1).map pcT++[.tup [.int e1,c]]:=by
      rw[ZcR,Zk7]
      simp[Zag,pcT]
     rw[this]
     walk_at "tr"
    ·cases e9
     have hne:w≠wY:=by simp only[Bool.and_eq_true,decide_eq_true_eq]at hw;exact hw.2
     refine ZcC hw ?_
     walk_at "tz"
     refine⟨r1++[rowT e1 (.tup (.str w::rest)) (e1+1)],rb,e1+1,by simp,hB,by walk_at "tr",by walk_at "tr",?_⟩
     have:Zag (r1++[rowT e1 (.tup (.str w::rest)) (e1+1)])=Zag r1:=by
      rw[ZcR,Zcd (ZgY hne)]
      simp[Zag]
     rw[this]
     walk_at "tr"
   ·have l2:=Zdm xa
    unfold ifT
    refine ZcZ (put1 (u:=e1) (by walk_at "tr") ?_)
    walk_at "tz"
    refine Zdv (by decide +kernel) ?_
    walk_at "tz"
    refine hF m hm _ _ _ _ _ _ ha (by simp at hl ⊢;omega) ?_
    walk_at "tz"
    refine⟨[.int (ea)],0,rfl,by walk_at "tr",by decide,by simp,?_⟩
    walk_at "tz"
    refine hF m hm _ _ _ _ _ _ hb (by simp at hl ⊢;omega) ?_
    walk_at "tz"
    refine⟨[.int (eb)],0,rfl,by walk_at "tr",by decide,by simp,?_⟩
    walk_at "tz"
    refine⟨r1++(rowT e1 (Zaw c true) (e1+1)::(xa++rowT e1 (Zaw c false) (ea+1)::(xb++[rowT ea goT (eb+1),rowT eb goT (eb+1)]))),rb,eb+1,by simp,hB,by walk_at "tr",by walk_at "tr",?_⟩
    rw[ZcR,Zk8,←List.append_assoc,←List.append_assoc]
    walk_at "tr"
   ·have l2:=Zdm xa
    have y1:e1+1+1=e1+2:=by omega
    unfold whT
    refine ZcZ (put1 (u:=e1) (by walk_at "tr") ?_)
    walk_at "tz"
    refine ZcC (by decide +kernel) ?_
    walk_at "tz"
    refine Zdv (by decide +kernel) ?_
    walk_at "tz"
    refine⟨[.int (e1+1)],0,rfl,by walk_at "tr",by decide,by simp,?_⟩
    walk_at "tz"
    simp only[y1]
    refine hF m hm _ _ _ _ _ _ ha (by simp at hl ⊢;omega) ?_
    walk_at "tz"
    refine⟨[.int (ea)],0,rfl,by walk_at "tr",by decide,by simp,?_⟩
    walk_at "tz"
    refine⟨r1++(rowT e1 goT (e1+1)::rowT (e1+1) (Zaw c true) (e1+2)::(xa++[rowT ea goT (e1+1),rowT (e1+1) (Zaw c false) (ea+1)])),rb,ea+1,by simp,hB,by walk_at "tr",by walk_at "tr",?_⟩
    rw[ZcR,Zl2,←List.append_assoc]
    walk_at "tr"
 ·obtain⟨r1,r2,e1,rfl,hB,x1,x2,x3⟩:=hI
  rw[List.drop_length]at hB
  cases hB
  walk_at "tz"
  simpa using q
theorem ZiT(hS:∀t,P t→ZeB t∧Zbs t): ∀(f n:Nat),n<f→Zhu P C n (ZdS f)
 | 0,n,h=>absurd h (by omega)
 | f+1,n,h=>ZjV hS fun m e=>ZiT hS f m (by omega)
end
def ZcE(x:T): Prop:=∃a w rest b,x=rowT a (.tup (.str w::rest)) b∧PyData.strOk w=true∧(w=wY→∃n c,rest=[c]∧Zbe n c∧n≤100)
theorem Zfn: ZcE (rowT a goT b):=⟨a,_,_,b,rfl,by decide +kernel,fun e=>absurd e (by decide +kernel)⟩
theorem Ze6{q:Bool}: ZcE (rowT a (Zaw c q) b):=⟨a,_,_,b,rfl,by decide +kernel,fun e=>absurd e (by decide +kernel)⟩
theorem ZiU(h:ZeB t)(g:Zbs t): ZcE (rowT a t b):=by
 obtain⟨_,w,rest,rfl,k1,_⟩:=g
 have hw:PyData.strOk w=true:=by simp only[Bool.and_eq_true]at k1;exact k1.1.1
 rcases h with⟨n,c,hc,hn,e⟩ | ⟨w',rest',e,hw'⟩
 ·cases e
  exact⟨a,_,_,b,rfl,hw,fun _=>⟨n,c,rfl,hc,hn⟩⟩
 ·cases e
  exact⟨a,_,_,b,rfl,hw,fun q=>by simp only[Bool.and_eq_true,decide_eq_true_eq]at hw';exact absurd q hw'.2⟩
theorem Zfa{L:T→Int→List T→Int→Prop}(hL:∀t u r e,L t u r e→∀x∈r,ZcE x)(h:LyB L ts u r e): ∀x∈r,ZcE x:=by
 induction h with
 | nil=>intro x m;exact(List.not_mem_nil m).elim
 | cons a _ ih=>
  intro x m
  rcases Zz8.mp m with m | m
  ·exact hL _ _ _ _ a x m
  ·exact ih x m
theorem Zfb{P C:T→Prop}(hS:∀t,P t→ZeB t∧Zbs t): ∀(n:Nat) (t:T) (u:Int) (r:List T) (e:Int),LyP P C n t u r e→∀x∈r,ZcE x
 | 0,t,u,r,e,h=>by
  obtain⟨h,rfl,rfl⟩:=h
  intro x m
  rw[List.mem_singleton.mp m]
  exact ZiU (hS t h).1 (hS t h).2
 | n+1,t,u,r,e,h=>by
  rcases h with⟨h1,rfl,rfl⟩ | ⟨c,a,b,ra,ea,rb,eb,rfl,hc,ha,hb,rfl,rfl⟩ | ⟨c,a,ra,ea,rfl,hc,ha,rfl,rfl⟩
  ·intro x m
   rw[List.mem_singleton.mp m]
   exact ZiU (hS t h1).1 (hS t h1).2
  ·intro x m
   simp only[List.mem_cons,List.mem_append,List.not_mem_nil,or_false]at m
   rcases m with rfl | m | rfl | m | rfl | rfl
   ·exact Ze6
   ·exact Zfa (Zfb hS n) ha x m
   ·exact Ze6
   ·exact Zfa (Zfb hS n) hb x m
   ·exact Zfn
   ·exact Zfn
  ·intro x m
   simp only[List.mem_cons,List.mem_append,List.not_mem_nil,or_false]at m
   rcases m with rfl | rfl | m | rfl | rfl
   ·exact Zfn
   ·exact Ze6
   ·exact Zfa (Zfb hS n) ha x m
   ·exact Zfn
   ·exact Ze6
def FnOk(t:T)(r:List T): Prop:=∃(p n:Nat) (ps:List Nat) (body:List T) (k:Nat) (e:Int),n≤100∧(∀q∈ps,q≤100)∧t=.tup [.int p,.int n,.lst body]∧body.length≤8∧Bs (StP (Pl7 p n ps) (Zbe n) 4) k body∧LyB (LyP (Pl7 p n ps) (Zbe n) 4) body 0 r e∧r.length≤200
inductive Fns: List T→List (List T)→Prop where
 | nil:Fns [] []
 | cons {t:T} {r:List T} {ts:List T} {rs:List (List T)}:FnOk t r→Fns ts rs→Fns (t::ts) (r::rs)
theorem Fns.length(h:Fns ts rs): rs.length=ts.length:=by
 induction h with
 | nil=>rfl
 | cons _ _ ih=>simp[ih]
theorem Fns.snoc(h:Fns ts rs)(g:FnOk t r): Fns (ts++[t]) (rs++[r]):=by
 induction h with
 | nil=>exact .cons g .nil
 | cons a _ ih=>exact .cons a ih
theorem Fns.at(h:Fns ts rs)(e:ts[i]?=some t): ∃r,rs[i]?=some r∧FnOk t r:=by
 induction h generalizing i with
 | nil=>simp at e
 | cons a _ ih=>
  cases i with
  | zero=>simp at e;subst e;exact⟨_,rfl,a⟩
  | succ i=>simpa using ih (by simpa using e)
theorem Fns.all(h:Fns ts rs): ∀r∈rs,∃t,FnOk t r:=by
 induction h with
 | nil=>simp
 | cons a _ ih=>
  intro r m
  rcases Zz7.mp m with rfl | m
  ·exact⟨_,a⟩
  ·exact ih r m
theorem FnOk.lines(h:FnOk t r): (∀x∈r,ZcE x)∧∃p n body,t=.tup [.int p,.int n,.lst body]∧ZdZ [.lst body]=some (.lst r):=by
 obtain⟨p,n,ps,body,k,e,hn,hq,rfl,hb,hB,hL,hr⟩:=h
 refine⟨Zfa (Zfb (fun t ht=>⟨ZiS hn ht,Zfw hn hq ht⟩) 4) hL,_,_,body,rfl,?_⟩
 exact Zl1 (by decide) (hL.mono (Zfx (fun t ht=>Zfw hn hq ht) (fun c hc=>ZgJ hc hn) 4)) (by omega)
noncomputable def tri(f:Nat)(x:Int×T): T:=.tup [.int f,.int x.1,x.2]
noncomputable def ZaG: Nat→List (List T)→List T
 | _,[]=>[]
 | i,r::rs=>(Zag r).map (tri i)++ZaG (i+1) rs
theorem Zib{r:List T}: ∀(rs:List (List T)) (i:Nat),ZaG i (rs++[r])=ZaG i rs++(Zag r).map (tri (i+rs.length))
 | [],i=>by simp[ZaG]
 | q::rs,i=>by
  rw[List.cons_append,ZaG,ZaG,Zib rs (i+1),List.append_assoc]
  rw[show i+1+rs.length=i+(q::rs).length by simp;omega]
theorem Zic(e:rs[i]?=some r): ZaG 0 (rs.take (i+1))=ZaG 0 (rs.take i)++(Zag r).map (tri i):=by
 have hi:=(Zz6.mp e).1
 rw[List.take_add_one,e]
 have:=Zib (r:=r) (rs.take i) 0
 rw[show 0+(rs.take i).length=i by simp;omega]at this
 exact this
theorem Zfc{c:Nat}: ∀(rs:List (List T)) (i:Nat),(∀r∈rs,r.length≤c)→(ZaG i rs).length≤c*rs.length
 | [],i,_=>by simp[ZaG]
 | r::rs,i,h=>by
  have h1:=Zfc rs (i+1) fun r m=>h r (Zz2 _ m)
  have h2:=h r Zz5
  have h3:=Zdm r
  rw[ZaG,List.length_append,List.length_map,List.length_cons,Nat.mul_succ]
  omega
theorem Zit{σ:TL}{put:T→TL→Option TL}{c:PB}{f:PE}{G:T→Option T}: ∀{ts:List T},(∀t∈ts,∃σ1,put t σ=some σ1∧((c σ1=some false∧G t=none)∨(c σ1=some true∧∃u,f σ1=some u∧G t=some u)))→ZbA put c f σ ts=some (ts.filterMap G)
 | [],_=>rfl
 | t::ts,h=>by
  have ih:=Zit (ts:=ts) fun t m=>h t (Zz2 _ m)
  obtain⟨σ1,h0,h⟩:=h t Zz5
  rcases h with⟨h1,h2⟩ | ⟨h1,u,h2,h3⟩
  ·simp[ZbA,h0,h1,ih,h2]
  ·simp[ZbA,h0,h1,ih,h2,h3]
theorem ZmU: r.filterMap (fun x=>(ZbY x).map (tri i))=(Zag r).map (tri i):=by
 unfold Zag
 induction r with
 | nil=>rfl
 | cons x r ih=>
  cases h:ZbY x with
  | none=>simp[h,ih]
  | some p=>simp[h,ih]
theorem Ziu{R:T→TL→Prop}{N:TL→Prop}{put:T→TL→Option TL}{b:PS}(P:Nat→TL→Prop): ∀(ts:List T) (k:Nat) {σ:TL},P k σ→(∀i t τ,ts[i]?=some t→P (k+i) τ→∃τ1,put t τ=some τ1∧Z3 (b τ1) R (P (k+i+1)))→(∀τ,P (k+ts.length) τ→N τ)→Z3 (Zba put b σ ts) R N
 | [],k,σ,h0,_,h2=>⟨none,σ,rfl,by simp,fun _=>h2 σ (by simpa using h0)⟩
 | t::ts,k,σ,h0,h1,h2=>by
  obtain⟨σ0,e0,o,σ1,e,k1,k2⟩:=h1 0 t σ (by simp) (by simpa using h0)
  cases o with
  | some u=>exact⟨some u,σ1,by simp[Zba,e0,e],k1,by simp⟩
  | none=>
   obtain⟨o2,σ2,e2,l⟩:=Ziu P ts (k+1) (k2 rfl) (fun i u τ eu p=>by
    have:=h1 (i+1) u τ (by simpa using eu) (by rw[show k+(i+1)=k+1+i by omega];exact p)
    rw[show k+(i+1)+1=k+1+i+1 by omega]at this
    exact this) (fun τ p=>h2 τ (by rw[List.length_cons,show k+(ts.length+1)=k+1+ts.length by omega];exact p))
   exact⟨o2,σ2,by simp[Zba,e0,e,e2],l⟩
theorem Zl3{p:PE}{j:Nat}{b:PS}(P:Nat→TL→Prop)(hg:Pk (p σ) fun t=>t=.lst ts)(h0:P 0 σ)(h1:∀(i:Nat) t τ,ts[i]?=some t→P i τ→Z3 (b (updT (updT τ j (.int i)) k t)) R (P (i+1)))(h2:∀τ,P ts.length τ→N τ): Z3 (Za0 (ZfF p) (Zeo j k) b σ) R N:=by
 obtain⟨_,e,rfl⟩:=hg
 obtain⟨o,σ1,e2,l⟩:=Ziu (R:=R) (N:=N) (put:=Zeo j k) (b:=b) P (Zdt ts) 0 h0 (fun i t τ ei p=>by
  unfold Zdt at ei
  rw[List.getElem?_zipWith_eq_some]at ei
  obtain⟨x,y,ex,ey,rfl⟩:=ei
  have hx:x=i:=by
   have:=Zz6.mp ex
   obtain⟨hl,e⟩:=this
   simpa using e.symm
  subst hx
  refine⟨_,rfl,?_⟩
  simpa using h1 x y τ ey (by simpa using p)) (fun τ p=>h2 τ (by simpa [Zil]using p))
 exact⟨o,σ1,by simp only[Za0,ZfF,e,Option.bind_some,e2],l⟩
theorem Zjy{x:List T→Option (T×List T)}{a:T}(h:Pr (x [a]) fun v _=>v=t): (x [a]).map (·.1)=some t:=by
 obtain⟨v,us,e,rfl⟩:=h
 rw[e]
 rfl
theorem Zng(h:Fns fs rs)(hl:fs.length≤5): ZeP [.lst fs]=some (.lst (ZaG 0 rs)):=by
 have hlen:=h.length
 have:Pr (ZeO [.lst fs]) fun v _=>v=.lst (ZaG 0 rs):=by
  have hr:∀i,(ZaG 0 (rs.take i)).length≤1000:=fun i=>by
   have:=Zfc (c:=200) (rs.take i) 0 fun r m=>by
    obtain⟨t,p,n,ps,body,k,e,_,_,_,_,_,_,hr⟩:=h.all r (List.mem_of_mem_take m)
    exact hr
   have l2:(rs.take i).length≤5:=by simp;omega
   omega
  unfold ZeO Zgw
  walk_at "tz"
  refine Zhk (n:=fs.length) (a:=fun i=>.int (i:Nat)) (fun i τ=>τ 0=some (.lst fs)∧τ 1=some (.lst (ZaG 0 (rs.take i)))) ?_ ⟨?_,?_⟩ (fun i τ hi hI=>?_) fun τ hI=>?_
  ·walk_at "tz"
   rfl
  ·walk_at "tr"
  ·rw[List.take_zero]
   walk_at "tr"
  ·obtain⟨e0,e1⟩:=hI
   obtain⟨r,er,hf⟩:=h.at (List.getElem?_eq_getElem hi)
   obtain⟨p,n,ps,body,k,e,hn,hq,ef,hb,hB,hL,hr'⟩:=hf
   walk_at "tz"
   refine Za7 (t:=.tup [.int p,.int n,.lst body]) (by omega) (by rw[Int.toNat_natCast,List.getElem?_eq_getElem hi,ef]) ?_
   walk_at "tz"
   refine ZiT (P:=Pl7 p n ps) (C:=Zbe n) (fun t ht=>⟨ZiS hn ht,Zfw hn hq ht⟩) 24 4 (by decide) body r 0 e [] _ hL (by simp;omega) ?_
   rw[List.nil_append]
   walk_at "tz"
   have sl:=Zdm r
   refine Zfu (ts:=(Zag r).map pcT) (fun j τ=>τ 0=some (.lst fs)∧τ 2=some (.int i)∧τ 1=some (.lst (ZaG 0 (rs.take i)++((Zag r).take j).map (tri i)))) ?_ ⟨?_,?_,?_⟩ (fun j t τ hj hI=>?_) fun τ hI=>?_
   ·walk_at "tz"
    rfl
   ·walk_at "tr"
   ·walk_at "tr"
   ·rw[List.take_zero,List.map_nil,List.append_nil]
    walk_at "tr"
   ·obtain⟨g0,g2,g1⟩:=hI
    rw[List.getElem?_map]at hj
    obtain⟨⟨a,c⟩,ej,rfl⟩:=Zz1.mp hj
    have hjl:=(Zz6.mp ej).1
    unfold pcT
    walk_at "tz"
    refine⟨_,by walk_at "tr",by have:=hr i;simp;omega,?_⟩
    refine⟨by walk_at "tr",by walk_at "tr",?_⟩
    rw[List.take_add_one,ej,List.map_append,←List.append_assoc]
    walk_at "tr"
   ·obtain⟨g0,g2,g1⟩:=hI
    refine⟨g0,?_⟩
    rw[Zic er]
    rw[List.length_map,List.take_length]at g1
    exact g1
  ·obtain⟨e0,e1⟩:=hI
   rw[List.take_of_length_le (by omega)]at e1
   walk_at "tz"
   rfl
 have:=Zjy this
 simp[ZeP,this]
theorem Zid(h:Fns fs rs)(hl:fs.length≤5): Zd1 [.lst fs]=some (.lst (ZaG 0 rs)):=by
 have hlen:=h.length
 have:Pr (Ze4 [.lst fs]) fun v _=>v=.lst (ZaG 0 rs):=by
  have hr:∀i,(ZaG 0 (rs.take i)).length≤1000:=fun i=>by
   have:=Zfc (c:=200) (rs.take i) 0 fun r m=>by
    obtain⟨t,p,n,ps,body,k,e,_,_,_,_,_,_,hr⟩:=h.all r (List.mem_of_mem_take m)
    exact hr
   have l2:(rs.take i).length≤5:=by simp;omega
   omega
  unfold Ze4 ZgV
  walk_at "tz"
  refine Zl3 (ts:=fs) (fun i τ=>τ 0=some (.lst fs)∧τ 1=some (.lst (ZaG 0 (rs.take i)))) ?_ ⟨?_,?_⟩ (fun i t τ hi hI=>?_) fun τ hI=>?_
  ·walk_at "tz"
   rfl
  ·walk_at "tr"
  ·rw[List.take_zero]
   walk_at "tr"
  ·obtain⟨e0,e1⟩:=hI
   obtain⟨r,er,hf⟩:=h.at hi
   have hr':r.length≤200:=by obtain⟨p,n,ps,body,k,e,_,_,_,_,_,_,hr⟩:=hf;exact hr
   obtain⟨hw,p,n,body,rfl,hrows⟩:=hf.lines
   walk_at "tz"
   refine Pk.of hrows ?_
   walk_at "tz"
   refine ZmP ?_
   refine ZlW (ts:=r) (us:=(Zag r).map (tri i)) (by walk_at "tr") (by omega) ?_ ?_
   ·rw[←ZmU]
    refine Zit fun x m=>?_
    obtain⟨a,w,rest,b,rfl,hok,hsay⟩:=hw x m
    refine⟨_,rfl,?_⟩
    by_cases q:w=wY
    ·obtain⟨n',c,rfl,_,_⟩:=hsay q
     subst q
     refine .inr ⟨?_,tri i (a,c),?_,?_⟩
     ·have:Pb (ZX (Zn qEq (Zn Zy (Zc 101) (Zk 0)) (Zap (Str.ofString "say"))) (updT (updT (updT (ZA (updT (updT (updT τ 2 (T.int i)) 3 (T.tup [T.int p,T.int n,T.lst body])) 4 (T.lst r)) 4) 100 (T.int a)) 101 (T.tup [T.str wY,c])) 102 (T.int b))) fun x=>x=true:=by
       walk_at "z"
       refine Zdv (by decide +kernel) ?_
       walk_at "z"
       rfl
      obtain⟨x,e,rfl⟩:=this
      exact e
     ·apply Pk.eq
      walk_at "z"
      rfl
     ·have:ZbY (rowT a (.tup [.str wY,c]) b)=some (a,c):=by
       show(if wY=wY then some (a,c)else none)=_
       rw[if_pos rfl]
      rw[this]
      rfl
    ·refine .inl ⟨?_,by rw[ZgY q];rfl⟩
     have:Pb (ZX (Zn qEq (Zn Zy (Zc 101) (Zk 0)) (Zap (Str.ofString "say"))) (updT (updT (updT (ZA (updT (updT (updT τ 2 (T.int i)) 3 (T.tup [T.int p,T.int n,T.lst body])) 4 (T.lst r)) 4) 100 (T.int a)) 101 (T.tup (T.str w::rest))) 102 (T.int b))) fun x=>x=false:=by
      walk_at "z"
      refine ZcC (b:=wY) (by simp only[hok,Bool.true_and,Bool.and_eq_true,decide_eq_true_eq];exact⟨by decide +kernel,q⟩) ?_
      walk_at "z"
      rfl
     obtain⟨x,e,rfl⟩:=this
     exact e
   ·have sl:=Zdm r
    refine⟨_,_,rfl,by walk_at "tr",by have:=hr i;simp;omega,?_,?_⟩
    ·walk_at "tr"
    ·rw[Zic er]
     walk_at "tr"
  ·obtain⟨e0,e1⟩:=hI
   rw[List.take_of_length_le (by omega)]at e1
   walk_at "tz"
   rfl
 have:=Zjy this
 simp[Zd1,this]
def ZfL(x:T): Prop:=∃(f:Nat) (a:Int) (c:T) (n:Nat),x=.tup [.int f,.int a,c]∧Zbe n c∧n≤100
theorem Zkf(h:∀x∈r,ZcE x): ∀y∈Zag r,∃n,Zbe n y.2∧n≤100:=fun y m=>by
 obtain⟨x,hx,e⟩:=List.mem_filterMap.mp m
 obtain⟨a,w,rest,b,rfl,hok,hsay⟩:=h x hx
 by_cases q:w=wY
 ·obtain⟨n,c,rfl,hc,hn⟩:=hsay q
  subst q
  have:ZbY (rowT a (.tup [.str wY,c]) b)=some (a,c):=by
   show(if wY=wY then some (a,c)else none)=_
   rw[if_pos rfl]
  rw[this]at e
  cases e
  exact⟨n,hc,hn⟩
 ·rw[ZgY q]at e
  cases e
theorem Zl4(h:Fns fs rs): ∀(i:Nat),∀x∈ZaG i rs,ZfL x:=by
 induction h with
 | nil=>intro i x m;exact(List.not_mem_nil m).elim
 | cons a _ ih=>
  intro i x m
  rcases Zz8.mp m with m | m
  ·obtain⟨y,hy,rfl⟩:=Zz11.mp m
   obtain⟨n,hc,hn⟩:=Zkf a.lines.1 y hy
   exact⟨i,y.1,y.2,n,rfl,hc,hn⟩
  ·exact ih (i+1) x m
theorem Zhy{s:List Int}(h:SumOk n s)(hn:n≤100): Bl (k+1) (smT s):=.lst (fun t m=>by
 obtain⟨v,_,rfl⟩:=Zz11.mp m
 exact .int) (by simp;have:=h.1;omega)
theorem Zk9(h:Zbe n c)(hn:n≤100): Bl 2 c:=by
 obtain⟨s,hs,h⟩:=h
 rcases h with rfl | rfl | ⟨d,_,_,rfl⟩
 ·exact .tup (blc (.str (by decide +kernel)) (blc (Zhy hs hn) bl0)) (by simp)
 ·exact .tup (blc (.str (by decide +kernel)) (blc (Zhy hs hn) bl0)) (by simp)
 ·exact .tup (blc (.str (by decide +kernel)) (blc (Zhy hs hn) (blc .int bl0))) (by simp)
theorem ZmV{D:List T}(h:∀x∈D,ZfL x)(hl:D.length≤1000): Bl 4 (.lst D):=.lst (fun x m=>by
 obtain⟨f,a,c,n,rfl,hc,hn⟩:=h x m
 exact .tup (blc .int (blc .int (blc (Zk9 hc hn) bl0))) (by simp)) (by omega)
theorem Zea{i:Int}: Zda [.int i]=some (.bool true):=by
 apply Pk.eq
 unfold Zda Zgc
 walk_at "z"
 rfl
theorem ZiV{D:List T}(h:∀x∈D,ZfL x)(hl:D.length≤1000): ZdQ [.lst D,.lst D]=some (.bool true):=by
 apply Pk.eq
 unfold ZdQ Zgf
 walk_at "z"
 refine Zfh (ts:=D) ?_ (fun _ σ=>σ 0=some (.lst D)∧σ 1=some (.lst D)) ⟨rfl,rfl⟩ (fun i t σ hi hI=>?_) fun σ hI=>?_
 ·walk_at "z"
  rfl
 ·obtain⟨e0,e1⟩:=hI
  obtain⟨f,a,c,n,rfl,⟨s,hs,hc⟩,hn⟩:=h t (List.mem_of_getElem? hi)
  have hsl:=hs.1
  walk_at "z"
  refine Pk.of Zea ?_
  walk_at "z"
  refine Pk.of Zea ?_
  walk_at "z"
  rcases hc with rfl | rfl | ⟨d,_,_,rfl⟩
  ·unfold smT
   walk_at "z"
   refine Zfh (ts:=(s).map T.int) ?_ (fun _ σ=>σ 0=some (.lst D)∧σ 1=some (.lst D)) ⟨by walk_at "r",by walk_at "r"⟩ (fun i t σ hi hI=>?_) fun σ hI=>hI
   ·refine⟨(s).map T.int,?_,rfl⟩
    show(ZaT _ _)=_
    have:Pk (Zn Zad (Zn Zy (Zn Zy (Zc 2) (Zk 2)) (Zk 1)) (ZW ZcW (Zd (Zds (Zn Zy (Zc 2) (Zk 2)) 2) Zo)) (updT σ 2 (T.tup [T.int ↑f,T.int a,T.tup [T.str wU,T.lst (s.map T.int)]]))) fun t=>t=.lst ((s).map T.int):=by
     walk_at "z"
     refine⟨.tup [],rfl,?_⟩
     walk_at "z"
     refine ZcQ (by simp;omega) ?_
     simp
    obtain⟨_,e,rfl⟩:=this
    simp only[ZaT,e,Option.bind_some]
   ·obtain⟨e0,e1⟩:=hI
    obtain⟨v,_,rfl⟩:=Zz11.mp (List.mem_of_getElem? hi)
    walk_at "z"
    refine Pk.of Zea ?_
    walk_at "z"
    exact⟨by walk_at "r",by walk_at "r"⟩
  ·unfold smT
   walk_at "z"
   refine Zfh (ts:=(s).map T.int) ?_ (fun _ σ=>σ 0=some (.lst D)∧σ 1=some (.lst D)) ⟨by walk_at "r",by walk_at "r"⟩ (fun i t σ hi hI=>?_) fun σ hI=>hI
   ·refine⟨(s).map T.int,?_,rfl⟩
    show(ZaT _ _)=_
    have:Pk (Zn Zad (Zn Zy (Zn Zy (Zc 2) (Zk 2)) (Zk 1)) (ZW ZcW (Zd (Zds (Zn Zy (Zc 2) (Zk 2)) 2) Zo)) (updT σ 2 (T.tup [T.int ↑f,T.int a,T.tup [T.str wS,T.lst (s.map T.int)]]))) fun t=>t=.lst ((s).map T.int):=by
     walk_at "z"
     refine⟨.tup [],rfl,?_⟩
     walk_at "z"
     refine ZcQ (by simp;omega) ?_
     simp
    obtain⟨_,e,rfl⟩:=this
    simp only[ZaT,e,Option.bind_some]
   ·obtain⟨e0,e1⟩:=hI
    obtain⟨v,_,rfl⟩:=Zz11.mp (List.mem_of_getElem? hi)
    walk_at "z"
    refine Pk.of Zea ?_
    walk_at "z"
    exact⟨by walk_at "r",by walk_at "r"⟩
  ·unfold smT
   walk_at "z"
   refine Zfh (ts:=(s++[d]).map T.int) ?_ (fun _ σ=>σ 0=some (.lst D)∧σ 1=some (.lst D)) ⟨by walk_at "r",by walk_at "r"⟩ (fun i t σ hi hI=>?_) fun σ hI=>hI
   ·refine⟨(s++[d]).map T.int,?_,rfl⟩
    show(ZaT _ _)=_
    have:Pk (Zn Zad (Zn Zy (Zn Zy (Zc 2) (Zk 2)) (Zk 1)) (ZW ZcW (Zd (Zds (Zn Zy (Zc 2) (Zk 2)) 2) Zo)) (updT σ 2 (T.tup [T.int ↑f,T.int a,T.tup [T.str wE,T.lst (s.map T.int),T.int d]]))) fun t=>t=.lst ((s++[d]).map T.int):=by
     walk_at "z"
     refine⟨.tup [T.int d],rfl,?_⟩
     walk_at "z"
     refine ZcQ (by simp;omega) ?_
     simp
    obtain⟨_,e,rfl⟩:=this
    simp only[ZaT,e,Option.bind_some]
   ·obtain⟨e0,e1⟩:=hI
    obtain⟨v,_,rfl⟩:=Zz11.mp (List.mem_of_getElem? hi)
    walk_at "z"
    refine Pk.of Zea ?_
    walk_at "z"
    exact⟨by walk_at "r",by walk_at "r"⟩
 ·obtain⟨e0,e1⟩:=hI
  walk_at "z"
  exact Zjb (ZmV h hl) rfl
end L
namespace L
open PySem PySem.W PyProof.Rows PM TM
variable {t:T}
theorem ZmW{σ:TL}{Q:T→Prop}{p e:PE}(h:Pk (p σ) fun t=>∃ts,t=.lst ts∧Pk (e σ) fun u=>∃a:Nat,u=.int a∧Q (.lst (ts.take a))): Pk (Zee p Zfq (Zfr e) σ) Q:=by
 obtain⟨_,e1,ts,rfl,_,e2,a,rfl,q⟩:=h
 refine⟨_,?_,q⟩
 simp only[Zee,e1,Zfq,Zfr,e2,Option.bind_some,Zla ts rfl]
theorem Zkz{n:Nat}(h:Nice n t): ZcG (n+1) [t]=some t:=by
 induction h with
 | none=>rfl
 | bool b=>rfl
 | int i=>rfl
 | str h=>rfl
 | @tup n ts hl hs ih=>
  apply Pk.eq
  show Pk (Zbo 1 (Zdb (ZcG (n+1))) [.tup ts]) _
  unfold Zdb
  walk_at "z"
  refine Ze5 (ts:=ts) rfl hl ih ?_
  walk_at "z"
  rfl
 | @lst n ts hl hs ih=>
  apply Pk.eq
  show Pk (Zbo 1 (Zdb (ZcG (n+1))) [.lst ts]) _
  unfold Zdb
  walk_at "z"
  exact Ze5 (ts:=ts) rfl hl ih rfl
theorem Nice.bl{n:Nat}(h:Nice n t): Bl n t:=by
 induction h with
 | none=>exact .none
 | bool b=>exact .bool
 | int i=>exact .int
 | str h=>exact .str h
 | tup h1 _ ih=>exact .tup ih (by omega)
 | lst h1 _ ih=>exact .lst ih (by omega)
theorem Zfo{S:Nat→T→Prop}{k:Nat}{ts:List T}(h:Bs S k ts): ∀t∈ts,∃m,S m t:=by
 induction h with
 | nil=>intro t m;exact(List.not_mem_nil m).elim
 | cons a _ ih=>
  intro t m
  rcases Zz7.mp m with rfl | m
  ·exact⟨_,a⟩
  ·exact ih t m
theorem Zfd: ∀(n k:Nat) (t:T),St n k t→Nice (2*n+3) t
 | 0,k,t,h=>h.2.1
 | n+1,k,t,h=>by
  rcases h with⟨rfl,h⟩ | ⟨c,a,b,ka,kb,rfl,hc,ha,hb,la,lb,rfl⟩ | ⟨c,a,ka,rfl,hc,ha,la,rfl⟩
  ·exact h.1.mono (by omega)
  ·have na:Nice (2*n+4) (.lst a):=.lst (by omega) fun t m=>by
    obtain⟨q,hq⟩:=Zfo ha t m
    exact Zfd n q t hq
   have nb:Nice (2*n+4) (.lst b):=.lst (by omega) fun t m=>by
    obtain⟨q,hq⟩:=Zfo hb t m
    exact Zfd n q t hq
   exact .tup (by simp) (nlc (.str (by decide +kernel)) (nlc (hc.mono (by omega)) (nlc na (nlc nb nl0))))
  ·have na:Nice (2*n+4) (.lst a):=.lst (by omega) fun t m=>by
    obtain⟨q,hq⟩:=Zfo ha t m
    exact Zfd n q t hq
   exact .tup (by simp) (nlc (.str (by decide +kernel)) (nlc (hc.mono (by omega)) (nlc na nl0)))
theorem FnOk.nice{r:List T}(h:FnOk t r): Nice 13 t:=by
 obtain⟨p,n,ps,body,k,e,hn,hq,rfl,hb,hB,hL,hr⟩:=h
 have nb:Nice 12 (.lst body):=.lst (by omega) fun t m=>by
  obtain⟨q,hq'⟩:=Zfo hB t m
  exact Zfd 4 q t (StP.st (fun t ht=>Zfw hn hq ht) (fun c hc=>ZgJ hc hn) 4 q t hq')
 exact .tup (by simp) (nlc (.int _) (nlc (.int _) (nlc nb nl0)))
theorem Fns.nice{ts:List T}{rs:List (List T)}(h:Fns ts rs)(hl:ts.length≤1000): Nice 14 (.lst ts):=.lst hl fun t m=>by
 obtain⟨i,hi,rfl⟩:=List.getElem_of_mem m
 obtain⟨r,_,hf⟩:=h.at (List.getElem?_eq_getElem hi)
 exact hf.nice
section
variable {ns:List Int} {t0:Nat} {Q:T→List T→Prop}
theorem ZkA(hl:ns.length≤200)(h:∀fs rs t',Fns fs rs→fs.length≤5→Q (.lst fs) [tpT ns t']): Pr (ZeD [tpT ns t0]) Q:=by
 unfold ZeD ZfX
 walk_at "tz"
 refine ZlN ?_
 walk_at "tz"
 refine Zay hl (by decide) fun v v0 v1=>?_
 walk_at "tz"
 obtain⟨m,hm⟩:∃m:Nat,1+v=m:=⟨(1+v).toNat,by omega⟩
 rw[hm]
 refine Rn.one (by omega) ?_
 refine ZkV (fun i τ=>∃fs rs ps t',τ 0=some (tpT ns t')∧τ 1=some (.lst fs)∧τ 2=some (.lst (ps.map fun q=>T.int (q:Nat)))∧Fns fs rs∧fs.length≤i∧ps.length=i∧∀q∈ps,q≤100) ⟨[],[],[],t0+1,?_,?_,?_,.nil,by simp,rfl,by simp⟩ (fun i τ hi hI=>?_) (fun τ hI=>?_)
 ·walk_at "tr"
 ·walk_at "tr"
 ·walk_at "tr"
 ·obtain⟨fs,rs,ps,t',e0,e1,e2,hF,hlen,hps,hq⟩:=hI
  walk_at "tz"
  refine Zay hl (by decide) fun p p0 p1=>?_
  obtain⟨p,rfl⟩:∃k:Nat,p=k:=⟨_,(Int.toNat_of_nonneg p0).symm⟩
  walk_at "tz"
  refine Zay hl (by decide) fun n n0 n1=>?_
  walk_at "tz"
  obtain⟨N,hN,hN1,hN2⟩:∃N:Nat,(if 1+n>(p:Int)then 1+n else(p:Int))=(N:Int)∧p≤N∧N≤100:=by
   split
   ·exact⟨(1+n).toNat,by omega,by omega,by omega⟩
   ·exact⟨p,rfl,by omega,by omega⟩
  rw[hN]
  refine Zay hl (by decide) fun w w0 w1=>?_
  obtain⟨r0,r1,hr,er⟩:∃r0 r1:Nat,r0+r1≤26∧[T.lst [T.int 4,T.int 2],T.lst [T.int 4,T.int 2],T.lst [T.int 20,T.int 6]][w.toNat]?=some (rm2 r0 r1):=by
   have hw:w=0∨w=1∨w=2:=by omega
   rcases hw with rfl | rfl | rfl
   ·exact⟨4,2,by omega,rfl⟩
   ·exact⟨4,2,by omega,rfl⟩
   ·exact⟨20,6,by omega,rfl⟩
  walk_at "tz"
  refine Za7 (t:=rm2 r0 r1) w0 er ?_
  walk_at "tz"
  refine Zay hl (by decide) fun c c0 c1=>?_
  obtain⟨c',hc'⟩:∃k:Nat,1+c=k:=⟨(1+c).toNat,by omega⟩
  walk_at "tz"
  rw[hc']
  refine Zje 9 4 (by decide) ns _ c' p N ps r0 r1 _ hl (by omega) hN1 hN2 (by omega) hq fun ts k u0 u1 t2 hB hlt hk=>?_
  obtain⟨r,e,hL,hr2⟩:=Zfv (Zfy 4) hB 0
  have hf:FnOk (.tup [.int p,.int N,.lst ts]) r:=⟨p,N,ps,ts,k,e,hN2,hq,rfl,by omega,hB,hL,by omega⟩
  walk_at "tz"
  refine⟨fs,by walk_at "tr",by omega,?_⟩
  walk_at "tz"
  refine ZcQ (by simp;omega) ?_
  refine⟨fs++[.tup [.int p,.int N,.lst ts]],rs++[r],ps++[p],t2,?_,?_,?_,hF.snoc hf,by simp;omega,by simp;omega,fun q m=>?_⟩
  ·walk_at "tr"
  ·walk_at "tr"
  ·rw[List.map_append]
   walk_at "tr"
  ·rcases Zz8.mp m with m | m
   ·exact hq q m
   ·rw[List.mem_singleton.mp m];omega
 ·obtain⟨fs,rs,ps,t',e0,e1,e2,hF,hlen,hps,hq⟩:=hI
  walk_at "tz"
  exact h fs rs t' hF (by omega)
end
theorem Zjg{σ:TL}: ∀{D:List T},(∀x∈D,ZfL x)→∃us,Zc5 5 (Zt (Zbr 5 [] (Zk 11) (ZaV (ZaV Zab (Zk 2)) (Zk 1)) (Zk 0)) (Zbn 5 [] (ZaV (ZaV Zab (Zk 2)) (Zk 1)) (Zk 12))) σ D=some us∧us.length=D.length
 | [],_=>⟨[],rfl,rfl⟩
 | x::D,h=>by
  obtain⟨us,e,hl⟩:=Zjg (σ:=σ) (D:=D) fun y m=>h y (Zz2 _ m)
  obtain⟨f,a,c,n,rfl,⟨s,hs,hc⟩,hn⟩:=h x Zz5
  have hsl:=hs.1
  obtain⟨v,s',rfl⟩:∃v s',s=v::s':=by
   cases s with
   | nil=>simp at hsl
   | cons v s'=>exact⟨v,s',rfl⟩
  have key:∀(w:Str) (rest:List T),seqIndex? 1 (rest.length+2)=some 1→∃t',Zc5 5 (Zt (Zbr 5 [] (Zk 11) (ZaV (ZaV Zab (Zk 2)) (Zk 1)) (Zk 0)) (Zbn 5 [] (ZaV (ZaV Zab (Zk 2)) (Zk 1)) (Zk 12))) σ (.tup [.int f,.int a,.tup (.str w::smT (v::s')::rest)]::D)=some (t'::us):=fun w rest hi=>by
   have h2:seqIndex? 2 3=some 2:=rfl
   have hl2:s'.length≤200:=by simp at hsl;omega
   refine⟨.tup [.int f,.int a,.tup (.str w::.lst (.int 11::s'.map T.int++[.int 12])::rest)],?_⟩
   have e1:Zbr 5 [] (Zk 11) (ZaV (ZaV Zab (Zk 2)) (Zk 1)) (Zk 0) (updT σ 5 (.tup [.int f,.int a,.tup (.str w::smT (v::s')::rest)]))=some (none,Zaz (updT (updT σ 5 (.tup [.int f,.int a,.tup (.str w::smT (v::s')::rest)])) 5 (.tup [.int f,.int a,.tup (.str w::.lst (.int 11::s'.map T.int)::rest)])) []):=by
    have m1:ZbJ (Zco 0 (.int 11)) [2,1] (.tup [.int f,.int a,.tup (.str w::smT (v::s')::rest)])=some (.tup [.int f,.int a,.tup (.str w::.lst (.int 11::s'.map T.int)::rest)]):=by
     have p0:Zco 0 (.int 11) ((v::s').map T.int)=some (.int 11::s'.map T.int):=by
      unfold Zco
      rw[if_pos ⟨by decide,by simp⟩]
      rfl
     simp only[ZbJ,List.length_cons,List.length_nil,h2,hi,Option.bind_some,List.getElem?_cons_succ,List.getElem?_cons_zero,smT,p0,Option.map_some,List.set_cons_succ,List.set_cons_zero]
    simp only[Zbr,Zk,ZaV,Zab,Option.bind_some,List.nil_append,List.cons_append,Ze0,m1,Option.map_some]
   have e2:∀τ:TL,τ 5=some (.tup [.int f,.int a,.tup (.str w::.lst (.int 11::s'.map T.int)::rest)])→Zbn 5 [] (ZaV (ZaV Zab (Zk 2)) (Zk 1)) (Zk 12) τ=some (none,Zaz (updT τ 5 (.tup [.int f,.int a,.tup (.str w::.lst (.int 11::s'.map T.int++[.int 12])::rest)])) []):=fun τ hτ=>by
    have m1:ZbJ (Zb5 (.int 12)) [2,1] (.tup [.int f,.int a,.tup (.str w::.lst (.int 11::s'.map T.int)::rest)])=some (.tup [.int f,.int a,.tup (.str w::.lst (.int 11::s'.map T.int++[.int 12])::rest)]):=by
     have p0:Zb5 (.int 12) (.int 11::s'.map T.int)=some (.int 11::s'.map T.int++[.int 12]):=by
      unfold Zb5
      rw[if_pos (by rw[Zas];simp;omega)]
     simp only[ZbJ,List.length_cons,List.length_nil,h2,hi,Option.bind_some,List.getElem?_cons_succ,List.getElem?_cons_zero,p0,Option.map_some,List.set_cons_succ,List.set_cons_zero]
    simp only[Zbn,Zk,ZaV,Zab,Option.bind_some,List.nil_append,List.cons_append,hτ,m1,Option.map_some]
   unfold Zc5
   simp only[Zt,e1,Option.bind_some]
   rw[e2 _ (by simp[Zaz,updT])]
   simp only[Option.bind_some,e]
   simp[Zaz,updT]
  rcases hc with rfl | rfl | ⟨d,_,_,rfl⟩
  ·obtain⟨t',e'⟩:=key wU [] rfl
   exact⟨_,e',by simp[hl]⟩
  ·obtain⟨t',e'⟩:=key wS [] rfl
   exact⟨_,e',by simp[hl]⟩
  ·obtain⟨t',e'⟩:=key wE [.int d] rfl
   exact⟨_,e',by simp[hl]⟩
theorem ZjZ{ns:List Int}(hl:ns.length≤63): ∃us,Ze8 [.lst (ns.map T.int)]=some (.bool true,us):=by
 have:Pr (Ze8 [.lst (ns.map T.int)]) fun t _=>t=.bool true:=by
  unfold Ze8 Zg7
  walk_at "tz"
  refine ZmW ?_
  walk_at "z"
  refine⟨_,rfl,?_⟩
  walk_at "z"
  refine⟨84,rfl,?_⟩
  rw[←List.map_take]
  refine⟨ZgX _,?_⟩
  walk_at "tz"
  refine ZkA (ns:=ns.take 84) (t0:=0) (by simp;omega) fun fs rs t' hF hfl=>?_
  have nf:=hF.nice (by omega)
  have htri:=Zl4 hF 0
  have hlen:(ZaG 0 rs).length≤1000:=by
   have:=Zfc (c:=200) rs 0 fun r m=>by
    obtain⟨t,p,n,ps,body,k,e,_,_,_,_,_,_,hr⟩:=hF.all r m
    exact hr
   have:=hF.length
   omega
  walk_at "tz"
  refine Pk.of (Zkz (n:=23) (nf.mono (by decide))) ?_
  walk_at "tz"
  refine Pk.of (Zng hF hfl) ?_
  walk_at "tz"
  refine Pk.of (Zid hF hfl) ?_
  walk_at "tz"
  refine Pk.of (ZiV htri hlen) ?_
  walk_at "tz"
  refine ZmQ (n:=14) nf.bl ?_
  walk_at "tz"
  obtain⟨us,eu,hul⟩:=Zjg (D:=ZaG 0 rs) htri
  refine ZlX (ts:=ZaG 0 rs) (us:=us) (by walk_at "tr") eu ?_
  walk_at "tz"
  refine⟨us,by walk_at "tr",by omega,?_⟩
  walk_at "tz"
  refine Zjb (n:=14) nf.bl ?_
  walk_at "tz"
  refine Pk.of (Zid hF hfl) ?_
  walk_at "tz"
  refine Pk.of (ZiV htri hlen) ?_
  walk_at "tz"
  rfl
 obtain⟨t,us,e,rfl⟩:=this
 exact⟨us,e⟩
theorem ZjW{ns:List Int}(hlen:ns.length≤63)(hL:PyData.layable0 (.list (ns.map .int))=true): ∃H',Zip [.ref 0] [ns.map V.int]=some (.bool true,H'):=Zj5 Zk3 ns (ZjZ hlen)
end L
end
section
open PySem PySem.W PyProof.Rows
namespace PySem.W.Fast
def tw5105673956185107153:=0
def tw9497945907656264259:=0
def tw15221209806709932071:=0
def tw12798869161161681673:=0
def tw4361700775904427359:=0
def tw9563574807059059695:=0
def tw8164005668110941744:=0
def tw13426244417702134072:=0
def tw7328447075739424539:=0
def tw16131593051203169754:=0
def tw14613296582639449008:=0
def tw734138898119960010:=0
def tw569269584081339442:=0
def tw4203021270051977171:=0
def tw11418939547134857076:=0
def tw3094701115853657799:=0
def tw13829591483307370896:=0
def tw17969941481158815411:=0
def tw15213048550514571353:=0
def tw4033379813872489195:=0
def tw16149030986926176842:=0
def tw8436589768386056944:=0
def tw10097012582147076362:=0
def tw9192171586001469603:=0
def tw9455475090630465045:=0
def tw8646929664414959583:=0
def tw558143881947024291:=0
def tw8454840944936950519:=0
def tw18221076124747093969:=0
def tw14864845329073380503:=0
def tw12461362378542492155:=0
def tw14790834132378566595:=0
def tw8160871880118814707:=0
def tw7805864855692585105:=0
def tw13792483299354683862:=0
def tw4954584648838934644:=0
def tw6511239469406747073:=0
def tw11002848052431835627:=0
def tw13989995598129119793:=0
def tw4211952112222678748:=0
def tw7388713464098733815:=0
def tw13218621648322568166:=0
def tw10693841506766600124:=0
def tw5485572742587201778:=0
def tw13481268755573549168:=0
def tw17093224777342109595:=0
def tw8237626310708396552:=0
def tw9585978970863474492:=0
def tw15862806813707239167:=0
def tw6315216371427503177:=0
def tw5260856337621036202:=0
def tw7561303404912733100:=0
def tw8824595633291508535:=0
def tw726985913927333873:=0
def tw2385268686561707046:=0
def tw8605165415444627158:=0
def tw11188117447681078326:=0
def tw1877378965866140348:=0
def tw17878424488110687958:=0
def tw1647960591809683682:=0
def tw14267268813261638861:=0
def tw11786325122171474085:=0
def tw7343611390307366373:=0
def tw7340446101256811000:=0
def tw14734032772098568817:=0
def tw4693335582198445222:=0
def tw6793172497655745189:=0
def tw18167724695441219349:=0
def tw4968929673044707356:=0
def tw13887902116395311400:=0
def tw1391549112126926301:=0
def tw644751248652905101:=0
def tw14279065940840616024:=0
def tw1267704075650749254:=0
def tw16463793508043411602:=0
def tw8131721106225051767:=0
def tw12176616388762934822:=0
def tw3471986238504059686:=0
def tw16925118299729312639:=0
def tw921561521215706043:=0
def tw438459731153329746:=0
def tw6623812351622530092:=0
def tw11517140324859352983:=0
def tw7618804249908900691:=0
def tw10354477200866600673:=0
def tw3302770140995672700:=0
def tw5015507407206683207:=0
def tw14398365135244066966:=0
def tw17960406059949683352:=0
def tw133755455108545178:=0
def tw14245618210516037357:=0
def tw8697654515486363317:=0
def tw13949155002146243131:=0
def tw16970792351503237766:=0
def tw14949513074056673275:=0
def tw17960848765466677729:=0
def tw13852964685745181689:=0
def tw7351633575774312848:=0
def tw3942624392001961204:=0
def tw6662249597110656733:=0
end PySem.W.Fast
set_option maxRecDepth 100000 in
set_option maxHeartbeats 8000000 in
open_top head for PySem.Challenge.rw_seer_k74_sayings
end
section
open PySem PySem.W PySem.Calls PyProof.Rows PM
seal PM.J PM.Js PM.JT PM.JA PM.JF PM.JI PM.JI2 PM.JP PM.S1 PM.Ss PM.Sto PM.Rd PM.Nm PM.OpN PM.Op2 PM.Def
namespace L
variable {F:List V→Hp→Option (V×Hp)}
section
variable {w:World} {s₀:Shared} {mg mb:Str→Option Value}
theorem ZaD: Def PySem.Challenge.rw_seer_k74_sayings.row.prog w (head.heap_39 w.params) head.view_39 (looseW head.view_39 []) (ExcName.means s₀.heap) mg mb 108 1 ZR:=by
  k_fill
  refine' Def.of (names:=[Str.ofString "_law_tape",Str.ofString "_law_many",Str.ofString "_law_at"]) (n:=2) (room:=0) (g:=ZgB) (ho:=?ho) (hcd:=?hcd) (nd:=by decide) (hn:=by decide) (hbind:=?hb) (hkinds:=?hk) (hone:=?h1) (hco:=?z1) (hgen:=?z2) (hk:=?z3) (hbody:=?hbody)
  case ho=>k_is
  case z1=>rfl
  case z2=>rfl
  case z3=>rfl
  case hcd=>k_is
  case hb=>intro s xs hx;match xs,hx with | [x0,x1],_=>exact BindsTo.of_eq rfl
  case hk=>decide
  case h1=>decide +kernel
  case hbody=>
   intro dp un gd L outer h₀ hu clr hd1 hu1
   exact(Zv (ZV (sto_loc (by decide) (by rfl) rfl rfl) (ZB (Ze (rd_loc (by rfl) rfl rfl rfl)) (J.int _ _ _))) (Zv (S1.put (ZP (Ze (rd_loc (by rfl) rfl rfl rfl)) (J.int _ _ _) Zax) (Ze (rd_loc (by rfl) rfl rfl rfl)) (J.int _ _ _)) (Zv (Zan (Zal (Zbu (nm_built clr (by k_is) (by boot_by_name) (by decide) rfl rfl rfl rfl rfl) (Zf (ZB (Ze (rd_loc (by rfl) rfl rfl rfl)) (J.int _ _ _)) Zq) ZbR) (J.int _ _ _) ok_eq) (ZC (ZU (J.int _ _ _))) Zat) (ZC (ZU (ZP (ZP (ZB (ZB (Ze (rd_loc (by rfl) rfl rfl rfl)) (J.int _ _ _)) (ZP (Ze (rd_loc (by rfl) rfl rfl rfl)) (Zbu (nm_built clr (by k_is) (by boot_by_name) (by decide) rfl rfl rfl rfl rfl) (Zf (ZB (Ze (rd_loc (by rfl) rfl rfl rfl)) (J.int _ _ _)) Zq) ZbR) ZiX)) (ZP (Ze (rd_loc (by rfl) rfl rfl rfl)) (Zbu (nm_built clr (by k_is) (by boot_by_name) (by decide) rfl rfl rfl rfl rfl) (Zf (ZB (Ze (rd_loc (by rfl) rfl rfl rfl)) (J.int _ _ _)) Zq) ZbR) Zl5) Zax) (Ze (rd_loc (by rfl) rfl rfl rfl)) ZiX))))))
theorem ZhJ: Def PySem.Challenge.rw_seer_k74_sayings.row.prog w (head.heap_39 w.params) head.view_39 (looseW head.view_39 []) (ExcName.means s₀.heap) mg mb 115 2 ZdL:=by
  k_fill
  refine' Def.of (names:=[Str.ofString "_law_tape",Str.ofString "_law_kind"]) (n:=1) (room:=1) (g:=Zf1) (ho:=?ho) (hcd:=?hcd) (nd:=by decide) (hn:=by decide) (hbind:=?hb) (hkinds:=?hk) (hone:=?h1) (hco:=?z1) (hgen:=?z2) (hk:=?z3) (hbody:=?hbody)
  case ho=>k_is
  case z1=>rfl
  case z2=>rfl
  case z3=>rfl
  case hcd=>k_is
  case hb=>intro s xs hx;match xs,hx with | [x0],_=>exact BindsTo.of_eq rfl
  case hk=>decide
  case h1=>decide +kernel
  case hbody=>
   intro dp un gd L outer h₀ hu clr hd1 hu1
   exact(Zv (ZV (sto_loc (by decide) (by rfl) rfl rfl) (ZG clr (nm_def clr (by k_is) rfl rfl rfl rfl) (by k_is) ZaD (by omega) (by omega) (Zf (Ze (rd_loc (by rfl) rfl rfl rfl)) (Zf (J.int _ _ _) Zq)))) (Zv (Zan (Zal (Ze (rd_loc (by rfl) rfl rfl rfl)) (J.int _ _ _) Zek) (ZC (ZU (ZP (ZG clr (nm_def clr (by k_is) rfl rfl rfl rfl) (by k_is) ZaD (by omega) (by omega) (Zf (Ze (rd_loc (by rfl) rfl rfl rfl)) (Zf (J.int _ _ _) Zq))) (J.int _ _ _) ok_sub))) Zat) (Zv (Zan (Zal (Ze (rd_loc (by rfl) rfl rfl rfl)) (J.int _ _ _) ok_eq) (ZC (ZU (ZP (ZG clr (nm_def clr (by k_is) rfl rfl rfl rfl) (by k_is) ZaD (by omega) (by omega) (Zf (Ze (rd_loc (by rfl) rfl rfl rfl)) (Zf (ZP (ZP (J.int _ _ _) (ZP (J.int _ _ _) (J.int _ _ _) Zcu) Zec) (J.int _ _ _) Zax) Zq))) (ZP (J.int _ _ _) (J.int _ _ _) Zcu) ok_sub))) Zat) (ZC (ZU (ZP (ZG clr (nm_def clr (by k_is) rfl rfl rfl rfl) (by k_is) ZaD (by omega) (by omega) (Zf (Ze (rd_loc (by rfl) rfl rfl rfl)) (Zf (ZP (ZP (J.int _ _ _) (ZP (J.int _ _ _) (J.int _ _ _) Zcu) Zec) (J.int _ _ _) Zax) Zq))) (ZP (J.int _ _ _) (J.int _ _ _) Zcu) ok_sub))))))
theorem law_sum_v61_d: Def PySem.Challenge.rw_seer_k74_sayings.row.prog w (head.heap_39 w.params) head.view_39 (looseW head.view_39 []) (ExcName.means s₀.heap) mg mb 122 3 ZbN:=by
  k_fill
  refine' Def.of (names:=[Str.ofString "_law_tape",Str.ofString "_law_many",Str.ofString "_law_one",Str.ofString "_law_box",Str.ofString "_law_kind"]) (n:=2) (room:=2) (g:=Zgs) (ho:=?ho) (hcd:=?hcd) (nd:=by decide) (hn:=by decide) (hbind:=?hb) (hkinds:=?hk) (hone:=?h1) (hco:=?z1) (hgen:=?z2) (hk:=?z3) (hbody:=?hbody)
  case ho=>k_is
  case z1=>rfl
  case z2=>rfl
  case z3=>rfl
  case hcd=>k_is
  case hb=>intro s xs hx;match xs,hx with | [x0,x1],_=>exact BindsTo.of_eq rfl
  case hk=>decide
  case h1=>decide +kernel
  case hbody=>
   intro dp un gd L outer h₀ hu clr hd1 hu1
   exact(Zv (ZV (sto_loc (by decide) (by rfl) rfl rfl) (J.list (Zf (ZG clr (nm_def clr (by k_is) rfl rfl rfl rfl) (by k_is) ZhJ (by omega) (by omega) (Zf (Ze (rd_loc (by rfl) rfl rfl rfl)) Zq)) Zq))) (Zv (ZbS (sto_loc (by decide) (by rfl) rfl rfl) (JI.range (nm_built clr (by k_is) (by boot_by_name) (by decide) rfl rfl rfl rfl rfl) (Zf (Ze (rd_loc (by rfl) rfl rfl rfl)) Zq)) (Zv (ZV (sto_loc (by decide) (by rfl) rfl rfl) (ZG clr (nm_def clr (by k_is) rfl rfl rfl rfl) (by k_is) ZaD (by omega) (by omega) (Zf (Ze (rd_loc (by rfl) rfl rfl rfl)) (Zf (J.int _ _ _) Zq)))) (Zv (Za2 (J.append (Ze (rd_loc (by rfl) rfl rfl rfl)) (ZB (J.list (Zf (J.int _ _ _) (Zf (J.int _ _ _) (Zf (J.int _ _ _) (Zf (J.int _ _ _) (Zf (J.int _ _ _) (Zf (J.int _ _ _) (Zf (J.int _ _ _) (Zf (Zhz (J.int _ _ _) Zhn) (Zf (J.int _ _ _) (Zf (Zhz (J.int _ _ _) Zhn) (Zf (J.int _ _ _) (Zf (J.int _ _ _) Zq))))))))))))) (Ze (rd_loc (by rfl) rfl rfl rfl))))) (ZC (Zan (Zal (Ze (rd_loc (by rfl) rfl rfl rfl)) (J.int _ _ _) ok_eq) (ZC (S1.put (ZP (ZG clr (nm_def clr (by k_is) rfl rfl rfl rfl) (by k_is) ZaD (by omega) (by omega) (Zf (Ze (rd_loc (by rfl) rfl rfl rfl)) (Zf (ZP (ZP (J.int _ _ _) (ZP (J.int _ _ _) (J.int _ _ _) Zcu) Zec) (J.int _ _ _) Zax) Zq))) (ZP (J.int _ _ _) (J.int _ _ _) Zcu) ok_sub) (Ze (rd_loc (by rfl) rfl rfl rfl)) (ZP (Ze (rd_loc (by rfl) rfl rfl rfl)) (J.int _ _ _) Zax))) Zat))))) (ZC (ZU (Ze (rd_loc (by rfl) rfl rfl rfl))))))
theorem law_step_v61_d: Def PySem.Challenge.rw_seer_k74_sayings.row.prog w (head.heap_39 w.params) head.view_39 (looseW head.view_39 []) (ExcName.means s₀.heap) mg mb 129 2 Zcq:=by
  k_fill
  refine' Def.of (names:=[Str.ofString "_law_tape",Str.ofString "_law_kind"]) (n:=1) (room:=1) (g:=Zgh) (ho:=?ho) (hcd:=?hcd) (nd:=by decide) (hn:=by decide) (hbind:=?hb) (hkinds:=?hk) (hone:=?h1) (hco:=?z1) (hgen:=?z2) (hk:=?z3) (hbody:=?hbody)
  case ho=>k_is
  case z1=>rfl
  case z2=>rfl
  case z3=>rfl
  case hcd=>k_is
  case hb=>intro s xs hx;match xs,hx with | [x0],_=>exact BindsTo.of_eq rfl
  case hk=>decide
  case h1=>decide +kernel
  case hbody=>
   intro dp un gd L outer h₀ hu clr hd1 hu1
   exact(Zv (ZV (sto_loc (by decide) (by rfl) rfl rfl) (ZG clr (nm_def clr (by k_is) rfl rfl rfl rfl) (by k_is) ZaD (by omega) (by omega) (Zf (Ze (rd_loc (by rfl) rfl rfl rfl)) (Zf (J.int _ _ _) Zq)))) (Zv (Zan (Zal (Ze (rd_loc (by rfl) rfl rfl rfl)) (J.int _ _ _) Zek) (ZC (ZU (ZB (J.list (Zf (J.int _ _ _) (Zf (J.int _ _ _) (Zf (J.int _ _ _) (Zf (J.int _ _ _) (Zf (J.int _ _ _) Zq)))))) (Ze (rd_loc (by rfl) rfl rfl rfl))))) Zat) (Zv (Zan (Zal (Ze (rd_loc (by rfl) rfl rfl rfl)) (J.int _ _ _) ok_eq) (ZC (ZU (ZP (J.int _ _ _) (ZG clr (nm_def clr (by k_is) rfl rfl rfl rfl) (by k_is) ZaD (by omega) (by omega) (Zf (Ze (rd_loc (by rfl) rfl rfl rfl)) (Zf (ZP (J.int _ _ _) (J.int _ _ _) Zcu) Zq))) Zax))) Zat) (ZC (ZU (ZP (J.int _ _ _) (ZG clr (nm_def clr (by k_is) rfl rfl rfl rfl) (by k_is) ZaD (by omega) (by omega) (Zf (Ze (rd_loc (by rfl) rfl rfl rfl)) (Zf (J.int _ _ _) Zq))) Zax))))))
theorem ZhM: Def PySem.Challenge.rw_seer_k74_sayings.row.prog w (head.heap_39 w.params) head.view_39 (looseW head.view_39 []) (ExcName.means s₀.heap) mg mb 136 4 ZdN:=by
  k_fill
  refine' Def.of (names:=[Str.ofString "_law_tape",Str.ofString "_law_many",Str.ofString "_law_kind",Str.ofString "_law_one"]) (n:=2) (room:=3) (g:=Zf5) (ho:=?ho) (hcd:=?hcd) (nd:=by decide) (hn:=by decide) (hbind:=?hb) (hkinds:=?hk) (hone:=?h1) (hco:=?z1) (hgen:=?z2) (hk:=?z3) (hbody:=?hbody)
  case ho=>k_is
  case z1=>rfl
  case z2=>rfl
  case z3=>rfl
  case hcd=>k_is
  case hb=>intro s xs hx;match xs,hx with | [x0,x1],_=>exact BindsTo.of_eq rfl
  case hk=>decide
  case h1=>decide +kernel
  case hbody=>
   intro dp un gd L outer h₀ hu clr hd1 hu1
   exact(Zv (ZV (sto_loc (by decide) (by rfl) rfl rfl) (ZG clr (nm_def clr (by k_is) rfl rfl rfl rfl) (by k_is) ZaD (by omega) (by omega) (Zf (Ze (rd_loc (by rfl) rfl rfl rfl)) (Zf (J.int _ _ _) Zq)))) (Zv (ZV (sto_loc (by decide) (by rfl) rfl rfl) (ZG clr (nm_def clr (by k_is) rfl rfl rfl rfl) (by k_is) law_sum_v61_d (by omega) (by omega) (Zf (Ze (rd_loc (by rfl) rfl rfl rfl)) (Zf (Ze (rd_loc (by rfl) rfl rfl rfl)) Zq)))) (Zv (Zan (Zal (Ze (rd_loc (by rfl) rfl rfl rfl)) (J.int _ _ _) ok_gt) (ZC (ZU (J.tup (Zf (J.str _ _ _) (Zf (Ze (rd_loc (by rfl) rfl rfl rfl)) (Zf (ZG clr (nm_def clr (by k_is) rfl rfl rfl rfl) (by k_is) law_step_v61_d (by omega) (by omega) (Zf (Ze (rd_loc (by rfl) rfl rfl rfl)) Zq)) Zq)))))) Zat) (ZC (ZU (J.tup (Zf (ZB (J.list (Zf (J.str _ _ _) (Zf (J.str _ _ _) (Zf (J.str _ _ _) Zq)))) (Ze (rd_loc (by rfl) rfl rfl rfl))) (Zf (Ze (rd_loc (by rfl) rfl rfl rfl)) Zq))))))))
theorem law_any_d: Def PySem.Challenge.rw_seer_k74_sayings.row.prog w (head.heap_39 w.params) head.view_39 (looseW head.view_39 []) (ExcName.means s₀.heap) mg mb 143 3 ZgQ:=by
  k_fill
  refine' Def.of (names:=[Str.ofString "_law_tape",Str.ofString "_law_x",Str.ofString "_law_lo",Str.ofString "_law_hi",Str.ofString "_law_kind"]) (n:=2) (room:=2) (g:=ZgP) (ho:=?ho) (hcd:=?hcd) (nd:=by decide) (hn:=by decide) (hbind:=?hb) (hkinds:=?hk) (hone:=?h1) (hco:=?z1) (hgen:=?z2) (hk:=?z3) (hbody:=?hbody)
  case ho=>k_is
  case z1=>rfl
  case z2=>rfl
  case z3=>rfl
  case hcd=>k_is
  case hb=>intro s xs hx;match xs,hx with | [x0,x1],_=>exact BindsTo.of_eq rfl
  case hk=>decide
  case h1=>decide +kernel
  case hbody=>
   intro dp un gd L outer h₀ hu clr hd1 hu1
   exact(Zv (ZV (sto_loc (by decide) (by rfl) rfl rfl) (ZG clr (nm_def clr (by k_is) rfl rfl rfl rfl) (by k_is) ZhJ (by omega) (by omega) (Zf (Ze (rd_loc (by rfl) rfl rfl rfl)) Zq))) (Zv (ZV (sto_loc (by decide) (by rfl) rfl rfl) (Zbu (nm_built clr (by k_is) (by boot_by_name) (by decide) rfl rfl rfl rfl rfl) (Zf (ZP (J.int _ _ _) (J.int _ _ _) Zcu) (Zf (ZP (Ze (rd_loc (by rfl) rfl rfl rfl)) (ZG clr (nm_def clr (by k_is) rfl rfl rfl rfl) (by k_is) ZaD (by omega) (by omega) (Zf (Ze (rd_loc (by rfl) rfl rfl rfl)) (Zf (J.int _ _ _) Zq))) Zax) Zq)) Zld)) (Zv (ZV (sto_loc (by decide) (by rfl) rfl rfl) (ZG clr (nm_def clr (by k_is) rfl rfl rfl rfl) (by k_is) ZaD (by omega) (by omega) (Zf (Ze (rd_loc (by rfl) rfl rfl rfl)) (Zf (J.int _ _ _) Zq)))) (ZC (ZU (J.tup (Zf (J.str _ _ _) (Zf (Ze (rd_loc (by rfl) rfl rfl rfl)) (Zf (ZB (J.list (Zf (Ze (rd_loc (by rfl) rfl rfl rfl)) (Zf (Ze (rd_loc (by rfl) rfl rfl rfl)) (Zf (Ze (rd_loc (by rfl) rfl rfl rfl)) (Zf (Ze (rd_loc (by rfl) rfl rfl rfl)) (Zf (J.none _ _) (Zf (J.none _ _) Zq))))))) (Ze (rd_loc (by rfl) rfl rfl rfl))) (Zf (ZB (J.list (Zf (Ze (rd_loc (by rfl) rfl rfl rfl)) (Zf (Ze (rd_loc (by rfl) rfl rfl rfl)) (Zf (Ze (rd_loc (by rfl) rfl rfl rfl)) (Zf (J.none _ _) (Zf (Ze (rd_loc (by rfl) rfl rfl rfl)) (Zf (J.none _ _) Zq))))))) (Ze (rd_loc (by rfl) rfl rfl rfl))) Zq))))))))))
theorem Zkg(n:Nat)(ih:Def PySem.Challenge.rw_seer_k74_sayings.row.prog w (head.heap_39 w.params) head.view_39 (looseW head.view_39 []) (ExcName.means s₀.heap) mg mb 150 (3*n+4) F): Def PySem.Challenge.rw_seer_k74_sayings.row.prog w (head.heap_39 w.params) head.view_39 (looseW head.view_39 []) (ExcName.means s₀.heap) mg mb 157 (3*n+5) (ZgE F):=by
  k_fill
  refine' Def.of (names:=[Str.ofString "_law_tape",Str.ofString "_law_sizes",Str.ofString "_law_room",Str.ofString "_law_depth",Str.ofString "_law_x",Str.ofString "_law_kind",Str.ofString "_law_claim_here",Str.ofString "_law_body_here",Str.ofString "_law_top",Str.ofString "_law_more"]) (n:=5) (room:=3*n+4) (g:=ZgD F) (ho:=?ho) (hcd:=?hcd) (nd:=by decide) (hn:=by decide) (hbind:=?hb) (hkinds:=?hk) (hone:=?h1) (hco:=?z1) (hgen:=?z2) (hk:=?z3) (hbody:=?hbody)
  case ho=>k_is
  case z1=>rfl
  case z2=>rfl
  case z3=>rfl
  case hcd=>k_is
  case hb=>intro s xs hx;match xs,hx with | [x0,x1,x2,x3,x4],_=>exact BindsTo.of_eq rfl
  case hk=>decide
  case h1=>decide +kernel
  case hbody=>
   intro dp un gd L outer h₀ hu clr hd1 hu1
   exact(Zv (ZV (sto_loc (by decide) (by rfl) rfl rfl) (ZG clr (nm_def clr (by k_is) rfl rfl rfl rfl) (by k_is) ZaD (by omega) (by omega) (Zf (Ze (rd_loc (by rfl) rfl rfl rfl)) (Zf (J.int _ _ _) Zq)))) (Zv (ZV (sto_loc (by decide) (by rfl) rfl rfl) (ZG clr (nm_def clr (by k_is) rfl rfl rfl rfl) (by k_is) ZhM (by omega) (by omega) (Zf (Ze (rd_loc (by rfl) rfl rfl rfl)) (Zf (ZB (Ze (rd_loc (by rfl) rfl rfl rfl)) (J.int _ _ _)) Zq)))) (Zv (ZV (sto_loc (by decide) (by rfl) rfl rfl) (ZG clr (nm_def clr (by k_is) rfl rfl rfl rfl) (by k_is) ih (by omega) (by omega) (Zf (Ze (rd_loc (by rfl) rfl rfl rfl)) (Zf (Ze (rd_loc (by rfl) rfl rfl rfl)) (Zf (Ze (rd_loc (by rfl) rfl rfl rfl)) (Zf (ZP (Ze (rd_loc (by rfl) rfl rfl rfl)) (J.int _ _ _) ok_sub) (Zf (ZG clr (nm_def clr (by k_is) rfl rfl rfl rfl) (by k_is) ZaD (by omega) (by omega) (Zf (Ze (rd_loc (by rfl) rfl rfl rfl)) (Zf (J.int _ _ _) Zq))) Zq))))))) (Zv (Zan (Zca (Zbb (Zal (Ze (rd_loc (by rfl) rfl rfl rfl)) (J.int _ _ _) ok_eq) (Zbb (Zal (ZB (Ze (rd_loc (by rfl) rfl rfl rfl)) (J.int _ _ _)) (J.int _ _ _) ok_eq) Zdg))) (ZC (ZU (J.tup (Zf (J.str _ _ _) (Zf (Ze (rd_loc (by rfl) rfl rfl rfl)) (Zf (Ze (rd_loc (by rfl) rfl rfl rfl)) (Zf (ZG clr (nm_def clr (by k_is) rfl rfl rfl rfl) (by k_is) ih (by omega) (by omega) (Zf (Ze (rd_loc (by rfl) rfl rfl rfl)) (Zf (Ze (rd_loc (by rfl) rfl rfl rfl)) (Zf (Ze (rd_loc (by rfl) rfl rfl rfl)) (Zf (ZP (Ze (rd_loc (by rfl) rfl rfl rfl)) (J.int _ _ _) ok_sub) (Zf (ZG clr (nm_def clr (by k_is) rfl rfl rfl rfl) (by k_is) ZaD (by omega) (by omega) (Zf (Ze (rd_loc (by rfl) rfl rfl rfl)) (Zf (J.int _ _ _) Zq))) Zq)))))) Zq))))))) Zat) (Zv (S1.put (ZP (ZB (Ze (rd_loc (by rfl) rfl rfl rfl)) (J.int _ _ _)) (J.int _ _ _) ok_sub) (Ze (rd_loc (by rfl) rfl rfl rfl)) (J.int _ _ _)) (Zv (Zan (Zca (Zdd (Zal (Ze (rd_loc (by rfl) rfl rfl rfl)) (J.int _ _ _) ok_eq) (Zdd (Zal (Ze (rd_loc (by rfl) rfl rfl rfl)) (J.int _ _ _) ok_gt) ZgK))) (Zv (ZV (sto_loc (by decide) (by rfl) rfl rfl) (ZP (J.list (Zf (Zhz (ZG clr (nm_def clr (by k_is) rfl rfl rfl rfl) (by k_is) ZaD (by omega) (by omega) (Zf (Ze (rd_loc (by rfl) rfl rfl rfl)) (Zf (J.int _ _ _) Zq))) Zhn) Zq)) (ZP (J.list (Zf (J.int _ _ _) Zq)) (ZB (Ze (rd_loc (by rfl) rfl rfl rfl)) (J.int _ _ _)) Zec) Zax)) (Zv (S1.put (J.int _ _ _) (Ze (rd_loc (by rfl) rfl rfl rfl)) (Ze (rd_loc (by rfl) rfl rfl rfl))) (Zv (ZV (sto_loc (by decide) (by rfl) rfl rfl) (ZP (J.list (Zf (ZP (J.int _ _ _) (ZG clr (nm_def clr (by k_is) rfl rfl rfl rfl) (by k_is) ZaD (by omega) (by omega) (Zf (Ze (rd_loc (by rfl) rfl rfl rfl)) (Zf (J.int _ _ _) Zq))) Zax) Zq)) (ZP (J.list (Zf (J.int _ _ _) Zq)) (ZB (Ze (rd_loc (by rfl) rfl rfl rfl)) (J.int _ _ _)) Zec) Zax)) (Zv (S1.put (J.int _ _ _) (Ze (rd_loc (by rfl) rfl rfl rfl)) (Ze (rd_loc (by rfl) rfl rfl rfl))) (ZC (ZU (J.tup (Zf (J.str _ _ _) (Zf (J.tup (Zf (J.str _ _ _) (Zf (Ze (rd_loc (by rfl) rfl rfl rfl)) Zq))) (Zf (ZP (Ze (rd_loc (by rfl) rfl rfl rfl)) (J.list (Zf (J.tup (Zf (J.str _ _ _) (Zf (Ze (rd_loc (by rfl) rfl rfl rfl)) (Zf (Ze (rd_loc (by rfl) rfl rfl rfl)) Zq)))) Zq)) Zax) Zq)))))))))) Zat) (ZC (ZU (J.tup (Zf (J.str _ _ _) (Zf (Ze (rd_loc (by rfl) rfl rfl rfl)) (Zf (Ze (rd_loc (by rfl) rfl rfl rfl)) Zq))))))))))))
theorem ZjI(n:Nat)(ih:Def PySem.Challenge.rw_seer_k74_sayings.row.prog w (head.heap_39 w.params) head.view_39 (looseW head.view_39 []) (ExcName.means s₀.heap) mg mb 150 (3*n+4) F): Def PySem.Challenge.rw_seer_k74_sayings.row.prog w (head.heap_39 w.params) head.view_39 (looseW head.view_39 []) (ExcName.means s₀.heap) mg mb 162 (3*n+6) (ZeG F):=by
  k_fill
  refine' Def.of (names:=[Str.ofString "_law_tape",Str.ofString "_law_sizes",Str.ofString "_law_room",Str.ofString "_law_depth",Str.ofString "_law_many",Str.ofString "_law_kind",Str.ofString "_law_x",Str.ofString "_law_f"]) (n:=4) (room:=3*n+5) (g:=Zf7 F) (ho:=?ho) (hcd:=?hcd) (nd:=by decide) (hn:=by decide) (hbind:=?hb) (hkinds:=?hk) (hone:=?h1) (hco:=?z1) (hgen:=?z2) (hk:=?z3) (hbody:=?hbody)
  case ho=>k_is
  case z1=>rfl
  case z2=>rfl
  case z3=>rfl
  case hcd=>k_is
  case hb=>intro s xs hx;match xs,hx with | [x0,x1,x2,x3],_=>exact BindsTo.of_eq rfl
  case hk=>decide
  case h1=>decide +kernel
  case hbody=>
   intro dp un gd L outer h₀ hu clr hd1 hu1
   exact(Zv (ZV (Ziy (by decide) (by rfl) rfl rfl rfl) (ZB (Ze (rd_loc (by rfl) rfl rfl rfl)) (J.int _ _ _))) (Zv (ZV (sto_loc (by decide) (by rfl) rfl rfl) (ZG clr (nm_def clr (by k_is) rfl rfl rfl rfl) (by k_is) ZaD (by omega) (by omega) (Zf (Ze (rd_cel (by rfl) rfl rfl rfl)) (Zf (J.int _ _ _) Zq)))) (Zv (ZV (sto_loc (by decide) (by rfl) rfl rfl) (J.int _ _ _)) (Zv (Zan (Zal (ZB (Ze (rd_loc (by rfl) rfl rfl rfl)) (J.int _ _ _)) (Ze (rd_cel (by rfl) rfl rfl rfl)) Zek) (ZC (ZV (sto_loc (by decide) (by rfl) rfl rfl) (ZP (ZP (ZB (Ze (rd_loc (by rfl) rfl rfl rfl)) (J.int _ _ _)) (J.int _ _ _) Zax) (ZG clr (nm_def clr (by k_is) rfl rfl rfl rfl) (by k_is) ZaD (by omega) (by omega) (Zf (Ze (rd_cel (by rfl) rfl rfl rfl)) (Zf (ZP (Ze (rd_cel (by rfl) rfl rfl rfl)) (ZB (Ze (rd_loc (by rfl) rfl rfl rfl)) (J.int _ _ _)) ok_sub) Zq))) Zax))) Zat) (Zv (Zan (Zca (Zdd (Zal (Ze (rd_loc (by rfl) rfl rfl rfl)) (J.int _ _ _) Zek) (Zdd (Zal (Ze (rd_loc (by rfl) rfl rfl rfl)) (J.int _ _ _) ok_gt) ZgK))) (ZC (ZU (ZG clr (nm_def clr (by k_is) rfl rfl rfl rfl) (by k_is) (Zkg n ih) (by omega) (by omega) (Zf (Ze (rd_cel (by rfl) rfl rfl rfl)) (Zf (Ze (rd_loc (by rfl) rfl rfl rfl)) (Zf (Ze (rd_loc (by rfl) rfl rfl rfl)) (Zf (Ze (rd_loc (by rfl) rfl rfl rfl)) (Zf (Ze (rd_loc (by rfl) rfl rfl rfl)) Zq)))))))) Zat) (Zv (Zan (Zca (Zbb (Zal (Ze (rd_loc (by rfl) rfl rfl rfl)) (J.int _ _ _) ok_eq) (Zbb (Zal (Ze (rd_loc (by rfl) rfl rfl rfl)) (J.int _ _ _) ok_eq) Zdg))) (ZC (ZU (J.tup (Zf (J.str _ _ _) (Zf (ZG clr (nm_def clr (by k_is) rfl rfl rfl rfl) (by k_is) ZhM (by omega) (by omega) (Zf (Ze (rd_cel (by rfl) rfl rfl rfl)) (Zf (Ze (rd_cel (by rfl) rfl rfl rfl)) Zq))) Zq))))) Zat) (Zv (Zan (Zca (Zdd (Zal (Ze (rd_loc (by rfl) rfl rfl rfl)) (J.int _ _ _) ok_eq) (Zdd (Zal (Zbu (nm_built clr (by k_is) (by boot_by_name) (by decide) rfl rfl rfl rfl rfl) (Zf (ZB (Ze (rd_loc (by rfl) rfl rfl rfl)) (J.int _ _ _)) Zq) ZbR) (J.int _ _ _) ok_gt) ZgK))) (Zv (ZV (sto_loc (by decide) (by rfl) rfl rfl) (ZG clr (nm_def clr (by k_is) rfl rfl rfl rfl) (by k_is) ZaD (by omega) (by omega) (Zf (Ze (rd_cel (by rfl) rfl rfl rfl)) (Zf (Zbu (nm_built clr (by k_is) (by boot_by_name) (by decide) rfl rfl rfl rfl rfl) (Zf (ZB (Ze (rd_loc (by rfl) rfl rfl rfl)) (J.int _ _ _)) Zq) ZbR) Zq)))) (ZC (ZU (J.tup (Zf (J.str _ _ _) (Zf (Ze (rd_loc (by rfl) rfl rfl rfl)) (Zf (Ze (rd_loc (by rfl) rfl rfl rfl)) (Zf (by refine J.comp (t:=100) (hclos:=by with_unfolding_all rfl) (hg:=?pg100) (hel:=?pe100) (hif:=?pi100) (hcell:=by decide) (hkind:=rfl) (hnames:=by decide) (hx:=rfl);(case pg100=>exact(JI.range (nm_built clr (by k_is) (by boot_by_name) (by decide) rfl rfl rfl rfl rfl) (Zf (ZB (ZB (Ze (rd_loc (by rfl) rfl rfl rfl)) (J.int _ _ _)) (Ze (rd_loc (by rfl) rfl rfl rfl))) Zq)));(case pe100=>intro C ρ;exact(ZG (Clr.comp clr) (nm_def (Clr.comp clr) (by k_is) rfl rfl rfl rfl) (by k_is) law_sum_v61_d (by omega) (by omega) (Zf (Ze (rdc_cel (by rfl) rfl (by decide) rfl rfl rfl rfl)) (Zf (Ze (rdc_cel (by rfl) rfl (by decide) rfl rfl rfl rfl)) Zq))));(case pi100=>intro C ρ;exact JF.nil)) Zq)))))))) Zat) (Zv (Zan (Zal (Ze (rd_loc (by rfl) rfl rfl rfl)) (J.int _ _ _) ok_eq) (ZC (ZU (ZG clr (nm_def clr (by k_is) rfl rfl rfl rfl) (by k_is) law_any_d (by omega) (by omega) (Zf (Ze (rd_cel (by rfl) rfl rfl rfl)) (Zf (Ze (rd_loc (by rfl) rfl rfl rfl)) Zq))))) Zat) (Zv (Zan (Zal (Ze (rd_loc (by rfl) rfl rfl rfl)) (J.int _ _ _) ok_gt) (ZC (ZU (J.tup (Zf (ZB (J.list (Zf (J.str _ _ _) (Zf (J.str _ _ _) Zq))) (ZP (Ze (rd_loc (by rfl) rfl rfl rfl)) (J.int _ _ _) ok_sub)) (Zf (Ze (rd_loc (by rfl) rfl rfl rfl)) (Zf (ZG clr (nm_def clr (by k_is) rfl rfl rfl rfl) (by k_is) law_sum_v61_d (by omega) (by omega) (Zf (Ze (rd_cel (by rfl) rfl rfl rfl)) (Zf (Ze (rd_cel (by rfl) rfl rfl rfl)) Zq))) (Zf (ZG clr (nm_def clr (by k_is) rfl rfl rfl rfl) (by k_is) law_step_v61_d (by omega) (by omega) (Zf (Ze (rd_cel (by rfl) rfl rfl rfl)) Zq)) Zq))))))) Zat) (ZC (ZU (J.tup (Zf (J.str _ _ _) (Zf (Ze (rd_loc (by rfl) rfl rfl rfl)) (Zf (ZG clr (nm_def clr (by k_is) rfl rfl rfl rfl) (by k_is) law_sum_v61_d (by omega) (by omega) (Zf (Ze (rd_cel (by rfl) rfl rfl rfl)) (Zf (Ze (rd_cel (by rfl) rfl rfl rfl)) Zq))) Zq)))))))))))))))
theorem ZhX: ∀n:Nat,Def PySem.Challenge.rw_seer_k74_sayings.row.prog w (head.heap_39 w.params) head.view_39 (looseW head.view_39 []) (ExcName.means s₀.heap) mg mb 150 (3*n+4) (ZcK n)
 | 0=>Zd3
 | n+1=>by
  have ih:=ZhX n
  k_fill
  have e0:3*(n+1)+4=(3*n+6)+1:=by omega
  rw[e0]
  refine' Def.of (names:=[Str.ofString "_law_tape",Str.ofString "_law_sizes",Str.ofString "_law_room",Str.ofString "_law_depth",Str.ofString "_law_count",Str.ofString "_law_body_here",Str.ofString "_law_k"]) (n:=5) (room:=3*n+6) (g:=ZgG (ZcK n)) (ho:=?ho) (hcd:=?hcd) (nd:=by decide) (hn:=by decide) (hbind:=?hb) (hkinds:=?hk) (hone:=?h1) (hco:=?z1) (hgen:=?z2) (hk:=?z3) (hbody:=?hbody)
  case ho=>k_is
  case z1=>rfl
  case z2=>rfl
  case z3=>rfl
  case hcd=>k_is
  case hb=>intro s xs hx;match xs,hx with | [x0,x1,x2,x3,x4],_=>exact BindsTo.of_eq rfl
  case hk=>decide
  case h1=>decide +kernel
  case hbody=>
   intro dp un gd L outer h₀ hu clr hd1 hu1
   exact(Zv (ZV (sto_loc (by decide) (by rfl) rfl rfl) (J.list Zq)) (Zv (ZbS (sto_loc (by decide) (by rfl) rfl rfl) (JI.range (nm_built clr (by k_is) (by boot_by_name) (by decide) rfl rfl rfl rfl rfl) (Zf (Ze (rd_loc (by rfl) rfl rfl rfl)) Zq)) (ZC (Zan (Zal (ZB (Ze (rd_loc (by rfl) rfl rfl rfl)) (J.int _ _ _)) (J.int _ _ _) ok_gt) (Zv (S1.put (ZP (ZB (Ze (rd_loc (by rfl) rfl rfl rfl)) (J.int _ _ _)) (J.int _ _ _) ok_sub) (Ze (rd_loc (by rfl) rfl rfl rfl)) (J.int _ _ _)) (ZC (Za2 (J.append (Ze (rd_loc (by rfl) rfl rfl rfl)) (ZG clr (nm_def clr (by k_is) rfl rfl rfl rfl) (by k_is) (ZjI n ih) (by omega) (by omega) (Zf (Ze (rd_loc (by rfl) rfl rfl rfl)) (Zf (Ze (rd_loc (by rfl) rfl rfl rfl)) (Zf (Ze (rd_loc (by rfl) rfl rfl rfl)) (Zf (Ze (rd_loc (by rfl) rfl rfl rfl)) Zq))))))))) Zat))) (ZC (ZU (Ze (rd_loc (by rfl) rfl rfl rfl))))))
theorem Zkh: Def PySem.Challenge.rw_seer_k74_sayings.row.prog w (head.heap_39 w.params) head.view_39 (looseW head.view_39 []) (ExcName.means s₀.heap) mg mb 150 31 ZeT:=ZhX 9
theorem law_program_v74_d: Def PySem.Challenge.rw_seer_k74_sayings.row.prog w (head.heap_39 w.params) head.view_39 (looseW head.view_39 []) (ExcName.means s₀.heap) mg mb 169 32 ZeC:=by
  k_fill
  refine' Def.of (names:=[Str.ofString "_law_tape",Str.ofString "_law_program_here",Str.ofString "_law_params",Str.ofString "_law_f",Str.ofString "_law_p",Str.ofString "_law_many",Str.ofString "_law_room",Str.ofString "_law_count"]) (n:=1) (room:=31) (g:=ZfW) (ho:=?ho) (hcd:=?hcd) (nd:=by decide) (hn:=by decide) (hbind:=?hb) (hkinds:=?hk) (hone:=?h1) (hco:=?z1) (hgen:=?z2) (hk:=?z3) (hbody:=?hbody)
  case ho=>k_is
  case z1=>rfl
  case z2=>rfl
  case z3=>rfl
  case hcd=>k_is
  case hb=>intro s xs hx;match xs,hx with | [x0],_=>exact BindsTo.of_eq rfl
  case hk=>decide
  case h1=>decide +kernel
  case hbody=>
   intro dp un gd L outer h₀ hu clr hd1 hu1
   exact(Zv (ZV (sto_loc (by decide) (by rfl) rfl rfl) (J.list Zq)) (Zv (ZV (sto_loc (by decide) (by rfl) rfl rfl) (J.list Zq)) (Zv (ZbS (sto_loc (by decide) (by rfl) rfl rfl) (JI.range (nm_built clr (by k_is) (by boot_by_name) (by decide) rfl rfl rfl rfl rfl) (Zf (ZP (J.int _ _ _) (ZG clr (nm_def clr (by k_is) rfl rfl rfl rfl) (by k_is) ZaD (by omega) (by omega) (Zf (Ze (rd_loc (by rfl) rfl rfl rfl)) (Zf (J.int _ _ _) Zq))) Zax) Zq)) (Zv (ZV (sto_loc (by decide) (by rfl) rfl rfl) (ZG clr (nm_def clr (by k_is) rfl rfl rfl rfl) (by k_is) ZaD (by omega) (by omega) (Zf (Ze (rd_loc (by rfl) rfl rfl rfl)) (Zf (J.int _ _ _) Zq)))) (Zv (ZV (sto_loc (by decide) (by rfl) rfl rfl) (Zbu (nm_built clr (by k_is) (by boot_by_name) (by decide) rfl rfl rfl rfl rfl) (Zf (Ze (rd_loc (by rfl) rfl rfl rfl)) (Zf (ZP (J.int _ _ _) (ZG clr (nm_def clr (by k_is) rfl rfl rfl rfl) (by k_is) ZaD (by omega) (by omega) (Zf (Ze (rd_loc (by rfl) rfl rfl rfl)) (Zf (J.int _ _ _) Zq))) Zax) Zq)) Zlc)) (Zv (ZV (sto_loc (by decide) (by rfl) rfl rfl) (ZB (J.list (Zf (J.list (Zf (J.int _ _ _) (Zf (J.int _ _ _) Zq))) (Zf (J.list (Zf (J.int _ _ _) (Zf (J.int _ _ _) Zq))) (Zf (J.list (Zf (J.int _ _ _) (Zf (J.int _ _ _) Zq))) Zq)))) (ZG clr (nm_def clr (by k_is) rfl rfl rfl rfl) (by k_is) ZaD (by omega) (by omega) (Zf (Ze (rd_loc (by rfl) rfl rfl rfl)) (Zf (J.int _ _ _) Zq))))) (Zv (ZV (sto_loc (by decide) (by rfl) rfl rfl) (ZP (J.int _ _ _) (ZG clr (nm_def clr (by k_is) rfl rfl rfl rfl) (by k_is) ZaD (by omega) (by omega) (Zf (Ze (rd_loc (by rfl) rfl rfl rfl)) (Zf (J.int _ _ _) Zq))) Zax)) (Zv (Za2 (J.append (Ze (rd_loc (by rfl) rfl rfl rfl)) (J.tup (Zf (Ze (rd_loc (by rfl) rfl rfl rfl)) (Zf (Ze (rd_loc (by rfl) rfl rfl rfl)) (Zf (ZG clr (nm_def clr (by k_is) rfl rfl rfl rfl) (by k_is) Zkh (by omega) (by omega) (Zf (Ze (rd_loc (by rfl) rfl rfl rfl)) (Zf (J.tup (Zf (Ze (rd_loc (by rfl) rfl rfl rfl)) (Zf (Ze (rd_loc (by rfl) rfl rfl rfl)) (Zf (Ze (rd_loc (by rfl) rfl rfl rfl)) Zq)))) (Zf (Ze (rd_loc (by rfl) rfl rfl rfl)) (Zf (J.int _ _ _) (Zf (Ze (rd_loc (by rfl) rfl rfl rfl)) Zq)))))) Zq)))))) (ZC (ZV (sto_loc (by decide) (by rfl) rfl rfl) (ZP (Ze (rd_loc (by rfl) rfl rfl rfl)) (J.list (Zf (Ze (rd_loc (by rfl) rfl rfl rfl)) Zq)) Zax))))))))) (ZC (ZU (Ze (rd_loc (by rfl) rfl rfl rfl)))))))
theorem ZhN: ∀n:Nat,Def PySem.Challenge.rw_seer_k74_sayings.row.prog w (head.heap_39 w.params) head.view_39 (looseW head.view_39 []) (ExcName.means s₀.heap) mg mb 174 (1*n+0) (Zc9 n)
 | 0=>Zd3
 | n+1=>by
  have ih:=ZhN n
  k_fill
  have e0:1*(n+1)+0=(1*n+0)+1:=by omega
  rw[e0]
  refine' Def.of (names:=[Str.ofString "_law_thing"]) (n:=1) (room:=1*n+0) (g:=Zgj (Zc9 n)) (ho:=?ho) (hcd:=?hcd) (nd:=by decide) (hn:=by decide) (hbind:=?hb) (hkinds:=?hk) (hone:=?h1) (hco:=?z1) (hgen:=?z2) (hk:=?z3) (hbody:=?hbody)
  case ho=>k_is
  case z1=>rfl
  case z2=>rfl
  case z3=>rfl
  case hcd=>k_is
  case hb=>intro s xs hx;match xs,hx with | [x0],_=>exact BindsTo.of_eq rfl
  case hk=>decide
  case h1=>decide +kernel
  case hbody=>
   intro dp un gd L outer h₀ hu clr hd1 hu1
   exact(Zv (Zan (JT.val (ZbO (nm_built clr (by k_is) (by boot_by_name) (by decide) rfl rfl rfl rfl rfl) (nm_built clr (by k_is) (by boot_by_name) (by decide) rfl rfl rfl rfl rfl) (.inr (.inr (.inl rfl))) (Ze (rd_loc (by rfl) rfl rfl rfl)))) (ZC (ZU (by refine J.comp (t:=100) (hclos:=by with_unfolding_all rfl) (hg:=?pg100) (hel:=?pe100) (hif:=?pi100) (hcell:=by decide) (hkind:=rfl) (hnames:=by decide) (hx:=rfl);(case pg100=>exact(JI.seq (Ze (rd_loc (by rfl) rfl rfl rfl))));(case pe100=>intro C ρ;exact(ZG (Clr.comp clr) (nm_def (Clr.comp clr) (by k_is) rfl rfl rfl rfl) (by k_is) ih (by omega) (by omega) (Zf (Ze (rdc_own Zz5 rfl rfl rfl)) Zq)));(case pi100=>intro C ρ;exact JF.nil)))) Zat) (Zv (Zan (JT.val (ZbO (nm_built clr (by k_is) (by boot_by_name) (by decide) rfl rfl rfl rfl rfl) (nm_built clr (by k_is) (by boot_by_name) (by decide) rfl rfl rfl rfl rfl) (.inr (.inr (.inr rfl))) (Ze (rd_loc (by rfl) rfl rfl rfl)))) (ZC (ZU (Zg9 (nm_built clr (by k_is) (by boot_by_name) (by decide) rfl rfl rfl rfl rfl) (Zf (by refine J.comp (t:=102) (hclos:=by with_unfolding_all rfl) (hg:=?pg102) (hel:=?pe102) (hif:=?pi102) (hcell:=by decide) (hkind:=rfl) (hnames:=by decide) (hx:=rfl);(case pg102=>exact(JI.seq (Ze (rd_loc (by rfl) rfl rfl rfl))));(case pe102=>intro C ρ;exact(ZG (Clr.comp clr) (nm_def (Clr.comp clr) (by k_is) rfl rfl rfl rfl) (by k_is) ih (by omega) (by omega) (Zf (Ze (rdc_own Zz5 rfl rfl rfl)) Zq)));(case pi102=>intro C ρ;exact JF.nil)) Zq) ok_tuple1))) Zat) (ZC (ZU (Ze (rd_loc (by rfl) rfl rfl rfl))))))
theorem law_copy_v61_d: Def PySem.Challenge.rw_seer_k74_sayings.row.prog w (head.heap_39 w.params) head.view_39 (looseW head.view_39 []) (ExcName.means s₀.heap) mg mb 174 24 Zgk:=ZhN 24
theorem ZhR: ∀n:Nat,Def PySem.Challenge.rw_seer_k74_sayings.row.prog w (head.heap_39 w.params) head.view_39 (looseW head.view_39 []) (ExcName.means s₀.heap) mg mb 181 (1*n+0) (Zdc n)
 | 0=>Zd3
 | n+1=>by
  have ih:=ZhR n
  k_fill
  have e0:1*(n+1)+0=(1*n+0)+1:=by omega
  rw[e0]
  refine' Def.of (names:=[Str.ofString "_law_body_here",Str.ofString "_law_at",Str.ofString "_law_last",Str.ofString "_law_some",Str.ofString "_law_one"]) (n:=4) (room:=1*n+0) (g:=Zgu (Zdc n)) (ho:=?ho) (hcd:=?hcd) (nd:=by decide) (hn:=by decide) (hbind:=?hb) (hkinds:=?hk) (hone:=?h1) (hco:=?z1) (hgen:=?z2) (hk:=?z3) (hbody:=?hbody)
  case ho=>k_is
  case z1=>rfl
  case z2=>rfl
  case z3=>rfl
  case hcd=>k_is
  case hb=>intro s xs hx;match xs,hx with | [x0,x1,x2,x3],_=>exact BindsTo.of_eq rfl
  case hk=>decide
  case h1=>decide +kernel
  case hbody=>
   intro dp un gd L outer h₀ hu clr hd1 hu1
   exact(ZC (ZbS (sto_loc (by decide) (by rfl) rfl rfl) (JI.seq (Ze (rd_loc (by rfl) rfl rfl rfl))) (Zv (S1.put (ZP (ZB (Ze (rd_loc (by rfl) rfl rfl rfl)) (J.int _ _ _)) (J.int _ _ _) Zax) (Ze (rd_loc (by rfl) rfl rfl rfl)) (J.int _ _ _)) (Zv (Zan (Zal (ZB (Ze (rd_loc (by rfl) rfl rfl rfl)) (J.int _ _ _)) (J.str _ _ _) ok_eq) (Zv (Za2 (ZG clr (nm_def clr (by k_is) rfl rfl rfl rfl) (by k_is) ih (by omega) (by omega) (Zf (ZB (Ze (rd_loc (by rfl) rfl rfl rfl)) (J.int _ _ _)) (Zf (ZB (Ze (rd_loc (by rfl) rfl rfl rfl)) (J.int _ _ _)) (Zf (Ze (rd_loc (by rfl) rfl rfl rfl)) (Zf (Ze (rd_loc (by rfl) rfl rfl rfl)) Zq)))))) (Zv (S1.put (ZP (ZB (Ze (rd_loc (by rfl) rfl rfl rfl)) (J.int _ _ _)) (J.int _ _ _) Zax) (Ze (rd_loc (by rfl) rfl rfl rfl)) (J.int _ _ _)) (Zv (Za2 (ZG clr (nm_def clr (by k_is) rfl rfl rfl rfl) (by k_is) ih (by omega) (by omega) (Zf (ZB (Ze (rd_loc (by rfl) rfl rfl rfl)) (J.int _ _ _)) (Zf (ZB (Ze (rd_loc (by rfl) rfl rfl rfl)) (J.int _ _ _)) (Zf (Ze (rd_loc (by rfl) rfl rfl rfl)) (Zf (Ze (rd_loc (by rfl) rfl rfl rfl)) Zq)))))) (ZC (S1.put (ZP (ZB (Ze (rd_loc (by rfl) rfl rfl rfl)) (J.int _ _ _)) (J.int _ _ _) Zax) (Ze (rd_loc (by rfl) rfl rfl rfl)) (J.int _ _ _)))))) (ZC (Zan (Zal (ZB (Ze (rd_loc (by rfl) rfl rfl rfl)) (J.int _ _ _)) (J.str _ _ _) ok_eq) (Zv (S1.put (ZP (ZB (Ze (rd_loc (by rfl) rfl rfl rfl)) (J.int _ _ _)) (J.int _ _ _) Zax) (Ze (rd_loc (by rfl) rfl rfl rfl)) (J.int _ _ _)) (Zv (Za2 (ZG clr (nm_def clr (by k_is) rfl rfl rfl rfl) (by k_is) ih (by omega) (by omega) (Zf (ZB (Ze (rd_loc (by rfl) rfl rfl rfl)) (J.int _ _ _)) (Zf (ZB (Ze (rd_loc (by rfl) rfl rfl rfl)) (J.int _ _ _)) (Zf (Ze (rd_loc (by rfl) rfl rfl rfl)) (Zf (Ze (rd_loc (by rfl) rfl rfl rfl)) Zq)))))) (ZC (S1.put (ZP (ZB (Ze (rd_loc (by rfl) rfl rfl rfl)) (J.int _ _ _)) (J.int _ _ _) Zax) (Ze (rd_loc (by rfl) rfl rfl rfl)) (J.int _ _ _))))) (ZC (Zan (Zal (ZB (Ze (rd_loc (by rfl) rfl rfl rfl)) (J.int _ _ _)) (J.str _ _ _) ok_eq) (ZC (Za2 (J.append (Ze (rd_loc (by rfl) rfl rfl rfl)) (J.tup (Zf (Ze (rd_loc (by rfl) rfl rfl rfl)) (Zf (ZB (Ze (rd_loc (by rfl) rfl rfl rfl)) (J.int _ _ _)) Zq)))))) Zat))))) (ZC (ZV (sto_loc (by decide) (by rfl) rfl rfl) (ZB (Ze (rd_loc (by rfl) rfl rfl rfl)) (J.int _ _ _))))))))
theorem ZjR: Def PySem.Challenge.rw_seer_k74_sayings.row.prog w (head.heap_39 w.params) head.view_39 (looseW head.view_39 []) (ExcName.means s₀.heap) mg mb 181 24 ZdT:=ZhR 24
theorem law_due_v74_d: Def PySem.Challenge.rw_seer_k74_sayings.row.prog w (head.heap_39 w.params) head.view_39 (looseW head.view_39 []) (ExcName.means s₀.heap) mg mb 188 25 ZeN:=by
  k_fill
  refine' Def.of (names:=[Str.ofString "_law_program_here",Str.ofString "_law_due_here",Str.ofString "_law_f",Str.ofString "_law_some",Str.ofString "_law_one"]) (n:=1) (room:=24) (g:=Zgv) (ho:=?ho) (hcd:=?hcd) (nd:=by decide) (hn:=by decide) (hbind:=?hb) (hkinds:=?hk) (hone:=?h1) (hco:=?z1) (hgen:=?z2) (hk:=?z3) (hbody:=?hbody)
  case ho=>k_is
  case z1=>rfl
  case z2=>rfl
  case z3=>rfl
  case hcd=>k_is
  case hb=>intro s xs hx;match xs,hx with | [x0],_=>exact BindsTo.of_eq rfl
  case hk=>decide
  case h1=>decide +kernel
  case hbody=>
   intro dp un gd L outer h₀ hu clr hd1 hu1
   exact(Zv (ZV (sto_loc (by decide) (by rfl) rfl rfl) (J.list Zq)) (Zv (ZbS (sto_loc (by decide) (by rfl) rfl rfl) (JI.range (nm_built clr (by k_is) (by boot_by_name) (by decide) rfl rfl rfl rfl rfl) (Zf (Zbu (nm_built clr (by k_is) (by boot_by_name) (by decide) rfl rfl rfl rfl rfl) (Zf (Ze (rd_loc (by rfl) rfl rfl rfl)) Zq) ZbR) Zq)) (Zv (ZV (sto_loc (by decide) (by rfl) rfl rfl) (J.list Zq)) (Zv (Za2 (ZG clr (nm_def clr (by k_is) rfl rfl rfl rfl) (by k_is) ZjR (by omega) (by omega) (Zf (ZB (ZB (Ze (rd_loc (by rfl) rfl rfl rfl)) (Ze (rd_loc (by rfl) rfl rfl rfl))) (J.int _ _ _)) (Zf (J.int _ _ _) (Zf (J.list (Zf (J.int _ _ _) Zq)) (Zf (Ze (rd_loc (by rfl) rfl rfl rfl)) Zq)))))) (ZC (ZbS (sto_loc (by decide) (by rfl) rfl rfl) (JI.seq (Ze (rd_loc (by rfl) rfl rfl rfl))) (ZC (Za2 (J.append (Ze (rd_loc (by rfl) rfl rfl rfl)) (J.tup (Zf (Ze (rd_loc (by rfl) rfl rfl rfl)) (Zf (ZB (Ze (rd_loc (by rfl) rfl rfl rfl)) (J.int _ _ _)) (Zf (ZB (Ze (rd_loc (by rfl) rfl rfl rfl)) (J.int _ _ _)) Zq)))))))))))) (ZC (ZU (Ze (rd_loc (by rfl) rfl rfl rfl))))))
theorem ZjN: Def PySem.Challenge.rw_seer_k74_sayings.row.prog w (head.heap_39 w.params) head.view_39 (looseW head.view_39 []) (ExcName.means s₀.heap) mg mb 33 1 Zgm:=by
  k_fill
  refine' Def.of (names:=[Str.ofString "self"]) (n:=1) (room:=0) (g:=Zgl) (ho:=?ho) (hcd:=?hcd) (nd:=by decide) (hn:=by decide) (hbind:=?hb) (hkinds:=?hk) (hone:=?h1) (hco:=?z1) (hgen:=?z2) (hk:=?z3) (hbody:=?hbody)
  case ho=>k_is
  case z1=>rfl
  case z2=>rfl
  case z3=>rfl
  case hcd=>k_is
  case hb=>intro s xs hx;match xs,hx with | [x0],_=>exact BindsTo.of_eq rfl
  case hk=>decide
  case h1=>decide +kernel
  case hbody=>
   intro dp un gd L outer h₀ hu clr hd1 hu1
   exact(Zv (Zhf (Clr.keep clr) (J.list Zq) (Ze (rd_loc (by rfl) rfl rfl rfl)) (by rfl) (by decide) (by decide) (by k_is) (by k_is) (by k_is) (by k_is)) (ZC (Zhf (Clr.keep clr) (J.int _ _ _) (Ze (rd_loc (by rfl) rfl rfl rfl)) (by rfl) (by decide) (by decide) (by k_is) (by k_is) (by k_is) (by k_is))))
theorem Zgy: Def PySem.Challenge.rw_seer_k74_sayings.row.prog w (head.heap_39 w.params) head.view_39 (looseW head.view_39 []) (ExcName.means s₀.heap) mg mb 47 1 ZcL:=by
  k_fill
  refine' Def.of (names:=[Str.ofString "self",Str.ofString "here",Str.ofString "act",Str.ofString "there"]) (n:=4) (room:=0) (g:=ZeQ) (ho:=?ho) (hcd:=?hcd) (nd:=by decide) (hn:=by decide) (hbind:=?hb) (hkinds:=?hk) (hone:=?h1) (hco:=?z1) (hgen:=?z2) (hk:=?z3) (hbody:=?hbody)
  case ho=>k_is
  case z1=>rfl
  case z2=>rfl
  case z3=>rfl
  case hcd=>k_is
  case hb=>intro s xs hx;match xs,hx with | [x0,x1,x2,x3],_=>exact BindsTo.of_eq rfl
  case hk=>decide
  case h1=>decide +kernel
  case hbody=>
   intro dp un gd L outer h₀ hu clr hd1 hu1
   exact(ZC (Za2 (J.append (Zeg (Clr.keep clr) (Ze (rd_loc (by rfl) rfl rfl rfl)) (by rfl) (by decide) (by k_is) (by k_is) (by k_is) (by k_is)) (J.tup (Zf (Ze (rd_loc (by rfl) rfl rfl rfl)) (Zf (Ze (rd_loc (by rfl) rfl rfl rfl)) (Zf (Ze (rd_loc (by rfl) rfl rfl rfl)) Zq)))))))
theorem ZcI: Def PySem.Challenge.rw_seer_k74_sayings.row.prog w (head.heap_39 w.params) head.view_39 (looseW head.view_39 []) (ExcName.means s₀.heap) mg mb 40 2 ZbE:=by
  k_fill
  refine' Def.of (names:=[Str.ofString "self",Str.ofString "here",Str.ofString "act"]) (n:=3) (room:=1) (g:=Zga) (ho:=?ho) (hcd:=?hcd) (nd:=by decide) (hn:=by decide) (hbind:=?hb) (hkinds:=?hk) (hone:=?h1) (hco:=?z1) (hgen:=?z2) (hk:=?z3) (hbody:=?hbody)
  case ho=>k_is
  case z1=>rfl
  case z2=>rfl
  case z3=>rfl
  case hcd=>k_is
  case hb=>intro s xs hx;match xs,hx with | [x0,x1,x2],_=>exact BindsTo.of_eq rfl
  case hk=>decide
  case h1=>decide +kernel
  case hbody=>
   intro dp un gd L outer h₀ hu clr hd1 hu1
   exact(Zv (Zhf (Clr.keep clr) (ZP (Zeg (Clr.keep clr) (Ze (rd_loc (by rfl) rfl rfl rfl)) (by rfl) (by decide) (by k_is) (by k_is) (by k_is) (by k_is)) (J.int _ _ _) Zax) (Ze (rd_loc (by rfl) rfl rfl rfl)) (by rfl) (by decide) (by decide) (by k_is) (by k_is) (by k_is) (by k_is)) (Zv (Za2 (Za3 clr (Ze (rd_loc (by rfl) rfl rfl rfl)) (by k_is) (by k_is) (by k_is) (by decide) (by k_is) Zgy (by omega) (by omega) (Zf (Ze (rd_loc (by rfl) rfl rfl rfl)) (Zf (Ze (rd_loc (by rfl) rfl rfl rfl)) (Zf (Zeg (Clr.keep clr) (Ze (rd_loc (by rfl) rfl rfl rfl)) (by rfl) (by decide) (by k_is) (by k_is) (by k_is) (by k_is)) Zq))))) (ZC (ZU (Zeg (Clr.keep clr) (Ze (rd_loc (by rfl) rfl rfl rfl)) (by rfl) (by decide) (by k_is) (by k_is) (by k_is) (by k_is))))))
theorem Ziv: ∀n:Nat,Def PySem.Challenge.rw_seer_k74_sayings.row.prog w (head.heap_39 w.params) head.view_39 (looseW head.view_39 []) (ExcName.means s₀.heap) mg mb 19 (1*n+0) (Zdi n)
 | 0=>Zd3
 | n+1=>by
  have ih:=Ziv n
  k_fill
  have e0:1*(n+1)+0=(1*n+0)+1:=by omega
  rw[e0]
  refine' Def.of (names:=[Str.ofString "thing"]) (n:=1) (room:=1*n+0) (g:=Zhl (Zdi n)) (ho:=?ho) (hcd:=?hcd) (nd:=by decide) (hn:=by decide) (hbind:=?hb) (hkinds:=?hk) (hone:=?h1) (hco:=?z1) (hgen:=?z2) (hk:=?z3) (hbody:=?hbody)
  case ho=>k_is
  case z1=>rfl
  case z2=>rfl
  case z3=>rfl
  case hcd=>k_is
  case hb=>intro s xs hx;match xs,hx with | [x0],_=>exact BindsTo.of_eq rfl
  case hk=>decide
  case h1=>decide +kernel
  case hbody=>
   intro dp un gd L outer h₀ hu clr hd1 hu1
   exact(Zv (Zan (JT.val (ZbO (nm_built clr (by k_is) (by boot_by_name) (by decide) rfl rfl rfl rfl rfl) (nm_built clr (by k_is) (by boot_by_name) (by decide) rfl rfl rfl rfl rfl) (.inr (.inr (.inl rfl))) (Ze (rd_loc (by rfl) rfl rfl rfl)))) (ZC (ZU (by refine J.comp (t:=100) (hclos:=by with_unfolding_all rfl) (hg:=?pg100) (hel:=?pe100) (hif:=?pi100) (hcell:=by decide) (hkind:=rfl) (hnames:=by decide) (hx:=rfl);(case pg100=>exact(JI.seq (Ze (rd_loc (by rfl) rfl rfl rfl))));(case pe100=>intro C ρ;exact(ZG (Clr.comp clr) (nm_def (Clr.comp clr) (by k_is) rfl rfl rfl rfl) (by k_is) ih (by omega) (by omega) (Zf (Ze (rdc_own Zz5 rfl rfl rfl)) Zq)));(case pi100=>intro C ρ;exact JF.nil)))) Zat) (Zv (Zan (JT.val (ZbO (nm_built clr (by k_is) (by boot_by_name) (by decide) rfl rfl rfl rfl rfl) (nm_built clr (by k_is) (by boot_by_name) (by decide) rfl rfl rfl rfl rfl) (.inr (.inr (.inr rfl))) (Ze (rd_loc (by rfl) rfl rfl rfl)))) (ZC (ZU (Zg9 (nm_built clr (by k_is) (by boot_by_name) (by decide) rfl rfl rfl rfl rfl) (Zf (by refine J.comp (t:=102) (hclos:=by with_unfolding_all rfl) (hg:=?pg102) (hel:=?pe102) (hif:=?pi102) (hcell:=by decide) (hkind:=rfl) (hnames:=by decide) (hx:=rfl);(case pg102=>exact(JI.seq (Ze (rd_loc (by rfl) rfl rfl rfl))));(case pe102=>intro C ρ;exact(ZG (Clr.comp clr) (nm_def (Clr.comp clr) (by k_is) rfl rfl rfl rfl) (by k_is) ih (by omega) (by omega) (Zf (Ze (rdc_own Zz5 rfl rfl rfl)) Zq)));(case pi102=>intro C ρ;exact JF.nil)) Zq) ok_tuple1))) Zat) (ZC (ZU (Ze (rd_loc (by rfl) rfl rfl rfl))))))
theorem ZiW: Def PySem.Challenge.rw_seer_k74_sayings.row.prog w (head.heap_39 w.params) head.view_39 (looseW head.view_39 []) (ExcName.means s₀.heap) mg mb 19 24 Zfk:=Ziv 24
theorem ZeW: Def PySem.Challenge.rw_seer_k74_sayings.row.prog w (head.heap_39 w.params) head.view_39 (looseW head.view_39 []) (ExcName.means s₀.heap) mg mb 96 25 Zde:=by
  k_fill
  refine' Def.of (names:=[Str.ofString "claim",Str.ofString "truth"]) (n:=2) (room:=24) (g:=ZgH) (ho:=?ho) (hcd:=?hcd) (nd:=by decide) (hn:=by decide) (hbind:=?hb) (hkinds:=?hk) (hone:=?h1) (hco:=?z1) (hgen:=?z2) (hk:=?z3) (hbody:=?hbody)
  case ho=>k_is
  case z1=>rfl
  case z2=>rfl
  case z3=>rfl
  case hcd=>k_is
  case hb=>intro s xs hx;match xs,hx with | [x0,x1],_=>exact BindsTo.of_eq rfl
  case hk=>decide
  case h1=>decide +kernel
  case hbody=>
   intro dp un gd L outer h₀ hu clr hd1 hu1
   exact(ZC (ZU (J.tup (Zf (J.str _ _ _) (Zf (ZG clr (nm_def clr (by k_is) rfl rfl rfl rfl) (by k_is) ZiW (by omega) (by omega) (Zf (Ze (rd_loc (by rfl) rfl rfl rfl)) Zq)) (Zf (Ze (rd_loc (by rfl) rfl rfl rfl)) Zq))))))
theorem ZjO(n:Nat)(ih:Def PySem.Challenge.rw_seer_k74_sayings.row.prog w (head.heap_39 w.params) head.view_39 (looseW head.view_39 []) (ExcName.means s₀.heap) mg mb 54 (3*n+25) F): Def PySem.Challenge.rw_seer_k74_sayings.row.prog w (head.heap_39 w.params) head.view_39 (looseW head.view_39 []) (ExcName.means s₀.heap) mg mb 68 (3*n+26) (Zgp F):=by
  k_fill
  refine' Def.of (names:=[Str.ofString "self",Str.ofString "statement",Str.ofString "here",Str.ofString "then",Str.ofString "then_end",Str.ofString "other",Str.ofString "other_end",Str.ofString "end"]) (n:=3) (room:=3*n+25) (g:=Zgo F) (ho:=?ho) (hcd:=?hcd) (nd:=by decide) (hn:=by decide) (hbind:=?hb) (hkinds:=?hk) (hone:=?h1) (hco:=?z1) (hgen:=?z2) (hk:=?z3) (hbody:=?hbody)
  case ho=>k_is
  case z1=>rfl
  case z2=>rfl
  case z3=>rfl
  case hcd=>k_is
  case hb=>intro s xs hx;match xs,hx with | [x0,x1,x2],_=>exact BindsTo.of_eq rfl
  case hk=>decide
  case h1=>decide +kernel
  case hbody=>
   intro dp un gd L outer h₀ hu clr hd1 hu1
   exact(Zv (ZV (sto_loc (by decide) (by rfl) rfl rfl) (Za3 clr (Ze (rd_loc (by rfl) rfl rfl rfl)) (by k_is) (by k_is) (by k_is) (by decide) (by k_is) ZcI (by omega) (by omega) (Zf (Ze (rd_loc (by rfl) rfl rfl rfl)) (Zf (ZG clr (nm_def clr (by k_is) rfl rfl rfl rfl) (by k_is) ZeW (by omega) (by omega) (Zf (ZB (Ze (rd_loc (by rfl) rfl rfl rfl)) (J.int _ _ _)) (Zf (J.bool _ _ _) Zq))) Zq)))) (Zv (ZV (sto_loc (by decide) (by rfl) rfl rfl) (Za3 clr (Ze (rd_loc (by rfl) rfl rfl rfl)) (by k_is) (by k_is) (by k_is) (by decide) (by k_is) ih (by omega) (by omega) (Zf (ZB (Ze (rd_loc (by rfl) rfl rfl rfl)) (J.int _ _ _)) (Zf (Ze (rd_loc (by rfl) rfl rfl rfl)) Zq)))) (Zv (ZV (sto_loc (by decide) (by rfl) rfl rfl) (Za3 clr (Ze (rd_loc (by rfl) rfl rfl rfl)) (by k_is) (by k_is) (by k_is) (by decide) (by k_is) ZcI (by omega) (by omega) (Zf (Ze (rd_loc (by rfl) rfl rfl rfl)) (Zf (ZG clr (nm_def clr (by k_is) rfl rfl rfl rfl) (by k_is) ZeW (by omega) (by omega) (Zf (ZB (Ze (rd_loc (by rfl) rfl rfl rfl)) (J.int _ _ _)) (Zf (J.bool _ _ _) Zq))) Zq)))) (Zv (ZV (sto_loc (by decide) (by rfl) rfl rfl) (Za3 clr (Ze (rd_loc (by rfl) rfl rfl rfl)) (by k_is) (by k_is) (by k_is) (by decide) (by k_is) ih (by omega) (by omega) (Zf (ZB (Ze (rd_loc (by rfl) rfl rfl rfl)) (J.int _ _ _)) (Zf (Ze (rd_loc (by rfl) rfl rfl rfl)) Zq)))) (Zv (ZV (sto_loc (by decide) (by rfl) rfl rfl) (Za3 clr (Ze (rd_loc (by rfl) rfl rfl rfl)) (by k_is) (by k_is) (by k_is) (by decide) (by k_is) ZcI (by omega) (by omega) (Zf (Ze (rd_loc (by rfl) rfl rfl rfl)) (Zf (J.tup (Zf (J.str _ _ _) Zq)) Zq)))) (Zv (Za2 (Za3 clr (Ze (rd_loc (by rfl) rfl rfl rfl)) (by k_is) (by k_is) (by k_is) (by decide) (by k_is) Zgy (by omega) (by omega) (Zf (Ze (rd_loc (by rfl) rfl rfl rfl)) (Zf (J.tup (Zf (J.str _ _ _) Zq)) (Zf (Ze (rd_loc (by rfl) rfl rfl rfl)) Zq))))) (ZC (ZU (Ze (rd_loc (by rfl) rfl rfl rfl))))))))))
theorem ZjD(n:Nat)(ih:Def PySem.Challenge.rw_seer_k74_sayings.row.prog w (head.heap_39 w.params) head.view_39 (looseW head.view_39 []) (ExcName.means s₀.heap) mg mb 54 (3*n+25) F): Def PySem.Challenge.rw_seer_k74_sayings.row.prog w (head.heap_39 w.params) head.view_39 (looseW head.view_39 []) (ExcName.means s₀.heap) mg mb 75 (3*n+26) (ZfZ F):=by
  k_fill
  refine' Def.of (names:=[Str.ofString "self",Str.ofString "statement",Str.ofString "here",Str.ofString "head",Str.ofString "again",Str.ofString "again_end"]) (n:=3) (room:=3*n+25) (g:=ZfY F) (ho:=?ho) (hcd:=?hcd) (nd:=by decide) (hn:=by decide) (hbind:=?hb) (hkinds:=?hk) (hone:=?h1) (hco:=?z1) (hgen:=?z2) (hk:=?z3) (hbody:=?hbody)
  case ho=>k_is
  case z1=>rfl
  case z2=>rfl
  case z3=>rfl
  case hcd=>k_is
  case hb=>intro s xs hx;match xs,hx with | [x0,x1,x2],_=>exact BindsTo.of_eq rfl
  case hk=>decide
  case h1=>decide +kernel
  case hbody=>
   intro dp un gd L outer h₀ hu clr hd1 hu1
   exact(Zv (ZV (sto_loc (by decide) (by rfl) rfl rfl) (Za3 clr (Ze (rd_loc (by rfl) rfl rfl rfl)) (by k_is) (by k_is) (by k_is) (by decide) (by k_is) ZcI (by omega) (by omega) (Zf (Ze (rd_loc (by rfl) rfl rfl rfl)) (Zf (J.tup (Zf (J.str _ _ _) Zq)) Zq)))) (Zv (ZV (sto_loc (by decide) (by rfl) rfl rfl) (Za3 clr (Ze (rd_loc (by rfl) rfl rfl rfl)) (by k_is) (by k_is) (by k_is) (by decide) (by k_is) ZcI (by omega) (by omega) (Zf (Ze (rd_loc (by rfl) rfl rfl rfl)) (Zf (ZG clr (nm_def clr (by k_is) rfl rfl rfl rfl) (by k_is) ZeW (by omega) (by omega) (Zf (ZB (Ze (rd_loc (by rfl) rfl rfl rfl)) (J.int _ _ _)) (Zf (J.bool _ _ _) Zq))) Zq)))) (Zv (ZV (sto_loc (by decide) (by rfl) rfl rfl) (Za3 clr (Ze (rd_loc (by rfl) rfl rfl rfl)) (by k_is) (by k_is) (by k_is) (by decide) (by k_is) ih (by omega) (by omega) (Zf (ZB (Ze (rd_loc (by rfl) rfl rfl rfl)) (J.int _ _ _)) (Zf (Ze (rd_loc (by rfl) rfl rfl rfl)) Zq)))) (Zv (Za2 (Za3 clr (Ze (rd_loc (by rfl) rfl rfl rfl)) (by k_is) (by k_is) (by k_is) (by decide) (by k_is) Zgy (by omega) (by omega) (Zf (Ze (rd_loc (by rfl) rfl rfl rfl)) (Zf (J.tup (Zf (J.str _ _ _) Zq)) (Zf (Ze (rd_loc (by rfl) rfl rfl rfl)) Zq))))) (ZC (ZU (Za3 clr (Ze (rd_loc (by rfl) rfl rfl rfl)) (by k_is) (by k_is) (by k_is) (by decide) (by k_is) ZcI (by omega) (by omega) (Zf (Ze (rd_loc (by rfl) rfl rfl rfl)) (Zf (ZG clr (nm_def clr (by k_is) rfl rfl rfl rfl) (by k_is) ZeW (by omega) (by omega) (Zf (ZB (Ze (rd_loc (by rfl) rfl rfl rfl)) (J.int _ _ _)) (Zf (J.bool _ _ _) Zq))) Zq)))))))))
theorem ZjA(n:Nat)(ih:Def PySem.Challenge.rw_seer_k74_sayings.row.prog w (head.heap_39 w.params) head.view_39 (looseW head.view_39 []) (ExcName.means s₀.heap) mg mb 54 (3*n+25) F): Def PySem.Challenge.rw_seer_k74_sayings.row.prog w (head.heap_39 w.params) head.view_39 (looseW head.view_39 []) (ExcName.means s₀.heap) mg mb 61 (3*n+27) (ZfV F):=by
  k_fill
  refine' Def.of (names:=[Str.ofString "self",Str.ofString "statement",Str.ofString "here"]) (n:=3) (room:=3*n+26) (g:=ZfU F) (ho:=?ho) (hcd:=?hcd) (nd:=by decide) (hn:=by decide) (hbind:=?hb) (hkinds:=?hk) (hone:=?h1) (hco:=?z1) (hgen:=?z2) (hk:=?z3) (hbody:=?hbody)
  case ho=>k_is
  case z1=>rfl
  case z2=>rfl
  case z3=>rfl
  case hcd=>k_is
  case hb=>intro s xs hx;match xs,hx with | [x0,x1,x2],_=>exact BindsTo.of_eq rfl
  case hk=>decide
  case h1=>decide +kernel
  case hbody=>
   intro dp un gd L outer h₀ hu clr hd1 hu1
   exact(Zv (Zan (Zal (ZB (Ze (rd_loc (by rfl) rfl rfl rfl)) (J.int _ _ _)) (J.str _ _ _) ok_eq) (ZC (ZU (Za3 clr (Ze (rd_loc (by rfl) rfl rfl rfl)) (by k_is) (by k_is) (by k_is) (by decide) (by k_is) (ZjO n ih) (by omega) (by omega) (Zf (Ze (rd_loc (by rfl) rfl rfl rfl)) (Zf (Ze (rd_loc (by rfl) rfl rfl rfl)) Zq))))) Zat) (Zv (Zan (Zal (ZB (Ze (rd_loc (by rfl) rfl rfl rfl)) (J.int _ _ _)) (J.str _ _ _) ok_eq) (ZC (ZU (Za3 clr (Ze (rd_loc (by rfl) rfl rfl rfl)) (by k_is) (by k_is) (by k_is) (by decide) (by k_is) (ZjD n ih) (by omega) (by omega) (Zf (Ze (rd_loc (by rfl) rfl rfl rfl)) (Zf (Ze (rd_loc (by rfl) rfl rfl rfl)) Zq))))) Zat) (ZC (ZU (Za3 clr (Ze (rd_loc (by rfl) rfl rfl rfl)) (by k_is) (by k_is) (by k_is) (by decide) (by k_is) ZcI (by omega) (by omega) (Zf (Ze (rd_loc (by rfl) rfl rfl rfl)) (Zf (ZG clr (nm_def clr (by k_is) rfl rfl rfl rfl) (by k_is) ZiW (by omega) (by omega) (Zf (Ze (rd_loc (by rfl) rfl rfl rfl)) Zq)) Zq)))))))
theorem ZhG: ∀n:Nat,Def PySem.Challenge.rw_seer_k74_sayings.row.prog w (head.heap_39 w.params) head.view_39 (looseW head.view_39 []) (ExcName.means s₀.heap) mg mb 54 (3*n+25) (Zc8 n)
 | 0=>Zd3
 | n+1=>by
  have ih:=ZhG n
  k_fill
  have e0:3*(n+1)+25=(3*n+27)+1:=by omega
  rw[e0]
  refine' Def.of (names:=[Str.ofString "self",Str.ofString "body",Str.ofString "here",Str.ofString "place",Str.ofString "statement"]) (n:=3) (room:=3*n+27) (g:=Zf3 (Zc8 n)) (ho:=?ho) (hcd:=?hcd) (nd:=by decide) (hn:=by decide) (hbind:=?hb) (hkinds:=?hk) (hone:=?h1) (hco:=?z1) (hgen:=?z2) (hk:=?z3) (hbody:=?hbody)
  case ho=>k_is
  case z1=>rfl
  case z2=>rfl
  case z3=>rfl
  case hcd=>k_is
  case hb=>intro s xs hx;match xs,hx with | [x0,x1,x2],_=>exact BindsTo.of_eq rfl
  case hk=>decide
  case h1=>decide +kernel
  case hbody=>
   intro dp un gd L outer h₀ hu clr hd1 hu1
   exact(Zv (ZV (sto_loc (by decide) (by rfl) rfl rfl) (Ze (rd_loc (by rfl) rfl rfl rfl))) (Zv (ZbS (sto_loc (by decide) (by rfl) rfl rfl) (JI.seq (Ze (rd_loc (by rfl) rfl rfl rfl))) (ZC (ZV (sto_loc (by decide) (by rfl) rfl rfl) (Za3 clr (Ze (rd_loc (by rfl) rfl rfl rfl)) (by k_is) (by k_is) (by k_is) (by decide) (by k_is) (ZjA n ih) (by omega) (by omega) (Zf (Ze (rd_loc (by rfl) rfl rfl rfl)) (Zf (Ze (rd_loc (by rfl) rfl rfl rfl)) Zq)))))) (ZC (ZU (Ze (rd_loc (by rfl) rfl rfl rfl))))))
theorem ZjF: Def PySem.Challenge.rw_seer_k74_sayings.row.prog w (head.heap_39 w.params) head.view_39 (looseW head.view_39 []) (ExcName.means s₀.heap) mg mb 54 52 Zf4:=ZhG 9
theorem ZkB: Def PySem.Challenge.rw_seer_k74_sayings.row.prog w (head.heap_39 w.params) head.view_39 (looseW head.view_39 []) (ExcName.means s₀.heap) mg mb 89 54 Ze2:=by
  k_fill
  refine' Def.of (names:=[Str.ofString "body",Str.ofString "layer"]) (n:=1) (room:=53) (g:=ZgS) (ho:=?ho) (hcd:=?hcd) (nd:=by decide) (hn:=by decide) (hbind:=?hb) (hkinds:=?hk) (hone:=?h1) (hco:=?z1) (hgen:=?z2) (hk:=?z3) (hbody:=?hbody)
  case ho=>k_is
  case z1=>rfl
  case z2=>rfl
  case z3=>rfl
  case hcd=>k_is
  case hb=>intro s xs hx;match xs,hx with | [x0],_=>exact BindsTo.of_eq rfl
  case hk=>decide
  case h1=>decide +kernel
  case hbody=>
   intro dp un gd L outer h₀ hu clr hd1 hu1
   exact(Zv (ZV (sto_loc (by decide) (by rfl) rfl rfl) (ZmE clr (nm_def clr (by k_is) rfl rfl rfl rfl) (by k_is) (by k_is) (by k_is) (by k_is) ZjN (by omega) (by omega))) (Zv (Za2 (Za3 clr (Ze (rd_loc (by rfl) rfl rfl rfl)) (by k_is) (by k_is) (by k_is) (by decide) (by k_is) ZjF (by omega) (by omega) (Zf (Ze (rd_loc (by rfl) rfl rfl rfl)) (Zf (J.int _ _ _) Zq)))) (ZC (ZU (Zeg (Clr.keep clr) (Ze (rd_loc (by rfl) rfl rfl rfl)) (by rfl) (by decide) (by k_is) (by k_is) (by k_is) (by k_is))))))
theorem sayings_d: Def PySem.Challenge.rw_seer_k74_sayings.row.prog w (head.heap_39 w.params) head.view_39 (looseW head.view_39 []) (ExcName.means s₀.heap) mg mb 101 55 Zd0:=by
  k_fill
  refine' Def.of (names:=[Str.ofString "program",Str.ofString "found",Str.ofString "number",Str.ofString "function",Str.ofString "rows"]) (n:=1) (room:=54) (g:=ZgU) (ho:=?ho) (hcd:=?hcd) (nd:=by decide) (hn:=by decide) (hbind:=?hb) (hkinds:=?hk) (hone:=?h1) (hco:=?z1) (hgen:=?z2) (hk:=?z3) (hbody:=?hbody)
  case ho=>k_is
  case z1=>rfl
  case z2=>rfl
  case z3=>rfl
  case hcd=>k_is
  case hb=>intro s xs hx;match xs,hx with | [x0],_=>exact BindsTo.of_eq rfl
  case hk=>decide
  case h1=>decide +kernel
  case hbody=>
   intro dp un gd L outer h₀ hu clr hd1 hu1
   exact(Zv (ZV (sto_loc (by decide) (by rfl) rfl rfl) (J.list Zq)) (Zv (Zlf (Ziy (by decide) (by rfl) rfl rfl rfl) (sto_loc (by decide) (by rfl) rfl rfl) (ZkP (nm_built clr (by k_is) (by boot_by_name) (by decide) rfl rfl rfl rfl rfl) (Ze (rd_loc (by rfl) rfl rfl rfl))) (Zv (ZV (sto_loc (by decide) (by rfl) rfl rfl) (ZG clr (nm_def clr (by k_is) rfl rfl rfl rfl) (by k_is) ZkB (by omega) (by omega) (Zf (ZB (Ze (rd_loc (by rfl) rfl rfl rfl)) (J.int _ _ _)) Zq))) (ZC (Za2 (J.extend (Ze (rd_loc (by rfl) rfl rfl rfl)) (by refine ZlS (t:=100) (t₂:=101) (t₃:=102) (hclos:=by with_unfolding_all rfl) (hg:=?pg100) (hel:=?pe100) (hif:=?pi100) (hcell:=by decide) (hkind:=rfl) (hnames:=by decide) (hx:=rfl) (hx₂:=rfl) (hx₃:=rfl) (hxx:=by decide) (htt:=by decide);(case pg100=>exact(JIL.seq (Ze (rd_loc (by rfl) rfl rfl rfl))));(case pe100=>intro C ρ;exact(J.tup (Zf (Ze (rdc_cel (by rfl) rfl (by decide) rfl rfl rfl rfl)) (Zf (Ze (rdc_own Zz5 rfl rfl rfl)) (Zf (ZB (Ze (rdc_own (Zz2 _ Zz5) rfl rfl rfl)) (J.int _ _ _)) Zq)))));(case pi100=>intro C ρ;exact JF.one (Zal (ZB (Ze (rdc_own (Zz2 _ Zz5) rfl rfl rfl)) (J.int _ _ _)) (J.str _ _ _) ok_eq)))))))) (ZC (ZU (Ze (rd_loc (by rfl) rfl rfl rfl))))))
theorem Zgg: Def PySem.Challenge.rw_seer_k74_sayings.row.prog w (head.heap_39 w.params) head.view_39 (looseW head.view_39 []) (ExcName.means s₀.heap) mg mb 195 1 ZdP:=by
  k_fill
  refine' Def.of (names:=[Str.ofString "_law_one"]) (n:=1) (room:=0) (g:=Zgb) (ho:=?ho) (hcd:=?hcd) (nd:=by decide) (hn:=by decide) (hbind:=?hb) (hkinds:=?hk) (hone:=?h1) (hco:=?z1) (hgen:=?z2) (hk:=?z3) (hbody:=?hbody)
  case ho=>k_is
  case z1=>rfl
  case z2=>rfl
  case z3=>rfl
  case hcd=>k_is
  case hb=>intro s xs hx;match xs,hx with | [x0],_=>exact BindsTo.of_eq rfl
  case hk=>decide
  case h1=>decide +kernel
  case hbody=>
   intro dp un gd L outer h₀ hu clr hd1 hu1
   exact(ZC (ZU (Zjj (ZbO (nm_built clr (by k_is) (by boot_by_name) (by decide) rfl rfl rfl rfl rfl) (nm_built clr (by k_is) (by boot_by_name) (by decide) rfl rfl rfl rfl rfl) (.inl rfl) (Ze (rd_loc (by rfl) rfl rfl rfl))) (ZmX (ZbO (nm_built clr (by k_is) (by boot_by_name) (by decide) rfl rfl rfl rfl rfl) (nm_built clr (by k_is) (by boot_by_name) (by decide) rfl rfl rfl rfl rfl) (.inr (.inl rfl)) (Ze (rd_loc (by rfl) rfl rfl rfl)))))))
theorem law_alike_v74_d: Def PySem.Challenge.rw_seer_k74_sayings.row.prog w (head.heap_39 w.params) head.view_39 (looseW head.view_39 []) (ExcName.means s₀.heap) mg mb 202 2 ZeI:=by
  k_fill
  refine' Def.of (names:=[Str.ofString "_law_came",Str.ofString "_law_due_here",Str.ofString "_law_one",Str.ofString "_law_number_here"]) (n:=2) (room:=1) (g:=Zge) (ho:=?ho) (hcd:=?hcd) (nd:=by decide) (hn:=by decide) (hbind:=?hb) (hkinds:=?hk) (hone:=?h1) (hco:=?z1) (hgen:=?z2) (hk:=?z3) (hbody:=?hbody)
  case ho=>k_is
  case z1=>rfl
  case z2=>rfl
  case z3=>rfl
  case hcd=>k_is
  case hb=>intro s xs hx;match xs,hx with | [x0,x1],_=>exact BindsTo.of_eq rfl
  case hk=>decide
  case h1=>decide +kernel
  case hbody=>
   intro dp un gd L outer h₀ hu clr hd1 hu1
   exact(Zv (Zan (Zca (Zbb (Zct (JT.val (ZbO (nm_built clr (by k_is) (by boot_by_name) (by decide) rfl rfl rfl rfl rfl) (nm_built clr (by k_is) (by boot_by_name) (by decide) rfl rfl rfl rfl rfl) (.inr (.inr (.inl rfl))) (Ze (rd_loc (by rfl) rfl rfl rfl))))) (Zbb (Zal (Zbu (nm_built clr (by k_is) (by boot_by_name) (by decide) rfl rfl rfl rfl rfl) (Zf (Ze (rd_loc (by rfl) rfl rfl rfl)) Zq) ZbR) (Zbu (nm_built clr (by k_is) (by boot_by_name) (by decide) rfl rfl rfl rfl rfl) (Zf (Ze (rd_loc (by rfl) rfl rfl rfl)) Zq) ZbR) ok_ne) Zdg))) (ZC (ZU (J.bool _ _ _))) Zat) (Zv (ZbS (sto_loc (by decide) (by rfl) rfl rfl) (JI.seq (Ze (rd_loc (by rfl) rfl rfl rfl))) (Zv (Zan (Zca (Zbb (Zct (JT.val (ZbO (nm_built clr (by k_is) (by boot_by_name) (by decide) rfl rfl rfl rfl rfl) (nm_built clr (by k_is) (by boot_by_name) (by decide) rfl rfl rfl rfl rfl) (.inr (.inr (.inr rfl))) (Ze (rd_loc (by rfl) rfl rfl rfl))))) (Zbb (Zal (Zbu (nm_built clr (by k_is) (by boot_by_name) (by decide) rfl rfl rfl rfl rfl) (Zf (Ze (rd_loc (by rfl) rfl rfl rfl)) Zq) ZbR) (J.int _ _ _) ok_ne) (Zbb (Zct (JT.val (ZG clr (nm_def clr (by k_is) rfl rfl rfl rfl) (by k_is) Zgg (by omega) (by omega) (Zf (ZB (Ze (rd_loc (by rfl) rfl rfl rfl)) (J.int _ _ _)) Zq)))) (Zbb (Zct (JT.val (ZG clr (nm_def clr (by k_is) rfl rfl rfl rfl) (by k_is) Zgg (by omega) (by omega) (Zf (ZB (Ze (rd_loc (by rfl) rfl rfl rfl)) (J.int _ _ _)) Zq)))) Zdg))))) (ZC (ZU (J.bool _ _ _))) Zat) (Zv (Zan (Zca (Zbb (Zct (JT.val (ZbO (nm_built clr (by k_is) (by boot_by_name) (by decide) rfl rfl rfl rfl rfl) (nm_built clr (by k_is) (by boot_by_name) (by decide) rfl rfl rfl rfl rfl) (.inr (.inr (.inr rfl))) (ZB (Ze (rd_loc (by rfl) rfl rfl rfl)) (J.int _ _ _))))) (Zbb (Zal (Zbu (nm_built clr (by k_is) (by boot_by_name) (by decide) rfl rfl rfl rfl rfl) (Zf (ZB (Ze (rd_loc (by rfl) rfl rfl rfl)) (J.int _ _ _)) Zq) ZbR) (J.int _ _ _) Zek) (Zbb (Zct (JT.val (ZbO (nm_built clr (by k_is) (by boot_by_name) (by decide) rfl rfl rfl rfl rfl) (nm_built clr (by k_is) (by boot_by_name) (by decide) rfl rfl rfl rfl rfl) (.inr (.inr (.inl rfl))) (ZB (ZB (Ze (rd_loc (by rfl) rfl rfl rfl)) (J.int _ _ _)) (J.int _ _ _))))) Zdg)))) (ZC (ZU (J.bool _ _ _))) Zat) (ZC (ZbS (sto_loc (by decide) (by rfl) rfl rfl) (JI.seq (ZP (ZB (ZB (Ze (rd_loc (by rfl) rfl rfl rfl)) (J.int _ _ _)) (J.int _ _ _)) (Zg9 (nm_built clr (by k_is) (by boot_by_name) (by decide) rfl rfl rfl rfl rfl) (Zf (ZlY (ZB (Ze (rd_loc (by rfl) rfl rfl rfl)) (J.int _ _ _)) (J.int _ _ _)) Zq) ZkF) Zax)) (ZC (Zan (Zct (JT.val (ZG clr (nm_def clr (by k_is) rfl rfl rfl rfl) (by k_is) Zgg (by omega) (by omega) (Zf (Ze (rd_loc (by rfl) rfl rfl rfl)) Zq)))) (ZC (ZU (J.bool _ _ _))) Zat))))))) (ZC (ZU (Zji (Ze (rd_loc (by rfl) rfl rfl rfl)) (Ze (rd_loc (by rfl) rfl rfl rfl)) ok_eq)))))
end
end L
end
section
open PySem PySem.W PySem.Calls PyProof.Rows PM
open L
seal PySem.wpAny PM.J PM.Js PM.JT PM.JA PM.JF PM.JI PM.JI2 PM.JP PM.S1 PM.Ss PM.Sto PM.Rd PM.Nm PM.OpN PM.Op2 PM.Def
theorem PySem.Challenge.cw_seer_k74_sayings_holds : PySem.Challenge.rw_seer_k74_sayings.Holds :=
 head (by
  w_strict (k_go0;(rename Well _ _ _ _=>w9);(rename Frag.In _ _=>kx9);(rename Top _ _ _ _ _ _=>t9);(rename Fr _ _ _ _=>f9);(rename News _ _ _ _=>n9);(rename (PyData.layable0 _=true)=>hl9);(obtain⟨H9,e9⟩:=L.ZjW (by omega) hl9);(refine' PM.Zk2 (names:=[Str.ofString "_law_script",Str.ofString "_law_kept",Str.ofString "_law_program_here",Str.ofString "_law_due_here",Str.ofString "_law_came",Str.ofString "_law_one"]) (g:=Zg6) (room:=55) ?hb ?h1 ?h2 ?h3 ?h4 ?hc ?hl kx9 t9 w9 ?len f9 n9 e9 ?post);(case h1=>decide);(case h2=>decide);(case h3=>rfl);(case h4=>rfl);(case hc=>(intro n;rfl));(case hl=>rfl);(case len=>(rw[PM.Zas];omega));(case hb=>(intro dp un gd L a ccd outer h₀ hu clr hd1 hu1;exact(Zv (ZV (sto_loc (by decide) (by rfl) rfl rfl) (ZG clr (nm_def clr (by k_is) rfl rfl rfl rfl) (by k_is) law_program_v74_d (by omega) (by omega) (Zf (J.list (Zf (Zlb (Ze (rd_loc (by rfl) rfl rfl rfl)) JP.none (JP.some (J.int _ _ _))) (Zf (J.int _ _ _) Zq))) Zq))) (Zv (ZV (sto_loc (by decide) (by rfl) rfl rfl) (ZG clr (nm_def clr (by k_is) rfl rfl rfl rfl) (by k_is) law_copy_v61_d (by omega) (by omega) (Zf (Ze (rd_loc (by rfl) rfl rfl rfl)) Zq))) (Zv (ZV (sto_loc (by decide) (by rfl) rfl rfl) (ZG clr (nm_def clr (by k_is) rfl rfl rfl rfl) (by k_is) law_due_v74_d (by omega) (by omega) (Zf (Ze (rd_loc (by rfl) rfl rfl rfl)) Zq))) (Zv (ZV (sto_loc (by decide) (by rfl) rfl rfl) (ZG clr (nm_def clr (by k_is) rfl rfl rfl rfl) (by k_is) sayings_d (by omega) (by omega) (Zf (Ze (rd_loc (by rfl) rfl rfl rfl)) Zq))) (Zv (Zan (Zca (Zbb (Zct (JT.val (ZG clr (nm_def clr (by k_is) rfl rfl rfl rfl) (by k_is) law_alike_v74_d (by omega) (by omega) (Zf (Ze (rd_loc (by rfl) rfl rfl rfl)) (Zf (Ze (rd_loc (by rfl) rfl rfl rfl)) Zq))))) (Zbb (Zal (Ze (rd_loc (by rfl) rfl rfl rfl)) (Ze (rd_loc (by rfl) rfl rfl rfl)) ok_ne) Zdg))) (ZC (ZU (J.bool _ _ _))) Zat) (Zv (ZbS (sto_loc (by decide) (by rfl) rfl rfl) (JI.seq (Ze (rd_loc (by rfl) rfl rfl rfl))) (Zv (S1.put (J.int _ _ _) (ZB (ZB (Ze (rd_loc (by rfl) rfl rfl rfl)) (J.int _ _ _)) (J.int _ _ _)) (J.int _ _ _)) (ZC (Za2 (J.append (ZB (ZB (Ze (rd_loc (by rfl) rfl rfl rfl)) (J.int _ _ _)) (J.int _ _ _)) (J.int _ _ _)))))) (Zv (Za2 (J.append (Ze (rd_loc (by rfl) rfl rfl rfl)) (J.none _ _))) (ZC (ZU (Zjj (Zji (Ze (rd_loc (by rfl) rfl rfl rfl)) (Ze (rd_loc (by rfl) rfl rfl rfl)) ok_eq) (ZG clr (nm_def clr (by k_is) rfl rfl rfl rfl) (by k_is) law_alike_v74_d (by omega) (by omega) (Zf (ZG clr (nm_def clr (by k_is) rfl rfl rfl rfl) (by k_is) sayings_d (by omega) (by omega) (Zf (Ze (rd_loc (by rfl) rfl rfl rfl)) Zq)) (Zf (Ze (rd_loc (by rfl) rfl rfl rfl)) Zq)))))))))))))));(case post=>(intro h' tk' m' F';k_steps)))
  )
end
